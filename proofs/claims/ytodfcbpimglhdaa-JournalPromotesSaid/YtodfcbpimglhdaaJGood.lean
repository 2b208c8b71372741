/- Journals on a device, in plain lists: what lies there when all is well; what a slot and a head are when they are torn; what is found and done by Open. -/
import Derived.Test.YtodfcbpimglhdaaJRedo
import Derived.Test.YtodfcbpimglhdaaJOpen
namespace Go.Proofs.Ytodfcbpimglhdaa
open Go.RowKit
open Fr (bs fixL nmAt headB topL unp WrOk packL)

abbrev Wr := Int × ByteArray
/-- A block of a disk. -/
def gd (d : List ByteArray) (b : Nat) : ByteArray := d.getD b ByteArray.empty
def natW (W : List Wr) : List (Nat × ByteArray) := W.map fun x => (x.1.toNat, x.2)

section lay
variable {f : Nat → Nat} {P Q : List (Nat × ByteArray)} {disk : List ByteArray}
theorem laid_left (k : Nat) (hk : k ≤ P.length) : laidTo f (P ++ Q) disk k = laidTo f P disk k := by
  induction k with
  | zero => rfl
  | succ k ih =>
    rw [laidTo_succ f (P ++ Q) disk k (by rw [List.length_append]; omega), laidTo_succ f P disk k (by omega), ih (by omega), List.getElem_append_left (by omega)]
theorem laid_snoc (x : Nat × ByteArray) : laidTo f (P ++ [x]) disk (P ++ [x]).length = layOne (laidTo f P disk P.length) x (f P.length) := by
  rw [show (P ++ [x]).length = P.length + 1 by simp, laidTo_succ f (P ++ [x]) disk P.length (by simp), laid_left _ (Nat.le_refl _)]
  congr 1
  simp
theorem gd_layOne (d : List ByteArray) (x : Nat × ByteArray) (m b : Nat) (h : x.1 ≠ b) : gd (layOne d x m) b = gd d b := by
  unfold gd layOne; simp [List.getD, h]
theorem laid_other (b k : Nat) (h : ∀ x ∈ P, x.1 ≠ b) : gd (laidTo f P disk k) b = gd disk b := by
  induction k with
  | zero => rfl
  | succ k ih =>
    by_cases hk : k < P.length
    · rw [laidTo_succ f P disk k hk, gd_layOne _ _ _ _ (h _ (List.getElem_mem hk)), ih]
    · have e : laidTo f P disk (k + 1) = laidTo f P disk k := by rw [laidTo]; simp [List.getElem?_eq_none (Nat.le_of_not_lt hk)]
      rw [e, ih]
theorem laid_one (b : Nat) (x : ByteArray) (h : ∀ y ∈ P, y.1 ≠ b) (hb : b < disk.length) : gd (laidTo f (P ++ [(b, x)]) disk (P ++ [(b, x)]).length) b = layB x (gd disk b) (f P.length) := by
  rw [laid_snoc]
  have e := laid_other (f := f) (disk := disk) b P.length h
  unfold gd layOne at *
  rw [e]
  simp [List.getD, laidTo_length, hb]
end lay

theorem DevS.Ok.flushed {D : DevS} (ok : D.Ok) (b : Nat) (hb : b < D.disk.length) : gd (laidTo (fun _ => 256) D.pend D.disk D.pend.length) b = D.rdB b := by
  have := (laidTo_get (fun _ => 256) D.pend D.disk D.pend.length b (Nat.le_refl _) (fun _ _ => rfl) hb ok.whole ok.pends).1
  unfold gd DevS.rdB
  rw [this, List.take_length]
  rfl
theorem rdB_none {D : DevS} (b : Nat) (h : ∀ x ∈ D.pend, x.1 ≠ b) : D.rdB b = gd D.disk b := by
  unfold DevS.rdB gd
  have : D.pend.reverse.find? (fun x => x.1 == b) = none := by
    rw [List.find?_eq_none]; intro x hx; have := h x (List.mem_reverse.1 hx); simpa using this
  rw [this]

/-! ### What a device does with writes -/
/-- Writes that the device takes. -/
def Fit (n : Nat) (W : List Wr) : Prop := ∀ x ∈ W, 0 ≤ x.1 ∧ x.1 < n ∧ x.2.size = 256
theorem natW_append (A B : List Wr) : natW (A ++ B) = natW A ++ natW B := by unfold natW; rw [List.map_append]

/-- Behind writes: all are pending and the power is there, or some first ones are and it is gone. -/
structure Wrote (D D' : DevS) (W : List Wr) (e : Int) (k : Nat) : Prop where
  le : k ≤ W.length
  disk : D'.disk = D.disk
  pend : D'.pend = D.pend ++ natW (W.take k)
  how : (e = 0 ∧ k = W.length ∧ D'.dead = false) ∨ (e = 4 ∧ D'.dead = true)
theorem wr_cases (D : DevS) (hde : D.dead = false) (x : Wr) (h : 0 ≤ x.1 ∧ x.1 < D.disk.length ∧ x.2.size = 256) : ∃ k, Wrote D (D.wr x.1 x.2).2 [x] (D.wr x.1 x.2).1 k := by
  have hck : D.ck x.1 = 0 := by unfold DevS.ck; rw [hde]; simp; omega
  by_cases ht : D.tk.1 = false
  · have e : D.wr x.1 x.2 = (4, D.tk.2) := by unfold DevS.wr; simp [hck, h.2.2, ht]
    rw [e]
    refine ⟨0, Nat.zero_le _, D.tk_disk, by simp [D.tk_pend, natW], .inr ⟨rfl, ?_⟩⟩
    unfold DevS.tk at ht ⊢
    split
    · rename_i h1; rw [if_pos h1] at ht; cases ht
    · split
      · rfl
      · rename_i h1 h2; rw [if_neg h1, if_neg h2] at ht; cases ht
  · have ht' : D.tk.1 = true := by simpa using ht
    have e : D.wr x.1 x.2 = (0, { D.tk.2 with pend := D.pend ++ [(x.1.toNat, x.2)] }) := by unfold DevS.wr; simp [hck, h.2.2, ht]
    rw [e]
    exact ⟨1, Nat.le_refl _, D.tk_disk, by simp [natW], .inl ⟨rfl, rfl, by show D.tk.2.dead = false; rw [D.tk_dead ht', hde]⟩⟩
theorem wrs_cases (W : List Wr) : ∀ (D : DevS), D.dead = false → Fit D.disk.length W → ∃ k, Wrote D (D.wrs W).2 W (D.wrs W).1 k := by
  induction W with
  | nil => intro D hde _; exact ⟨0, Nat.le_refl _, rfl, by simp [natW, DevS.wrs], .inl ⟨rfl, rfl, hde⟩⟩
  | cons x r ih =>
    intro D hde hf
    obtain ⟨k, hk⟩ := wr_cases D hde x (hf x (List.mem_cons_self ..))
    unfold DevS.wrs
    rcases hk.how with ⟨h0, h1, h2⟩ | ⟨h0, h1⟩
    · rw [if_neg (by rw [h0]; simp)]
      obtain ⟨k', hk'⟩ := ih (D.wr x.1 x.2).2 h2 (fun y hy => by rw [hk.disk]; exact hf y (List.mem_cons_of_mem _ hy))
      have e1 : (D.wr x.1 x.2).2.pend = D.pend ++ natW [x] := by rw [hk.pend, h1]; rfl
      refine ⟨k' + 1, by simpa using hk'.le, hk'.disk.trans hk.disk, ?_, ?_⟩
      · rw [hk'.pend, e1, List.take_succ_cons, List.append_assoc, ← natW_append]; rfl
      · rcases hk'.how with ⟨a, b, c⟩ | ⟨a, b⟩
        · exact .inl ⟨a, by rw [b]; rfl, c⟩
        · exact .inr ⟨a, b⟩
    · rw [if_pos (by rw [h0]; simp)]
      refine ⟨0, Nat.zero_le _, hk.disk, ?_, .inr ⟨h0, h1⟩⟩
      have : k = 0 ∨ k = 1 := by have := hk.le; simp at this; omega
      rcases this with rfl | rfl
      · rw [hk.pend]; simp [natW]
      · exfalso
        have hw := hk.pend
        have : (D.wr x.1 x.2).2.pend.length ≤ D.pend.length := by
          unfold DevS.wr at h0 ⊢
          split
          · exact Nat.le_refl _
          · split
            · exact Nat.le_refl _
            · split
              · rw [DevS.tk_pend]; exact Nat.le_refl _
              · rename_i a b c; rw [if_neg a, if_neg b, if_neg c] at h0; cases h0
        rw [hw] at this
        simp [natW] at this
        omega
theorem fl_cases (D : DevS) : (D.fl.1 = 0 ∧ D.fl.2.dead = false ∧ D.fl.2.disk = laidTo (fun _ => 256) D.pend D.disk D.pend.length ∧ D.fl.2.pend = []) ∨ (D.fl.1 = 4 ∧ D.fl.2.dead = true ∧ D.fl.2.disk = D.disk ∧ D.fl.2.pend = D.pend) := by
  by_cases hd : D.dead = true
  · have e : D.fl = (4, D) := by unfold DevS.fl; rw [if_pos hd]
    rw [e]; exact .inr ⟨rfl, hd, rfl, rfl⟩
  · by_cases ht : D.tk.1 = false
    · have e : D.fl = (4, D.tk.2) := by unfold DevS.fl; rw [if_neg hd, if_pos ht]
      rw [e]
      refine .inr ⟨rfl, ?_, D.tk_disk, D.tk_pend⟩
      unfold DevS.tk at ht ⊢
      split
      · rename_i h1; rw [if_pos h1] at ht; cases ht
      · split
        · rfl
        · rename_i h1 h2; rw [if_neg h1, if_neg h2] at ht; cases ht
    · have e : D.fl = (0, { D.tk.2 with disk := laidTo (fun _ => 256) D.pend D.disk D.pend.length, pend := [] }) := by unfold DevS.fl; rw [if_neg hd, if_neg ht]
      rw [e]
      exact .inl ⟨rfl, by show D.tk.2.dead = false; rw [D.tk_dead (by simpa using ht)]; simpa using hd, rfl, rfl⟩
/-- Behind writes and a flush. -/
theorem stl_cases (D : DevS) (W : List Wr) (hde : D.dead = false) (hf : Fit D.disk.length W) :
    ((D.stl W).1 = 0 ∧ (D.stl W).2.dead = false ∧ (D.stl W).2.disk = laidTo (fun _ => 256) (D.pend ++ natW W) D.disk (D.pend ++ natW W).length ∧ (D.stl W).2.pend = []) ∨
    ((D.stl W).1 = 4 ∧ (D.stl W).2.dead = true ∧ (D.stl W).2.disk = D.disk ∧ ∃ k, k ≤ W.length ∧ (D.stl W).2.pend = D.pend ++ natW (W.take k)) := by
  obtain ⟨k, hk⟩ := wrs_cases W D hde hf
  unfold DevS.stl
  rcases hk.how with ⟨h0, h1, h2⟩ | ⟨h0, h1⟩
  · rw [if_neg (by rw [h0]; simp)]
    have e : (D.wrs W).2.pend = D.pend ++ natW W := by rw [hk.pend, h1, List.take_length]
    rcases fl_cases (D.wrs W).2 with ⟨a, b, c, d⟩ | ⟨a, b, c, d⟩
    · exact .inl ⟨a, b, by rw [c, e, hk.disk], d⟩
    · exact .inr ⟨a, b, by rw [c, hk.disk], W.length, Nat.le_refl _, by rw [d, e, List.take_length]⟩
  · rw [if_pos (by rw [h0]; simp)]
    exact .inr ⟨h0, h1, hk.disk, k, hk.le, hk.pend⟩

/-! ### Slots -/
theorem layB_list (x old : ByteArray) (m : Nat) : (layB x old m).data.toList = x.data.toList.take m ++ old.data.toList.drop m := by
  unfold layB
  rw [ByteArray.data_append, Array.toList_append, ByteArray.data_extract, ByteArray.data_extract, Array.toList_extract, Array.toList_extract]
  simp only [List.extract_eq_take_drop, List.drop_zero, Nat.sub_zero]
  congr 1
  apply List.take_of_length_le
  simp
theorem half_at (e s log p : Nat) (he : e < 18446744073709551616) (hs : s < 18446744073709551616) (hl : log < 4294967296) (hp : p < 4294967296) (Z : List UInt8) :
    wideAt (halfL e s log p ++ Z) 4 = e ∧ wideAt (halfL e s log p ++ Z) 12 = s ∧ nmAt (halfL e s log p ++ Z) 20 = log ∧ nmAt (halfL e s log p ++ Z) 24 = p := by
  have hA : halfL e s log p ++ Z = [67, 68, 88, 83] ++ (fixL (e % 4294967296) ++ (fixL (e / 4294967296) ++ (fixL (s % 4294967296) ++ (fixL (s / 4294967296) ++ (fixL log ++ (fixL p ++ (List.replicate 100 0 ++ Z))))))) := by
    unfold halfL; simp only [List.append_assoc]
  rw [hA]
  have st (A B : List UInt8) (i : Nat) (h : A.length = 4) : nmAt (A ++ B) (4 + i) = nmAt B i := by rw [← h]; exact Fr.nmAt_right A B i
  have f (v : Nat) (B : List UInt8) (i : Nat) : nmAt (fixL v ++ B) (4 + i) = nmAt B i := st _ _ _ (Fr.fixL_len v)
  refine ⟨?_, ?_, ?_, ?_⟩
  · unfold wideAt
    rw [show (4 : Nat) = 4 + 0 from rfl, st _ _ 0 rfl, Fr.nmAt_fix _ _ (by omega), show (4 + 0 + (4 + 0) : Nat) = 4 + (4 + 0) from rfl, st _ _ _ rfl, f, Fr.nmAt_fix _ _ (by omega)]
    omega
  · unfold wideAt
    rw [show (12 : Nat) = 4 + (4 + (4 + 0)) from rfl, st _ _ _ rfl, f, f, Fr.nmAt_fix _ _ (by omega), show (4 + (4 + (4 + 0)) + 4 : Nat) = 4 + (4 + (4 + (4 + 0))) from rfl, st _ _ _ rfl, f, f, f, Fr.nmAt_fix _ _ (by omega)]
    omega
  · rw [show (20 : Nat) = 4 + (4 + (4 + (4 + (4 + 0)))) from rfl, st _ _ _ rfl, f, f, f, f, Fr.nmAt_fix _ _ (by omega)]
  · rw [show (24 : Nat) = 4 + (4 + (4 + (4 + (4 + (4 + 0))))) from rfl, st _ _ _ rfl, f, f, f, f, f, Fr.nmAt_fix _ _ (by omega)]
theorem rdSlot_slotB (e s log p n : Nat) (he : e < 18446744073709551616) (hs : s < 18446744073709551616) (h1 : 50 ≤ log) (h2 : log + 3 ≤ n) (hn : n ≤ 4096) (hp : p < log) : rdSlot (slotB e s log p) n = some (e, s, log, p) := by
  obtain ⟨a, b, c, d⟩ := half_at e s log p he hs (by omega) (by omega) (halfL e s log p)
  have hl : (slotB e s log p).data.toList = halfL e s log p ++ halfL e s log p := rfl
  refine (rdSlot_iff _ _ _).2 ?_
  rw [hl, a, b, c, d]
  exact ⟨⟨h1, h2, hp, rfl⟩, rfl⟩
theorem half_inj {e s log p e' s' log' p' : Nat} (he : e < 18446744073709551616) (hs : s < 18446744073709551616) (hl : log < 4294967296) (hp : p < 4294967296)
    (he' : e' < 18446744073709551616) (hs' : s' < 18446744073709551616) (hl' : log' < 4294967296) (hp' : p' < 4294967296) (h : halfL e s log p = halfL e' s' log' p') : e = e' ∧ s = s' ∧ log = log' ∧ p = p' := by
  obtain ⟨a, b, c, d⟩ := half_at e s log p he hs hl hp []
  obtain ⟨a', b', c', d'⟩ := half_at e' s' log' p' he' hs' hl' hp' []
  rw [h] at a b c d
  exact ⟨a.symm.trans a', b.symm.trans b', c.symm.trans c', d.symm.trans d'⟩
/-- A right slot's own bytes. -/
theorem rdSlot_bytes {t : ByteArray} {n : Nat} {x : Nat × Nat × Nat × Nat} (h : rdSlot t n = some x) : t = slotB x.1 x.2.1 x.2.2.1 x.2.2.2 := by
  obtain ⟨⟨_, _, _, h2⟩, rfl⟩ := (rdSlot_iff t n x).1 h
  exact h2
/-- A slot that is torn is whole, or bears another half behind. -/
theorem torn_slot (e s log p n m : Nat) (old : ByteArray) (he : e < 18446744073709551616) (hs : s < 18446744073709551616) (h2 : log + 3 ≤ n) (hn : n ≤ 4096) (hp : p < log) (x : Nat × Nat × Nat × Nat)
    (h : rdSlot (layB (slotB e s log p) old m) n = some x) : x = (e, s, log, p) ∨ old.data.toList.drop 128 = halfL x.1 x.2.1 x.2.2.1 x.2.2.2 := by
  have hx := rdSlot_bytes h
  obtain ⟨x0, x1, x2, x3, x4⟩ := rdSlot_ok h
  obtain ⟨xe, xs, xl, xp⟩ := x
  simp only at hx x0 x1 x2 x3 x4 ⊢
  have hX := congrArg (fun b : ByteArray => b.data.toList) hx
  rw [layB_list] at hX
  have hN : (slotB e s log p).data.toList = halfL e s log p ++ halfL e s log p := rfl
  have hM : (slotB xe xs xl xp).data.toList = halfL xe xs xl xp ++ halfL xe xs xl xp := rfl
  have hlN := halfL_len e s log p
  have hlX := halfL_len xe xs xl xp
  rw [hN, hM] at hX
  by_cases hm : m ≤ 128
  · right
    have := congrArg (List.drop 128) hX
    rw [List.drop_append, List.length_take, List.length_append, hlN, List.drop_left' hlX, List.drop_of_length_le (by rw [List.length_take, List.length_append, hlN]; omega), List.nil_append, List.drop_drop] at this
    rw [← this]; congr 1; omega
  · left
    have := congrArg (List.take 128) hX
    rw [List.take_left' hlX, List.take_append, List.length_take, List.length_append, hlN, List.take_take, show min 128 m = 128 by omega, List.take_left' hlN, show 128 - min m (128 + 128) = 0 by omega, List.take_zero, List.append_nil] at this
    obtain ⟨a, b, c, d⟩ := half_inj he hs (by omega) (by omega) x3 x4 (by omega) (by omega) this
    rw [a, b, c, d]
theorem layB_twice (x old : ByteArray) (m k : Nat) (hx : x.size = 256) (hm : m ≤ 256) : layB x (layB x old m) k = layB x old (max m k) := by
  apply ByteArray.ext
  apply Array.ext'
  rw [layB_list, layB_list, layB_list]
  have hl : x.data.toList.length = 256 := by rw [Fr.str_len, hx]
  rw [List.drop_append, List.length_take, hl, show min m 256 = m by omega]
  by_cases h : m ≤ k
  · rw [show max m k = k by omega, List.drop_of_length_le (by rw [List.length_take]; omega), List.nil_append, List.drop_drop]
    congr 2; omega
  · rw [show max m k = m by omega, show k - m = 0 by omega, List.drop_zero, ← List.append_assoc]
    congr 1
    rw [List.drop_take]
    conv => rhs; rw [show m = k + (m - k) by omega]
    rw [List.take_add]
/-- The block's second half is no slot's of a number that is not less. -/
def Older (o : ByteArray) (e : Nat) : Prop := o.size = 256 ∧ ∀ a b c d, a < 18446744073709551616 → b < 18446744073709551616 → c < 4294967296 → d < 4294967296 → o.data.toList.drop 128 = halfL a b c d → a < e
theorem older_slot (e s log p : Nat) (he : e < 18446744073709551616) (hs : s < 18446744073709551616) (hl : log < 4294967296) (hp : p < 4294967296) : Older (slotB e s log p) (e + 1) := by
  refine ⟨slotB_size _ _ _ _, fun a b c d ha hb hc hd h => ?_⟩
  have hN : (slotB e s log p).data.toList = halfL e s log p ++ halfL e s log p := rfl
  rw [hN, List.drop_left' (halfL_len ..)] at h
  have := (half_inj he hs hl hp ha hb hc hd h).1
  omega
theorem older_noughts (e : Nat) : Older noughts e := by
  refine ⟨noughts_size, fun a b c d _ _ _ _ h => ?_⟩
  have : noughts.data.toList.drop 128 = List.replicate 128 0 := by decide +kernel
  rw [this] at h
  have := congrArg (fun l : List UInt8 => l.getD 0 0) h
  simp [halfL] at this

/-! ### Heads -/
theorem headB_noughts : headB noughts.data.toList = false := by decide +kernel
theorem headB_begin (l : List UInt8) (h : l.getD 0 0 ≠ 67) : headB l = false := by
  cases hb : headB l with
  | false => rfl
  | true =>
    have h2 := ((Fr.headB_iff l).1 hb).2.1
    have := congrArg (fun l : List UInt8 => l.getD 0 0) h2
    simp only [Fr.cdxt] at this
    rw [Fr.getD_take _ _ _ (by omega)] at this
    exact absurd this h
theorem headB_end (l : List UInt8) (h : l.getD 255 0 ≠ 69) : headB l = false := by
  cases hb : headB l with
  | false => rfl
  | true =>
    have h2 := ((Fr.headB_iff l).1 hb).2.2.1
    have := congrArg (fun l : List UInt8 => l.getD 3 0) h2
    simp only [Fr.cdxe] at this
    rw [Fr.getD_drop] at this
    exact absurd this h
theorem noughts_at (i : Nat) : noughts.data.toList.getD i 0 = 0 := by
  have : noughts.data.toList = List.replicate 256 0 := by rw [noughts_bs]; rfl
  rw [this]
  simp only [List.getD, List.getElem?_replicate]
  split <;> rfl
theorem drop_getD (l : List UInt8) (k i : Nat) : (l.drop k).getD i 0 = l.getD (k + i) 0 := by simp [List.getD]
/-- A head that is torn, over noughts, is none. -/
theorem torn_head (x : ByteArray) (m : Nat) (hx : x.size = 256) (hm : m < 256) : headB (layB x noughts m).data.toList = false := by
  apply headB_end
  rw [layB_list]
  have hl : (x.data.toList.take m).length = m := by rw [List.length_take, Fr.str_len, hx]; omega
  rw [show (255 : Nat) = (x.data.toList.take m).length + (255 - m) by omega, Fr.getD_right, drop_getD, noughts_at]
  decide
/-- Noughts that are torn, over what is no head, are none. -/
theorem torn_noughts (old : ByteArray) (m : Nat) (h : headB old.data.toList = false) : headB (layB noughts old m).data.toList = false := by
  cases m with
  | zero => rw [layB_none]; exact h
  | succ m =>
    apply headB_begin
    rw [layB_list]
    rw [Fr.getD_left _ _ _ (by rw [List.length_take, Fr.str_len, noughts_size]; omega), Fr.getD_take _ _ _ (by omega), noughts_at]
    decide
end Go.Proofs.Ytodfcbpimglhdaa
