/- What settle leaves behind for every device and every function value that answers numbers up to 256: the pending writes laid on the blocks in order, then none pending. -/
import Derived.Test.YtodfcbpimglhdaaCalls2
import Derived.BigRegion
import Derived.Deep.LoopGhost
import Derived.Shelf.Abstract
namespace Go.Proofs.Ytodfcbpimglhdaa
open Go.RowKit

/-- The first m bytes of x laid over old. -/
def layB (x old : ByteArray) (m : Nat) : ByteArray := x.extract 0 m ++ old.extract m old.size
def layOne (d : List ByteArray) (x : Nat × ByteArray) (m : Nat) : List ByteArray := d.set x.1 (layB x.2 (d.getD x.1 ByteArray.empty) m)
/-- The blocks behind the first k of the pending writes: of the j-th f j bytes are laid. -/
def laidTo (f : Nat → Nat) (pend : List (Nat × ByteArray)) (disk : List ByteArray) : Nat → List ByteArray
  | 0 => disk
  | k + 1 => match pend[k]? with
    | some x => layOne (laidTo f pend disk k) x (f k)
    | none => laidTo f pend disk k

theorem getD_lt (l : List ByteArray) (i : Nat) (h : i < l.length) : l.getD i ByteArray.empty = l[i] := by simp [List.getD, h]
theorem layB_size (x old : ByteArray) (m : Nat) (hx : x.size = 256) (ho : old.size = 256) (hm : m ≤ 256) : (layB x old m).size = 256 := by
  simp [layB, hx, ho]; omega
theorem layOne_length (d : List ByteArray) (x : Nat × ByteArray) (m : Nat) : (layOne d x m).length = d.length := by simp [layOne]
theorem laidTo_length (f : Nat → Nat) (pend : List (Nat × ByteArray)) (disk : List ByteArray) (k : Nat) : (laidTo f pend disk k).length = disk.length := by
  induction k with
  | zero => rfl
  | succ k ih =>
    unfold laidTo; split
    · rw [layOne_length, ih]
    · exact ih
theorem laidTo_succ (f : Nat → Nat) (pend : List (Nat × ByteArray)) (disk : List ByteArray) (k : Nat) (h : k < pend.length) : laidTo f pend disk (k + 1) = layOne (laidTo f pend disk k) pend[k] (f k) := by
  rw [laidTo]; simp [List.getElem?_eq_getElem h]

theorem DevS.Ok.laid {D : DevS} (ok : D.Ok) (f : Nat → Nat) (hf : ∀ k, k < D.pend.length → f k ≤ 256) (k : Nat) : ({ D with disk := laidTo f D.pend D.disk k } : DevS).Ok := by
  refine ⟨by simp [laidTo_length]; exact ok.some, by simp [laidTo_length]; exact ok.few, ?_, by simp only [laidTo_length]; exact ok.pends, ok.fuse0, ok.fuse1⟩
  induction k with
  | zero => exact ok.whole
  | succ k ih =>
    intro s hs
    by_cases hk : k < D.pend.length
    · have hp := ok.pends D.pend[k] (List.getElem_mem hk)
      simp only at hs ih
      rw [laidTo_succ f D.pend D.disk k hk] at hs
      unfold layOne at hs
      rcases List.mem_or_eq_of_mem_set hs with h | h
      · exact ih s h
      · subst h
        refine layB_size _ _ _ hp.2 ?_ (hf k hk)
        have hl : D.pend[k].1 < (laidTo f D.pend D.disk k).length := by rw [laidTo_length]; exact hp.1
        rw [getD_lt _ _ hl]
        exact ih _ (List.getElem_mem hl)
    · have e : laidTo f D.pend D.disk (k + 1) = laidTo f D.pend D.disk k := by rw [laidTo]; simp [List.getElem?_eq_none (Nat.le_of_not_lt hk)]
      simp only [e] at hs
      exact ih s hs

section
variable {S : Nat → Prop} {w : World} {p q : Nat} {pv : Value} {D : DevS}

/-- One block is written anew. -/
theorem Dev.lay (d : Dev S w p q pv D) (b : Nat) (s : ByteArray) (hs : s.size = 256) : Dev S (w.setCell ⟨q, b, none⟩ (.string s)) p q pv { D with disk := D.disk.set b s } := by
  refine ⟨⟨by simpa using d.ok.some, by simpa using d.ok.few, ?_, by simpa using d.ok.pends, d.ok.fuse0, d.ok.fuse1⟩, ?_, ?_, ?_, d.pq, d.rp, d.rq, d.sp, d.sq, d.sr, fun k hk => by simpa [World.setCell] using d.lt k hk⟩
  · intro u hu
    rcases List.mem_or_eq_of_mem_set hu with h | h
    · exact d.ok.whole u h
    · rw [h]; exact hs
  · rw [Below.heap_setCell _ _ _ _ d.pq, List.length_set]; exact d.hp
  · rw [heap_setCell_at d.hq]; simp [List.map_set]
  · exact ownsRow_setCell_other d.hr (by simpa using d.rq) _

theorem Dev.cq (d : Dev S w p q pv D) (b : Nat) (hb : b < D.disk.length) : w.cell? ⟨q, b, none⟩ = some (.string (D.disk.getD b ByteArray.empty)) := by
  rw [cell_at d.hq]; simp [hb]
theorem Dev.cr {r n cap : Nat} (d : Dev S w p q (.slice (some ⟨r, 0, none⟩) n cap) D) (k : Nat) (hk : k < D.pend.length) :
    w.cell? ⟨r, k * 2, none⟩ = some (.int .i64 (D.pend[k]).1) ∧ w.cell? ⟨r, k * 2 + 1, none⟩ = some (.string (D.pend[k]).2) := by
  have h := d.hr.cells (g := r) rfl
  have hadd : ∀ j, (⟨r, 0, none⟩ : Addr).add j = ⟨r, j, none⟩ := fun j => by unfold Addr.add; split <;> simp_all
  have h0 := h (k * 2) _ (flatW_fst D.pend k hk)
  have h1 := h (k * 2 + 1) _ (flatW_snd D.pend k hk)
  rw [hadd] at h0 h1
  exact ⟨h0, h1⟩

/-- Nothing is pending any more. -/
theorem Dev.emptied (d : Dev S w p q pv D) : Dev S (w.setCell ⟨p, 1, none⟩ (.slice none 0 0)) p q (.slice none 0 0) { D with pend := [] } :=
  d.put 1 _ _ _ ⟨d.ok.some, d.ok.few, d.ok.whole, (fun x h => by cases h), d.ok.fuse0, d.ok.fuse1⟩ rfl rfl (World.ownsRow_nil _ _ _ _) (by simp [Value.ownBlock]) (by simp [Value.ownBlock]) (fun k hk => by simp [Value.ownBlock] at hk)

set_option maxRecDepth 100000 in
set_option maxHeartbeats 1000000 in
theorem settle_none (fv : Value) (d : Dev S w p q (.slice none 0 0) D) :
    Calls Try.prog 65 #[.pointer (some ⟨p, 0, none⟩), fv] w fun e w' => e = .returned (.tuple #[]) ∧ Dev S w' p q (.slice none 0 0) { D with pend := [] } ∧ Only S w w' := by
  have c1 := d.c1; have f1 := d.f 1
  have HD := Lib.hid d; clear d
  go_enter Try.func65, Try.ntmps65
  go_wp2_with fail
  go_loopw [12] (fun i wr => i = .int .i64 0 ∧ wr = w) (fun _ _ => 0)
  case atStart => exact ⟨rfl, rfl⟩
  case round =>
    obtain ⟨rfl, rfl⟩ := hrel
    go_wp2
    go_end0
    exact ⟨rfl, HD.out.emptied, (Only.refl _ _).setCell (fun _ => HD.out.sp) _⟩

set_option maxRecDepth 100000 in
set_option maxHeartbeats 1000000 in
theorem settle_some (g : FuncId) (cb : Array Value) (f : Nat → Nat) (n cap r : Nat) (hn : D.pend.length = n) (hb : n ≤ 1000000) (hf : ∀ k, k < n → f k ≤ 256) (d : Dev S w p q (.slice (some ⟨r, 0, none⟩) n cap) D)
    (eg : ∀ args w, (callFunc g args).run Try.prog w = .ok (.enter g args) w)
    (hcall : ∀ (k : Nat) (W : World), k < n → Only S w W → Calls Try.prog g (#[.int .i64 k] ++ cb) W fun e w' => e = .returned (.int .i64 (f k)) ∧ W = w') :
    Calls Try.prog 65 #[.pointer (some ⟨p, 0, none⟩), .func (.func g) #[] cb] w fun e w' => e = .returned (.tuple #[]) ∧ Dev S w' p q (.slice none 0 0) { D with disk := laidTo f D.pend D.disk n, pend := [] } ∧ Only S w w' := by
  have HC := Lib.hid hcall; clear hcall
  have HF := Lib.hid hf; clear hf
  have HN := Lib.hid hn; clear hn
  have c1 := d.c1
  have HD := Lib.hid d; clear d
  go_enter Try.func65, Try.ntmps65
  go_wp2_with fail
  go_loopw [12] (fun i wr => ∃ k : Nat, k ≤ n ∧ i = .int .i64 k ∧ Hid (Dev S wr p q (.slice (some ⟨r, 0, none⟩) n cap) { D with disk := laidTo f D.pend D.disk k } ∧ Only S w wr)) (fun i _ => n - (intOf i).toNat)
  case atStart => exact ⟨0, Nat.zero_le _, rfl, HD.out, Only.refl _ _⟩
  case round =>
    clear c1
    obtain ⟨k, hk, rfl, HI⟩ := hrel
    have c1 := HI.out.1.c1
    by_cases hlt : k < n
    · have hkp : k < D.pend.length := by rw [HN.out]; exact hlt
      have c0 := HI.out.1.c0
      simp only [laidTo_length] at c0
      obtain ⟨d0, d1⟩ := HI.out.1.cr k hkp
      simp only at d0 d1
      have hpd := HD.out.ok.pends D.pend[k] (List.getElem_mem hkp)
      have hbl : D.pend[k].1 < (laidTo f D.pend D.disk k).length := by rw [laidTo_length]; exact hpd.1
      have e0 := HI.out.1.cq D.pend[k].1 hbl
      have e0f : wr.frozen? ⟨q, D.pend[k].1, none⟩ = false := free_at HI.out.1.hq _
      have ho : ((laidTo f D.pend D.disk k).getD D.pend[k].1 ByteArray.empty).size = 256 := by
        rw [getD_lt _ _ hbl]; exact HI.out.1.ok.whole _ (List.getElem_mem hbl)
      have hm : f k ≤ 256 := HF.out k hlt
      have hcall := HC.out k (wr.alloc (.cells #[.int .i64 D.pend[k].1, .string D.pend[k].2] 71)) hlt (HI.out.2.alloc _)
      have lp := HI.out.1.lt p HI.out.1.sp
      have lq := HI.out.1.lt q HI.out.1.sq
      have hpq := HI.out.1.pq
      have HX : Hid (∀ W, Dev S W p q (.slice (some ⟨r, 0, none⟩) n cap) { D with disk := (laidTo f D.pend D.disk k).set D.pend[k].1 (layB D.pend[k].2 ((laidTo f D.pend D.disk k).getD D.pend[k].1 ByteArray.empty) (f k)) } → Dev S W p q (.slice (some ⟨r, 0, none⟩) n cap) { D with disk := laidTo f D.pend D.disk (k + 1) }) := by
        intro W h; rw [laidTo_succ f D.pend D.disk k hkp]; exact h
      have HS : Hid ((layB D.pend[k].2 ((laidTo f D.pend D.disk k).getD D.pend[k].1 ByteArray.empty) (f k)).size = 256) := layB_size _ _ _ hpd.2 ho hm
      have HL := Lib.hid (HI.out.1.lay D.pend[k].1 _ HS.out)
      have hd256 := hpd.2
      have hbD := hpd.1
      clear hpd hbl
      simp only at HL e0
      generalize (laidTo f D.pend D.disk k).getD D.pend[k].1 ByteArray.empty = old at *
      generalize D.pend[k] = x at *
      clear hkp
      obtain ⟨b, data⟩ := x
      simp only at *
      generalize f k = m at *
      have hs1 : data.size ≤ 256 := by omega
      have hs2 : 256 ≤ data.size := by omega
      have hs3 : old.size ≤ 256 := by omega
      have hs4 : 256 ≤ old.size := by omega
      clear hd256 ho
      have hm1 : m ≤ data.size := by omega
      have hm2 : m ≤ old.size := by omega
      have HC2 := Lib.hid hcall; clear hcall
      go_wp2_with fail
      refine HC2.out.mono ?_
      rintro e w1 ⟨rfl, rfl⟩
      go_wp2
      go_region
      go_wp2
      go_roundw
      case rel =>
        have hkeep : Only (fun _ => False) (wr.setCell ⟨q, b, none⟩ (.string (layB data old m))) (((wr.setCell ⟨q, b, none⟩ (.string (layB data old m))).alloc (.cells #[.int .i64 b, .string data] 71)).drew) := ((Only.refl _ _).alloc _).drew
        exact ⟨k + 1, by omega, by go_num, HX.out _ (HL.out.kept hkeep (fun _ _ h => h)), ((HI.out.2.setCell (fun _ => HI.out.1.sq) _).alloc _).drew⟩
      case measure => simp [intOf]; omega
    · have : k = n := by omega
      subst this
      have f1 := HI.out.1.f 1
      go_wp2
      go_end0
      exact ⟨rfl, HI.out.1.emptied, HI.out.2.setCell (fun _ => HI.out.1.sp) _⟩

end
end Go.Proofs.Ytodfcbpimglhdaa
