/- What Open answers and leaves behind, for every device. -/
import Derived.Test.YtpoekkclkohanaaZJNext
import Derived.Test.YtpoekkclkohanaaZJRedo

namespace Go.Proofs.Ytpoekkclkohanaa
open Go.RowKit

section
variable {S : Nat → Prop} {w w' : World} {a p : Nat} {J : JS} {D : DevS}

/-- What Open leaves: an error and nil, or a new journal. -/
def Opened (t : TypeId) (S : Nat → Prop) (w w' : World) (p : Nat) (r : Int × DevS × Option JS) (e : Ending) : Prop :=
  ∃ S' : Nat → Prop, (∀ k, S' k → S k ∨ w.heap.size ≤ k) ∧ Stands S' w' p r.2.1 ∧ Only S w w' ∧
    (match r.2.2 with
    | none => e = .returned (.tuple #[.pointer none, .int .i64 r.1])
    | some J => ∃ a, e = .returned (.tuple #[.pointer (some ⟨a, 0, none⟩), .int .i64 r.1]) ∧ w.heap.size ≤ a ∧ ¬ S' a ∧ Jr t w' a p J)

theorem rdSlot_ok {t : ByteArray} {n : Nat} {x : Nat × Nat × Nat × Nat} (h : rdSlot t n = some x) : 50 ≤ x.2.2.1 ∧ x.2.2.1 + 3 ≤ n ∧ x.2.2.2 < x.2.2.1 ∧ x.1 < 18446744073709551616 ∧ x.2.1 < 18446744073709551616 := by
  obtain ⟨⟨h1, h2, h3, _⟩, rfl⟩ := (rdSlot_iff t n x).1 h
  exact ⟨h1, h2, h3, wideAt_lt _ _, wideAt_lt _ _⟩
theorem find_ok (h : D.find = some J) : J.Ok D.disk.length ∧ J.full = 0 := by
  have hs : ∀ i x, i ≤ 1 → D.slotAt i = some x → (slotJ x i).Ok D.disk.length ∧ (slotJ x i).full = 0 := by
    intro i x hi hx
    unfold DevS.slotAt at hx
    split at hx
    · obtain ⟨h1, h2, h3, h4, h5⟩ := rdSlot_ok hx
      exact ⟨⟨h1, h2, h3, hi, Nat.zero_le _, h4, h5, h5⟩, rfl⟩
    · cases hx
  unfold DevS.find at h
  split at h
  · cases h
  · rename_i x h0 h1; cases h; exact hs 0 x (by omega) h0
  · rename_i x h0 h1; cases h; exact hs 1 x (by omega) h1
  · rename_i x y h0 h1
    split at h
    · cases h; exact hs 1 y (by omega) h1
    · cases h; exact hs 0 x (by omega) h0


theorem redoN_keeps (m : Nat) : ∀ (J : JS) (D : DevS), J.Ok D.disk.length → (J.redoN D m).2.1.disk.length = D.disk.length ∧ (J.redoN D m).2.2.Ok D.disk.length ∧ (J.redoN D m).2.1.pend.length + (J.redoN D m).2.2.left ≤ D.pend.length + J.left := by
  induction m with
  | zero => intro J D ok; exact ⟨rfl, ok, Nat.le_refl _⟩
  | succ m ih =>
    intro J D ok
    cases hfr : J.frameOf D with
    | none => rw [redoN_none m hfr]; exact ⟨rfl, ok, Nat.le_refl _⟩
    | some ws =>
      obtain ⟨f1, f2, f3, _⟩ := frameOf_some hfr
      have hl := ok.fu
      have ok2 : (J.grow (ws.length + 1)).Ok D.disk.length := ok.grow _ (by unfold JS.left at f3; omega)
      have hl2 : (J.grow (ws.length + 1)).left = J.left - (ws.length + 1) := by unfold JS.left JS.grow; simp only; omega
      have hw := D.wrs_len ws
      have hd := D.wrs_disk ws
      rw [redoN_some m hfr]
      split
      · refine ⟨by rw [hd], ok2, ?_⟩
        show (D.wrs ws).2.pend.length + (J.grow (ws.length + 1)).left ≤ _
        rw [hl2]; omega
      · have := ih (J.grow (ws.length + 1)) (D.wrs ws).2 (by rw [hd]; exact ok2)
        rw [hd] at this
        refine ⟨this.1, this.2.1, ?_⟩
        have := this.2.2
        rw [hl2] at this
        omega
/-- From what a call on the new journal leaves to what Open leaves. -/
theorem opened_of {X : World} {D' : DevS} {J' : JS} (hd : Stands S w p D) (hXb : Below w.heap.size w X) (hX : w.heap.size < X.heap.size) (h : JLeaves 64 S X w' w.heap.size p D' J') :
    ∃ S' : Nat → Prop, (∀ k, S' k → S k ∨ w.heap.size ≤ k) ∧ Stands S' w' p D' ∧ Only S w w' ∧ ¬ S' w.heap.size ∧ Jr 64 w' w.heap.size p J' := by
  obtain ⟨S', hS', hs, hj, ho⟩ := h
  refine ⟨S', fun k hk => ?_, hs, ?_, fun h => ?_, hj⟩
  · rcases hS' k hk with h | h
    · exact .inl h
    · exact .inr (by omega)
  · exact (Only.of_below S hXb (Nat.le_refl _)).trans ho (fun i hi h => by rcases h with h | h; exact h; omega)
  · rcases hS' _ h with h | h
    · have := hd.lt _ h; omega
    · omega

set_option maxRecDepth 100000 in
set_option maxHeartbeats 2000000 in
theorem open_any (hd : Stands S w p D) (hp : D.pend.length ≤ 600000) :
    Calls Try.prog 11 #[.pointer (some ⟨p, 0, none⟩)] w fun e w' => Opened 64 S w w' p D.opn e := by
  have hlt := hd.lt
  have hnd := hd.ok.few
  obtain ⟨X, hX⟩ : ∃ X, w.alloc (.cells #[.pointer (some ⟨p, 0, none⟩), .int .u64 0, .int .u64 0, .int .i64 0, .int .i64 0, .int .i64 0, .int .u64 0, .int .i64 0] 64) = X := ⟨_, rfl⟩
  have hXb : Below w.heap.size w X := by rw [← hX]; exact (Below.refl _ _).alloc (Nat.le_refl _) _
  have hXj : Jr 64 X w.heap.size p ⟨0, 0, 0, 0, 0, 0, 0⟩ := by unfold Jr; rw [← hX]; exact heap_alloc_new ..
  have hXs := hd.below hXb
  have hXz := hXj.lt
  have hna : ¬ S w.heap.size := fun h => by have := hlt _ h; omega
  have HX := Lib.hid hX; clear hX
  have HXB := Lib.hid hXb; have HD := Lib.hid hd
  cases hde : D.dead with
  | true =>
    have HO : Hid (D.opn = (4, D, none)) := by show _ = _; unfold DevS.opn; rw [hde]; rfl
    have CF := Lib.hid (find_dead hXj hXs hde (by omega))
    clear hXj hXs hna hde hlt hd hXb
    go_enter Try.func11, Try.ntmps11
    go_wp2_with fail
    rw [HX.out]
    refine CF.out.mono ?_
    rintro e w1 ⟨rfl, hb1⟩
    have HB1 : Hid (Below w.heap.size w w1) := HXB.out.trans (hb1.mono HXB.out.size)
    clear hb1
    go_wp2
    go_ret2
    unfold Opened
    rw [HO.out]
    exact ⟨S, fun _ => .inl, HD.out.below HB1.out, Only.of_below _ HB1.out (Nat.le_refl _), rfl⟩
  | false =>
    have CF := Lib.hid (find_live hXj hXs hna hde (by omega))
    cases hf : D.find with
    | none =>
      have HO : Hid (D.opn = (10, D, none)) := by show _ = _; unfold DevS.opn; rw [hde, hf]; rfl
      have HF := Lib.hid hf
      clear hXj hXs hna hde hlt hd hXb hf
      go_enter Try.func11, Try.ntmps11
      go_wp2_with fail
      rw [HX.out]
      refine CF.out.mono ?_
      rintro e w1 ⟨ho1, hp1, _⟩
      have he := hp1 HF.out
      subst he
      have HO1 : Hid (Only S w w1) := (Only.of_below S HXB.out (Nat.le_refl _)).trans ho1 (fun i hi h => by omega)
      have HS1 : Hid (Stands S w1 p D) := (HD.out.below HXB.out).kept ho1 (fun k hk hka => by have := HD.out.lt _ hk; omega)
      clear ho1 hp1 CF
      go_wp2
      go_ret2
      unfold Opened
      rw [HO.out]
      exact ⟨S, fun _ => .inl, HS1.out, HO1.out, rfl⟩
    | some J =>
      obtain ⟨hok, hfu⟩ := find_ok hf
      have HF := Lib.hid hf
      have HOp : Hid (D.opn = if (J.redo D).1 ≠ 0 then ((J.redo D).1, (J.redo D).2.1, none) else if ((J.redo D).2.2.ckp (J.redo D).2.1).1 ≠ 0 then (((J.redo D).2.2.ckp (J.redo D).2.1).1, ((J.redo D).2.2.ckp (J.redo D).2.1).2.1, none) else (0, ((J.redo D).2.2.ckp (J.redo D).2.1).2.1, some ((J.redo D).2.2.ckp (J.redo D).2.1).2.2)) := by
        show _ = _; unfold DevS.opn; rw [hde, hf]; rfl
      have hkp : (J.redo D).2.1.disk.length = D.disk.length ∧ (J.redo D).2.2.Ok D.disk.length ∧ (J.redo D).2.1.pend.length ≤ 700000 := by
        have h := redoN_keeps (J.log + 1) J D hok
        refine ⟨h.1, h.2.1, ?_⟩
        have h3 := h.2.2
        have := hok.l1
        have h4 : J.left ≤ 4096 := by unfold JS.left; omega
        show (J.redoN D (J.log + 1)).2.1.pend.length ≤ _
        omega
      have HK := Lib.hid hkp
      have HXS := Lib.hid hXs; have HNA := Lib.hid hna
      have HDE := Lib.hid hde; have HOK := Lib.hid hok
      clear hXj hXs hna hde hlt hd hXb hf hok hfu hkp
      go_enter Try.func11, Try.ntmps11
      go_wp2_with fail
      rw [HX.out]
      refine CF.out.mono ?_
      rintro e w1 ⟨ho1, _, hp1⟩
      obtain ⟨he, hj1⟩ := hp1 J HF.out
      subst he
      have hs1 : Stands S w1 p D := HXS.out.kept ho1 (fun k hk hka => HNA.out (hka ▸ hk))
      have CR := Lib.hid (redo_any hj1 hs1 HNA.out HOK.out HDE.out (by omega))
      have HO1 : Hid (∀ w2 D2 J2, JLeaves 64 S w1 w2 w.heap.size p D2 J2 → JLeaves 64 S X w2 w.heap.size p D2 J2) := fun w2 D2 J2 h => JLeaves.next (fun _ h => .inl h) (ho1.mono (fun _ _ h => .inr h)) h
      clear ho1 hp1 hj1 hs1 CF
      generalize J.redo D = R1 at *
      obtain ⟨er1, D1, J1⟩ := R1
      simp only at HOp HK CR
      go_wp2_with fail
      refine CR.out.mono ?_
      rintro e w2 ⟨rfl, hv2⟩
      have HV2 := Lib.hid (HO1.out _ _ _ hv2)
      clear hv2 CR HO1
      by_cases he1 : er1 = 0
      · have he1' : (er1 != 0) = false := by simp [he1]
        rw [if_neg (by simpa using he1)] at HOp
        obtain ⟨S2, hS2, hs2, hj2, ho2⟩ := HV2.out
        have hna2 : ¬ S2 w.heap.size := fun h => by rcases hS2 _ h with h | h; exact HNA.out h; omega
        have CK := Lib.hid (ckp_any hj2 hs2 hna2 (by rw [HK.out.1]; exact HK.out.2.1) (by have := HK.out.2.2; omega))
        have HV3 : Hid (∀ w3 D3 J3, JLeaves 64 S2 w2 w3 w.heap.size p D3 J3 → JLeaves 64 S X w3 w.heap.size p D3 J3) := fun w3 D3 J3 h => JLeaves.next hS2 ho2 h
        clear hS2 hs2 hj2 ho2 hna2 HV2
        generalize J1.ckp D1 = R2 at *
        obtain ⟨er2, D2, J2⟩ := R2
        simp only at HOp CK
        go_wp2_with fail
        refine CK.out.mono ?_
        rintro e w3 ⟨rfl, hv3⟩
        have HV := Lib.hid (HV3.out _ _ _ hv3)
        clear hv3 CK HV3
        by_cases he2 : er2 = 0
        · have he2' : (er2 != 0) = false := by simp [he2]
          rw [if_neg (by simpa using he2)] at HOp
          go_wp2
          go_ret2
          obtain ⟨S3, h1, h2, h3, h4, h5⟩ := opened_of HD.out HXB.out hXz HV.out
          unfold Opened
          rw [HOp.out]
          exact ⟨S3, h1, h2, h3, w.heap.size, rfl, Nat.le_refl _, h4, h5⟩
        · have he2' : (er2 != 0) = true := by simp [he2]
          rw [if_pos (by simpa using he2)] at HOp
          go_wp2
          go_ret2
          obtain ⟨S3, h1, h2, h3, h4, h5⟩ := opened_of HD.out HXB.out hXz HV.out
          unfold Opened
          rw [HOp.out]
          exact ⟨S3, h1, h2, h3, rfl⟩
      · have he1' : (er1 != 0) = true := by simp [he1]
        rw [if_pos (by simpa using he1)] at HOp
        go_wp2
        go_ret2
        obtain ⟨S3, h1, h2, h3, h4, h5⟩ := opened_of HD.out HXB.out hXz HV2.out
        unfold Opened
        rw [HOp.out]
        exact ⟨S3, h1, h2, h3, rfl⟩
end
end Go.Proofs.Ytpoekkclkohanaa
/- The document's own Open, in plain lists: which slot counts, looked for from block 1 down to block 0; the journal in memory before a slot is found. -/
namespace Go.Proofs.Ytpoekkclkohanaa
open Go.RowKit

/-- The slot that counts among the first so many that were looked at: block 1 first, then block 0. -/
def DevS.bestV (D : DevS) : Nat → Option ((Nat × Nat × Nat × Nat) × Nat)
  | 0 => none
  | 1 => (D.slotAt 1).map fun y => (y, 1)
  | _ => match D.slotAt 0, D.slotAt 1 with
    | none, none => none
    | some x, none => some (x, 0)
    | none, some y => some (y, 1)
    | some x, some y => if y.1 ≤ x.1 then some (x, 0) else some (y, 1)
theorem find_bestV (D : DevS) : D.find = (D.bestV 2).map (fun x => slotJ x.1 x.2) := by
  unfold DevS.find
  show _ = Option.map _ (match D.slotAt 0, D.slotAt 1 with
    | none, none => none
    | some x, none => some (x, 0)
    | none, some y => some (y, 1)
    | some x, some y => if y.1 ≤ x.1 then some (x, 0) else some (y, 1))
  cases D.slotAt 0 with
  | none => cases D.slotAt 1 <;> rfl
  | some x =>
    cases D.slotAt 1 with
    | none => rfl
    | some y =>
      show (if x.1 < y.1 then _ else _) = Option.map _ (if y.1 ≤ x.1 then _ else _)
      by_cases h : x.1 < y.1
      · rw [if_pos h, if_neg (by omega)]; rfl
      · rw [if_neg h, if_pos (by omega)]; rfl
theorem bestV_none (D : DevS) (k : Nat) (hk : k < 2) (h : D.slotAt (1 - k) = none) : D.bestV (k + 1) = D.bestV k := by
  rcases (show k = 0 ∨ k = 1 by omega) with rfl | rfl
  · show (D.slotAt 1).map _ = none
    rw [show D.slotAt 1 = none from h]; rfl
  · have h0 : D.slotAt 0 = none := h
    show (match D.slotAt 0, D.slotAt 1 with
      | none, none => none
      | some x, none => some (x, 0)
      | none, some y => some (y, 1)
      | some x, some y => if y.1 ≤ x.1 then some (x, 0) else some (y, 1)) = (D.slotAt 1).map _
    rw [h0]
    cases D.slotAt 1 <;> rfl
theorem bestV_some (D : DevS) (k : Nat) (hk : k < 2) {x : Nat × Nat × Nat × Nat} (h : D.slotAt (1 - k) = some x) : D.bestV (k + 1) = match D.bestV k with | none => some (x, 1 - k) | some y => if y.1.1 ≤ x.1 then some (x, 1 - k) else some y := by
  rcases (show k = 0 ∨ k = 1 by omega) with rfl | rfl
  · show (D.slotAt 1).map _ = some (x, 1)
    rw [show D.slotAt 1 = some x from h]; rfl
  · have h0 : D.slotAt 0 = some x := h
    show (match D.slotAt 0, D.slotAt 1 with
      | none, none => none
      | some x, none => some (x, 0)
      | none, some y => some (y, 1)
      | some x, some y => if y.1 ≤ x.1 then some (x, 0) else some (y, 1)) = match (D.slotAt 1).map (fun y => (y, 1)) with | none => some (x, 0) | some y => if y.1.1 ≤ x.1 then some (x, 0) else some y
    rw [h0]
    cases D.slotAt 1 <;> rfl

/-- The cells of the journal before and behind a slot is found. -/
def VCells (r : Nat) : Option ((Nat × Nat × Nat × Nat) × Nat) → Array Value
  | none => #[.pointer (some ⟨r, 0, none⟩), .int .u64 0, .int .u64 0, .int .i64 0, .int .i64 0, .int .i64 (-1), .int .u64 0, .int .i64 0]
  | some x => #[.pointer (some ⟨r, 0, none⟩), .int .u64 (x.1.1 : Int), .int .u64 (x.1.2.1 : Int), .int .i64 (x.1.2.2.1 : Int), .int .i64 (x.1.2.2.2 : Int), .int .i64 (x.2 : Int), .int .u64 0, .int .i64 0]
def VJr (w : World) (a r : Nat) (o : Option ((Nat × Nat × Nat × Nat) × Nat)) : Prop := w.heap[a]? = some (.cells (VCells r o) 50 (0, 0))
section
variable {w w' : World} {a r : Nat} {o : Option ((Nat × Nat × Nat × Nat) × Nat)}
theorem VJr.lt (h : VJr w a r o) : a < w.heap.size := (Array.getElem?_eq_some_iff.1 h).1
theorem VJr.f (h : VJr w a r o) (i : Nat) : w.frozen? ⟨a, i, none⟩ = false := free_at h i
theorem VJr.below (h : VJr w a r o) (hb : Below w.heap.size w w') : VJr w' a r o := by unfold VJr; rw [hb.block a h.lt]; exact h
theorem VJr.c0 (h : VJr w a r o) : w.cell? ⟨a, 0, none⟩ = some (.pointer (some ⟨r, 0, none⟩)) := by rw [cell_at h]; cases o <;> rfl
/-- What the cells 1 to 5 hold. -/
def v1 : Option ((Nat × Nat × Nat × Nat) × Nat) → Int | none => 0 | some x => (x.1.1 : Int)
def v2 : Option ((Nat × Nat × Nat × Nat) × Nat) → Int | none => 0 | some x => (x.1.2.1 : Int)
def v3 : Option ((Nat × Nat × Nat × Nat) × Nat) → Int | none => 0 | some x => (x.1.2.2.1 : Int)
def v4 : Option ((Nat × Nat × Nat × Nat) × Nat) → Int | none => 0 | some x => (x.1.2.2.2 : Int)
def v5 : Option ((Nat × Nat × Nat × Nat) × Nat) → Int | none => -1 | some x => (x.2 : Int)
theorem VJr.c1 (h : VJr w a r o) : w.cell? ⟨a, 1, none⟩ = some (.int .u64 (v1 o)) := by rw [cell_at h]; cases o <;> rfl
theorem VJr.c2 (h : VJr w a r o) : w.cell? ⟨a, 2, none⟩ = some (.int .u64 (v2 o)) := by rw [cell_at h]; cases o <;> rfl
theorem VJr.c3 (h : VJr w a r o) : w.cell? ⟨a, 3, none⟩ = some (.int .i64 (v3 o)) := by rw [cell_at h]; cases o <;> rfl
theorem VJr.c4 (h : VJr w a r o) : w.cell? ⟨a, 4, none⟩ = some (.int .i64 (v4 o)) := by rw [cell_at h]; cases o <;> rfl
theorem VJr.c5 (h : VJr w a r o) : w.cell? ⟨a, 5, none⟩ = some (.int .i64 (v5 o)) := by rw [cell_at h]; cases o <;> rfl
theorem VJr.c6 (h : VJr w a r o) : w.cell? ⟨a, 6, none⟩ = some (.int .u64 0) := by rw [cell_at h]; cases o <;> rfl
theorem VJr.sl (h : VJr w a r o) (x : Nat × Nat × Nat × Nat) (k : Nat) : VJr (slW w a x k) a r (some (x, k)) := by
  unfold VJr at h ⊢
  have h1 := heap_setCell_at (i := 1) h (.int .u64 (x.1 : Int))
  have h2 := heap_setCell_at (i := 2) h1 (.int .u64 (x.2.1 : Int))
  have h3 := heap_setCell_at (i := 3) h2 (.int .i64 (x.2.2.1 : Int))
  have h4 := heap_setCell_at (i := 4) h3 (.int .i64 (x.2.2.2 : Int))
  have h5 := heap_setCell_at (i := 5) h4 (.int .i64 (k : Int))
  rw [h5]
  cases o <;> simp [VCells]
/-- The slot is found, and the next number taken up. -/
theorem VJr.found {x : (Nat × Nat × Nat × Nat) × Nat} (h : VJr w a r (some x)) : Jr 50 (w.setCell ⟨a, 6, none⟩ (.int .u64 (x.1.2.1 : Int))) a r (slotJ x.1 x.2) := by
  unfold VJr at h
  unfold Jr
  rw [heap_setCell_at h]
  simp [VCells, JCells, slotJ]
end
end Go.Proofs.Ytpoekkclkohanaa
/- What Format answers and leaves behind, for every device and every length of a log. -/
namespace Go.Proofs.Ytpoekkclkohanaa
open Go.RowKit
open Fr (SlW OwnW flatI two_cells two_one own_pushW)

section
variable {S : Nat → Prop} {w w' : World} {a p : Nat} {J : JS} {D : DevS}

def fmtK (k : Nat) : List (Int × ByteArray) := (List.range k).map fun i => (((i + 1 : Nat) : Int), noughts)
theorem fmtK_succ (k : Nat) : fmtK (k + 1) = fmtK k ++ [(((k + 1 : Nat) : Int), noughts)] := by unfold fmtK; rw [List.range_succ, List.map_append]; rfl
theorem fmtK_len (k : Nat) : (fmtK k).length = k := by simp [fmtK]
theorem fmtL_eq (log : Nat) : fmtL log = fmtK (log + 1) ++ [(0, slotB 1 1 log 0)] := rfl

set_option maxRecDepth 100000 in
set_option maxHeartbeats 2000000 in
theorem format_any (log : Int) (hd : Stands S w p D) (hp : D.pend.length ≤ 800000) :
    Calls Try.prog 18 #[.pointer (some ⟨p, 0, none⟩), .int .i64 log] w fun e w' => e = .returned (.int .i64 (D.fmt log).1) ∧ Leaves S w w' p (D.fmt log).2 := by
  obtain ⟨i0, hi, hz0, hz1, hz2⟩ := info_parts Try.infoW
  have HZ2 := Lib.hid hz2; clear hz2
  have hnd := hd.ok.few
  have CBl := Lib.hid (blocks_any hd)
  have CFi := Lib.hid (fits_any (w := w) log D.disk.length hnd)
  have HD := Lib.hid hd; clear hd
  by_cases hf : 50 ≤ log ∧ log ≤ (D.disk.length : Int) - 3
  · rw [decide_eq_true hf] at CFi
    obtain ⟨n, rfl⟩ := Int.eq_ofNat_of_zero_le (show 0 ≤ log by omega)
    have HFm : Hid (D.fmt (n : Int) = D.stl (fmtK (n + 1) ++ [(0, slotB 1 1 n 0)])) := by
      show _ = _; unfold DevS.fmt; rw [if_neg (by omega), Int.toNat_natCast, fmtL_eq]
    have hn1 : n ≤ 4096 := by omega
    generalize D.disk.length = nd at *
    clear hf
    obtain ⟨NN, hNN⟩ : ∃ x, noughts = x := ⟨_, rfl⟩
    have CN : Hid (∀ W, Calls Try.prog 40 #[.int .i64 256] W fun e w' => e = .returned (.string NN) ∧ Below W.heap.size W w') := fun W => by rw [← hNN]; exact jnoughts_all W
    have HSu : Hid (∀ k, fmtK (k + 1) = fmtK k ++ [(((k + 1 : Nat) : Int), NN)]) := fun k => by rw [← hNN]; exact fmtK_succ k
    clear hNN
    go_enter Try.func18, Try.ntmps18
    go_wp2_with fail
    refine CBl.out.mono ?_
    rintro e w1 ⟨rfl, rfl⟩
    go_wp2_with fail
    refine CFi.out.mono ?_
    rintro e w1 ⟨rfl, rfl⟩
    go_wp2_with fail
    go_loopw [5, 6] (fun wv i wr => ∃ k : Nat, k ≤ n + 1 ∧ i = .int .i64 ((k + 1 : Nat) : Int) ∧ Hid (OwnW w.heap.size wr wv (fmtK k)) ∧ Hid (Below w.heap.size w wr)) (fun _ i _ => n + 2 - (intOf i).toNat)
    case atStart => exact ⟨0, Nat.zero_le _, rfl, OwnW.nil _ _, Below.refl _ _⟩
    case round =>
      obtain ⟨k, hk, rfl, HO, HB⟩ := hrel
      have hbr := HB.out.size
      by_cases hlt : k < n + 1
      · have hlen : (fmtK k).length ≤ 4098 := by rw [fmtK_len]; omega
        have HSN := Lib.hid (HSu.out k)
        have i1 : (k : Int) + 1 < 2 + (n : Int) := by omega
        obtain ⟨M, hM⟩ : ∃ M, fmtK k = M := ⟨_, rfl⟩
        rw [hM] at HO HSN hlen
        clear hM
        obtain ⟨ao2, c2, hv, _⟩ := HO.out.sl
        subst hv
        have wk : IntKind.i64.wrap ((k : Int) + 1 + 1) = (k : Int) + 1 + 1 := IntWalk.i64_in _ (by omega)
        go_wp2_with fail
        refine (CN.out _).mono ?_
        rintro e w2 ⟨rfl, hb2⟩
        have HB2 := Lib.hid hb2; clear hb2
        have hbr2 := HB2.out.size
        go_wp2_with (at_builtin; go_loud (refine wpList_append_own _ rfl _ _ 42 rfl w.heap.size 58 i0 _ 2 24 Try.underlying42 hi hz0 hz1 HZ2.out rfl (by decide) _ _ _ rfl ((HO.out.below HB2.out).alloc _) _ 1 1 [.int .i64 ((k : Int) + 1), .string NN] rfl rfl (two_cells rfl) two_one ?c3 ?c4 ?c5 ?_))
        case c3 => unfold maxLen; omega
        case c4 => omega
        case c5 => simp; omega
        intro v1 w3 hown hgrow _
        have HO3 : Hid (OwnW w.heap.size w3 v1 (fmtK (k + 1))) := by
          show OwnW _ _ _ _
          rw [HSN.out]; exact own_pushW hown
        have HB3 : Hid (Below w.heap.size w w3) := ((HB.out.trans (HB2.out.mono hbr)).alloc (by omega) _).grown hgrow (by simp; omega) (fun q hq => (HO.out.lt q hq).1)
        clear hown hgrow HB2
        go_wp2
        go_roundw
        case rel => exact ⟨k + 1, by omega, by go_num, HO3, HB3⟩
        case measure => simp [intOf]; omega
      · have hkn : k = n + 1 := by omega
        subst hkn
        have hlen : (fmtK (n + 1)).length ≤ 4098 := by rw [fmtK_len]; omega
        have i1 : ¬ ((n + 1 : Nat) : Int) + 1 < 2 + (n : Int) := by omega
        obtain ⟨ao2, c2, hv, _⟩ := HO.out.sl
        subst hv
        obtain ⟨M, hM⟩ : ∃ M, fmtK (n + 1) = M := ⟨_, rfl⟩
        rw [hM] at HO HFm hlen ⊢
        clear hM
        have CT : Hid (∀ W, Calls Try.prog 42 #[.agg #[.int .u64 1, .int .u64 1, .int .i64 (n : Int), .int .i64 0]] W fun r w' => r = .returned (.string (slotB 1 1 n 0)) ∧ Below W.heap.size W w') := fun W => text_any 1 1 n 0 W (by omega) (by omega) hn1 (by omega)
        generalize slotB 1 1 n 0 = tt at *
        obtain ⟨Y, hY⟩ : ∃ Y, (wr.alloc (.cells #[.int .u64 1, .int .u64 1, .int .i64 (n : Int), .int .i64 0] 62)).alloc (.cells #[.pointer (some ⟨p, 0, none⟩), .int .u64 0, .int .u64 0, .int .i64 0, .int .i64 0, .int .i64 0, .int .u64 0, .int .i64 0] 64) = Y := ⟨_, rfl⟩
        have hYb : Below wr.heap.size wr Y := by rw [← hY]; exact ((Below.refl _ _).alloc (Nat.le_refl _) _).alloc (by simp) _
        have hYj : Jr 64 Y (wr.heap.size + 1) p ⟨0, 0, 0, 0, 0, 0, 0⟩ := by
          have e : (wr.alloc (.cells #[.int .u64 1, .int .u64 1, .int .i64 (n : Int), .int .i64 0] 62)).heap.size = wr.heap.size + 1 := by simp
          unfold Jr; rw [← hY, ← e]; exact heap_alloc_new ..
        have hYz := hYj.lt
        have HY := Lib.hid hY; have HYb := Lib.hid hYb; have HYj := Lib.hid hYj
        clear hY hYb hYj
        go_wp2_with fail
        rw [HY.out]
        refine (CT.out _).mono ?_
        rintro e w2 ⟨rfl, hb2⟩
        have HB2 : Hid (Below wr.heap.size wr w2) := HYb.out.trans (hb2.mono HYb.out.size)
        have HJ2 := Lib.hid (HYj.out.below hb2)
        have hz2 := hb2.size
        clear hb2
        have hbr2 := HB2.out.size
        go_wp2_with (at_builtin; go_loud (refine wpList_append_own _ rfl _ _ 42 rfl w.heap.size 58 i0 _ 2 24 Try.underlying42 hi hz0 hz1 HZ2.out rfl (by decide) _ _ _ rfl ((HO.out.below HB2.out).alloc _) _ 1 1 [.int .i64 0, .string tt] rfl rfl (two_cells rfl) two_one ?c3 ?c4 ?c5 ?_))
        case c3 => unfold maxLen; omega
        case c4 => omega
        case c5 => simp; omega
        intro v1 w3 hown hgrow _
        have hO3 := own_pushW hown
        have HB3 : Hid (Below w.heap.size w w3) := ((HB.out.trans (HB2.out.mono hbr)).alloc (by omega) _).grown hgrow (by simp; omega) (fun q hq => (HO.out.lt q hq).1)
        have HJ3 : Hid (Jr 64 w3 (wr.heap.size + 1) p ⟨0, 0, 0, 0, 0, 0, 0⟩) := by
          show Jr _ _ _ _ _
          have h1 : Jr 64 (w2.alloc (.cells #[.int .i64 0, .string tt] 58)) (wr.heap.size + 1) p ⟨0, 0, 0, 0, 0, 0, 0⟩ := HJ2.out.below ((Below.refl _ _).alloc (Nat.le_refl _) _)
          unfold Jr
          rw [hgrow.block _ h1.lt (fun e => by have := (HO.out.lt _ e.symm).2; omega)]
          exact h1
        have hl2 : (M ++ [((0 : Int), tt)]).length ≤ 5000 := by simp; omega
        obtain ⟨M2, hM2⟩ : ∃ M2, M ++ [((0 : Int), tt)] = M2 := ⟨_, rfl⟩
        rw [hM2] at hO3 HFm hl2
        have HO3 := Lib.hid hO3
        clear hown hgrow hO3 HB2 HJ2 hM2
        have hna : ¬ S (wr.heap.size + 1) := fun h => by have := HD.out.lt _ h; omega
        have hSO : Outs S v1 := by
          intro g off' n' c' hv hg
          have h1 := (HO3.out.lt g (by rw [hv]; rfl)).1
          have h2 := HD.out.lt g hg
          omega
        have CS := Lib.hid (jsettle_any (L := M2) HJ3.out (HD.out.below HB3.out) hna (by omega) (by omega) HO3.out.sl hSO)
        obtain ⟨ao3, c3, hv3, _⟩ := HO3.out.sl
        subst hv3
        clear hSO HO3 hna
        go_wp2_with fail
        refine CS.out.mono ?_
        rintro e w4 ⟨rfl, hv4⟩
        have HV := Lib.hid (Leaves.from HB3.out hv4); clear hv4
        go_wp2
        go_ret
        exact ⟨by rw [HFm.out]; rfl, by rw [HFm.out]; exact HV.out⟩
  · have HFm : Hid (D.fmt log = (2, D)) := by show _ = _; unfold DevS.fmt; rw [if_pos (by omega)]
    rw [decide_eq_false hf] at CFi
    generalize D.disk.length = nd at *
    clear hf
    go_enter Try.func18, Try.ntmps18
    go_wp2_with fail
    refine CBl.out.mono ?_
    rintro e w1 ⟨rfl, rfl⟩
    go_wp2_with fail
    refine CFi.out.mono ?_
    rintro e w1 ⟨rfl, rfl⟩
    go_wp2
    go_ret
    exact ⟨by rw [HFm.out]; rfl, by rw [HFm.out]; exact .mk HD.out (Only.refl _ _)⟩
end
end Go.Proofs.Ytpoekkclkohanaa
/- Journals on a device, in plain lists: what lies there when all is well; what a slot and a head are when they are torn; what is found and done by Open. -/
namespace Go.Proofs.Ytpoekkclkohanaa
open Go.RowKit
open Fr (bs fixL nmAt headB topL unp WrOk packL)

abbrev Wr := Int × ByteArray
/-- A block of a disk. -/
def gd (d : List ByteArray) (b : Nat) : ByteArray := d.getD b ByteArray.empty
def natW (W : List Wr) : List (Nat × ByteArray) := W.map fun x => (x.1.toNat, x.2)

section lay
variable {f : Nat → Nat} {P Q : List (Nat × ByteArray)} {disk : List ByteArray}
theorem laid_left (k : Nat) (hk : k ≤ P.length) : laidTo f (P ++ Q) disk k = laidTo f P disk k := by
  induction k with
  | zero => rfl
  | succ k ih =>
    rw [laidTo_succ f (P ++ Q) disk k (by rw [List.length_append]; omega), laidTo_succ f P disk k (by omega), ih (by omega), List.getElem_append_left (by omega)]
theorem laid_snoc (x : Nat × ByteArray) : laidTo f (P ++ [x]) disk (P ++ [x]).length = layOne (laidTo f P disk P.length) x (f P.length) := by
  rw [show (P ++ [x]).length = P.length + 1 by simp, laidTo_succ f (P ++ [x]) disk P.length (by simp), laid_left _ (Nat.le_refl _)]
  congr 1
  simp
theorem gd_layOne (d : List ByteArray) (x : Nat × ByteArray) (m b : Nat) (h : x.1 ≠ b) : gd (layOne d x m) b = gd d b := by
  unfold gd layOne; simp [List.getD, h]
theorem laid_other (b k : Nat) (h : ∀ x ∈ P, x.1 ≠ b) : gd (laidTo f P disk k) b = gd disk b := by
  induction k with
  | zero => rfl
  | succ k ih =>
    by_cases hk : k < P.length
    · rw [laidTo_succ f P disk k hk, gd_layOne _ _ _ _ (h _ (List.getElem_mem hk)), ih]
    · have e : laidTo f P disk (k + 1) = laidTo f P disk k := by rw [laidTo]; simp [List.getElem?_eq_none (Nat.le_of_not_lt hk)]
      rw [e, ih]
theorem laid_one (b : Nat) (x : ByteArray) (h : ∀ y ∈ P, y.1 ≠ b) (hb : b < disk.length) : gd (laidTo f (P ++ [(b, x)]) disk (P ++ [(b, x)]).length) b = layB x (gd disk b) (f P.length) := by
  rw [laid_snoc]
  have e := laid_other (f := f) (disk := disk) b P.length h
  unfold gd layOne at *
  rw [e]
  simp [List.getD, laidTo_length, hb]
end lay

theorem DevS.Ok.flushed {D : DevS} (ok : D.Ok) (b : Nat) (hb : b < D.disk.length) : gd (laidTo (fun _ => 256) D.pend D.disk D.pend.length) b = D.rdB b := by
  have := (laidTo_get (fun _ => 256) D.pend D.disk D.pend.length b (Nat.le_refl _) (fun _ _ => rfl) hb ok.whole ok.pends).1
  unfold gd DevS.rdB
  rw [this, List.take_length]
  try rfl
theorem rdB_none {D : DevS} (b : Nat) (h : ∀ x ∈ D.pend, x.1 ≠ b) : D.rdB b = gd D.disk b := by
  unfold DevS.rdB gd
  have : D.pend.reverse.find? (fun x => x.1 == b) = none := by
    rw [List.find?_eq_none]; intro x hx; have := h x (List.mem_reverse.1 hx); simpa using this
  rw [this]

/-! ### What a device does with writes -/
/-- Writes that the device takes. -/
def Fit (n : Nat) (W : List Wr) : Prop := ∀ x ∈ W, 0 ≤ x.1 ∧ x.1 < n ∧ x.2.size = 256
theorem natW_append (A B : List Wr) : natW (A ++ B) = natW A ++ natW B := by unfold natW; rw [List.map_append]

/-- Behind writes: all are pending and the power is there, or some first ones are and it is gone. -/
structure Wrote (D D' : DevS) (W : List Wr) (e : Int) (k : Nat) : Prop where
  le : k ≤ W.length
  disk : D'.disk = D.disk
  pend : D'.pend = D.pend ++ natW (W.take k)
  how : (e = 0 ∧ k = W.length ∧ D'.dead = false) ∨ (e = 4 ∧ D'.dead = true)
theorem wr_cases (D : DevS) (hde : D.dead = false) (x : Wr) (h : 0 ≤ x.1 ∧ x.1 < D.disk.length ∧ x.2.size = 256) : ∃ k, Wrote D (D.wr x.1 x.2).2 [x] (D.wr x.1 x.2).1 k := by
  have hck : D.ck x.1 = 0 := by unfold DevS.ck; rw [hde]; simp; omega
  by_cases ht : D.tk.1 = false
  · have e : D.wr x.1 x.2 = (4, D.tk.2) := by unfold DevS.wr; simp [hck, h.2.2, ht]
    rw [e]
    refine ⟨0, Nat.zero_le _, D.tk_disk, by simp [D.tk_pend, natW], .inr ⟨rfl, ?_⟩⟩
    unfold DevS.tk at ht ⊢
    split
    · rename_i h1; rw [if_pos h1] at ht; cases ht
    · split
      · rfl
      · rename_i h1 h2; rw [if_neg h1, if_neg h2] at ht; cases ht
  · have ht' : D.tk.1 = true := by simpa using ht
    have e : D.wr x.1 x.2 = (0, { D.tk.2 with pend := D.pend ++ [(x.1.toNat, x.2)] }) := by unfold DevS.wr; simp [hck, h.2.2, ht]
    rw [e]
    exact ⟨1, Nat.le_refl _, D.tk_disk, by simp [natW], .inl ⟨rfl, rfl, by show D.tk.2.dead = false; rw [D.tk_dead ht', hde]⟩⟩
theorem wrs_cases (W : List Wr) : ∀ (D : DevS), D.dead = false → Fit D.disk.length W → ∃ k, Wrote D (D.wrs W).2 W (D.wrs W).1 k := by
  induction W with
  | nil => intro D hde _; exact ⟨0, Nat.le_refl _, rfl, by simp [natW, DevS.wrs], .inl ⟨rfl, rfl, hde⟩⟩
  | cons x r ih =>
    intro D hde hf
    obtain ⟨k, hk⟩ := wr_cases D hde x (hf x (List.mem_cons_self ..))
    unfold DevS.wrs
    rcases hk.how with ⟨h0, h1, h2⟩ | ⟨h0, h1⟩
    · rw [if_neg (by rw [h0]; simp)]
      obtain ⟨k', hk'⟩ := ih (D.wr x.1 x.2).2 h2 (fun y hy => by rw [hk.disk]; exact hf y (List.mem_cons_of_mem _ hy))
      have e1 : (D.wr x.1 x.2).2.pend = D.pend ++ natW [x] := by rw [hk.pend, h1]; rfl
      refine ⟨k' + 1, by simpa using hk'.le, hk'.disk.trans hk.disk, ?_, ?_⟩
      · rw [hk'.pend, e1, List.take_succ_cons, List.append_assoc, ← natW_append]; rfl
      · rcases hk'.how with ⟨a, b, c⟩ | ⟨a, b⟩
        · exact .inl ⟨a, by rw [b]; rfl, c⟩
        · exact .inr ⟨a, b⟩
    · rw [if_pos (by rw [h0]; simp)]
      refine ⟨0, Nat.zero_le _, hk.disk, ?_, .inr ⟨h0, h1⟩⟩
      have : k = 0 ∨ k = 1 := by have := hk.le; simp at this; omega
      rcases this with rfl | rfl
      · rw [hk.pend]; simp [natW]
      · exfalso
        have hw := hk.pend
        have : (D.wr x.1 x.2).2.pend.length ≤ D.pend.length := by
          unfold DevS.wr at h0 ⊢
          split
          · exact Nat.le_refl _
          · split
            · exact Nat.le_refl _
            · split
              · rw [DevS.tk_pend]; exact Nat.le_refl _
              · rename_i a b c; rw [if_neg a, if_neg b, if_neg c] at h0; cases h0
        rw [hw] at this
        simp [natW] at this
        omega
theorem fl_cases (D : DevS) : (D.fl.1 = 0 ∧ D.fl.2.dead = false ∧ D.fl.2.disk = laidTo (fun _ => 256) D.pend D.disk D.pend.length ∧ D.fl.2.pend = []) ∨ (D.fl.1 = 4 ∧ D.fl.2.dead = true ∧ D.fl.2.disk = D.disk ∧ D.fl.2.pend = D.pend) := by
  by_cases hd : D.dead = true
  · have e : D.fl = (4, D) := by unfold DevS.fl; rw [if_pos hd]
    rw [e]; exact .inr ⟨rfl, hd, rfl, rfl⟩
  · by_cases ht : D.tk.1 = false
    · have e : D.fl = (4, D.tk.2) := by unfold DevS.fl; rw [if_neg hd, if_pos ht]
      rw [e]
      refine .inr ⟨rfl, ?_, D.tk_disk, D.tk_pend⟩
      unfold DevS.tk at ht ⊢
      split
      · rename_i h1; rw [if_pos h1] at ht; cases ht
      · split
        · rfl
        · rename_i h1 h2; rw [if_neg h1, if_neg h2] at ht; cases ht
    · have e : D.fl = (0, { D.tk.2 with disk := laidTo (fun _ => 256) D.pend D.disk D.pend.length, pend := [] }) := by unfold DevS.fl; rw [if_neg hd, if_neg ht]
      rw [e]
      exact .inl ⟨rfl, by show D.tk.2.dead = false; rw [D.tk_dead (by simpa using ht)]; simpa using hd, rfl, rfl⟩
/-- Behind writes and a flush. -/
theorem stl_cases (D : DevS) (W : List Wr) (hde : D.dead = false) (hf : Fit D.disk.length W) :
    ((D.stl W).1 = 0 ∧ (D.stl W).2.dead = false ∧ (D.stl W).2.disk = laidTo (fun _ => 256) (D.pend ++ natW W) D.disk (D.pend ++ natW W).length ∧ (D.stl W).2.pend = []) ∨
    ((D.stl W).1 = 4 ∧ (D.stl W).2.dead = true ∧ (D.stl W).2.disk = D.disk ∧ ∃ k, k ≤ W.length ∧ (D.stl W).2.pend = D.pend ++ natW (W.take k)) := by
  obtain ⟨k, hk⟩ := wrs_cases W D hde hf
  unfold DevS.stl
  rcases hk.how with ⟨h0, h1, h2⟩ | ⟨h0, h1⟩
  · rw [if_neg (by rw [h0]; simp)]
    have e : (D.wrs W).2.pend = D.pend ++ natW W := by rw [hk.pend, h1, List.take_length]
    rcases fl_cases (D.wrs W).2 with ⟨a, b, c, d⟩ | ⟨a, b, c, d⟩
    · exact .inl ⟨a, b, by rw [c, e, hk.disk], d⟩
    · exact .inr ⟨a, b, by rw [c, hk.disk], W.length, Nat.le_refl _, by rw [d, e, List.take_length]⟩
  · rw [if_pos (by rw [h0]; simp)]
    exact .inr ⟨h0, h1, hk.disk, k, hk.le, hk.pend⟩

/-! ### Slots -/
theorem layB_list (x old : ByteArray) (m : Nat) : (layB x old m).data.toList = x.data.toList.take m ++ old.data.toList.drop m := by
  unfold layB
  rw [ByteArray.data_append, Array.toList_append, ByteArray.data_extract, ByteArray.data_extract, Array.toList_extract, Array.toList_extract]
  simp only [List.extract_eq_take_drop, List.drop_zero, Nat.sub_zero]
  congr 1
  apply List.take_of_length_le
  simp
theorem half_at (e s log p : Nat) (he : e < 18446744073709551616) (hs : s < 18446744073709551616) (hl : log < 4294967296) (hp : p < 4294967296) (Z : List UInt8) :
    wideAt (halfL e s log p ++ Z) 4 = e ∧ wideAt (halfL e s log p ++ Z) 12 = s ∧ nmAt (halfL e s log p ++ Z) 20 = log ∧ nmAt (halfL e s log p ++ Z) 24 = p := by
  have hA : halfL e s log p ++ Z = [67, 68, 88, 83] ++ (fixL (e % 4294967296) ++ (fixL (e / 4294967296) ++ (fixL (s % 4294967296) ++ (fixL (s / 4294967296) ++ (fixL log ++ (fixL p ++ (List.replicate 100 0 ++ Z))))))) := by
    unfold halfL; simp only [List.append_assoc]
  rw [hA]
  have st (A B : List UInt8) (i : Nat) (h : A.length = 4) : nmAt (A ++ B) (4 + i) = nmAt B i := by rw [← h]; exact Fr.nmAt_right A B i
  have f (v : Nat) (B : List UInt8) (i : Nat) : nmAt (fixL v ++ B) (4 + i) = nmAt B i := st _ _ _ (Fr.fixL_len v)
  refine ⟨?_, ?_, ?_, ?_⟩
  · unfold wideAt
    rw [show (4 : Nat) = 4 + 0 from rfl, st _ _ 0 rfl, Fr.nmAt_fix _ _ (by omega), show (4 + 0 + (4 + 0) : Nat) = 4 + (4 + 0) from rfl, st _ _ _ rfl, f, Fr.nmAt_fix _ _ (by omega)]
    omega
  · unfold wideAt
    rw [show (12 : Nat) = 4 + (4 + (4 + 0)) from rfl, st _ _ _ rfl, f, f, Fr.nmAt_fix _ _ (by omega), show (4 + (4 + (4 + 0)) + 4 : Nat) = 4 + (4 + (4 + (4 + 0))) from rfl, st _ _ _ rfl, f, f, f, Fr.nmAt_fix _ _ (by omega)]
    omega
  · rw [show (20 : Nat) = 4 + (4 + (4 + (4 + (4 + 0)))) from rfl, st _ _ _ rfl, f, f, f, f, Fr.nmAt_fix _ _ (by omega)]
  · rw [show (24 : Nat) = 4 + (4 + (4 + (4 + (4 + (4 + 0))))) from rfl, st _ _ _ rfl, f, f, f, f, f, Fr.nmAt_fix _ _ (by omega)]
theorem rdSlot_slotB (e s log p n : Nat) (he : e < 18446744073709551616) (hs : s < 18446744073709551616) (h1 : 50 ≤ log) (h2 : log + 3 ≤ n) (hn : n ≤ 4096) (hp : p < log) : rdSlot (slotB e s log p) n = some (e, s, log, p) := by
  obtain ⟨a, b, c, d⟩ := half_at e s log p he hs (by omega) (by omega) (halfL e s log p)
  have hl : (slotB e s log p).data.toList = halfL e s log p ++ halfL e s log p := rfl
  refine (rdSlot_iff _ _ _).2 ?_
  rw [hl, a, b, c, d]
  exact ⟨⟨h1, h2, hp, rfl⟩, rfl⟩
theorem half_inj {e s log p e' s' log' p' : Nat} (he : e < 18446744073709551616) (hs : s < 18446744073709551616) (hl : log < 4294967296) (hp : p < 4294967296)
    (he' : e' < 18446744073709551616) (hs' : s' < 18446744073709551616) (hl' : log' < 4294967296) (hp' : p' < 4294967296) (h : halfL e s log p = halfL e' s' log' p') : e = e' ∧ s = s' ∧ log = log' ∧ p = p' := by
  obtain ⟨a, b, c, d⟩ := half_at e s log p he hs hl hp []
  obtain ⟨a', b', c', d'⟩ := half_at e' s' log' p' he' hs' hl' hp' []
  rw [h] at a b c d
  exact ⟨a.symm.trans a', b.symm.trans b', c.symm.trans c', d.symm.trans d'⟩
/-- A right slot's own bytes. -/
theorem rdSlot_bytes {t : ByteArray} {n : Nat} {x : Nat × Nat × Nat × Nat} (h : rdSlot t n = some x) : t = slotB x.1 x.2.1 x.2.2.1 x.2.2.2 := by
  obtain ⟨⟨_, _, _, h2⟩, rfl⟩ := (rdSlot_iff t n x).1 h
  exact h2
/-- A slot that is torn is whole, or bears another half behind. -/
theorem torn_slot (e s log p n m : Nat) (old : ByteArray) (he : e < 18446744073709551616) (hs : s < 18446744073709551616) (h2 : log + 3 ≤ n) (hn : n ≤ 4096) (hp : p < log) (x : Nat × Nat × Nat × Nat)
    (h : rdSlot (layB (slotB e s log p) old m) n = some x) : x = (e, s, log, p) ∨ old.data.toList.drop 128 = halfL x.1 x.2.1 x.2.2.1 x.2.2.2 := by
  have hx := rdSlot_bytes h
  obtain ⟨x0, x1, x2, x3, x4⟩ := rdSlot_ok h
  obtain ⟨xe, xs, xl, xp⟩ := x
  simp only at hx x0 x1 x2 x3 x4 ⊢
  have hX := congrArg (fun b : ByteArray => b.data.toList) hx
  rw [layB_list] at hX
  have hN : (slotB e s log p).data.toList = halfL e s log p ++ halfL e s log p := rfl
  have hM : (slotB xe xs xl xp).data.toList = halfL xe xs xl xp ++ halfL xe xs xl xp := rfl
  have hlN := halfL_len e s log p
  have hlX := halfL_len xe xs xl xp
  rw [hN, hM] at hX
  by_cases hm : m ≤ 128
  · right
    have := congrArg (List.drop 128) hX
    rw [List.drop_append, List.length_take, List.length_append, hlN, List.drop_left' hlX, List.drop_of_length_le (by rw [List.length_take, List.length_append, hlN]; omega), List.nil_append, List.drop_drop] at this
    rw [← this]; congr 1; omega
  · left
    have := congrArg (List.take 128) hX
    rw [List.take_left' hlX, List.take_append, List.length_take, List.length_append, hlN, List.take_take, show min 128 m = 128 by omega, List.take_left' hlN, show 128 - min m (128 + 128) = 0 by omega, List.take_zero, List.append_nil] at this
    obtain ⟨a, b, c, d⟩ := half_inj he hs (by omega) (by omega) x3 x4 (by omega) (by omega) this
    rw [a, b, c, d]
theorem layB_twice (x old : ByteArray) (m k : Nat) (hx : x.size = 256) (hm : m ≤ 256) : layB x (layB x old m) k = layB x old (max m k) := by
  apply ByteArray.ext
  apply Array.ext'
  rw [layB_list, layB_list, layB_list]
  have hl : x.data.toList.length = 256 := by rw [Fr.str_len, hx]
  rw [List.drop_append, List.length_take, hl, show min m 256 = m by omega]
  by_cases h : m ≤ k
  · rw [show max m k = k by omega, List.drop_of_length_le (by rw [List.length_take]; omega), List.nil_append, List.drop_drop]
    congr 2; omega
  · rw [show max m k = m by omega, show k - m = 0 by omega, List.drop_zero, ← List.append_assoc]
    congr 1
    rw [List.drop_take]
    conv => rhs; rw [show m = k + (m - k) by omega]
    rw [List.take_add]
/-- The block's second half is no slot's of a number that is not less. -/
def Older (o : ByteArray) (e : Nat) : Prop := o.size = 256 ∧ ∀ a b c d, a < 18446744073709551616 → b < 18446744073709551616 → c < 4294967296 → d < 4294967296 → o.data.toList.drop 128 = halfL a b c d → a < e
theorem older_slot (e s log p : Nat) (he : e < 18446744073709551616) (hs : s < 18446744073709551616) (hl : log < 4294967296) (hp : p < 4294967296) : Older (slotB e s log p) (e + 1) := by
  refine ⟨slotB_size _ _ _ _, fun a b c d ha hb hc hd h => ?_⟩
  have hN : (slotB e s log p).data.toList = halfL e s log p ++ halfL e s log p := rfl
  rw [hN, List.drop_left' (halfL_len ..)] at h
  have := (half_inj he hs hl hp ha hb hc hd h).1
  omega
theorem older_noughts (e : Nat) : Older noughts e := by
  refine ⟨noughts_size, fun a b c d _ _ _ _ h => ?_⟩
  have : noughts.data.toList.drop 128 = List.replicate 128 0 := by decide +kernel
  rw [this] at h
  have := congrArg (fun l : List UInt8 => l.getD 0 0) h
  simp [halfL] at this

/-! ### Heads -/
theorem headB_noughts : headB noughts.data.toList = false := by decide +kernel
theorem headB_begin (l : List UInt8) (h : l.getD 0 0 ≠ 67) : headB l = false := by
  cases hb : headB l with
  | false => rfl
  | true =>
    have h2 := ((Fr.headB_iff l).1 hb).2.1
    have := congrArg (fun l : List UInt8 => l.getD 0 0) h2
    simp only [Fr.cdxt] at this
    rw [Fr.getD_take _ _ _ (by omega)] at this
    exact absurd this h
theorem headB_end (l : List UInt8) (h : l.getD 255 0 ≠ 69) : headB l = false := by
  cases hb : headB l with
  | false => rfl
  | true =>
    have h2 := ((Fr.headB_iff l).1 hb).2.2.1
    have := congrArg (fun l : List UInt8 => l.getD 3 0) h2
    simp only [Fr.cdxe] at this
    rw [Fr.getD_drop] at this
    exact absurd this h
theorem noughts_at (i : Nat) : noughts.data.toList.getD i 0 = 0 := by
  have : noughts.data.toList = List.replicate 256 0 := by rw [noughts_bs]; rfl
  rw [this]
  simp only [List.getD, List.getElem?_replicate]
  split <;> rfl
theorem drop_getD (l : List UInt8) (k i : Nat) : (l.drop k).getD i 0 = l.getD (k + i) 0 := by simp [List.getD]
/-- A head that is torn, over noughts, is none. -/
theorem torn_head (x : ByteArray) (m : Nat) (hx : x.size = 256) (hm : m < 256) : headB (layB x noughts m).data.toList = false := by
  apply headB_end
  rw [layB_list]
  have hl : (x.data.toList.take m).length = m := by rw [List.length_take, Fr.str_len, hx]; omega
  rw [show (255 : Nat) = (x.data.toList.take m).length + (255 - m) by omega, Fr.getD_right, drop_getD, noughts_at]
  decide
/-- Noughts that are torn, over what is no head, are none. -/
theorem torn_noughts (old : ByteArray) (m : Nat) (h : headB old.data.toList = false) : headB (layB noughts old m).data.toList = false := by
  cases m with
  | zero => rw [layB_none]; exact h
  | succ m =>
    apply headB_begin
    rw [layB_list]
    rw [Fr.getD_left _ _ _ (by rw [List.length_take, Fr.str_len, noughts_size]; omega), Fr.getD_take _ _ _ (by omega), noughts_at]
    decide
end Go.Proofs.Ytpoekkclkohanaa
/- What lies on a device with a journal when all is well, what Open finds there and does, in plain lists. -/
namespace Go.Proofs.Ytpoekkclkohanaa
open Go.RowKit
open Fr (bs fixL nmAt headB topL unp WrOk packL)

theorem chk_log {J K : JS} (h : J.log = K.log) (n : Nat) (f : List (Int × ByteArray)) : J.chk n f = K.chk n f := by
  have h1 : ∀ x, J.chk1 n x = K.chk1 n x := fun x => by unfold JS.chk1 JS.home; rw [h]
  have h2 : J.chkL n f = K.chkL n f := by
    induction f with
    | nil => rfl
    | cons x f ih => unfold JS.chkL; rw [h1, ih]
  unfold JS.chk; rw [h2]
/-- How many blocks frames have. -/
def fsz : List (List Wr) → Nat
  | [] => 0
  | f :: F => f.length + 1 + fsz F
theorem fsz_append (A B : List (List Wr)) : fsz (A ++ B) = fsz A + fsz B := by
  induction A with
  | nil => simp [fsz]
  | cons f A ih => simp only [List.cons_append, fsz, ih]; omega
/-- Frames lie in the log from an offset on. -/
def LaidF (g : Nat → ByteArray) (log p : Nat) : Nat → Nat → List (List Wr) → Prop
  | _, _, [] => True
  | o, s, f :: F => g (2 + (p + o) % log) = bs (topL s f) ∧ (∀ j (h : j < f.length), g (2 + (p + o + (j + 1)) % log) = f[j].2) ∧ LaidF g log p (o + (f.length + 1)) (s + 1) F
theorem LaidF.congr {g g' : Nat → ByteArray} {log p : Nat} : ∀ {F : List (List Wr)} {o s : Nat}, LaidF g log p o s F → (∀ i, o ≤ i → i < o + fsz F → g' (2 + (p + i) % log) = g (2 + (p + i) % log)) → LaidF g' log p o s F
  | [], _, _, _, _ => trivial
  | f :: F, o, s, h, hg => by
    obtain ⟨h1, h2, h3⟩ := h
    have e : fsz (f :: F) = f.length + 1 + fsz F := rfl
    refine ⟨by rw [hg o (Nat.le_refl _) (by omega)]; exact h1, fun j hj => ?_, LaidF.congr h3 (fun i hi hl => hg i (by omega) (by omega))⟩
    have := hg (o + (j + 1)) (by omega) (by omega)
    rw [← Nat.add_assoc] at this
    rw [this]; exact h2 j hj
theorem LaidF.snoc {g : Nat → ByteArray} {log p : Nat} (W : List Wr) : ∀ {F : List (List Wr)} {o s : Nat}, LaidF g log p o s F → g (2 + (p + (o + fsz F)) % log) = bs (topL (s + F.length) W) → (∀ j (h : j < W.length), g (2 + (p + (o + fsz F) + (j + 1)) % log) = W[j].2) → LaidF g log p o s (F ++ [W])
  | [], o, s, _, h1, h2 => ⟨h1, h2, trivial⟩
  | f :: F, o, s, h, h1, h2 => by
    obtain ⟨a, b, c⟩ := h
    have e : fsz (f :: F) = f.length + 1 + fsz F := rfl
    refine ⟨a, b, LaidF.snoc W c ?_ ?_⟩
    · rw [show o + (f.length + 1) + fsz F = o + fsz (f :: F) by rw [e]; omega, h1]
      congr 2; simp; omega
    · intro j hj
      rw [show o + (f.length + 1) + fsz F = o + fsz (f :: F) by rw [e]; omega]
      exact h2 j hj
theorem mod_ne (p log a b : Nat) (ha : a < log) (hb : b < log) (h : a ≠ b) : (p + a) % log ≠ (p + b) % log := by
  intro e
  have : a % log = b % log := by
    have h1 : (p + a) % log = (p % log + a % log) % log := Nat.add_mod p a log
    have h2 : (p + b) % log = (p % log + b % log) % log := Nat.add_mod p b log
    rw [h1, h2, Nat.mod_eq_of_lt ha, Nat.mod_eq_of_lt hb] at e
    have hp := Nat.mod_lt p (show 0 < log by omega)
    generalize p % log = q at *
    by_cases c1 : q + a < log
    · by_cases c2 : q + b < log
      · rw [Nat.mod_eq_of_lt c1, Nat.mod_eq_of_lt c2] at e; omega
      · rw [Nat.mod_eq_of_lt c1, Nat.mod_eq_sub_mod (by omega), Nat.mod_eq_of_lt (by omega)] at e; omega
    · by_cases c2 : q + b < log
      · rw [Nat.mod_eq_of_lt c2, Nat.mod_eq_sub_mod (by omega), Nat.mod_eq_of_lt (show q + a - log < log by omega)] at e; omega
      · rw [Nat.mod_eq_sub_mod (show q + a ≥ log by omega), Nat.mod_eq_of_lt (show q + a - log < log by omega), Nat.mod_eq_sub_mod (show q + b ≥ log by omega), Nat.mod_eq_of_lt (show q + b - log < log by omega)] at e; omega
  rw [Nat.mod_eq_of_lt ha, Nat.mod_eq_of_lt hb] at this
  exact h this

/-- The slot that the next checkpoint writes. -/
def JS.tgt (J : JS) : ByteArray := slotB (J.e + 1) J.next J.log (J.pos 0 - 2)
structure Good (N : Nat) (g : Nat → ByteArray) (n : Nat) (J : JS) (F : List (List Wr)) : Prop where
  ok : J.Ok n
  n4 : n ≤ 4096
  lg : J.log = 50
  big : N < 1000000
  bnd : J.e ≤ N ∧ J.next ≤ N
  next : J.next = J.s + F.length
  full : J.full = fsz F
  room : J.full + 1 ≤ J.log
  here : g J.side = slotB J.e J.s J.log J.p
  other : ∃ old m, m ≤ 256 ∧ Older old J.e ∧ g (1 - J.side) = layB J.tgt old m ∧ g (1 - J.side) ≠ J.tgt
  laid : LaidF g J.log J.p 0 J.s F
  fine : ∀ f ∈ F, J.chk n f = 0
  stop : headB (g (J.pos 0)).data.toList = false

section
variable {N n : Nat} {g g' : Nat → ByteArray} {J : JS} {F : List (List Wr)}
/-- What lies elsewhere does not matter. -/
theorem Good.change (h : Good N g n J F) (h0 : g' J.side = g J.side) (h1 : g' (1 - J.side) = g (1 - J.side)) (hl : ∀ o, o ≤ J.full → g' (2 + (J.p + o) % J.log) = g (2 + (J.p + o) % J.log)) : Good N g' n J F := by
  refine ⟨h.ok, h.n4, h.lg, h.big, h.bnd, h.next, h.full, h.room, h0.trans h.here, ?_, ?_, h.fine, ?_⟩
  · rw [h1]; exact h.other
  · exact h.laid.congr (fun i _ hi => hl i (by rw [h.full]; omega))
  · have := hl J.full (Nat.le_refl _)
    unfold JS.pos
    rw [Nat.add_zero, this]
    exact h.stop
theorem Good.more (h : Good N g n J F) {M : Nat} (hM : N ≤ M) (hb : M < 1000000) : Good M g n J F :=
  ⟨h.ok, h.n4, h.lg, hb, ⟨Nat.le_trans h.bnd.1 hM, Nat.le_trans h.bnd.2 hM⟩, h.next, h.full, h.room, h.here, h.other, h.laid, h.fine, h.stop⟩
theorem Good.other_lt (h : Good N g n J F) (x : Nat × Nat × Nat × Nat) (hx : rdSlot (g (1 - J.side)) n = some x) : x.1 < J.e := by
  obtain ⟨old, m, hm, ho, he, hne⟩ := h.other
  have hb := h.bnd; have hbig := h.big
  have hp := h.ok.pos_lt 0
  have h1 := h.ok.l1; have h4 := h.n4
  have hx' := hx
  rw [he] at hx
  unfold JS.tgt at hx
  rcases torn_slot (J.e + 1) J.next J.log (J.pos 0 - 2) n m old (by omega) (by omega) h1 h4 (by omega) x hx with e | e
  · have := rdSlot_bytes hx'
    rw [e] at this
    exact absurd this hne
  · obtain ⟨x0, x1, x2, x3, x4⟩ := rdSlot_ok hx
    exact ho.2 x.1 x.2.1 x.2.2.1 x.2.2.2 x3 x4 (by omega) (by omega) e
end

section
variable {N n : Nat} {J : JS} {D : DevS} {F : List (List Wr)}
/-- As Open takes a journal up. -/
def JS.fresh (J : JS) : JS := { J with next := J.s, full := 0 }
theorem find_good (h : Good N (gd D.disk) n J F) (hn : D.disk.length = n) (hp : D.pend = []) : D.find = some J.fresh := by
  have hlog := h.ok.l0; have h1 := h.ok.l1
  have hrd : ∀ i, i < D.disk.length → D.slotAt i = rdSlot (gd D.disk i) n := by
    intro i hi
    unfold DevS.slotAt
    rw [if_pos hi, rdB_none i (by rw [hp]; intro x hx; cases hx), hn]
  have hs := h.ok.si
  have hh : D.slotAt J.side = some (J.e, J.s, J.log, J.p) := by
    rw [hrd _ (by omega), h.here]
    exact rdSlot_slotB _ _ _ _ _ h.ok.e64 h.ok.s64 hlog h1 h.n4 h.ok.pl
  have ho : ∀ x, D.slotAt (1 - J.side) = some x → x.1 < J.e := by
    intro x hx
    rw [hrd _ (by omega)] at hx
    exact h.other_lt x hx
  have hj : slotJ (J.e, J.s, J.log, J.p) J.side = J.fresh := rfl
  unfold DevS.find
  rcases Nat.lt_or_ge 0 J.side with h0 | h0
  · have e : J.side = 1 := by omega
    rw [e] at hh ho hj
    rw [show 1 - 1 = 0 from rfl] at ho
    rw [hh]
    cases h00 : D.slotAt 0 with
    | none => simp only; rw [hj]
    | some x =>
      simp only
      rw [if_pos (ho x h00), hj]
  · have e : J.side = 0 := by omega
    rw [e] at hh ho hj
    rw [hh]
    cases h11 : D.slotAt 1 with
    | none => simp only; rw [hj]
    | some x =>
      have := ho x h11
      simp only
      rw [if_neg (by omega), hj]

theorem frame_laid {g : Nat → ByteArray} {f : List Wr} (hn : D.disk.length = n) (h4 : n ≤ 4096) (ok : J.Ok n) (hrd : ∀ b, 2 ≤ b → b < 2 + J.log → D.rdB b = g b) (hl : LaidF g J.log J.p J.full J.next (f :: F)) (hf : J.chk n f = 0) (hr : J.full + (f.length + 1) ≤ J.log) : J.frameOf D = some f := by
  obtain ⟨a, b, _⟩ := hl
  obtain ⟨l1, l2, hw⟩ := (J.chk_ok n f).1 hf
  have hw' : ∀ x ∈ f, Fr.WrOk x := fun x hx => JS.wrok_frame h4 (hw x hx)
  have hp0 := ok.pos_lt 0
  have e0 : D.rdB (J.pos 0) = bs (topL J.next f) := by
    rw [hrd _ hp0.1 hp0.2]
    show g (2 + (J.p + J.full + 0) % J.log) = _
    rw [Nat.add_zero]; exact a
  obtain ⟨t1, t2, t3, _⟩ := Fr.top_parts J.next f ok.n64 l1 l2 hw'
  have ed : (D.rdB (J.pos 0)).data.toList = topL J.next f := by rw [e0]; rfl
  have ef : J.frameAt D = packL J.next f := by
    unfold JS.frameAt packL
    rw [ed, t2, e0]
    congr 1
    apply List.ext_getElem
    · simp
    · intro i h1 h2
      have hi : i < f.length := by simpa using h1
      simp only [List.getElem_map, List.getElem_range]
      have hpi := ok.pos_lt (i + 1)
      rw [hrd _ hpi.1 hpi.2]
      exact b i hi
  have hu := Fr.unp_pack J.next f [] ok.n64 l1 l2 hw'
  rw [List.append_nil] at hu
  unfold JS.frameOf
  rw [ef, hu, ed, hn, if_pos ⟨t1, by rw [t2]; unfold JS.left; omega, rfl, rfl, hf⟩]

/-- A journal behind some frames more. -/
def JS.after (J : JS) (F : List (List Wr)) : JS := { J with next := J.next + F.length, full := J.full + fsz F }
theorem redo_laid {g : Nat → ByteArray} (h4 : n ≤ 4096) : ∀ (F : List (List Wr)) (J : JS) (D : DevS) (m : Nat), D.disk.length = n → D.dead = false → J.Ok n → (∀ b, b < 2 + J.log → gd D.disk b = g b) → (∀ x ∈ D.pend, J.home ≤ x.1) →
    LaidF g J.log J.p J.full J.next F → (∀ f ∈ F, J.chk n f = 0) → J.full + fsz F ≤ J.log → J.next + F.length < 18446744073709551616 → headB (g (2 + (J.p + (J.full + fsz F)) % J.log)).data.toList = false → F.length < m →
    ∃ J', J.redoN D m = ((D.wrs F.flatten).1, (D.wrs F.flatten).2, J') ∧ ((D.wrs F.flatten).1 = 0 → J' = J.after F) := by
  intro F
  induction F with
  | nil =>
    intro J D m hn hde ok hg hp hl hf hr hx hs hm
    obtain ⟨m, rfl⟩ : ∃ k, m = k + 1 := ⟨m - 1, by simp at hm; omega⟩
    have hp0 := ok.pos_lt 0
    have e0 : D.rdB (J.pos 0) = g (J.pos 0) := by
      rw [rdB_none _ (fun x hx => by have := hp x hx; unfold JS.home at this; omega)]
      exact hg _ hp0.2
    have hnone : J.frameOf D = none := by
      unfold JS.frameOf
      rw [if_neg]
      intro hc
      rw [e0] at hc
      have : J.pos 0 = 2 + (J.p + (J.full + fsz [])) % J.log := by unfold JS.pos fsz; rfl
      rw [← this] at hs
      rw [hs] at hc
      exact absurd hc.1 (by simp)
    exact ⟨J, redoN_none m hnone, fun _ => by unfold JS.after fsz; simp⟩
  | cons f F ih =>
    intro J D m hn hde ok hg hp hl hf hr hx hs hm
    obtain ⟨m, rfl⟩ : ∃ k, m = k + 1 := ⟨m - 1, by simp at hm; omega⟩
    have e : fsz (f :: F) = f.length + 1 + fsz F := rfl
    have hfr : J.frameOf D = some f := frame_laid (g := g) (F := F) hn h4 ok (fun b h2 hb => by
      rw [rdB_none _ (fun x hx => by have := hp x hx; unfold JS.home at this; omega)]; exact hg b hb) hl (hf f (List.mem_cons_self ..)) (by omega)
    rw [redoN_some m hfr, List.flatten_cons]
    by_cases h0 : (D.wrs f).1 = 0
    · rw [if_neg (by rw [h0]; simp), D.wrs_append f F.flatten h0]
      have hfit : Fit D.disk.length f := fun x hx => by
        obtain ⟨a, b, c⟩ := ((J.chk_ok n f).1 (hf f (List.mem_cons_self ..))).2.2 x hx
        unfold JS.home at a
        exact ⟨by omega, by rw [hn]; omega, c⟩
      obtain ⟨k, hk⟩ := wrs_cases f D hde hfit
      obtain ⟨J', h1, h2⟩ := ih (J.grow (f.length + 1)) (D.wrs f).2 m (by rw [hk.disk]; exact hn) (D.wrs_live f hde h0) (ok.grow _ (by omega)) (by rw [hk.disk]; exact hg) (by
          intro x hx
          rw [hk.pend] at hx
          rcases List.mem_append.1 hx with hx | hx
          · exact hp x hx
          · unfold natW at hx
            obtain ⟨y, hy, rfl⟩ := List.mem_map.1 hx
            obtain ⟨a, b, c⟩ := ((J.chk_ok n f).1 (hf f (List.mem_cons_self ..))).2.2 y (List.mem_of_mem_take hy)
            show J.home ≤ y.1.toNat
            omega) (by
          have : (J.grow (f.length + 1)).next = J.next + 1 := by
            show (J.next + 1) % 18446744073709551616 = _
            rw [List.length_cons] at hx
            exact Nat.mod_eq_of_lt (by omega)
          rw [this]
          exact hl.2.2) (fun f' h' => (chk_log (J := J.grow (f.length + 1)) (K := J) rfl n f').trans (hf f' (List.mem_cons_of_mem _ h'))) (by
          show J.full + (f.length + 1) + fsz F ≤ J.log; omega) (by
          have : (J.grow (f.length + 1)).next = J.next + 1 := by
            show (J.next + 1) % 18446744073709551616 = _
            rw [List.length_cons] at hx
            exact Nat.mod_eq_of_lt (by omega)
          rw [this]; rw [List.length_cons] at hx; omega) (by
          show headB (g (2 + (J.p + (J.full + (f.length + 1) + fsz F)) % J.log)).data.toList = false
          rw [show J.full + (f.length + 1) + fsz F = J.full + fsz (f :: F) by rw [e]; omega]
          exact hs) (by rw [List.length_cons] at hm; omega)
      refine ⟨J', h1, fun h => ?_⟩
      rw [h2 h]
      unfold JS.after JS.grow
      simp only
      rw [List.length_cons] at hx
      rw [Nat.mod_eq_of_lt (show J.next + 1 < _ by omega), e, List.length_cons]
      congr 1 <;> omega
    · rw [if_pos h0, D.wrs_err f F.flatten h0]
      exact ⟨_, rfl, fun h => absurd h h0⟩
end
end Go.Proofs.Ytpoekkclkohanaa
/- Crashes, in plain lists: behind whatever is kept of what is pending, Open finds home as the commits made it. -/
namespace Go.Proofs.Ytpoekkclkohanaa
open Go.RowKit
open Fr (bs fixL nmAt headB topL unp WrOk packL)

/-- The last write of a block, or what lies there. -/
def vN (P : List (Nat × ByteArray)) (g : Nat → ByteArray) (b : Nat) : ByteArray := match P.reverse.find? (fun x => x.1 == b) with | some x => x.2 | none => g b
theorem rdB_vN (D : DevS) (b : Nat) : D.rdB b = vN D.pend (gd D.disk) b := by unfold DevS.rdB vN gd; rfl
theorem vN_append (P Q : List (Nat × ByteArray)) (g : Nat → ByteArray) (b : Nat) : vN (P ++ Q) g b = vN Q (vN P g) b := by
  unfold vN
  rw [List.reverse_append, List.find?_append]
  cases Q.reverse.find? (fun x => x.1 == b) <;> rfl
theorem vN_none {P : List (Nat × ByteArray)} {g : Nat → ByteArray} {b : Nat} (h : ∀ x ∈ P, x.1 ≠ b) : vN P g b = g b := by
  unfold vN
  have : P.reverse.find? (fun x => x.1 == b) = none := by
    rw [List.find?_eq_none]; intro x hx; have := h x (List.mem_reverse.1 hx); simpa using this
  rw [this]
theorem vN_hit {P : List (Nat × ByteArray)} {g g' : Nat → ByteArray} {b : Nat} (h : (∃ x ∈ P, x.1 = b) ∨ g b = g' b) : vN P g b = vN P g' b := by
  unfold vN
  cases hf : P.reverse.find? (fun x => x.1 == b) with
  | some x => rfl
  | none =>
    rcases h with ⟨x, hx, rfl⟩ | h
    · rw [List.find?_eq_none] at hf
      have := hf x (List.mem_reverse.2 hx)
      simp at this
    · exact h
theorem vN_at {P Q : List (Nat × ByteArray)} {x : Nat × ByteArray} {g : Nat → ByteArray} (h : ∀ y ∈ Q, y.1 ≠ x.1) : vN (P ++ x :: Q) g x.1 = x.2 := by
  rw [vN_append, show x :: Q = [x] ++ Q from rfl, vN_append, vN_none h]
  unfold vN; simp

theorem laid256 {P : List (Nat × ByteArray)} {d : List ByteArray} (b : Nat) (hb : b < d.length) (hd : ∀ s ∈ d, s.size = 256) (hp : ∀ x ∈ P, x.1 < d.length ∧ x.2.size = 256) : gd (laidTo (fun _ => 256) P d P.length) b = vN P (gd d) b := by
  have := (laidTo_get (fun _ => 256) P d P.length b (Nat.le_refl _) (fun _ _ => rfl) hb hd hp).1
  unfold gd vN
  rw [this, List.take_length]
  rfl

/-- A disk that Open takes up; what home is then. -/
structure Rec (N n : Nat) (d : List ByteArray) (H : Nat → ByteArray) (J : JS) (F : List (List Wr)) : Prop where
  len : d.length = n
  whole : ∀ s ∈ d, s.size = 256
  good : Good N (gd d) n J F
  view : ∀ b, 52 ≤ b → b < n → vN (natW F.flatten) (gd d) b = H b
/-- Whatever a crash keeps, it is such a disk. -/
def Safe (N n : Nat) (D : DevS) (P : (Nat → ByteArray) → Prop) : Prop := ∀ f : Nat → Nat, (∀ k, f k ≤ 256) → ∃ H J F, P H ∧ Rec N n (laidTo f D.pend D.disk D.pend.length) H J F
theorem Safe.mono {N n : Nat} {D : DevS} {P Q : (Nat → ByteArray) → Prop} (h : Safe N n D P) (hq : ∀ H, P H → Q H) : Safe N n D Q := fun f hf => by
  obtain ⟨H, J, F, h1, h2⟩ := h f hf; exact ⟨H, J, F, hq H h1, h2⟩
theorem Rec.more {N M n : Nat} {d : List ByteArray} {H : Nat → ByteArray} {J : JS} {F : List (List Wr)} (h : Rec N n d H J F) (hM : N ≤ M) (hb : M < 1000000) : Rec M n d H J F := ⟨h.len, h.whole, h.good.more hM hb, h.view⟩

/-- A device at work. -/
structure Pre (N n : Nat) (J : JS) (D : DevS) (H : Nat → ByteArray) (F : List (List Wr)) : Prop where
  dok : D.Ok
  live : D.dead = false
  len : D.disk.length = n
  good : Good N (gd D.disk) n J F
  pend : ∀ x ∈ D.pend, 52 ≤ x.1 ∧ ∃ y ∈ natW F.flatten, y.1 = x.1
  view : ∀ b, 52 ≤ b → b < n → vN (natW F.flatten) (gd D.disk) b = H b
  read : ∀ b, 52 ≤ b → b < n → D.rdB b = H b
structure Sync (N n : Nat) (J : JS) (D : DevS) (H : Nat → ByteArray) (F : List (List Wr)) : Prop where
  pre : Pre N n J D H F
  zero : gd D.disk (J.pos 0) = noughts
  older : Older (gd D.disk (1 - J.side)) J.e

section
variable {N n : Nat} {J : JS} {D : DevS} {H : Nat → ByteArray} {F : List (List Wr)}

/-- A pending write that does no harm: at home, of a block that the log writes anyway; or in the log, behind the next head's place. -/
def Harm (J : JS) (F : List (List Wr)) (x : Nat × ByteArray) : Prop := (52 ≤ x.1 ∧ ∃ y ∈ natW F.flatten, y.1 = x.1) ∨ ∃ o, J.full < o ∧ o < J.log ∧ x.1 = 2 + (J.p + o) % J.log
theorem good_low (h : Good N (gd D.disk) n J F) {P : List (Nat × ByteArray)} (hp : ∀ x ∈ P, Harm J F x) : (∀ x ∈ P, x.1 ≠ J.side ∧ x.1 ≠ 1 - J.side ∧ 2 ≤ x.1) ∧ (∀ x ∈ P, ∀ o, o ≤ J.full → x.1 ≠ 2 + (J.p + o) % J.log) := by
  have hs := h.ok.si; have hr := h.room; have hl := h.lg
  refine ⟨fun x hx => ?_, fun x hx o ho => ?_⟩
  · rcases hp x hx with ⟨h1, _⟩ | ⟨o, _, _, h1⟩
    · omega
    · omega
  · rcases hp x hx with ⟨h1, _⟩ | ⟨o', ho1, ho2, h1⟩
    · have := Nat.mod_lt (J.p + o) (show 0 < J.log by omega); omega
    · have := mod_ne J.p J.log o' o ho2 (by omega) (by omega); omega
theorem harm_rec {f : Nat → Nat} (hf : ∀ k, f k ≤ 256) (ok : D.Ok) (hn : D.disk.length = n) (h : Good N (gd D.disk) n J F) (hv : ∀ b, 52 ≤ b → b < n → vN (natW F.flatten) (gd D.disk) b = H b) (hp : ∀ x ∈ D.pend, Harm J F x) :
    Rec N n (laidTo f D.pend D.disk D.pend.length) H J F := by
  obtain ⟨h1, h2⟩ := good_low h hp
  refine ⟨by rw [laidTo_length]; exact hn, (ok.settled f (fun k _ => hf k)).whole, ?_, fun b hb hbn => ?_⟩
  · exact h.change (laid_other _ _ (fun x hx => (h1 x hx).1)) (laid_other _ _ (fun x hx => (h1 x hx).2.1)) (fun o ho => laid_other _ _ (fun x hx => h2 x hx o ho))
  · rw [← hv b hb hbn]
    apply vN_hit
    by_cases hx : ∃ x ∈ natW F.flatten, x.1 = b
    · exact .inl hx
    · refine .inr (laid_other _ _ (fun x hxp e => ?_))
      rcases hp x hxp with ⟨_, y, hy, hye⟩ | ⟨o, _, _, h5⟩
      · exact hx ⟨y, hy, hye.trans e⟩
      · have := Nat.mod_lt (J.p + o) (show 0 < J.log by have := h.lg; omega)
        have := h.lg
        omega
theorem Pre.safe (h : Pre N n J D H F) : Safe N n D (· = H) := fun _ hf => ⟨H, J, F, rfl, harm_rec hf h.dok h.len h.good h.view (fun x hx => .inl (h.pend x hx))⟩
end
end Go.Proofs.Ytpoekkclkohanaa
/- A checkpoint, at whatever turn the power goes: in plain lists. -/
namespace Go.Proofs.Ytpoekkclkohanaa
open Go.RowKit
open Fr (bs fixL nmAt headB topL unp WrOk packL)

section
variable {N n : Nat} {J : JS} {D : DevS} {H : Nat → ByteArray} {F : List (List Wr)}

theorem ck_zero' {D : DevS} {i : Int} (h1 : D.ck i = 0) : D.dead = false ∧ 0 ≤ i ∧ i < D.disk.length := by
  unfold DevS.ck at h1
  split at h1
  · omega
  · rename_i hd
    split at h1
    · omega
    · exact ⟨by simpa using hd, by omega, by omega⟩
theorem slot_inj {e s log p e' s' log' p' : Nat} (he : e < 18446744073709551616) (hs : s < 18446744073709551616) (hl : log < 4294967296) (hp : p < 4294967296)
    (he' : e' < 18446744073709551616) (hs' : s' < 18446744073709551616) (hl' : log' < 4294967296) (hp' : p' < 4294967296) (h : slotB e s log p = slotB e' s' log' p') : e = e' := by
  have h2 : halfL e s log p ++ halfL e s log p = halfL e' s' log' p' ++ halfL e' s' log' p' := Fr.bs_eq h
  have := congrArg (List.take 128) h2
  rw [List.take_left' (halfL_len ..), List.take_left' (halfL_len ..)] at this
  exact (half_inj he hs hl hp he' hs' hl' hp' this).1
/-- Where the next head stands behind a checkpoint. -/
theorem next_pos (ok : J.Ok n) : J.next'.pos 0 = J.pos 0 := by
  have hl := ok.l0
  show 2 + ((2 + (J.p + J.full + 0) % J.log) - 2 + 0 + 0) % J.log = 2 + (J.p + J.full + 0) % J.log
  rw [Nat.add_sub_cancel_left, Nat.add_zero, Nat.add_zero, Nat.mod_mod]
/-- Behind the slot is written. -/
theorem good_next {g : Nat → ByteArray} (h : Good N (gd D.disk) n J F) (hN : N + 1 < 1000000) (h0 : g J.side = gd D.disk J.side) (h1 : g (1 - J.side) = J.tgt) (hz : g (J.pos 0) = noughts) :
    Good (N + 1) g n J.next' [] ∧ Older (g (1 - J.next'.side)) J.next'.e ∧ g (J.next'.pos 0) = noughts := by
  have hb := h.bnd; have hl := h.lg; have hs := h.ok.si; have h4 := h.n4; have hpl := h.ok.pl; have hp0 := h.ok.pos_lt 0
  have hs64 := h.ok.s64
  have e1 : J.next'.e = J.e + 1 := Nat.mod_eq_of_lt (by omega)
  have es : 1 - J.next'.side = J.side := by show 1 - (1 - J.side) = J.side; omega
  have ez := next_pos h.ok
  have hside : g (1 - J.next'.side) = slotB J.e J.s J.log J.p := by rw [es, h0]; exact h.here
  have hold : Older (g (1 - J.next'.side)) J.next'.e := by
    rw [hside, e1]; exact older_slot _ _ _ _ h.ok.e64 hs64 (by omega) (by omega)
  have ok' := h.ok.next'
  have hp' := ok'.pos_lt 0
  refine ⟨⟨ok', h4, hl, hN, ⟨by rw [e1]; omega, by show J.next ≤ _; omega⟩, rfl, rfl, by show 0 + 1 ≤ J.log; omega, ?_, ?_, trivial, fun f hf => (by cases hf), ?_⟩, hold, by rw [ez]; exact hz⟩
  · show g (1 - J.side) = slotB J.next'.e J.next J.log (J.pos 0 - 2)
    rw [e1, h1]; rfl
  · refine ⟨g (1 - J.next'.side), 0, Nat.zero_le _, hold, by rw [layB_none], ?_⟩
    rw [hside]
    intro e
    have hll : J.next'.log = J.log := rfl
    rw [hll] at hp'
    have := slot_inj h.ok.e64 hs64 (by omega) (by omega) (by rw [e1]; omega) (by show J.next < _; omega) (by show J.log < _; omega) (by omega) e
    rw [e1] at this
    omega
  · rw [ez, hz]; exact headB_noughts
/-- What lies elsewhere does not matter, and the place behind the frames is no head still. -/
theorem Good.swap {g g' : Nat → ByteArray} (h : Good N g n J F) (h0 : g' J.side = g J.side) (h1 : g' (1 - J.side) = g (1 - J.side)) (hl : ∀ o, o < J.full → g' (2 + (J.p + o) % J.log) = g (2 + (J.p + o) % J.log)) (hs : headB (g' (J.pos 0)).data.toList = false) : Good N g' n J F := by
  refine ⟨h.ok, h.n4, h.lg, h.big, h.bnd, h.next, h.full, h.room, h0.trans h.here, ?_, ?_, h.fine, hs⟩
  · rw [h1]; exact h.other
  · exact h.laid.congr (fun i _ hi => hl i (by rw [h.full]; omega))
theorem wr_ok (ok : D.Ok) (i : Int) (s : ByteArray) : (D.wr i s).2.Ok := by
  unfold DevS.wr
  split
  · exact ok
  · rename_i h1
    split
    · exact ok
    · rename_i h2
      split
      · exact ok.tk
      · have hk : D.ck i = 0 := by simpa using h1
        obtain ⟨_, h3, h4⟩ := ck_zero' hk
        have t := ok.tk
        refine ⟨t.some, t.few, t.whole, fun x hx => ?_, t.fuse0, t.fuse1⟩
        simp only [List.mem_append, List.mem_singleton] at hx
        show x.1 < D.tk.2.disk.length ∧ _
        rw [DevS.tk_disk]
        rcases hx with hx | rfl
        · exact ok.pends x hx
        · exact ⟨by simp only; omega, by simpa using h2⟩
theorem wrs_ok (W : List Wr) : ∀ D : DevS, D.Ok → (D.wrs W).2.Ok := by
  induction W with
  | nil => intro D ok; exact ok
  | cons x r ih =>
    intro D ok
    unfold DevS.wrs
    split
    · exact wr_ok ok _ _
    · exact ih _ (wr_ok ok _ _)
theorem fl_ok (ok : D.Ok) : D.fl.2.Ok := by
  unfold DevS.fl
  split
  · exact ok
  · split
    · exact ok.tk
    · have h := ok.settled (fun _ => 256) (fun _ _ => Nat.le_refl _)
      have t := ok.tk
      exact ⟨h.some, h.few, h.whole, fun x hx => (by cases hx), t.fuse0, t.fuse1⟩
theorem stl_ok {W : List Wr} (ok : D.Ok) (_hf : Fit D.disk.length W) : (D.stl W).2.Ok := by
  unfold DevS.stl
  split
  · exact wrs_ok W D ok
  · exact fl_ok (wrs_ok W D ok)
theorem list_take_one {α : Type} (x : α) (k : Nat) (h : k ≤ [x].length) : [x].take k = [] ∨ [x].take k = [x] := by
  have : k = 0 ∨ k = 1 := by simp at h; omega
  rcases this with rfl | rfl
  · exact .inl rfl
  · exact .inr rfl

theorem ckp_safe (h : Pre N n J D H F) (hN : N + 1 < 1000000) :
    ((J.ckp D).1 = 0 ∧ Sync (N + 1) n (J.ckp D).2.2 (J.ckp D).2.1 H [] ∧ (J.ckp D).2.2 = J.next' ∧ (J.ckp D).2.1.pend = []) ∨ ((J.ckp D).1 = 4 ∧ (J.ckp D).2.1.dead = true ∧ (J.ckp D).2.1.Ok ∧ (J.ckp D).2.1.disk.length = n ∧ Safe (N + 1) n (J.ckp D).2.1 (· = H)) := by
  have hg := h.good
  have hb := hg.bnd; have hl := hg.lg; have hs := hg.ok.si; have hp0 := hg.ok.pos_lt 0; have hl1 := hg.ok.l1
  have hpq : gd D.disk = gd D.disk := rfl
  have hmod : (J.e + 1) % 18446744073709551616 = J.e + 1 := Nat.mod_eq_of_lt (by omega)
  have hpend0 : ∀ x ∈ D.pend, x.1 ≠ J.pos 0 := fun x hx => by have := (h.pend x hx).1; omega
  have hfit1 : Fit D.disk.length [(((J.pos 0 : Nat) : Int), noughts)] := by
    intro x hx; simp at hx; subst hx; rw [h.len]; exact ⟨by simp, by simp only; omega, noughts_size⟩
  have hnat1 : natW [(((J.pos 0 : Nat) : Int), noughts)] = [(J.pos 0, noughts)] := by simp [natW]
  have hlow : ∀ x ∈ D.pend, ∀ b, b < 52 → x.1 ≠ b := fun x hx b hb => by have := (h.pend x hx).1; omega
  have hoff : ∀ o, 2 + (J.p + o) % J.log < 52 := fun o => by have := Nat.mod_lt (J.p + o) (show 0 < J.log by omega); omega
  have hpos0 : J.pos 0 = 2 + (J.p + J.full) % J.log := rfl
  have hr := hg.room
  unfold JS.ckp
  simp only
  rcases stl_cases D _ h.live hfit1 with ⟨a1, a2, a3, a4⟩ | ⟨a1, a2, a3, k, hk, a4⟩
  · rw [if_neg (by rw [a1]; simp)]
    have ok1 : (D.stl [(((J.pos 0 : Nat) : Int), noughts)]).2.Ok := stl_ok h.dok hfit1
    generalize hD1 : (D.stl [(((J.pos 0 : Nat) : Int), noughts)]).2 = D1 at *
    rw [hnat1] at a3
    have hpp : ∀ x ∈ D.pend ++ [(J.pos 0, noughts)], x.1 < D.disk.length ∧ x.2.size = 256 := by
      intro x hx
      rcases List.mem_append.1 hx with hx | hx
      · exact h.dok.pends x hx
      · simp at hx; subst hx; exact ⟨by rw [h.len]; simp only; omega, noughts_size⟩
    have len1 : D1.disk.length = n := by rw [a3, laidTo_length]; exact h.len
    have g1 : ∀ b, b < n → gd D1.disk b = vN (D.pend ++ [(J.pos 0, noughts)]) (gd D.disk) b := fun b hb => by
      rw [a3]; exact laid256 b (by rw [h.len]; exact hb) h.dok.whole hpp
    have g1z : gd D1.disk (J.pos 0) = noughts := by rw [g1 _ (by omega)]; exact vN_at (P := D.pend) (Q := []) (x := (J.pos 0, noughts)) (fun y hy => by cases hy)
    have g1l : ∀ b, b < 52 → b ≠ J.pos 0 → gd D1.disk b = gd D.disk b := fun b hb hne => by
      rw [g1 b (by omega)]
      exact vN_none (fun x hx => by
        rcases List.mem_append.1 hx with hx | hx
        · exact hlow x hx b hb
        · simp at hx; subst hx; exact fun e => hne e.symm)
    have g1h : ∀ b, 52 ≤ b → b < n → gd D1.disk b = H b := fun b hb hbn => by
      rw [g1 b hbn, vN_append, vN_none (P := [(J.pos 0, noughts)]) (fun x hx => by simp at hx; subst hx; simp only; omega), ← rdB_vN]
      exact h.read b hb hbn
    have good1 : Good N (gd D1.disk) n J F := by
      have := hg.swap (g' := gd D1.disk) (g1l _ (by omega) (by omega)) (g1l _ (by omega) (by omega)) (fun o ho => g1l _ (hoff o) (by rw [hpos0]; have := mod_ne J.p J.log o J.full (by omega) (by omega) (by omega); omega)) (by rw [g1z]; exact headB_noughts)
      exact this
    have view1 : ∀ b, 52 ≤ b → b < n → vN (natW F.flatten) (gd D1.disk) b = H b := fun b hb hbn => by
      by_cases hx : ∃ x ∈ natW F.flatten, x.1 = b
      · rw [vN_hit (g' := gd D.disk) (.inl hx)]; exact h.view b hb hbn
      · rw [vN_none (fun x hx' e => hx ⟨x, hx', e⟩)]; exact g1h b hb hbn
    have htg : slotB ((J.e + 1) % 18446744073709551616) J.next J.log (J.pos 0 - 2) = J.tgt := by rw [hmod]; rfl
    rw [htg]
    have htz : J.tgt.size = 256 := slotB_size _ _ _ _
    have hfit2 : Fit D1.disk.length [(((1 - J.side : Nat) : Int), J.tgt)] := by
      intro x hx; simp only [List.mem_singleton] at hx; subst hx; rw [len1]; exact ⟨by simp only; omega, by simp only; omega, htz⟩
    have hnat2 : natW [(((1 - J.side : Nat) : Int), J.tgt)] = [(1 - J.side, J.tgt)] := by simp [natW]
    rcases stl_cases D1 _ a2 hfit2 with ⟨b1, b2, b3, b4⟩ | ⟨b1, b2, b3, k, hk, b4⟩
    · left
      rw [if_neg (by rw [b1]; simp)]
      have ok2 : (D1.stl [(((1 - J.side : Nat) : Int), J.tgt)]).2.Ok := stl_ok ok1 hfit2
      generalize hD2 : (D1.stl [(((1 - J.side : Nat) : Int), J.tgt)]).2 = D2 at *
      rw [hnat2, a4, List.nil_append] at b3
      have hpp2 : ∀ x ∈ [(1 - J.side, J.tgt)], x.1 < D1.disk.length ∧ x.2.size = 256 := by
        intro x hx; simp at hx; subst hx; exact ⟨by rw [len1]; simp only; omega, htz⟩
      have len2 : D2.disk.length = n := by rw [b3, laidTo_length]; exact len1
      have g2 : ∀ b, b < n → gd D2.disk b = vN [(1 - J.side, J.tgt)] (gd D1.disk) b := fun b hb => by
        rw [b3]; exact laid256 b (by rw [len1]; exact hb) ok1.whole hpp2
      have g2s : gd D2.disk (1 - J.side) = J.tgt := by rw [g2 _ (by omega)]; exact vN_at (P := []) (Q := []) (x := (1 - J.side, J.tgt)) (fun y hy => by cases hy)
      have g2o : ∀ b, b < n → b ≠ 1 - J.side → gd D2.disk b = gd D1.disk b := fun b hb hne => by
        rw [g2 b hb]; exact vN_none (fun x hx => by simp at hx; subst hx; exact fun e => hne e.symm)
      obtain ⟨q1, q2, q3⟩ := good_next (g := gd D2.disk) good1 hN (g2o _ (by omega) (by omega)) g2s (by rw [g2o _ (by omega) (by omega)]; exact g1z)
      refine ⟨rfl, ⟨⟨ok2, b2, len2, q1, (by rw [b4]; intro x hx; cases hx), fun b hb hbn => ?_, fun b hb hbn => ?_⟩, q3, q2⟩, rfl, b4⟩
      · rw [vN_none (fun x hx => by simp [natW] at hx), g2o b hbn (by omega)]; exact g1h b hb hbn
      · rw [rdB_none b (by rw [b4]; intro x hx; cases hx), g2o b hbn (by omega)]; exact g1h b hb hbn
    · right
      rw [if_pos (by rw [b1]; simp)]
      have ok2 : (D1.stl [(((1 - J.side : Nat) : Int), J.tgt)]).2.Ok := stl_ok ok1 hfit2
      refine ⟨b1, b2, ok2, by rw [b3]; exact len1, fun f hf => ?_⟩
      have hsz := (ok2.settled f (fun k _ => hf k)).whole
      simp only at hsz
      rw [b3, b4, a4, List.nil_append] at hsz ⊢
      rcases list_take_one _ k hk with e | e
      · rw [e] at hsz ⊢
        exact ⟨H, J, F, rfl, ⟨len1, ok1.whole, good1.more (by omega) hN, view1⟩⟩
      · rw [e, hnat2] at hsz ⊢
        have g2s := laid_one (f := f) (P := []) (disk := D1.disk) (1 - J.side) J.tgt (fun y hy => by cases hy) (by omega)
        have g2o : ∀ b, b ≠ 1 - J.side → gd (laidTo f ([] ++ [(1 - J.side, J.tgt)]) D1.disk ([] ++ [(1 - J.side, J.tgt)]).length) b = gd D1.disk b := fun b hne => laid_other b _ (fun x hx => by simp at hx; subst hx; exact fun e => hne e.symm)
        rw [List.nil_append] at g2s g2o
        have len2 : (laidTo f [(1 - J.side, J.tgt)] D1.disk [(1 - J.side, J.tgt)].length).length = n := by rw [laidTo_length]; exact len1
        generalize laidTo f [(1 - J.side, J.tgt)] D1.disk [(1 - J.side, J.tgt)].length = d2 at *
        by_cases hT : gd d2 (1 - J.side) = J.tgt
        · obtain ⟨q1, q2, q3⟩ := good_next (g := gd d2) good1 hN (g2o _ (by omega)) hT (by rw [g2o _ (by omega)]; exact g1z)
          refine ⟨H, J.next', [], rfl, ⟨len2, hsz, q1, fun b hb hbn => ?_⟩⟩
          rw [vN_none (fun x hx => by simp [natW] at hx), g2o b (by omega)]; exact g1h b hb hbn
        · obtain ⟨old, m, hm, ho, he, _⟩ := good1.other
          have hc : Good N (gd d2) n J F := by
            refine ⟨hg.ok, hg.n4, hg.lg, hg.big, hg.bnd, hg.next, hg.full, hg.room, by rw [g2o _ (by omega)]; exact good1.here, ?_, ?_, hg.fine, ?_⟩
            · refine ⟨old, max m (f 0), by have := hf 0; omega, ho, ?_, hT⟩
              rw [g2s, he, layB_twice _ _ _ _ htz hm]; rfl
            · exact good1.laid.congr (fun i _ _ => g2o _ (by omega))
            · rw [g2o _ (by omega)]; exact good1.stop
          refine ⟨H, J, F, rfl, ⟨len2, hsz, hc.more (by omega) hN, fun b hb hbn => ?_⟩⟩
          rw [vN_hit (g' := gd D1.disk) (.inr (g2o b (by omega)))]; exact view1 b hb hbn
  · right
    rw [if_pos (by rw [a1]; simp)]
    have ok1 : (D.stl [(((J.pos 0 : Nat) : Int), noughts)]).2.Ok := stl_ok h.dok hfit1
    refine ⟨a1, a2, ok1, by rw [a3]; exact h.len, fun f hf => ?_⟩
    have hsz := (ok1.settled f (fun k _ => hf k)).whole
    simp only at hsz
    rw [a3, a4] at hsz ⊢
    rcases list_take_one _ k hk with e | e
    · rw [e] at hsz ⊢
      have en : natW ([] : List Wr) = [] := rfl
      rw [en, List.append_nil] at hsz ⊢
      obtain ⟨H', J', F', hH, hR⟩ := h.safe f hf
      exact ⟨H', J', F', hH, hR.more (by omega) hN⟩
    · rw [e, hnat1] at hsz ⊢
      have g2s := laid_one (f := f) (P := D.pend) (disk := D.disk) (J.pos 0) noughts hpend0 (by rw [h.len]; omega)
      have g2l : ∀ b, b < 52 → b ≠ J.pos 0 → gd (laidTo f (D.pend ++ [(J.pos 0, noughts)]) D.disk (D.pend ++ [(J.pos 0, noughts)]).length) b = gd D.disk b := fun b hb hne => laid_other b _ (fun x hx => by
        rcases List.mem_append.1 hx with hx | hx
        · exact hlow x hx b hb
        · simp at hx; subst hx; exact fun e => hne e.symm)
      have g2h : ∀ b, 52 ≤ b → (¬ ∃ x ∈ natW F.flatten, x.1 = b) → gd (laidTo f (D.pend ++ [(J.pos 0, noughts)]) D.disk (D.pend ++ [(J.pos 0, noughts)]).length) b = gd D.disk b := fun b hb hno => laid_other b _ (fun x hx e => by
        rcases List.mem_append.1 hx with hx | hx
        · obtain ⟨_, y, hy, hye⟩ := h.pend x hx
          exact hno ⟨y, hy, hye.trans e⟩
        · simp at hx; subst hx; simp only at e; omega)
      have len2 : (laidTo f (D.pend ++ [(J.pos 0, noughts)]) D.disk (D.pend ++ [(J.pos 0, noughts)]).length).length = n := by rw [laidTo_length]; exact h.len
      generalize laidTo f (D.pend ++ [(J.pos 0, noughts)]) D.disk (D.pend ++ [(J.pos 0, noughts)]).length = d2 at *
      have hc : Good N (gd d2) n J F := hg.swap (g2l _ (by omega) (by omega)) (g2l _ (by omega) (by omega)) (fun o ho => g2l _ (hoff o) (by rw [hpos0]; have := mod_ne J.p J.log o J.full (by omega) (by omega) (by omega); omega)) (by rw [g2s]; exact torn_noughts _ _ hg.stop)
      refine ⟨H, J, F, rfl, ⟨len2, hsz, hc.more (by omega) hN, fun b hb hbn => ?_⟩⟩
      by_cases hx : ∃ x ∈ natW F.flatten, x.1 = b
      · rw [vN_hit (g' := gd D.disk) (.inl hx)]; exact h.view b hb hbn
      · rw [vN_hit (g' := gd D.disk) (.inr (g2h b hb hx))]; exact h.view b hb hbn
end
end Go.Proofs.Ytpoekkclkohanaa
/- A commit, and Open, at whatever turn the power goes: in plain lists. -/
namespace Go.Proofs.Ytpoekkclkohanaa
open Go.RowKit
open Fr (bs fixL nmAt headB topL unp WrOk packL)

section
variable {N n : Nat} {J : JS} {D : DevS} {H : Nat → ByteArray} {F : List (List Wr)} {L : List Wr}

theorem vN_unique {P : List (Nat × ByteArray)} {g : Nat → ByteArray} {x : Nat × ByteArray} (hx : x ∈ P) (hu : ∀ y ∈ P, y.1 = x.1 → y = x) : vN P g x.1 = x.2 := by
  unfold vN
  cases hf : P.reverse.find? (fun y => y.1 == x.1) with
  | none =>
    rw [List.find?_eq_none] at hf
    have := hf x (List.mem_reverse.2 hx)
    simp at this
  | some y =>
    have h1 := List.mem_reverse.1 (List.mem_of_find?_eq_some hf)
    have h2 : y.1 = x.1 := by simpa using List.find?_some hf
    simp only [hu y h1 h2]
theorem dataP (J : JS) (ds : List ByteArray) : natW (J.dataW ds) = (List.range (ds.length + 1)).map fun j => (J.pos (j + 1), (ds ++ [noughts]).getD j ByteArray.empty) := by
  unfold natW JS.dataW
  rw [List.map_append, List.map_map, List.range_succ, List.map_append]
  congr 1
  · apply List.map_congr_left
    intro i hi
    have : i < ds.length := List.mem_range.1 hi
    simp [List.getD, List.getElem?_append_left this]
  · simp [List.getD]
theorem pos_off (J : JS) (j : Nat) : J.pos j = 2 + (J.p + (J.full + j)) % J.log := by unfold JS.pos; rw [Nat.add_assoc]
theorem dataP_harm (h : J.full + L.length + 2 ≤ J.log) (x : Nat × ByteArray) (hx : x ∈ natW (J.dataW (L.map (·.2)))) : ∃ o, J.full < o ∧ o < J.log ∧ x.1 = 2 + (J.p + o) % J.log := by
  rw [dataP] at hx
  obtain ⟨j, hj, rfl⟩ := List.mem_map.1 hx
  have hj' := List.mem_range.1 hj
  rw [List.length_map] at hj'
  exact ⟨J.full + (j + 1), by omega, by omega, pos_off J (j + 1)⟩
theorem pos_ne (ok : J.Ok n) (i j : Nat) (hi : J.full + i < J.log) (hj : J.full + j < J.log) (h : i ≠ j) : J.pos i ≠ J.pos j := by
  rw [pos_off, pos_off]
  have := mod_ne J.p J.log (J.full + i) (J.full + j) hi hj (by omega)
  omega
theorem dataP_at (ok : J.Ok n) (h : J.full + L.length + 2 ≤ J.log) (Q : List (Nat × ByteArray)) (g : Nat → ByteArray) (j : Nat) (hj : j ≤ L.length) :
    vN (Q ++ natW (J.dataW (L.map (·.2)))) g (J.pos (j + 1)) = (L.map (·.2) ++ [noughts]).getD j ByteArray.empty := by
  rw [vN_append, dataP]
  refine vN_unique (x := (J.pos (j + 1), (L.map (·.2) ++ [noughts]).getD j ByteArray.empty)) (List.mem_map.2 ⟨j, List.mem_range.2 (by rw [List.length_map]; omega), rfl⟩) ?_
  intro y hy he
  obtain ⟨i, hi, rfl⟩ := List.mem_map.1 hy
  have hi' := List.mem_range.1 hi
  rw [List.length_map] at hi'
  by_cases e : i = j
  · rw [e]
  · exact absurd he (pos_ne ok (i + 1) (j + 1) (by omega) (by omega) (by omega))

/-- What a commit makes of home. -/
def put (H : Nat → ByteArray) (L : List Wr) : Nat → ByteArray := vN (natW L) H
theorem good_grow {g g' : Nat → ByteArray} (h : Good N g n J F) (hN : N + 1 < 1000000) (hc : J.chk n L = 0) (hr : J.full + L.length + 2 ≤ J.log) (hold : Older (g' (1 - J.side)) J.e) (h0 : g' J.side = g J.side)
    (hl : ∀ o, o < J.full → g' (2 + (J.p + o) % J.log) = g (2 + (J.p + o) % J.log)) (ht : g' (J.pos 0) = bs (topL J.next L)) (hd : ∀ j (hj : j < L.length), g' (J.pos (j + 1)) = L[j].2) (hz : g' (J.pos (L.length + 1)) = noughts) :
    Good (N + 1) g' n (J.grow (L.length + 1)) (F ++ [L]) ∧ g' ((J.grow (L.length + 1)).pos 0) = noughts := by
  have hb := h.bnd
  have en : (J.grow (L.length + 1)).next = J.next + 1 := Nat.mod_eq_of_lt (by omega)
  have ez : (J.grow (L.length + 1)).pos 0 = J.pos (L.length + 1) := by
    show 2 + (J.p + (J.full + (L.length + 1)) + 0) % J.log = _
    rw [Nat.add_zero, pos_off]
  have ok' := h.ok.grow (L.length + 1) (by omega)
  refine ⟨⟨ok', h.n4, h.lg, hN, ⟨by show J.e ≤ _; omega, by rw [en]; omega⟩, by rw [en, h.next, List.length_append]; rfl, by show J.full + (L.length + 1) = _; rw [fsz_append, h.full]; rfl, by show J.full + (L.length + 1) + 1 ≤ J.log; omega, h0.trans h.here, ?_, ?_, ?_, by rw [ez, hz]; exact headB_noughts⟩, by rw [ez]; exact hz⟩
  · refine ⟨g' (1 - J.side), 0, Nat.zero_le _, hold, by rw [layB_none]; rfl, fun e => ?_⟩
    have hp' := ok'.pos_lt 0
    have hll : (J.grow (L.length + 1)).log = J.log := rfl
    rw [hll] at hp'
    have hlg := h.lg
    have h128 : (g' (1 - J.side)).data.toList.drop 128 = halfL (J.e + 1) (J.grow (L.length + 1)).next J.log ((J.grow (L.length + 1)).pos 0 - 2) := by
      have e' : g' (1 - J.side) = slotB (J.e + 1) (J.grow (L.length + 1)).next J.log ((J.grow (L.length + 1)).pos 0 - 2) := e
      rw [e']
      show (halfL _ _ _ _ ++ halfL _ _ _ _).drop 128 = _
      rw [List.drop_left' (halfL_len ..)]
    have := hold.2 _ _ _ _ (by omega) (by rw [en]; omega) (by omega) (by omega) h128
    omega
  · have hl0 : LaidF g' J.log J.p 0 J.s F := h.laid.congr (fun i _ hi => hl i (by rw [h.full]; omega))
    refine hl0.snoc L ?_ ?_
    · rw [Nat.zero_add, ← h.full, ← h.next]
      have := pos_off J 0
      rw [Nat.add_zero] at this
      rw [← this]; exact ht
    · intro j hj
      rw [Nat.zero_add, ← h.full, Nat.add_assoc, ← pos_off]
      exact hd j hj
  · intro f hf
    rw [chk_log (J := J.grow (L.length + 1)) (K := J) rfl]
    rcases List.mem_append.1 hf with hf | hf
    · exact h.fine f hf
    · simp at hf; subst hf; exact hc
theorem flat_snoc (F : List (List Wr)) (L : List Wr) : natW (F ++ [L]).flatten = natW F.flatten ++ natW L := by
  rw [List.flatten_append, natW_append]; simp

/-- A commit for which there is room: the log first, then home. -/
theorem add_safe (h : Sync N n J D H F) (hN : N + 1 < 1000000) (hc : J.chk n L = 0) (hr : J.full + L.length + 2 ≤ J.log) (R : Int × DevS × JS) (hR : R = J.addF D (bs (topL J.next L)) (L.map (·.2))) :
    (R.1 = 4 ∧ R.2.1.dead = true ∧ R.2.1.Ok ∧ R.2.1.disk.length = n ∧ Safe (N + 1) n R.2.1 (fun X => X = H ∨ X = put H L)) ∨
    (R.1 = 0 ∧ R.2.2 = J.grow (L.length + 1) ∧ (((R.2.1.wrs L).1 = 0 ∧ Sync (N + 1) n (J.grow (L.length + 1)) (R.2.1.wrs L).2 (put H L) (F ++ [L])) ∨ ((R.2.1.wrs L).1 = 4 ∧ (R.2.1.wrs L).2.dead = true ∧ (R.2.1.wrs L).2.Ok ∧ (R.2.1.wrs L).2.disk.length = n ∧ Safe (N + 1) n (R.2.1.wrs L).2 (fun X => X = H ∨ X = put H L)))) := by
  have hp := h.pre
  have hg := hp.good
  have hb := hg.bnd; have hlg := hg.lg; have hs := hg.ok.si; have hp0 := hg.ok.pos_lt 0; have hl1 := hg.ok.l1; have h4 := hg.n4
  obtain ⟨l1, l2, hw⟩ := (J.chk_ok n L).1 hc
  have hw' : ∀ x ∈ L, Fr.WrOk x := fun x hx => JS.wrok_frame h4 (hw x hx)
  have hhome : J.home = 52 := by unfold JS.home; omega
  have htop : (bs (topL J.next L)).size = 256 := by rw [Fr.bs_len, Fr.topL_len _ _ l2]
  have hnl : ∀ x ∈ natW L, 52 ≤ x.1 ∧ x.1 < n ∧ x.2.size = 256 := by
    intro x hx
    obtain ⟨y, hy, rfl⟩ := List.mem_map.1 hx
    obtain ⟨a, b, c⟩ := hw y hy
    rw [hhome] at a
    exact ⟨by simp only; omega, by simp only; omega, c⟩
  have hfitL : Fit n L := fun x hx => by obtain ⟨a, b, c⟩ := hw x hx; rw [hhome] at a; exact ⟨by omega, by omega, c⟩
  have hdat : ∀ x ∈ natW (J.dataW (L.map (·.2))), x.1 < n ∧ x.2.size = 256 := by
    intro x hx
    obtain ⟨o, _, _, ho⟩ := dataP_harm hr x hx
    have hm := Nat.mod_lt (J.p + o) (show 0 < J.log by omega)
    refine ⟨by omega, ?_⟩
    rw [dataP] at hx
    obtain ⟨j, hj, rfl⟩ := List.mem_map.1 hx
    have hj' := List.mem_range.1 hj
    rw [List.length_map] at hj'
    by_cases hjl : j < L.length
    · simp [List.getD, List.getElem?_append_left, hjl]
      exact (hw _ (List.getElem_mem hjl)).2.2
    · have : j = L.length := by omega
      subst this
      simp [List.getD, noughts_size]
  have hfit1 : Fit D.disk.length (J.dataW (L.map (·.2))) := by
    intro x hx
    have h1 : (x.1.toNat, x.2) ∈ natW (J.dataW (L.map (·.2))) := List.mem_map.2 ⟨x, hx, rfl⟩
    have h2 := hdat _ h1
    have h3 : 0 ≤ x.1 := by
      unfold JS.dataW at hx
      rcases List.mem_append.1 hx with hx | hx
      · obtain ⟨i, _, rfl⟩ := List.mem_map.1 hx; simp only; omega
      · simp at hx; subst hx; simp only; omega
    rw [hp.len]
    exact ⟨h3, by have := h2.1; simp only at this; omega, h2.2⟩
  have hlow : ∀ x ∈ D.pend, ∀ b, b < 52 → x.1 ≠ b := fun x hx b hb => by have := (hp.pend x hx).1; omega
  have hoff : ∀ o, 2 + (J.p + o) % J.log < 52 := fun o => by have := Nat.mod_lt (J.p + o) (show 0 < J.log by omega); omega
  subst hR
  unfold JS.addF
  simp only
  rcases stl_cases D _ hp.live hfit1 with ⟨a1, a2, a3, a4⟩ | ⟨a1, a2, a3, k, hk, a4⟩
  · rw [if_neg (by rw [a1]; simp)]
    have ok1 : (D.stl (J.dataW (L.map (·.2)))).2.Ok := stl_ok hp.dok hfit1
    generalize hD1 : (D.stl (J.dataW (L.map (·.2)))).2 = D1 at *
    have hpp : ∀ x ∈ D.pend ++ natW (J.dataW (L.map (·.2))), x.1 < D.disk.length ∧ x.2.size = 256 := by
      intro x hx
      rcases List.mem_append.1 hx with hx | hx
      · exact hp.dok.pends x hx
      · rw [hp.len]; exact hdat x hx
    have len1 : D1.disk.length = n := by rw [a3, laidTo_length]; exact hp.len
    have g1 : ∀ b, b < n → gd D1.disk b = vN (D.pend ++ natW (J.dataW (L.map (·.2)))) (gd D.disk) b := fun b hb => by
      rw [a3]; exact laid256 b (by rw [hp.len]; exact hb) hp.dok.whole hpp
    have g1d : ∀ j, j ≤ L.length → gd D1.disk (J.pos (j + 1)) = (L.map (·.2) ++ [noughts]).getD j ByteArray.empty := fun j hj => by
      have := hg.ok.pos_lt (j + 1)
      rw [g1 _ (by omega)]; exact dataP_at hg.ok hr D.pend _ j hj
    have g1l : ∀ b, b < 52 → (∀ o, J.full < o → o < J.log → b ≠ 2 + (J.p + o) % J.log) → gd D1.disk b = gd D.disk b := fun b hb hne => by
      rw [g1 b (by omega)]
      exact vN_none (fun x hx => by
        rcases List.mem_append.1 hx with hx | hx
        · exact hlow x hx b hb
        · obtain ⟨o, h1, h2, h3⟩ := dataP_harm hr x hx
          rw [h3]; exact fun e => hne o h1 h2 e.symm)
    have g1o : ∀ o, o ≤ J.full → gd D1.disk (2 + (J.p + o) % J.log) = gd D.disk (2 + (J.p + o) % J.log) := fun o ho => g1l _ (hoff o) (fun o' h1 h2 => by
      have := mod_ne J.p J.log o o' (by omega) h2 (by omega); omega)
    have g1s : gd D1.disk J.side = gd D.disk J.side ∧ gd D1.disk (1 - J.side) = gd D.disk (1 - J.side) := ⟨g1l _ (by omega) (fun o _ _ => by omega), g1l _ (by omega) (fun o _ _ => by omega)⟩
    have g1h : ∀ b, 52 ≤ b → b < n → gd D1.disk b = H b := fun b hb hbn => by
      rw [g1 b hbn, vN_append, vN_none (P := natW (J.dataW (L.map (·.2)))) (fun x hx => by obtain ⟨o, _, _, h3⟩ := dataP_harm hr x hx; have := hoff o; omega), ← rdB_vN]
      exact hp.read b hb hbn
    have good1 : Good N (gd D1.disk) n J F := hg.change g1s.1 g1s.2 g1o
    have hpz : J.pos 0 = 2 + (J.p + J.full) % J.log := rfl
    have zero1 : gd D1.disk (J.pos 0) = noughts := by rw [hpz, g1o _ (Nat.le_refl _), ← hpz]; exact h.zero
    have view1 : ∀ b, 52 ≤ b → b < n → vN (natW F.flatten) (gd D1.disk) b = H b := fun b hb hbn => by
      by_cases hx : ∃ x ∈ natW F.flatten, x.1 = b
      · rw [vN_hit (g' := gd D.disk) (.inl hx)]; exact hp.view b hb hbn
      · rw [vN_none (fun x hx' e => hx ⟨x, hx', e⟩)]; exact g1h b hb hbn
    have hfit2 : Fit D1.disk.length [(((J.pos 0 : Nat) : Int), bs (topL J.next L))] := by
      intro x hx; simp only [List.mem_singleton] at hx; subst hx; rw [len1]; exact ⟨by simp only; omega, by simp only; omega, htop⟩
    have hnat2 : natW [(((J.pos 0 : Nat) : Int), bs (topL J.next L))] = [(J.pos 0, bs (topL J.next L))] := by simp [natW]
    -- whatever disk has the whole head
    have whole : ∀ g' : Nat → ByteArray, g' (J.pos 0) = bs (topL J.next L) → (∀ b, b ≠ J.pos 0 → b < n → g' b = gd D1.disk b) →
        (Good (N + 1) g' n (J.grow (L.length + 1)) (F ++ [L]) ∧ g' ((J.grow (L.length + 1)).pos 0) = noughts) ∧ ∀ b, 52 ≤ b → b < n → vN (natW (F ++ [L]).flatten) g' b = put H L b := by
      intro g' ht ho
      have hne : ∀ j, J.full + (j + 1) < J.log → J.pos (j + 1) ≠ J.pos 0 := fun j hj => pos_ne hg.ok (j + 1) 0 hj (by omega) (by omega)
      have hpl : ∀ j, J.pos j < n := fun j => by have := hg.ok.pos_lt j; omega
      refine ⟨good_grow good1 hN hc hr ?_ (ho _ (by omega) (by omega)) (fun o ho' => ho _ (by rw [hpz]; have := mod_ne J.p J.log o J.full (by omega) (by omega) (by omega); omega) (by have := hoff o; omega)) ht (fun j hj => ?_) ?_, fun b hb hbn => ?_⟩
      · rw [ho _ (by omega) (by omega), g1s.2]; exact h.older
      · rw [ho _ (hne j (by omega)) (hpl _), g1d j (by omega)]
        simp [List.getD, List.getElem?_append_left, hj]
      · rw [ho _ (hne L.length (by omega)) (hpl _), g1d L.length (Nat.le_refl _)]
        simp [List.getD]
      · rw [flat_snoc, vN_append]
        unfold put
        apply vN_hit
        right
        rw [vN_hit (g' := gd D1.disk) (.inr (ho b (by omega) hbn))]
        exact view1 b hb hbn
    rcases stl_cases D1 _ a2 hfit2 with ⟨b1, b2, b3, b4⟩ | ⟨b1, b2, b3, k, hk, b4⟩
    · right
      rw [if_neg (by rw [b1]; simp)]
      have ok2 : (D1.stl [(((J.pos 0 : Nat) : Int), bs (topL J.next L))]).2.Ok := stl_ok ok1 hfit2
      generalize hD2 : (D1.stl [(((J.pos 0 : Nat) : Int), bs (topL J.next L))]).2 = D2 at *
      rw [hnat2, a4, List.nil_append] at b3
      have hpp2 : ∀ x ∈ [(J.pos 0, bs (topL J.next L))], x.1 < D1.disk.length ∧ x.2.size = 256 := by
        intro x hx; simp at hx; subst hx; exact ⟨by rw [len1]; simp only; omega, htop⟩
      have len2 : D2.disk.length = n := by rw [b3, laidTo_length]; exact len1
      have g2 : ∀ b, b < n → gd D2.disk b = vN [(J.pos 0, bs (topL J.next L))] (gd D1.disk) b := fun b hb => by
        rw [b3]; exact laid256 b (by rw [len1]; exact hb) ok1.whole hpp2
      have g2s : gd D2.disk (J.pos 0) = bs (topL J.next L) := by rw [g2 _ (by omega)]; exact vN_at (P := []) (Q := []) (x := (J.pos 0, bs (topL J.next L))) (fun y hy => by cases hy)
      have g2o : ∀ b, b ≠ J.pos 0 → b < n → gd D2.disk b = gd D1.disk b := fun b hne hb => by
        rw [g2 b hb]; exact vN_none (fun x hx => by simp at hx; subst hx; exact fun e => hne e.symm)
      obtain ⟨⟨q1, q2⟩, q3⟩ := whole (gd D2.disk) g2s g2o
      refine ⟨rfl, by rw [List.length_map], ?_⟩
      obtain ⟨k, hk⟩ := wrs_cases L D2 b2 (by rw [len2]; exact hfitL)
      have ok3 := wrs_ok L D2 ok2
      have hpn : (D2.wrs L).2.pend = natW (L.take k) := by rw [hk.pend, b4, List.nil_append]
      have hin : ∀ x ∈ natW L, ∃ y ∈ natW (F ++ [L]).flatten, y.1 = x.1 := fun x hx => ⟨x, by rw [flat_snoc]; exact List.mem_append_right _ hx, rfl⟩
      have hsub : ∀ x ∈ (D2.wrs L).2.pend, 52 ≤ x.1 ∧ ∃ y ∈ natW (F ++ [L]).flatten, y.1 = x.1 := by
        intro x hx
        rw [hpn] at hx
        have hx' : x ∈ natW L := by
          obtain ⟨y, hy, rfl⟩ := List.mem_map.1 hx
          exact List.mem_map.2 ⟨y, List.mem_of_mem_take hy, rfl⟩
        exact ⟨(hnl x hx').1, hin x hx'⟩
      rcases hk.how with ⟨c1, c2, c3⟩ | ⟨c1, c2⟩
      · left
        refine ⟨c1, ⟨⟨ok3, c3, by rw [hk.disk]; exact len2, by rw [hk.disk]; exact q1, hsub, by rw [hk.disk]; exact q3, fun b hb hbn => ?_⟩, by rw [hk.disk]; exact q2, by rw [hk.disk]; show Older (gd D2.disk (1 - J.side)) J.e; rw [g2o _ (by omega) (by omega), g1s.2]; exact h.older⟩⟩
        rw [rdB_vN, hpn, c2, List.take_length, hk.disk]
        unfold put
        apply vN_hit
        right
        rw [g2o b (by omega) hbn]; exact g1h b hb hbn
      · right
        refine ⟨c1, c2, ok3, by rw [hk.disk]; exact len2, fun f hf => ⟨put H L, _, _, .inr rfl, harm_rec hf ok3 (by rw [hk.disk]; exact len2) (by rw [hk.disk]; exact q1) (by rw [hk.disk]; exact q3) (fun x hx => .inl (hsub x hx))⟩⟩
    · left
      rw [if_pos (by rw [b1]; simp)]
      have ok2 : (D1.stl [(((J.pos 0 : Nat) : Int), bs (topL J.next L))]).2.Ok := stl_ok ok1 hfit2
      refine ⟨b1, b2, ok2, by rw [b3]; exact len1, fun f hf => ?_⟩
      have hsz := (ok2.settled f (fun k _ => hf k)).whole
      simp only at hsz
      rw [b3, b4, a4, List.nil_append] at hsz ⊢
      rcases list_take_one _ k hk with e | e
      · rw [e] at hsz ⊢
        exact ⟨H, J, F, .inl rfl, ⟨len1, ok1.whole, good1.more (by omega) hN, view1⟩⟩
      · rw [e, hnat2] at hsz ⊢
        have g2s := laid_one (f := f) (P := []) (disk := D1.disk) (J.pos 0) (bs (topL J.next L)) (fun y hy => by cases hy) (by omega)
        have g2o : ∀ b, b ≠ J.pos 0 → gd (laidTo f ([] ++ [(J.pos 0, bs (topL J.next L))]) D1.disk ([] ++ [(J.pos 0, bs (topL J.next L))]).length) b = gd D1.disk b := fun b hne => laid_other b _ (fun x hx => by simp at hx; subst hx; exact fun e => hne e.symm)
        rw [List.nil_append] at g2s g2o
        have len2 : (laidTo f [(J.pos 0, bs (topL J.next L))] D1.disk [(J.pos 0, bs (topL J.next L))].length).length = n := by rw [laidTo_length]; exact len1
        generalize laidTo f [(J.pos 0, bs (topL J.next L))] D1.disk [(J.pos 0, bs (topL J.next L))].length = d2 at *
        rw [zero1] at g2s
        by_cases hT : f ([] : List (Nat × ByteArray)).length = 256
        · rw [hT, layB_all _ _ htop noughts_size] at g2s
          obtain ⟨⟨q1, _⟩, q3⟩ := whole (gd d2) g2s (fun b hne _ => g2o b hne)
          exact ⟨put H L, _, _, .inr rfl, ⟨len2, hsz, q1, q3⟩⟩
        · have hlt : f ([] : List (Nat × ByteArray)).length < 256 := by have := hf ([] : List (Nat × ByteArray)).length; omega
          have hc2 : Good N (gd d2) n J F := good1.swap (g2o _ (by omega)) (g2o _ (by omega)) (fun o ho => g2o _ (by rw [hpz]; have := mod_ne J.p J.log o J.full (by omega) (by omega) (by omega); omega)) (by rw [g2s]; exact torn_head _ _ htop hlt)
          refine ⟨H, J, F, .inl rfl, ⟨len2, hsz, hc2.more (by omega) hN, fun b hb hbn => ?_⟩⟩
          rw [vN_hit (g' := gd D1.disk) (.inr (g2o b (by omega)))]; exact view1 b hb hbn
  · left
    rw [if_pos (by rw [a1]; simp)]
    have ok1 : (D.stl (J.dataW (L.map (·.2)))).2.Ok := stl_ok hp.dok hfit1
    refine ⟨a1, a2, ok1, by rw [a3]; exact hp.len, fun f hf => ⟨H, J, F, .inl rfl, Rec.more (harm_rec hf ok1 (by rw [a3]; exact hp.len) (by rw [a3]; exact hg) (by rw [a3]; exact hp.view) ?_) (by omega) hN⟩⟩
    intro x hx
    rw [a4] at hx
    rcases List.mem_append.1 hx with hx | hx
    · exact .inl (hp.pend x hx)
    · have hx' : x ∈ natW (J.dataW (L.map (·.2))) := by
        obtain ⟨y, hy, rfl⟩ := List.mem_map.1 hx
        exact List.mem_map.2 ⟨y, List.mem_of_mem_take hy, rfl⟩
      exact .inr (dataP_harm hr x hx')
end
end Go.Proofs.Ytpoekkclkohanaa
