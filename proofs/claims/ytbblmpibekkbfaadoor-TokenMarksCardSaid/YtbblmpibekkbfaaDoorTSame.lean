/- Rows of tokens, and of texts, that read as a list: and what the statements' own helpers answer of two that read alike. -/
import Derived.Test.YtbblmpibekkbfaaDoorTTermsW
import Derived.Deep.QuietTactic
namespace Go.Proofs.YtbblmpibekkbfaaDoor
open Go.RowKit

def RdK (w : World) (v : Value) (L : List (ByteArray × Int)) : Prop := ∃ ao c, v = .slice ao L.length c ∧ ∀ j (hj : j < L.length), ∃ g off, ao = some ⟨g, off, none⟩ ∧ g < w.heap.size ∧ w.cell? ⟨g, off + j * 2, none⟩ = some (.string L[j].1) ∧ w.cell? ⟨g, off + j * 2 + 1, none⟩ = some (.int .i64 L[j].2)
def RdT (w : World) (v : Value) (L : List ByteArray) : Prop := ∃ ao c, v = .slice ao L.length c ∧ ∀ j (hj : j < L.length), ∃ g off, ao = some ⟨g, off, none⟩ ∧ g < w.heap.size ∧ w.cell? ⟨g, off + j, none⟩ = some (.string L[j])
theorem RdK.below {w w' : World} {v : Value} {L : List (ByteArray × Int)} (h : RdK w v L) (hb : Below w.heap.size w w') : RdK w' v L := by
  obtain ⟨ao, c, hv, hc⟩ := h
  refine ⟨ao, c, hv, fun j hj => ?_⟩
  obtain ⟨g, off, e, hg, h1, h2⟩ := hc j hj
  exact ⟨g, off, e, Nat.lt_of_lt_of_le hg hb.size, (hb.cell (p := ⟨g, _, none⟩) hg).trans h1, (hb.cell (p := ⟨g, _, none⟩) hg).trans h2⟩
theorem RdT.below {w w' : World} {v : Value} {L : List ByteArray} (h : RdT w v L) (hb : Below w.heap.size w w') : RdT w' v L := by
  obtain ⟨ao, c, hv, hc⟩ := h
  refine ⟨ao, c, hv, fun j hj => ?_⟩
  obtain ⟨g, off, e, hg, h1⟩ := hc j hj
  exact ⟨g, off, e, Nat.lt_of_lt_of_le hg hb.size, (hb.cell (p := ⟨g, _, none⟩) hg).trans h1⟩
theorem KRow.rd {B : Nat} {w : World} {v : Value} {L : List (ByteArray × Int)} (h : KRow B w v L) : RdK w v L := by
  obtain ⟨ao, c, hv, hc⟩ := h.sl
  refine ⟨ao, c, hv, fun j hj => ?_⟩
  obtain ⟨g, e, hg, h1, h2⟩ := hc j hj
  exact ⟨g, 0, e, hg, by rw [Nat.zero_add]; exact h1, by rw [Nat.zero_add]; exact h2⟩
theorem TRow.rd {B : Nat} {w : World} {v : Value} {L : List ByteArray} (h : TRow B w v L) : RdT w v L := by
  obtain ⟨ao, c, hv, hc⟩ := h.sl
  refine ⟨ao, c, hv, fun j hj => ?_⟩
  obtain ⟨g, e, hg, h1⟩ := hc j hj
  exact ⟨g, 0, e, hg, by rw [Nat.zero_add]; exact h1⟩
/-- A literal reads as its list. -/
theorem lit_rdK {w : World} {cs : Array Value} {t : TypeId} {n c : Nat} (L : List (ByteArray × Int)) (h : cs.toList = flatK L) (hn : L.length = n) : RdK (w.alloc (.cells cs t)) (.slice (some ⟨w.heap.size, 0, none⟩) n c) L := by
  subst hn
  refine ⟨_, _, rfl, fun j hj => ⟨w.heap.size, 0, rfl, by simp, ?_, ?_⟩⟩
  · rw [cell_atT (heap_alloc_newT ..), ← Array.getElem?_toList, h, Nat.zero_add, Nat.mul_comm]
    exact (flatK_get L j hj).1
  · rw [cell_atT (heap_alloc_newT ..), ← Array.getElem?_toList, h, Nat.zero_add, Nat.mul_comm]
    exact (flatK_get L j hj).2
theorem lit_rdT {w : World} {cs : Array Value} {t : TypeId} {n c : Nat} (L : List ByteArray) (h : cs.toList = L.map Value.string) (hn : L.length = n) : RdT (w.alloc (.cells cs t)) (.slice (some ⟨w.heap.size, 0, none⟩) n c) L := by
  subst hn
  refine ⟨_, _, rfl, fun j hj => ⟨w.heap.size, 0, rfl, by simp, ?_⟩⟩
  rw [cell_atT (heap_alloc_newT ..), ← Array.getElem?_toList, h, Nat.zero_add, List.getElem?_map, List.getElem?_eq_getElem hj]
  rfl
theorem below_lit {w : World} (o : Obj) : Below w.heap.size w (w.alloc o) := (Below.refl _ _).alloc (Nat.le_refl _) _
set_option maxRecDepth 100000 in
set_option maxHeartbeats 4000000 in
theorem sameK_any (L : List (ByteArray × Int)) (va vb : Value) (w : World) (ha : RdK w va L) (hb : RdK w vb L) (hn : L.length ≤ 100000) :
    Calls Tryd.prog 9 #[va, vb] w fun e w' => e = .returned (.bool true) ∧ Below w.heap.size w w' := by
  obtain ⟨ao, c, rfl, hca⟩ := ha
  obtain ⟨ao', c', rfl, hcb⟩ := hb
  have HA := Lib.hid hca
  have HB := Lib.hid hcb
  obtain ⟨n, hl⟩ : ∃ n, L.length = n := ⟨_, rfl⟩
  have HN := Lib.hid hl
  rw [hl] at hn ⊢
  have hnn : ((n : Int) != (n : Int)) = false := by simp
  clear hl hca hcb
  go_enter Tryd.func9, Tryd.ntmps9
  go_wp2_with fail
  go_loopw [5] (fun iv wr => ∃ i : Nat, i ≤ n ∧ iv = .int .i64 (i : Int) ∧ Hid (Below w.heap.size w wr)) (fun iv _ => n - (intOf iv).toNat)
  case atStart => exact ⟨0, Nat.zero_le _, rfl, Below.refl _ _⟩
  case round =>
    obtain ⟨i, hi, rfl, HBr⟩ := hrel
    by_cases hlt : i < n
    · have hiz : (i : Int) < (n : Int) := by omega
      have hiL : i < L.length := by rw [HN.out]; exact hlt
      obtain ⟨g, off, rfl, hg, h1, h2⟩ := HA.out i hiL
      obtain ⟨g', off', rfl, hg', h1', h2'⟩ := HB.out i hiL
      have x1 := (HBr.out.cell (p := ⟨g, _, none⟩) hg).trans h1
      have x2 := (HBr.out.cell (p := ⟨g, _, none⟩) hg).trans h2
      have y1 := (HBr.out.cell (p := ⟨g', _, none⟩) hg').trans h1'
      have y2 := (HBr.out.cell (p := ⟨g', _, none⟩) hg').trans h2'
      clear h1 h2 h1' h2' hg hg'
      generalize L[i] = f at *
      clear hiL
      obtain ⟨T, p⟩ := f
      dsimp only at x1 x2 y1 y2
      have hq0 : (T.toList == T.toList) = true := by simp
      have hq1 : (p == p) = true := by simp
      go_wp2_with fail
      go_quiet (fail)
      have HBn : Hid (Below w.heap.size w (wr.drewN nq)) := by have := HBr.out; exact ⟨this.os, this.tape, this.output, this.size, this.block⟩
      clear x1 x2 y1 y2
      go_wp2_with fail
      go_roundw
      case rel => exact ⟨i + 1, by omega, by go_num, HBn⟩
      case measure => simp [intOf]; omega
    · obtain rfl : i = n := by omega
      have hiz : ¬ (i : Int) < (i : Int) := by omega
      go_wp2_with fail
      go_ret
      exact ⟨rfl, HBr.out⟩
set_option maxRecDepth 100000 in
set_option maxHeartbeats 4000000 in
theorem sameT_any (L : List ByteArray) (va vb : Value) (w : World) (ha : RdT w va L) (hb : RdT w vb L) (hn : L.length ≤ 100000) :
    Calls Tryd.prog 12 #[va, vb] w fun e w' => e = .returned (.bool true) ∧ Below w.heap.size w w' := by
  obtain ⟨ao, c, rfl, hca⟩ := ha
  obtain ⟨ao', c', rfl, hcb⟩ := hb
  have HA := Lib.hid hca
  have HB := Lib.hid hcb
  obtain ⟨n, hl⟩ : ∃ n, L.length = n := ⟨_, rfl⟩
  have HN := Lib.hid hl
  rw [hl] at hn ⊢
  have hnn : ((n : Int) != (n : Int)) = false := by simp
  clear hl hca hcb
  go_enter Tryd.func12, Tryd.ntmps12
  go_wp2_with fail
  go_loopw [5] (fun iv wr => ∃ i : Nat, i ≤ n ∧ iv = .int .i64 (i : Int) ∧ Hid (Below w.heap.size w wr)) (fun iv _ => n - (intOf iv).toNat)
  case atStart => exact ⟨0, Nat.zero_le _, rfl, Below.refl _ _⟩
  case round =>
    obtain ⟨i, hi, rfl, HBr⟩ := hrel
    by_cases hlt : i < n
    · have hiz : (i : Int) < (n : Int) := by omega
      have hiL : i < L.length := by rw [HN.out]; exact hlt
      obtain ⟨g, off, rfl, hg, h1⟩ := HA.out i hiL
      obtain ⟨g', off', rfl, hg', h1'⟩ := HB.out i hiL
      have x1 := (HBr.out.cell (p := ⟨g, _, none⟩) hg).trans h1
      have y1 := (HBr.out.cell (p := ⟨g', _, none⟩) hg').trans h1'
      clear h1 h1' hg hg'
      generalize L[i] = T at *
      clear hiL
      have hq0 : (T.toList == T.toList) = true := by simp
      go_wp2_with fail
      go_quiet (fail)
      have HBn : Hid (Below w.heap.size w (wr.drewN nq)) := by have := HBr.out; exact ⟨this.os, this.tape, this.output, this.size, this.block⟩
      clear x1 y1
      go_wp2_with fail
      go_roundw
      case rel => exact ⟨i + 1, by omega, by go_num, HBn⟩
      case measure => simp [intOf]; omega
    · obtain rfl : i = n := by omega
      have hiz : ¬ (i : Int) < (i : Int) := by omega
      go_wp2_with fail
      go_ret
      exact ⟨rfl, HBr.out⟩
end Go.Proofs.YtbblmpibekkbfaaDoor
