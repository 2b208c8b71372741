/- BlockOthers answers true for every number, every list of acts, every crash and every number of a block, and changes nothing that was there: the walk. -/
import Derived.Test.YtlikbfdfaccekaaOthers1
namespace Go.Proofs.Ytlikbfdfaccekaa
open Go.RowKit

/-- The statement's early ends. -/
def okAll (L : List ActS) (A : ActS) : Bool := smallB L && decide (A.keep.length ≤ 200) && decide (A.data.size ≤ 600)

set_option maxRecDepth 100000 in
set_option maxHeartbeats 4000000 in
theorem others_early (n : Int) (v : Value) (A : ActS) (at_ : Int) (L : List ActS) (w : World) (h : Acts w v L) (hA : A.Ok w) (hx : okAll L A = false) :
    Calls Try.prog 5 #[.int .i64 n, v, .agg #[.int .i64 A.op, .int .i64 A.at_, .int .i64 A.n, .slice A.kao A.keep.length A.kcap, .string A.data], .int .i64 at_] w fun e w' => e = .returned (.bool true) ∧ Below w.heap.size w w' := by
  obtain ⟨ao, cap, hv⟩ : ∃ ao cap, v = .slice ao L.length cap := by obtain ⟨_, _, ao, cap, hv, _⟩ := h; exact ⟨ao, cap, hv⟩
  obtain ⟨wb, hwb⟩ : ∃ wb, w.alloc (.cells #[.int .i64 A.op, .int .i64 A.at_, .int .i64 A.n, .slice A.kao A.keep.length A.kcap, .string A.data] 37) = wb := ⟨_, rfl⟩
  have hbk : wb.heap[w.heap.size]? = some (.cells #[.int .i64 A.op, .int .i64 A.at_, .int .i64 A.n, .slice A.kao A.keep.length A.kcap, .string A.data] 37 (0, 0)) := by rw [← hwb, heap_alloc_new]
  have hb0 : Below w.heap.size w wb := by rw [← hwb]; exact (Below.refl _ _).alloc (Nat.le_refl _) _
  have hz : w.heap.size < wb.heap.size := by rw [← hwb]; simp
  have hk3 : wb.cell? ⟨w.heap.size, 3, none⟩ = some (.slice A.kao A.keep.length A.kcap) := by rw [cell_at hbk]; rfl
  have hk4 : wb.cell? ⟨w.heap.size, 4, none⟩ = some (.string A.data) := by rw [cell_at hbk]; rfl
  have HA := Lib.hid (h.mono hb0); have HWB := Lib.hid hwb; have HB0 := Lib.hid hb0
  have hlk := hA.klen; have hld := hA.dlen
  clear h hwb hbk hb0 hA
  obtain ⟨m, hm⟩ : ∃ m, L.length = m := ⟨_, rfl⟩
  rw [hm] at hv
  clear hm
  subst hv
  have hcase : smallB L = false ∨ (smallB L = true ∧ 200 < A.keep.length) ∨ (smallB L = true ∧ A.keep.length ≤ 200 ∧ 600 < A.data.size) := by
    unfold okAll at hx
    cases hs : smallB L
    · exact .inl rfl
    · rw [hs] at hx
      by_cases h1 : A.keep.length ≤ 200
      · by_cases h2 : A.data.size ≤ 600
        · simp [h1, h2] at hx
        · exact .inr (.inr ⟨rfl, h1, by omega⟩)
      · exact .inr (.inl ⟨rfl, by omega⟩)
  clear hx
  generalize A.keep.length = kl at *
  rcases hcase with hs | ⟨hs, h1⟩ | ⟨hs, h1, h2⟩
  all_goals
    have HS := Lib.hid hs; clear hs
    go_enter Try.func5, Try.ntmps5
    go_wp2_with fail
    rw [HWB.out]
    refine (shown_any _).mono ?_
    rintro e w1 ⟨rfl, hb1⟩
    have c := small_any HA.out hb1; rw [HS.out] at c
    have C := Lib.hid c; clear c
    have k3 := (hb1.cell (p := ⟨w.heap.size, 3, none⟩) hz).trans hk3
    have k4 := (hb1.cell (p := ⟨w.heap.size, 4, none⟩) hz).trans hk4
    have HB1 := Lib.hid hb1; clear hb1
    go_wp2_with fail
    refine C.out.mono ?_
    rintro e w1' ⟨rfl, rfl⟩
    clear C
    go_wp2
    go_ret
    exact ⟨rfl, HB0.out.trans (HB1.out.mono (by omega))⟩

end Go.Proofs.Ytlikbfdfaccekaa
