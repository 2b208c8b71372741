/- Arguments that came in, read: rows of texts, for the statements of layer 11. -/
import Derived.Test.YtbblmpibekkbfaaDoorTSame
import Derived.Test.YtbblmpibekkbfaaDoorUOpen
import Derived.SliceStrings
import Derived.Deep.Slices
namespace Go.Proofs.YtbblmpibekkbfaaDoor
open Go.ChangeShapes Go.WideShapes Go.ChangeAt Go.RowKit Go.Deep

theorem addr_plainT {w : World} {a : Addr} {v : Value} (h : w.cell? a = some v) : ∃ b off, a = ⟨b, off, none⟩ := by
  obtain ⟨b, off, spot⟩ := a
  unfold World.cell? at h
  split at h
  · cases spot with
    | none => exact ⟨b, off, rfl⟩
    | some s => simp at h
  · cases h
theorem cells_strT : Tryd.prog.cellsOf 9 = 1 := by kernel_rfl
section
variable {H : Type} {enc : TypeId × Value → H} {W : World} {held : Bool}
theorem open_strsT {v : Value} {d : DataW H} {ps : List MemPlace} {r : Reach} {b0 : Nat} (hv : Value.okWide Tryd.prog W r b0 27 v) (h : DataW.Trod enc Tryd.prog W 0 (fun _ => true) held 27 v d ps) : ∃ L, RdT W v L ∧ L.length ≤ maxLen ∧ ∀ x ∈ L, x.size ≤ maxLen := by
  obtain ⟨ao, len, cap, rfl⟩ := okWide_slice Tryd.underlying27 hv
  obtain ⟨fuel, hf⟩ := h
  have hf' : DataW.trod enc Tryd.prog W 0 (fun _ => true) held fuel 27 [.slice ao len cap] = some (d, ps) := by simpa [Value.cells] using hf
  rcases open_strings Tryd.underlying27 Tryd.underlying9 cells_strT hf' with ⟨hcs, _⟩ | ⟨a, len', cap', ss, hcs, _, hl, hm, hz, _, hcell, hw⟩
  · simp only [List.cons.injEq, and_true] at hcs
    cases hcs
    exact ⟨[], ⟨none, 0, rfl, fun j hj => absurd hj (by simp)⟩, by simp, fun x hx => by cases hx⟩
  · simp only [List.cons.injEq, and_true] at hcs
    cases hcs
    simp only [if_true] at hz
    have hL : (ss.take len).length = len := by simp; omega
    refine ⟨ss.take len, ⟨some a, cap, by rw [hL], fun j hj => ?_⟩, by omega, fun x hx => hw x (List.mem_of_mem_take hx)⟩
    have hj' : j < len := by rw [hL] at hj; exact hj
    have hz' : j < ss.length := by omega
    have hc := hcell j hz'
    have hc0 := hcell 0 (by omega)
    obtain ⟨b, off, hab⟩ := addr_plainT hc0
    have ha : a = ⟨b, off, none⟩ := by simpa [Addr.add] using hab
    subst ha
    rw [add_atT] at hc
    refine ⟨b, off, rfl, World.block_lt_of_cell? W _ hc0, ?_⟩
    rw [hc, List.getElem_take]
    simp [List.getD, hz']
end
end Go.Proofs.YtbblmpibekkbfaaDoor
