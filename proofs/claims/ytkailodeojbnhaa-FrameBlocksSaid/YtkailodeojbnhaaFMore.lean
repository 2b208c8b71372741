/- What the statements ask of whole frames, in plain lists and as contracts that they share. -/
import Derived.Test.YtkailodeojbnhaaFShown
import Derived.Test.YtkailodeojbnhaaFOpen
namespace Go.Proofs.Ytkailodeojbnhaa
open Go.RowKit

theorem maxLen_of {n : Nat} (h : n ≤ 1000000) : n ≤ maxLen := by unfold maxLen; omega
theorem pk_whole (seq : Nat) (L : List (Int × ByteArray)) (h : 1 ≤ L.length) : pk seq (wholeL L) = (packL seq (wholeL L), 0) := by
  unfold pk
  rw [if_pos ((chk_ok _).2 ⟨by rw [wholeL_len]; omega, by rw [wholeL_len]; omega, wholeL_ok L⟩)]
theorem packL_len (seq : Nat) (M : List (Int × ByteArray)) : (packL seq M).length = M.length + 1 := by unfold packL; simp
theorem packL_sizes (seq : Nat) (M : List (Int × ByteArray)) (h48 : M.length ≤ 48) (h : ∀ x ∈ M, WrOk x) : ∀ d ∈ packL seq M, d.size = 256 := by
  intro d hd
  unfold packL at hd
  rcases List.mem_cons.1 hd with rfl | hd
  · rw [bs_len]; exact topL_len seq M h48
  · obtain ⟨x, hx, rfl⟩ := List.mem_map.1 hd
    exact (h x hx).2.2
theorem packL_zero (seq : Nat) (M : List (Int × ByteArray)) : (packL seq M)[0]? = some (bs (topL seq M)) := rfl
theorem packL_succ (seq : Nat) (M : List (Int × ByteArray)) (k : Nat) (h : k < M.length) : (packL seq M)[k + 1]? = some M[k].2 := by
  simp [packL, h]
theorem StrsAt.at? {w : World} {b off : Nat} {L : List ByteArray} (h : StrsAt w b off L) {j : Nat} {s : ByteArray} (hj : L[j]? = some s) : w.cell? ⟨b, off + j, none⟩ = some (.string s) := by
  obtain ⟨hl, e⟩ := List.getElem?_eq_some_iff.1 hj
  rw [h j hl, e]
theorem StrsAt.taken {w : World} {b off : Nat} {L : List ByteArray} (h : StrsAt w b off L) (j : Nat) : StrsAt w b off (L.take j) := fun i hi => by
  have : i < L.length := by rw [List.length_take] at hi; omega
  rw [h i this, List.getElem_take]
theorem sl_taken {w : World} {g c : Nat} {L : List ByteArray} (h : StrsAt w g 0 L) (hg : g < w.heap.size) (j : Nat) (hj : j ≤ L.length) (hc : L.length ≤ c) : SlS w (.slice (some ⟨g, 0, none⟩) j c) (L.take j) := by
  have e : (L.take j).length = j := by rw [List.length_take]; omega
  refine ⟨some ⟨g, 0, none⟩, c, by rw [e], by rw [e]; omega, .inr ⟨g, 0, rfl, hg, h.taken j⟩⟩
theorem pick_nat (c : Int) (n : Nat) (h : 1 ≤ n) : ∃ j : Nat, j < n ∧ pickI c (n : Int) = (j : Int) := by
  have := pickI_lt c (n : Int) (by omega)
  exact ⟨(pickI c n).toNat, by omega, by omega⟩
end Go.Proofs.Ytkailodeojbnhaa
