/- Rows of writes of one's own; a slice that reads as writes; slices.SortFunc over such a row. -/
import Derived.Test.YteeoglfgilabaaaZCMath
import Derived.Test.YteeoglfgilabaaaZCBase
import Derived.Shelf.SlSortCmp.WholeK
import Derived.Shelf.Lay
import Derived.Ground.SlsfProg

-- NONE
namespace Go.Proofs.Yteeoglfgilabaaa
open Go.RowKit

abbrev Wr := Int × ByteArray
abbrev encW (x : Wr) : List Value := [.int .i64 x.1, .string x.2]
/-- The cells of a row of writes. -/
def flatI : List Wr → List Value
  | [] => []
  | x :: r => .int .i64 x.1 :: .string x.2 :: flatI r
theorem flatI_length (l : List Wr) : (flatI l).length = l.length * 2 := by
  induction l with
  | nil => rfl
  | cons x r ih => simp [flatI, ih]; omega
theorem flatI_append (l m : List Wr) : flatI (l ++ m) = flatI l ++ flatI m := by
  induction l with
  | nil => rfl
  | cons x r ih => simp [flatI, ih]
theorem flatI_fst (l : List Wr) (i : Nat) (h : i < l.length) : (flatI l)[i * 2]? = some (.int .i64 (l[i]).1) := by
  induction l generalizing i with
  | nil => cases h
  | cons x r ih =>
    cases i with
    | zero => rfl
    | succ j =>
      have e : (j + 1) * 2 = j * 2 + 1 + 1 := by omega
      rw [e]; simpa [flatI] using ih j (by simpa using h)
theorem flatI_snd (l : List Wr) (i : Nat) (h : i < l.length) : (flatI l)[i * 2 + 1]? = some (.string (l[i]).2) := by
  induction l generalizing i with
  | nil => cases h
  | cons x r ih =>
    cases i with
    | zero => rfl
    | succ j =>
      have e : (j + 1) * 2 + 1 = j * 2 + 1 + 1 + 1 := by omega
      rw [e]; simpa [flatI] using ih j (by simpa using h)
/-- A row of writes of one's own, in blocks from B on. -/
def OwnW (B : Nat) (w : World) (v : Value) (L : List Wr) : Prop := w.ownsRow B 50 2 v L.length (flatI L)
theorem OwnW.nil (B : Nat) (w : World) : OwnW B w (.slice none 0 0) [] := World.ownsRow_nil _ _ _ _
theorem OwnW.below {B : Nat} {w w' : World} {v : Value} {L : List Wr} (h : OwnW B w v L) (hb : Below w.heap.size w w') : OwnW B w' v L := by
  refine ⟨h.1, ?_⟩
  rcases h.2 with hn | ⟨g, cap, cur, rfl, hB, hg, rest⟩
  · exact .inl hn
  · exact .inr ⟨g, cap, cur, rfl, hB, by rw [hb.block g (Array.getElem?_eq_some_iff.1 hg).1]; exact hg, rest⟩
theorem own_pushW {B : Nat} {w1 : World} {v1 : Value} {M : List Wr} {i : Int} {s : ByteArray} (hown : w1.ownsRow B 50 2 v1 (M.length + 1) (flatI M ++ [.int .i64 i, .string s])) : OwnW B w1 v1 (M ++ [(i, s)]) := by
  unfold OwnW
  rw [List.length_append, flatI_append]
  exact hown
theorem two_cells {w : World} {t : TypeId} {i : Int} {s : ByteArray} {g : Nat} (hg : w.heap.size = g) : ∀ (j : Nat) (u : Value), [Value.int .i64 i, Value.string s][j]? = some u → (w.alloc (.cells #[.int .i64 i, .string s] t)).cell? ((⟨g, 0, none⟩ : Addr).add j) = some u := by
  subst hg
  intro j u hu
  have hadd : (⟨w.heap.size, 0, none⟩ : Addr).add j = ⟨w.heap.size, j, none⟩ := by unfold Addr.add; split <;> simp_all
  rw [hadd, cell_at (heap_alloc_new ..)]
  simpa using hu
theorem two_one {i : Int} {s : ByteArray} : ∀ u ∈ [Value.int .i64 i, Value.string s], u.oneCell' = true := by
  intro u hu
  simp only [List.mem_cons, List.not_mem_nil, or_false] at hu
  rcases hu with rfl | rfl <;> rfl
theorem _root_.Go.Proofs.Try.infoW : (Try.prog.info? 50).map (fun i => (i.zero, i.size, i.bytes)) = some (some (.agg #[.int .i64 0, .string ⟨#[]⟩]), 2, 24) := by kernel_rfl

/-- What reads as writes. -/
def SlW (w : World) (v : Value) (L : List Wr) : Prop := ∃ ao c, v = .slice ao L.length c ∧ (L = [] ∨ ∃ b, ao = some ⟨b, 0, none⟩ ∧ b < w.heap.size ∧ ∀ j (h : j < L.length), w.cell? ⟨b, j * 2, none⟩ = some (.int .i64 L[j].1) ∧ w.cell? ⟨b, j * 2 + 1, none⟩ = some (.string L[j].2))
theorem SlW.below {w w' : World} {v : Value} {L : List Wr} (h : SlW w v L) (hb : Below w.heap.size w w') : SlW w' v L := by
  obtain ⟨ao, c, hv, h⟩ := h
  refine ⟨ao, c, hv, ?_⟩
  rcases h with h | ⟨b, e, hlt, hc⟩
  · exact .inl h
  · exact .inr ⟨b, e, Nat.lt_of_lt_of_le hlt hb.size, fun j hj => ⟨(hb.cell (p := ⟨b, j * 2, none⟩) hlt).trans (hc j hj).1, (hb.cell (p := ⟨b, j * 2 + 1, none⟩) hlt).trans (hc j hj).2⟩⟩

theorem flatK_at (M : List Wr) (j : Nat) (h : j < M.length * 2) : (flatI M)[j]? = some (Sort.flatK encW 2 M.toArray)[j]! := by
  rw [Sort.get_flatK _ _ _ _ (by simpa using h)]
  have h2 : j / 2 < M.length := by omega
  have e0 : M.toArray[j / 2]! = M[j / 2] := by simp [h2]
  rw [e0]
  rcases Nat.mod_two_eq_zero_or_one j with e | e
  · rw [e]
    have := flatI_fst M (j / 2) h2
    rw [show j / 2 * 2 = j by omega] at this
    rw [this]; rfl
  · rw [e]
    have := flatI_snd M (j / 2) h2
    rw [show j / 2 * 2 + 1 = j by omega] at this
    rw [this]; rfl
theorem own_holdsW {B : Nat} {w : World} {g c : Nat} {M : List Wr} (h : OwnW B w (.slice (some ⟨g, 0, none⟩) M.length c) M) : Sort.HoldsK encW 2 w g 0 M.toArray := by
  intro j hj
  have hj' : j < M.length * 2 := by simpa using hj
  refine ⟨?_, World.ownsRow.frozenAt h _⟩
  rw [Nat.zero_add, World.ownsRow.cellAt h j (by rw [Nat.mul_comm] at hj'; omega)]
  exact flatK_at M j hj'
end Go.Proofs.Yteeoglfgilabaaa
