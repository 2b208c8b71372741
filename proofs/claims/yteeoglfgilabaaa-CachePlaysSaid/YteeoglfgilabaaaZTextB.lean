/- Rows of 256 bytes, and the texts that they are turned into. -/
import Derived.Test.YteeoglfgilabaaaZBase
import Derived.Lib.Hide
import Derived.Laws.BytesArg

namespace Go.Proofs.Yteeoglfgilabaaa
open Go.RowKit

/-- 256 numbers, of which the first k are f's, the others 0. -/
def rowI (f : Nat → Int) (k : Nat) : List Int := (List.range 256).map fun i => if i < k then f i else 0
theorem rowI_length (f : Nat → Int) (k : Nat) : (rowI f k).length = 256 := by simp [rowI]
theorem rowI_get (f : Nat → Int) (k i : Nat) (h : i < 256) : (rowI f k)[i]? = some (if i < k then f i else 0) := by simp [rowI, h]
theorem rowI_set (f : Nat → Int) (k : Nat) (h : k < 256) : (rowI f k).set k (f k) = rowI f (k + 1) := by
  apply List.ext_getElem?
  intro i
  by_cases hi : i < 256
  · rw [List.getElem?_set, rowI_get f (k + 1) i hi, rowI_length]
    by_cases e : k = i
    · subst e; simp [h]
    · simp only [e, if_false]
      rw [rowI_get f k i hi]
      by_cases h2 : i < k
      · rw [if_pos h2, if_pos (by omega)]
      · rw [if_neg h2, if_neg (by omega)]
  · rw [List.getElem?_eq_none (by simp [rowI_length]; omega), List.getElem?_eq_none (by simp [rowI_length]; omega)]
theorem rowI_stay (f : Nat → Int) (k : Nat) (h : f k = 0) : rowI f k = rowI f (k + 1) := by
  unfold rowI
  apply List.map_congr_left
  intro i _
  by_cases h2 : i < k
  · rw [if_pos h2, if_pos (by omega)]
  · by_cases e : i = k
    · subst e; simp [h]
    · rw [if_neg h2, if_neg (by omega)]
theorem zeros_any (f : Nat → Int) (n : Nat) : ((List.range n).map fun i => if i < 0 then f i else 0).map (Value.int .u8) = List.replicate n (Value.int .u8 0) := by
  induction n with
  | zero => rfl
  | succ n ih => rw [List.range_succ, List.map_append, List.map_append, ih, List.replicate_succ']; rfl
theorem rowI_zero (f : Nat → Int) : (rowI f 0).map (Value.int .u8) = List.replicate 256 (Value.int .u8 0) := zeros_any f 256
/-- The text of 256 bytes that f tells. -/
def textOf (f : Nat → Int) : ByteArray := strOfNums (rowI f 256)
theorem textOf_size (f : Nat → Int) : (textOf f).size = 256 := by unfold textOf; rw [strOfNums_size, rowI_length]
theorem textOf_eq (f : Nat → Int) : strOfNums (rowI f 256) = textOf f := rfl


/-- A row of 256 bytes at block g. -/
def Row (B : Nat) (w : World) (g : Nat) (f : Nat → Int) (k : Nat) : Prop := w.ownsRow B 5 1 (.slice (some ⟨g, 0, none⟩) 256 256) 256 ((rowI f k).map (Value.int .u8))
theorem Row.cell {B : Nat} {w : World} {g : Nat} {f : Nat → Int} {k : Nat} (h : Row B w g f k) (i : Nat) (hi : i < 256) : w.cell? ⟨g, i, none⟩ = some (.int .u8 (if i < k then f i else 0)) := by
  rw [World.ownsRow.cellAt h i (by omega), List.getElem?_map, rowI_get f k i hi]; rfl
theorem Row.free {B : Nat} {w : World} {g : Nat} {f : Nat → Int} {k : Nat} (h : Row B w g f k) (i : Nat) : w.frozen? ⟨g, i, none⟩ = false := World.ownsRow.frozenAt h i
theorem Row.store {B : Nat} {w : World} {g : Nat} {f : Nat → Int} {k : Nat} (h : Row B w g f k) (hk : k < 256) : Row B (w.setCell ⟨g, k, none⟩ (.int .u8 (f k))) g f (k + 1) := by
  have := (World.ownsRow.stored h k (.int .u8 (f k))).1
  unfold Row
  rw [← rowI_set f k hk, List.map_set]
  exact this
theorem Row.text {B : Nat} {w : World} {g : Nat} {f : Nat → Int} (h : Row B w g f 256) : (convert 74 9 (.slice (some ⟨g, 0, none⟩) 256 256)).run Try.prog w = .ok (.string (textOf f)) w := by
  refine run_convert_bytes_arg w 74 5 Try.underlying74 Try.underlying5 g 0 256 256 (rowI f 256) (rowI_length f 256) ?_ 9 Try.underlying9
  intro i hi
  rw [Nat.zero_add, h.cell i hi]
  simp [List.getD, rowI_get f 256 i hi]

end Go.Proofs.Yteeoglfgilabaaa
