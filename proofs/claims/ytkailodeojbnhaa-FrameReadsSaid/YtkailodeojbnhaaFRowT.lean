/- A text as bytes of one's own, and back. -/
import Derived.Test.YtkailodeojbnhaaFMath
import Derived.Laws.IdiomStrings
namespace Go.Proofs.Ytkailodeojbnhaa
open Go.RowKit

/-- Bytes in a block of one's own. -/
def FRow (w : World) (g : Nat) (l : List UInt8) : Prop := ∀ j (h : j < l.length), w.cell? ⟨g, j, none⟩ = some (.int .u8 (l[j].toNat : Int)) ∧ w.frozen? ⟨g, j, none⟩ = false

theorem bytes_new (w : World) (s : ByteArray) : ∃ cap W2, (convert 9 34 (.string s)).run Try.prog w = .ok (.slice (some ⟨w.heap.size, 0, none⟩) s.size cap) W2 ∧ FRow W2 w.heap.size s.data.toList ∧ Below w.heap.size w W2 := by
  refine ⟨_, _, run_bytes_of_string w 9 34 5 s Try.underlying9 Try.underlying34 Try.underlying5, ?_, (Below.refl _ _).drew.alloc (Nat.le_refl _) _⟩
  intro j hj
  have hj' : j < s.size := by rw [str_len] at hj; exact hj
  have hsz : s.size ≤ (bytesRow s (grownCap w s.size 0 5)).size := by unfold bytesRow; rw [Array.size_append, Array.size_map]; exact Nat.le_add_right _ _
  refine ⟨?_, ?_⟩
  · rw [show w.heap.size = w.drew.heap.size from rfl, World.cell?_alloc_mark]
    unfold bytesRow
    rw [Array.getElem?_append_left (by rw [Array.size_map]; exact hj'), Array.getElem?_map, Array.getElem?_eq_getElem (show j < s.data.size from hj')]
    rfl
  · rw [show w.heap.size = w.drew.heap.size from rfl, World.frozen?_alloc_mark, decide_eq_false (by omega)]; rfl

theorem FRow.put {w : World} {g : Nat} {l : List UInt8} (h : FRow w g l) (i : Nat) (hi : i < l.length) (b : UInt8) : FRow (w.setCell ⟨g, i, none⟩ (.int .u8 (b.toNat : Int))) g (l.set i b) := by
  intro j hj
  have hj' : j < l.length := by simpa using hj
  refine ⟨?_, by rw [World.frozen?_setCell]; exact (h j hj').2⟩
  by_cases e : j = i
  · subst e
    rw [World.cell?_setCell_same' _ _ _ (by rw [(h j hj').1]; rfl)]
    simp
  · rw [World.cell?_setCell_other _ _ _ _ (by simp), (h j hj').1]
    simp [Ne.symm e]
theorem FRow.text {w : World} {g cap : Nat} {l : List UInt8} (h : FRow w g l) : (convert 34 9 (.slice (some ⟨g, 0, none⟩) l.length cap)).run Try.prog w = .ok (.string (bs l)) w :=
  run_convert_bytes_back w 34 9 5 ⟨g, 0, none⟩ cap l Try.underlying34 Try.underlying5 Try.underlying9 (fun j hj => by
    rw [show (⟨g, 0, none⟩ : Addr).add j = ⟨g, 0 + j, none⟩ by unfold Addr.add; split <;> simp_all, Nat.zero_add]
    exact (h j hj).1)
theorem FRow.drewN {w : World} {g : Nat} {l : List UInt8} (h : FRow w g l) (n : Nat) : FRow (w.drewN n) g l := h
theorem FRow.below {w w' : World} {g : Nat} {l : List UInt8} (h : FRow w g l) (hb : Below w.heap.size w w') (hg : g < w.heap.size) : FRow w' g l := fun j hj =>
  ⟨(hb.cell (p := ⟨g, j, none⟩) hg).trans (h j hj).1, (hb.frozen (p := ⟨g, j, none⟩) hg).trans (h j hj).2⟩
/-- A byte of a raw number. -/
def byteOf (t : Int) : UInt8 := UInt8.ofNat (t % 256).toNat
theorem byteOf_val (t : Int) : ((byteOf t).toNat : Int) = t % 256 := by
  unfold byteOf
  rw [UInt8.toNat_ofNat']
  omega
end Go.Proofs.Ytkailodeojbnhaa
