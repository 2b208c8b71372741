/- What the program answers: over what landed. -/
import Derived.Test.YtbblmpibekkbfaaDoorTTrmsP
namespace Go.Proofs.YtbblmpibekkbfaaDoor
open Go.RowKit

def TabsT (w : World) : Prop := Tabs w
theorem TabsT.below {w w' : World} (h : TabsT w) (hb : Below w.heap.size w w') : TabsT w' := Tabs.below h hb
theorem ptokens_any (s : ByteArray) (w : World) (hT : TabsT w) (hs : s.size ≤ 10000) : Calls Tryd.prog 10 #[.string s] w fun e w' => ∃ v, e = .returned v ∧ RdK w' v (tokL s) ∧ NewV w.heap.size v ∧ Below w.heap.size w w' := ptokens0_any s w hT (by omega)
theorem pterms_any (s : ByteArray) (w : World) (hT : TabsT w) (hs : s.size ≤ 10000) : Calls Tryd.prog 13 #[.string s] w fun e w' => ∃ v, e = .returned v ∧ RdT w' v (trmL s) ∧ Below w.heap.size w w' := pterms0_any s w hT (by omega)
theorem pstop_any (s : ByteArray) (w : World) (_hs : s.size ≤ 10000) : Calls Tryd.prog 15 #[.string s] w fun e w' => e = .returned (.bool (isStop s.data.toList)) ∧ Below w.heap.size w w' := pstop0_any s w
theorem pfoldedT_any (s : ByteArray) (w : World) (hT : TabsT w) (hs : s.size ≤ 10000) : Calls Tryd.prog 17 #[.string s] w fun e w' => e = .returned (.string (utxt (foldedL s.data.toList))) ∧ Below w.heap.size w w' := pfolded_any s w hT (by omega)
/-- A text that was folded has at the most four times its bytes (also in UWalks, of the utf seat). -/
theorem folded_lenT (L : List UInt8) : (foldedL L).length ≤ 4 * L.length := by
  suffices h : ∀ k (L : List UInt8), L.length ≤ k → (foldedL L).length ≤ 4 * L.length from h _ L (Nat.le_refl _)
  intro k
  induction k with
  | zero => intro L h; rw [List.length_eq_zero_iff.1 (show L.length = 0 by omega)]; exact Nat.le_refl _
  | succ k ih =>
    intro L h
    by_cases hL : L = []
    · subst hL; exact Nat.le_refl _
    · have hp := rune_pos hL
      have i1 := ih (L.drop (runeL L).2) (by rw [List.length_drop]; omega)
      rw [folded_step hL, List.length_append]
      rw [List.length_drop] at i1
      have : (if (runeL L).1 < 0 then L.take 1 else byts (foldR (runeL L).1.toNat)).length ≤ 4 := by
        split
        · rw [List.length_take]; omega
        · rw [byts_len]; split; omega; split; omega; split <;> omega
      omega
end Go.Proofs.YtbblmpibekkbfaaDoor
