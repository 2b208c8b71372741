/- What a slice of numbers or of texts that came in is. -/
import Derived.Test.YtojneafmdlohoaaWText
namespace Go.Proofs.Ytojneafmdlohoaa
open Go.RowKit

/-- A slice of numbers that came in. -/
def NumsA (W : World) (v : Value) (L : List Nat) : Prop := ∃ ao c, v = .slice ao L.length c ∧ (∀ x ∈ L, x < 18446744073709551616) ∧
  (L = [] ∨ ∃ b off, ao = some ⟨b, off, none⟩ ∧ b < W.heap.size ∧ ∀ j (h : j < L.length), W.cell? ⟨b, off + j, none⟩ = some (.int .u64 (L[j] : Int)))

/-- A slice of texts that came in. -/
def StrsA (W : World) (v : Value) (L : List ByteArray) : Prop := ∃ ao c, v = .slice ao L.length c ∧ L.length ≤ maxLen ∧ (∀ x ∈ L, x.size ≤ maxLen) ∧
  (L = [] ∨ ∃ b off, ao = some ⟨b, off, none⟩ ∧ b < W.heap.size ∧ ∀ j (h : j < L.length), W.cell? ⟨b, off + j, none⟩ = some (.string L[j]))
end Go.Proofs.Ytojneafmdlohoaa
