/- Arguments that came in, read: numbers, texts, slices of numbers and of texts. -/
import Derived.Test.YtojneafmdlohoaaLaw
import Derived.Test.YtojneafmdlohoaaWText
import Derived.SliceStrings
import Derived.Deep.Slices
namespace Go.Proofs.Ytojneafmdlohoaa
open Go.ChangeShapes Go.WideShapes Go.ChangeAt Go.RowKit Go.Deep

theorem nat_u32 {k : Int} (h : (Lit.int .u32 k).wf = true) : ∃ n : Nat, k = (n : Int) ∧ n < 4294967296 := by
  have h2 : 0 ≤ k ∧ k ≤ 4294967295 := by simpa [Lit.wf, IntKind.min, IntKind.max, IntKind.signed, IntKind.bits] using h
  exact ⟨k.toNat, by omega, by omega⟩
theorem nat_u64 {k : Int} (h : (Lit.int .u64 k).wf = true) : ∃ n : Nat, k = (n : Int) ∧ n < 18446744073709551616 := by
  have h2 : 0 ≤ k ∧ k ≤ 18446744073709551615 := by simpa [Lit.wf, IntKind.min, IntKind.max, IntKind.signed, IntKind.bits] using h
  exact ⟨k.toNat, by omega, by omega⟩
theorem wf_i64' {k : Int} (h : (Lit.int .i64 k).wf = true) : -9223372036854775808 ≤ k ∧ k ≤ 9223372036854775807 := by
  simpa [Lit.wf, IntKind.min, IntKind.max, IntKind.signed, IntKind.bits] using h
end Go.Proofs.Ytojneafmdlohoaa
