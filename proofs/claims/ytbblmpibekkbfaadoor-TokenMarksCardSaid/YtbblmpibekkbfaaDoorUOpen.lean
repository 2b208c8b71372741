/- Arguments that came in, read: for the statements of layer 10. -/
import Derived.Test.YtbblmpibekkbfaaDoorLaw
import Derived.SliceStrings
namespace Go.Proofs.YtbblmpibekkbfaaDoor
open Go.ChangeShapes Go.WideShapes Go.ChangeAt Go.RowKit

theorem wf_i64' {k : Int} (h : (Lit.int .i64 k).wf = true) : -9223372036854775808 ≤ k ∧ k ≤ 9223372036854775807 := by
  simpa [Lit.wf, IntKind.min, IntKind.max, IntKind.signed, IntKind.bits] using h
end Go.Proofs.YtbblmpibekkbfaaDoor
