/- From the walks to the tied statements of this seat: what the listed variables hold when a call begins, and the witness in which they are laid. -/
import Derived.Test.YtbblmpibekkbfaaDoorUOpen
import Derived.Test.YtbblmpibekkbfaaDoorUTab
import Derived.Test.YtbblmpibekkbfaaDoorShelf
import Derived.Test.YtbblmpibekkbfaaDoorCards
import Derived.Test.YtbblmpibekkbfaaDoorTie
import Derived.Lay
import Derived.LaidOnce
import Derived.SevenTiedAt
namespace Go.Proofs.YtbblmpibekkbfaaDoor
open Go.ChangeShapes Go.WideShapes Go.ChangeAt Go.RowKit Go.Lib

def laidU : List (String × DataW Unit) := [("unicode/utf8.acceptRanges", Rows.laid_unicode_utf8_acceptRanges), ("codex/utf.kinds", Rows.laid_codex_utf_kinds), ("codex/utf.folds", Rows.laid_codex_utf_folds), ("unicode/utf8.first", Rows.laid_unicode_utf8_first)]
theorem accept_data : (Rows.laid_unicode_utf8_acceptRanges : DataW Unit) = acceptData := by kernel_rfl
theorem first_data : Rows.laid_unicode_utf8_first = firstData := Pinned.utf8First_eq
theorem u8x : U8Extra Tryd.prog Tryd.lays197_ren := ⟨by kernel_rfl, by kernel_rfl, by kernel_rfl, by kernel_rfl, by kernel_rfl, by kernel_rfl, by kernel_rfl⟩
theorem u8t : U8Types Tryd.prog Tryd.lays197_ren := { Tryd.lays197 with }
/-- What a statement's condition on the variables gives the walks. -/
theorem tabs_of {W : World} (h : laidMetH Tryd.prog laidU W) : Tabs W := by
  rw [MakeChecks.laidMetH_plain _ _ _ (by kernel_rfl)] at h
  have h1 := Lib.laidMet.reads h (n := "unicode/utf8.acceptRanges") (d := Rows.laid_unicode_utf8_acceptRanges) (.head _)
  have h2 := Lib.laidMet.reads h (n := "codex/utf.kinds") (d := Rows.laid_codex_utf_kinds) (.tail _ (.head _))
  have h3 := Lib.laidMet.reads h (n := "codex/utf.folds") (d := Rows.laid_codex_utf_folds) (.tail _ (.tail _ (.head _)))
  have h4 := Lib.laidMet.reads h (n := "unicode/utf8.first") (d := Rows.laid_unicode_utf8_first) (.tail _ (.tail _ (.tail _ (.head _))))
  rw [accept_data] at h1
  rw [first_data] at h4
  exact ⟨utf8Tabs_of_readsT u8t u8x h4 h1, kinds_at h2, folds_at h3⟩
/-- The witness's world: the variables laid. -/
noncomputable def witW (os : Os) : World := World.laidAll Tryd.prog os laidU
theorem wit_os (os : Os) : (witW os).os = os := World.laidAll_os _ _ _
theorem wit_shaped (os : Os) : (witW os).Shaped Tryd.prog := World.shaped_of_ZipB (by kernel_rfl) (by kernel_rfl)
theorem wit_met (os : Os) (args : Array Value) : laidMetH Tryd.prog laidU ((witW os).forCall (fun _ _ => 0) ⟨#[], args, []⟩).memory := by
  rw [MakeChecks.laidMetH_plain _ _ _ (by kernel_rfl)]; exact laidMet_laidAll _ (by kernel_rfl) (by kernel_rfl)
end Go.Proofs.YtbblmpibekkbfaaDoor
