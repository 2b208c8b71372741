/-
  NARROWER THAN 'FOR EVERY INPUT', by the rows' own cells (each row's printed sentence says how): TokenWords: laid · TokenFolds: laid · TokenJoins: laid · TokenMarks: laid · TokenStops: laid.
  DERIVED. THE GIVEN ROWS OF THIS SEAT. 5 by the template 'for every input the law returns true; each argument reads behind the call as it read before'; 0 by the template 'total and deterministic' (their statements: YtbblmpibekkbfaaDoorTotals.lean).
  GIVEN WITH THE SEED: the statements are not yours to turn. If you find one false, say at which input.
  Laid BY PROGRAM, IN A SANDBOX (cutbox-rows.mjs): the forced cells as the released guide's own fill.sh prints them over the translation 8cde963403b6eef5… (all of the seat's roots in one cut). By AI agents, Wed Nov 11 2026. No macro, syntax, notation, axiom, sorry.
-/
import Derived.Test.YtbblmpibekkbfaaDoorChecked
import GoSem.PinnedTables
import GoSem.Claim
import GoSem.ClaimJoined
import GoSem.ClaimMapViews
import Derived.JoinedTies
import Derived.KernelRfl
namespace Go.Proofs.YtbblmpibekkbfaaDoor
/- THE CELL 'sum', in the pinned program and in every row, IS THE sha256 OF THE DUMP (.gsa) THAT YtbblmpibekkbfaaDoorProg.lean LOADS. Nothing in Lean hashes anything: it is a label: what it is worth is what the hold of that sum in a sandbox is worth. -/
noncomputable def Tryd.pinned : Pinned := { name := "ytbblmpibekkbfaadoor", sum := "8cde963403b6eef5ea8004e5d99ffe58f9a25086885fcd84e964ebfd7e9fe3c2", checked := Tryd.checked }
namespace Rows
def none {H : Type} : Left H := { results := [], args := [] }

/- WHAT THE LISTED PACKAGE-LEVEL VARIABLES READ AS WHEN THE CALL BEGINS. Each datum BY PROGRAM (the guide's laid-datum.mjs) off the statement by which the dump's own 'gosem.cut.vars' lays the variable. In a bare row this is a premise. The card (YtbblmpibekkbfaaDoorCards.lean) ties it to the program's text. -/
def laid_unicode_utf8_acceptRanges {H : Type} : DataW H := .agg [.agg [.lit (.int .u8 128), .lit (.int .u8 191)], .agg [.lit (.int .u8 160), .lit (.int .u8 191)], .agg [.lit (.int .u8 128), .lit (.int .u8 159)], .agg [.lit (.int .u8 144), .lit (.int .u8 191)], .agg [.lit (.int .u8 128), .lit (.int .u8 143)], .agg [.lit (.int .u8 0), .lit (.int .u8 0)], .agg [.lit (.int .u8 0), .lit (.int .u8 0)], .agg [.lit (.int .u8 0), .lit (.int .u8 0)], .agg [.lit (.int .u8 0), .lit (.int .u8 0)], .agg [.lit (.int .u8 0), .lit (.int .u8 0)], .agg [.lit (.int .u8 0), .lit (.int .u8 0)], .agg [.lit (.int .u8 0), .lit (.int .u8 0)], .agg [.lit (.int .u8 0), .lit (.int .u8 0)], .agg [.lit (.int .u8 0), .lit (.int .u8 0)], .agg [.lit (.int .u8 0), .lit (.int .u8 0)], .agg [.lit (.int .u8 0), .lit (.int .u8 0)]]
def laid_codex_utf_kinds {H : Type} : DataW H := .slice [.agg [.lit (.int .i32 9), .lit (.int .i32 13), .lit (.int .i64 3)], .agg [.lit (.int .i32 32), .lit (.int .i32 32), .lit (.int .i64 3)], .agg [.lit (.int .i32 48), .lit (.int .i32 57), .lit (.int .i64 2)], .agg [.lit (.int .i32 65), .lit (.int .i32 90), .lit (.int .i64 1)], .agg [.lit (.int .i32 97), .lit (.int .i32 122), .lit (.int .i64 1)], .agg [.lit (.int .i32 133), .lit (.int .i32 133), .lit (.int .i64 3)], .agg [.lit (.int .i32 160), .lit (.int .i32 160), .lit (.int .i64 3)], .agg [.lit (.int .i32 170), .lit (.int .i32 170), .lit (.int .i64 1)], .agg [.lit (.int .i32 181), .lit (.int .i32 181), .lit (.int .i64 1)], .agg [.lit (.int .i32 186), .lit (.int .i32 186), .lit (.int .i64 1)], .agg [.lit (.int .i32 192), .lit (.int .i32 214), .lit (.int .i64 1)], .agg [.lit (.int .i32 216), .lit (.int .i32 246), .lit (.int .i64 1)], .agg [.lit (.int .i32 248), .lit (.int .i32 591), .lit (.int .i64 1)], .agg [.lit (.int .i32 880), .lit (.int .i32 884), .lit (.int .i64 1)], .agg [.lit (.int .i32 886), .lit (.int .i32 887), .lit (.int .i64 1)], .agg [.lit (.int .i32 890), .lit (.int .i32 893), .lit (.int .i64 1)], .agg [.lit (.int .i32 895), .lit (.int .i32 895), .lit (.int .i64 1)], .agg [.lit (.int .i32 902), .lit (.int .i32 902), .lit (.int .i64 1)], .agg [.lit (.int .i32 904), .lit (.int .i32 906), .lit (.int .i64 1)], .agg [.lit (.int .i32 908), .lit (.int .i32 908), .lit (.int .i64 1)], .agg [.lit (.int .i32 910), .lit (.int .i32 929), .lit (.int .i64 1)], .agg [.lit (.int .i32 931), .lit (.int .i32 1013), .lit (.int .i64 1)], .agg [.lit (.int .i32 1015), .lit (.int .i32 1153), .lit (.int .i64 1)], .agg [.lit (.int .i32 1162), .lit (.int .i32 1327), .lit (.int .i64 1)], .agg [.lit (.int .i32 1329), .lit (.int .i32 1366), .lit (.int .i64 1)], .agg [.lit (.int .i32 1377), .lit (.int .i32 1415), .lit (.int .i64 1)], .agg [.lit (.int .i32 1488), .lit (.int .i32 1514), .lit (.int .i64 1)], .agg [.lit (.int .i32 1632), .lit (.int .i32 1641), .lit (.int .i64 2)], .agg [.lit (.int .i32 2406), .lit (.int .i32 2415), .lit (.int .i64 2)], .agg [.lit (.int .i32 8192), .lit (.int .i32 8202), .lit (.int .i64 3)], .agg [.lit (.int .i32 8232), .lit (.int .i32 8233), .lit (.int .i64 3)], .agg [.lit (.int .i32 12288), .lit (.int .i32 12288), .lit (.int .i64 3)], .agg [.lit (.int .i32 19968), .lit (.int .i32 40959), .lit (.int .i64 1)], .agg [.lit (.int .i32 44032), .lit (.int .i32 55203), .lit (.int .i64 1)]] []
def laid_codex_utf_folds {H : Type} : DataW H := .slice [.agg [.lit (.int .i32 65), .lit (.int .i32 90), .lit (.int .i32 1), .lit (.int .i32 32)], .agg [.lit (.int .i32 192), .lit (.int .i32 214), .lit (.int .i32 1), .lit (.int .i32 32)], .agg [.lit (.int .i32 216), .lit (.int .i32 222), .lit (.int .i32 1), .lit (.int .i32 32)], .agg [.lit (.int .i32 256), .lit (.int .i32 303), .lit (.int .i32 2), .lit (.int .i32 1)], .agg [.lit (.int .i32 313), .lit (.int .i32 328), .lit (.int .i32 2), .lit (.int .i32 1)], .agg [.lit (.int .i32 330), .lit (.int .i32 375), .lit (.int .i32 2), .lit (.int .i32 1)], .agg [.lit (.int .i32 377), .lit (.int .i32 382), .lit (.int .i32 2), .lit (.int .i32 1)], .agg [.lit (.int .i32 913), .lit (.int .i32 929), .lit (.int .i32 1), .lit (.int .i32 32)], .agg [.lit (.int .i32 931), .lit (.int .i32 937), .lit (.int .i32 1), .lit (.int .i32 32)], .agg [.lit (.int .i32 962), .lit (.int .i32 962), .lit (.int .i32 1), .lit (.int .i32 1)], .agg [.lit (.int .i32 1024), .lit (.int .i32 1039), .lit (.int .i32 1), .lit (.int .i32 80)], .agg [.lit (.int .i32 1040), .lit (.int .i32 1071), .lit (.int .i32 1), .lit (.int .i32 32)], .agg [.lit (.int .i32 1120), .lit (.int .i32 1153), .lit (.int .i32 2), .lit (.int .i32 1)], .agg [.lit (.int .i32 1162), .lit (.int .i32 1215), .lit (.int .i32 2), .lit (.int .i32 1)], .agg [.lit (.int .i32 1232), .lit (.int .i32 1327), .lit (.int .i32 2), .lit (.int .i32 1)], .agg [.lit (.int .i32 1329), .lit (.int .i32 1366), .lit (.int .i32 1), .lit (.int .i32 48)]] []
/-- One of Go's own tables, pinned by name: the form's constant. -/
def laid_unicode_utf8_first : DataW Unit := Go.Pinned.utf8First

/-- 'codexlaw11.TokenWords': WHATEVER THE INPUT: true; the input reads as it did. -/
def tokenWordsSpec : ChangeSpec := { name := "tokenWords", fn := fun _ => fun
  | [d] => { results := [.lit (.bool true)], args := [d] }
  | _ => none }
def tokenWordsRow : OpenClaim := { program := "ytbblmpibekkbfaadoor", sum := "8cde963403b6eef5ea8004e5d99ffe58f9a25086885fcd84e964ebfd7e9fe3c2", func := "codex/codexlaw11.TokenWords", spec := "tokenWords", unfollowed := true, recurses := true, named := ["unicode/utf8.first", "unicode/utf8.acceptRanges", "codex/utf.kinds", "codex/utf.folds"], apart := false, laid := [("unicode/utf8.acceptRanges", laid_unicode_utf8_acceptRanges), ("codex/utf.kinds", laid_codex_utf_kinds), ("codex/utf.folds", laid_codex_utf_folds), ("unicode/utf8.first", laid_unicode_utf8_first)] }
def TokenWordsSaid : Prop := tokenWordsRow.holds Tryd.pinned (OpenSpec.ofChange tokenWordsSpec)

/-- ITS FALSE NEIGHBOUR: 'it returns false'. Refute it at one input. -/
def tokenWordsWrong : ChangeSpec := { name := "tokenWords", fn := fun _ => fun
  | [d] => { results := [.lit (.bool false)], args := [d] }
  | _ => none }
def TokenWordsWrongFalsely : Prop := tokenWordsRow.holds Tryd.pinned (OpenSpec.ofChange tokenWordsWrong)

/-- 'codexlaw11.TokenFolds': WHATEVER THE INPUT: true; the input reads as it did. -/
def tokenFoldsSpec : ChangeSpec := { name := "tokenFolds", fn := fun _ => fun
  | [d] => { results := [.lit (.bool true)], args := [d] }
  | _ => none }
def tokenFoldsRow : OpenClaim := { program := "ytbblmpibekkbfaadoor", sum := "8cde963403b6eef5ea8004e5d99ffe58f9a25086885fcd84e964ebfd7e9fe3c2", func := "codex/codexlaw11.TokenFolds", spec := "tokenFolds", unfollowed := true, recurses := true, named := ["unicode/utf8.first", "unicode/utf8.acceptRanges", "codex/utf.kinds", "codex/utf.folds"], apart := false, laid := [("unicode/utf8.acceptRanges", laid_unicode_utf8_acceptRanges), ("codex/utf.kinds", laid_codex_utf_kinds), ("codex/utf.folds", laid_codex_utf_folds), ("unicode/utf8.first", laid_unicode_utf8_first)] }
def TokenFoldsSaid : Prop := tokenFoldsRow.holds Tryd.pinned (OpenSpec.ofChange tokenFoldsSpec)

/-- ITS FALSE NEIGHBOUR: 'it returns false'. Refute it at one input. -/
def tokenFoldsWrong : ChangeSpec := { name := "tokenFolds", fn := fun _ => fun
  | [d] => { results := [.lit (.bool false)], args := [d] }
  | _ => none }
def TokenFoldsWrongFalsely : Prop := tokenFoldsRow.holds Tryd.pinned (OpenSpec.ofChange tokenFoldsWrong)

/-- 'codexlaw11.TokenJoins': WHATEVER THE INPUT: true; the input reads as it did. -/
def tokenJoinsSpec : ChangeSpec := { name := "tokenJoins", fn := fun _ => fun
  | [d1, d2] => { results := [.lit (.bool true)], args := [d1, d2] }
  | _ => none }
def tokenJoinsRow : OpenClaim := { program := "ytbblmpibekkbfaadoor", sum := "8cde963403b6eef5ea8004e5d99ffe58f9a25086885fcd84e964ebfd7e9fe3c2", func := "codex/codexlaw11.TokenJoins", spec := "tokenJoins", unfollowed := true, recurses := true, named := ["unicode/utf8.first", "unicode/utf8.acceptRanges", "codex/utf.kinds", "codex/utf.folds"], apart := false, laid := [("unicode/utf8.acceptRanges", laid_unicode_utf8_acceptRanges), ("codex/utf.kinds", laid_codex_utf_kinds), ("codex/utf.folds", laid_codex_utf_folds), ("unicode/utf8.first", laid_unicode_utf8_first)] }
def TokenJoinsSaid : Prop := tokenJoinsRow.holds Tryd.pinned (OpenSpec.ofChange tokenJoinsSpec)

/-- ITS FALSE NEIGHBOUR: 'it returns false'. Refute it at one input. -/
def tokenJoinsWrong : ChangeSpec := { name := "tokenJoins", fn := fun _ => fun
  | [d1, d2] => { results := [.lit (.bool false)], args := [d1, d2] }
  | _ => none }
def TokenJoinsWrongFalsely : Prop := tokenJoinsRow.holds Tryd.pinned (OpenSpec.ofChange tokenJoinsWrong)

/-- 'codexlaw11.TokenMarks': WHATEVER THE INPUT: true; the input reads as it did. -/
def tokenMarksSpec : ChangeSpec := { name := "tokenMarks", fn := fun _ => fun
  | [d1, d2, d3] => { results := [.lit (.bool true)], args := [d1, d2, d3] }
  | _ => none }
def tokenMarksRow : OpenClaim := { program := "ytbblmpibekkbfaadoor", sum := "8cde963403b6eef5ea8004e5d99ffe58f9a25086885fcd84e964ebfd7e9fe3c2", func := "codex/codexlaw11.TokenMarks", spec := "tokenMarks", unfollowed := true, recurses := true, named := ["unicode/utf8.first", "unicode/utf8.acceptRanges", "codex/utf.kinds", "codex/utf.folds"], apart := false, laid := [("unicode/utf8.acceptRanges", laid_unicode_utf8_acceptRanges), ("codex/utf.kinds", laid_codex_utf_kinds), ("codex/utf.folds", laid_codex_utf_folds), ("unicode/utf8.first", laid_unicode_utf8_first)] }
def TokenMarksSaid : Prop := tokenMarksRow.holds Tryd.pinned (OpenSpec.ofChange tokenMarksSpec)

/-- ITS FALSE NEIGHBOUR: 'it returns false'. Refute it at one input. -/
def tokenMarksWrong : ChangeSpec := { name := "tokenMarks", fn := fun _ => fun
  | [d1, d2, d3] => { results := [.lit (.bool false)], args := [d1, d2, d3] }
  | _ => none }
def TokenMarksWrongFalsely : Prop := tokenMarksRow.holds Tryd.pinned (OpenSpec.ofChange tokenMarksWrong)

/-- 'codexlaw11.TokenStops': WHATEVER THE INPUT: true; the input reads as it did. -/
def tokenStopsSpec : ChangeSpec := { name := "tokenStops", fn := fun _ => fun
  | [d1, d2] => { results := [.lit (.bool true)], args := [d1, d2] }
  | _ => none }
def tokenStopsRow : OpenClaim := { program := "ytbblmpibekkbfaadoor", sum := "8cde963403b6eef5ea8004e5d99ffe58f9a25086885fcd84e964ebfd7e9fe3c2", func := "codex/codexlaw11.TokenStops", spec := "tokenStops", unfollowed := true, recurses := true, named := ["unicode/utf8.first", "unicode/utf8.acceptRanges", "codex/utf.kinds", "codex/utf.folds"], apart := false, laid := [("unicode/utf8.acceptRanges", laid_unicode_utf8_acceptRanges), ("codex/utf.kinds", laid_codex_utf_kinds), ("codex/utf.folds", laid_codex_utf_folds), ("unicode/utf8.first", laid_unicode_utf8_first)] }
def TokenStopsSaid : Prop := tokenStopsRow.holds Tryd.pinned (OpenSpec.ofChange tokenStopsSpec)

/-- ITS FALSE NEIGHBOUR: 'it returns false'. Refute it at one input. -/
def tokenStopsWrong : ChangeSpec := { name := "tokenStops", fn := fun _ => fun
  | [d1, d2] => { results := [.lit (.bool false)], args := [d1, d2] }
  | _ => none }
def TokenStopsWrongFalsely : Prop := tokenStopsRow.holds Tryd.pinned (OpenSpec.ofChange tokenStopsWrong)

/- THE SECOND FORM. 'bulk': how many values and letters a reading holds, each counted each time it is reached (what is shared counts as often as it is met; a slice's spare places count too). A statement '..UptoSaid' is the law's where the arguments, and the package variables that the reading takes, are together of bulk at most 1048576: NARROWER than '..Said'. Prove '..Said' where nothing that the law and all that it calls make is longer than what came in: it says more and counts as full. Else prove '..UptoSaid'. A law counts once. -/
mutual
def uptoBulk {H : Type} : DataW H → Nat
  | .lit (.string bytes) => bytes.length + 1
  | .lit _ => 1
  | .nil => 1
  | .ptr d => uptoBulk d + 1
  | .slice elems spare => uptoBulkAll elems + uptoBulkAll spare + 1
  | .agg parts => uptoBulkAll parts + 1
  | .iface _ d => uptoBulk d + 1
  | .map entries => uptoBulkEntries entries + 1
  | .held _ => 1
def uptoBulkAll {H : Type} : List (DataW H) → Nat
  | [] => 0
  | d :: r => uptoBulk d + uptoBulkAll r
def uptoBulkEntries {H : Type} : List (Lit × DataW H) → Nat
  | [] => 0
  | x :: r => uptoBulkEntry x + uptoBulkEntries r
def uptoBulkEntry {H : Type} : Lit × DataW H → Nat
  | (.string bytes, d) => bytes.length + uptoBulk d + 1
  | (_, d) => uptoBulk d + 1
 end
def uptoSmall : (H : Type) → List (DataW H) → Bool := fun _ ds => decide (uptoBulkAll ds ≤ 1048576)
def OpenSpec.upto (s : _root_.Go.ChangeSpec) : _root_.Go.OpenSpec := { _root_.Go.OpenSpec.ofChange s with cond := some uptoSmall }

/-- 'codexlaw11.TokenWords', WHERE WHAT IT READS IS OF BULK AT MOST 1048576: true; the input reads as it did. -/
def tokenWordsUptoRow : OpenClaim := { program := "ytbblmpibekkbfaadoor", sum := "8cde963403b6eef5ea8004e5d99ffe58f9a25086885fcd84e964ebfd7e9fe3c2", func := "codex/codexlaw11.TokenWords", spec := "tokenWords", unfollowed := true, recurses := true, named := ["unicode/utf8.first", "unicode/utf8.acceptRanges", "codex/utf.kinds", "codex/utf.folds"], apart := false, laid := [("unicode/utf8.acceptRanges", laid_unicode_utf8_acceptRanges), ("codex/utf.kinds", laid_codex_utf_kinds), ("codex/utf.folds", laid_codex_utf_folds), ("unicode/utf8.first", laid_unicode_utf8_first)], narrowed := true }
def TokenWordsUptoSaid : Prop := tokenWordsUptoRow.holds Tryd.pinned (OpenSpec.upto tokenWordsSpec)

/-- 'codexlaw11.TokenFolds', WHERE WHAT IT READS IS OF BULK AT MOST 1048576: true; the input reads as it did. -/
def tokenFoldsUptoRow : OpenClaim := { program := "ytbblmpibekkbfaadoor", sum := "8cde963403b6eef5ea8004e5d99ffe58f9a25086885fcd84e964ebfd7e9fe3c2", func := "codex/codexlaw11.TokenFolds", spec := "tokenFolds", unfollowed := true, recurses := true, named := ["unicode/utf8.first", "unicode/utf8.acceptRanges", "codex/utf.kinds", "codex/utf.folds"], apart := false, laid := [("unicode/utf8.acceptRanges", laid_unicode_utf8_acceptRanges), ("codex/utf.kinds", laid_codex_utf_kinds), ("codex/utf.folds", laid_codex_utf_folds), ("unicode/utf8.first", laid_unicode_utf8_first)], narrowed := true }
def TokenFoldsUptoSaid : Prop := tokenFoldsUptoRow.holds Tryd.pinned (OpenSpec.upto tokenFoldsSpec)

/-- 'codexlaw11.TokenJoins', WHERE WHAT IT READS IS OF BULK AT MOST 1048576: true; the input reads as it did. -/
def tokenJoinsUptoRow : OpenClaim := { program := "ytbblmpibekkbfaadoor", sum := "8cde963403b6eef5ea8004e5d99ffe58f9a25086885fcd84e964ebfd7e9fe3c2", func := "codex/codexlaw11.TokenJoins", spec := "tokenJoins", unfollowed := true, recurses := true, named := ["unicode/utf8.first", "unicode/utf8.acceptRanges", "codex/utf.kinds", "codex/utf.folds"], apart := false, laid := [("unicode/utf8.acceptRanges", laid_unicode_utf8_acceptRanges), ("codex/utf.kinds", laid_codex_utf_kinds), ("codex/utf.folds", laid_codex_utf_folds), ("unicode/utf8.first", laid_unicode_utf8_first)], narrowed := true }
def TokenJoinsUptoSaid : Prop := tokenJoinsUptoRow.holds Tryd.pinned (OpenSpec.upto tokenJoinsSpec)

/-- 'codexlaw11.TokenMarks', WHERE WHAT IT READS IS OF BULK AT MOST 1048576: true; the input reads as it did. -/
def tokenMarksUptoRow : OpenClaim := { program := "ytbblmpibekkbfaadoor", sum := "8cde963403b6eef5ea8004e5d99ffe58f9a25086885fcd84e964ebfd7e9fe3c2", func := "codex/codexlaw11.TokenMarks", spec := "tokenMarks", unfollowed := true, recurses := true, named := ["unicode/utf8.first", "unicode/utf8.acceptRanges", "codex/utf.kinds", "codex/utf.folds"], apart := false, laid := [("unicode/utf8.acceptRanges", laid_unicode_utf8_acceptRanges), ("codex/utf.kinds", laid_codex_utf_kinds), ("codex/utf.folds", laid_codex_utf_folds), ("unicode/utf8.first", laid_unicode_utf8_first)], narrowed := true }
def TokenMarksUptoSaid : Prop := tokenMarksUptoRow.holds Tryd.pinned (OpenSpec.upto tokenMarksSpec)

/-- 'codexlaw11.TokenStops', WHERE WHAT IT READS IS OF BULK AT MOST 1048576: true; the input reads as it did. -/
def tokenStopsUptoRow : OpenClaim := { program := "ytbblmpibekkbfaadoor", sum := "8cde963403b6eef5ea8004e5d99ffe58f9a25086885fcd84e964ebfd7e9fe3c2", func := "codex/codexlaw11.TokenStops", spec := "tokenStops", unfollowed := true, recurses := true, named := ["unicode/utf8.first", "unicode/utf8.acceptRanges", "codex/utf.kinds", "codex/utf.folds"], apart := false, laid := [("unicode/utf8.acceptRanges", laid_unicode_utf8_acceptRanges), ("codex/utf.kinds", laid_codex_utf_kinds), ("codex/utf.folds", laid_codex_utf_folds), ("unicode/utf8.first", laid_unicode_utf8_first)], narrowed := true }
def TokenStopsUptoSaid : Prop := tokenStopsUptoRow.holds Tryd.pinned (OpenSpec.upto tokenStopsSpec)

end Rows
end Go.Proofs.YtbblmpibekkbfaaDoor
