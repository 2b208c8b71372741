/-
  No cell of these rows narrows 'for every input' (looked for: loops, veiled, ifaces, maps, wideKeys, modest, calm, conditions, laid).
  DERIVED. THE GIVEN ROWS OF THIS SEAT. 6 by the template 'for every input the law returns true; each argument reads behind the call as it read before'; 0 by the template 'total and deterministic' (their statements: YtjcajeilhcjneaaTotals.lean).
  GIVEN WITH THE SEED: the statements are not yours to turn. If you find one false, say at which input.
  Laid BY PROGRAM, IN A SANDBOX (cutbox-rows.mjs): the forced cells as the released guide's own fill.sh prints them over the translation ff1bb522009759b8… (all of the seat's roots in one cut). By AI agents, Wed Nov 11 2026. No macro, syntax, notation, axiom, sorry.
-/
import Derived.Test.YtjcajeilhcjneaaChecked
import GoSem.Claim
import GoSem.ClaimJoined
import GoSem.ClaimMapViews
import Derived.JoinedTies
import Derived.KernelRfl
namespace Go.Proofs.Ytjcajeilhcjneaa
/- THE CELL 'sum', in the pinned program and in every row, IS THE sha256 OF THE DUMP (.gsa) THAT YtjcajeilhcjneaaProg.lean LOADS. Nothing in Lean hashes anything: it is a label: what it is worth is what the hold of that sum in a sandbox is worth. -/
noncomputable def Try.pinned : Pinned := { name := "ytjcajeilhcjneaa", sum := "ff1bb522009759b867e88ef410d6323e4fa476196336ca6d27dc05fec8a699f0", checked := Try.checked }
namespace Rows
def none {H : Type} : Left H := { results := [], args := [] }

/-- 'codexlaw12.PostingsPacks': WHATEVER THE INPUT: true; the input reads as it did. -/
def postingsPacksSpec : ChangeSpec := { name := "postingsPacks", fn := fun _ => fun
  | [d] => { results := [.lit (.bool true)], args := [d] }
  | _ => none }
def postingsPacksRow : OpenClaim := { program := "ytjcajeilhcjneaa", sum := "ff1bb522009759b867e88ef410d6323e4fa476196336ca6d27dc05fec8a699f0", func := "codex/codexlaw12.PostingsPacks", spec := "postingsPacks", unfollowed := true, recurses := true, apart := false }
def PostingsPacksSaid : Prop := postingsPacksRow.holds Try.pinned (OpenSpec.ofChange postingsPacksSpec)

/-- ITS FALSE NEIGHBOUR: 'it returns false'. Refute it at one input. -/
def postingsPacksWrong : ChangeSpec := { name := "postingsPacks", fn := fun _ => fun
  | [d] => { results := [.lit (.bool false)], args := [d] }
  | _ => none }
def PostingsPacksWrongFalsely : Prop := postingsPacksRow.holds Try.pinned (OpenSpec.ofChange postingsPacksWrong)

/-- 'codexlaw12.PostingsReads': WHATEVER THE INPUT: true; the input reads as it did. -/
def postingsReadsSpec : ChangeSpec := { name := "postingsReads", fn := fun _ => fun
  | [d1, d2, d3, d4] => { results := [.lit (.bool true)], args := [d1, d2, d3, d4] }
  | _ => none }
def postingsReadsRow : OpenClaim := { program := "ytjcajeilhcjneaa", sum := "ff1bb522009759b867e88ef410d6323e4fa476196336ca6d27dc05fec8a699f0", func := "codex/codexlaw12.PostingsReads", spec := "postingsReads", unfollowed := true, recurses := true, apart := false }
def PostingsReadsSaid : Prop := postingsReadsRow.holds Try.pinned (OpenSpec.ofChange postingsReadsSpec)

/-- ITS FALSE NEIGHBOUR: 'it returns false'. Refute it at one input. -/
def postingsReadsWrong : ChangeSpec := { name := "postingsReads", fn := fun _ => fun
  | [d1, d2, d3, d4] => { results := [.lit (.bool false)], args := [d1, d2, d3, d4] }
  | _ => none }
def PostingsReadsWrongFalsely : Prop := postingsReadsRow.holds Try.pinned (OpenSpec.ofChange postingsReadsWrong)

/-- 'codexlaw12.PostingsFrom': WHATEVER THE INPUT: true; the input reads as it did. -/
def postingsFromSpec : ChangeSpec := { name := "postingsFrom", fn := fun _ => fun
  | [d1, d2, d3, d4] => { results := [.lit (.bool true)], args := [d1, d2, d3, d4] }
  | _ => none }
def postingsFromRow : OpenClaim := { program := "ytjcajeilhcjneaa", sum := "ff1bb522009759b867e88ef410d6323e4fa476196336ca6d27dc05fec8a699f0", func := "codex/codexlaw12.PostingsFrom", spec := "postingsFrom", unfollowed := true, recurses := true, apart := false }
def PostingsFromSaid : Prop := postingsFromRow.holds Try.pinned (OpenSpec.ofChange postingsFromSpec)

/-- ITS FALSE NEIGHBOUR: 'it returns false'. Refute it at one input. -/
def postingsFromWrong : ChangeSpec := { name := "postingsFrom", fn := fun _ => fun
  | [d1, d2, d3, d4] => { results := [.lit (.bool false)], args := [d1, d2, d3, d4] }
  | _ => none }
def PostingsFromWrongFalsely : Prop := postingsFromRow.holds Try.pinned (OpenSpec.ofChange postingsFromWrong)

/-- 'codexlaw12.PostingsBack': WHATEVER THE INPUT: true; the input reads as it did. -/
def postingsBackSpec : ChangeSpec := { name := "postingsBack", fn := fun _ => fun
  | [d1, d2] => { results := [.lit (.bool true)], args := [d1, d2] }
  | _ => none }
def postingsBackRow : OpenClaim := { program := "ytjcajeilhcjneaa", sum := "ff1bb522009759b867e88ef410d6323e4fa476196336ca6d27dc05fec8a699f0", func := "codex/codexlaw12.PostingsBack", spec := "postingsBack", unfollowed := true, recurses := true, apart := false }
def PostingsBackSaid : Prop := postingsBackRow.holds Try.pinned (OpenSpec.ofChange postingsBackSpec)

/-- ITS FALSE NEIGHBOUR: 'it returns false'. Refute it at one input. -/
def postingsBackWrong : ChangeSpec := { name := "postingsBack", fn := fun _ => fun
  | [d1, d2] => { results := [.lit (.bool false)], args := [d1, d2] }
  | _ => none }
def PostingsBackWrongFalsely : Prop := postingsBackRow.holds Try.pinned (OpenSpec.ofChange postingsBackWrong)

/-- 'codexlaw12.PostingsShift': WHATEVER THE INPUT: true; the input reads as it did. -/
def postingsShiftSpec : ChangeSpec := { name := "postingsShift", fn := fun _ => fun
  | [d1, d2] => { results := [.lit (.bool true)], args := [d1, d2] }
  | _ => none }
def postingsShiftRow : OpenClaim := { program := "ytjcajeilhcjneaa", sum := "ff1bb522009759b867e88ef410d6323e4fa476196336ca6d27dc05fec8a699f0", func := "codex/codexlaw12.PostingsShift", spec := "postingsShift", unfollowed := true, recurses := true, apart := false }
def PostingsShiftSaid : Prop := postingsShiftRow.holds Try.pinned (OpenSpec.ofChange postingsShiftSpec)

/-- ITS FALSE NEIGHBOUR: 'it returns false'. Refute it at one input. -/
def postingsShiftWrong : ChangeSpec := { name := "postingsShift", fn := fun _ => fun
  | [d1, d2] => { results := [.lit (.bool false)], args := [d1, d2] }
  | _ => none }
def PostingsShiftWrongFalsely : Prop := postingsShiftRow.holds Try.pinned (OpenSpec.ofChange postingsShiftWrong)

/-- 'codexlaw12.PostingsSteps': WHATEVER THE INPUT: true; the input reads as it did. -/
def postingsStepsSpec : ChangeSpec := { name := "postingsSteps", fn := fun _ => fun
  | [d] => { results := [.lit (.bool true)], args := [d] }
  | _ => none }
def postingsStepsRow : OpenClaim := { program := "ytjcajeilhcjneaa", sum := "ff1bb522009759b867e88ef410d6323e4fa476196336ca6d27dc05fec8a699f0", func := "codex/codexlaw12.PostingsSteps", spec := "postingsSteps", unfollowed := true, recurses := true, apart := false }
def PostingsStepsSaid : Prop := postingsStepsRow.holds Try.pinned (OpenSpec.ofChange postingsStepsSpec)

/-- ITS FALSE NEIGHBOUR: 'it returns false'. Refute it at one input. -/
def postingsStepsWrong : ChangeSpec := { name := "postingsSteps", fn := fun _ => fun
  | [d] => { results := [.lit (.bool false)], args := [d] }
  | _ => none }
def PostingsStepsWrongFalsely : Prop := postingsStepsRow.holds Try.pinned (OpenSpec.ofChange postingsStepsWrong)

/- THE SECOND FORM. 'bulk': how many values and letters a reading holds, each counted each time it is reached (what is shared counts as often as it is met; a slice's spare places count too). A statement '..UptoSaid' is the law's where the arguments, and the package variables that the reading takes, are together of bulk at most 1048576: NARROWER than '..Said'. Prove '..Said' where nothing that the law and all that it calls make is longer than what came in: it says more and counts as full. Else prove '..UptoSaid'. A law counts once. -/
mutual
def uptoBulk {H : Type} : DataW H → Nat
  | .lit (.string bytes) => bytes.length + 1
  | .lit _ => 1
  | .nil => 1
  | .ptr d => uptoBulk d + 1
  | .slice elems spare => uptoBulkAll elems + uptoBulkAll spare + 1
  | .agg parts => uptoBulkAll parts + 1
  | .iface _ d => uptoBulk d + 1
  | .map entries => uptoBulkEntries entries + 1
  | .held _ => 1
def uptoBulkAll {H : Type} : List (DataW H) → Nat
  | [] => 0
  | d :: r => uptoBulk d + uptoBulkAll r
def uptoBulkEntries {H : Type} : List (Lit × DataW H) → Nat
  | [] => 0
  | x :: r => uptoBulkEntry x + uptoBulkEntries r
def uptoBulkEntry {H : Type} : Lit × DataW H → Nat
  | (.string bytes, d) => bytes.length + uptoBulk d + 1
  | (_, d) => uptoBulk d + 1
 end
def uptoSmall : (H : Type) → List (DataW H) → Bool := fun _ ds => decide (uptoBulkAll ds ≤ 1048576)
def OpenSpec.upto (s : _root_.Go.ChangeSpec) : _root_.Go.OpenSpec := { _root_.Go.OpenSpec.ofChange s with cond := some uptoSmall }

/-- 'codexlaw12.PostingsPacks', WHERE WHAT IT READS IS OF BULK AT MOST 1048576: true; the input reads as it did. -/
def postingsPacksUptoRow : OpenClaim := { program := "ytjcajeilhcjneaa", sum := "ff1bb522009759b867e88ef410d6323e4fa476196336ca6d27dc05fec8a699f0", func := "codex/codexlaw12.PostingsPacks", spec := "postingsPacks", unfollowed := true, recurses := true, apart := false, narrowed := true }
def PostingsPacksUptoSaid : Prop := postingsPacksUptoRow.holds Try.pinned (OpenSpec.upto postingsPacksSpec)

/-- 'codexlaw12.PostingsReads', WHERE WHAT IT READS IS OF BULK AT MOST 1048576: true; the input reads as it did. -/
def postingsReadsUptoRow : OpenClaim := { program := "ytjcajeilhcjneaa", sum := "ff1bb522009759b867e88ef410d6323e4fa476196336ca6d27dc05fec8a699f0", func := "codex/codexlaw12.PostingsReads", spec := "postingsReads", unfollowed := true, recurses := true, apart := false, narrowed := true }
def PostingsReadsUptoSaid : Prop := postingsReadsUptoRow.holds Try.pinned (OpenSpec.upto postingsReadsSpec)

/-- 'codexlaw12.PostingsFrom', WHERE WHAT IT READS IS OF BULK AT MOST 1048576: true; the input reads as it did. -/
def postingsFromUptoRow : OpenClaim := { program := "ytjcajeilhcjneaa", sum := "ff1bb522009759b867e88ef410d6323e4fa476196336ca6d27dc05fec8a699f0", func := "codex/codexlaw12.PostingsFrom", spec := "postingsFrom", unfollowed := true, recurses := true, apart := false, narrowed := true }
def PostingsFromUptoSaid : Prop := postingsFromUptoRow.holds Try.pinned (OpenSpec.upto postingsFromSpec)

/-- 'codexlaw12.PostingsBack', WHERE WHAT IT READS IS OF BULK AT MOST 1048576: true; the input reads as it did. -/
def postingsBackUptoRow : OpenClaim := { program := "ytjcajeilhcjneaa", sum := "ff1bb522009759b867e88ef410d6323e4fa476196336ca6d27dc05fec8a699f0", func := "codex/codexlaw12.PostingsBack", spec := "postingsBack", unfollowed := true, recurses := true, apart := false, narrowed := true }
def PostingsBackUptoSaid : Prop := postingsBackUptoRow.holds Try.pinned (OpenSpec.upto postingsBackSpec)

/-- 'codexlaw12.PostingsShift', WHERE WHAT IT READS IS OF BULK AT MOST 1048576: true; the input reads as it did. -/
def postingsShiftUptoRow : OpenClaim := { program := "ytjcajeilhcjneaa", sum := "ff1bb522009759b867e88ef410d6323e4fa476196336ca6d27dc05fec8a699f0", func := "codex/codexlaw12.PostingsShift", spec := "postingsShift", unfollowed := true, recurses := true, apart := false, narrowed := true }
def PostingsShiftUptoSaid : Prop := postingsShiftUptoRow.holds Try.pinned (OpenSpec.upto postingsShiftSpec)

/-- 'codexlaw12.PostingsSteps', WHERE WHAT IT READS IS OF BULK AT MOST 1048576: true; the input reads as it did. -/
def postingsStepsUptoRow : OpenClaim := { program := "ytjcajeilhcjneaa", sum := "ff1bb522009759b867e88ef410d6323e4fa476196336ca6d27dc05fec8a699f0", func := "codex/codexlaw12.PostingsSteps", spec := "postingsSteps", unfollowed := true, recurses := true, apart := false, narrowed := true }
def PostingsStepsUptoSaid : Prop := postingsStepsUptoRow.holds Try.pinned (OpenSpec.upto postingsStepsSpec)

end Rows
end Go.Proofs.Ytjcajeilhcjneaa
