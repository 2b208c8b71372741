/-
  No cell of these rows narrows 'for every input' (looked for: loops, veiled, ifaces, maps, wideKeys, modest, calm, conditions, laid).
  DERIVED. THE GIVEN ROWS OF THIS SEAT. 7 by the template 'for every input the law returns true; each argument reads behind the call as it read before'; 0 by the template 'total and deterministic' (their statements: YtfmnbabkdpiboaaTotals.lean).
  GIVEN WITH THE SEED: the statements are not yours to turn. If you find one false, say at which input.
  Laid BY PROGRAM, IN A SANDBOX (cutbox-rows.mjs): the forced cells as the released guide's own fill.sh prints them over the translation b5cc15b350f46fab… (all of the seat's roots in one cut). By AI agents, Wed Nov 11 2026. No macro, syntax, notation, axiom, sorry.
-/
import Derived.Test.YtfmnbabkdpiboaaChecked
import GoSem.Claim
import GoSem.ClaimJoined
import GoSem.ClaimMapViews
import Derived.JoinedTies
import Derived.KernelRfl
namespace Go.Proofs.Ytfmnbabkdpiboaa
/- THE CELL 'sum', in the pinned program and in every row, IS THE sha256 OF THE DUMP (.gsa) THAT YtfmnbabkdpiboaaProg.lean LOADS. Nothing in Lean hashes anything: it is a label: what it is worth is what the hold of that sum in a sandbox is worth. -/
noncomputable def Try.pinned : Pinned := { name := "ytfmnbabkdpiboaa", sum := "b5cc15b350f46fab0e7f1e9647430923385aa9bd6f7aa5476023cd91406e1e46", checked := Try.checked }
namespace Rows
def none {H : Type} : Left H := { results := [], args := [] }

/-- 'codexlaw8.InodeRight': WHATEVER THE INPUT: true; the input reads as it did. -/
def inodeRightSpec : ChangeSpec := { name := "inodeRight", fn := fun _ => fun
  | [d1, d2, d3, d4] => { results := [.lit (.bool true)], args := [d1, d2, d3, d4] }
  | _ => none }
def inodeRightRow : OpenClaim := { program := "ytfmnbabkdpiboaa", sum := "b5cc15b350f46fab0e7f1e9647430923385aa9bd6f7aa5476023cd91406e1e46", func := "codex/codexlaw8.InodeRight", spec := "inodeRight", inPlace := ["slices.overlaps[codex/api.Extent]", "internal/abi.NoEscape", "internal/bytealg.MakeNoZero"], unfollowed := true, recurses := true, apart := false }
def InodeRightSaid : Prop := inodeRightRow.holds Try.pinned (OpenSpec.ofChange inodeRightSpec)

/-- ITS FALSE NEIGHBOUR: 'it returns false'. Refute it at one input. -/
def inodeRightWrong : ChangeSpec := { name := "inodeRight", fn := fun _ => fun
  | [d1, d2, d3, d4] => { results := [.lit (.bool false)], args := [d1, d2, d3, d4] }
  | _ => none }
def InodeRightWrongFalsely : Prop := inodeRightRow.holds Try.pinned (OpenSpec.ofChange inodeRightWrong)

/-- 'codexlaw8.InodePacks': WHATEVER THE INPUT: true; the input reads as it did. -/
def inodePacksSpec : ChangeSpec := { name := "inodePacks", fn := fun _ => fun
  | [d] => { results := [.lit (.bool true)], args := [d] }
  | _ => none }
def inodePacksRow : OpenClaim := { program := "ytfmnbabkdpiboaa", sum := "b5cc15b350f46fab0e7f1e9647430923385aa9bd6f7aa5476023cd91406e1e46", func := "codex/codexlaw8.InodePacks", spec := "inodePacks", inPlace := ["slices.overlaps[codex/api.Extent]", "internal/abi.NoEscape", "internal/bytealg.MakeNoZero"], unfollowed := true, recurses := true, apart := false }
def InodePacksSaid : Prop := inodePacksRow.holds Try.pinned (OpenSpec.ofChange inodePacksSpec)

/-- ITS FALSE NEIGHBOUR: 'it returns false'. Refute it at one input. -/
def inodePacksWrong : ChangeSpec := { name := "inodePacks", fn := fun _ => fun
  | [d] => { results := [.lit (.bool false)], args := [d] }
  | _ => none }
def InodePacksWrongFalsely : Prop := inodePacksRow.holds Try.pinned (OpenSpec.ofChange inodePacksWrong)

/-- 'codexlaw8.InodeReads': WHATEVER THE INPUT: true; the input reads as it did. -/
def inodeReadsSpec : ChangeSpec := { name := "inodeReads", fn := fun _ => fun
  | [d1, d2, d3, d4] => { results := [.lit (.bool true)], args := [d1, d2, d3, d4] }
  | _ => none }
def inodeReadsRow : OpenClaim := { program := "ytfmnbabkdpiboaa", sum := "b5cc15b350f46fab0e7f1e9647430923385aa9bd6f7aa5476023cd91406e1e46", func := "codex/codexlaw8.InodeReads", spec := "inodeReads", inPlace := ["slices.overlaps[codex/api.Extent]", "internal/abi.NoEscape", "internal/bytealg.MakeNoZero"], unfollowed := true, recurses := true, apart := false }
def InodeReadsSaid : Prop := inodeReadsRow.holds Try.pinned (OpenSpec.ofChange inodeReadsSpec)

/-- ITS FALSE NEIGHBOUR: 'it returns false'. Refute it at one input. -/
def inodeReadsWrong : ChangeSpec := { name := "inodeReads", fn := fun _ => fun
  | [d1, d2, d3, d4] => { results := [.lit (.bool false)], args := [d1, d2, d3, d4] }
  | _ => none }
def InodeReadsWrongFalsely : Prop := inodeReadsRow.holds Try.pinned (OpenSpec.ofChange inodeReadsWrong)

/-- 'codexlaw8.InodeBack': WHATEVER THE INPUT: true; the input reads as it did. -/
def inodeBackSpec : ChangeSpec := { name := "inodeBack", fn := fun _ => fun
  | [d1, d2] => { results := [.lit (.bool true)], args := [d1, d2] }
  | _ => none }
def inodeBackRow : OpenClaim := { program := "ytfmnbabkdpiboaa", sum := "b5cc15b350f46fab0e7f1e9647430923385aa9bd6f7aa5476023cd91406e1e46", func := "codex/codexlaw8.InodeBack", spec := "inodeBack", inPlace := ["slices.overlaps[codex/api.Extent]", "internal/abi.NoEscape", "internal/bytealg.MakeNoZero"], unfollowed := true, recurses := true, apart := false }
def InodeBackSaid : Prop := inodeBackRow.holds Try.pinned (OpenSpec.ofChange inodeBackSpec)

/-- ITS FALSE NEIGHBOUR: 'it returns false'. Refute it at one input. -/
def inodeBackWrong : ChangeSpec := { name := "inodeBack", fn := fun _ => fun
  | [d1, d2] => { results := [.lit (.bool false)], args := [d1, d2] }
  | _ => none }
def InodeBackWrongFalsely : Prop := inodeBackRow.holds Try.pinned (OpenSpec.ofChange inodeBackWrong)

/-- 'codexlaw8.InodeFinds': WHATEVER THE INPUT: true; the input reads as it did. -/
def inodeFindsSpec : ChangeSpec := { name := "inodeFinds", fn := fun _ => fun
  | [d1, d2] => { results := [.lit (.bool true)], args := [d1, d2] }
  | _ => none }
def inodeFindsRow : OpenClaim := { program := "ytfmnbabkdpiboaa", sum := "b5cc15b350f46fab0e7f1e9647430923385aa9bd6f7aa5476023cd91406e1e46", func := "codex/codexlaw8.InodeFinds", spec := "inodeFinds", inPlace := ["slices.overlaps[codex/api.Extent]", "internal/abi.NoEscape", "internal/bytealg.MakeNoZero"], unfollowed := true, recurses := true, apart := false }
def InodeFindsSaid : Prop := inodeFindsRow.holds Try.pinned (OpenSpec.ofChange inodeFindsSpec)

/-- ITS FALSE NEIGHBOUR: 'it returns false'. Refute it at one input. -/
def inodeFindsWrong : ChangeSpec := { name := "inodeFinds", fn := fun _ => fun
  | [d1, d2] => { results := [.lit (.bool false)], args := [d1, d2] }
  | _ => none }
def InodeFindsWrongFalsely : Prop := inodeFindsRow.holds Try.pinned (OpenSpec.ofChange inodeFindsWrong)

/-- 'codexlaw8.InodeBounds': WHATEVER THE INPUT: true; the input reads as it did. -/
def inodeBoundsSpec : ChangeSpec := { name := "inodeBounds", fn := fun _ => fun
  | [d1, d2, d3] => { results := [.lit (.bool true)], args := [d1, d2, d3] }
  | _ => none }
def inodeBoundsRow : OpenClaim := { program := "ytfmnbabkdpiboaa", sum := "b5cc15b350f46fab0e7f1e9647430923385aa9bd6f7aa5476023cd91406e1e46", func := "codex/codexlaw8.InodeBounds", spec := "inodeBounds", inPlace := ["slices.overlaps[codex/api.Extent]", "internal/abi.NoEscape", "internal/bytealg.MakeNoZero"], unfollowed := true, recurses := true, apart := false }
def InodeBoundsSaid : Prop := inodeBoundsRow.holds Try.pinned (OpenSpec.ofChange inodeBoundsSpec)

/-- ITS FALSE NEIGHBOUR: 'it returns false'. Refute it at one input. -/
def inodeBoundsWrong : ChangeSpec := { name := "inodeBounds", fn := fun _ => fun
  | [d1, d2, d3] => { results := [.lit (.bool false)], args := [d1, d2, d3] }
  | _ => none }
def InodeBoundsWrongFalsely : Prop := inodeBoundsRow.holds Try.pinned (OpenSpec.ofChange inodeBoundsWrong)

/-- 'codexlaw8.InodeSums': WHATEVER THE INPUT: true; the input reads as it did. -/
def inodeSumsSpec : ChangeSpec := { name := "inodeSums", fn := fun _ => fun
  | [d1, d2] => { results := [.lit (.bool true)], args := [d1, d2] }
  | _ => none }
def inodeSumsRow : OpenClaim := { program := "ytfmnbabkdpiboaa", sum := "b5cc15b350f46fab0e7f1e9647430923385aa9bd6f7aa5476023cd91406e1e46", func := "codex/codexlaw8.InodeSums", spec := "inodeSums", inPlace := ["slices.overlaps[codex/api.Extent]", "internal/abi.NoEscape", "internal/bytealg.MakeNoZero"], unfollowed := true, recurses := true, apart := false }
def InodeSumsSaid : Prop := inodeSumsRow.holds Try.pinned (OpenSpec.ofChange inodeSumsSpec)

/-- ITS FALSE NEIGHBOUR: 'it returns false'. Refute it at one input. -/
def inodeSumsWrong : ChangeSpec := { name := "inodeSums", fn := fun _ => fun
  | [d1, d2] => { results := [.lit (.bool false)], args := [d1, d2] }
  | _ => none }
def InodeSumsWrongFalsely : Prop := inodeSumsRow.holds Try.pinned (OpenSpec.ofChange inodeSumsWrong)

/- THE SECOND FORM. 'bulk': how many values and letters a reading holds, each counted each time it is reached (what is shared counts as often as it is met; a slice's spare places count too). A statement '..UptoSaid' is the law's where the arguments, and the package variables that the reading takes, are together of bulk at most 1048576: NARROWER than '..Said'. Prove '..Said' where nothing that the law and all that it calls make is longer than what came in: it says more and counts as full. Else prove '..UptoSaid'. A law counts once. -/
mutual
def uptoBulk {H : Type} : DataW H → Nat
  | .lit (.string bytes) => bytes.length + 1
  | .lit _ => 1
  | .nil => 1
  | .ptr d => uptoBulk d + 1
  | .slice elems spare => uptoBulkAll elems + uptoBulkAll spare + 1
  | .agg parts => uptoBulkAll parts + 1
  | .iface _ d => uptoBulk d + 1
  | .map entries => uptoBulkEntries entries + 1
  | .held _ => 1
def uptoBulkAll {H : Type} : List (DataW H) → Nat
  | [] => 0
  | d :: r => uptoBulk d + uptoBulkAll r
def uptoBulkEntries {H : Type} : List (Lit × DataW H) → Nat
  | [] => 0
  | x :: r => uptoBulkEntry x + uptoBulkEntries r
def uptoBulkEntry {H : Type} : Lit × DataW H → Nat
  | (.string bytes, d) => bytes.length + uptoBulk d + 1
  | (_, d) => uptoBulk d + 1
 end
def uptoSmall : (H : Type) → List (DataW H) → Bool := fun _ ds => decide (uptoBulkAll ds ≤ 1048576)
def OpenSpec.upto (s : _root_.Go.ChangeSpec) : _root_.Go.OpenSpec := { _root_.Go.OpenSpec.ofChange s with cond := some uptoSmall }

/-- 'codexlaw8.InodeRight', WHERE WHAT IT READS IS OF BULK AT MOST 1048576: true; the input reads as it did. -/
def inodeRightUptoRow : OpenClaim := { program := "ytfmnbabkdpiboaa", sum := "b5cc15b350f46fab0e7f1e9647430923385aa9bd6f7aa5476023cd91406e1e46", func := "codex/codexlaw8.InodeRight", spec := "inodeRight", inPlace := ["slices.overlaps[codex/api.Extent]", "internal/abi.NoEscape", "internal/bytealg.MakeNoZero"], unfollowed := true, recurses := true, apart := false, narrowed := true }
def InodeRightUptoSaid : Prop := inodeRightUptoRow.holds Try.pinned (OpenSpec.upto inodeRightSpec)

/-- 'codexlaw8.InodePacks', WHERE WHAT IT READS IS OF BULK AT MOST 1048576: true; the input reads as it did. -/
def inodePacksUptoRow : OpenClaim := { program := "ytfmnbabkdpiboaa", sum := "b5cc15b350f46fab0e7f1e9647430923385aa9bd6f7aa5476023cd91406e1e46", func := "codex/codexlaw8.InodePacks", spec := "inodePacks", inPlace := ["slices.overlaps[codex/api.Extent]", "internal/abi.NoEscape", "internal/bytealg.MakeNoZero"], unfollowed := true, recurses := true, apart := false, narrowed := true }
def InodePacksUptoSaid : Prop := inodePacksUptoRow.holds Try.pinned (OpenSpec.upto inodePacksSpec)

/-- 'codexlaw8.InodeReads', WHERE WHAT IT READS IS OF BULK AT MOST 1048576: true; the input reads as it did. -/
def inodeReadsUptoRow : OpenClaim := { program := "ytfmnbabkdpiboaa", sum := "b5cc15b350f46fab0e7f1e9647430923385aa9bd6f7aa5476023cd91406e1e46", func := "codex/codexlaw8.InodeReads", spec := "inodeReads", inPlace := ["slices.overlaps[codex/api.Extent]", "internal/abi.NoEscape", "internal/bytealg.MakeNoZero"], unfollowed := true, recurses := true, apart := false, narrowed := true }
def InodeReadsUptoSaid : Prop := inodeReadsUptoRow.holds Try.pinned (OpenSpec.upto inodeReadsSpec)

/-- 'codexlaw8.InodeBack', WHERE WHAT IT READS IS OF BULK AT MOST 1048576: true; the input reads as it did. -/
def inodeBackUptoRow : OpenClaim := { program := "ytfmnbabkdpiboaa", sum := "b5cc15b350f46fab0e7f1e9647430923385aa9bd6f7aa5476023cd91406e1e46", func := "codex/codexlaw8.InodeBack", spec := "inodeBack", inPlace := ["slices.overlaps[codex/api.Extent]", "internal/abi.NoEscape", "internal/bytealg.MakeNoZero"], unfollowed := true, recurses := true, apart := false, narrowed := true }
def InodeBackUptoSaid : Prop := inodeBackUptoRow.holds Try.pinned (OpenSpec.upto inodeBackSpec)

/-- 'codexlaw8.InodeFinds', WHERE WHAT IT READS IS OF BULK AT MOST 1048576: true; the input reads as it did. -/
def inodeFindsUptoRow : OpenClaim := { program := "ytfmnbabkdpiboaa", sum := "b5cc15b350f46fab0e7f1e9647430923385aa9bd6f7aa5476023cd91406e1e46", func := "codex/codexlaw8.InodeFinds", spec := "inodeFinds", inPlace := ["slices.overlaps[codex/api.Extent]", "internal/abi.NoEscape", "internal/bytealg.MakeNoZero"], unfollowed := true, recurses := true, apart := false, narrowed := true }
def InodeFindsUptoSaid : Prop := inodeFindsUptoRow.holds Try.pinned (OpenSpec.upto inodeFindsSpec)

/-- 'codexlaw8.InodeBounds', WHERE WHAT IT READS IS OF BULK AT MOST 1048576: true; the input reads as it did. -/
def inodeBoundsUptoRow : OpenClaim := { program := "ytfmnbabkdpiboaa", sum := "b5cc15b350f46fab0e7f1e9647430923385aa9bd6f7aa5476023cd91406e1e46", func := "codex/codexlaw8.InodeBounds", spec := "inodeBounds", inPlace := ["slices.overlaps[codex/api.Extent]", "internal/abi.NoEscape", "internal/bytealg.MakeNoZero"], unfollowed := true, recurses := true, apart := false, narrowed := true }
def InodeBoundsUptoSaid : Prop := inodeBoundsUptoRow.holds Try.pinned (OpenSpec.upto inodeBoundsSpec)

/-- 'codexlaw8.InodeSums', WHERE WHAT IT READS IS OF BULK AT MOST 1048576: true; the input reads as it did. -/
def inodeSumsUptoRow : OpenClaim := { program := "ytfmnbabkdpiboaa", sum := "b5cc15b350f46fab0e7f1e9647430923385aa9bd6f7aa5476023cd91406e1e46", func := "codex/codexlaw8.InodeSums", spec := "inodeSums", inPlace := ["slices.overlaps[codex/api.Extent]", "internal/abi.NoEscape", "internal/bytealg.MakeNoZero"], unfollowed := true, recurses := true, apart := false, narrowed := true }
def InodeSumsUptoSaid : Prop := inodeSumsUptoRow.holds Try.pinned (OpenSpec.upto inodeSumsSpec)

end Rows
end Go.Proofs.Ytfmnbabkdpiboaa
