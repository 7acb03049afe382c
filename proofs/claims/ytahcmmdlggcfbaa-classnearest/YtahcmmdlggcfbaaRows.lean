/-
  No cell of these rows narrows 'for every input' (looked for: loops, veiled, ifaces, maps, wideKeys, modest, calm, conditions, laid).
  DERIVED. THE GIVEN ROWS OF THIS SEAT. 6 by the template 'for every input the law returns true; each argument reads behind the call as it read before'; 0 by the template 'total and deterministic' (their statements: YtahcmmdlggcfbaaTotals.lean).
  GIVEN WITH THE SEED: the statements are not yours to turn. If you find one false, say at which input.
  Laid BY PROGRAM, IN A SANDBOX (cutbox-rows.mjs): the forced cells as the released guide's own fill.sh prints them over the translation a99cc6fb77a19fbc… (all of the seat's roots in one cut). By AI agents, Wed Nov 11 2026. No macro, syntax, notation, axiom, sorry.
-/
import Derived.Test.YtahcmmdlggcfbaaChecked
import GoSem.Claim
import GoSem.ClaimJoined
import GoSem.ClaimMapViews
import Derived.JoinedTies
import Derived.KernelRfl
namespace Go.Proofs.Ytahcmmdlggcfbaa
/- THE CELL 'sum', in the pinned program and in every row, IS THE sha256 OF THE DUMP (.gsa) THAT YtahcmmdlggcfbaaProg.lean LOADS. Nothing in Lean hashes anything: it is a label: what it is worth is what the hold of that sum in a sandbox is worth. -/
noncomputable def Try.pinned : Pinned := { name := "ytahcmmdlggcfbaa", sum := "a99cc6fb77a19fbcb6cee77678f8d7eb825772650d5162cdf3de60b055f43c70", checked := Try.checked }
namespace Rows
def none {H : Type} : Left H := { results := [], args := [] }

/-- 'qclaw2.ClassTells': WHATEVER THE INPUT: true; the input reads as it did. -/
def classTellsSpec : ChangeSpec := { name := "classTells", fn := fun _ => fun
  | [d1, d2, d3, d4, d5] => { results := [.lit (.bool true)], args := [d1, d2, d3, d4, d5] }
  | _ => none }
def classTellsRow : OpenClaim := { program := "ytahcmmdlggcfbaa", sum := "a99cc6fb77a19fbcb6cee77678f8d7eb825772650d5162cdf3de60b055f43c70", func := "quickchange/qclaw2.ClassTells", spec := "classTells", inPlace := ["slices.overlaps[quickchange/api.Method]"], unfollowed := true, recurses := true, apart := false }
def ClassTellsSaid : Prop := classTellsRow.holds Try.pinned (OpenSpec.ofChange classTellsSpec)

/-- ITS FALSE NEIGHBOUR: 'it returns false'. Refute it at one input. -/
def classTellsWrong : ChangeSpec := { name := "classTells", fn := fun _ => fun
  | [d1, d2, d3, d4, d5] => { results := [.lit (.bool false)], args := [d1, d2, d3, d4, d5] }
  | _ => none }
def ClassTellsWrongFalsely : Prop := classTellsRow.holds Try.pinned (OpenSpec.ofChange classTellsWrong)

/-- 'qclaw2.ClassNearest': WHATEVER THE INPUT: true; the input reads as it did. -/
def classNearestSpec : ChangeSpec := { name := "classNearest", fn := fun _ => fun
  | [d1, d2, d3] => { results := [.lit (.bool true)], args := [d1, d2, d3] }
  | _ => none }
def classNearestRow : OpenClaim := { program := "ytahcmmdlggcfbaa", sum := "a99cc6fb77a19fbcb6cee77678f8d7eb825772650d5162cdf3de60b055f43c70", func := "quickchange/qclaw2.ClassNearest", spec := "classNearest", inPlace := ["slices.overlaps[quickchange/api.Method]"], unfollowed := true, recurses := true, apart := false }
def ClassNearestSaid : Prop := classNearestRow.holds Try.pinned (OpenSpec.ofChange classNearestSpec)

/-- ITS FALSE NEIGHBOUR: 'it returns false'. Refute it at one input. -/
def classNearestWrong : ChangeSpec := { name := "classNearest", fn := fun _ => fun
  | [d1, d2, d3] => { results := [.lit (.bool false)], args := [d1, d2, d3] }
  | _ => none }
def ClassNearestWrongFalsely : Prop := classNearestRow.holds Try.pinned (OpenSpec.ofChange classNearestWrong)

/-- 'qclaw2.ClassInstalled': WHATEVER THE INPUT: true; the input reads as it did. -/
def classInstalledSpec : ChangeSpec := { name := "classInstalled", fn := fun _ => fun
  | [d1, d2, d3, d4, d5] => { results := [.lit (.bool true)], args := [d1, d2, d3, d4, d5] }
  | _ => none }
def classInstalledRow : OpenClaim := { program := "ytahcmmdlggcfbaa", sum := "a99cc6fb77a19fbcb6cee77678f8d7eb825772650d5162cdf3de60b055f43c70", func := "quickchange/qclaw2.ClassInstalled", spec := "classInstalled", inPlace := ["slices.overlaps[quickchange/api.Method]"], unfollowed := true, recurses := true, apart := false }
def ClassInstalledSaid : Prop := classInstalledRow.holds Try.pinned (OpenSpec.ofChange classInstalledSpec)

/-- ITS FALSE NEIGHBOUR: 'it returns false'. Refute it at one input. -/
def classInstalledWrong : ChangeSpec := { name := "classInstalled", fn := fun _ => fun
  | [d1, d2, d3, d4, d5] => { results := [.lit (.bool false)], args := [d1, d2, d3, d4, d5] }
  | _ => none }
def ClassInstalledWrongFalsely : Prop := classInstalledRow.holds Try.pinned (OpenSpec.ofChange classInstalledWrong)

/-- 'qclaw3.CodeTells': WHATEVER THE INPUT: true; the input reads as it did. -/
def codeTellsSpec : ChangeSpec := { name := "codeTells", fn := fun _ => fun
  | [d1, d2, d3] => { results := [.lit (.bool true)], args := [d1, d2, d3] }
  | _ => none }
def codeTellsRow : OpenClaim := { program := "ytahcmmdlggcfbaa", sum := "a99cc6fb77a19fbcb6cee77678f8d7eb825772650d5162cdf3de60b055f43c70", func := "quickchange/qclaw3.CodeTells", spec := "codeTells", unfollowed := true, recurses := true, apart := false }
def CodeTellsSaid : Prop := codeTellsRow.holds Try.pinned (OpenSpec.ofChange codeTellsSpec)

/-- ITS FALSE NEIGHBOUR: 'it returns false'. Refute it at one input. -/
def codeTellsWrong : ChangeSpec := { name := "codeTells", fn := fun _ => fun
  | [d1, d2, d3] => { results := [.lit (.bool false)], args := [d1, d2, d3] }
  | _ => none }
def CodeTellsWrongFalsely : Prop := codeTellsRow.holds Try.pinned (OpenSpec.ofChange codeTellsWrong)

/-- 'qclaw3.CodeWays': WHATEVER THE INPUT: true; the input reads as it did. -/
def codeWaysSpec : ChangeSpec := { name := "codeWays", fn := fun _ => fun
  | [d1, d2, d3] => { results := [.lit (.bool true)], args := [d1, d2, d3] }
  | _ => none }
def codeWaysRow : OpenClaim := { program := "ytahcmmdlggcfbaa", sum := "a99cc6fb77a19fbcb6cee77678f8d7eb825772650d5162cdf3de60b055f43c70", func := "quickchange/qclaw3.CodeWays", spec := "codeWays", unfollowed := true, recurses := true, apart := false }
def CodeWaysSaid : Prop := codeWaysRow.holds Try.pinned (OpenSpec.ofChange codeWaysSpec)

/-- ITS FALSE NEIGHBOUR: 'it returns false'. Refute it at one input. -/
def codeWaysWrong : ChangeSpec := { name := "codeWays", fn := fun _ => fun
  | [d1, d2, d3] => { results := [.lit (.bool false)], args := [d1, d2, d3] }
  | _ => none }
def CodeWaysWrongFalsely : Prop := codeWaysRow.holds Try.pinned (OpenSpec.ofChange codeWaysWrong)

/-- 'qclaw3.CodeCut': WHATEVER THE INPUT: true; the input reads as it did. -/
def codeCutSpec : ChangeSpec := { name := "codeCut", fn := fun _ => fun
  | [d1, d2, d3] => { results := [.lit (.bool true)], args := [d1, d2, d3] }
  | _ => none }
def codeCutRow : OpenClaim := { program := "ytahcmmdlggcfbaa", sum := "a99cc6fb77a19fbcb6cee77678f8d7eb825772650d5162cdf3de60b055f43c70", func := "quickchange/qclaw3.CodeCut", spec := "codeCut", unfollowed := true, recurses := true, apart := false }
def CodeCutSaid : Prop := codeCutRow.holds Try.pinned (OpenSpec.ofChange codeCutSpec)

/-- ITS FALSE NEIGHBOUR: 'it returns false'. Refute it at one input. -/
def codeCutWrong : ChangeSpec := { name := "codeCut", fn := fun _ => fun
  | [d1, d2, d3] => { results := [.lit (.bool false)], args := [d1, d2, d3] }
  | _ => none }
def CodeCutWrongFalsely : Prop := codeCutRow.holds Try.pinned (OpenSpec.ofChange codeCutWrong)

/- THE SECOND FORM. 'bulk': how many values and letters a reading holds, each counted each time it is reached (what is shared counts as often as it is met; a slice's spare places count too). A statement '..UptoSaid' is the law's where the arguments, and the package variables that the reading takes, are together of bulk at most 1048576: NARROWER than '..Said'. Prove '..Said' where nothing that the law and all that it calls make is longer than what came in: it says more and counts as full. Else prove '..UptoSaid'. A law counts once. -/
mutual
def uptoBulk {H : Type} : DataW H → Nat
  | .lit (.string bytes) => bytes.length + 1
  | .lit _ => 1
  | .nil => 1
  | .ptr d => uptoBulk d + 1
  | .slice elems spare => uptoBulkAll elems + uptoBulkAll spare + 1
  | .agg parts => uptoBulkAll parts + 1
  | .iface _ d => uptoBulk d + 1
  | .map entries => uptoBulkEntries entries + 1
  | .held _ => 1
def uptoBulkAll {H : Type} : List (DataW H) → Nat
  | [] => 0
  | d :: r => uptoBulk d + uptoBulkAll r
def uptoBulkEntries {H : Type} : List (Lit × DataW H) → Nat
  | [] => 0
  | x :: r => uptoBulkEntry x + uptoBulkEntries r
def uptoBulkEntry {H : Type} : Lit × DataW H → Nat
  | (.string bytes, d) => bytes.length + uptoBulk d + 1
  | (_, d) => uptoBulk d + 1
 end
def uptoSmall : (H : Type) → List (DataW H) → Bool := fun _ ds => decide (uptoBulkAll ds ≤ 1048576)
def OpenSpec.upto (s : _root_.Go.ChangeSpec) : _root_.Go.OpenSpec := { _root_.Go.OpenSpec.ofChange s with cond := some uptoSmall }

/-- 'qclaw2.ClassTells', WHERE WHAT IT READS IS OF BULK AT MOST 1048576: true; the input reads as it did. -/
def classTellsUptoRow : OpenClaim := { program := "ytahcmmdlggcfbaa", sum := "a99cc6fb77a19fbcb6cee77678f8d7eb825772650d5162cdf3de60b055f43c70", func := "quickchange/qclaw2.ClassTells", spec := "classTells", inPlace := ["slices.overlaps[quickchange/api.Method]"], unfollowed := true, recurses := true, apart := false, narrowed := true }
def ClassTellsUptoSaid : Prop := classTellsUptoRow.holds Try.pinned (OpenSpec.upto classTellsSpec)

/-- 'qclaw2.ClassNearest', WHERE WHAT IT READS IS OF BULK AT MOST 1048576: true; the input reads as it did. -/
def classNearestUptoRow : OpenClaim := { program := "ytahcmmdlggcfbaa", sum := "a99cc6fb77a19fbcb6cee77678f8d7eb825772650d5162cdf3de60b055f43c70", func := "quickchange/qclaw2.ClassNearest", spec := "classNearest", inPlace := ["slices.overlaps[quickchange/api.Method]"], unfollowed := true, recurses := true, apart := false, narrowed := true }
def ClassNearestUptoSaid : Prop := classNearestUptoRow.holds Try.pinned (OpenSpec.upto classNearestSpec)

/-- 'qclaw2.ClassInstalled', WHERE WHAT IT READS IS OF BULK AT MOST 1048576: true; the input reads as it did. -/
def classInstalledUptoRow : OpenClaim := { program := "ytahcmmdlggcfbaa", sum := "a99cc6fb77a19fbcb6cee77678f8d7eb825772650d5162cdf3de60b055f43c70", func := "quickchange/qclaw2.ClassInstalled", spec := "classInstalled", inPlace := ["slices.overlaps[quickchange/api.Method]"], unfollowed := true, recurses := true, apart := false, narrowed := true }
def ClassInstalledUptoSaid : Prop := classInstalledUptoRow.holds Try.pinned (OpenSpec.upto classInstalledSpec)

/-- 'qclaw3.CodeTells', WHERE WHAT IT READS IS OF BULK AT MOST 1048576: true; the input reads as it did. -/
def codeTellsUptoRow : OpenClaim := { program := "ytahcmmdlggcfbaa", sum := "a99cc6fb77a19fbcb6cee77678f8d7eb825772650d5162cdf3de60b055f43c70", func := "quickchange/qclaw3.CodeTells", spec := "codeTells", unfollowed := true, recurses := true, apart := false, narrowed := true }
def CodeTellsUptoSaid : Prop := codeTellsUptoRow.holds Try.pinned (OpenSpec.upto codeTellsSpec)

/-- 'qclaw3.CodeWays', WHERE WHAT IT READS IS OF BULK AT MOST 1048576: true; the input reads as it did. -/
def codeWaysUptoRow : OpenClaim := { program := "ytahcmmdlggcfbaa", sum := "a99cc6fb77a19fbcb6cee77678f8d7eb825772650d5162cdf3de60b055f43c70", func := "quickchange/qclaw3.CodeWays", spec := "codeWays", unfollowed := true, recurses := true, apart := false, narrowed := true }
def CodeWaysUptoSaid : Prop := codeWaysUptoRow.holds Try.pinned (OpenSpec.upto codeWaysSpec)

/-- 'qclaw3.CodeCut', WHERE WHAT IT READS IS OF BULK AT MOST 1048576: true; the input reads as it did. -/
def codeCutUptoRow : OpenClaim := { program := "ytahcmmdlggcfbaa", sum := "a99cc6fb77a19fbcb6cee77678f8d7eb825772650d5162cdf3de60b055f43c70", func := "quickchange/qclaw3.CodeCut", spec := "codeCut", unfollowed := true, recurses := true, apart := false, narrowed := true }
def CodeCutUptoSaid : Prop := codeCutUptoRow.holds Try.pinned (OpenSpec.upto codeCutSpec)

end Rows
end Go.Proofs.Ytahcmmdlggcfbaa
