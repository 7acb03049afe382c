/-
  No cell of these rows narrows 'for every input' (looked for: loops, veiled, ifaces, maps, wideKeys, modest, calm, conditions, laid).
  DERIVED. THE GIVEN ROWS OF THIS SEAT. 2 by the template 'for every input the law returns true; each argument reads behind the call as it read before'; 0 by the template 'total and deterministic' (their statements: YtdfbgpiikeheiaaTotals.lean).
  GIVEN WITH THE SEED: the statements are not yours to turn. If you find one false, say at which input.
  Laid BY PROGRAM, IN A SANDBOX (cutbox-rows.mjs): the forced cells as the released guide's own fill.sh prints them over the translation 9d6030d6f8874c71… (all of the seat's roots in one cut). By AI agents, Wed Nov 11 2026. No macro, syntax, notation, axiom, sorry.
-/
import Derived.Test.YtdfbgpiikeheiaaChecked
import GoSem.Claim
import GoSem.ClaimJoined
import GoSem.ClaimMapViews
import Derived.JoinedTies
import Derived.KernelRfl
namespace Go.Proofs.Ytdfbgpiikeheiaa
/- THE CELL 'sum', in the pinned program and in every row, IS THE sha256 OF THE DUMP (.gsa) THAT YtdfbgpiikeheiaaProg.lean LOADS. Nothing in Lean hashes anything: it is a label: what it is worth is what the hold of that sum in a sandbox is worth. -/
noncomputable def Try.pinned : Pinned := { name := "ytdfbgpiikeheiaa", sum := "9d6030d6f8874c7193092c5bed437adf14a7a4948e26b1ce93bf70e7c65862a1", checked := Try.checked }
namespace Rows
def none {H : Type} : Left H := { results := [], args := [] }

/-- 'qclaw8.CachedAgain': WHATEVER THE INPUT: true; the input reads as it did. -/
def cachedAgainSpec : ChangeSpec := { name := "cachedAgain", fn := fun _ => fun
  | [d1, d2] => { results := [.lit (.bool true)], args := [d1, d2] }
  | _ => none }
def cachedAgainRow : OpenClaim := { program := "ytdfbgpiikeheiaa", sum := "9d6030d6f8874c7193092c5bed437adf14a7a4948e26b1ce93bf70e7c65862a1", func := "quickchange/qclaw8.CachedAgain", spec := "cachedAgain", unfollowed := true, recurses := true, apart := false }
def CachedAgainSaid : Prop := cachedAgainRow.holds Try.pinned (OpenSpec.ofChange cachedAgainSpec)

/-- ITS FALSE NEIGHBOUR: 'it returns false'. Refute it at one input. -/
def cachedAgainWrong : ChangeSpec := { name := "cachedAgain", fn := fun _ => fun
  | [d1, d2] => { results := [.lit (.bool false)], args := [d1, d2] }
  | _ => none }
def CachedAgainWrongFalsely : Prop := cachedAgainRow.holds Try.pinned (OpenSpec.ofChange cachedAgainWrong)

/-- 'qclaw10.InlineSame': WHATEVER THE INPUT: true; the input reads as it did. -/
def inlineSameSpec : ChangeSpec := { name := "inlineSame", fn := fun _ => fun
  | [d1, d2, d3, d4, d5] => { results := [.lit (.bool true)], args := [d1, d2, d3, d4, d5] }
  | _ => none }
def inlineSameRow : OpenClaim := { program := "ytdfbgpiikeheiaa", sum := "9d6030d6f8874c7193092c5bed437adf14a7a4948e26b1ce93bf70e7c65862a1", func := "quickchange/qclaw10.InlineSame", spec := "inlineSame", unfollowed := true, recurses := true, apart := false }
def InlineSameSaid : Prop := inlineSameRow.holds Try.pinned (OpenSpec.ofChange inlineSameSpec)

/-- ITS FALSE NEIGHBOUR: 'it returns false'. Refute it at one input. -/
def inlineSameWrong : ChangeSpec := { name := "inlineSame", fn := fun _ => fun
  | [d1, d2, d3, d4, d5] => { results := [.lit (.bool false)], args := [d1, d2, d3, d4, d5] }
  | _ => none }
def InlineSameWrongFalsely : Prop := inlineSameRow.holds Try.pinned (OpenSpec.ofChange inlineSameWrong)

/- THE SECOND FORM. 'bulk': how many values and letters a reading holds, each counted each time it is reached (what is shared counts as often as it is met; a slice's spare places count too). A statement '..UptoSaid' is the law's where the arguments, and the package variables that the reading takes, are together of bulk at most 1048576: NARROWER than '..Said'. Prove '..Said' where nothing that the law and all that it calls make is longer than what came in: it says more and counts as full. Else prove '..UptoSaid'. A law counts once. -/
mutual
def uptoBulk {H : Type} : DataW H → Nat
  | .lit (.string bytes) => bytes.length + 1
  | .lit _ => 1
  | .nil => 1
  | .ptr d => uptoBulk d + 1
  | .slice elems spare => uptoBulkAll elems + uptoBulkAll spare + 1
  | .agg parts => uptoBulkAll parts + 1
  | .iface _ d => uptoBulk d + 1
  | .map entries => uptoBulkEntries entries + 1
  | .held _ => 1
def uptoBulkAll {H : Type} : List (DataW H) → Nat
  | [] => 0
  | d :: r => uptoBulk d + uptoBulkAll r
def uptoBulkEntries {H : Type} : List (Lit × DataW H) → Nat
  | [] => 0
  | x :: r => uptoBulkEntry x + uptoBulkEntries r
def uptoBulkEntry {H : Type} : Lit × DataW H → Nat
  | (.string bytes, d) => bytes.length + uptoBulk d + 1
  | (_, d) => uptoBulk d + 1
 end
def uptoSmall : (H : Type) → List (DataW H) → Bool := fun _ ds => decide (uptoBulkAll ds ≤ 1048576)
def OpenSpec.upto (s : _root_.Go.ChangeSpec) : _root_.Go.OpenSpec := { _root_.Go.OpenSpec.ofChange s with cond := some uptoSmall }

/-- 'qclaw8.CachedAgain', WHERE WHAT IT READS IS OF BULK AT MOST 1048576: true; the input reads as it did. -/
def cachedAgainUptoRow : OpenClaim := { program := "ytdfbgpiikeheiaa", sum := "9d6030d6f8874c7193092c5bed437adf14a7a4948e26b1ce93bf70e7c65862a1", func := "quickchange/qclaw8.CachedAgain", spec := "cachedAgain", unfollowed := true, recurses := true, apart := false, narrowed := true }
def CachedAgainUptoSaid : Prop := cachedAgainUptoRow.holds Try.pinned (OpenSpec.upto cachedAgainSpec)

/-- 'qclaw10.InlineSame', WHERE WHAT IT READS IS OF BULK AT MOST 1048576: true; the input reads as it did. -/
def inlineSameUptoRow : OpenClaim := { program := "ytdfbgpiikeheiaa", sum := "9d6030d6f8874c7193092c5bed437adf14a7a4948e26b1ce93bf70e7c65862a1", func := "quickchange/qclaw10.InlineSame", spec := "inlineSame", unfollowed := true, recurses := true, apart := false, narrowed := true }
def InlineSameUptoSaid : Prop := inlineSameUptoRow.holds Try.pinned (OpenSpec.upto inlineSameSpec)

end Rows
end Go.Proofs.Ytdfbgpiikeheiaa
