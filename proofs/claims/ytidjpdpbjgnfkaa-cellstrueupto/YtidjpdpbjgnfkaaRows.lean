/-
  No cell of these rows narrows 'for every input' (looked for: loops, veiled, ifaces, maps, wideKeys, modest, calm, conditions, laid).
  DERIVED. THE GIVEN ROWS OF THIS SEAT. 6 by the template 'for every input the law returns true; each argument reads behind the call as it read before'; 0 by the template 'total and deterministic' (their statements: YtidjpdpbjgnfkaaTotals.lean).
  GIVEN WITH THE SEED: the statements are not yours to turn. If you find one false, say at which input.
  Laid BY PROGRAM, IN A SANDBOX (cutbox-rows.mjs): the forced cells as the released guide's own fill.sh prints them over the translation 2ff74651013fb2b3… (all of the seat's roots in one cut). By AI agents, Wed Nov 11 2026. No macro, syntax, notation, axiom, sorry.
-/
import Derived.Test.YtidjpdpbjgnfkaaChecked
import GoSem.Claim
import GoSem.ClaimJoined
import GoSem.ClaimMapViews
import Derived.JoinedTies
import Derived.KernelRfl
namespace Go.Proofs.Ytidjpdpbjgnfkaa
/- THE CELL 'sum', in the pinned program and in every row, IS THE sha256 OF THE DUMP (.gsa) THAT YtidjpdpbjgnfkaaProg.lean LOADS. Nothing in Lean hashes anything: it is a label: what it is worth is what the hold of that sum in a sandbox is worth. -/
noncomputable def Try.pinned : Pinned := { name := "ytidjpdpbjgnfkaa", sum := "2ff74651013fb2b33fa3e3d73a317b493039cf3044a96bdaafe74000e6f49d21", checked := Try.checked }
namespace Rows
def none {H : Type} : Left H := { results := [], args := [] }

/-- 'qclaw6.CellsTells': WHATEVER THE INPUT: true; the input reads as it did. -/
def cellsTellsSpec : ChangeSpec := { name := "cellsTells", fn := fun _ => fun
  | [d1, d2, d3, d4, d5, d6, d7] => { results := [.lit (.bool true)], args := [d1, d2, d3, d4, d5, d6, d7] }
  | _ => none }
def cellsTellsRow : OpenClaim := { program := "ytidjpdpbjgnfkaa", sum := "2ff74651013fb2b33fa3e3d73a317b493039cf3044a96bdaafe74000e6f49d21", func := "quickchange/qclaw6.CellsTells", spec := "cellsTells", unfollowed := true, recurses := true, apart := false }
def CellsTellsSaid : Prop := cellsTellsRow.holds Try.pinned (OpenSpec.ofChange cellsTellsSpec)

/-- ITS FALSE NEIGHBOUR: 'it returns false'. Refute it at one input. -/
def cellsTellsWrong : ChangeSpec := { name := "cellsTells", fn := fun _ => fun
  | [d1, d2, d3, d4, d5, d6, d7] => { results := [.lit (.bool false)], args := [d1, d2, d3, d4, d5, d6, d7] }
  | _ => none }
def CellsTellsWrongFalsely : Prop := cellsTellsRow.holds Try.pinned (OpenSpec.ofChange cellsTellsWrong)

/-- 'qclaw6.CellsTrue': WHATEVER THE INPUT: true; the input reads as it did. -/
def cellsTrueSpec : ChangeSpec := { name := "cellsTrue", fn := fun _ => fun
  | [d1, d2, d3, d4] => { results := [.lit (.bool true)], args := [d1, d2, d3, d4] }
  | _ => none }
def cellsTrueRow : OpenClaim := { program := "ytidjpdpbjgnfkaa", sum := "2ff74651013fb2b33fa3e3d73a317b493039cf3044a96bdaafe74000e6f49d21", func := "quickchange/qclaw6.CellsTrue", spec := "cellsTrue", unfollowed := true, recurses := true, apart := false }
def CellsTrueSaid : Prop := cellsTrueRow.holds Try.pinned (OpenSpec.ofChange cellsTrueSpec)

/-- ITS FALSE NEIGHBOUR: 'it returns false'. Refute it at one input. -/
def cellsTrueWrong : ChangeSpec := { name := "cellsTrue", fn := fun _ => fun
  | [d1, d2, d3, d4] => { results := [.lit (.bool false)], args := [d1, d2, d3, d4] }
  | _ => none }
def CellsTrueWrongFalsely : Prop := cellsTrueRow.holds Try.pinned (OpenSpec.ofChange cellsTrueWrong)

/-- 'qclaw6.CellsOld': WHATEVER THE INPUT: true; the input reads as it did. -/
def cellsOldSpec : ChangeSpec := { name := "cellsOld", fn := fun _ => fun
  | [d1, d2, d3, d4] => { results := [.lit (.bool true)], args := [d1, d2, d3, d4] }
  | _ => none }
def cellsOldRow : OpenClaim := { program := "ytidjpdpbjgnfkaa", sum := "2ff74651013fb2b33fa3e3d73a317b493039cf3044a96bdaafe74000e6f49d21", func := "quickchange/qclaw6.CellsOld", spec := "cellsOld", unfollowed := true, recurses := true, apart := false }
def CellsOldSaid : Prop := cellsOldRow.holds Try.pinned (OpenSpec.ofChange cellsOldSpec)

/-- ITS FALSE NEIGHBOUR: 'it returns false'. Refute it at one input. -/
def cellsOldWrong : ChangeSpec := { name := "cellsOld", fn := fun _ => fun
  | [d1, d2, d3, d4] => { results := [.lit (.bool false)], args := [d1, d2, d3, d4] }
  | _ => none }
def CellsOldWrongFalsely : Prop := cellsOldRow.holds Try.pinned (OpenSpec.ofChange cellsOldWrong)

/-- 'qclaw6.CellsFew': WHATEVER THE INPUT: true; the input reads as it did. -/
def cellsFewSpec : ChangeSpec := { name := "cellsFew", fn := fun _ => fun
  | [d1, d2, d3] => { results := [.lit (.bool true)], args := [d1, d2, d3] }
  | _ => none }
def cellsFewRow : OpenClaim := { program := "ytidjpdpbjgnfkaa", sum := "2ff74651013fb2b33fa3e3d73a317b493039cf3044a96bdaafe74000e6f49d21", func := "quickchange/qclaw6.CellsFew", spec := "cellsFew", unfollowed := true, recurses := true, apart := false }
def CellsFewSaid : Prop := cellsFewRow.holds Try.pinned (OpenSpec.ofChange cellsFewSpec)

/-- ITS FALSE NEIGHBOUR: 'it returns false'. Refute it at one input. -/
def cellsFewWrong : ChangeSpec := { name := "cellsFew", fn := fun _ => fun
  | [d1, d2, d3] => { results := [.lit (.bool false)], args := [d1, d2, d3] }
  | _ => none }
def CellsFewWrongFalsely : Prop := cellsFewRow.holds Try.pinned (OpenSpec.ofChange cellsFewWrong)

/-- 'qclaw7.TallyTells': WHATEVER THE INPUT: true; the input reads as it did. -/
def tallyTellsSpec : ChangeSpec := { name := "tallyTells", fn := fun _ => fun
  | [d1, d2, d3] => { results := [.lit (.bool true)], args := [d1, d2, d3] }
  | _ => none }
def tallyTellsRow : OpenClaim := { program := "ytidjpdpbjgnfkaa", sum := "2ff74651013fb2b33fa3e3d73a317b493039cf3044a96bdaafe74000e6f49d21", func := "quickchange/qclaw7.TallyTells", spec := "tallyTells", unfollowed := true, recurses := true, apart := false }
def TallyTellsSaid : Prop := tallyTellsRow.holds Try.pinned (OpenSpec.ofChange tallyTellsSpec)

/-- ITS FALSE NEIGHBOUR: 'it returns false'. Refute it at one input. -/
def tallyTellsWrong : ChangeSpec := { name := "tallyTells", fn := fun _ => fun
  | [d1, d2, d3] => { results := [.lit (.bool false)], args := [d1, d2, d3] }
  | _ => none }
def TallyTellsWrongFalsely : Prop := tallyTellsRow.holds Try.pinned (OpenSpec.ofChange tallyTellsWrong)

/-- 'qclaw7.TallyTurned': WHATEVER THE INPUT: true; the input reads as it did. -/
def tallyTurnedSpec : ChangeSpec := { name := "tallyTurned", fn := fun _ => fun
  | [d1, d2, d3] => { results := [.lit (.bool true)], args := [d1, d2, d3] }
  | _ => none }
def tallyTurnedRow : OpenClaim := { program := "ytidjpdpbjgnfkaa", sum := "2ff74651013fb2b33fa3e3d73a317b493039cf3044a96bdaafe74000e6f49d21", func := "quickchange/qclaw7.TallyTurned", spec := "tallyTurned", unfollowed := true, recurses := true, apart := false }
def TallyTurnedSaid : Prop := tallyTurnedRow.holds Try.pinned (OpenSpec.ofChange tallyTurnedSpec)

/-- ITS FALSE NEIGHBOUR: 'it returns false'. Refute it at one input. -/
def tallyTurnedWrong : ChangeSpec := { name := "tallyTurned", fn := fun _ => fun
  | [d1, d2, d3] => { results := [.lit (.bool false)], args := [d1, d2, d3] }
  | _ => none }
def TallyTurnedWrongFalsely : Prop := tallyTurnedRow.holds Try.pinned (OpenSpec.ofChange tallyTurnedWrong)

/- THE SECOND FORM. 'bulk': how many values and letters a reading holds, each counted each time it is reached (what is shared counts as often as it is met; a slice's spare places count too). A statement '..UptoSaid' is the law's where the arguments, and the package variables that the reading takes, are together of bulk at most 1048576: NARROWER than '..Said'. Prove '..Said' where nothing that the law and all that it calls make is longer than what came in: it says more and counts as full. Else prove '..UptoSaid'. A law counts once. -/
mutual
def uptoBulk {H : Type} : DataW H → Nat
  | .lit (.string bytes) => bytes.length + 1
  | .lit _ => 1
  | .nil => 1
  | .ptr d => uptoBulk d + 1
  | .slice elems spare => uptoBulkAll elems + uptoBulkAll spare + 1
  | .agg parts => uptoBulkAll parts + 1
  | .iface _ d => uptoBulk d + 1
  | .map entries => uptoBulkEntries entries + 1
  | .held _ => 1
def uptoBulkAll {H : Type} : List (DataW H) → Nat
  | [] => 0
  | d :: r => uptoBulk d + uptoBulkAll r
def uptoBulkEntries {H : Type} : List (Lit × DataW H) → Nat
  | [] => 0
  | x :: r => uptoBulkEntry x + uptoBulkEntries r
def uptoBulkEntry {H : Type} : Lit × DataW H → Nat
  | (.string bytes, d) => bytes.length + uptoBulk d + 1
  | (_, d) => uptoBulk d + 1
 end
def uptoSmall : (H : Type) → List (DataW H) → Bool := fun _ ds => decide (uptoBulkAll ds ≤ 1048576)
def OpenSpec.upto (s : _root_.Go.ChangeSpec) : _root_.Go.OpenSpec := { _root_.Go.OpenSpec.ofChange s with cond := some uptoSmall }

/-- 'qclaw6.CellsTells', WHERE WHAT IT READS IS OF BULK AT MOST 1048576: true; the input reads as it did. -/
def cellsTellsUptoRow : OpenClaim := { program := "ytidjpdpbjgnfkaa", sum := "2ff74651013fb2b33fa3e3d73a317b493039cf3044a96bdaafe74000e6f49d21", func := "quickchange/qclaw6.CellsTells", spec := "cellsTells", unfollowed := true, recurses := true, apart := false, narrowed := true }
def CellsTellsUptoSaid : Prop := cellsTellsUptoRow.holds Try.pinned (OpenSpec.upto cellsTellsSpec)

/-- 'qclaw6.CellsTrue', WHERE WHAT IT READS IS OF BULK AT MOST 1048576: true; the input reads as it did. -/
def cellsTrueUptoRow : OpenClaim := { program := "ytidjpdpbjgnfkaa", sum := "2ff74651013fb2b33fa3e3d73a317b493039cf3044a96bdaafe74000e6f49d21", func := "quickchange/qclaw6.CellsTrue", spec := "cellsTrue", unfollowed := true, recurses := true, apart := false, narrowed := true }
def CellsTrueUptoSaid : Prop := cellsTrueUptoRow.holds Try.pinned (OpenSpec.upto cellsTrueSpec)

/-- 'qclaw6.CellsOld', WHERE WHAT IT READS IS OF BULK AT MOST 1048576: true; the input reads as it did. -/
def cellsOldUptoRow : OpenClaim := { program := "ytidjpdpbjgnfkaa", sum := "2ff74651013fb2b33fa3e3d73a317b493039cf3044a96bdaafe74000e6f49d21", func := "quickchange/qclaw6.CellsOld", spec := "cellsOld", unfollowed := true, recurses := true, apart := false, narrowed := true }
def CellsOldUptoSaid : Prop := cellsOldUptoRow.holds Try.pinned (OpenSpec.upto cellsOldSpec)

/-- 'qclaw6.CellsFew', WHERE WHAT IT READS IS OF BULK AT MOST 1048576: true; the input reads as it did. -/
def cellsFewUptoRow : OpenClaim := { program := "ytidjpdpbjgnfkaa", sum := "2ff74651013fb2b33fa3e3d73a317b493039cf3044a96bdaafe74000e6f49d21", func := "quickchange/qclaw6.CellsFew", spec := "cellsFew", unfollowed := true, recurses := true, apart := false, narrowed := true }
def CellsFewUptoSaid : Prop := cellsFewUptoRow.holds Try.pinned (OpenSpec.upto cellsFewSpec)

/-- 'qclaw7.TallyTells', WHERE WHAT IT READS IS OF BULK AT MOST 1048576: true; the input reads as it did. -/
def tallyTellsUptoRow : OpenClaim := { program := "ytidjpdpbjgnfkaa", sum := "2ff74651013fb2b33fa3e3d73a317b493039cf3044a96bdaafe74000e6f49d21", func := "quickchange/qclaw7.TallyTells", spec := "tallyTells", unfollowed := true, recurses := true, apart := false, narrowed := true }
def TallyTellsUptoSaid : Prop := tallyTellsUptoRow.holds Try.pinned (OpenSpec.upto tallyTellsSpec)

/-- 'qclaw7.TallyTurned', WHERE WHAT IT READS IS OF BULK AT MOST 1048576: true; the input reads as it did. -/
def tallyTurnedUptoRow : OpenClaim := { program := "ytidjpdpbjgnfkaa", sum := "2ff74651013fb2b33fa3e3d73a317b493039cf3044a96bdaafe74000e6f49d21", func := "quickchange/qclaw7.TallyTurned", spec := "tallyTurned", unfollowed := true, recurses := true, apart := false, narrowed := true }
def TallyTurnedUptoSaid : Prop := tallyTurnedUptoRow.holds Try.pinned (OpenSpec.upto tallyTurnedSpec)

end Rows
end Go.Proofs.Ytidjpdpbjgnfkaa
