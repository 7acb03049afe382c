/-
  No cell of these rows narrows 'for every input' (looked for: loops, veiled, ifaces, maps, wideKeys, modest, calm, conditions, laid).
  DERIVED. THE GIVEN ROWS OF THIS SEAT. 3 by the template 'for every input the law returns true; each argument reads behind the call as it read before'; 0 by the template 'total and deterministic' (their statements: YtlmejfipgingeaaTotals.lean).
  GIVEN WITH THE SEED: the statements are not yours to turn. If you find one false, say at which input.
  Laid BY PROGRAM, IN A SANDBOX (cutbox-rows.mjs): the forced cells as the released guide's own fill.sh prints them over the translation 774e6057fee72ffb… (all of the seat's roots in one cut). By AI agents, Wed Nov 11 2026. No macro, syntax, notation, axiom, sorry.
-/
import Derived.Test.YtlmejfipgingeaaChecked
import GoSem.Claim
import GoSem.ClaimJoined
import GoSem.ClaimMapViews
import Derived.JoinedTies
import Derived.KernelRfl
namespace Go.Proofs.Ytlmejfipgingeaa
/- THE CELL 'sum', in the pinned program and in every row, IS THE sha256 OF THE DUMP (.gsa) THAT YtlmejfipgingeaaProg.lean LOADS. Nothing in Lean hashes anything: it is a label: what it is worth is what the hold of that sum in a sandbox is worth. -/
noncomputable def Try.pinned : Pinned := { name := "ytlmejfipgingeaa", sum := "774e6057fee72ffb372ddc273df750a6432721be8ece3196036b1a5c4c9553e8", checked := Try.checked }
namespace Rows
def none {H : Type} : Left H := { results := [], args := [] }

/-- 'qclaw1.ValueTells': WHATEVER THE INPUT: true; the input reads as it did. -/
def valueTellsSpec : ChangeSpec := { name := "valueTells", fn := fun _ => fun
  | [d1, d2, d3, d4, d5, d6, d7, d8] => { results := [.lit (.bool true)], args := [d1, d2, d3, d4, d5, d6, d7, d8] }
  | _ => none }
def valueTellsRow : OpenClaim := { program := "ytlmejfipgingeaa", sum := "774e6057fee72ffb372ddc273df750a6432721be8ece3196036b1a5c4c9553e8", func := "quickchange/qclaw1.ValueTells", spec := "valueTells", apart := false }
def ValueTellsSaid : Prop := valueTellsRow.holds Try.pinned (OpenSpec.ofChange valueTellsSpec)

/-- ITS FALSE NEIGHBOUR: 'it returns false'. Refute it at one input. -/
def valueTellsWrong : ChangeSpec := { name := "valueTells", fn := fun _ => fun
  | [d1, d2, d3, d4, d5, d6, d7, d8] => { results := [.lit (.bool false)], args := [d1, d2, d3, d4, d5, d6, d7, d8] }
  | _ => none }
def ValueTellsWrongFalsely : Prop := valueTellsRow.holds Try.pinned (OpenSpec.ofChange valueTellsWrong)

/-- 'qclaw1.ValueNew': WHATEVER THE INPUT: true; the input reads as it did. -/
def valueNewSpec : ChangeSpec := { name := "valueNew", fn := fun _ => fun
  | [d1, d2, d3] => { results := [.lit (.bool true)], args := [d1, d2, d3] }
  | _ => none }
def valueNewRow : OpenClaim := { program := "ytlmejfipgingeaa", sum := "774e6057fee72ffb372ddc273df750a6432721be8ece3196036b1a5c4c9553e8", func := "quickchange/qclaw1.ValueNew", spec := "valueNew", apart := false }
def ValueNewSaid : Prop := valueNewRow.holds Try.pinned (OpenSpec.ofChange valueNewSpec)

/-- ITS FALSE NEIGHBOUR: 'it returns false'. Refute it at one input. -/
def valueNewWrong : ChangeSpec := { name := "valueNew", fn := fun _ => fun
  | [d1, d2, d3] => { results := [.lit (.bool false)], args := [d1, d2, d3] }
  | _ => none }
def ValueNewWrongFalsely : Prop := valueNewRow.holds Try.pinned (OpenSpec.ofChange valueNewWrong)

/-- 'qclaw1.ValuePrim': WHATEVER THE INPUT: true; the input reads as it did. -/
def valuePrimSpec : ChangeSpec := { name := "valuePrim", fn := fun _ => fun
  | [d1, d2, d3] => { results := [.lit (.bool true)], args := [d1, d2, d3] }
  | _ => none }
def valuePrimRow : OpenClaim := { program := "ytlmejfipgingeaa", sum := "774e6057fee72ffb372ddc273df750a6432721be8ece3196036b1a5c4c9553e8", func := "quickchange/qclaw1.ValuePrim", spec := "valuePrim", apart := false }
def ValuePrimSaid : Prop := valuePrimRow.holds Try.pinned (OpenSpec.ofChange valuePrimSpec)

/-- ITS FALSE NEIGHBOUR: 'it returns false'. Refute it at one input. -/
def valuePrimWrong : ChangeSpec := { name := "valuePrim", fn := fun _ => fun
  | [d1, d2, d3] => { results := [.lit (.bool false)], args := [d1, d2, d3] }
  | _ => none }
def ValuePrimWrongFalsely : Prop := valuePrimRow.holds Try.pinned (OpenSpec.ofChange valuePrimWrong)

/- THE SECOND FORM. 'bulk': how many values and letters a reading holds, each counted each time it is reached (what is shared counts as often as it is met; a slice's spare places count too). A statement '..UptoSaid' is the law's where the arguments, and the package variables that the reading takes, are together of bulk at most 1048576: NARROWER than '..Said'. Prove '..Said' where nothing that the law and all that it calls make is longer than what came in: it says more and counts as full. Else prove '..UptoSaid'. A law counts once. -/
mutual
def uptoBulk {H : Type} : DataW H → Nat
  | .lit (.string bytes) => bytes.length + 1
  | .lit _ => 1
  | .nil => 1
  | .ptr d => uptoBulk d + 1
  | .slice elems spare => uptoBulkAll elems + uptoBulkAll spare + 1
  | .agg parts => uptoBulkAll parts + 1
  | .iface _ d => uptoBulk d + 1
  | .map entries => uptoBulkEntries entries + 1
  | .held _ => 1
def uptoBulkAll {H : Type} : List (DataW H) → Nat
  | [] => 0
  | d :: r => uptoBulk d + uptoBulkAll r
def uptoBulkEntries {H : Type} : List (Lit × DataW H) → Nat
  | [] => 0
  | x :: r => uptoBulkEntry x + uptoBulkEntries r
def uptoBulkEntry {H : Type} : Lit × DataW H → Nat
  | (.string bytes, d) => bytes.length + uptoBulk d + 1
  | (_, d) => uptoBulk d + 1
 end
def uptoSmall : (H : Type) → List (DataW H) → Bool := fun _ ds => decide (uptoBulkAll ds ≤ 1048576)
def OpenSpec.upto (s : _root_.Go.ChangeSpec) : _root_.Go.OpenSpec := { _root_.Go.OpenSpec.ofChange s with cond := some uptoSmall }

/-- 'qclaw1.ValueTells', WHERE WHAT IT READS IS OF BULK AT MOST 1048576: true; the input reads as it did. -/
def valueTellsUptoRow : OpenClaim := { program := "ytlmejfipgingeaa", sum := "774e6057fee72ffb372ddc273df750a6432721be8ece3196036b1a5c4c9553e8", func := "quickchange/qclaw1.ValueTells", spec := "valueTells", apart := false, narrowed := true }
def ValueTellsUptoSaid : Prop := valueTellsUptoRow.holds Try.pinned (OpenSpec.upto valueTellsSpec)

/-- 'qclaw1.ValueNew', WHERE WHAT IT READS IS OF BULK AT MOST 1048576: true; the input reads as it did. -/
def valueNewUptoRow : OpenClaim := { program := "ytlmejfipgingeaa", sum := "774e6057fee72ffb372ddc273df750a6432721be8ece3196036b1a5c4c9553e8", func := "quickchange/qclaw1.ValueNew", spec := "valueNew", apart := false, narrowed := true }
def ValueNewUptoSaid : Prop := valueNewUptoRow.holds Try.pinned (OpenSpec.upto valueNewSpec)

/-- 'qclaw1.ValuePrim', WHERE WHAT IT READS IS OF BULK AT MOST 1048576: true; the input reads as it did. -/
def valuePrimUptoRow : OpenClaim := { program := "ytlmejfipgingeaa", sum := "774e6057fee72ffb372ddc273df750a6432721be8ece3196036b1a5c4c9553e8", func := "quickchange/qclaw1.ValuePrim", spec := "valuePrim", apart := false, narrowed := true }
def ValuePrimUptoSaid : Prop := valuePrimUptoRow.holds Try.pinned (OpenSpec.upto valuePrimSpec)

end Rows
end Go.Proofs.Ytlmejfipgingeaa
