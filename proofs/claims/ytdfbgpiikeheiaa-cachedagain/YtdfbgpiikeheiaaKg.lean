/- Package code: what is wrong with an instruction, with a method. -/
import Derived.Test.YtdfbgpiikeheiaaKf
namespace Go.Proofs.Ytdfbgpiikeheiaa
open Go.ChangeShapes Go.WideShapes Go.ChangeAt Go.RowKit
set_option linter.unusedSimpArgs false
set_option linter.unusedVariables false
set_option maxRecDepth 8000

/-- Slots of whatever world: as int's sum comes round. -/
def slotsVW (s : Int) (_ : Nat) (x : QC) : Int × Bool := (IntKind.i64.wrap (s + x.slots), true)
def slotsW (xs : List QC) (c : Int) : Int := upE slotsVW xs (xs.length + 1) c 0
theorem slotsW_eq {xs : List QC} (ho : SlotsOk xs) (hb : xs.length * 56 ≤ 140737488351232) : ∀ (n : Nat) (c s : Int), 0 ≤ s → s + 6 * n ≤ 9000000000000000000 → upE slotsVW xs n c s = upE slotsV xs n c s
  | 0, c, s, h, _ => rfl
  | n + 1, c, s, h, h2 => by
    unfold upE
    cases hx : clsAt xs c with
    | none => rfl
    | some x =>
      obtain ⟨k, rfl, hk⟩ := clsAt_some hx
      obtain ⟨h3, h4⟩ := ho k x hk
      have e : IntKind.i64.wrap (s + x.slots) = s + x.slots := wrap_of (by omega) (by omega)
      simp only [slotsVW, slotsV, if_true, e]
      exact slotsW_eq ho hb n x.super (s + x.slots) (by omega) (by omega)
theorem slotsW_E {xs : List QC} (ho : SlotsOk xs) (hb : xs.length * 56 ≤ 140737488351232) (c : Int) : slotsW xs c = slotsE xs c := slotsW_eq ho hb _ c 0 (by omega) (by omega)

def SlRW {P : Nat → Prop} (w0 : World) (cv : Value) (xs : List QC) (j : Nat) (s : Int) (w' : World) : Prop :=
  Below w0.heap.size w0 w' ∧ IsClasses P w' cv xs ∧ w'.heap[w0.heap.size + 1]? = some (.cells #[.int .i64 s] 3 (0, 0)) ∧ w'.cell? ⟨w0.heap.size, 0, none⟩ = some cv
def inR (n low high : Int) : Bool := decide (low ≤ n ∧ n ≤ high)
def emptyB (s : ByteArray) : Bool := s.toList.isEmpty
def rnB (x : QI) : Bool := if x.op = 14 then nameB x.name else emptyB x.name
/-- Whether an instruction's number is right: S slots, n classes. -/
def raE (S n : Int) (m : QM) (x : QI) : Bool :=
  if x.op = 2 then inR x.a 0 (m.args - 1)
  else if x.op = 3 ∨ x.op = 11 then inR x.a 0 (m.temps - 1)
  else if x.op = 4 ∨ x.op = 12 then inR x.a 0 (IntKind.i64.wrap (S - 1))
  else if x.op = 15 ∨ x.op = 16 then inR x.a 0 ((m.code.length : Int) - 1)
  else if x.op = 14 then inR x.a 0 4
  else if x.op = 5 then inR x.a (-1073741824) 1073741824
  else if x.op = 13 then decide (x.a = 0) || inR x.a 4 (n - 1)
  else decide (x.a = 0)
def numE (S n : Int) (m : QM) (x : QI) : Int :=
  if inR x.op 1 17 = false then 1 else if raE S n m x = false then 3 else if rnB x = false ∨ x.b ≠ 0 ∨ x.c ≠ 0 then 2 else 0
/-- What is wrong with a method, whatever its instructions are. -/
def wmE (n c : Int) (m : QM) : Int :=
  if inR c 0 (n - 1) = false then 6 else if nameB m.name = false then 7 else if inR m.args 0 4 = false ∨ inR m.temps 0 6 = false then 3 else if m.prim ≠ 0 then 1 else if inR m.code.length 1 60 = false then 5 else 0

theorem four_later {a0 a1 a2 a3 : Addr} {v0 v1 v2 v3 : Value} {W w w' : World} (h : w.cell? a0 = some v0 ∧ w.cell? a1 = some v1 ∧ w.cell? a2 = some v2 ∧ w.cell? a3 = some v3 ∧ Below W.heap.size W w) (hb : Below w.heap.size w w') : w'.cell? a0 = some v0 ∧ w'.cell? a1 = some v1 ∧ w'.cell? a2 = some v2 ∧ w'.cell? a3 = some v3 ∧ Below W.heap.size W w' :=
  ⟨cell_later hb h.1, cell_later hb h.2.1, cell_later hb h.2.2.1, cell_later hb h.2.2.2.1, nstep h.2.2.2.2 hb⟩
end Go.Proofs.Ytdfbgpiikeheiaa
