/- Fast code, as plain functions: pieces, what stays, where jumps lead. -/
import Derived.Test.YtlekfiglefopgaaSb
import Derived.Test.YtlekfiglefopgaaNa
namespace Go.Proofs.Ytlekfiglefopgaa
open Go.ChangeShapes Go.WideShapes Go.ChangeAt Go.RowKit
set_option linter.unusedSimpArgs false
set_option linter.unusedVariables false

abbrev ins (op a b c : Int) : QI := ⟨op, a, b, c, ⟨#[]⟩⟩
def standE (self args temps first behind : Int) (x : QI) : QI :=
  if x.op = 1 then ins 3 self 0 0
  else if x.op = 2 then ins 3 (args + x.a) 0 0
  else if x.op = 3 ∨ x.op = 11 then ins x.op (temps + x.a) 0 0
  else if x.op = 4 then ins 19 self x.a 0
  else if x.op = 12 then ins 20 self x.a 0
  else if x.op = 15 ∨ x.op = 16 then ins x.op (first + x.a) 0 0
  else if x.op = 17 then ins 15 behind 0 0
  else x
/-- OpSet of so many arguments, the last one first. -/
def setsE (args : Int) : Nat → List QI
  | 0 => []
  | n + 1 => ins 11 (args + n) 0 0 :: setsE args n
/-- OpNil and OpSet for each of the next ones. -/
def nilsE (temps : Int) (n : Nat) : List QI := (List.range n).flatMap fun k => [ins 6 0 0 0, ins 11 (temps + (k : Nat)) 0 0]
theorem nilsE_succ (temps : Int) (n : Nat) : nilsE temps (n + 1) = nilsE temps n ++ [ins 6 0 0 0, ins 11 (temps + (n : Nat)) 0 0] := by
  unfold nilsE; rw [List.range_succ, List.flatMap_append]; simp
theorem nilsE_len (temps : Int) : ∀ n, (nilsE temps n).length = 2 * n
  | 0 => rfl
  | n + 1 => by rw [nilsE_succ, List.length_append, nilsE_len temps n]; simp; omega
theorem setsE_len (args : Int) : ∀ n, (setsE args n).length = n
  | 0 => rfl
  | n + 1 => by simp [setsE, setsE_len args n]
/-- What is ahead of the method's own instructions in a piece. -/
def headE (leaf : QM) (guard : QI) (self : Int) : List QI := [guard, ins 21 0 0 0] ++ setsE (self + 1) leaf.args.toNat ++ [ins 11 self 0 0] ++ nilsE (self + 1 + leaf.args) leaf.temps.toNat
def firstOf (leaf : QM) (n : Int) : Int := n + 3 + leaf.args + 2 * leaf.temps
/-- A method in a send's place: self is the next temporary, n how many instructions there are so far. -/
def pieceE (leaf : QM) (guard : QI) (self n : Int) : List QI := headE leaf guard self ++ leaf.code.map (standE self (self + 1) (self + 1 + leaf.args) (firstOf leaf n) (firstOf leaf n + leaf.code.length))
theorem headE_len (leaf : QM) (guard : QI) (self : Int) : (headE leaf guard self).length = 3 + leaf.args.toNat + 2 * leaf.temps.toNat := by
  unfold headE; simp [setsE_len, nilsE_len]; omega
theorem pieceE_len (leaf : QM) (guard : QI) (self n : Int) : (pieceE leaf guard self n).length = 3 + leaf.args.toNat + 2 * leaf.temps.toNat + leaf.code.length := by
  unfold pieceE; rw [List.length_append, headE_len]; simp
/-- The method that class k understands the name by. -/
def methOf (xs : List QC) (k : Int) (name : ByteArray) : Option QM := if (findE xs k name).2 < 0 then none else (xs[(findE xs k name).1.toNat]?).bind fun x => x.methods[(findE xs k name).2.toNat]?
/-- Who may stand in for instruction x, at number at, that has the class k. -/
def standsIn (xs : List QC) (sites : List Int) (at' : Nat) (x : QI) : Option QM :=
  if x.op = 14 ∧ 0 ≤ sites.getD at' (-1) then
    match methOf xs (sites.getD at' (-1)) x.name with
    | none => none
    | some m => if m.args = x.a ∧ leafE m = true then some m else none
  else none
def roomE (n temps : Int) (leaf : QM) (left : Int) : Bool := decide (n + 3 + leaf.args + 2 * leaf.temps + leaf.code.length + left ≤ 240 ∧ temps + 1 + leaf.args + leaf.temps ≤ 40)
def stayE (x : QI) (at' : Int) : QI := if x.op = 14 then { x with c := at' } else x
/-- What one instruction becomes: who stands in, or nobody. -/
def whoE (xs : List QC) (sites : List Int) (len : Nat) (n temps : Int) (at' : Nat) (x : QI) : Option QM :=
  match standsIn xs sites at' x with
  | none => none
  | some leaf => if roomE n temps leaf ((len : Int) - at') = true then some leaf else none
/-- Code so far, temporaries so far, where each one began, how many pieces. -/
structure Bd where
  code : List QI
  temps : Int
  begins : List Int
  pieces : Nat
def stepB (xs : List QC) (sites : List Int) (len : Nat) (s : Bd) (at' : Nat) (x : QI) : Bd :=
  match whoE xs sites len s.code.length s.temps at' x with
  | none => ⟨s.code ++ [stayE x at'], s.temps, s.begins ++ [(s.code.length : Int)], s.pieces⟩
  | some leaf => ⟨s.code ++ pieceE leaf (ins 18 (sites.getD at' (-1)) leaf.args at') s.temps s.code.length, s.temps + 1 + leaf.args + leaf.temps, s.begins ++ [(s.code.length : Int)], s.pieces + 1⟩
/-- After the first k instructions. -/
def buildB (xs : List QC) (sites : List Int) (m : QM) : Nat → Bd
  | 0 => ⟨[], m.temps, [], 0⟩
  | k + 1 => match m.code[k]? with
    | none => buildB xs sites m k
    | some x => stepB xs sites m.code.length (buildB xs sites m k) k x
theorem buildB_succ {xs : List QC} {sites : List Int} {m : QM} {k : Nat} {x : QI} (h : m.code[k]? = some x) : buildB xs sites m (k + 1) = stepB xs sites m.code.length (buildB xs sites m k) k x := by
  rw [buildB, h]
theorem step_begins (xs : List QC) (sites : List Int) (len : Nat) (s : Bd) (k : Nat) (x : QI) : (stepB xs sites len s k x).begins = s.begins ++ [(s.code.length : Int)] := by
  unfold stepB; split <;> rfl
theorem build_begins {xs : List QC} {sites : List Int} {m : QM} : ∀ {k : Nat}, k ≤ m.code.length → (buildB xs sites m k).begins.length = k
  | 0, _ => rfl
  | k + 1, h => by
    rw [buildB_succ (List.getElem?_eq_getElem (by omega)), step_begins, List.length_append, build_begins (by omega)]; rfl
/-- Where a jump that stays leads: L has the plain code's jumps up to k led. -/
def leadE (begins : List Int) (x : QI) : Option Int := if (x.op = 15 ∨ x.op = 16) ∧ 0 ≤ x.a then begins[x.a.toNat]? else none
def ledE (begins : List Int) (plain : List QI) (code : List QI) : Nat → List QI
  | 0 => code
  | k + 1 => match plain[k]?, begins[k]? with
    | some x, some b => match leadE begins x with
      | some t => (ledE begins plain code k).modify b.toNat fun y => { y with a := t }
      | none => ledE begins plain code k
    | _, _ => ledE begins plain code k
theorem ledE_len (begins : List Int) (plain code : List QI) : ∀ k, (ledE begins plain code k).length = code.length
  | 0 => rfl
  | k + 1 => by
    unfold ledE
    split
    · split
      · rw [List.length_modify, ledE_len begins plain code k]
      · exact ledE_len begins plain code k
    · exact ledE_len begins plain code k
structure Fst where
  cls : Int
  name : ByteArray
  epoch : Int
  temps : Int
  code : List QI
def noFast : Fst := ⟨0, ⟨#[]⟩, 0, 0, []⟩
/-- Fast code of a method. -/
def fastM (X : QW) (c : Int) (m : QM) (sites : List Int) : Fst × Bool :=
  let s := buildB X.classes sites m m.code.length
  if s.pieces = 0 then (noFast, false) else (⟨c, m.name, X.epoch, s.temps, ledE s.begins m.code s.code m.code.length⟩, true)
def methodE (X : QW) (c k : Int) (sites : List Int) : Fst × Bool := match (clsAt X.classes c).bind fun x => if 0 ≤ k then x.methods[k.toNat]? else none with
  | none => (noFast, false)
  | some m => fastM X c m sites
end Go.Proofs.Ytlekfiglefopgaa
