/- Rises. -/
import Derived.Test.YtjmidhghiahbaaaGreatDoorEa
namespace Go.Proofs.YtjmidhghiahbaaaGreatDoor
open Go.ChangeShapes Go.WideShapes Go.ChangeAt Go.RowKit
set_option linter.unusedSimpArgs false
set_option linter.unusedVariables false
set_option maxRecDepth 8000

/-- a is less than b. -/
def ltN (a b : ByteArray) : Bool := Op.bytesLess a.toList b.toList
/-- Names rise, from one to the next. -/
def RisesM (ms : List QM) : Prop := ∀ (i : Nat) x y, ms[i]? = some x → ms[i + 1]? = some y → ltN x.name y.name = true
def RisesC (xs : List QC) : Prop := ∀ (i : Nat) x, xs[i]? = some x → RisesM x.methods

end Go.Proofs.YtjmidhghiahbaaaGreatDoor
