/- SameWorld of the reference, at worlds that are the same. -/
import Derived.Test.YtjmidhghiahbaaaGreatDoorDa
namespace Go.Proofs.YtjmidhghiahbaaaGreatDoor
open Go.ChangeShapes Go.WideShapes Go.ChangeAt Go.RowKit
set_option linter.unusedSimpArgs false
set_option linter.unusedVariables false
set_option maxRecDepth 8000

end Go.Proofs.YtjmidhghiahbaaaGreatDoor
