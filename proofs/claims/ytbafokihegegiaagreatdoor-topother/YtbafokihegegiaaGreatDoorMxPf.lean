/- A part. -/
import Derived.Test.YtbafokihegegiaaGreatDoorM25
namespace Go.Proofs.YtbafokihegegiaaGreatDoor
open Go.ChangeShapes Go.WideShapes Go.ChangeAt Go.RowKit
set_option linter.unusedSimpArgs false
set_option linter.unusedVariables false
set_option maxHeartbeats 8000000
set_option maxRecDepth 100000
theorem xs1 (m:Int):(xaN [in_ 5 m,in_ 17 0]).2=(0,0):=by kernel_rfl
end Go.Proofs.YtbafokihegegiaaGreatDoor
