/- Right: what is closed. -/
import Derived.Test.YtbafokihegegiaaGreatDoorTie
import Derived.ChangeMaps5
import Derived.SevenTiedAt
namespace Go.Proofs.YtbafokihegegiaaGreatDoor
set_option linter.unusedSimpArgs false
set_option linter.unusedVariables false
set_option maxHeartbeats 8000000
set_option maxRecDepth 8000
theorem ov1:joinedFacts Tryz.pinned.checked.prog 5 Tryz.f5 Rows.sessionRightSpec Rows.sessionRightRow=true:=by kernel_rfl
end Go.Proofs.YtbafokihegegiaaGreatDoor
