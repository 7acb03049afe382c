/- Right: what is closed. -/
import Derived.Test.YtbafokihegegiaaGreatDoorTie
import Derived.ChangeMaps5
import Derived.SevenTiedAt
namespace Go.Proofs.YtbafokihegegiaaGreatDoor
set_option linter.unusedSimpArgs false
set_option linter.unusedVariables false
set_option maxHeartbeats 8000000
set_option maxRecDepth 8000
theorem ov0:Tryz.pinned.checked.prog.funcNamed Rows.sessionRightRow.func=some 5:=by kernel_rfl
theorem ov2:Tryz.f5.isInstance Tryz.pinned.checked.prog Rows.sessionRightRow.origin Rows.sessionRightRow.targs:=of_decide_eq_true (by kernel_rfl)
end Go.Proofs.YtbafokihegegiaaGreatDoor
