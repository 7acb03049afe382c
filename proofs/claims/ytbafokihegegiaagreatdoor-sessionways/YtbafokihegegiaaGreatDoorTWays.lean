/- Ways: the card. -/
import Derived.Test.YtbafokihegegiaaGreatDoorTyWy
import Derived.Test.YtbafokihegegiaaGreatDoorTyW1
import Derived.Test.YtbafokihegegiaaGreatDoorTyW2
import Derived.Test.YtbafokihegegiaaGreatDoorCards
import Derived.Test.YtbafokihegegiaaGreatDoorTie
import Derived.ChangeMaps5
import Derived.SevenTiedAt
namespace Go.Proofs.YtbafokihegegiaaGreatDoor
open Go.ChangeShapes Go.WideShapes Go.ChangeAt Go.RowKit
set_option linter.unusedSimpArgs false
set_option linter.unusedVariables false
set_option maxHeartbeats 8000000
set_option maxRecDepth 8000
theorem over:Rows.SessionWaysSaid:=
 OpenClaim.holds_of_wide 4 Tryz.f4 rfl rfl rfl rfl rfl rfl rfl ⟨rfl,rfl,rfl,rfl,rfl⟩ rfl rfl rfl rfl rfl ov0 Tryz.func4 ov1
  ov2 (by unfold Func.isWrapper;first | (rw[if_pos (by decide +kernel)];kernel_rfl) | (rw[if_neg (by decide +kernel)];exact⟨rfl,rfl⟩))
  (λos started H enc _=>lifted os started H enc)
theorem sessionWays_holds:Rows.SessionWaysCardSaid:=
 Claim7.holds_tied_plain_at .later [] _ _ _ _ over (λ_ h=>by cases h) (by kernel_rfl) (λ_ h=>by cases h) sessionWays_row_tie rfl ⟨rfl,rfl⟩ (by kernel_rfl) rfl
  (λf fn d a=>by
   obtain rfl:f=4:=Option.some.inj ((show Tryz.prog.funcNamed "quickchange/qclaw12.SessionWays" = some 4 by kernel_rfl).symm.trans d) |>.symm;obtain rfl:fn=Tryz.f4:=(Option.some.inj (Tryz.func4.symm.trans a)).symm;refine⟨by kernel_rfl,λj t c=>?_⟩;rw[Tryz.params4] at c;have b:=Array.mem_of_getElem? c;simp only[List.mem_toArray,List.mem_cons,List.not_mem_nil,or_false] at b;rcases b with rfl | rfl
   ·exact (show Tryz.prog.wantsStandIn 22=false by kernel_rfl)
   ·exact (show Tryz.prog.wantsStandIn 47=false by kernel_rfl))
  (by kernel_rfl)
#print axioms sessionWays_holds
end Go.Proofs.YtbafokihegegiaaGreatDoor
