/- Right: the card. -/
import Derived.Test.YtbafokihegegiaaGreatDoorUyRt
import Derived.Test.YtbafokihegegiaaGreatDoorUyR1
import Derived.Test.YtbafokihegegiaaGreatDoorUyR2
import Derived.Test.YtbafokihegegiaaGreatDoorCards
import Derived.Test.YtbafokihegegiaaGreatDoorTie
import Derived.ChangeMaps5
import Derived.SevenTiedAt
namespace Go.Proofs.YtbafokihegegiaaGreatDoor
open Go.ChangeShapes Go.WideShapes Go.ChangeAt Go.RowKit
set_option linter.unusedSimpArgs false
set_option linter.unusedVariables false
set_option maxHeartbeats 8000000
set_option maxRecDepth 8000
theorem over:Rows.SessionRightSaid:=
 OpenClaim.holds_of_wide 5 Tryz.f5 rfl rfl rfl rfl rfl rfl rfl ⟨rfl,rfl,rfl,rfl,rfl⟩ rfl rfl rfl rfl rfl ov0 Tryz.func5 ov1
  ov2 (by unfold Func.isWrapper;first | (rw[if_pos (by decide +kernel)];kernel_rfl) | (rw[if_neg (by decide +kernel)];exact⟨rfl,rfl⟩))
  (λos started H enc _=>lifted os started H enc)
theorem sessionRight_holds:Rows.SessionRightCardSaid:=
 Claim7.holds_tied_plain_at .later [] _ _ _ _ over (λ_ h=>by cases h) (by kernel_rfl) (λ_ h=>by cases h) sessionRight_row_tie rfl ⟨rfl,rfl⟩ (by kernel_rfl) rfl
  (λf fn d a=>by
   obtain rfl:f=5:=Option.some.inj ((show Tryz.prog.funcNamed "quickchange/qclaw12.SessionRight" = some 5 by kernel_rfl).symm.trans d) |>.symm;obtain rfl:fn=Tryz.f5:=(Option.some.inj (Tryz.func5.symm.trans a)).symm;refine⟨by kernel_rfl,λj t c=>?_⟩;rw[Tryz.params5] at c;have b:=Array.mem_of_getElem? c;simp only[List.mem_toArray,List.mem_cons,List.not_mem_nil,or_false] at b;rcases b with rfl
   ·exact (show Tryz.prog.wantsStandIn 22=false by kernel_rfl))
  (by kernel_rfl)
#print axioms sessionRight_holds
end Go.Proofs.YtbafokihegegiaaGreatDoor
