/- SessionRight: the world stays right; epochs never fall. For every input; strconv's table and errors as the program's own text lays them. -/
import Derived.Test.YtbafokihegegiaaGreatDoorU33
import Derived.Test.YtbafokihegegiaaGreatDoorCards
import Derived.Test.YtbafokihegegiaaGreatDoorTie
import Derived.ChangeMaps5
import Derived.SevenTiedAt
namespace Go.Proofs.YtbafokihegegiaaGreatDoor
open Go.ChangeShapes Go.WideShapes Go.ChangeAt Go.RowKit
set_option linter.unusedSimpArgs false
set_option linter.unusedVariables false
set_option maxHeartbeats 8000000
set_option maxRecDepth 8000
theorem door_met (os:Os)(a:Array Value):laidMetH Tryz.prog Qt ((World.doorLaid Tryz.prog 400 os).forCall (λ_ _=>0) ⟨#[],a,[]⟩).memory:=
 laidMetH_of_parts3 (fuel:=8) (laidMet_of_run' 8 (by kernel_rfl) (by kernel_rfl)) (by kernel_rfl) (by kernel_rfl)
set_option maxRecDepth 100000 in
theorem lifted (os:Os)(f:os.Started)(H:Type)(enc:TypeId × Value->H) :
  ReturnsInHanded {} Tryz.checked os 5 .any (λw a=>(Rows.sessionRightSpec.pre enc Tryz.prog Tryz.f5 Rows.sessionRightRow.domain false w a/\laidMetH Tryz.prog Qt w)/\sizedMet enc Tryz.prog Tryz.f5 (OpenSpec.ofChange Rows.sessionRightSpec) false w a)
   (Rows.sessionRightSpec.post enc Tryz.prog Tryz.f5 false true false false):=by
 refine returnsInHanded_of_change_and (C:=Tryz.checked) (X:=λw _=>laidMetH Tryz.prog Qt w) (λ_ _ _ S h=>h.of_heap S) own f (by kernel_rfl) Tryz.func5
  (ChangeSpec.witness_shaped (enc:=enc) (C:=Tryz.checked) (os:=os) (X:=λw _=>laidMetH Tryz.prog Qt w) false (World.doorLaid Tryz.prog 400 os) #[qN] 8 rfl (World.shaped_of_RefB (by kernel_rfl) (by kernel_rfl)) (by kernel_rfl) (by kernel_rfl) (by kernel_rfl) (door_met os _)) ?_
 intro W base a ds gs k c L _ i M _;have z:∀(j:Nat) t v,Tryz.f5.params[j]?=some t->a[j]?=some v->Value.okWide Tryz.prog W .any base t v:=c;have B:(DataW.weightsEach Tryz.prog (Tryz.f5.params.toList++Rows.sessionRightSpec.plain.varTypes Tryz.prog) (ds++gs)).all (·<=reachBytes)=true:=i;have D:=L;obtain⟨p,q,g,N,rfl,s,u⟩:=L;have K:DataW.TrodAll enc Tryz.prog W 0 (λ_=>true) true Tryz.f5.params.toList a.toList ds p:=g;rw[Tryz.params5] at K z B;obtain⟨v0,y,d0,r,p0,q0,l,rfl,rfl,G,r0⟩:=trodAll_cons K;obtain⟨rfl,rfl,rfl⟩:=trodAll_nil r0;obtain rfl:a=#[v0]:=by cases a;simp_all
 obtain⟨rfl,rfl⟩:=trodVars_none N;have lt:∀ {t:TypeId} {v:Value} {d:DataW H} {p:List MemPlace},DataW.Trod enc Tryz.prog W 0 (λ_=>true) true t v d p->∀x∈p,x.block<W.heap.size:=λh=>by obtain⟨m,T⟩:=h;exact DataW.trod_lt m _ _ _ T
 have k0:=G
 have big:∀ {j:Nat} {t:TypeId} {d:DataW H},([22]:List TypeId)[j]?=some t->[d0][j]?=some d->∀n∈d.weights Tryz.prog t,n<=140737488351232:=fun {j t d} F Q n U=>by
  have:=List.all_eq_true.1 B _ (DataW.weights_mem_each (j:=j) (t:=t) (by exact F) (by exact Q) n U);exact of_decide_eq_true this
 obtain⟨l0,o⟩:=xuU (z 0 22 v0 rfl rfl) G (big (j:=0) rfl rfl);clear g c;refine (xys l0 _ W o (xvk M)).mono λe W' ⟨R,bel⟩=>?_;subst R;have again:∀ {t:TypeId} {v:Value} {d:DataW H} {p:List MemPlace},Tryz.prog.readableRec t=true->t<Tryz.prog.types.size->DataW.Trod enc Tryz.prog W 0 (λ_=>true) true t v d p->DataW.Trod enc Tryz.prog W' 0 (λb=>decide (b<W.heap.size)) true t v d p:=λV F h=>Below.trod xqS V F h bel (lt h);exact⟨_,rfl,_,_,_,[],_,[],D,trodAll_mk1 (shut_bool Tryz.underlying4 _),(trodAll_cons_mk (again (by kernel_rfl) (of_decide_eq_true (by kernel_rfl)) k0) trodAll_mk0),rfl,bel.frame _,λh=>by cases h⟩
end Go.Proofs.YtbafokihegegiaaGreatDoor
