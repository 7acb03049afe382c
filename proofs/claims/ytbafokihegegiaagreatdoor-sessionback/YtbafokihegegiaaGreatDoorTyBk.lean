/- SessionBack: whatever is done behind a save, a load has classes, methods and objects be as they were then. For every input; strconv's table and errors as the program's own text lays them. -/
import Derived.Test.YtbafokihegegiaaGreatDoorT34
import Derived.Test.YtbafokihegegiaaGreatDoorCards
import Derived.Test.YtbafokihegegiaaGreatDoorTie
import Derived.ChangeMaps5
import Derived.SevenTiedAt
namespace Go.Proofs.YtbafokihegegiaaGreatDoor
open Go.ChangeShapes Go.WideShapes Go.ChangeAt Go.RowKit
set_option linter.unusedSimpArgs false
set_option linter.unusedVariables false
set_option maxHeartbeats 8000000
set_option maxRecDepth 8000
theorem door_met (os:Os)(a:Array Value):laidMetH Tryz.prog Qt ((World.doorLaid Tryz.prog 400 os).forCall (λ_ _=>0) ⟨#[],a,[]⟩).memory:=
 laidMetH_of_parts3 (fuel:=8) (laidMet_of_run' 8 (by kernel_rfl) (by kernel_rfl)) (by kernel_rfl) (by kernel_rfl)
set_option maxRecDepth 100000 in
theorem lifted (os:Os)(c:os.Started)(H:Type)(enc:TypeId × Value->H) :
  ReturnsInHanded {} Tryz.checked os 6 .any (λw a=>(Rows.sessionBackSpec.pre enc Tryz.prog Tryz.f6 Rows.sessionBackRow.domain false w a/\laidMetH Tryz.prog Qt w)/\sizedMet enc Tryz.prog Tryz.f6 (OpenSpec.ofChange Rows.sessionBackSpec) false w a)
   (Rows.sessionBackSpec.post enc Tryz.prog Tryz.f6 false true false false):=by
 refine returnsInHanded_of_change_and (C:=Tryz.checked) (X:=λw _=>laidMetH Tryz.prog Qt w) (λ_ _ _ hh h=>h.of_heap hh) own c (by kernel_rfl) Tryz.func6
  (ChangeSpec.witness_shaped (enc:=enc) (C:=Tryz.checked) (os:=os) (X:=λw _=>laidMetH Tryz.prog Qt w) false (World.doorLaid Tryz.prog 400 os) #[qN,qN] 8 rfl (World.shaped_of_RefB (by kernel_rfl) (by kernel_rfl)) (by kernel_rfl) (by kernel_rfl) (by kernel_rfl) (door_met os _)) ?_
 intro W base a ds gs k f M _ g V _;have F:∀(j:Nat) t v,Tryz.f6.params[j]?=some t->a[j]?=some v->Value.okWide Tryz.prog W .any base t v:=f;have G:(DataW.weightsEach Tryz.prog (Tryz.f6.params.toList++Rows.sessionBackSpec.plain.varTypes Tryz.prog) (ds++gs)).all (·<=reachBytes)=true:=g;have L:=M;obtain⟨p,q,i,Z,rfl,s,u⟩:=M;have R:DataW.TrodAll enc Tryz.prog W 0 (λ_=>true) true Tryz.f6.params.toList a.toList ds p:=i;rw[Tryz.params6] at R F G;obtain⟨v0,B,d0,D,p0,q0,r,rfl,rfl,Q,r0⟩:=trodAll_cons R;obtain⟨v1,z,d1,y,p1,q1,rfl,rfl,rfl,N,r1⟩:=trodAll_cons r0;obtain⟨rfl,rfl,rfl⟩:=trodAll_nil r1;obtain rfl:a=#[v0,v1]:=by cases a;simp_all
 obtain⟨rfl,rfl⟩:=trodVars_none Z;have lt:∀ {t:TypeId} {v:Value} {d:DataW H} {p:List MemPlace},DataW.Trod enc Tryz.prog W 0 (λ_=>true) true t v d p->∀x∈p,x.block<W.heap.size:=λh=>by obtain⟨m,T⟩:=h;exact DataW.trod_lt m _ _ _ T
 have k0:=Q;have k1:=N
 have big:∀ {j:Nat} {t:TypeId} {d:DataW H},([22,22]:List TypeId)[j]?=some t->[d0,d1][j]?=some d->∀n∈d.weights Tryz.prog t,n<=140737488351232:=fun {j t d} K U n Y=>by
  have:=List.all_eq_true.1 G _ (DataW.weights_mem_each (j:=j) (t:=t) (by exact K) (by exact U) n Y);exact of_decide_eq_true this
 obtain⟨l0,l⟩:=xuU (F 0 22 v0 rfl rfl) Q (big (j:=0) rfl rfl);obtain⟨l1,o⟩:=xuU (F 1 22 v1 rfl rfl) N (big (j:=1) rfl rfl);clear i f;refine (xw2 l0 l1 _ _ W l o (xvk V)).mono λe W' ⟨S,bel⟩=>?_;subst S;have xpw:∀ {t:TypeId} {v:Value} {d:DataW H} {p:List MemPlace},Tryz.prog.readableRec t=true->t<Tryz.prog.types.size->DataW.Trod enc Tryz.prog W 0 (λ_=>true) true t v d p->DataW.Trod enc Tryz.prog W' 0 (λb=>decide (b<W.heap.size)) true t v d p:=λhr K h=>Below.trod xqS hr K h bel (lt h);exact⟨_,rfl,_,_,_,[],_,[],L,trodAll_mk1 (shut_bool Tryz.underlying4 _),(trodAll_cons_mk (xpw (by kernel_rfl) (of_decide_eq_true (by kernel_rfl)) k0) (trodAll_cons_mk (xpw (by kernel_rfl) (of_decide_eq_true (by kernel_rfl)) k1) trodAll_mk0)),rfl,bel.frame _,λh=>by cases h⟩
end Go.Proofs.YtbafokihegegiaaGreatDoor
