/- SessionWays: whichever way it is called, all replies, and the world at last, are the same. For every input; strconv's table and errors as the program's own text lays them. -/
import Derived.Test.YtbafokihegegiaaGreatDoorTxBx
import Derived.Test.YtbafokihegegiaaGreatDoorCards
import Derived.Test.YtbafokihegegiaaGreatDoorTie
import Derived.ChangeMaps5
import Derived.SevenTiedAt
namespace Go.Proofs.YtbafokihegegiaaGreatDoor
open Go.ChangeShapes Go.WideShapes Go.ChangeAt Go.RowKit
set_option linter.unusedSimpArgs false
set_option linter.unusedVariables false
set_option maxHeartbeats 8000000
set_option maxRecDepth 8000
theorem door_met (os:Os)(a:Array Value):laidMetH Tryz.prog Qt ((World.doorLaid Tryz.prog 400 os).forCall (λ_ _=>0) ⟨#[],a,[]⟩).memory:=
 laidMetH_of_parts3 (fuel:=8) (laidMet_of_run' 8 (by kernel_rfl) (by kernel_rfl)) (by kernel_rfl) (by kernel_rfl)
set_option maxRecDepth 100000 in
theorem lifted (os:Os)(f:os.Started)(H:Type)(enc:TypeId × Value->H) :
  ReturnsInHanded {} Tryz.checked os 4 .any (λw a=>(Rows.sessionWaysSpec.pre enc Tryz.prog Tryz.f4 Rows.sessionWaysRow.domain false w a/\laidMetH Tryz.prog Qt w)/\sizedMet enc Tryz.prog Tryz.f4 (OpenSpec.ofChange Rows.sessionWaysSpec) false w a)
   (Rows.sessionWaysSpec.post enc Tryz.prog Tryz.f4 false true false false):=by
 refine returnsInHanded_of_change_and (C:=Tryz.checked) (X:=λw _=>laidMetH Tryz.prog Qt w) (λ_ _ _ Y h=>h.of_heap Y) own f (by kernel_rfl) Tryz.func4
  (ChangeSpec.witness_shaped (enc:=enc) (C:=Tryz.checked) (os:=os) (X:=λw _=>laidMetH Tryz.prog Qt w) false (World.doorLaid Tryz.prog 400 os) #[qN,qN] 8 rfl (World.shaped_of_RefB (by kernel_rfl) (by kernel_rfl)) (by kernel_rfl) (by kernel_rfl) (by kernel_rfl) (door_met os _)) ?_
 intro W base a ds gs k c R _ i S _;have F:∀(j:Nat) t v,Tryz.f4.params[j]?=some t->a[j]?=some v->Value.okWide Tryz.prog W .any base t v:=c;have G:(DataW.weightsEach Tryz.prog (Tryz.f4.params.toList++Rows.sessionWaysSpec.plain.varTypes Tryz.prog) (ds++gs)).all (·<=reachBytes)=true:=i;have K:=R;obtain⟨p,q,g,T,rfl,y,z⟩:=R;have Q:DataW.TrodAll enc Tryz.prog W 0 (λ_=>true) true Tryz.f4.params.toList a.toList ds p:=g;rw[Tryz.params4] at Q F G;obtain⟨v0,B,d0,s,p0,q0,l,rfl,rfl,M,r0⟩:=trodAll_cons Q;obtain⟨v1,D,d1,u,p1,q1,rfl,rfl,rfl,N,r1⟩:=trodAll_cons r0;obtain⟨rfl,rfl,rfl⟩:=trodAll_nil r1;obtain rfl:a=#[v0,v1]:=by cases a;simp_all
 obtain⟨rfl,rfl⟩:=trodVars_none T;have lt:∀ {t:TypeId} {v:Value} {d:DataW H} {p:List MemPlace},DataW.Trod enc Tryz.prog W 0 (λ_=>true) true t v d p->∀x∈p,x.block<W.heap.size:=λh=>by obtain⟨m,Z⟩:=h;exact DataW.trod_lt m _ _ _ Z
 have k0:=M;have k1:=N
 have big:∀ {j:Nat} {t:TypeId} {d:DataW H},([22,47]:List TypeId)[j]?=some t->[d0,d1][j]?=some d->∀n∈d.weights Tryz.prog t,n<=140737488351232:=fun {j t d} L U n hn=>by
  have:=List.all_eq_true.1 G _ (DataW.weights_mem_each (j:=j) (t:=t) (by exact L) (by exact U) n hn);exact of_decide_eq_true this
 obtain⟨l0,o⟩:=xuU (F 0 22 v0 rfl rfl) M (big (j:=0) rfl rfl);obtain⟨l1,r⟩:=xx0 (F 1 47 v1 rfl rfl) N (big (j:=1) rfl rfl);clear g c;refine (xx1 l0 l1 _ _ W o r (xvk S)).mono λe W' ⟨V,bel⟩=>?_;subst V;have xpw:∀ {t:TypeId} {v:Value} {d:DataW H} {p:List MemPlace},Tryz.prog.readableRec t=true->t<Tryz.prog.types.size->DataW.Trod enc Tryz.prog W 0 (λ_=>true) true t v d p->DataW.Trod enc Tryz.prog W' 0 (λb=>decide (b<W.heap.size)) true t v d p:=λhr L h=>Below.trod xqS hr L h bel (lt h);exact⟨_,rfl,_,_,_,[],_,[],K,trodAll_mk1 (shut_bool Tryz.underlying4 _),(trodAll_cons_mk (xpw (by kernel_rfl) (of_decide_eq_true (by kernel_rfl)) k0) (trodAll_cons_mk (xpw (by kernel_rfl) (of_decide_eq_true (by kernel_rfl)) k1) trodAll_mk0)),rfl,bel.frame _,λh=>by cases h⟩
end Go.Proofs.YtbafokihegegiaaGreatDoor
