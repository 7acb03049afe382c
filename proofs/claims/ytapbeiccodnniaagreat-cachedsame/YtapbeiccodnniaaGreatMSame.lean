/- CachedSame: remembered or not, it is the same: whatever was called before, a call with cells comes to what it does without. For every input. -/
import Derived.Test.YtapbeiccodnniaaGreatM32
import Derived.ChangeMaps5
namespace Go.Proofs.YtapbeiccodnniaaGreat
open Go.ChangeShapes Go.WideShapes Go.ChangeAt Go.RowKit
set_option linter.unusedSimpArgs false
set_option linter.unusedVariables false
set_option maxHeartbeats 8000000
set_option maxRecDepth 8000
set_option maxRecDepth 100000 in
theorem cs_lifted (os:Os)(started:os.Started)(H:Type)(enc:TypeId × Value->H) :
  ReturnsInHanded {} Tryz.checked os 4 .any (Rows.cachedSameSpec.pre6 enc Tryz.prog Tryz.f4 Rows.cachedSameRow.domain false) (Rows.cachedSameSpec.post enc Tryz.prog Tryz.f4 false true false false):=by
 refine returnsInHanded_of_change_sized (C:=Tryz.checked) own started (by kernel_rfl) Tryz.func4
  (ChangeSpec.witness6 (enc:=enc) (C:=Tryz.checked) false ⟨#[],#[WV (.slice none 0 0) (.slice none 0 0) 0,.slice none 0 0],[]⟩ 8 (by kernel_rfl) (by kernel_rfl) (by kernel_rfl) (by kernel_rfl)) ?_
 intro W base args ds gs before hval0 hW hcnd hsz0 _;have hval:∀ (j:Nat) t v,Tryz.f4.params[j]?=some t->args[j]?=some v->Value.okWide Tryz.prog W .any base t v:=hval0;have hsz:(DataW.weightsEach Tryz.prog (Tryz.f4.params.toList++Rows.cachedSameSpec.plain.varTypes Tryz.prog) (ds++gs)).all (·<=reachBytes)=true:=hsz0;have hW':=hW;obtain⟨p,q,hA0,hV,rfl,hfz,hnd⟩:=hW;have hA:DataW.TrodAll enc Tryz.prog W 0 (fun _=>true) true Tryz.f4.params.toList args.toList ds p:=hA0
 rw[Tryz.params4] at hA hval hsz;obtain⟨v0,vs0,d0,ds0,p0,q0,hargs,rfl,rfl,h0,r0⟩:=trodAll_cons hA;obtain⟨v1,vs1,d1,ds1,p1,q1,rfl,rfl,rfl,h1,r1⟩:=trodAll_cons r0;obtain⟨rfl,rfl,rfl⟩:=trodAll_nil r1;obtain rfl:args=#[v0,v1]:=by cases args;simp_all
 obtain⟨rfl,rfl⟩:=trodVars_none hV;have lt:∀ {t:TypeId} {v:Value} {d:DataW H} {p:List MemPlace},DataW.Trod enc Tryz.prog W 0 (fun _=>true) true t v d p->∀ x∈p,x.block<W.heap.size:=fun h=>by obtain⟨m,hm⟩:=h;exact DataW.trod_lt m _ _ _ hm
 have big:∀ {j:Nat} {t:TypeId} {d:DataW H},([25,45]:List TypeId)[j]?=some t->[d0,d1][j]?=some d->∀ n∈d.weights Tryz.prog t,n<=140737488351232:=fun {j t d} ht hd n hn=>by
  have:=List.all_eq_true.1 hsz _ (DataW.weights_mem_each (j:=j) (t:=t) (by exact ht) (by exact hd) n hn)
  exact of_decide_eq_true this
 have k0:=h0;have k1:=h1;obtain⟨X0,cv0,hv0,rfl,hC0,hH0⟩:=xjq (hval 0 25 v0 rfl rfl) h0 (big (j:=0) rfl rfl);obtain⟨l1,hL1⟩:=xjj (hval 1 45 v1 rfl rfl) h1 (big (j:=1) rfl rfl);clear hA0 hval0;refine (xk0 X0 l1 _ _ _ W hC0 hH0 hL1).mono fun e W' ⟨he,bel⟩=>?_
 subst he;have xnJ:∀ {t:TypeId} {v:Value} {d:DataW H} {p:List MemPlace},Tryz.prog.readableRec t=true->t<Tryz.prog.types.size->DataW.Trod enc Tryz.prog W 0 (fun _=>true) true t v d p->DataW.Trod enc Tryz.prog W' 0 (fun b=>decide (b<W.heap.size)) true t v d p:=fun hr ht h=>Below.trod xnY hr ht h bel (lt h)
 exact⟨_,rfl,_,_,_,[],_,[],hW',trodAll_mk1 (shut_bool Tryz.underlying4 _),(trodAll_cons_mk (xnJ (by kernel_rfl) (of_decide_eq_true (by kernel_rfl)) k0) (trodAll_cons_mk (xnJ (by kernel_rfl) (of_decide_eq_true (by kernel_rfl)) k1) trodAll_mk0)),rfl,bel.frame _,fun h=>by cases h⟩
theorem cs_over:Rows.cachedSameRow.holds Tryz.pinned (OpenSpec.ofChange Rows.cachedSameSpec):=
 OpenClaim.holds_of_wide 4 Tryz.f4 rfl rfl rfl rfl rfl rfl rfl ⟨rfl,rfl,rfl,rfl,rfl⟩ rfl rfl rfl rfl rfl (by kernel_rfl) Tryz.func4 (by kernel_rfl)
  (of_decide_eq_true (by kernel_rfl)) (by unfold Func.isWrapper;first | (rw[if_pos (by decide +kernel)];kernel_rfl) | (rw[if_neg (by decide +kernel)];exact⟨rfl,rfl⟩))
  (fun os started H enc _=>cs_lifted os started H enc)
theorem cachedSame_holds:Rows.CachedSameSaid:=cs_over
#print axioms cachedSame_holds
end Go.Proofs.YtapbeiccodnniaaGreat
