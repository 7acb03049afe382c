/- CachedTells: a call with cells and tallies comes to what the document says, with cells that remember what is so: value, objects, sends, cells, tallies, and how often was remembered. For every input. -/
import Derived.Test.YtapbeiccodnniaaGreatM42
import Derived.ChangeMaps5
namespace Go.Proofs.YtapbeiccodnniaaGreat
open Go.ChangeShapes Go.WideShapes Go.ChangeAt Go.RowKit
set_option linter.unusedSimpArgs false
set_option linter.unusedVariables false
set_option maxHeartbeats 8000000
set_option maxRecDepth 8000
theorem few_of {l:List QE}{t:List QT}(h1:l.length*72<=140737488351232)(h2:∀ x∈l,x.lz.length*16<=140737488351232)(h3:t.length*56<=140737488351232)(h4:∀ x∈t,x.lz.length*16<=140737488351232):CFew ⟨l,t,0,0⟩ 401 where
 c:=by show l.length+_+_<=_;omega
 cl:=fun x hx=>by have:=h2 x hx;omega
 t:=by show t.length+_+_<=_;omega
 tl:=fun x hx=>by have:=h4 x hx;omega
 h:=by simp
 k:=by simp
set_option maxRecDepth 100000 in
theorem ct_lifted (os:Os)(started:os.Started)(H:Type)(enc:TypeId × Value->H) :
  ReturnsInHanded {} Tryz.checked os 3 .any (Rows.cachedTellsSpec.pre6 enc Tryz.prog Tryz.f3 Rows.cachedTellsRow.domain false) (Rows.cachedTellsSpec.post enc Tryz.prog Tryz.f3 false true false false):=by
 refine returnsInHanded_of_change_sized (C:=Tryz.checked) own started (by kernel_rfl) Tryz.func3
  (ChangeSpec.witness6 (enc:=enc) (C:=Tryz.checked) false ⟨#[],#[WV (.slice none 0 0) (.slice none 0 0) 0,ClV ⟨0,0⟩ ⟨#[]⟩ (.slice none 0 0),.int .i64 0,.slice none 0 0,.slice none 0 0],[]⟩ 8 (by kernel_rfl) (by kernel_rfl) (by kernel_rfl) (by kernel_rfl)) ?_
 intro W base args ds gs before hval0 hW hcnd hsz0 _;have hval:∀ (j:Nat) t v,Tryz.f3.params[j]?=some t->args[j]?=some v->Value.okWide Tryz.prog W .any base t v:=hval0;have hsz:(DataW.weightsEach Tryz.prog (Tryz.f3.params.toList++Rows.cachedTellsSpec.plain.varTypes Tryz.prog) (ds++gs)).all (·<=reachBytes)=true:=hsz0;have hW':=hW;obtain⟨p,q,hA0,hV,rfl,hfz,hnd⟩:=hW;have hA:DataW.TrodAll enc Tryz.prog W 0 (fun _=>true) true Tryz.f3.params.toList args.toList ds p:=hA0
 rw[Tryz.params3] at hA hval hsz;obtain⟨v0,vs0,d0,ds0,p0,q0,hargs,rfl,rfl,h0,r0⟩:=trodAll_cons hA;obtain⟨v1,vs1,d1,ds1,p1,q1,rfl,rfl,rfl,h1,r1⟩:=trodAll_cons r0;obtain⟨v2,vs2,d2,ds2,p2,q2,rfl,rfl,rfl,h2,r2⟩:=trodAll_cons r1;obtain⟨v3,vs3,d3,ds3,p3,q3,rfl,rfl,rfl,h3,r3⟩:=trodAll_cons r2;obtain⟨v4,vs4,d4,ds4,p4,q4,rfl,rfl,rfl,h4,r4⟩:=trodAll_cons r3;obtain⟨rfl,rfl,rfl⟩:=trodAll_nil r4;obtain rfl:args=#[v0,v1,v2,v3,v4]:=by cases args;simp_all
 obtain⟨rfl,rfl⟩:=trodVars_none hV;have lt:∀ {t:TypeId} {v:Value} {d:DataW H} {p:List MemPlace},DataW.Trod enc Tryz.prog W 0 (fun _=>true) true t v d p->∀ x∈p,x.block<W.heap.size:=fun h=>by obtain⟨m,hm⟩:=h;exact DataW.trod_lt m _ _ _ hm
 have big:∀ {j:Nat} {t:TypeId} {d:DataW H},([25,30,3,31,32]:List TypeId)[j]?=some t->[d0,d1,d2,d3,d4][j]?=some d->∀ n∈d.weights Tryz.prog t,n<=140737488351232:=fun {j t d} ht hd n hn=>by
  have:=List.all_eq_true.1 hsz _ (DataW.weights_mem_each (j:=j) (t:=t) (by exact ht) (by exact hd) n hn)
  exact of_decide_eq_true this
 have k0:=h0;have k1:=h1;have k2:=h2;have k3:=h3;have k4:=h4;obtain⟨X0,cv0,hv0,rfl,hC0,hH0⟩:=xjq (hval 0 25 v0 rfl rfl) h0 (big (j:=0) rfl rfl);obtain⟨s1,n1,av1,a1,rfl,hn1,hA1⟩:=xqB (hval 1 30 v1 rfl rfl) h1 (big (j:=1) rfl rfl);obtain⟨a2,rfl,-,-,-⟩:=open_int Tryz.underlying3 (hval 2 3 v2 rfl rfl) h2;obtain⟨f3,g3⟩:=xpE Tryz.underlying31 (hval 3 31 v3 rfl rfl) h3;obtain⟨x3,m3,w3,y3⟩:=xp5 g3 (big (j:=3) rfl rfl);obtain⟨f4',g4⟩:=xpE Tryz.underlying32 (hval 4 32 v4 rfl rfl) h4;obtain⟨x4,m4,w4,y4⟩:=xpP g4 (big (j:=4) rfl rfl);clear hA0 hval0;refine (xqw X0 s1 n1 a1 a2 x3 x4 _ _ _ _ _ W hC0 hH0 hA1 m3 m4 hn1 (few_of w3 y3 w4 y4)).mono fun e W' ⟨he,bel⟩=>?_
 subst he;have xnJ:∀ {t:TypeId} {v:Value} {d:DataW H} {p:List MemPlace},Tryz.prog.readableRec t=true->t<Tryz.prog.types.size->DataW.Trod enc Tryz.prog W 0 (fun _=>true) true t v d p->DataW.Trod enc Tryz.prog W' 0 (fun b=>decide (b<W.heap.size)) true t v d p:=fun hr ht h=>Below.trod xnY hr ht h bel (lt h)
 exact⟨_,rfl,_,_,_,[],_,[],hW',trodAll_mk1 (shut_bool Tryz.underlying4 _),(trodAll_cons_mk (xnJ (by kernel_rfl) (of_decide_eq_true (by kernel_rfl)) k0) (trodAll_cons_mk (xnJ (by kernel_rfl) (of_decide_eq_true (by kernel_rfl)) k1) (trodAll_cons_mk (xnJ (by kernel_rfl) (of_decide_eq_true (by kernel_rfl)) k2) (trodAll_cons_mk (xnJ (by kernel_rfl) (of_decide_eq_true (by kernel_rfl)) k3) (trodAll_cons_mk (xnJ (by kernel_rfl) (of_decide_eq_true (by kernel_rfl)) k4) trodAll_mk0))))),rfl,bel.frame _,fun h=>by cases h⟩
theorem ct_over:Rows.cachedTellsRow.holds Tryz.pinned (OpenSpec.ofChange Rows.cachedTellsSpec):=
 OpenClaim.holds_of_wide 3 Tryz.f3 rfl rfl rfl rfl rfl rfl rfl ⟨rfl,rfl,rfl,rfl,rfl⟩ rfl rfl rfl rfl rfl (by kernel_rfl) Tryz.func3 (by kernel_rfl)
  (of_decide_eq_true (by kernel_rfl)) (by unfold Func.isWrapper;first | (rw[if_pos (by decide +kernel)];kernel_rfl) | (rw[if_neg (by decide +kernel)];exact⟨rfl,rfl⟩))
  (fun os started H enc _=>ct_lifted os started H enc)
theorem cachedTells_holds:Rows.CachedTellsSaid:=ct_over
#print axioms cachedTells_holds
end Go.Proofs.YtapbeiccodnniaaGreat
