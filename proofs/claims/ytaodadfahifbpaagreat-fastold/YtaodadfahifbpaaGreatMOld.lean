/- FastOld: what is old is not taken: fast code of another epoch, whatever stands in it, does nothing: a call by it comes to what it does without. For every input. -/
import Derived.Test.YtaodadfahifbpaaGreatM20
import Derived.ChangeMaps5
namespace Go.Proofs.YtaodadfahifbpaaGreat
open Go.ChangeShapes Go.WideShapes Go.ChangeAt Go.RowKit
set_option linter.unusedSimpArgs false
set_option linter.unusedVariables false
set_option maxHeartbeats 8000000
set_option maxRecDepth 8000
theorem bytes49:Tryz.prog.bytesOf 49=64:=by kernel_rfl
theorem cells49:Tryz.prog.cellsOf 49=5:=by kernel_rfl
section
variable {H:Type} {enc:TypeId × Value->H} {w:World} {base:Nat} {spare:Nat->Bool} {held:Bool}
theorem read_fast {n:Nat}{cs:List Value}{x:DataW H × List MemPlace}(hl:cs.length=5)(h:DataW.trod enc Tryz.prog w base spare held n 49 cs=some x)(hw:∀ n∈x.1.weights Tryz.prog 49,n<=140737488351232):∃ y,xkd Tru w (fun k=>cs[k]?) y:=by
 obtain⟨xs,k,hk,hxy,_,hxl,hf⟩:=DataW.trod_struct Tryz.underlying49 h
 match xs,hxl,cs,hl with
 | [y0,y1,y2,y3,y4],_,[v0,v1,v2,v3,v4],_=>
  have g0:=hf 0 _ rfl;have g1:=hf 1 _ rfl;have g2:=hf 2 _ rfl;have g3:=hf 3 _ rfl;have g4:=hf 4 _ rfl
  simp[xf9,xhw,xkw] at g0 g1 g2 g3 g4
  rw[hxy] at hw;obtain⟨a,e0,-,-⟩:=DataW.trod_int Tryz.underlying3 g0;obtain⟨s,e1,-,-⟩:=DataW.trod_string Tryz.underlying9 g1;obtain⟨c,e2,-,-⟩:=DataW.trod_int Tryz.underlying3 g2;obtain⟨d,e3,-,-⟩:=DataW.trod_int Tryz.underlying3 g3;obtain⟨l,hc⟩:=xhT g4 (fun q hq=>hw q (xbr (j:=4) (xs:=[y0,y1,y2,y3,y4]) Tryz.underlying49 rfl rfl q hq))
  simp at e0 e1 e2 e3
  subst e0 e1 e2 e3
  exact⟨⟨a,s,c,d,l⟩,rfl,rfl,rfl,rfl,_,rfl,hc⟩
theorem open_fasts {r:Reach}{b0:Nat}{v:Value}{d:DataW H}{p:List MemPlace}(hv:Value.okWide Tryz.prog w r b0 40 v)(h:DataW.Trod enc Tryz.prog w base spare held 40 v d p)(hw:∀ n∈d.weights Tryz.prog 40,n<=140737488351232):∃ xs,xcG Tru w v xs:=by
 obtain⟨fuel,hf⟩:=h;obtain⟨a,len,cap,rfl⟩:=okWide_slice Tryz.underlying40 hv
 exact xdn xgC Tryz.underlying40 cells49 bytes49 (by omega) (fun n cs x hl h hw=>read_fast hl h hw) hf hw
end
set_option maxRecDepth 100000 in
theorem rt_lifted (os:Os)(started:os.Started)(H:Type)(enc:TypeId × Value->H) :
  ReturnsInHanded {} Tryz.checked os 4 .any (Rows.fastOldSpec.pre6 enc Tryz.prog Tryz.f4 Rows.fastOldRow.domain false) (Rows.fastOldSpec.post enc Tryz.prog Tryz.f4 false true false false):=by
 refine returnsInHanded_of_change_sized (C:=Tryz.checked) own started (by kernel_rfl) Tryz.func4
  (ChangeSpec.witness6 (enc:=enc) (C:=Tryz.checked) false ⟨#[],#[WV (.slice none 0 0) (.slice none 0 0) 0,ClV ⟨0,0⟩ ⟨#[]⟩ (.slice none 0 0),.int .i64 0,.slice none 0 0],[]⟩ 8 (by kernel_rfl) (by kernel_rfl) (by kernel_rfl) (by kernel_rfl)) ?_
 intro W base args ds gs before hval0 hW hcnd hsz0 _;have hval:∀ (j:Nat) t v,Tryz.f4.params[j]?=some t->args[j]?=some v->Value.okWide Tryz.prog W .any base t v:=hval0;have hsz:(DataW.weightsEach Tryz.prog (Tryz.f4.params.toList++Rows.fastOldSpec.plain.varTypes Tryz.prog) (ds++gs)).all (·<=reachBytes)=true:=hsz0;have hW':=hW;obtain⟨p,q,hA0,hV,rfl,hfz,hnd⟩:=hW;have hA:DataW.TrodAll enc Tryz.prog W 0 (fun _=>true) true Tryz.f4.params.toList args.toList ds p:=hA0
 rw[Tryz.params4] at hA hval hsz;obtain⟨v0,vs0,d0,ds0,p0,q0,hargs,rfl,rfl,h0,r0⟩:=trodAll_cons hA;obtain⟨v1,vs1,d1,ds1,p1,q1,rfl,rfl,rfl,h1,r1⟩:=trodAll_cons r0;obtain⟨v2,vs2,d2,ds2,p2,q2,rfl,rfl,rfl,h2,r2⟩:=trodAll_cons r1;obtain⟨v3,vs3,d3,ds3,p3,q3,rfl,rfl,rfl,h3,r3⟩:=trodAll_cons r2;obtain⟨rfl,rfl,rfl⟩:=trodAll_nil r3;obtain rfl:args=#[v0,v1,v2,v3]:=by cases args;simp_all
 obtain⟨rfl,rfl⟩:=trodVars_none hV;have lt:∀ {t:TypeId} {v:Value} {d:DataW H} {p:List MemPlace},DataW.Trod enc Tryz.prog W 0 (fun _=>true) true t v d p->∀ x∈p,x.block<W.heap.size:=fun h=>by obtain⟨m,hm⟩:=h;exact DataW.trod_lt m _ _ _ hm
 have big:∀ {j:Nat} {t:TypeId} {d:DataW H},([25,30,3,40]:List TypeId)[j]?=some t->[d0,d1,d2,d3][j]?=some d->∀ n∈d.weights Tryz.prog t,n<=140737488351232:=fun {j t d} ht hd n hn=>by
  have:=List.all_eq_true.1 hsz _ (DataW.weights_mem_each (j:=j) (t:=t) (by exact ht) (by exact hd) n hn)
  exact of_decide_eq_true this
 have k0:=h0;have k1:=h1;have k2:=h2;have k3:=h3;obtain⟨X0,cv0,hv0,rfl,hC0,hH0⟩:=xjA (hval 0 25 v0 rfl rfl) h0 (big (j:=0) rfl rfl);obtain⟨s1,n1,av1,l1,rfl,hn1,hA1⟩:=xly (hval 1 30 v1 rfl rfl) h1 (big (j:=1) rfl rfl);obtain⟨a2,rfl,-,-,-⟩:=open_int Tryz.underlying3 (hval 2 3 v2 rfl rfl) h2;obtain⟨l3,hF3⟩:=open_fasts (hval 3 40 v3 rfl rfl) h3 (big (j:=3) rfl rfl);clear hA0 hval0;refine (xit X0 s1 n1 l1 a2 l3 _ _ _ _ W hC0 hH0 hA1 hn1 hF3).mono fun e W' ⟨he,bel⟩=>?_
 subst he;have again:∀ {t:TypeId} {v:Value} {d:DataW H} {p:List MemPlace},Tryz.prog.readableRec t=true->t<Tryz.prog.types.size->DataW.Trod enc Tryz.prog W 0 (fun _=>true) true t v d p->DataW.Trod enc Tryz.prog W' 0 (fun b=>decide (b<W.heap.size)) true t v d p:=fun hr ht h=>Below.trod xoa hr ht h bel (lt h)
 exact⟨_,rfl,_,_,_,[],_,[],hW',trodAll_mk1 (shut_bool Tryz.underlying4 _),(trodAll_cons_mk (again (by kernel_rfl) (of_decide_eq_true (by kernel_rfl)) k0) (trodAll_cons_mk (again (by kernel_rfl) (of_decide_eq_true (by kernel_rfl)) k1) (trodAll_cons_mk (again (by kernel_rfl) (of_decide_eq_true (by kernel_rfl)) k2) (trodAll_cons_mk (again (by kernel_rfl) (of_decide_eq_true (by kernel_rfl)) k3) trodAll_mk0)))),rfl,bel.frame _,fun h=>by cases h⟩
theorem rt_over:Rows.fastOldRow.holds Tryz.pinned (OpenSpec.ofChange Rows.fastOldSpec):=
 OpenClaim.holds_of_wide 4 Tryz.f4 rfl rfl rfl rfl rfl rfl rfl ⟨rfl,rfl,rfl,rfl,rfl⟩ rfl rfl rfl rfl rfl (by kernel_rfl) Tryz.func4 (by kernel_rfl)
  (of_decide_eq_true (by kernel_rfl)) (by unfold Func.isWrapper;first | (rw[if_pos (by decide +kernel)];kernel_rfl) | (rw[if_neg (by decide +kernel)];exact⟨rfl,rfl⟩))
  (fun os started H enc _=>rt_lifted os started H enc)
theorem fastOld_holds:Rows.FastOldSaid:=rt_over
#print axioms fastOld_holds
end Go.Proofs.YtaodadfahifbpaaGreat
