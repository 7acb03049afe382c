/- InlineSame: whoever stands in does the same: a call by fast code of whichever methods, made for whichever classes at whichever sends, comes to what it does without. For every input. -/
import Derived.Test.YtdfbgpiikeheiaaQ22
import Derived.ChangeMaps5
namespace Go.Proofs.Ytdfbgpiikeheiaa
open Go.ChangeShapes Go.WideShapes Go.ChangeAt Go.RowKit
set_option linter.unusedSimpArgs false
set_option linter.unusedVariables false
set_option maxHeartbeats 8000000
set_option maxRecDepth 8000
theorem bytes42:Try.prog.bytesOf 42=32:=by kernel_rfl
theorem bytes3:Try.prog.bytesOf 3=8:=by kernel_rfl
theorem cells42:Try.prog.cellsOf 42=3:=by kernel_rfl
theorem IsRow.weak {α:Type}{E:Lay α}{sz bytes:Nat}{P:Nat->Prop}{w:World}{v:Value}{xs:List α}(h:IsRow E sz bytes P w v xs):IsRow E sz 0 P w v xs/\xs.length*bytes<=140737488351232:=by
 obtain⟨ad,cap,h1,h2,h3,h4,h5⟩:=h
 exact⟨⟨ad,cap,h1,h2,h3,by simp,h5⟩,h4⟩
section
variable {H:Type} {enc:TypeId × Value->H} {w:World} {base:Nat} {spare:Nat->Bool} {held:Bool}
theorem read_site {n:Nat}{cs:List Value}{x:DataW H × List MemPlace}(hl:cs.length=3)(h:DataW.trod enc Try.prog w base spare held n 42 cs=some x):∃ y,xrR Tru w (fun k=>cs[k]?) y:=by
 obtain⟨xs,k,hk,hxy,_,hxl,hf⟩:=DataW.trod_struct Try.underlying42 h
 match xs,hxl,cs,hl with
 | [y0,y1,y2],_,[v0,v1,v2],_=>
  have g0:=hf 0 _ rfl;have g1:=hf 1 _ rfl;have g2:=hf 2 _ rfl
  simp[xgG,xh7] at g0 g1 g2
  obtain⟨a,e0,-,-⟩:=DataW.trod_int Try.underlying3 g0;obtain⟨s,e1,-,-⟩:=DataW.trod_string Try.underlying9 g1;obtain⟨b,e2,-,-⟩:=DataW.trod_int Try.underlying3 g2
  simp at e0 e1 e2
  subst e0 e1 e2
  exact⟨⟨a,s,b⟩,rfl,rfl,rfl⟩
theorem read_int {n:Nat}{cs:List Value}{x:DataW H × List MemPlace}(hl:cs.length=1)(h:DataW.trod enc Try.prog w base spare held n 3 cs=some x):∃ y,xpr Tru w (fun k=>cs[k]?) y:=by
 match cs,hl with
 | [v0],_=>
  obtain⟨a,e0,-,-⟩:=DataW.trod_int Try.underlying3 h
  simp at e0
  subst e0
  exact⟨a,rfl⟩
theorem read_sites {fuel:Nat}{v:Value}{x:DataW H × List MemPlace}(h:DataW.trod enc Try.prog w base spare held fuel 47 [v]=some x)(hw:∀ n∈x.1.weights Try.prog 47,n<=140737488351232):∃ xs,IsRow xrR 3 32 Tru w v xs:=
 xdm xsL Try.underlying47 cells42 bytes42 (by omega) (fun n cs x hl h hw=>read_site hl h) h hw
theorem read_ints {fuel:Nat}{v:Value}{x:DataW H × List MemPlace}(h:DataW.trod enc Try.prog w base spare held fuel 48 [v]=some x)(hw:∀ n∈x.1.weights Try.prog 48,n<=140737488351232):∃ xs,IsRow xpr 1 8 Tru w v xs:=
 xdm xil Try.underlying48 xgG bytes3 (by omega) (fun n cs x hl h hw=>read_int hl h) h hw
theorem open_sites {r:Reach}{b0:Nat}{v:Value}{d:DataW H}{p:List MemPlace}(hv:Value.okWide Try.prog w r b0 47 v)(h:DataW.Trod enc Try.prog w base spare held 47 v d p)(hw:∀ n∈d.weights Try.prog 47,n<=140737488351232):∃ xs,xsg Tru w v xs:=by
 obtain⟨fuel,hf⟩:=h;obtain⟨a,len,cap,rfl⟩:=okWide_slice Try.underlying47 hv;obtain⟨xs,hx⟩:=read_sites hf hw
 exact⟨xs,hx.weak.1⟩
theorem open_ints {r:Reach}{b0:Nat}{v:Value}{d:DataW H}{p:List MemPlace}(hv:Value.okWide Try.prog w r b0 48 v)(h:DataW.Trod enc Try.prog w base spare held 48 v d p)(hw:∀ n∈d.weights Try.prog 48,n<=140737488351232):∃ xs,IsRow xpr 1 0 Tru w v xs:=by
 obtain⟨fuel,hf⟩:=h;obtain⟨a,len,cap,rfl⟩:=okWide_slice Try.underlying48 hv;obtain⟨xs,hx⟩:=read_ints hf hw
 exact⟨xs,hx.weak.1⟩
end
set_option maxRecDepth 100000 in
theorem is_lifted (os:Os)(started:os.Started)(H:Type)(enc:TypeId × Value->H) :
  ReturnsInHanded {} Try.checked os 4 .any (Rows.inlineSameSpec.pre6 enc Try.prog Try.f4 Rows.inlineSameRow.domain false) (Rows.inlineSameSpec.post enc Try.prog Try.f4 false true false false):=by
 refine returnsInHanded_of_change_sized (C:=Try.checked) own started (by kernel_rfl) Try.func4
  (ChangeSpec.witness6 (enc:=enc) (C:=Try.checked) false ⟨#[],#[WV (.slice none 0 0) (.slice none 0 0) 0,ClV ⟨0,0⟩ ⟨#[]⟩ (.slice none 0 0),.int .i64 0,.slice none 0 0,.slice none 0 0],[]⟩ 8 (by kernel_rfl) (by kernel_rfl) (by kernel_rfl) (by kernel_rfl)) ?_
 intro W base args ds gs before hval0 hW hcnd hsz0 _;have hval:∀ (j:Nat) t v,Try.f4.params[j]?=some t->args[j]?=some v->Value.okWide Try.prog W .any base t v:=hval0;have hsz:(DataW.weightsEach Try.prog (Try.f4.params.toList++Rows.inlineSameSpec.plain.varTypes Try.prog) (ds++gs)).all (·<=reachBytes)=true:=hsz0;have hW':=hW;obtain⟨p,q,hA0,hV,rfl,hfz,hnd⟩:=hW;have hA:DataW.TrodAll enc Try.prog W 0 (fun _=>true) true Try.f4.params.toList args.toList ds p:=hA0
 rw[Try.params4] at hA hval hsz;obtain⟨v0,vs0,d0,ds0,p0,q0,hargs,rfl,rfl,h0,r0⟩:=trodAll_cons hA;obtain⟨v1,vs1,d1,ds1,p1,q1,rfl,rfl,rfl,h1,r1⟩:=trodAll_cons r0;obtain⟨v2,vs2,d2,ds2,p2,q2,rfl,rfl,rfl,h2,r2⟩:=trodAll_cons r1;obtain⟨v3,vs3,d3,ds3,p3,q3,rfl,rfl,rfl,h3,r3⟩:=trodAll_cons r2;obtain⟨v4,vs4,d4,ds4,p4,q4,rfl,rfl,rfl,h4,r4⟩:=trodAll_cons r3;obtain⟨rfl,rfl,rfl⟩:=trodAll_nil r4;obtain rfl:args=#[v0,v1,v2,v3,v4]:=by cases args;simp_all
 obtain⟨rfl,rfl⟩:=trodVars_none hV;have lt:∀ {t:TypeId} {v:Value} {d:DataW H} {p:List MemPlace},DataW.Trod enc Try.prog W 0 (fun _=>true) true t v d p->∀ x∈p,x.block<W.heap.size:=fun h=>by obtain⟨m,hm⟩:=h;exact DataW.trod_lt m _ _ _ hm
 have big:∀ {j:Nat} {t:TypeId} {d:DataW H},([25,30,3,47,48]:List TypeId)[j]?=some t->[d0,d1,d2,d3,d4][j]?=some d->∀ n∈d.weights Try.prog t,n<=140737488351232:=fun {j t d} ht hd n hn=>by
  have:=List.all_eq_true.1 hsz _ (DataW.weights_mem_each (j:=j) (t:=t) (by exact ht) (by exact hd) n hn)
  exact of_decide_eq_true this
 have k0:=h0;have k1:=h1;have k2:=h2;have k3:=h3;have k4:=h4;obtain⟨X0,cv0,hv0,rfl,hC0,hH0⟩:=xlc (hval 0 25 v0 rfl rfl) h0 (big (j:=0) rfl rfl);obtain⟨s1,n1,av1,a1,rfl,hn1,hA1⟩:=xmV (hval 1 30 v1 rfl rfl) h1 (big (j:=1) rfl rfl);obtain⟨a2,rfl,-,-,-⟩:=open_int Try.underlying3 (hval 2 3 v2 rfl rfl) h2;obtain⟨x3,hx3⟩:=open_sites (hval 3 47 v3 rfl rfl) h3 (big (j:=3) rfl rfl);obtain⟨x4,hx4⟩:=open_ints (hval 4 48 v4 rfl rfl) h4 (big (j:=4) rfl rfl);clear hA0 hval0;refine (xsw X0 s1 n1 a1 a2 x3 x4 _ _ _ _ _ W hC0 hH0 hA1 hn1 hx3 hx4).mono fun e W' ⟨he,bel⟩=>?_
 subst he;have again:∀ {t:TypeId} {v:Value} {d:DataW H} {p:List MemPlace},Try.prog.readableRec t=true->t<Try.prog.types.size->DataW.Trod enc Try.prog W 0 (fun _=>true) true t v d p->DataW.Trod enc Try.prog W' 0 (fun b=>decide (b<W.heap.size)) true t v d p:=fun hr ht h=>Below.trod xqu hr ht h bel (lt h)
 exact⟨_,rfl,_,_,_,[],_,[],hW',trodAll_mk1 (shut_bool Try.underlying4 _),(trodAll_cons_mk (again (by kernel_rfl) (of_decide_eq_true (by kernel_rfl)) k0) (trodAll_cons_mk (again (by kernel_rfl) (of_decide_eq_true (by kernel_rfl)) k1) (trodAll_cons_mk (again (by kernel_rfl) (of_decide_eq_true (by kernel_rfl)) k2) (trodAll_cons_mk (again (by kernel_rfl) (of_decide_eq_true (by kernel_rfl)) k3) (trodAll_cons_mk (again (by kernel_rfl) (of_decide_eq_true (by kernel_rfl)) k4) trodAll_mk0))))),rfl,bel.frame _,fun h=>by cases h⟩
theorem is_over:Rows.inlineSameRow.holds Try.pinned (OpenSpec.ofChange Rows.inlineSameSpec):=
 OpenClaim.holds_of_wide 4 Try.f4 rfl rfl rfl rfl rfl rfl rfl ⟨rfl,rfl,rfl,rfl,rfl⟩ rfl rfl rfl rfl rfl (by kernel_rfl) Try.func4 (by kernel_rfl)
  (of_decide_eq_true (by kernel_rfl)) (by unfold Func.isWrapper;first | (rw[if_pos (by decide +kernel)];kernel_rfl) | (rw[if_neg (by decide +kernel)];exact⟨rfl,rfl⟩))
  (fun os started H enc _=>is_lifted os started H enc)
theorem inlineSame_holds:Rows.InlineSameSaid:=is_over
#print axioms inlineSame_holds
end Go.Proofs.Ytdfbgpiikeheiaa
