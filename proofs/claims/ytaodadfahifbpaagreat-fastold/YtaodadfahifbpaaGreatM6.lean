/- A part. -/
import Derived.Test.YtaodadfahifbpaaGreatM5
namespace Go.Proofs.YtaodadfahifbpaaGreat
open Go.ChangeShapes Go.WideShapes Go.ChangeAt Go.RowKit
set_option linter.unusedSimpArgs false
set_option linter.unusedVariables false
set_option maxHeartbeats 8000000
set_option maxRecDepth 8000
theorem xdh {α:Type}{E:Lay α}{sz bytes:Nat}{P:Nat->Prop}{w:World}{v:Value}{xs:List α}(h:IsRow E sz bytes P w v xs)(hE:∀ f x,E P w f x->E (fun b=>b<w.heap.size) w f x/\∃ u,f 0=some u):IsRow E sz bytes (fun b=>b<w.heap.size) w v xs:=by
 obtain⟨ad,cap,h1,h2,h3,h4,h5⟩:=h;refine⟨ad,cap,h1,h2,h3,h4,fun i x hx=>?_⟩
 obtain⟨b,o,e1,e2,e3⟩:=h5 i x hx;obtain⟨k1,u,k2⟩:=hE _ _ e3
 exact⟨b,o,e1,World.block_lt_of_cell? w _ k2,k1⟩
theorem xgf {P:Nat->Prop}{w:World}{v:Value}{xs:List QI}(h:xaK P w v xs):xaK (fun b=>b<w.heap.size) w v xs:=xdh h fun f x hx=>⟨hx,_,hx.1⟩
theorem xei {P:Nat->Prop}{w:World}{v:Value}{xs:List QV}(h:xaG P w v xs):xaG (fun b=>b<w.heap.size) w v xs:=xdh h fun f x hx=>⟨hx,_,hx.1⟩
theorem xim {P:Nat->Prop}{w:World}{v:Value}{xs:List QM}(h:xbj P w v xs):xbj (fun b=>b<w.heap.size) w v xs:=xdh h fun f x hx=>by
 obtain⟨h0,h1,h2,h3,h4,c,h5,h6⟩:=hx
 exact⟨⟨h0,h1,h2,h3,h4,c,h5,xgf h6⟩,_,h0⟩
theorem xbO {P:Nat->Prop}{w:World}{v:Value}{xs:List QC}(h:xaf P w v xs):xaf (fun b=>b<w.heap.size) w v xs:=xdh h fun f x hx=>by
 obtain⟨h0,h1,h2,h3,c,h5,h6⟩:=hx
 exact⟨⟨h0,h1,h2,h3,c,h5,xim h6⟩,_,h0⟩
theorem xcQ {P:Nat->Prop}{w:World}{v:Value}{xs:List QO}(h:xaA P w v xs):xaA (fun b=>b<w.heap.size) w v xs:=xdh h fun f x hx=>by
 obtain⟨h0,c,h5,h6⟩:=hx
 exact⟨⟨h0,c,h5,xei h6⟩,_,h0⟩
abbrev ClV (s:QV)(name:ByteArray)(av:Value):Value:=.agg #[.int .i64 s.k,.int .i64 s.n,.string name,av]
theorem xcV {α:Type}{f:Nat->α->Int}:∀ {l:List α} {k:Nat},(∀ i y,l[i]?=some y->f (k+i) y=0)->xbl f k l=0
 | [],_,_=>rfl
 | x :: r,k,h=>by
  unfold xbl;rw[if_neg (by have:=h 0 x rfl;simpa using this)]
  exact xcV fun i y hy=>by have:=h (i+1) y (by simpa using hy);rw[show k+1+i=k+(i+1) by omega];exact this
structure WcR (w:World)(cv hv:Value)(ep:Int)(s:QV)(name:ByteArray)(av:Value)(w':World):Prop where
 bel:Below w.heap.size w w'
 w0:w'.cell? ⟨w.heap.size,0,none⟩=some cv
 w1:w'.cell? ⟨w.heap.size,1,none⟩=some hv
 w2:w'.cell? ⟨w.heap.size,2,none⟩=some (.int .i64 ep)
 c0:w'.cell? ⟨w.heap.size+1,0,none⟩=some (.int .i64 s.k)
 c1:w'.cell? ⟨w.heap.size+1,1,none⟩=some (.int .i64 s.n)
 c2:w'.cell? ⟨w.heap.size+1,2,none⟩=some (.string name)
 c3:w'.cell? ⟨w.heap.size+1,3,none⟩=some av
theorem WcR.later {w:World}{cv hv:Value}{ep:Int}{s:QV}{name:ByteArray}{av:Value}{w' w'':World}(h:WcR w cv hv ep s name av w')(hb:Below w'.heap.size w' w''):WcR w cv hv ep s name av w'':=
 ⟨xae h.bel hb,qzA hb h.w0,qzA hb h.w1,qzA hb h.w2,qzA hb h.c0,qzA hb h.c1,qzA hb h.c2,qzA hb h.c3⟩
theorem xii (w:World)(cv hv:Value)(ep:Int)(s:QV)(name:ByteArray)(av:Value):WcR w cv hv ep s name av ((w.alloc (.cells #[cv,hv,.int .i64 ep] 25)).alloc (.cells #[.int .i64 s.k,.int .i64 s.n,.string name,av] 30)):=
 ⟨xbA _ _ _,qzA (xaj _ _) (xaa _ _ _ _ rfl 0),qzA (xaj _ _) (xaa _ _ _ _ rfl 1),qzA (xaj _ _) (xaa _ _ _ _ rfl 2),xaa _ _ _ _ (by simp) 0,xaa _ _ _ _ (by simp) 1,xaa _ _ _ _ (by simp) 2,xaa _ _ _ _ (by simp) 3⟩
theorem xk4 {P Q:Nat->Prop}(X:QW)(s:QV)(name:ByteArray)(args:List QV)(fuel:Int)(cv hv av:Value)(w:World)(hcv:∃ a n c,cv=.slice a n c)(hH:xaA P w hv X.heap)(hA:xaG Q w av args)(hn:name.size<=140737488351232):Calls Tryz.prog 32 #[WV cv hv X.ez,ClV s name av,.int .i64 fuel] w fun e w'=>e=.returned (.int .i64 (xap X s name args fuel))/\Below w.heap.size w w':=by
 have hR:=xii w cv hv X.ez s name av;obtain⟨ah,ch,rfl,-⟩:=id hH;obtain⟨aa,ca,rfl,hal,hac,-,hrow⟩:=id hA;obtain⟨ac,nc,cc,rfl⟩:=hcv;unfold maxLen at hac;go_enter Tryz.func32,Tryz.ntmps32
 go_upto_region 1 with (fail)
 generalize ((w.alloc (.cells #[.slice ac nc cc,.slice ah X.heap.length ch,.int .i64 X.ez] 25)).alloc (.cells #[.int .i64 s.k,.int .i64 s.n,.string name,.slice aa args.length ca] 30))=W at *;obtain⟨-,w0,w1,w2,c0,c1,c2,c3⟩:=id hR;go_wp2_with fail;refine (xkI name _ hn).mono ?_;rintro e w1' ⟨rfl,hb1⟩;have hR1:=hR.later hb1;clear w0 w1 w2 c0 c1 c2 c3 hR hb1;obtain⟨-,w0,w1,w2,c0,c1,c2,c3⟩:=id hR1
 cases hnb:xbm name with
 | false=>
  have HE:Hid (xap X s name args fuel=7):=by show _=_;unfold xap;rw[if_pos hnb]
  go_wp2
  go_ret
  exact⟨xal HE.out.symm,hR1.bel⟩
 | true=>
  by_cases h4:4<args.length
  ·have HE:Hid (xap X s name args fuel=5):=by show _=_;unfold xap;rw[if_neg (by rw[hnb];simp),if_pos h4]
   have h4':(4:Int)<(args.length:Int):=by omega
   go_wp2
   go_ret
   exact⟨xal HE.out.symm,hR1.bel⟩
  have h4':¬ ((4:Int)<(args.length:Int)):=by omega
  by_cases hf:fuel<0
  ·have HE:Hid (xap X s name args fuel=3):=by show _=_;unfold xap;rw[if_neg (by rw[hnb];simp),if_neg h4,if_pos (Or.inl hf)]
   have hf':decide (fuel<0)=true:=by simpa using hf
   go_wp2
   go_ret
   exact⟨xal HE.out.symm,hR1.bel⟩
  have hf':decide (fuel<0)=false:=by simpa using hf
  by_cases hg:400<fuel
  ·have HE:Hid (xap X s name args fuel=3):=by show _=_;unfold xap;rw[if_neg (by rw[hnb];simp),if_neg h4,if_pos (Or.inr hg)]
   have hg':decide (400<fuel)=true:=by simpa using hg
   go_wp2
   go_ret
   exact⟨xal HE.out.symm,hR1.bel⟩
  have hg':decide (400<fuel)=false:=by simpa using hg
  have HE:Hid (xap X s name args fuel=if xas X.heap.length s≠0 then xas X.heap.length s else xbl (fun _ v=>xas X.heap.length v) 0 args):=by show _=_;unfold xap;rw[if_neg (by rw[hnb];simp),if_neg h4,if_neg (by omega)]
  clear hnb hf hg;have hvw:=fun w=>xfX s (X.heap.length:Int) w
  generalize xas X.heap.length s=ws at *;go_wp2_with fail;refine (hvw _).mono ?_;rintro e w2' ⟨rfl,hb2⟩;have hR2:=hR1.later hb2;clear w0 w1 w2 c0 c1 c2 c3 hR1 hb2 hvw;obtain⟨-,w0,w1,w2,c0,c1,c2,c3⟩:=id hR2
  by_cases hws:ws=0
  ·have hws':(ws != 0)=false:=by simpa using hws
   rw[if_neg (by simpa using hws)] at HE
   clear hws;go_wp2;clear w0 w1 w2 c0 c1 c2 c3
   go_loopg [40] args.length (fun gk c wr=>∃ j:Nat,j+gk=args.length/\c=.int .i64 j/\WcR w (.slice ac nc cc) (.slice ah X.heap.length ch) X.ez s name (.slice aa args.length ca) wr/\∀ i y,i<j->args[i]?=some y->xas X.heap.length y=0)
   case atStart=>exact⟨0,by omega,rfl,hR2,fun i y hi=>by omega⟩
   case round=>
    clear hR2;obtain⟨j,hj,rfl,hRr,hok⟩:=hrel;have HO:=hid hok;clear hok;obtain⟨-,w0,w1,w2,c0,c1,c2,c3⟩:=id hRr
    by_cases hlt:j<args.length
    ·have hx:args[j]?=some args[j]:=by simp[hlt]
     have HX:=hid hx;generalize args[j]=y at *;obtain⟨b,o,rfl,-,v0,v1⟩:=hrow j y hx;simp only[Nat.add_zero] at v0;have u0:=qzA hRr.bel v0;have u1:=qzA hRr.bel v1;clear v0 v1 hrow hx;have hj1:(j:Int)<(args.length:Int):=by omega
     have hj0:(0:Int)<=(j:Int):=by omega
     have hvw:=fun w=>xfX y (X.heap.length:Int) w
     obtain⟨wy,hwy⟩:∃ wy,wy=xas X.heap.length y:=⟨_,rfl⟩;rw[← hwy] at hvw;have HWY:=hid hwy;clear hwy;have hRa:=hRr.later (xaj wr (.cells #[.int .i64 y.k,.int .i64 y.n] 27));have y0:(wr.alloc (.cells #[.int .i64 y.k,.int .i64 y.n] 27)).cell? ⟨wr.heap.size,0,none⟩=some (.int .i64 y.k):=xaa _ _ _ _ rfl 0;have y1:(wr.alloc (.cells #[.int .i64 y.k,.int .i64 y.n] 27)).cell? ⟨wr.heap.size,1,none⟩=some (.int .i64 y.n):=xaa _ _ _ _ rfl 1
     go_upto_region 13 with (fail)
     clear w0 w1 w2 c0 c1 c2 c3 u0 u1 hRr;generalize (wr.alloc (.cells #[.int .i64 y.k,.int .i64 y.n] 27))=V at *;obtain⟨-,w0,w1,w2,c0,c1,c2,c3⟩:=id hRa;go_wp2_with fail;refine (hvw _).mono ?_;rintro e w5 ⟨rfl,hb5⟩;have hR5:=hRa.later hb5;clear w0 w1 w2 c0 c1 c2 c3 hRa hb5 hvw y0 y1
     by_cases hz:wy=0
     ·have hz':(wy != 0)=false:=by simpa using hz
      go_wp2
      go_roundg (gk-1)
      case measure=>omega
      case rel=>
       refine⟨j+1,by omega,by go_num,hR5,fun i y' hi hy=>?_⟩
       by_cases hij:i=j
       ·subst hij;rw[HX.out] at hy;cases hy;rw[← HWY.out];exact hz
       ·exact HO.out i y' (by omega) hy
     ·have hz':(wy != 0)=true:=by simpa using hz
      go_wp2
      go_ret
      refine⟨xal ?_,hR5.bel⟩;have:=xc2 (f:=fun _ v=>xas X.heap.length v) (k:=0) HX.out (by rw[← HWY.out];exact hz) (fun i y' hi hy=>HO.out i y' hi hy)
      rw[HE.out,this,HWY.out]
    ·obtain rfl:j=args.length:=by omega
     go_wp2
     go_ret
     refine⟨xal ?_,hRr.bel⟩;rw[HE.out,xcV fun i y hy=>HO.out i y (xag hy) hy]
  ·have hws':(ws != 0)=true:=by simpa using hws
   rw[if_pos hws] at HE;go_wp2
   go_ret
   exact⟨xal HE.out.symm,hR2.bel⟩
structure LkP (X:QW)(b:Nat)(cv hv:Value)(T:Nat->Nat)(w:World)(st:Unit)(n:Nat):Prop where
 tag:T b=0
 lt:b<w.heap.size
 w0:w.cell? ⟨b,0,none⟩=some cv
 w1:w.cell? ⟨b,1,none⟩=some hv
 w2:w.cell? ⟨b,2,none⟩=some (.int .i64 X.ez)
 cls:xaf (Fx T w) w cv X.cz
 heap:xaA (Fx T w) w hv X.heap
theorem LkP.keep {X:QW}{b:Nat}{cv hv:Value}{T T':Nat->Nat}{w w':World}{st:Unit}{n:Nat}{S:Nat->Prop}(h:LkP X b cv hv T w st n)(e:Ext T T' w)(k:Kp S T w w')(h0:¬ S 0):LkP X b cv hv T' w' st n:=
 ⟨by rw[e _ h.lt];exact h.tag,qzE h.lt k.size,k.cell h.w0 (by rw[h.tag];exact h0),k.cell h.w1 (by rw[h.tag];exact h0),k.cell h.w2 (by rw[h.tag];exact h0),h.cls.fx xau e k h0,h.heap.fx xaz e k h0⟩
section
variable {σ:Type} {p:Mp σ} {L:(Nat->Nat)->World->σ->Nat->Prop} {LF QF:Nat} {lc qc:Array Value} {T:Nat->Nat} {w:World} {mb:Nat} {m:Mc σ} {hv:Value} {g:Nat} {s:Nat->Nat} {K:Nat}
structure FsR (w:World)(mb:Nat)(v0 v1:Value)(ep:Int)(s:QV)(name:ByteArray)(av:Value)(w':World):Prop where
 bel:Below w.heap.size w w'
 m0:w'.cell? ⟨mb,0,none⟩=some v0
 m1:w'.cell? ⟨mb,1,none⟩=some v1
 m2:w'.cell? ⟨mb,2,none⟩=some (.int .i64 ep)
 c0:w'.cell? ⟨w.heap.size,0,none⟩=some (.int .i64 s.k)
 c1:w'.cell? ⟨w.heap.size,1,none⟩=some (.int .i64 s.n)
 c2:w'.cell? ⟨w.heap.size,2,none⟩=some (.string name)
 c3:w'.cell? ⟨w.heap.size,3,none⟩=some av
 r0:w'.cell? ⟨w.heap.size+1,0,none⟩=some (.int .i64 0)
 r1:w'.cell? ⟨w.heap.size+1,1,none⟩=some (.int .i64 0)
 rf:∀ o,w'.frozen? ⟨w.heap.size+1,o,none⟩=false
 sz:w.heap.size+2<=w'.heap.size
theorem FsR.later {w:World}{mb:Nat}{v0 v1:Value}{ep:Int}{s:QV}{name:ByteArray}{av:Value}{w' w'':World}(h:FsR w mb v0 v1 ep s name av w')(hb:Below w'.heap.size w' w''):FsR w mb v0 v1 ep s name av w'':=
 ⟨xae h.bel hb,qzA hb h.m0,qzA hb h.m1,qzA hb h.m2,qzA hb h.c0,qzA hb h.c1,qzA hb h.c2,qzA hb h.c3,qzA hb h.r0,qzA hb h.r1,fun o=>(hb.frozen (p:=⟨w.heap.size+1,o,none⟩) (by have:=h.sz;simp only;omega)).trans (h.rf o),qzD h.sz hb.size⟩
theorem FsR.al {w:World}{mb:Nat}{v0 v1:Value}{ep:Int}{s:QV}{name:ByteArray}{av:Value}{w':World}(h:FsR w mb v0 v1 ep s name av w'):w'.cell? ⟨mb,0,none⟩=some v0/\w'.cell? ⟨mb,1,none⟩=some v1/\w'.cell? ⟨mb,2,none⟩=some (.int .i64 ep)/\w'.cell? ⟨w.heap.size,0,none⟩=some (.int .i64 s.k)/\w'.cell? ⟨w.heap.size,1,none⟩=some (.int .i64 s.n)/\w'.cell? ⟨w.heap.size,2,none⟩=some (.string name):=⟨h.m0,h.m1,h.m2,h.c0,h.c1,h.c2⟩
theorem xlx (hC:Cx p L LF lc QF qc)(h:MacAt p T w mb m 0 hv g s)(hL:L T w m.st (p.E.fuel-m.sz_).toNat)(hI:MIn p.E m)(sf:QV)(name:ByteArray)(args:List QV)(av:Value)(hSe:xas m.heap.length sf=0)(hAr:VsOk m.heap.length args)(hA:xaG (Fx T w) w av args)(hK5:5<=K) :
  Calls Tryz.prog 36 #[.pointer (some ⟨mb,0,none⟩),ClV sf name av] w fun e w'=>EnPost p L T w mb 0 K (xa7 p.E 20 m (xaF p.E.cz (xav m.heap sf) name).1 (xaF p.E.cz (xav m.heap sf) name).2 sf args) e w':=by
 have hX:=xan T w 4;have hT4:∀ b,w.heap.size<=b->xay T w 4 b=4:=fun b hb=>xaC hb
 have hb1:Below w.heap.size w ((w.alloc (.cells #[.int .i64 sf.k,.int .i64 sf.n,.string name,av] 30)).alloc (.cells #[.int .i64 0,.int .i64 0] 27)).drew:=(xbA w _ _).drew;have hM0:=(h.tagged0 4).later hb1;have hA0:=(xdW hA xaS 4).fx xaS (.refl _ w) (Kp.of_below (S:=fun _=>False) hb1) id
 have hL0:=hC.keep (hC.keep hL hX (Kp.refl (fun _=>False) _ _) id id) (.refl _ _) (Kp.of_below (S:=fun _=>False) hb1) id id
 have hFs:FsR w mb p.cv hv p.ep sf name av ((w.alloc (.cells #[.int .i64 sf.k,.int .i64 sf.n,.string name,av] 30)).alloc (.cells #[.int .i64 0,.int .i64 0] 27)).drew:=by
  refine⟨hb1,hM0.c0,hM0.c1,hM0.c2,qzA (xaj _ _).drew (xaa w #[.int .i64 sf.k,.int .i64 sf.n,.string name,av] 30 _ rfl 0),qzA (xaj _ _).drew (xaa w #[.int .i64 sf.k,.int .i64 sf.n,.string name,av] 30 _ rfl 1),qzA (xaj _ _).drew (xaa w #[.int .i64 sf.k,.int .i64 sf.n,.string name,av] 30 _ rfl 2),qzA (xaj _ _).drew (xaa w #[.int .i64 sf.k,.int .i64 sf.n,.string name,av] 30 _ rfl 3),xaa _ _ _ _ (by simp) 0,xaa _ _ _ _ (by simp) 1,fun o=>xam (cur:=#[.int .i64 0,.int .i64 0]) (t:=27) ?_ o,by simp⟩
  rw[xe4];have:=heap_alloc_new (w.alloc (.cells #[.int .i64 sf.k,.int .i64 sf.n,.string name,av] 30)) (.cells #[.int .i64 0,.int .i64 0] 27)
  simpa using this
 have hlm:=xai h.box;obtain⟨aa,ca,rfl,-⟩:=id hA;clear h hA hL;generalize xay T w 4=T1 at *;have t1:T1 (w.heap.size+1)=4:=hT4 _ (by omega)
 go_enter Tryz.func36,Tryz.ntmps36
 go_upto_region 1 with (fail)
 generalize ((w.alloc (.cells #[.int .i64 sf.k,.int .i64 sf.n,.string name,.slice aa args.length ca] 30)).alloc (.cells #[.int .i64 0,.int .i64 0] 27))=W at *;have hcl:=hM0.cls.mono (Q:=fun _=>True) xau fun _ _=>trivial
 have hhp:=hM0.heap.heap.mono (Q:=fun _=>True) xaz fun _ _=>trivial
 obtain⟨ch,rfl,-⟩:=hM0.heap.form;obtain⟨ac,cc,hcv,-⟩:=id hcl;have hcls:∀ w':World,Below W.drew.heap.size W.drew w'->Calls Tryz.prog 59 #[.slice (some ⟨g,0,none⟩) m.heap.length ch,VV sf] w' fun e w''=>e=.returned (.int .i64 (xav m.heap sf))/\Below w'.heap.size w' w'':=fun w' hb=>xey m.heap _ sf w' (hhp.later xaz hb)
 have hfin:∀ w':World,Below W.drew.heap.size W.drew w'->Calls Tryz.prog 38 #[WV p.cv (.slice (some ⟨g,0,none⟩) m.heap.length ch) p.ep,.int .i64 (xav m.heap sf),.string name] w' fun e w''=>e=.returned (.tuple #[.int .i64 (xaF p.E.cz (xav m.heap sf) name).1,.int .i64 (xaF p.E.cz (xav m.heap sf) name).2])/\Below w'.heap.size w' w'':=fun w' hb=>xeZ ⟨p.E.cz,m.heap,p.ep⟩ (xav m.heap sf) name p.cv _ w' (hcl.later xau hb) (hhp.later xaz hb)
 have HM0:=hid hM0;rw[hcv] at hfin hFs;clear hcv hcl hhp hM0;obtain⟨c0,hc0⟩:∃ c0,c0=xav m.heap sf:=⟨_,rfl⟩;rw[← hc0] at hcls hfin;obtain⟨r1,r2,hr⟩:∃ r1 r2,xaF p.E.cz c0 name=(r1,r2):=⟨_,_,rfl⟩;rw[hr] at hfin;have HRO:Hid (xa7 p.E 20 m (xaF p.E.cz (xav m.heap sf) name).1 (xaF p.E.cz (xav m.heap sf) name).2 sf args=xa7 p.E 20 m r1 r2 sf args):=by show _=_;rw[← hc0,hr]
 clear hc0 hr;have hS0:=hFs.al;have tokA:True:=trivial
 go_region_held3 (fun w'=>w'.cell? ⟨mb,0,none⟩=some (.slice ac p.E.cz.length cc)/\w'.cell? ⟨mb,1,none⟩=some (.slice (some ⟨g,0,none⟩) m.heap.length ch)/\w'.cell? ⟨mb,2,none⟩=some (.int .i64 p.ep)/\w'.cell? ⟨w.heap.size,0,none⟩=some (.int .i64 sf.k)/\w'.cell? ⟨w.heap.size,1,none⟩=some (.int .i64 sf.n)/\w'.cell? ⟨w.heap.size,2,none⟩=some (.string name))
  (first | with_reducible exact hS0 | with_reducible exact hS1 | with_reducible exact hS2)
  (first
   | (have _t:=tokA;go_at_call 59;refine (hcls _ (Below.refl _ _)).mono ?_;rintro e w3 ⟨rfl,hb3⟩;have hF3:=hFs.later hb3;have hS1:=hF3.al;clear tokA;have tokB:True:=trivial)
   | (have _t:=tokB;go_at_call 38;refine (hfin _ hb3).mono ?_;rintro e w4 ⟨rfl,hb4⟩;have hF4:=hF3.later hb4;have hS2:=hF4.al;have hb34:=xae hb3 hb4;clear tokB))
 have hM4:=HM0.out.later hb34;have hA4:=hA0.fx xaS (.refl _ _) (Kp.of_below (S:=fun _=>False) hb34) id
 have hL4:=hC.keep hL0 (.refl _ _) (Kp.of_below (S:=fun _=>False) hb34) id id
 have hent:=xhm hC 20 (qzC _) K T1 w4 mb m _ _ _ r1 r2 sf args _ hK5 hM4 hL4 hI hSe hAr hA4;have HKW:=hid (Kp.of_below (S:=All K) (T:=T) hF4.bel);obtain⟨-,m0,m1,m2,c0',c1,c2,c3,r0,r1',rf,sz⟩:=id hF4;have H4:=hid hF4;clear hS0 hS1 hS2 hcls hfin hF3 hF4 hFs hb3 hb4 hb34 hM4 hA4 hL4;obtain⟨R,hR⟩:∃ R,xa7 p.E 20 m r1 r2 sf args=R:=⟨_,rfl⟩;rw[hR] at hent HRO;clear hR;go_wp2_with fail;refine hent.mono ?_;rintro e w6 ⟨rfl,⟨T6,hX6,⟨hv6,g6,s6,hM6⟩,hL6⟩,hK6⟩;have q0:=hK6.cell r0 (by rw[t1];unfold All;omega)
 have q1:=hK6.cell r1' (by rw[t1];unfold All;omega)
 have qf:∀ o,w6.frozen? ⟨w.heap.size+1,o,none⟩=false:=fun o=>xb8 hK6 (by omega) (by rw[t1];unfold All;omega) (rf o)
 have t6:T6 (w.heap.size+1)=4:=by rw[hX6 _ (by omega)];exact t1
 have HQ:=hid fun u0 u1=>EnPost.fin (r:=R) hC (hX.trans HKW.out.size hX6) (show MacAt p T6 w6 mb R.1 0 hv6 g6 s6 from hM6) hL6 (HKW.out.trans hX hK6) t6 u0 u1
 clear hent hM6 hL6 hK6 hX6 m0 m1 m2 c0' c1 c2 c3 r0 r1' rf;obtain⟨rm,v,er⟩:=R;go_wp2;rw[HRO.out];refine bodyPost_ret (v:=.tuple #[VV v,.int .i64 er]) ?_ rfl (HQ.out _ _)
 simp[results,Tryz.results36,go_sem,q0,q1]
end
abbrev RnV (r:Ran):Value:=.agg #[.int .i64 r.v.k,.int .i64 r.v.n,.int .i64 r.err,.int .i64 r.sz_]
def WiPost {σ:Type}(L:(Nat->Nat)->World->σ->Nat->Prop)(T0:Nat->Nat)(w:World)(X:QW)(r:Ran × σ)(e:Ending)(w':World):Prop:=
 Kp (fun t=>t=3) T0 w w'/\∃ T',Ext T0 T' w/\L T' w' r.2 0/\∃ cv hv,e=.returned (.tuple #[WV cv hv X.ez,RnV r.1])/\xaf (fun b=>w.heap.size<=b/\T' b≠3) w' cv X.cz/\xaA (fun b=>w.heap.size<=b/\T' b≠3) w' hv r.1.heap
structure WtR (w:World)(cv hv:Value)(ep:Int)(s:QV)(name:ByteArray)(av:Value)(w':World):Prop where
 w0:w'.cell? ⟨w.heap.size,0,none⟩=some cv
 w1:w'.cell? ⟨w.heap.size,1,none⟩=some hv
 w2:w'.cell? ⟨w.heap.size,2,none⟩=some (.int .i64 ep)
 c0:w'.cell? ⟨w.heap.size+1,0,none⟩=some (.int .i64 s.k)
 c1:w'.cell? ⟨w.heap.size+1,1,none⟩=some (.int .i64 s.n)
 c2:w'.cell? ⟨w.heap.size+1,2,none⟩=some (.string name)
 c3:w'.cell? ⟨w.heap.size+1,3,none⟩=some av
 a0:w'.cell? ⟨w.heap.size+2,0,none⟩=some (.slice none 0 0)
 a1:w'.cell? ⟨w.heap.size+2,1,none⟩=some (.slice none 0 0)
 a2:w'.cell? ⟨w.heap.size+2,2,none⟩=some (.int .i64 0)
 af:∀ o,w'.frozen? ⟨w.heap.size+2,o,none⟩=false
 b0:w'.cell? ⟨w.heap.size+3,0,none⟩=some (.int .i64 0)
 b1:w'.cell? ⟨w.heap.size+3,1,none⟩=some (.int .i64 0)
 b2:w'.cell? ⟨w.heap.size+3,2,none⟩=some (.int .i64 0)
 b3:w'.cell? ⟨w.heap.size+3,3,none⟩=some (.int .i64 0)
 bf:∀ o,w'.frozen? ⟨w.heap.size+3,o,none⟩=false
 sz:w.heap.size+4<=w'.heap.size
theorem WtR.kp {w:World}{cv hv:Value}{ep:Int}{s:QV}{name:ByteArray}{av:Value}{w' w'':World}{S:Nat->Prop}{T:Nat->Nat}(h:WtR w cv hv ep s name av w')(k:Kp S T w' w'')(hs:∀ i,i<4->¬ S (T (w.heap.size+i))):WtR w cv hv ep s name av w'':=
 have hz:=h.sz
 ⟨k.cell h.w0 (hs 0 (by omega)),k.cell h.w1 (hs 0 (by omega)),k.cell h.w2 (hs 0 (by omega)),k.cell h.c0 (hs 1 (by omega)),k.cell h.c1 (hs 1 (by omega)),k.cell h.c2 (hs 1 (by omega)),k.cell h.c3 (hs 1 (by omega)),k.cell h.a0 (hs 2 (by omega)),k.cell h.a1 (hs 2 (by omega)),k.cell h.a2 (hs 2 (by omega)),fun o=>xb8 k (by omega) (hs 2 (by omega)) (h.af o),k.cell h.b0 (hs 3 (by omega)),k.cell h.b1 (hs 3 (by omega)),k.cell h.b2 (hs 3 (by omega)),k.cell h.b3 (hs 3 (by omega)),fun o=>xb8 k (by omega) (hs 3 (by omega)) (h.bf o),qzD hz k.size⟩
theorem WtR.later {w:World}{cv hv:Value}{ep:Int}{s:QV}{name:ByteArray}{av:Value}{w' w'':World}(h:WtR w cv hv ep s name av w')(hb:Below w'.heap.size w' w''):WtR w cv hv ep s name av w'':=h.kp (T:=fun _=>0) (Kp.of_below (S:=fun _=>False) hb) fun _ _=>id
theorem xig (w:World)(cv hv:Value)(ep:Int)(s:QV)(name:ByteArray)(av:Value):WtR w cv hv ep s name av ((((w.alloc (.cells #[cv,hv,.int .i64 ep] 25)).alloc (.cells #[.int .i64 s.k,.int .i64 s.n,.string name,av] 30)).alloc (.cells #[.slice none 0 0,.slice none 0 0,.int .i64 0] 25)).alloc (.cells #[.int .i64 0,.int .i64 0,.int .i64 0,.int .i64 0] 37)):=by
 obtain⟨-,w0,w1,w2,c0,c1,c2,c3⟩:=xii w cv hv ep s name av;have q:=xbA ((w.alloc (.cells #[cv,hv,.int .i64 ep] 25)).alloc (.cells #[.int .i64 s.k,.int .i64 s.n,.string name,av] 30)) (.cells #[.slice none 0 0,.slice none 0 0,.int .i64 0] 25) (.cells #[.int .i64 0,.int .i64 0,.int .i64 0,.int .i64 0] 37);have e2:((w.alloc (.cells #[cv,hv,.int .i64 ep] 25)).alloc (.cells #[.int .i64 s.k,.int .i64 s.n,.string name,av] 30)).heap.size=w.heap.size+2:=by simp
 have e3:(((w.alloc (.cells #[cv,hv,.int .i64 ep] 25)).alloc (.cells #[.int .i64 s.k,.int .i64 s.n,.string name,av] 30)).alloc (.cells #[.slice none 0 0,.slice none 0 0,.int .i64 0] 25)).heap.size=w.heap.size+3:=by simp
 refine⟨qzA q w0,qzA q w1,qzA q w2,qzA q c0,qzA q c1,qzA q c2,qzA q c3,qzA (xaj _ _) (xaa _ _ _ _ e2 0),qzA (xaj _ _) (xaa _ _ _ _ e2 1),qzA (xaj _ _) (xaa _ _ _ _ e2 2),fun o=>((xaj _ _).frozen (p:=⟨w.heap.size+2,o,none⟩) (by rw[e3];simp)).trans (xam (cur:=#[.slice none 0 0,.slice none 0 0,.int .i64 0]) (t:=25) (xbf _ _ _ e2) o),xaa _ _ _ _ e3 0,xaa _ _ _ _ e3 1,xaa _ _ _ _ e3 2,xaa _ _ _ _ e3 3,xam (cur:=#[.int .i64 0,.int .i64 0,.int .i64 0,.int .i64 0]) (t:=37) (xbf _ _ _ e3),by simp⟩
theorem OwnC.rowIn {w:World}{B:Nat}{xs:List QC}{s:Nat->Nat}(h:OwnC w B xs s xs.length)(hby:xs.length*56<=140737488351232):xaf (fun b=>B<=b/\b<s xs.length) w (.slice (some ⟨B,0,none⟩) xs.length xs.length) xs:=by
 have hB:=h.2.1;have h0n:=h.mono 0 xs.length (by omega) (qzC _)
 refine⟨_,_,rfl,qzC _,by unfold maxLen;omega,hby,fun i x hx=>⟨B,0,rfl,⟨qzC _,by omega⟩,?_⟩⟩
 have hi:=xag hx;have hn:=h.mono (i+1) xs.length (by omega) (qzC _)
 have hk:=h.2.2.2.2 i x hi hx;have hm:=h.mono 0 i (by omega) (by omega)
 obtain⟨g,hg,hlo,hM⟩:=hk.meths;obtain⟨h0,h1,h2,h3,-⟩:=hk;simp only[Nat.zero_add]
 exact⟨h0,h1,h2,h3,_,hg,hM.mono xbn fun b hb=>⟨by have:=hb.1;omega,by have:=hb.2;omega⟩⟩
theorem xmu {P:Nat->Prop}(X:QW)(cv hv:Value)(w:World)(h1:xaf P w cv X.cz)(h2:xaA P w hv X.heap):Calls Tryz.prog 33 #[WV cv hv X.ez] w fun e w'=>∃ g gh sh,e=.returned (WV (.slice (some ⟨g,0,none⟩) X.cz.length X.cz.length) (.slice (some ⟨gh,0,none⟩) X.heap.length X.heap.length) X.ez)/\xaf (fun b=>w.heap.size<=b/\b<gh) w' (.slice (some ⟨g,0,none⟩) X.cz.length X.cz.length) X.cz/\HRow w' gh sh X.heap X.heap.length/\w.heap.size<=gh/\Below w.heap.size w w':=by
 obtain⟨a1,c1,e1,-,-,b1,-⟩:=id h1;refine (xnU X cv hv w h1 h2).mono ?_;rintro e w' ⟨g,gh,s,rfl,hO,⟨sh,hR⟩,hs,hg,hb⟩;have hB:=hO.2.1;have h0n:=hO.mono 0 X.cz.length (by omega) (qzC _)
 exact⟨g,gh,sh,rfl,(hO.rowIn b1).mono xau fun b hb=>⟨by have:=hb.1;omega,by have:=hb.2;omega⟩,hR,by omega,hb⟩
theorem HRow.isHeap {w:World}{g:Nat}{s:Nat->Nat}{xs:List QO}(h:HRow w g s xs xs.length)(hby:xs.length*32<=140737488351232):xaA (fun b=>g<=b) w (.slice (some ⟨g,0,none⟩) xs.length xs.length) xs:=by
 have hT:∀ b,g<=b->b<w.heap.size->(fun b=>if g<=b then 2 else 0) b=2:=fun b hb _=>by simp[hb]
 refine (h.heap hby hT).heap.mono xaz fun b hb=>?_
 have:=hb.2;simp only at this
 split at this
 ·assumption
 ·cases this
section
variable {σ:Type} {L:(Nat->Nat)->World->σ->Nat->Prop} {LF QF:Nat} {lc qc:Array Value}
structure Lok (L:(Nat->Nat)->World->σ->Nat->Prop):Prop where
 keep:∀ {T T':Nat->Nat} {w w':World} {st:σ} {n:Nat} {S:Nat->Prop},L T w st n->Ext T T' w->Kp S T w w'->¬ S 0->¬ S 3->L T' w' st n
 mono:∀ {T:Nat->Nat} {w:World} {st:σ} {n n':Nat},L T w st n->n'<=n->L T w st n'
theorem WiPost.fin (hCx:Lok L){w U:World}{X:QW}{r:Ran × σ}{cv hv:Value}{P:Nat->Prop}{T0 T1:Nat->Nat}{n:Nat}(hk:Kp (fun t=>t=3) T0 w U)(hE:Ext T0 T1 w)(hL:L T1 U r.2 n)(t2:T1 (w.heap.size+2)=4)(t3:T1 (w.heap.size+3)=4)(hC:xaf P U cv X.cz)(hH:xaA P U hv r.1.heap)(h2:¬ P (w.heap.size+2))(h3:¬ P (w.heap.size+3))(hP:∀ x,P x->w.heap.size<=x/\T1 x≠3)(u0 u1 u2 v0 v1 v2 v3:Value) :
  WiPost L T0 w X r (.returned (.tuple #[WV cv hv X.ez,RnV r.1])) (((((((U.setCell ⟨w.heap.size+2,0,none⟩ u0).setCell ⟨w.heap.size+2,1,none⟩ u1).setCell ⟨w.heap.size+2,2,none⟩ u2).setCell ⟨w.heap.size+3,0,none⟩ v0).setCell ⟨w.heap.size+3,1,none⟩ v1).setCell ⟨w.heap.size+3,2,none⟩ v2).setCell ⟨w.heap.size+3,3,none⟩ v3):=by
 have k:Keeps P U (((((((U.setCell ⟨w.heap.size+2,0,none⟩ u0).setCell ⟨w.heap.size+2,1,none⟩ u1).setCell ⟨w.heap.size+2,2,none⟩ u2).setCell ⟨w.heap.size+3,0,none⟩ v0).setCell ⟨w.heap.size+3,1,none⟩ v1).setCell ⟨w.heap.size+3,2,none⟩ v2).setCell ⟨w.heap.size+3,3,none⟩ v3):=xax (xax (xax (xax (xax (xax (xax (Keeps.refl _ _) h2 _) h2 _) h2 _) h3 _) h3 _) h3 _) h3 _;have hn2:¬ w.heap.size+2<w.heap.size:=by omega
 have hn3:¬ w.heap.size+3<w.heap.size:=by omega
 have k4:Kp (fun t=>t=4) T1 U (((((((U.setCell ⟨w.heap.size+2,0,none⟩ u0).setCell ⟨w.heap.size+2,1,none⟩ u1).setCell ⟨w.heap.size+2,2,none⟩ u2).setCell ⟨w.heap.size+3,0,none⟩ v0).setCell ⟨w.heap.size+3,1,none⟩ v1).setCell ⟨w.heap.size+3,2,none⟩ v2).setCell ⟨w.heap.size+3,3,none⟩ v3):=(((((((Kp.refl _ _ _).set (fun _=>t2) _ _).set (fun _=>t2) _ _).set (fun _=>t2) _ _).set (fun _=>t3) _ _).set (fun _=>t3) _ _).set (fun _=>t3) _ _).set (fun _=>t3) _ _
 refine⟨((((((hk.set (fun h=>absurd h hn2) _ _).set (fun h=>absurd h hn2) _ _).set (fun h=>absurd h hn2) _ _).set (fun h=>absurd h hn3) _ _).set (fun h=>absurd h hn3) _ _).set (fun h=>absurd h hn3) _ _).set (fun h=>absurd h hn3) _ _,T1,hE,hCx.mono (hCx.keep hL (.refl _ _) k4 (by omega) (by omega)) (Nat.zero_le _),cv,hv,rfl,hC.keep xau k hP,hH.keep xaz k hP⟩
theorem WiPost.drew (hCx:Lok L){w w':World}{X:QW}{r:Ran × σ}{T0:Nat->Nat}{e:Ending}(h:WiPost L T0 w X r e w'):WiPost L T0 w X r e w'.drew:=by
 obtain⟨hb,T',hE,hL,cv,hv,rfl,h1,h2⟩:=h
 exact⟨hb.drew,T',hE,hCx.keep hL (.refl _ _) (Kp.refl (fun _=>False) _ _).drew id id,cv,hv,rfl,h1.later xau (Below.refl _ _).drew,h2.later xaz (Below.refl _ _).drew⟩
end
theorem xc3 (d:Nat)(t:TypeId)(k:Nat)(c:Array Value)(w:World){a b v}(h:Tryz.prog.underlying t=some (.func a b v)):(Op.equalIn (d+1) t (.func (.func k) #[] c) .nilFunc).run Tryz.prog w=.ok false w:=by
 simp[Op.equalIn,run_underlying h]
theorem xo6 (k:Nat)(c:Array Value)(w:World):(binOp .eql 80 (.func (.func k) #[] c) .nilFunc).run Tryz.prog w=.ok (.bool false) w:=by
 simp only[binOp];have:(Op.equal 80 (.func (.func k) #[] c) .nilFunc).run Tryz.prog w=.ok false w:=xc3 9999 80 k c w Tryz.underlying80
 simp[this]
theorem xo4 (k:Nat)(c:Array Value)(w:World):(binOp .eql 83 (.func (.func k) #[] c) .nilFunc).run Tryz.prog w=.ok (.bool false) w:=by
 simp only[binOp];have:(Op.equal 83 (.func (.func k) #[] c) .nilFunc).run Tryz.prog w=.ok false w:=xc3 9999 83 k c w Tryz.underlying83
 simp[this]
def xkH (T0:Nat->Nat)(n gh mb:Nat):Nat->Nat:=fun x=>if x<n then T0 x else if x<n+4 then 4 else if x<gh then 0 else if x<mb then 2 else 1
structure EeR (w:World)(mb:Nat)(v0 v1:Value)(ep n:Int)(w':World):Prop where
 w0:w'.cell? ⟨w.heap.size,0,none⟩=some v0
 w1:w'.cell? ⟨w.heap.size,1,none⟩=some v1
 w2:w'.cell? ⟨w.heap.size,2,none⟩=some (.int .i64 ep)
 m4:w'.cell? ⟨mb,4,none⟩=some (.int .i64 n)
 lt:w.heap.size+4<=mb
theorem EeR.later {w:World}{mb:Nat}{v0 v1:Value}{ep n:Int}{w' w'':World}(h:EeR w mb v0 v1 ep n w')(hb:Below w'.heap.size w' w''):EeR w mb v0 v1 ep n w'':=⟨qzA hb h.w0,qzA hb h.w1,qzA hb h.w2,qzA hb h.m4,h.lt⟩
theorem EeR.set {w:World}{mb:Nat}{v0 v1:Value}{ep n:Int}{w':World}(h:EeR w mb v0 v1 ep n w'){b:Nat}(hb:b=w.heap.size+2\/b=w.heap.size+3)(o:Nat)(u:Value):EeR w mb v0 v1 ep n (w'.setCell ⟨b,o,none⟩ u):=
 have hl:=h.lt
 ⟨(World.cell?_setCell_far _ _ _ _ (by simp;omega)).trans h.w0,(World.cell?_setCell_far _ _ _ _ (by simp;omega)).trans h.w1,(World.cell?_setCell_far _ _ _ _ (by simp;omega)).trans h.w2,(World.cell?_setCell_far _ _ _ _ (by simp;omega)).trans h.m4,hl⟩
theorem EeR.al {w:World}{mb:Nat}{v0 v1:Value}{ep n:Int}{w':World}(h:EeR w mb v0 v1 ep n w'):w'.cell? ⟨w.heap.size,0,none⟩=some v0/\w'.cell? ⟨w.heap.size,1,none⟩=some v1/\w'.cell? ⟨w.heap.size,2,none⟩=some (.int .i64 ep)/\w'.cell? ⟨mb,4,none⟩=some (.int .i64 n):=⟨h.w0,h.w1,h.w2,h.m4⟩
theorem xl5 {σ:Type}{L:(Nat->Nat)->World->σ->Nat->Prop}{LF QF:Nat}{lc qc:Array Value}{T0:Nat->Nat}(X:QW)(hX:xaW X=0)(E:Env σ)(st0:σ)(hEc:E.cz=X.cz)(s:QV)(name:ByteArray)(args:List QV)(cv hv av:Value)(w:World)(hTo:∀ x,x<w.heap.size->T0 x=0\/T0 x=3)(hC:xaf (Fx T0 w) w cv X.cz)(hH:xaA (Fx T0 w) w hv X.heap)(hA:xaG (Fx T0 w) w av args)(hn:name.size<=140737488351232)(hLo:Lok L)(hL:L T0 w st0 (min E.fuel.toNat 400))(hCx:0<=E.fuel->E.fuel<=400->∀ cv',Cx (⟨E,cv',X.ez,.func (.func LF) #[] lc,.func (.func QF) #[] qc⟩:Mp σ) L LF lc QF qc) :
  Calls Tryz.prog 19 #[WV cv hv X.ez,ClV s name av,.int .i64 E.fuel,.func (.func LF) #[] lc,.func (.func QF) #[] qc] w fun e w'=>WiPost L T0 w X (xio E X st0 s name args E.fuel) e w':=by
 obtain⟨fuel,hfuel⟩:∃ fuel,E.fuel=fuel:=⟨_,rfl⟩;rw[hfuel] at hL ⊢;have HFU:=hid hfuel;clear hfuel;have hR:=xig w cv hv X.ez s name av;have hbW:Below w.heap.size w ((((w.alloc (.cells #[cv,hv,.int .i64 X.ez] 25)).alloc (.cells #[.int .i64 s.k,.int .i64 s.n,.string name,av] 30)).alloc (.cells #[.slice none 0 0,.slice none 0 0,.int .i64 0] 25)).alloc (.cells #[.int .i64 0,.int .i64 0,.int .i64 0,.int .i64 0] 37)):=xae (xbA _ _ _) (xbA _ _ _);obtain⟨ac,cc,hcv,-,-,hby,-⟩:=id hC;obtain⟨ah,ch,hhv,-,-,hbyh,-⟩:=id hH;obtain⟨aa,ca,hav,-⟩:=id hA;subst hcv hhv hav;go_enter Tryz.func19,Tryz.ntmps19
 go_upto_region 1 with (fail)
 generalize ((((w.alloc (.cells #[.slice ac X.cz.length cc,.slice ah X.heap.length ch,.int .i64 X.ez] 25)).alloc (.cells #[.int .i64 s.k,.int .i64 s.n,.string name,.slice aa args.length ca] 30)).alloc (.cells #[.slice none 0 0,.slice none 0 0,.int .i64 0] 25)).alloc (.cells #[.int .i64 0,.int .i64 0,.int .i64 0,.int .i64 0] 37))=W at *;obtain⟨w0,w1,w2,c0,c1,c2,c3,-⟩:=id hR;have hwr:=xk4 X s name args fuel (.slice ac X.cz.length cc) _ _ W ⟨_,_,_,rfl⟩ (hH.later xaz hbW) (hA.later xaS hbW) hn;have HPE:Hid (xio E X st0 s name args fuel=if xap X s name args fuel≠0 then (⟨X.heap,xaY,xap X s name args fuel,0⟩,st0) else (xpt X (xfe E X st0 s name args),(xfe E X st0 s name args).1.st)):=rfl
 have HWI:Hid (xap X s name args fuel=0->(0<=fuel/\fuel<=400)/\xas X.heap.length s=0/\VsOk X.heap.length args):=xeL;obtain⟨ws,hws⟩:∃ ws,xap X s name args fuel=ws:=⟨_,rfl⟩;rw[hws] at hwr HPE HWI;clear hws;go_wp2_with fail;refine hwr.mono ?_;rintro e w1' ⟨rfl,hbv⟩;have hR1:=hR.later hbv;have HB1:=hid (xae hbW hbv);clear w0 w1 w2 c0 c1 c2 c3 hwr hR;have hown:=fun w' (k:Kp (fun t=>t=3) T0 w w')=>xmu X _ _ w' (hC.fx xau (.refl _ _) k (by omega)) (hH.fx xaz (.refl _ _) k (by omega))
 obtain⟨w0,w1,w2,c0,c1,c2,c3,-⟩:=id hR1
 by_cases hz:ws=0
 ·have hz':(ws != 0)=false:=by simpa using hz
  rw[if_neg (by simpa using hz)] at HPE
  obtain⟨hfu,hsl,hvs⟩:=HWI.out hz;clear HWI hz;have hq1:=xo6;have hq2:=xo4;have hsf:∀ (w:World) (a:Addr) (k:Nat) (c:Array Value),(store a (.func (.func k) #[] c)).run Tryz.prog w=stored Tryz.prog w a (.func (.func k) #[] c) .plain:=fun w a k c=>run_store Tryz.prog w a _ _ rfl
  go_wp2_with fail;refine (hown _ (Kp.of_below HB1.out)).mono ?_;rintro e w2' ⟨g,gh,sh,rfl,hCo,hHo,hgh,hbo⟩;have hR2:=hR1.later hbo;have hsz:=hR1.sz;have HB2:=hid (xae HB1.out hbo);clear w0 w1 w2 c0 c1 c2 c3 hR1;have hbM:=xaj w2' (MB (⟨E,.slice (some ⟨g,0,none⟩) X.cz.length X.cz.length,X.ez,.func (.func LF) #[] lc,.func (.func QF) #[] qc⟩:Mp σ) (⟨X.heap,0,0,st0⟩:Mc σ) 0 (.slice (some ⟨gh,0,none⟩) X.heap.length X.heap.length));have hbw3:=xae HB2.out hbM;have hgl:gh<w2'.heap.size:=by obtain⟨cur,h1,-⟩:=hHo.row;exact xai h1
  have hs2:=hbo.size;have TO:∀ x,x<w.heap.size->xkH T0 w.heap.size gh w2'.heap.size x=T0 x:=fun x hx=>by unfold xkH;rw[if_pos hx]
  have T4:∀ i,i<4->xkH T0 w.heap.size gh w2'.heap.size (w.heap.size+i)=4:=fun i hi=>by unfold xkH;rw[if_neg (by omega),if_pos (by omega)]
  have Tc:∀ x,w1'.heap.size<=x->x<gh->xkH T0 w.heap.size gh w2'.heap.size x=0:=fun x h1 h2=>by unfold xkH;rw[if_neg (by omega),if_neg (by omega),if_pos h2]
  have Th:∀ x,gh<=x->x<w2'.heap.size->xkH T0 w.heap.size gh w2'.heap.size x=2:=fun x h1 h2=>by unfold xkH;rw[if_neg (by omega),if_neg (by omega),if_neg (by omega),if_pos h2]
  have Tm:xkH T0 w.heap.size gh w2'.heap.size w2'.heap.size=1:=by unfold xkH;rw[if_neg (by omega),if_neg (by omega),if_neg (by omega),if_neg (by omega)]
  generalize xkH T0 w.heap.size gh w2'.heap.size=Tg at *
  have hM3:MacAt (⟨E,.slice (some ⟨g,0,none⟩) X.cz.length X.cz.length,X.ez,.func (.func LF) #[] lc,.func (.func QF) #[] qc⟩:Mp σ) Tg (w2'.alloc (MB (⟨E,.slice (some ⟨g,0,none⟩) X.cz.length X.cz.length,X.ez,.func (.func LF) #[] lc,.func (.func QF) #[] qc⟩:Mp σ) (⟨X.heap,0,0,st0⟩:Mc σ) 0 (.slice (some ⟨gh,0,none⟩) X.heap.length X.heap.length))) w2'.heap.size ⟨X.heap,0,0,st0⟩ 0 (.slice (some ⟨gh,0,none⟩) X.heap.length X.heap.length) gh sh:=
   ⟨heap_alloc_new w2' _,Tm,(hHo.heap hbyh Th).keep (.refl _ _) (Kp.of_below (S:=fun _=>False) hbM) id,by rw[hEc];exact hCo.keep xau (Keeps.of_below hbM) fun x hx=>⟨by have:=hx.2;simp;omega,Tc x hx.1 hx.2⟩⟩
  have hXt:Ext T0 Tg w:=fun x hx=>TO x hx
  have hkT:Kp (fun _=>False) T0 w (w2'.alloc (MB (⟨E,.slice (some ⟨g,0,none⟩) X.cz.length X.cz.length,X.ez,.func (.func LF) #[] lc,.func (.func QF) #[] qc⟩:Mp σ) (⟨X.heap,0,0,st0⟩:Mc σ) 0 (.slice (some ⟨gh,0,none⟩) X.heap.length X.heap.length))):=Kp.of_below hbw3
  have hLk:L Tg (w2'.alloc (MB (⟨E,.slice (some ⟨g,0,none⟩) X.cz.length X.cz.length,X.ez,.func (.func LF) #[] lc,.func (.func QF) #[] qc⟩:Mp σ) (⟨X.heap,0,0,st0⟩:Mc σ) 0 (.slice (some ⟨gh,0,none⟩) X.heap.length X.heap.length))) st0 (E.fuel-0).toNat:=by
   rw[HFU.out,Int.sub_zero];rw[Nat.min_eq_left (by omega)] at hL
   exact hLo.keep hL hXt hkT id id
  have hA3:=hA.fx xaS hXt hkT id;have hMi:MIn (⟨E,.slice (some ⟨g,0,none⟩) X.cz.length X.cz.length,X.ez,.func (.func LF) #[] lc,.func (.func QF) #[] qc⟩:Mp σ).E (⟨X.heap,0,0,st0⟩:Mc σ):=⟨by show HOk E.cz X.heap;rw[hEc];exact xf7 hX,⟨by simp,by show (0:Int)<=E.fuel;rw[HFU.out];exact hfu.1⟩,by simp⟩
  have hfst:=xlx (hCx (by rw[HFU.out];exact hfu.1) (by rw[HFU.out];exact hfu.2) (.slice (some ⟨g,0,none⟩) X.cz.length X.cz.length)) hM3 hLk hMi s name args _ hsl hvs hA3 (K:=5) (qzC _)
  have hR3:=hR2.later hbM;have HBW3:=hid hbw3;have HCo3:Hid (xaf (fun x=>w1'.heap.size<=x/\x<gh) (w2'.alloc (MB (⟨E,.slice (some ⟨g,0,none⟩) X.cz.length X.cz.length,X.ez,.func (.func LF) #[] lc,.func (.func QF) #[] qc⟩:Mp σ) (⟨X.heap,0,0,st0⟩:Mc σ) 0 (.slice (some ⟨gh,0,none⟩) X.heap.length X.heap.length))) (.slice (some ⟨g,0,none⟩) X.cz.length X.cz.length) X.cz):=hCo.later xau hbM
  clear hM3 hLk hA3 hMi hCo hHo hR2 hbM hbo hL
  have HRE:Hid (xfe E X st0 s name args=xa7 (⟨E,.slice (some ⟨g,0,none⟩) X.cz.length X.cz.length,X.ez,.func (.func LF) #[] lc,.func (.func QF) #[] qc⟩:Mp σ).E 20 ⟨X.heap,0,0,st0⟩ (xaF (⟨E,.slice (some ⟨g,0,none⟩) X.cz.length X.cz.length,X.ez,.func (.func LF) #[] lc,.func (.func QF) #[] qc⟩:Mp σ).E.cz (xav X.heap s) name).1 (xaF (⟨E,.slice (some ⟨g,0,none⟩) X.cz.length X.cz.length,X.ez,.func (.func LF) #[] lc,.func (.func QF) #[] qc⟩:Mp σ).E.cz (xav X.heap s) name).2 s args):=by
   show xfe E X st0 s name args=xa7 E 20 ⟨X.heap,0,0,st0⟩ (xaF E.cz (xav X.heap s) name).1 (xaF E.cz (xav X.heap s) name).2 s args
   rw[hEc];rfl
  rw[← HRE.out] at hfst;clear HRE;obtain⟨R,hRn⟩:∃ R,xfe E X st0 s name args=R:=⟨_,rfl⟩;rw[hRn] at hfst HPE;clear hRn;obtain⟨rm,v,er⟩:=R;unfold xpt at HPE;simp only at HPE;obtain⟨V3,hV3⟩:∃ V3,V3=w2'.alloc (MB (⟨E,.slice (some ⟨g,0,none⟩) X.cz.length X.cz.length,X.ez,.func (.func LF) #[] lc,.func (.func QF) #[] qc⟩:Mp σ) (⟨X.heap,0,0,st0⟩:Mc σ) 0 (.slice (some ⟨gh,0,none⟩) X.heap.length X.heap.length)):=⟨_,rfl⟩;rw[← hV3] at hfst hR3 HBW3 HCo3;have hV3':(w2'.alloc (.cells #[.slice (some ⟨g,0,none⟩) X.cz.length X.cz.length,.slice (some ⟨gh,0,none⟩) X.heap.length X.heap.length,.int .i64 X.ez,.int .i64 fuel,.int .i64 0,.int .i64 0,.int .i64 0,.func (.func LF) #[] lc,.func (.func QF) #[] qc] 105))=V3:=by rw[hV3,← HFU.out]
  have hz3:w2'.heap.size<V3.heap.size:=by rw[hV3];simp
  clear hV3
  go_upto_region 9 with (fail)
  try rw[hV3']
  clear hV3';obtain⟨w0,w1,w2,c0,c1,c2,c3,-⟩:=id hR3;have HMB:Hid (w2'.heap.size<V3.heap.size):=hz3;clear hz3 hq1 hq2 hsf;generalize w2'.heap.size=mb at *;go_wp2_with fail;refine hfst.mono ?_;rintro e w4 ⟨rfl,⟨T4',hX4,⟨hv4,g4,s4,hM4⟩,hL4⟩,hK4⟩;simp only at hM4 hL4;have hR4:=hR3.kp hK4 (fun i hi=>by rw[T4 i hi];unfold All;omega)
  have HB4:Hid (Kp (fun t=>t=3) T0 w w4):=⟨hK4.os.trans HBW3.out.os,hK4.tape.trans HBW3.out.tape,hK4.output.trans HBW3.out.output,qzD HBW3.out.size hK4.size,fun x hx hs=>(hK4.blk x (qzE hx HBW3.out.size) (by rw[TO x hx];have:=hTo x hx;unfold All;omega)).trans (HBW3.out.block x hx)⟩
  have HX4:Hid (Ext T0 T4' w):=hXt.trans HBW3.out.size hX4;have HL4:=hid hL4;have t42:T4' (w.heap.size+2)=4:=by rw[hX4 _ (by have:=hR3.sz;omega)];exact T4 2 (by omega)
  have t43:T4' (w.heap.size+3)=4:=by rw[hX4 _ (by have:=hR3.sz;omega)];exact T4 3 (by omega)
  have hlm4:mb<w4.heap.size:=xai hM4.box;have hmw:w.heap.size+4<=mb:=by omega
  have HCo4:Hid (xaf (fun x=>(T4' x=0\/T4' x=2)/\w.heap.size<=x) w4 (.slice (some ⟨g,0,none⟩) X.cz.length X.cz.length) X.cz):=HCo3.out.keep xau (Keeps.of_block fun x hx hl=>hK4.blk x hl (by rw[Tc x hx.1 hx.2];unfold All;omega)) fun x hx=>⟨Or.inl (by rw[hX4 x (by have:=HMB.out;have:=hx.2;omega),Tc x hx.1 hx.2]),by have:=hx.1;omega⟩
  have TZ:Hid (∀ x,x<w.heap.size->T4' x=0\/T4' x=3):=fun x hx=>by rw[hX4 x (qzE hx HBW3.out.size),TO x hx];exact hTo x hx
  clear hfst w0 w1 w2 c0 c1 c2 c3 hR3 hX4 hK4 HCo3 TO T4 Tc Th Tm hL4 hXt hkT;have hbv4:=xaj w4 (.cells #[.int .i64 v.k,.int .i64 v.n] 27);have hM5:=hM4.later hbv4;have HCo5:=hid (HCo4.out.later xau hbv4);have hR5:=hR4.later hbv4;have HB5:=hid (HB4.out.on hbv4);have HL5:=hid (hLo.keep HL4.out (.refl _ _) (Kp.of_below (S:=fun _=>False) hbv4) id id)
  have v0:(w4.alloc (.cells #[.int .i64 v.k,.int .i64 v.n] 27)).cell? ⟨w4.heap.size,0,none⟩=some (.int .i64 v.k):=xaa _ _ _ _ rfl 0;have v1:(w4.alloc (.cells #[.int .i64 v.k,.int .i64 v.n] 27)).cell? ⟨w4.heap.size,1,none⟩=some (.int .i64 v.n):=xaa _ _ _ _ rfl 1;have hsz4:=hR4.sz
  go_upto_region 10 with (fail)
  clear hM4 hR4 hbv4;generalize hv4z:w4.heap.size=vb at *;generalize (w4.alloc (.cells #[.int .i64 v.k,.int .i64 v.n] 27))=V5 at *
  by_cases he:er=0
  ·have he':(er != 0)=false:=by simpa using he
   rw[if_neg (by simpa using he)] at HPE
   clear he;obtain⟨cap4,hv4e,-⟩:=hM5.heap.form;have m0:V5.cell? ⟨mb,0,none⟩=some (.slice (some ⟨g,0,none⟩) X.cz.length X.cz.length):=hM5.c0;have m1:=hM5.c1;have m2:V5.cell? ⟨mb,2,none⟩=some (.int .i64 X.ez):=hM5.c2;have m4:=hM5.c4;rw[hv4e] at m1;have HQ:=hid fun u0 u1 u2 v0 v1 v2 v3=>WiPost.fin hLo (r:=(⟨rm.heap,v,0,rm.sz_⟩,rm.st)) (P:=fun x=>(T4' x=0\/T4' x=2)/\w.heap.size<=x) HB5.out HX4.out HL5.out t42 t43 HCo5.out (hM5.heap.heap.mono xaz fun x hx=>⟨Or.inr hx.2,Nat.le_of_not_lt fun hl=>by have:=TZ.out x hl;rw[hx.2] at this;omega⟩) (fun h=>by have:=h.1;rw[t42] at this;omega) (fun h=>by have:=h.1;rw[t43] at this;omega) (fun x hx=>⟨hx.2,by have:=hx.1;omega⟩) u0 u1 u2 v0 v1 v2 v3
   rw[hv4e] at HQ;obtain⟨w0,w1,w2,c0,c1,c2,c3,a0,a1,a2,af,b0,b1,b2,b3,bf,-⟩:=id hR5;have n1:¬ mb=w.heap.size+2:=by omega
   have n2:¬ mb=w.heap.size+3:=by omega
   have n3:¬ w.heap.size+2=mb:=by omega
   have n4:¬ w.heap.size+3=mb:=by omega
   have n5:¬ vb=w.heap.size+2:=by omega
   have n6:¬ vb=w.heap.size+3:=by omega
   have n7:¬ w.heap.size+2=vb:=by omega
   have n8:¬ w.heap.size+3=vb:=by omega
   clear hM5 hR5 hv4e;simp only[Nat.add_assoc,Nat.reduceAdd] at *;go_wp2
   go_region
   all_goals (
    go_wp2;rw[HPE.out];refine bodyPost_ret (v:=.tuple #[WV (.slice (some ⟨g,0,none⟩) X.cz.length X.cz.length) (.slice (some ⟨g4,0,none⟩) rm.heap.length cap4) X.ez,RnV ⟨rm.heap,v,0,rm.sz_⟩]) ?_ rfl ((HQ.out _ _ _ _ _ _ _).drew hLo)
    simp[results,Tryz.results19,go_sem,a0,a1,a2,b0,b1,b2,b3])
  ·have he':(er != 0)=true:=by simpa using he
   rw[if_pos (by simpa using he)] at HPE
   clear he;have m4:=hM5.c4;have hownD:=hown V5.drew HB5.out.drew;have hS0:EeR w mb (.slice ac X.cz.length cc) (.slice ah X.heap.length ch) X.ez rm.sz_ V5.drew:=⟨hR5.w0,hR5.w1,hR5.w2,m4,by omega⟩
   have hRd:=hR5.later (Below.refl _ V5).drew;have HB6:=hid HB5.out.drew;have HX6:Hid (Ext T0 (xay T4' V5.drew 4) w):=HX4.out.trans HB6.out.size (xan T4' V5.drew 4);have HL6:Hid (L (xay T4' V5.drew 4) V5.drew rm.st _):=hLo.keep HL5.out (fun x hx=>xan T4' V5.drew 4 x hx) (Kp.refl (fun _=>False) _ _).drew id id
   have t62:xay T4' V5.drew 4 (w.heap.size+2)=4:=by rw[xan T4' V5.drew 4 _ (by have:=hRd.sz;omega)];exact t42
   have t63:xay T4' V5.drew 4 (w.heap.size+3)=4:=by rw[xan T4' V5.drew 4 _ (by have:=hRd.sz;omega)];exact t43
   have hV5z:w.heap.size+4<=V5.drew.heap.size:=hRd.sz;clear hM5 hR5 m4;simp only[Nat.add_assoc,Nat.reduceAdd] at *;go_wp2
   go_region_held3 (fun w'=>w'.cell? ⟨w.heap.size,0,none⟩=some (.slice ac X.cz.length cc)/\w'.cell? ⟨w.heap.size,1,none⟩=some (.slice ah X.heap.length ch)/\w'.cell? ⟨w.heap.size,2,none⟩=some (.int .i64 X.ez)/\w'.cell? ⟨mb,4,none⟩=some (.int .i64 rm.sz_))
    (first | with_reducible exact hS0.al | with_reducible exact hY.al | with_reducible exact (((hY.set (Or.inl rfl) _ _).set (Or.inl rfl) _ _).set (Or.inl rfl) _ _).al | with_reducible exact (((((((hY.set (Or.inl rfl) _ _).set (Or.inl rfl) _ _).set (Or.inl rfl) _ _).set (Or.inr rfl) _ _).set (Or.inr rfl) _ _).set (Or.inr rfl) _ _).set (Or.inr rfl) _ _).al | with_reducible exact ((((hY.set (Or.inr rfl) _ _).set (Or.inr rfl) _ _).set (Or.inr rfl) _ _).set (Or.inr rfl) _ _).al)
    (first | (go_at_call 33;refine hownD.mono ?_;rintro e w6 ⟨g',gh',sh',rfl,hCo,hHo,hgh',hbo⟩;have hY:=hS0.later hbo;have HQ:=hid (fun u0 u1 u2 v0 v1 v2 v3=>WiPost.fin hLo (r:=(⟨X.heap,xaY,er,rm.sz_⟩,rm.st)) (P:=fun b=>V5.drew.heap.size<=b) (HB6.out.on hbo) HX6.out (hLo.keep HL6.out (.refl _ _) (Kp.of_below (S:=fun _=>False) hbo) id id) t62 t63 (hCo.mono xau fun b h=>h.1) ((hHo.isHeap hbyh).mono xaz fun b h=>qzD hgh' h) (by omega) (by omega) (fun x hx=>⟨by omega,by rw[xaC hx];omega⟩) u0 u1 u2 v0 v1 v2 v3);obtain⟨-,-,-,-,-,-,-,a0,a1,a2,af,b0,b1,b2,b3,bf,-⟩:=id (hRd.later hbo);clear hCo hHo))
   all_goals (
    go_wp2;rw[HPE.out];refine bodyPost_ret (v:=.tuple #[WV (.slice (some ⟨g',0,none⟩) X.cz.length X.cz.length) (.slice (some ⟨gh',0,none⟩) X.heap.length X.heap.length) X.ez,RnV ⟨X.heap,xaY,er,rm.sz_⟩]) ?_ rfl (HQ.out _ _ _ _ _ _ _)
    simp[results,Tryz.results19,go_sem,a0,a1,a2,b0,b1,b2,b3])
 ·have hz':(ws != 0)=true:=by simpa using hz
  rw[if_pos (by simpa using hz)] at HPE
  clear HWI hz;go_wp2_with fail;refine (hown _ (Kp.of_below HB1.out)).mono ?_;rintro e w2' ⟨g,gh,sh,rfl,hCo,hHo,hgh,hbo⟩;have hR2:=hR1.later hbo;have hsz:=hR1.sz;have HQ:=hid fun u0 u1 u2 v0 v1 v2 v3=>WiPost.fin hLo (r:=(⟨X.heap,xaY,ws,0⟩,st0)) (P:=fun b=>w1'.heap.size<=b) (Kp.of_below (xae HB1.out hbo)) (xan T0 w 4) (hLo.keep hL (xan T0 w 4) (Kp.of_below (S:=fun _=>False) (xae HB1.out hbo)) id id) (xaC (by omega)) (xaC (by omega)) (hCo.mono xau fun b h=>h.1) ((hHo.isHeap hbyh).mono xaz fun b h=>by omega) (by omega) (by omega) (fun x hx=>⟨by omega,by rw[xaC (by omega)];omega⟩) u0 u1 u2 v0 v1 v2 v3
  clear w0 w1 w2 c0 c1 c2 c3 hCo hHo hown;obtain⟨w0,w1,w2,c0,c1,c2,c3,a0,a1,a2,af,b0,b1,b2,b3,bf,-⟩:=id hR2;go_wp2;rw[HPE.out];refine bodyPost_ret (v:=.tuple #[WV (.slice (some ⟨g,0,none⟩) X.cz.length X.cz.length) (.slice (some ⟨gh,0,none⟩) X.heap.length X.heap.length) X.ez,RnV ⟨X.heap,xaY,ws,0⟩]) ?_ rfl (HQ.out _ _ _ _ _ _ _)
  simp[results,Tryz.results19,go_sem,a0,a1,a2,b0,b1,b2,b3]
theorem xlQ {fn:Nat}{f:Func}(hf:Tryz.prog.funcs[fn]?=some f)(hn:(f.name == "runtime.NumGoroutine")=false)(hb:f.body.isSome=true)(args:Array Value)(w:World):(callFunc fn args).run Tryz.prog w=.ok (.enter fn args) w:=by
 have h1:¬ f.name = "runtime.NumGoroutine" := by simpa using hn
 have h2:¬ f.body=none:=by intro h;rw[h] at hb;cases hb
 simp[callFunc,hf,h1,h2]
theorem xkr {X:QW}(h:xaW X=0){c n:Int}{m:QM}(hm:xaJ X.cz c n=some m):m.code.length<=60:=by
 obtain⟨hs,-,hk,-⟩:=xcg h;obtain⟨kc,kn,x,rfl,rfl,hx,hxm⟩:=xgF hm;have h1:=hk kc x (xag hx) hx;unfold rkE at h1
 split at h1
 ·cases h1
 ·split at h1
  ·cases h1
  ·have h2:=xbE h1 kn m hxm;unfold rmE at h2
   split at h2
   ·cases h2
   ·split at h2
    ·rename_i hp
     have:m.code.length=0:=by
      unfold xfS at hp;rw[List.any_eq_true] at hp;obtain⟨p,-,hp⟩:=hp
      simp at hp
      simp[hp]
     omega
    ·unfold xdB at h2
     split at h2
     ·rename_i hw;exact absurd h2 hw
     ·rename_i hw;have:=xja (by simpa using hw)
      omega
def PlPost (w:World)(X:QW)(r:Ran)(e:Ending)(w':World):Prop:=
 Below w.heap.size w w'/\∃ cv hv,e=.returned (.tuple #[WV cv hv X.ez,RnV r])/\xaf (fun b=>w.heap.size<=b) w' cv X.cz/\xaA (fun b=>w.heap.size<=b) w' hv r.heap
theorem WiPost.plain {σ:Type}{L:(Nat->Nat)->World->σ->Nat->Prop}{w w':World}{X:QW}{r:Ran × σ}{e:Ending}(h:WiPost L (fun _=>0) w X r e w'):PlPost w X r.1 e w':=by
 obtain⟨hk,T',-,-,cv,hv,rfl,h1,h2⟩:=h
 exact⟨hk.below (fun b _=>by omega) (qzC _),cv,hv,rfl,h1.mono xau fun b h=>h.1,h2.mono xaz fun b h=>h.1⟩
theorem PlPost.fin {w U:World}{X:QW}{r:Ran}{cv hv:Value}{P:Nat->Prop}(hb:Below w.heap.size w U)(hC:xaf P U cv X.cz)(hH:xaA P U hv r.heap)(h2:¬ P (w.heap.size+2))(h3:¬ P (w.heap.size+3))(hP:∀ x,P x->w.heap.size<=x)(u0 u1 u2 v0 v1 v2 v3:Value) :
  PlPost w X r (.returned (.tuple #[WV cv hv X.ez,RnV r])) (((((((U.setCell ⟨w.heap.size+2,0,none⟩ u0).setCell ⟨w.heap.size+2,1,none⟩ u1).setCell ⟨w.heap.size+2,2,none⟩ u2).setCell ⟨w.heap.size+3,0,none⟩ v0).setCell ⟨w.heap.size+3,1,none⟩ v1).setCell ⟨w.heap.size+3,2,none⟩ v2).setCell ⟨w.heap.size+3,3,none⟩ v3):=by
 have k:Keeps P U (((((((U.setCell ⟨w.heap.size+2,0,none⟩ u0).setCell ⟨w.heap.size+2,1,none⟩ u1).setCell ⟨w.heap.size+2,2,none⟩ u2).setCell ⟨w.heap.size+3,0,none⟩ v0).setCell ⟨w.heap.size+3,1,none⟩ v1).setCell ⟨w.heap.size+3,2,none⟩ v2).setCell ⟨w.heap.size+3,3,none⟩ v3):=xax (xax (xax (xax (xax (xax (xax (Keeps.refl _ _) h2 _) h2 _) h2 _) h3 _) h3 _) h3 _) h3 _;refine⟨((((((hb.setCell (by simp) _).setCell (by simp) _).setCell (by simp) _).setCell (by simp) _).setCell (by simp) _).setCell (by simp) _).setCell (by simp) _,cv,hv,rfl,hC.keep xau k hP,hH.keep xaz k hP⟩
structure PnR (w:World)(cv hv:Value)(ep:Int)(s:QV)(name:ByteArray)(av:Value)(w':World):Prop where
 w0:w'.cell? ⟨w.heap.size,0,none⟩=some cv
 w1:w'.cell? ⟨w.heap.size,1,none⟩=some hv
 w2:w'.cell? ⟨w.heap.size,2,none⟩=some (.int .i64 ep)
 c0:w'.cell? ⟨w.heap.size+1,0,none⟩=some (.int .i64 s.k)
 c1:w'.cell? ⟨w.heap.size+1,1,none⟩=some (.int .i64 s.n)
 c2:w'.cell? ⟨w.heap.size+1,2,none⟩=some (.string name)
 c3:w'.cell? ⟨w.heap.size+1,3,none⟩=some av
theorem PnR.set {w:World}{cv hv:Value}{ep:Int}{s:QV}{name:ByteArray}{av:Value}{w':World}(h:PnR w cv hv ep s name av w'){b:Nat}(hb:b=w.heap.size+2\/b=w.heap.size+3)(o:Nat)(u:Value):PnR w cv hv ep s name av (w'.setCell ⟨b,o,none⟩ u):=
 ⟨(World.cell?_setCell_far _ _ _ _ (by simp;omega)).trans h.w0,(World.cell?_setCell_far _ _ _ _ (by simp;omega)).trans h.w1,(World.cell?_setCell_far _ _ _ _ (by simp;omega)).trans h.w2,(World.cell?_setCell_far _ _ _ _ (by simp;omega)).trans h.c0,(World.cell?_setCell_far _ _ _ _ (by simp;omega)).trans h.c1,(World.cell?_setCell_far _ _ _ _ (by simp;omega)).trans h.c2,(World.cell?_setCell_far _ _ _ _ (by simp;omega)).trans h.c3⟩
theorem PnR.al {w:World}{cv hv:Value}{ep:Int}{s:QV}{name:ByteArray}{av:Value}{w':World}(h:PnR w cv hv ep s name av w'):w'.cell? ⟨w.heap.size,0,none⟩=some cv/\w'.cell? ⟨w.heap.size,1,none⟩=some hv/\w'.cell? ⟨w.heap.size,2,none⟩=some (.int .i64 ep)/\w'.cell? ⟨w.heap.size+1,0,none⟩=some (.int .i64 s.k)/\w'.cell? ⟨w.heap.size+1,1,none⟩=some (.int .i64 s.n)/\w'.cell? ⟨w.heap.size+1,2,none⟩=some (.string name)/\w'.cell? ⟨w.heap.size+1,3,none⟩=some av:=⟨h.w0,h.w1,h.w2,h.c0,h.c1,h.c2,h.c3⟩
theorem WtR.pn {w:World}{cv hv:Value}{ep:Int}{s:QV}{name:ByteArray}{av:Value}{w':World}(h:WtR w cv hv ep s name av w'):PnR w cv hv ep s name av w':=⟨h.w0,h.w1,h.w2,h.c0,h.c1,h.c2,h.c3⟩
theorem xhH (X:QW)(b:Nat)(cv hv:Value):Lok (LkP X b cv hv):=⟨fun h e k h0 _=>h.keep e k h0,fun h _=>⟨h.tag,h.lt,h.w0,h.w1,h.w2,h.cls,h.heap⟩⟩
theorem xiD {α:Type}(p:α->Bool)(xs:List α):xcv p xs=-1\/∃ (j:Nat) (x:α),xcv p xs=(j:Int)/\xs[j]?=some x/\p x=true/\∀ i y,i<j->xs[i]?=some y->p y=false:=by
 unfold xcv
 cases h:xs.findIdx? p with
 | none=>left;rfl
 | some j=>
  right
  rw[List.findIdx?_eq_some_iff_getElem] at h;obtain⟨hj,hp,hn⟩:=h;refine⟨j,xs[j],rfl,by simp[hj],hp,fun i y hi hy=>?_⟩
  have:=hn i hi;rw[List.getElem?_eq_getElem (by omega)] at hy
  cases hy
  simpa using this
def xaH (xs:List QT)(s:QS):List QL:=(xs.filter fun t=>eqS t.site s).flatMap (·.lz)
theorem xhU (xs:List QT)(s:QS)(x:QT):xaH (xs++[x]) s=xaH xs s++if eqS x.site s then x.lz else []:=by
 unfold xaH;rw[List.filter_append,List.flatMap_append]
 by_cases h:eqS x.site s<;>simp[List.filter_cons,h]
theorem xeE {xs:List QT}{j:Nat}{x:QT}(hx:xs[j]?=some x)(s:QS):xaH (xs.take (j+1)) s=xaH (xs.take j) s++if eqS x.site s then x.lz else []:=by
 have hj:=xag hx;rw[List.take_succ_eq_append_getElem hj,xhU];rw[List.getElem?_eq_getElem hj] at hx
 cases hx
 rfl
theorem xhQ {α:Type}{xs:List α}{j:Nat}{x:α}(hx:xs[j]?=some x):xs.take (j+1)=xs.take j++[x]:=by
 have hj:=xag hx;rw[List.take_succ_eq_append_getElem hj];rw[List.getElem?_eq_getElem hj] at hx
 cases hx
 rfl
theorem xll {P:Nat->Prop}{w:World}{v:Value}{ls:List QL}(h:xej P w v ls):xej (fun b=>b<w.heap.size) w v ls:=by
 obtain⟨ad,cap,h1,h2,h3,h4,h5⟩:=h;refine⟨ad,cap,h1,h2,h3,h4,fun i x hx=>?_⟩
 obtain⟨b,o,e,-,hE⟩:=h5 i x hx
 exact⟨b,o,e,World.block_lt_of_cell? _ _ hE.1,hE⟩
theorem xe0 {P:Nat->Prop}{w:World}{v:Value}{xs:List QT}(h:xbq P w v xs):xbq (fun b=>b<w.heap.size) w v xs:=by
 obtain⟨ad,cap,h1,h2,h3,h4,h5⟩:=h;refine⟨ad,cap,h1,h2,h3,h4,fun i x hx=>?_⟩
 obtain⟨b,o,e,-,k0,k1,k2,lv,k3,kl⟩:=h5 i x hx
 exact⟨b,o,e,World.block_lt_of_cell? _ _ k0,k0,k1,k2,lv,k3,xll kl⟩
theorem xjH {P:Nat->Prop}(I:List QL->World->Prop)(m:Nat)(cap':Value)(xs:List QT)(s:QS)(v:Value)(w:World)(hI:I [] w)(hm:m<w.heap.size)(hPm:∀ b,P b->b≠m)
  (hX:∀ l w',I l w'->xbq P w' v xs) (hL:∀ l w' w'',I l w'->Below w'.heap.size w' w''->I l w'')
  (hF:∀ l x w',I l w'->Calls Tryz.prog 88 #[LV x,cap'] w' fun e w''=>e=.returned (.tuple #[])/\I (l++[x]) w''/\Keeps (fun b=>b≠m) w' w''/\w'.heap.size<=w''.heap.size) :
  Calls Tryz.prog 87 #[v,SV s,.func (.func 88) #[] #[cap']] w fun e w'=>e=.returned (.tuple #[])/\I (xaH xs s) w':=by
 obtain⟨ad,cap,rfl,hl,hcap,-,-⟩:=id (hX _ _ hI);unfold maxLen at hcap;have hs0:=xfo w s 63;have hI0:=hL _ _ _ hI (xaj w (.cells #[.int .i64 s.cls,.string s.name,.int .i64 s.at'] 63));have hsz0:w.heap.size<(w.alloc (.cells #[.int .i64 s.cls,.string s.name,.int .i64 s.at'] 63)).heap.size:=by simp
 clear hI;go_enter Tryz.func87,Tryz.ntmps87;go_wp2
 go_loopg [12] xs.length (fun g c wr=>∃ j:Nat,j+g=xs.length/\c=.int .i64 j/\I (xaH (xs.take j) s) wr/\SiteAt wr w.heap.size s/\w.heap.size<wr.heap.size)
 case atStart=>exact⟨0,by omega,rfl,hI0,hs0,hsz0⟩
 case round=>
  obtain⟨j,hj,rfl,hIj,hsj,hzj⟩:=hrel;clear hI0 hs0 hsz0
  by_cases hlt:j<xs.length
  ·obtain⟨ad',cap'',e',-,-,-,hrow⟩:=hX _ _ hIj;simp only[Value.slice.injEq] at e';obtain⟨rfl,-,-⟩:=e';obtain⟨b,o,rfl,-,v0,v1,v2,sv,v3,hsl⟩:=hrow j xs[j] (by simp[hlt])
   have hxj:Hid (xs[j]?=some xs[j]):=by show _=_;simp[hlt]
   generalize xs[j]=x at *;have HT:Hid (xaH (xs.take (j+1)) s=xaH (xs.take j) s++if eqS x.site s then x.lz else []):=xeE hxj.out s;simp only[Nat.add_zero] at v0;obtain⟨ad2,cap2,rfl,hl2,hcap2,-,-⟩:=id hsl;unfold maxLen at hcap2;obtain⟨s0,s1,s2⟩:=id hsj;have s0':=fun y=>qzA (xaj wr y) s0
   have s1':=fun y=>qzA (xaj wr y) s1
   have s2':=fun y=>qzA (xaj wr y) s2
   have he:=fun w=>neqS x.site s w
   clear hrow s0 s1 s2;have hj1:(j:Int)<(xs.length:Int):=by omega
   have hj0:(0:Int)<=(j:Int):=by omega
   have hbx:=xaj wr (Obj.cells #[Value.int .i64 x.site.cls,Value.string x.site.name,Value.int .i64 x.site.at',Value.slice ad2 x.lz.length cap2] 68);have hzx:(wr.alloc (Obj.cells #[Value.int .i64 x.site.cls,Value.string x.site.name,Value.int .i64 x.site.at',Value.slice ad2 x.lz.length cap2] 68)).heap.size=wr.heap.size+1:=by simp
   by_cases hp:eqS x.site s=true
   ·have hp':(!eqS x.site s)=false:=by simp[hp]
    have HT':Hid (xaH (xs.take (j+1)) s=xaH (xs.take j) s++x.lz):=by show _=_;rw[HT.out,if_pos hp]
    rw[hp'] at he;clear hp hp';have hIx:=hL _ _ _ hIj hbx;have hsx:=hsj.later hbx;have hslx:=hsl.later xfR hbx;go_wp2;generalize (wr.alloc (Obj.cells #[Value.int .i64 x.site.cls,Value.string x.site.name,Value.int .i64 x.site.at',Value.slice ad2 x.lz.length cap2] 68))=W1 at *;clear he s0' s1' s2' v0 v1 v2 v3 hIj hsj hsl
    go_loopg [23] x.lz.length (fun g c ws=>∃ q:Nat,q+g=x.lz.length/\c=.int .i64 q/\I (xaH (xs.take j) s++x.lz.take q) ws/\SiteAt ws w.heap.size s/\xej P ws (.slice ad2 x.lz.length cap2) x.lz/\w.heap.size<ws.heap.size)
    case atStart=>exact⟨0,by omega,rfl,by simpa using hIx,hsx,hslx,by omega⟩
    case round=>
     obtain⟨q,hq,rfl,hIq,hsq,hlq,hzq⟩:=hrel;clear hIx hsx hslx
     by_cases hltq:q<x.lz.length
     ·obtain⟨ad3,cap3,e3,-,-,-,hrow3⟩:=id hlq;simp only[Value.slice.injEq] at e3;obtain⟨rfl,-,-⟩:=e3;obtain⟨b3,o3,rfl,-,y0,y1⟩:=hrow3 q x.lz[q] (by simp[hltq])
      have hyq:Hid (x.lz[q]?=some x.lz[q]):=by show _=_;simp[hltq]
      generalize x.lz[q]=y at *;simp only[Nat.add_zero] at y0;have hq1:(q:Int)<(x.lz.length:Int):=by omega
      have hq0:(0:Int)<=(q:Int):=by omega
      have hby:=xaj wr (Obj.cells #[Value.int .i64 y.cls,Value.int .i64 y.found] 65);have hIy:=hL _ _ _ hIq hby;have hsy:=hsq.later hby;clear hrow3;go_wp2_with fail;refine (hF _ y _ hIy).mono ?_;rintro e w1 ⟨rfl,hI1,hK1,hz1⟩;have hz1':wr.heap.size+1<=w1.heap.size:=by simpa using hz1
      go_wp2
      go_roundg (gk-1)
      case measure=>omega
      case rel=>
       have hmw:w.heap.size≠m:=by omega
       refine⟨q+1,by omega,by go_num,?_,?_,?_,by omega⟩
       ·rw[xhQ hyq.out,← List.append_assoc];exact hI1
       ·exact⟨hK1 _ _ _ hmw hsy.c0,hK1 _ _ _ hmw hsy.c1,hK1 _ _ _ hmw hsy.c2⟩
       ·exact (hlq.later xfR hby).keep xfR (hK1.mono hPm) fun _ h=>h
     ·obtain rfl:q=x.lz.length:=by omega
      go_wp2
      go_roundg (xs.length-(j+1))
      case measure=>omega
      case rel=>
       rw[List.take_of_length_le (qzC _)] at hIq
       exact⟨j+1,by omega,by go_num,by rw[HT'.out];exact hIq,hsq,hzq⟩
   ·have hp1:eqS x.site s=false:=by simpa using hp
    have hp':(!eqS x.site s)=true:=by simp[hp1]
    have HT':Hid (xaH (xs.take (j+1)) s=xaH (xs.take j) s):=by show _=_;rw[HT.out,if_neg (by simp[hp1])];simp
    rw[hp'] at he;clear hp hp' hp1;go_wp2
    go_roundg (gk-1)
    case measure=>omega
    case rel=>exact⟨j+1,by omega,by go_num,by rw[HT'.out];exact hL _ _ _ hIj hbx,hsj.later hbx,by omega⟩
  ·obtain rfl:j=xs.length:=by omega
   go_wp2;refine bodyPost_end (v:=.tuple #[]) (by simp[results,Tryz.results87,go_sem]) rfl ⟨rfl,?_⟩
   rw[List.take_of_length_le (qzC _)] at hIj
   exact hIj
theorem xke {P:Nat->Prop}(I:List QL->World->Prop)(m:Nat)(cap':Value)(xs:List QT)(s:QS)(v:Value)(w:World)(hI:I [] w)(hm:m<w.heap.size)(hPm:∀ b,P b->b≠m)
  (hX:∀ l w',I l w'->xbq P w' v xs) (hL:∀ l w' w'',I l w'->Below w'.heap.size w' w''->I l w'')
  (hF:∀ l x w',I l w'->Calls Tryz.prog 89 #[LV x,cap'] w' fun e w''=>e=.returned (.tuple #[])/\I (l++[x]) w''/\Keeps (fun b=>b≠m) w' w''/\w'.heap.size<=w''.heap.size) :
  Calls Tryz.prog 87 #[v,SV s,.func (.func 89) #[] #[cap']] w fun e w'=>e=.returned (.tuple #[])/\I (xaH xs s) w':=by
 obtain⟨ad,cap,rfl,hl,hcap,-,-⟩:=id (hX _ _ hI);unfold maxLen at hcap;have hs0:=xfo w s 63;have hI0:=hL _ _ _ hI (xaj w (.cells #[.int .i64 s.cls,.string s.name,.int .i64 s.at'] 63));have hsz0:w.heap.size<(w.alloc (.cells #[.int .i64 s.cls,.string s.name,.int .i64 s.at'] 63)).heap.size:=by simp
 clear hI;go_enter Tryz.func87,Tryz.ntmps87;go_wp2
 go_loopg [12] xs.length (fun g c wr=>∃ j:Nat,j+g=xs.length/\c=.int .i64 j/\I (xaH (xs.take j) s) wr/\SiteAt wr w.heap.size s/\w.heap.size<wr.heap.size)
 case atStart=>exact⟨0,by omega,rfl,hI0,hs0,hsz0⟩
 case round=>
  obtain⟨j,hj,rfl,hIj,hsj,hzj⟩:=hrel;clear hI0 hs0 hsz0
  by_cases hlt:j<xs.length
  ·obtain⟨ad',cap'',e',-,-,-,hrow⟩:=hX _ _ hIj;simp only[Value.slice.injEq] at e';obtain⟨rfl,-,-⟩:=e';obtain⟨b,o,rfl,-,v0,v1,v2,sv,v3,hsl⟩:=hrow j xs[j] (by simp[hlt])
   have hxj:Hid (xs[j]?=some xs[j]):=by show _=_;simp[hlt]
   generalize xs[j]=x at *;have HT:Hid (xaH (xs.take (j+1)) s=xaH (xs.take j) s++if eqS x.site s then x.lz else []):=xeE hxj.out s;simp only[Nat.add_zero] at v0;obtain⟨ad2,cap2,rfl,hl2,hcap2,-,-⟩:=id hsl;unfold maxLen at hcap2;obtain⟨s0,s1,s2⟩:=id hsj;have s0':=fun y=>qzA (xaj wr y) s0
   have s1':=fun y=>qzA (xaj wr y) s1
   have s2':=fun y=>qzA (xaj wr y) s2
   have he:=fun w=>neqS x.site s w
   clear hrow s0 s1 s2;have hj1:(j:Int)<(xs.length:Int):=by omega
   have hj0:(0:Int)<=(j:Int):=by omega
   have hbx:=xaj wr (Obj.cells #[Value.int .i64 x.site.cls,Value.string x.site.name,Value.int .i64 x.site.at',Value.slice ad2 x.lz.length cap2] 68);have hzx:(wr.alloc (Obj.cells #[Value.int .i64 x.site.cls,Value.string x.site.name,Value.int .i64 x.site.at',Value.slice ad2 x.lz.length cap2] 68)).heap.size=wr.heap.size+1:=by simp
   by_cases hp:eqS x.site s=true
   ·have hp':(!eqS x.site s)=false:=by simp[hp]
    have HT':Hid (xaH (xs.take (j+1)) s=xaH (xs.take j) s++x.lz):=by show _=_;rw[HT.out,if_pos hp]
    rw[hp'] at he;clear hp hp';have hIx:=hL _ _ _ hIj hbx;have hsx:=hsj.later hbx;have hslx:=hsl.later xfR hbx;go_wp2;generalize (wr.alloc (Obj.cells #[Value.int .i64 x.site.cls,Value.string x.site.name,Value.int .i64 x.site.at',Value.slice ad2 x.lz.length cap2] 68))=W1 at *;clear he s0' s1' s2' v0 v1 v2 v3 hIj hsj hsl
    go_loopg [23] x.lz.length (fun g c ws=>∃ q:Nat,q+g=x.lz.length/\c=.int .i64 q/\I (xaH (xs.take j) s++x.lz.take q) ws/\SiteAt ws w.heap.size s/\xej P ws (.slice ad2 x.lz.length cap2) x.lz/\w.heap.size<ws.heap.size)
    case atStart=>exact⟨0,by omega,rfl,by simpa using hIx,hsx,hslx,by omega⟩
    case round=>
     obtain⟨q,hq,rfl,hIq,hsq,hlq,hzq⟩:=hrel;clear hIx hsx hslx
     by_cases hltq:q<x.lz.length
     ·obtain⟨ad3,cap3,e3,-,-,-,hrow3⟩:=id hlq;simp only[Value.slice.injEq] at e3;obtain⟨rfl,-,-⟩:=e3;obtain⟨b3,o3,rfl,-,y0,y1⟩:=hrow3 q x.lz[q] (by simp[hltq])
      have hyq:Hid (x.lz[q]?=some x.lz[q]):=by show _=_;simp[hltq]
      generalize x.lz[q]=y at *;simp only[Nat.add_zero] at y0;have hq1:(q:Int)<(x.lz.length:Int):=by omega
      have hq0:(0:Int)<=(q:Int):=by omega
      have hby:=xaj wr (Obj.cells #[Value.int .i64 y.cls,Value.int .i64 y.found] 65);have hIy:=hL _ _ _ hIq hby;have hsy:=hsq.later hby;clear hrow3;go_wp2_with fail;refine (hF _ y _ hIy).mono ?_;rintro e w1 ⟨rfl,hI1,hK1,hz1⟩;have hz1':wr.heap.size+1<=w1.heap.size:=by simpa using hz1
      go_wp2
      go_roundg (gk-1)
      case measure=>omega
      case rel=>
       have hmw:w.heap.size≠m:=by omega
       refine⟨q+1,by omega,by go_num,?_,?_,?_,by omega⟩
       ·rw[xhQ hyq.out,← List.append_assoc];exact hI1
       ·exact⟨hK1 _ _ _ hmw hsy.c0,hK1 _ _ _ hmw hsy.c1,hK1 _ _ _ hmw hsy.c2⟩
       ·exact (hlq.later xfR hby).keep xfR (hK1.mono hPm) fun _ h=>h
     ·obtain rfl:q=x.lz.length:=by omega
      go_wp2
      go_roundg (xs.length-(j+1))
      case measure=>omega
      case rel=>
       rw[List.take_of_length_le (qzC _)] at hIq
       exact⟨j+1,by omega,by go_num,by rw[HT'.out];exact hIq,hsq,hzq⟩
   ·have hp1:eqS x.site s=false:=by simpa using hp
    have hp':(!eqS x.site s)=true:=by simp[hp1]
    have HT':Hid (xaH (xs.take (j+1)) s=xaH (xs.take j) s):=by show _=_;rw[HT.out,if_neg (by simp[hp1])];simp
    rw[hp'] at he;clear hp hp' hp1;go_wp2
    go_roundg (gk-1)
    case measure=>omega
    case rel=>exact⟨j+1,by omega,by go_num,by rw[HT'.out];exact hL _ _ _ hIj hbx,hsj.later hbx,by omega⟩
  ·obtain rfl:j=xs.length:=by omega
   go_wp2;refine bodyPost_end (v:=.tuple #[]) (by simp[results,Tryz.results87,go_sem]) rfl ⟨rfl,?_⟩
   rw[List.take_of_length_le (qzC _)] at hIj
   exact hIj
theorem xfz (w:World)(cs:Array Value)(t:TypeId)(n j:Nat)(hn:w.heap.size=n):(w.alloc (.cells cs t)).frozen? ⟨n,j,none⟩=false:=by
 subst hn;unfold World.frozen?;rw[show (w.alloc (.cells cs t)).heap[(⟨w.heap.size,j,none⟩:Addr).block]?=some (.cells cs t) from heap_alloc_new w _]
 simp
def xdt (ls:List QL):Int:=ls.foldl (fun n x=>wrap64 (n+x.found)) 0
theorem xg7 (l:List QL)(x:QL):xdt (l++[x])=wrap64 (xdt l+x.found):=by simp[xdt]
theorem xlO (x:QL)(b:Nat)(n:Int)(w:World)(hc:w.cell? ⟨b,0,none⟩=some (.int .i64 n))(hf:w.frozen? ⟨b,0,none⟩=false):Calls Tryz.prog 88 #[LV x,.pointer (some ⟨b,0,none⟩)] w fun e w'=>e=.returned (.tuple #[])/\Below w.heap.size (w.setCell ⟨b,0,none⟩ (.int .i64 (wrap64 (n+x.found)))) w':=by
 have hbl:=World.block_lt_of_cell? _ _ hc;have k:=fun y=>qzA (xaj w y) hc
 have kf:=fun y=>((xaj w y).frozen (p:=⟨b,0,none⟩) hbl).trans hf
 go_enter Tryz.func88,Tryz.ntmps88;go_wp2;refine bodyPost_end (v:=.tuple #[]) (by simp[results,Tryz.results88,go_sem]) rfl ⟨rfl,by simpa using xaj (w.setCell ⟨b,0,none⟩ (.int .i64 (wrap64 (n+x.found)))) _⟩
structure AllI (w:World)(v:Value)(xs:List QT)(m:Nat)(val:List QL->Int)(l:List QL)(w':World):Prop where
 bel:Below w.heap.size w w'
 there:m<w'.heap.size
 tal:xbq (fun b=>b<w.heap.size) w' v xs
 cell:w'.cell? ⟨m,0,none⟩=some (.int .i64 (val l))
 fz:w'.frozen? ⟨m,0,none⟩=false
theorem AllI.later {w:World}{v:Value}{xs:List QT}{m:Nat}{val:List QL->Int}{l:List QL}{w' w'':World}(h:AllI w v xs m val l w')(hb:Below w'.heap.size w' w''):AllI w v xs m val l w'':=
 ⟨xae h.bel hb,qzE h.there hb.size,h.tal.later xeo hb,qzA hb h.cell,(hb.frozen (p:=⟨m,0,none⟩) h.there).trans h.fz⟩
theorem xot {P:Nat->Prop}(xs:List QT)(s:QS)(v:Value)(w:World)(hh:xbq P w v xs):Calls Tryz.prog 67 #[v,SV s] w fun e w'=>e=.returned (.int .i64 (xdt (xaH xs s)))/\Below w.heap.size w w':=by
 have hm:=hmf;have ho:=xe0 hh;obtain⟨ad,cap,rfl,-,-,-,-⟩:=id hh;have hb2:=xbA w (.cells #[.int .i64 s.cls,.string s.name,.int .i64 s.at'] 63) (.cells #[.int .i64 0] 3)
 have hI:AllI w (.slice ad xs.length cap) xs (w.heap.size+1) xdt [] ((w.alloc (.cells #[.int .i64 s.cls,.string s.name,.int .i64 s.at'] 63)).alloc (.cells #[.int .i64 0] 3)):=
  ⟨hb2,by simp,ho.later xeo hb2,by rw[xaa _ _ _ _ (by simp)];rfl,xfz _ _ _ _ _ (by simp)⟩
 have hs:=(xfo w s 63).later (xaj _ (.cells #[.int .i64 0] 3));obtain⟨s0,s1,s2⟩:=hs;go_enter Tryz.func67,Tryz.ntmps67;go_wp2_with fail;refine (xjH (P:=fun b=>b<w.heap.size) (AllI w (.slice ad xs.length cap) xs (w.heap.size+1) xdt) (w.heap.size+1) _ xs s _ _ hI (by simp) (fun b hb=>by omega) (fun l w' h=>h.tal) (fun l w' w'' h hb=>h.later hb) fun l x w' h=>?_).mono ?_
 ·refine (xlO x _ _ w' h.cell h.fz).mono ?_;rintro e w'' ⟨rfl,hb⟩;have hb':Below (w'.setCell ⟨w.heap.size+1,0,none⟩ (.int .i64 (wrap64 (xdt l+x.found)))).heap.size (w'.setCell ⟨w.heap.size+1,0,none⟩ (.int .i64 (wrap64 (xdt l+x.found)))) w'':=by simpa using hb
  refine⟨rfl,AllI.later ⟨h.bel.setCell (by simp) _,by simpa using h.there,h.tal.keep xeo (Keeps.of_setCell (by simp) _) (fun _ h=>h),?_,?_⟩ hb',?_,?_⟩
  ·rw[xg7];exact xbP h.cell _
  ·simpa using h.fz
  ·exact (Keeps.of_setCell (by simp) _).trans (Keeps.of_below hb')
  ·simpa using hb.size
 ·rintro e w1 ⟨rfl,hI1⟩;have k:=hI1.cell;go_wp2
  go_ret
  exact⟨rfl,hI1.bel⟩
def xbw (p:QL)(x:QL):QL:=if x.found>p.found\/(x.found>0/\x.found=p.found/\x.cls<p.cls) then x else p
def xc8 (ls:List QL):QL:=ls.foldl xbw ⟨-1,0⟩
theorem xgp (l:List QL)(x:QL):xc8 (l++[x])=xbw (xc8 l) x:=by simp[xc8]
structure MostP (w:World)(b:Nat)(q:QL)(w':World):Prop where
 bel:Below b w w'
 keep:Keeps (fun k=>k≠b) w w'
 c0:w'.cell? ⟨b,0,none⟩=some (.int .i64 q.cls)
 c1:w'.cell? ⟨b,1,none⟩=some (.int .i64 q.found)
 fz:∀ o,w'.frozen? ⟨b,o,none⟩=false
theorem MostP.same {w:World}{b:Nat}{p:QL}(h0:w.cell? ⟨b,0,none⟩=some (.int .i64 p.cls))(h1:w.cell? ⟨b,1,none⟩=some (.int .i64 p.found))(hf:∀ o,w.frozen? ⟨b,o,none⟩=false){w':World}(hb:Below w.heap.size w w'):MostP w b p w':=by
 have hbl:=World.block_lt_of_cell? _ _ h0;have hbl':b<w.heap.size:=hbl
 exact⟨hb.mono (by omega),.of_below hb,qzA hb h0,qzA hb h1,fun o=>(hb.frozen (p:=⟨b,o,none⟩) hbl).trans (hf o)⟩
theorem MostP.set {w:World}{b:Nat}{p x:QL}(h0:w.cell? ⟨b,0,none⟩=some (.int .i64 p.cls))(h1:w.cell? ⟨b,1,none⟩=some (.int .i64 p.found))(hf:∀ o,w.frozen? ⟨b,o,none⟩=false){w':World}(hb:Below w.heap.size ((w.setCell ⟨b,0,none⟩ (.int .i64 x.cls)).setCell ⟨b,1,none⟩ (.int .i64 x.found)) w'):MostP w b x w':=by
 have hbl':b<w.heap.size:=World.block_lt_of_cell? _ _ h0;have hb':Below ((w.setCell ⟨b,0,none⟩ (.int .i64 x.cls)).setCell ⟨b,1,none⟩ (.int .i64 x.found)).heap.size ((w.setCell ⟨b,0,none⟩ (.int .i64 x.cls)).setCell ⟨b,1,none⟩ (.int .i64 x.found)) w':=by simpa using hb
 have c0:((w.setCell ⟨b,0,none⟩ (.int .i64 x.cls)).setCell ⟨b,1,none⟩ (.int .i64 x.found)).cell? ⟨b,0,none⟩=some (.int .i64 x.cls):=by
  rw[World.cell?_setCell_other _ _ _ _ (by intro e;injection e with _ e2 _;omega)]
  exact xbP h0 _
 have c1:((w.setCell ⟨b,0,none⟩ (.int .i64 x.cls)).setCell ⟨b,1,none⟩ (.int .i64 x.found)).cell? ⟨b,1,none⟩=some (.int .i64 x.found):=by
  refine xbP (v:=.int .i64 p.found) ?_ _;rw[World.cell?_setCell_other _ _ _ _ (by intro e;injection e with _ e2 _;omega)]
  exact h1
 have fz:∀ o,((w.setCell ⟨b,0,none⟩ (.int .i64 x.cls)).setCell ⟨b,1,none⟩ (.int .i64 x.found)).frozen? ⟨b,o,none⟩=false:=fun o=>by simpa using hf o
 have:=MostP.same c0 c1 fz hb'
 exact⟨(((Below.refl b w).setCell (qzC _) _).setCell (qzC _) _).trans this.bel,((Keeps.of_setCell (by simp) _).trans (Keeps.of_setCell (by simp) _)).trans this.keep,this.c0,this.c1,this.fz⟩
theorem xj1 (x p:QL)(b:Nat)(w:World)(h0:w.cell? ⟨b,0,none⟩=some (.int .i64 p.cls))(h1:w.cell? ⟨b,1,none⟩=some (.int .i64 p.found))(hf:∀ o,w.frozen? ⟨b,o,none⟩=false):Calls Tryz.prog 89 #[LV x,.pointer (some ⟨b,0,none⟩)] w fun e w'=>e=.returned (.tuple #[])/\MostP w b (xbw p x) w':=by
 have hbl:b<w.heap.size:=World.block_lt_of_cell? _ _ h0;have k0:=fun y=>qzA (xaj w y) h0
 have k1:=fun y=>qzA (xaj w y) h1
 have kf:=fun y o=>((xaj w y).frozen (p:=⟨b,o,none⟩) hbl).trans (hf o)
 by_cases hA:p.found<x.found
 ·have HM:Hid (xbw p x=x):=by show _=_;unfold xbw;rw[if_pos (Or.inl hA)]
  have hd:decide (p.found<x.found)=true:=by simpa using hA
  go_enter Tryz.func89,Tryz.ntmps89;go_wp2;refine bodyPost_end (v:=.tuple #[]) (by simp[results,Tryz.results89,go_sem]) rfl ⟨rfl,?_⟩
  rw[HM.out]
  exact MostP.set h0 h1 hf (by simpa using xaj ((w.setCell ⟨b,0,none⟩ (.int .i64 x.cls)).setCell ⟨b,1,none⟩ (.int .i64 x.found)) _)
 ·have hdA:decide (p.found<x.found)=false:=by simpa using hA
  by_cases hB:0<x.found
  ·have hdB:decide (0<x.found)=true:=by simpa using hB
   by_cases hC:x.found=p.found
   ·by_cases hD:x.cls<p.cls
    ·have HM:Hid (xbw p x=x):=by show _=_;unfold xbw;rw[if_pos (Or.inr ⟨hB,hC,hD⟩)]
     have hdD:decide (x.cls<p.cls)=true:=by simpa using hD
     have hdC:(x.found == p.found)=true:=by simpa using hC
     go_enter Tryz.func89,Tryz.ntmps89;go_wp2;refine bodyPost_end (v:=.tuple #[]) (by simp[results,Tryz.results89,go_sem]) rfl ⟨rfl,?_⟩
     rw[HM.out]
     first
     | exact MostP.set h0 h1 hf (by simpa using xaj ((w.setCell ⟨b,0,none⟩ (.int .i64 x.cls)).setCell ⟨b,1,none⟩ (.int .i64 x.found)) _)
     | exact MostP.set h0 h1 hf (by simpa [hC] using xaj ((w.setCell ⟨b,0,none⟩ (.int .i64 x.cls)).setCell ⟨b,1,none⟩ (.int .i64 x.found)) _)
    ·have HM:Hid (xbw p x=p):=by show _=_;unfold xbw;rw[if_neg (by omega)]
     have hdD:decide (x.cls<p.cls)=false:=by simpa using hD
     have hdC:(x.found == p.found)=true:=by simpa using hC
     go_enter Tryz.func89,Tryz.ntmps89;go_wp2;refine bodyPost_end (v:=.tuple #[]) (by simp[results,Tryz.results89,go_sem]) rfl ⟨rfl,?_⟩
     rw[HM.out]
     exact MostP.same h0 h1 hf (xaj _ _)
   ·have HM:Hid (xbw p x=p):=by show _=_;unfold xbw;rw[if_neg (by omega)]
    have hdC:(x.found == p.found)=false:=by simpa using hC
    go_enter Tryz.func89,Tryz.ntmps89;go_wp2;refine bodyPost_end (v:=.tuple #[]) (by simp[results,Tryz.results89,go_sem]) rfl ⟨rfl,?_⟩
    rw[HM.out]
    exact MostP.same h0 h1 hf (xaj _ _)
  ·have HM:Hid (xbw p x=p):=by show _=_;unfold xbw;rw[if_neg (by omega)]
   have hdB:decide (0<x.found)=false:=by simpa using hB
   go_enter Tryz.func89,Tryz.ntmps89;go_wp2;refine bodyPost_end (v:=.tuple #[]) (by simp[results,Tryz.results89,go_sem]) rfl ⟨rfl,?_⟩
   rw[HM.out]
   exact MostP.same h0 h1 hf (xaj _ _)
structure MostI (w:World)(v:Value)(xs:List QT)(m:Nat)(l:List QL)(w':World):Prop where
 bel:Below w.heap.size w w'
 there:m<w'.heap.size
 tal:xbq (fun b=>b<w.heap.size) w' v xs
 c0:w'.cell? ⟨m,0,none⟩=some (.int .i64 (xc8 l).cls)
 c1:w'.cell? ⟨m,1,none⟩=some (.int .i64 (xc8 l).found)
 fz:∀ o,w'.frozen? ⟨m,o,none⟩=false
theorem MostI.later {w:World}{v:Value}{xs:List QT}{m:Nat}{l:List QL}{w' w'':World}(h:MostI w v xs m l w')(hb:Below w'.heap.size w' w''):MostI w v xs m l w'':=
 ⟨xae h.bel hb,qzE h.there hb.size,h.tal.later xeo hb,qzA hb h.c0,qzA hb h.c1,fun o=>(hb.frozen (p:=⟨m,o,none⟩) h.there).trans (h.fz o)⟩
theorem xm0 {P:Nat->Prop}(xs:List QT)(s:QS)(v:Value)(w:World)(hh:xbq P w v xs):Calls Tryz.prog 68 #[v,SV s] w fun e w'=>e=.returned (.tuple #[.int .i64 (xc8 (xaH xs s)).cls,.int .i64 (xc8 (xaH xs s)).found])/\Below w.heap.size w w':=by
 have hm:=hmf;have ho:=xe0 hh;obtain⟨ad,cap,rfl,-,-,-,-⟩:=id hh;have hb2:=xbA w (.cells #[.int .i64 s.cls,.string s.name,.int .i64 s.at'] 63) (.cells #[.int .i64 (-1),.int .i64 0] 65)
 have hI:MostI w (.slice ad xs.length cap) xs (w.heap.size+1) [] ((w.alloc (.cells #[.int .i64 s.cls,.string s.name,.int .i64 s.at'] 63)).alloc (.cells #[.int .i64 (-1),.int .i64 0] 65)):=
  ⟨hb2,by simp,ho.later xeo hb2,by rw[xaa _ _ _ _ (by simp)];rfl,by rw[xaa _ _ _ _ (by simp)];rfl,fun o=>xfz _ _ _ _ _ (by simp)⟩
 have hs:=(xfo w s 63).later (xaj _ (.cells #[.int .i64 (-1),.int .i64 0] 65));obtain⟨s0,s1,s2⟩:=hs;go_enter Tryz.func68,Tryz.ntmps68;go_wp2_with fail;refine (xke (P:=fun b=>b<w.heap.size) (MostI w (.slice ad xs.length cap) xs (w.heap.size+1)) (w.heap.size+1) _ xs s _ _ hI (by simp) (fun b hb=>by omega) (fun l w' h=>h.tal) (fun l w' w'' h hb=>h.later hb) fun l x w' h=>?_).mono ?_
 ·refine (xj1 x (xc8 l) _ w' h.c0 h.c1 h.fz).mono ?_;rintro e w'' ⟨rfl,hp⟩;refine⟨rfl,⟨h.bel.trans (hp.bel.mono (by omega)),qzE h.there hp.bel.size,h.tal.keep xeo (hp.keep.mono (fun b hb=>by omega)) (fun _ h=>h),?_,?_,hp.fz⟩,hp.keep,hp.bel.size⟩
  ·rw[xgp];exact hp.c0
  ·rw[xgp];exact hp.c1
 ·rintro e w1 ⟨rfl,hI1⟩;have k0:=hI1.c0;have k1:=hI1.c1;go_wp2
  go_quiet (fail)
  go_wp2
  go_ret2
  exact⟨rfl,below_drewN hI1.bel _⟩
def xcD (i:QI):Bool:=i.op == 14 || i.op == 13
def xdl (m:QM):Bool:=m.prim == 0 && !m.code.any xcD
theorem xjI (x:QI)(w:World):Calls Tryz.prog 86 #[IV x] w fun e w'=>e=.returned (.bool (xcD x))/\Below w.heap.size w w':=by
 by_cases h:x.op=14
 ·have hd:(x.op == 14)=true:=by simpa using h
  have HS:Hid (xcD x=true):=by show _=_;simp[xcD,h]
  clear h;go_enter Tryz.func86,Tryz.ntmps86;go_wp2
  go_ret
  exact⟨xbv HS.out.symm,xaj _ _⟩
 ·have hd:(x.op == 14)=false:=by simpa using h
  have HS:Hid (xcD x=(x.op == 13)):=by show _=_;simp[xcD,h]
  clear h;go_enter Tryz.func86,Tryz.ntmps86;go_wp2
  go_ret
  exact⟨xbv HS.out.symm,xaj _ _⟩
theorem xjL {P:Nat->Prop}(xs:List QI)(v:Value)(w:World)(hh:xaK P w v xs) :
  Calls Tryz.prog 96 #[v,.func (.func 86) #[] #[]] w fun e w'=>e=.returned (.int .i64 (xcv xcD xs))/\Below w.heap.size w w':=by
 obtain⟨ad,cap,rfl,hl,hcap,hby,hrow⟩:=hh;go_enter Tryz.func96,Tryz.ntmps96;go_wp2
 go_loopg [8] xs.length (fun g c wr=>∃ j:Nat,j+g=xs.length/\c=.int .i64 j/\Below w.heap.size w wr/\∀ i y,i<j->xs[i]?=some y->xcD y=false)
 case atStart=>exact⟨0,by omega,rfl,Below.refl _ _,fun i y hi=>by omega⟩
 case round=>
  obtain⟨j,hj,rfl,hbel,hno⟩:=hrel;have HN:Hid (∀ i y,i<j->xs[i]?=some y->xcD y=false):=hno;clear hno
  by_cases hlt:j<xs.length
  ·obtain⟨b,o,rfl,-,hv0,hv1,hv2,hv3,hv4,hsz⟩:=hrow j xs[j] (by simp[hlt])
   have hxj:Hid (xs[j]?=some xs[j]):=by show _=_;simp[hlt]
   generalize xs[j]=x at *;simp only[Nat.add_zero] at hv0;have u0:=qzA hbel hv0;have u1:=qzA hbel hv1;have u2:=qzA hbel hv2;have u3:=qzA hbel hv3;have u4:=qzA hbel hv4;clear hv0 hv1 hv2 hv3 hv4 hrow;have hj1:(j:Int)<(xs.length:Int):=by omega
   have hj0:(0:Int)<=(j:Int):=by omega
   go_wp2_with fail;refine (xjI x _).mono ?_;rintro e w1 ⟨rfl,hb⟩
   by_cases hp:xcD x=true
   ·go_wp2
    go_ret
    exact⟨xal (xeY hxj.out hp HN.out).symm,xae hbel hb⟩
   ·have hp':xcD x=false:=by simpa using hp
    clear hp;go_wp2
    go_roundg (gk-1)
    case measure=>omega
    case rel=>
     refine⟨j+1,by omega,by go_num,xae hbel hb,fun i y hi hy=>?_⟩
     by_cases hij:i=j
     ·subst hij;rw[hxj.out] at hy;cases hy;exact hp'
     ·exact HN.out i y (by omega) hy
  ·obtain rfl:j=xs.length:=by omega
   go_wp2
   go_ret
   exact⟨xal (xds fun i y hy=>HN.out i y (xag hy) hy).symm,hbel⟩
theorem xkD {α:Type}(p:α->Bool)(xs:List α):decide (0<=xcv p xs)=xs.any p:=by
 unfold xcv
 cases h:xs.findIdx? p with
 | none=>
  rw[List.findIdx?_eq_none_iff] at h
  have:xs.any p=false:=by
   rw[List.any_eq_false];intro x hx
   simp[h x hx]
  simp[this]
 | some j=>
  rw[List.findIdx?_eq_some_iff_getElem] at h;obtain⟨h1,h2,-⟩:=h
  have:xs.any p=true:=by
   rw[List.any_eq_true]
   exact⟨_,List.getElem_mem h1,h2⟩
  rw[this]
  simp
theorem xg2 {P:Nat->Prop}(xs:List QI)(v:Value)(w:World)(hh:xaK P w v xs) :
  Calls Tryz.prog 85 #[v,.func (.func 86) #[] #[]] w fun e w'=>e=.returned (.bool (xs.any xcD))/\Below w.heap.size w w':=by
 go_enter Tryz.func85,Tryz.ntmps85;go_wp2_with fail;refine (xjL xs v _ hh).mono ?_;rintro e w1 ⟨rfl,hb⟩;go_wp2
 go_ret
 exact⟨xbv (xkD xcD xs),hb⟩
theorem xi5 {P:Nat->Prop}(x:QM)(v:Value)(w:World)(hh:xaK P w v x.code):Calls Tryz.prog 64 #[MV x v] w fun e w'=>e=.returned (.bool (xdl x))/\Below w.heap.size w w':=by
 obtain⟨ad,cap,rfl,-⟩:=id hh
 by_cases h:x.prim=0
 ·have hd:(x.prim == 0)=true:=by simpa using h
  have HS:Hid (xdl x=!x.code.any xcD):=by show _=_;simp[xdl,h]
  clear h;go_enter Tryz.func64,Tryz.ntmps64;go_wp2_with fail;refine (xg2 x.code _ _ (hh.later xaV (xaj _ _))).mono ?_;rintro e w1 ⟨rfl,hb⟩;go_wp2
  go_ret
  exact⟨xbv HS.out.symm,xdA (Below.refl _ _) hb⟩
 ·have hd:(x.prim == 0)=false:=by simpa using h
  have HS:Hid (xdl x=false):=by show _=_;simp[xdl,h]
  clear h;go_enter Tryz.func64,Tryz.ntmps64;go_wp2
  go_ret
  exact⟨xbv HS.out.symm,xaj _ _⟩
end Go.Proofs.YtaodadfahifbpaaGreat
