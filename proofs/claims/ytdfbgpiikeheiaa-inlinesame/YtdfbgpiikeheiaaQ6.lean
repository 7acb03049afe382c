/- A part. -/
import Derived.Test.YtdfbgpiikeheiaaQ5
namespace Go.Proofs.Ytdfbgpiikeheiaa
open Go.ChangeShapes Go.WideShapes Go.ChangeAt Go.RowKit
set_option linter.unusedSimpArgs false
set_option linter.unusedVariables false
set_option maxHeartbeats 8000000
set_option maxRecDepth 8000
theorem xsl (s:ByteArray)(w:World)(hs:s.size<=140737488351232):Calls Try.prog 57 #[.string s] w fun e w'=>e=.returned (.bool (xbr s))/\Below w.heap.size w w':=by
 by_cases h0:s.size<1
 ·have h0':(s.size:Int)<1:=by omega
  have hn:xbr s=false:=by simp[xbr];omega
  rw[hn];go_enter Try.func57,Try.ntmps57;go_wp2
  go_ret
  exact⟨rfl,qzL _ _⟩
 ·have h0':(1:Int)<=(s.size:Int):=by omega
  by_cases h1:12<s.size
  ·have h1':(12:Int)<(s.size:Int):=by omega
   have hn:xbr s=false:=by simp[xbr];omega
   rw[hn];go_enter Try.func57,Try.ntmps57;go_wp2
   go_ret
   exact⟨rfl,qzL _ _⟩
  ·have h1':(s.size:Int)<=12:=by omega
   have HN:Hid (xbr s=okB s):=by show _=_;unfold xbr;rw[decide_eq_true (by omega)];rfl
   go_enter Try.func57,Try.ntmps57;go_wp2
   go_loopg [14] s.size (fun g c wr=>∃ j:Nat,j+g=s.size/\c=.int .i64 j/\wr=w/\∀ i (hi:i<s.size),i<j->33<=s[i].toNat/\s[i].toNat<=126)
   case atStart=>exact⟨0,by omega,rfl,rfl,fun i _ hi=>by omega⟩
   case round=>
    obtain⟨j,hj,rfl,rfl,hok⟩:=hrel;have HO:Hid (∀ i (hi:i<s.size),i<j->33<=s[i].toNat/\s[i].toNat<=126):=hok;clear hok
    by_cases hlt:j<s.size
    ·have hj0:(0:Int)<=(j:Int):=by omega
     have hj1:(j:Int)<(s.size:Int):=by omega
     by_cases c1:s[j].toNat<=32
     ·have hn:Hid (okB s=false):=xg6 hlt (by omega)
      have c1':((s[j].toNat:Nat):Int)<=32:=by omega
      go_wp2
      go_ret
      exact⟨xby (by rw[HN.out,hn.out]),qzL _ _⟩
     ·have c1':(32:Int)<((s[j].toNat:Nat):Int):=by omega
      by_cases c2:126<s[j].toNat
      ·have hn:Hid (okB s=false):=xg6 hlt (by omega)
       have c2':(126:Int)<((s[j].toNat:Nat):Int):=by omega
       go_wp2
       go_ret
       exact⟨xby (by rw[HN.out,hn.out]),qzL _ _⟩
      ·have c2':((s[j].toNat:Nat):Int)<=126:=by omega
       have HT:Hid (33<=s[j].toNat/\s[j].toNat<=126):=by constructor<;>omega
       clear c1 c2;go_wp2
       go_roundg (gk-1)
       case measure=>omega
       case rel=>
        refine⟨j+1,by omega,by go_num,rfl,fun i hi hij=>?_⟩
        by_cases he:i=j
        ·subst he;exact HT.out
        ·exact HO.out i hi (by omega)
    ·go_wp2
     go_ret
     exact⟨xby (by rw[HN.out,xjA fun i hi=>HO.out i hi (by omega)]),qzL _ _⟩
theorem xdH {α:Type}{E:Lay α}{sz bytes:Nat}{P:Nat->Prop}{w:World}{v:Value}{xs:List α}(h:IsRow E sz bytes P w v xs)(hE:∀ f x,E P w f x->E (fun b=>b<w.heap.size) w f x/\∃ u,f 0=some u):IsRow E sz bytes (fun b=>b<w.heap.size) w v xs:=by
 obtain⟨ad,cap,h1,h2,h3,h4,h5⟩:=h;refine⟨ad,cap,h1,h2,h3,h4,fun i x hx=>?_⟩
 obtain⟨b,o,e1,e2,e3⟩:=h5 i x hx;obtain⟨k1,u,k2⟩:=hE _ _ e3
 exact⟨b,o,e1,World.block_lt_of_cell? w _ k2,k1⟩
theorem xg3 {P:Nat->Prop}{w:World}{v:Value}{xs:List QI}(h:xaR P w v xs):xaR (fun b=>b<w.heap.size) w v xs:=xdH h fun f x hx=>⟨hx,_,hx.1⟩
theorem xfh {P:Nat->Prop}{w:World}{v:Value}{xs:List QV}(h:xaO P w v xs):xaO (fun b=>b<w.heap.size) w v xs:=xdH h fun f x hx=>⟨hx,_,hx.1⟩
theorem xjI {P:Nat->Prop}{w:World}{v:Value}{xs:List QM}(h:xbm P w v xs):xbm (fun b=>b<w.heap.size) w v xs:=xdH h fun f x hx=>by
 obtain⟨h0,h1,h2,h3,h4,c,h5,h6⟩:=hx
 exact⟨⟨h0,h1,h2,h3,h4,c,h5,xg3 h6⟩,_,h0⟩
theorem xca {P:Nat->Prop}{w:World}{v:Value}{xs:List QC}(h:xai P w v xs):xai (fun b=>b<w.heap.size) w v xs:=xdH h fun f x hx=>by
 obtain⟨h0,h1,h2,h3,c,h5,h6⟩:=hx
 exact⟨⟨h0,h1,h2,h3,c,h5,xjI h6⟩,_,h0⟩
theorem xc8 {P:Nat->Prop}{w:World}{v:Value}{xs:List QO}(h:xaD P w v xs):xaD (fun b=>b<w.heap.size) w v xs:=xdH h fun f x hx=>by
 obtain⟨h0,c,h5,h6⟩:=hx
 exact⟨⟨h0,c,h5,xfh h6⟩,_,h0⟩
abbrev ClV (s:QV)(name:ByteArray)(av:Value):Value:=.agg #[.int .i64 s.k,.int .i64 s.n,.string name,av]
theorem xds {α:Type}{f:Nat->α->Int}:∀ {l:List α} {k:Nat},(∀ i y,l[i]?=some y->f (k+i) y=0)->xbo f k l=0
 | [],_,_=>rfl
 | x :: r,k,h=>by
  unfold xbo;rw[if_neg (by have:=h 0 x rfl;simpa using this)]
  exact xds fun i y hy=>by have:=h (i+1) y (by simpa using hy);rw[show k+1+i=k+(i+1) by omega];exact this
structure WcR (w:World)(cv hv:Value)(ep:Int)(s:QV)(name:ByteArray)(av:Value)(w':World):Prop where
 bel:Below w.heap.size w w'
 w0:w'.cell? ⟨w.heap.size,0,none⟩=some cv
 w1:w'.cell? ⟨w.heap.size,1,none⟩=some hv
 w2:w'.cell? ⟨w.heap.size,2,none⟩=some (.int .i64 ep)
 c0:w'.cell? ⟨w.heap.size+1,0,none⟩=some (.int .i64 s.k)
 c1:w'.cell? ⟨w.heap.size+1,1,none⟩=some (.int .i64 s.n)
 c2:w'.cell? ⟨w.heap.size+1,2,none⟩=some (.string name)
 c3:w'.cell? ⟨w.heap.size+1,3,none⟩=some av
theorem WcR.later {w:World}{cv hv:Value}{ep:Int}{s:QV}{name:ByteArray}{av:Value}{w' w'':World}(h:WcR w cv hv ep s name av w')(hb:Below w'.heap.size w' w''):WcR w cv hv ep s name av w'':=
 ⟨xaf h.bel hb,qzA hb h.w0,qzA hb h.w1,qzA hb h.w2,qzA hb h.c0,qzA hb h.c1,qzA hb h.c2,qzA hb h.c3⟩
theorem xjk (w:World)(cv hv:Value)(ep:Int)(s:QV)(name:ByteArray)(av:Value):WcR w cv hv ep s name av ((w.alloc (.cells #[cv,hv,.int .i64 ep] 25)).alloc (.cells #[.int .i64 s.k,.int .i64 s.n,.string name,av] 30)):=
 ⟨xbP _ _ _,qzA (xak _ _) (xaa _ _ _ _ rfl 0),qzA (xak _ _) (xaa _ _ _ _ rfl 1),qzA (xak _ _) (xaa _ _ _ _ rfl 2),xaa _ _ _ _ (by simp) 0,xaa _ _ _ _ (by simp) 1,xaa _ _ _ _ (by simp) 2,xaa _ _ _ _ (by simp) 3⟩
theorem xnF {P Q:Nat->Prop}(X:QW)(s:QV)(name:ByteArray)(args:List QV)(fuel:Int)(cv hv av:Value)(w:World)(hcv:∃ a n c,cv=.slice a n c)(hH:xaD P w hv X.heap)(hA:xaO Q w av args)(hn:name.size<=140737488351232):Calls Try.prog 38 #[WV cv hv X.ez,ClV s name av,.int .i64 fuel] w fun e w'=>e=.returned (.int .i64 (xar X s name args fuel))/\Below w.heap.size w w':=by
 have hR:=xjk w cv hv X.ez s name av;obtain⟨ah,ch,rfl,-⟩:=id hH;obtain⟨aa,ca,rfl,hal,hac,-,hrow⟩:=id hA;obtain⟨ac,nc,cc,rfl⟩:=hcv;unfold maxLen at hac;go_enter Try.func38,Try.ntmps38
 go_upto_region 1 with (fail)
 generalize ((w.alloc (.cells #[.slice ac nc cc,.slice ah X.heap.length ch,.int .i64 X.ez] 25)).alloc (.cells #[.int .i64 s.k,.int .i64 s.n,.string name,.slice aa args.length ca] 30))=W at *;obtain⟨-,w0,w1,w2,c0,c1,c2,c3⟩:=id hR;go_wp2_with fail;refine (xsl name _ hn).mono ?_;rintro e w1' ⟨rfl,hb1⟩;have hR1:=hR.later hb1;clear w0 w1 w2 c0 c1 c2 c3 hR hb1;obtain⟨-,w0,w1,w2,c0,c1,c2,c3⟩:=id hR1
 cases hnb:xbr name with
 | false=>
  have HE:Hid (xar X s name args fuel=7):=by show _=_;unfold xar;rw[if_pos hnb]
  go_wp2
  go_ret
  exact⟨xan HE.out.symm,hR1.bel⟩
 | true=>
  by_cases h4:4<args.length
  ·have HE:Hid (xar X s name args fuel=5):=by show _=_;unfold xar;rw[if_neg (by rw[hnb];simp),if_pos h4]
   have h4':(4:Int)<(args.length:Int):=by omega
   go_wp2
   go_ret
   exact⟨xan HE.out.symm,hR1.bel⟩
  have h4':¬ ((4:Int)<(args.length:Int)):=by omega
  by_cases hf:fuel<0
  ·have HE:Hid (xar X s name args fuel=3):=by show _=_;unfold xar;rw[if_neg (by rw[hnb];simp),if_neg h4,if_pos (Or.inl hf)]
   have hf':decide (fuel<0)=true:=by simpa using hf
   go_wp2
   go_ret
   exact⟨xan HE.out.symm,hR1.bel⟩
  have hf':decide (fuel<0)=false:=by simpa using hf
  by_cases hg:400<fuel
  ·have HE:Hid (xar X s name args fuel=3):=by show _=_;unfold xar;rw[if_neg (by rw[hnb];simp),if_neg h4,if_pos (Or.inr hg)]
   have hg':decide (400<fuel)=true:=by simpa using hg
   go_wp2
   go_ret
   exact⟨xan HE.out.symm,hR1.bel⟩
  have hg':decide (400<fuel)=false:=by simpa using hg
  have HE:Hid (xar X s name args fuel=if xax X.heap.length s≠0 then xax X.heap.length s else xbo (fun _ v=>xax X.heap.length v) 0 args):=by show _=_;unfold xar;rw[if_neg (by rw[hnb];simp),if_neg h4,if_neg (by omega)]
  clear hnb hf hg;have hvw:=fun w=>xhs s (X.heap.length:Int) w
  generalize xax X.heap.length s=ws at *;go_wp2_with fail;refine (hvw _).mono ?_;rintro e w2' ⟨rfl,hb2⟩;have hR2:=hR1.later hb2;clear w0 w1 w2 c0 c1 c2 c3 hR1 hb2 hvw;obtain⟨-,w0,w1,w2,c0,c1,c2,c3⟩:=id hR2
  by_cases hws:ws=0
  ·have hws':(ws != 0)=false:=by simpa using hws
   rw[if_neg (by simpa using hws)] at HE
   clear hws;go_wp2;clear w0 w1 w2 c0 c1 c2 c3
   go_loopg [40] args.length (fun gk c wr=>∃ j:Nat,j+gk=args.length/\c=.int .i64 j/\WcR w (.slice ac nc cc) (.slice ah X.heap.length ch) X.ez s name (.slice aa args.length ca) wr/\∀ i y,i<j->args[i]?=some y->xax X.heap.length y=0)
   case atStart=>exact⟨0,by omega,rfl,hR2,fun i y hi=>by omega⟩
   case round=>
    clear hR2;obtain⟨j,hj,rfl,hRr,hok⟩:=hrel;have HO:=hid hok;clear hok;obtain⟨-,w0,w1,w2,c0,c1,c2,c3⟩:=id hRr
    by_cases hlt:j<args.length
    ·have hx:args[j]?=some args[j]:=by simp[hlt]
     have HX:=hid hx;generalize args[j]=y at *;obtain⟨b,o,rfl,-,v0,v1⟩:=hrow j y hx;simp only[Nat.add_zero] at v0;have u0:=qzA hRr.bel v0;have u1:=qzA hRr.bel v1;clear v0 v1 hrow hx;have hj1:(j:Int)<(args.length:Int):=by omega
     have hj0:(0:Int)<=(j:Int):=by omega
     have hvw:=fun w=>xhs y (X.heap.length:Int) w
     obtain⟨wy,hwy⟩:∃ wy,wy=xax X.heap.length y:=⟨_,rfl⟩;rw[← hwy] at hvw;have HWY:=hid hwy;clear hwy;have hRa:=hRr.later (xak wr (.cells #[.int .i64 y.k,.int .i64 y.n] 27));have y0:(wr.alloc (.cells #[.int .i64 y.k,.int .i64 y.n] 27)).cell? ⟨wr.heap.size,0,none⟩=some (.int .i64 y.k):=xaa _ _ _ _ rfl 0;have y1:(wr.alloc (.cells #[.int .i64 y.k,.int .i64 y.n] 27)).cell? ⟨wr.heap.size,1,none⟩=some (.int .i64 y.n):=xaa _ _ _ _ rfl 1
     go_upto_region 13 with (fail)
     clear w0 w1 w2 c0 c1 c2 c3 u0 u1 hRr;generalize (wr.alloc (.cells #[.int .i64 y.k,.int .i64 y.n] 27))=V at *;obtain⟨-,w0,w1,w2,c0,c1,c2,c3⟩:=id hRa;go_wp2_with fail;refine (hvw _).mono ?_;rintro e w5 ⟨rfl,hb5⟩;have hR5:=hRa.later hb5;clear w0 w1 w2 c0 c1 c2 c3 hRa hb5 hvw y0 y1
     by_cases hz:wy=0
     ·have hz':(wy != 0)=false:=by simpa using hz
      go_wp2
      go_roundg (gk-1)
      case measure=>omega
      case rel=>
       refine⟨j+1,by omega,by go_num,hR5,fun i y' hi hy=>?_⟩
       by_cases hij:i=j
       ·subst hij;rw[HX.out] at hy;cases hy;rw[← HWY.out];exact hz
       ·exact HO.out i y' (by omega) hy
     ·have hz':(wy != 0)=true:=by simpa using hz
      go_wp2
      go_ret
      refine⟨xan ?_,hR5.bel⟩;have:=xdt (f:=fun _ v=>xax X.heap.length v) (k:=0) HX.out (by rw[← HWY.out];exact hz) (fun i y' hi hy=>HO.out i y' hi hy)
      rw[HE.out,this,HWY.out]
    ·obtain rfl:j=args.length:=by omega
     go_wp2
     go_ret
     refine⟨xan ?_,hRr.bel⟩;rw[HE.out,xds fun i y hy=>HO.out i y (xae hy) hy]
  ·have hws':(ws != 0)=true:=by simpa using hws
   rw[if_pos hws] at HE;go_wp2
   go_ret
   exact⟨xan HE.out.symm,hR2.bel⟩
structure LkP (X:QW)(b:Nat)(cv hv:Value)(T:Nat->Nat)(w:World)(st:Unit)(n:Nat):Prop where
 tag:T b=0
 lt:b<w.heap.size
 w0:w.cell? ⟨b,0,none⟩=some cv
 w1:w.cell? ⟨b,1,none⟩=some hv
 w2:w.cell? ⟨b,2,none⟩=some (.int .i64 X.ez)
 cls:xai (Fx T w) w cv X.cz
 heap:xaD (Fx T w) w hv X.heap
theorem LkP.keep {X:QW}{b:Nat}{cv hv:Value}{T T':Nat->Nat}{w w':World}{st:Unit}{n:Nat}{S:Nat->Prop}(h:LkP X b cv hv T w st n)(e:Ext T T' w)(k:Kp S T w w')(h0:¬ S 0):LkP X b cv hv T' w' st n:=
 ⟨by rw[e _ h.lt];exact h.tag,qzE h.lt k.size,k.cell h.w0 (by rw[h.tag];exact h0),k.cell h.w1 (by rw[h.tag];exact h0),k.cell h.w2 (by rw[h.tag];exact h0),h.cls.fx xaA e k h0,h.heap.fx xaE e k h0⟩
section
variable {σ:Type} {p:Mp σ} {L:(Nat->Nat)->World->σ->Nat->Prop} {LF QF:Nat} {lc qc:Array Value} {T:Nat->Nat} {w:World} {mb:Nat} {m:Mc σ} {hv:Value} {g:Nat} {s:Nat->Nat} {K:Nat}
structure FsR (w:World)(mb:Nat)(v0 v1:Value)(ep:Int)(s:QV)(name:ByteArray)(av:Value)(w':World):Prop where
 bel:Below w.heap.size w w'
 m0:w'.cell? ⟨mb,0,none⟩=some v0
 m1:w'.cell? ⟨mb,1,none⟩=some v1
 m2:w'.cell? ⟨mb,2,none⟩=some (.int .i64 ep)
 c0:w'.cell? ⟨w.heap.size,0,none⟩=some (.int .i64 s.k)
 c1:w'.cell? ⟨w.heap.size,1,none⟩=some (.int .i64 s.n)
 c2:w'.cell? ⟨w.heap.size,2,none⟩=some (.string name)
 c3:w'.cell? ⟨w.heap.size,3,none⟩=some av
 r0:w'.cell? ⟨w.heap.size+1,0,none⟩=some (.int .i64 0)
 r1:w'.cell? ⟨w.heap.size+1,1,none⟩=some (.int .i64 0)
 rf:∀ o,w'.frozen? ⟨w.heap.size+1,o,none⟩=false
 sz:w.heap.size+2<=w'.heap.size
theorem FsR.later {w:World}{mb:Nat}{v0 v1:Value}{ep:Int}{s:QV}{name:ByteArray}{av:Value}{w' w'':World}(h:FsR w mb v0 v1 ep s name av w')(hb:Below w'.heap.size w' w''):FsR w mb v0 v1 ep s name av w'':=
 ⟨xaf h.bel hb,qzA hb h.m0,qzA hb h.m1,qzA hb h.m2,qzA hb h.c0,qzA hb h.c1,qzA hb h.c2,qzA hb h.c3,qzA hb h.r0,qzA hb h.r1,fun o=>(hb.frozen (p:=⟨w.heap.size+1,o,none⟩) (by have:=h.sz;simp only;omega)).trans (h.rf o),qzD h.sz hb.size⟩
theorem FsR.al {w:World}{mb:Nat}{v0 v1:Value}{ep:Int}{s:QV}{name:ByteArray}{av:Value}{w':World}(h:FsR w mb v0 v1 ep s name av w'):w'.cell? ⟨mb,0,none⟩=some v0/\w'.cell? ⟨mb,1,none⟩=some v1/\w'.cell? ⟨mb,2,none⟩=some (.int .i64 ep)/\w'.cell? ⟨w.heap.size,0,none⟩=some (.int .i64 s.k)/\w'.cell? ⟨w.heap.size,1,none⟩=some (.int .i64 s.n)/\w'.cell? ⟨w.heap.size,2,none⟩=some (.string name):=⟨h.m0,h.m1,h.m2,h.c0,h.c1,h.c2⟩
theorem xl8 (hC:Cx p L LF lc QF qc)(h:MacAt p T w mb m 0 hv g s)(hL:L T w m.st (p.E.fuel-m.sz_).toNat)(hI:MIn p.E m)(sf:QV)(name:ByteArray)(args:List QV)(av:Value)(hSe:xax m.heap.length sf=0)(hAr:VsOk m.heap.length args)(hA:xaO (Fx T w) w av args)(hK5:5<=K) :
  Calls Try.prog 41 #[.pointer (some ⟨mb,0,none⟩),ClV sf name av] w fun e w'=>EnPost p L T w mb 0 K (xa4 p.E 20 m (xaB p.E.cz (xas m.heap sf) name).1 (xaB p.E.cz (xas m.heap sf) name).2 sf args) e w':=by
 have hX:=xaq T w 4;have hT4:∀ b,w.heap.size<=b->xaF T w 4 b=4:=fun b hb=>xaJ hb
 have hb1:Below w.heap.size w ((w.alloc (.cells #[.int .i64 sf.k,.int .i64 sf.n,.string name,av] 30)).alloc (.cells #[.int .i64 0,.int .i64 0] 27)).drew:=(xbP w _ _).drew;have hM0:=(h.tagged0 4).later hb1;have hA0:=(xeG hA xa1 4).fx xa1 (.refl _ w) (Kp.of_below (S:=fun _=>False) hb1) id
 have hL0:=hC.keep (hC.keep hL hX (Kp.refl (fun _=>False) _ _) id id) (.refl _ _) (Kp.of_below (S:=fun _=>False) hb1) id id
 have hFs:FsR w mb p.cv hv p.ep sf name av ((w.alloc (.cells #[.int .i64 sf.k,.int .i64 sf.n,.string name,av] 30)).alloc (.cells #[.int .i64 0,.int .i64 0] 27)).drew:=by
  refine⟨hb1,hM0.c0,hM0.c1,hM0.c2,qzA (xak _ _).drew (xaa w #[.int .i64 sf.k,.int .i64 sf.n,.string name,av] 30 _ rfl 0),qzA (xak _ _).drew (xaa w #[.int .i64 sf.k,.int .i64 sf.n,.string name,av] 30 _ rfl 1),qzA (xak _ _).drew (xaa w #[.int .i64 sf.k,.int .i64 sf.n,.string name,av] 30 _ rfl 2),qzA (xak _ _).drew (xaa w #[.int .i64 sf.k,.int .i64 sf.n,.string name,av] 30 _ rfl 3),xaa _ _ _ _ (by simp) 0,xaa _ _ _ _ (by simp) 1,fun o=>xap (cur:=#[.int .i64 0,.int .i64 0]) (t:=27) ?_ o,by simp⟩
  rw[xgf];have:=qzJ (w.alloc (.cells #[.int .i64 sf.k,.int .i64 sf.n,.string name,av] 30)) (.cells #[.int .i64 0,.int .i64 0] 27)
  simpa using this
 have hlm:=xal h.box;obtain⟨aa,ca,rfl,-⟩:=id hA;clear h hA hL;generalize xaF T w 4=T1 at *;have t1:T1 (w.heap.size+1)=4:=hT4 _ (by omega)
 go_enter Try.func41,Try.ntmps41
 go_upto_region 1 with (fail)
 generalize ((w.alloc (.cells #[.int .i64 sf.k,.int .i64 sf.n,.string name,.slice aa args.length ca] 30)).alloc (.cells #[.int .i64 0,.int .i64 0] 27))=W at *;have hcl:=hM0.cls.mono (Q:=fun _=>True) xaA fun _ _=>trivial
 have hhp:=hM0.heap.heap.mono (Q:=fun _=>True) xaE fun _ _=>trivial
 obtain⟨ch,rfl,-⟩:=hM0.heap.form;obtain⟨ac,cc,hcv,-⟩:=id hcl;have hcls:∀ w':World,Below W.drew.heap.size W.drew w'->Calls Try.prog 62 #[.slice (some ⟨g,0,none⟩) m.heap.length ch,VV sf] w' fun e w''=>e=.returned (.int .i64 (xas m.heap sf))/\Below w'.heap.size w' w'':=fun w' hb=>xe4 m.heap _ sf w' (hhp.later xaE hb)
 have hfin:∀ w':World,Below W.drew.heap.size W.drew w'->Calls Try.prog 53 #[WV p.cv (.slice (some ⟨g,0,none⟩) m.heap.length ch) p.ep,.int .i64 (xas m.heap sf),.string name] w' fun e w''=>e=.returned (.tuple #[.int .i64 (xaB p.E.cz (xas m.heap sf) name).1,.int .i64 (xaB p.E.cz (xas m.heap sf) name).2])/\Below w'.heap.size w' w'':=fun w' hb=>xfE ⟨p.E.cz,m.heap,p.ep⟩ (xas m.heap sf) name p.cv _ w' (hcl.later xaA hb) (hhp.later xaE hb)
 have HM0:=hid hM0;rw[hcv] at hfin hFs;clear hcv hcl hhp hM0;obtain⟨c0,hc0⟩:∃ c0,c0=xas m.heap sf:=⟨_,rfl⟩;rw[← hc0] at hcls hfin;obtain⟨r1,r2,hr⟩:∃ r1 r2,xaB p.E.cz c0 name=(r1,r2):=⟨_,_,rfl⟩;rw[hr] at hfin;have HRO:Hid (xa4 p.E 20 m (xaB p.E.cz (xas m.heap sf) name).1 (xaB p.E.cz (xas m.heap sf) name).2 sf args=xa4 p.E 20 m r1 r2 sf args):=by show _=_;rw[← hc0,hr]
 clear hc0 hr;have hS0:=hFs.al;have tokA:True:=trivial
 go_region_held3 (fun w'=>w'.cell? ⟨mb,0,none⟩=some (.slice ac p.E.cz.length cc)/\w'.cell? ⟨mb,1,none⟩=some (.slice (some ⟨g,0,none⟩) m.heap.length ch)/\w'.cell? ⟨mb,2,none⟩=some (.int .i64 p.ep)/\w'.cell? ⟨w.heap.size,0,none⟩=some (.int .i64 sf.k)/\w'.cell? ⟨w.heap.size,1,none⟩=some (.int .i64 sf.n)/\w'.cell? ⟨w.heap.size,2,none⟩=some (.string name))
  (first | with_reducible exact hS0 | with_reducible exact hS1 | with_reducible exact hS2)
  (first
   | (have _t:=tokA;go_at_call 62;refine (hcls _ (qzL _ _)).mono ?_;rintro e w3 ⟨rfl,hb3⟩;have hF3:=hFs.later hb3;have hS1:=hF3.al;clear tokA;have tokB:True:=trivial)
   | (have _t:=tokB;go_at_call 53;refine (hfin _ hb3).mono ?_;rintro e w4 ⟨rfl,hb4⟩;have hF4:=hF3.later hb4;have hS2:=hF4.al;have hb34:=xaf hb3 hb4;clear tokB))
 have hM4:=HM0.out.later hb34;have hA4:=hA0.fx xa1 (.refl _ _) (Kp.of_below (S:=fun _=>False) hb34) id
 have hL4:=hC.keep hL0 (.refl _ _) (Kp.of_below (S:=fun _=>False) hb34) id id
 have hent:=xip hC 20 (qzC _) K T1 w4 mb m _ _ _ r1 r2 sf args _ hK5 hM4 hL4 hI hSe hAr hA4;have HKW:=hid (Kp.of_below (S:=All K) (T:=T) hF4.bel);obtain⟨-,m0,m1,m2,c0',c1,c2,c3,r0,r1',rf,sz⟩:=id hF4;have H4:=hid hF4;clear hS0 hS1 hS2 hcls hfin hF3 hF4 hFs hb3 hb4 hb34 hM4 hA4 hL4;obtain⟨R,hR⟩:∃ R,xa4 p.E 20 m r1 r2 sf args=R:=⟨_,rfl⟩;rw[hR] at hent HRO;clear hR;go_wp2_with fail;refine hent.mono ?_;rintro e w6 ⟨rfl,⟨T6,hX6,⟨hv6,g6,s6,hM6⟩,hL6⟩,hK6⟩;have q0:=hK6.cell r0 (by rw[t1];unfold All;omega)
 have q1:=hK6.cell r1' (by rw[t1];unfold All;omega)
 have qf:∀ o,w6.frozen? ⟨w.heap.size+1,o,none⟩=false:=fun o=>xcp hK6 (by omega) (by rw[t1];unfold All;omega) (rf o)
 have t6:T6 (w.heap.size+1)=4:=by rw[hX6 _ (by omega)];exact t1
 have HQ:=hid fun u0 u1=>EnPost.fin (r:=R) hC (hX.trans HKW.out.size hX6) (show MacAt p T6 w6 mb R.1 0 hv6 g6 s6 from hM6) hL6 (HKW.out.trans hX hK6) t6 u0 u1
 clear hent hM6 hL6 hK6 hX6 m0 m1 m2 c0' c1 c2 c3 r0 r1' rf;obtain⟨rm,v,er⟩:=R;go_wp2;rw[HRO.out];refine qzK (v:=.tuple #[VV v,.int .i64 er]) ?_ rfl (HQ.out _ _)
 simp[results,Try.results41,go_sem,q0,q1]
end
abbrev RnV (r:Ran):Value:=.agg #[.int .i64 r.v.k,.int .i64 r.v.n,.int .i64 r.err,.int .i64 r.sz_]
def WiPost {σ:Type}(L:(Nat->Nat)->World->σ->Nat->Prop)(T0:Nat->Nat)(w:World)(X:QW)(r:Ran × σ)(e:Ending)(w':World):Prop:=
 Kp (fun t=>t=3) T0 w w'/\∃ T',Ext T0 T' w/\L T' w' r.2 0/\∃ cv hv,e=.returned (.tuple #[WV cv hv X.ez,RnV r.1])/\xai (fun b=>w.heap.size<=b/\T' b≠3) w' cv X.cz/\xaD (fun b=>w.heap.size<=b/\T' b≠3) w' hv r.1.heap
structure WtR (w:World)(cv hv:Value)(ep:Int)(s:QV)(name:ByteArray)(av:Value)(w':World):Prop where
 w0:w'.cell? ⟨w.heap.size,0,none⟩=some cv
 w1:w'.cell? ⟨w.heap.size,1,none⟩=some hv
 w2:w'.cell? ⟨w.heap.size,2,none⟩=some (.int .i64 ep)
 c0:w'.cell? ⟨w.heap.size+1,0,none⟩=some (.int .i64 s.k)
 c1:w'.cell? ⟨w.heap.size+1,1,none⟩=some (.int .i64 s.n)
 c2:w'.cell? ⟨w.heap.size+1,2,none⟩=some (.string name)
 c3:w'.cell? ⟨w.heap.size+1,3,none⟩=some av
 a0:w'.cell? ⟨w.heap.size+2,0,none⟩=some (.slice none 0 0)
 a1:w'.cell? ⟨w.heap.size+2,1,none⟩=some (.slice none 0 0)
 a2:w'.cell? ⟨w.heap.size+2,2,none⟩=some (.int .i64 0)
 af:∀ o,w'.frozen? ⟨w.heap.size+2,o,none⟩=false
 b0:w'.cell? ⟨w.heap.size+3,0,none⟩=some (.int .i64 0)
 b1:w'.cell? ⟨w.heap.size+3,1,none⟩=some (.int .i64 0)
 b2:w'.cell? ⟨w.heap.size+3,2,none⟩=some (.int .i64 0)
 b3:w'.cell? ⟨w.heap.size+3,3,none⟩=some (.int .i64 0)
 bf:∀ o,w'.frozen? ⟨w.heap.size+3,o,none⟩=false
 sz:w.heap.size+4<=w'.heap.size
theorem WtR.kp {w:World}{cv hv:Value}{ep:Int}{s:QV}{name:ByteArray}{av:Value}{w' w'':World}{S:Nat->Prop}{T:Nat->Nat}(h:WtR w cv hv ep s name av w')(k:Kp S T w' w'')(hs:∀ i,i<4->¬ S (T (w.heap.size+i))):WtR w cv hv ep s name av w'':=
 have hz:=h.sz
 ⟨k.cell h.w0 (hs 0 (by omega)),k.cell h.w1 (hs 0 (by omega)),k.cell h.w2 (hs 0 (by omega)),k.cell h.c0 (hs 1 (by omega)),k.cell h.c1 (hs 1 (by omega)),k.cell h.c2 (hs 1 (by omega)),k.cell h.c3 (hs 1 (by omega)),k.cell h.a0 (hs 2 (by omega)),k.cell h.a1 (hs 2 (by omega)),k.cell h.a2 (hs 2 (by omega)),fun o=>xcp k (by omega) (hs 2 (by omega)) (h.af o),k.cell h.b0 (hs 3 (by omega)),k.cell h.b1 (hs 3 (by omega)),k.cell h.b2 (hs 3 (by omega)),k.cell h.b3 (hs 3 (by omega)),fun o=>xcp k (by omega) (hs 3 (by omega)) (h.bf o),qzD hz k.size⟩
theorem WtR.later {w:World}{cv hv:Value}{ep:Int}{s:QV}{name:ByteArray}{av:Value}{w' w'':World}(h:WtR w cv hv ep s name av w')(hb:Below w'.heap.size w' w''):WtR w cv hv ep s name av w'':=h.kp (T:=fun _=>0) (Kp.of_below (S:=fun _=>False) hb) fun _ _=>id
theorem xjE (w:World)(cv hv:Value)(ep:Int)(s:QV)(name:ByteArray)(av:Value):WtR w cv hv ep s name av ((((w.alloc (.cells #[cv,hv,.int .i64 ep] 25)).alloc (.cells #[.int .i64 s.k,.int .i64 s.n,.string name,av] 30)).alloc (.cells #[.slice none 0 0,.slice none 0 0,.int .i64 0] 25)).alloc (.cells #[.int .i64 0,.int .i64 0,.int .i64 0,.int .i64 0] 35)):=by
 obtain⟨-,w0,w1,w2,c0,c1,c2,c3⟩:=xjk w cv hv ep s name av;have q:=xbP ((w.alloc (.cells #[cv,hv,.int .i64 ep] 25)).alloc (.cells #[.int .i64 s.k,.int .i64 s.n,.string name,av] 30)) (.cells #[.slice none 0 0,.slice none 0 0,.int .i64 0] 25) (.cells #[.int .i64 0,.int .i64 0,.int .i64 0,.int .i64 0] 35);have e2:((w.alloc (.cells #[cv,hv,.int .i64 ep] 25)).alloc (.cells #[.int .i64 s.k,.int .i64 s.n,.string name,av] 30)).heap.size=w.heap.size+2:=by simp
 have e3:(((w.alloc (.cells #[cv,hv,.int .i64 ep] 25)).alloc (.cells #[.int .i64 s.k,.int .i64 s.n,.string name,av] 30)).alloc (.cells #[.slice none 0 0,.slice none 0 0,.int .i64 0] 25)).heap.size=w.heap.size+3:=by simp
 refine⟨qzA q w0,qzA q w1,qzA q w2,qzA q c0,qzA q c1,qzA q c2,qzA q c3,qzA (xak _ _) (xaa _ _ _ _ e2 0),qzA (xak _ _) (xaa _ _ _ _ e2 1),qzA (xak _ _) (xaa _ _ _ _ e2 2),fun o=>((xak _ _).frozen (p:=⟨w.heap.size+2,o,none⟩) (by rw[e3];simp)).trans (xap (cur:=#[.slice none 0 0,.slice none 0 0,.int .i64 0]) (t:=25) (xbj _ _ _ e2) o),xaa _ _ _ _ e3 0,xaa _ _ _ _ e3 1,xaa _ _ _ _ e3 2,xaa _ _ _ _ e3 3,xap (cur:=#[.int .i64 0,.int .i64 0,.int .i64 0,.int .i64 0]) (t:=35) (xbj _ _ _ e3),by simp⟩
theorem OwnC.rowIn {w:World}{B:Nat}{xs:List QC}{s:Nat->Nat}(h:OwnC w B xs s xs.length)(hby:xs.length*56<=140737488351232):xai (fun b=>B<=b/\b<s xs.length) w (.slice (some ⟨B,0,none⟩) xs.length xs.length) xs:=by
 have hB:=h.2.1;have h0n:=h.mono 0 xs.length (by omega) (qzC _)
 refine⟨_,_,rfl,qzC _,by unfold maxLen;omega,hby,fun i x hx=>⟨B,0,rfl,⟨qzC _,by omega⟩,?_⟩⟩
 have hi:=xae hx;have hn:=h.mono (i+1) xs.length (by omega) (qzC _)
 have hk:=h.2.2.2.2 i x hi hx;have hm:=h.mono 0 i (by omega) (by omega)
 obtain⟨g,hg,hlo,hM⟩:=hk.meths;obtain⟨h0,h1,h2,h3,-⟩:=hk;simp only[Nat.zero_add]
 exact⟨h0,h1,h2,h3,_,hg,hM.mono xbq fun b hb=>⟨by have:=hb.1;omega,by have:=hb.2;omega⟩⟩
theorem xoQ {P:Nat->Prop}(X:QW)(cv hv:Value)(w:World)(h1:xai P w cv X.cz)(h2:xaD P w hv X.heap):Calls Try.prog 39 #[WV cv hv X.ez] w fun e w'=>∃ g gh sh,e=.returned (WV (.slice (some ⟨g,0,none⟩) X.cz.length X.cz.length) (.slice (some ⟨gh,0,none⟩) X.heap.length X.heap.length) X.ez)/\xai (fun b=>w.heap.size<=b/\b<gh) w' (.slice (some ⟨g,0,none⟩) X.cz.length X.cz.length) X.cz/\HRow w' gh sh X.heap X.heap.length/\w.heap.size<=gh/\Below w.heap.size w w':=by
 obtain⟨a1,c1,e1,-,-,b1,-⟩:=id h1;refine (xqW X cv hv w h1 h2).mono ?_;rintro e w' ⟨g,gh,s,rfl,hO,⟨sh,hR⟩,hs,hg,hb⟩;have hB:=hO.2.1;have h0n:=hO.mono 0 X.cz.length (by omega) (qzC _)
 exact⟨g,gh,sh,rfl,(hO.rowIn b1).mono xaA fun b hb=>⟨by have:=hb.1;omega,by have:=hb.2;omega⟩,hR,by omega,hb⟩
theorem HRow.isHeap {w:World}{g:Nat}{s:Nat->Nat}{xs:List QO}(h:HRow w g s xs xs.length)(hby:xs.length*32<=140737488351232):xaD (fun b=>g<=b) w (.slice (some ⟨g,0,none⟩) xs.length xs.length) xs:=by
 have hT:∀ b,g<=b->b<w.heap.size->(fun b=>if g<=b then 2 else 0) b=2:=fun b hb _=>by simp[hb]
 refine (h.heap hby hT).heap.mono xaE fun b hb=>?_
 have:=hb.2;simp only at this
 split at this
 ·assumption
 ·cases this
section
variable {σ:Type} {L:(Nat->Nat)->World->σ->Nat->Prop} {LF QF:Nat} {lc qc:Array Value}
structure Lok (L:(Nat->Nat)->World->σ->Nat->Prop):Prop where
 keep:∀ {T T':Nat->Nat} {w w':World} {st:σ} {n:Nat} {S:Nat->Prop},L T w st n->Ext T T' w->Kp S T w w'->¬ S 0->¬ S 3->L T' w' st n
 mono:∀ {T:Nat->Nat} {w:World} {st:σ} {n n':Nat},L T w st n->n'<=n->L T w st n'
theorem WiPost.fin (hCx:Lok L){w U:World}{X:QW}{r:Ran × σ}{cv hv:Value}{P:Nat->Prop}{T0 T1:Nat->Nat}{n:Nat}(hk:Kp (fun t=>t=3) T0 w U)(hE:Ext T0 T1 w)(hL:L T1 U r.2 n)(t2:T1 (w.heap.size+2)=4)(t3:T1 (w.heap.size+3)=4)(hC:xai P U cv X.cz)(hH:xaD P U hv r.1.heap)(h2:¬ P (w.heap.size+2))(h3:¬ P (w.heap.size+3))(hP:∀ x,P x->w.heap.size<=x/\T1 x≠3)(u0 u1 u2 v0 v1 v2 v3:Value) :
  WiPost L T0 w X r (.returned (.tuple #[WV cv hv X.ez,RnV r.1])) (((((((U.setCell ⟨w.heap.size+2,0,none⟩ u0).setCell ⟨w.heap.size+2,1,none⟩ u1).setCell ⟨w.heap.size+2,2,none⟩ u2).setCell ⟨w.heap.size+3,0,none⟩ v0).setCell ⟨w.heap.size+3,1,none⟩ v1).setCell ⟨w.heap.size+3,2,none⟩ v2).setCell ⟨w.heap.size+3,3,none⟩ v3):=by
 have k:Keeps P U (((((((U.setCell ⟨w.heap.size+2,0,none⟩ u0).setCell ⟨w.heap.size+2,1,none⟩ u1).setCell ⟨w.heap.size+2,2,none⟩ u2).setCell ⟨w.heap.size+3,0,none⟩ v0).setCell ⟨w.heap.size+3,1,none⟩ v1).setCell ⟨w.heap.size+3,2,none⟩ v2).setCell ⟨w.heap.size+3,3,none⟩ v3):=xaC (xaC (xaC (xaC (xaC (xaC (xaC (Keeps.refl _ _) h2 _) h2 _) h2 _) h3 _) h3 _) h3 _) h3 _;have hn2:¬ w.heap.size+2<w.heap.size:=by omega
 have hn3:¬ w.heap.size+3<w.heap.size:=by omega
 have k4:Kp (fun t=>t=4) T1 U (((((((U.setCell ⟨w.heap.size+2,0,none⟩ u0).setCell ⟨w.heap.size+2,1,none⟩ u1).setCell ⟨w.heap.size+2,2,none⟩ u2).setCell ⟨w.heap.size+3,0,none⟩ v0).setCell ⟨w.heap.size+3,1,none⟩ v1).setCell ⟨w.heap.size+3,2,none⟩ v2).setCell ⟨w.heap.size+3,3,none⟩ v3):=(((((((Kp.refl _ _ _).set (fun _=>t2) _ _).set (fun _=>t2) _ _).set (fun _=>t2) _ _).set (fun _=>t3) _ _).set (fun _=>t3) _ _).set (fun _=>t3) _ _).set (fun _=>t3) _ _
 refine⟨((((((hk.set (fun h=>absurd h hn2) _ _).set (fun h=>absurd h hn2) _ _).set (fun h=>absurd h hn2) _ _).set (fun h=>absurd h hn3) _ _).set (fun h=>absurd h hn3) _ _).set (fun h=>absurd h hn3) _ _).set (fun h=>absurd h hn3) _ _,T1,hE,hCx.mono (hCx.keep hL (.refl _ _) k4 (by omega) (by omega)) (Nat.zero_le _),cv,hv,rfl,hC.keep xaA k hP,hH.keep xaE k hP⟩
theorem WiPost.drew (hCx:Lok L){w w':World}{X:QW}{r:Ran × σ}{T0:Nat->Nat}{e:Ending}(h:WiPost L T0 w X r e w'):WiPost L T0 w X r e w'.drew:=by
 obtain⟨hb,T',hE,hL,cv,hv,rfl,h1,h2⟩:=h
 exact⟨hb.drew,T',hE,hCx.keep hL (.refl _ _) (Kp.refl (fun _=>False) _ _).drew id id,cv,hv,rfl,h1.later xaA (qzL _ _).drew,h2.later xaE (qzL _ _).drew⟩
end
theorem xdu (d:Nat)(t:TypeId)(k:Nat)(c:Array Value)(w:World){a b v}(h:Try.prog.underlying t=some (.func a b v)):(Op.equalIn (d+1) t (.func (.func k) #[] c) .nilFunc).run Try.prog w=.ok false w:=by
 simp[Op.equalIn,run_underlying h]
theorem xrw (k:Nat)(c:Array Value)(w:World):(binOp .eql 86 (.func (.func k) #[] c) .nilFunc).run Try.prog w=.ok (.bool false) w:=by
 simp only[binOp];have:(Op.equal 86 (.func (.func k) #[] c) .nilFunc).run Try.prog w=.ok false w:=xdu 9999 86 k c w Try.underlying86
 simp[this]
theorem xrq (k:Nat)(c:Array Value)(w:World):(binOp .eql 104 (.func (.func k) #[] c) .nilFunc).run Try.prog w=.ok (.bool false) w:=by
 simp only[binOp];have:(Op.equal 104 (.func (.func k) #[] c) .nilFunc).run Try.prog w=.ok false w:=xdu 9999 104 k c w Try.underlying104
 simp[this]
def xmf (T0:Nat->Nat)(n gh mb:Nat):Nat->Nat:=fun x=>if x<n then T0 x else if x<n+4 then 4 else if x<gh then 0 else if x<mb then 2 else 1
structure EeR (w:World)(mb:Nat)(v0 v1:Value)(ep n:Int)(w':World):Prop where
 w0:w'.cell? ⟨w.heap.size,0,none⟩=some v0
 w1:w'.cell? ⟨w.heap.size,1,none⟩=some v1
 w2:w'.cell? ⟨w.heap.size,2,none⟩=some (.int .i64 ep)
 m4:w'.cell? ⟨mb,4,none⟩=some (.int .i64 n)
 lt:w.heap.size+4<=mb
theorem EeR.later {w:World}{mb:Nat}{v0 v1:Value}{ep n:Int}{w' w'':World}(h:EeR w mb v0 v1 ep n w')(hb:Below w'.heap.size w' w''):EeR w mb v0 v1 ep n w'':=⟨qzA hb h.w0,qzA hb h.w1,qzA hb h.w2,qzA hb h.m4,h.lt⟩
theorem EeR.set {w:World}{mb:Nat}{v0 v1:Value}{ep n:Int}{w':World}(h:EeR w mb v0 v1 ep n w'){b:Nat}(hb:b=w.heap.size+2\/b=w.heap.size+3)(o:Nat)(u:Value):EeR w mb v0 v1 ep n (w'.setCell ⟨b,o,none⟩ u):=
 have hl:=h.lt
 ⟨(qzI _ _ _ _ (by simp;omega)).trans h.w0,(qzI _ _ _ _ (by simp;omega)).trans h.w1,(qzI _ _ _ _ (by simp;omega)).trans h.w2,(qzI _ _ _ _ (by simp;omega)).trans h.m4,hl⟩
theorem EeR.al {w:World}{mb:Nat}{v0 v1:Value}{ep n:Int}{w':World}(h:EeR w mb v0 v1 ep n w'):w'.cell? ⟨w.heap.size,0,none⟩=some v0/\w'.cell? ⟨w.heap.size,1,none⟩=some v1/\w'.cell? ⟨w.heap.size,2,none⟩=some (.int .i64 ep)/\w'.cell? ⟨mb,4,none⟩=some (.int .i64 n):=⟨h.w0,h.w1,h.w2,h.m4⟩
theorem xoP {σ:Type}{L:(Nat->Nat)->World->σ->Nat->Prop}{LF QF:Nat}{lc qc:Array Value}{T0:Nat->Nat}(X:QW)(hX:xaH X=0)(E:Env σ)(st0:σ)(hEc:E.cz=X.cz)(s:QV)(name:ByteArray)(args:List QV)(cv hv av:Value)(w:World)(hTo:∀ x,x<w.heap.size->T0 x=0\/T0 x=3)(hC:xai (Fx T0 w) w cv X.cz)(hH:xaD (Fx T0 w) w hv X.heap)(hA:xaO (Fx T0 w) w av args)(hn:name.size<=140737488351232)(hLo:Lok L)(hL:L T0 w st0 (min E.fuel.toNat 400))(hCx:0<=E.fuel->E.fuel<=400->∀ cv',Cx (⟨E,cv',X.ez,.func (.func LF) #[] lc,.func (.func QF) #[] qc⟩:Mp σ) L LF lc QF qc) :
  Calls Try.prog 12 #[WV cv hv X.ez,ClV s name av,.int .i64 E.fuel,.func (.func LF) #[] lc,.func (.func QF) #[] qc] w fun e w'=>WiPost L T0 w X (xh1 E X st0 s name args E.fuel) e w':=by
 obtain⟨fuel,hfuel⟩:∃ fuel,E.fuel=fuel:=⟨_,rfl⟩;rw[hfuel] at hL ⊢;have HFU:=hid hfuel;clear hfuel;have hR:=xjE w cv hv X.ez s name av;have hbW:Below w.heap.size w ((((w.alloc (.cells #[cv,hv,.int .i64 X.ez] 25)).alloc (.cells #[.int .i64 s.k,.int .i64 s.n,.string name,av] 30)).alloc (.cells #[.slice none 0 0,.slice none 0 0,.int .i64 0] 25)).alloc (.cells #[.int .i64 0,.int .i64 0,.int .i64 0,.int .i64 0] 35)):=xaf (xbP _ _ _) (xbP _ _ _);obtain⟨ac,cc,hcv,-,-,hby,-⟩:=id hC;obtain⟨ah,ch,hhv,-,-,hbyh,-⟩:=id hH;obtain⟨aa,ca,hav,-⟩:=id hA;subst hcv hhv hav;go_enter Try.func12,Try.ntmps12
 go_upto_region 1 with (fail)
 generalize ((((w.alloc (.cells #[.slice ac X.cz.length cc,.slice ah X.heap.length ch,.int .i64 X.ez] 25)).alloc (.cells #[.int .i64 s.k,.int .i64 s.n,.string name,.slice aa args.length ca] 30)).alloc (.cells #[.slice none 0 0,.slice none 0 0,.int .i64 0] 25)).alloc (.cells #[.int .i64 0,.int .i64 0,.int .i64 0,.int .i64 0] 35))=W at *;obtain⟨w0,w1,w2,c0,c1,c2,c3,-⟩:=id hR;have hwr:=xnF X s name args fuel (.slice ac X.cz.length cc) _ _ W ⟨_,_,_,rfl⟩ (hH.later xaE hbW) (hA.later xa1 hbW) hn;have HPE:Hid (xh1 E X st0 s name args fuel=if xar X s name args fuel≠0 then (⟨X.heap,xaU,xar X s name args fuel,0⟩,st0) else (xrY X (xeR E X st0 s name args),(xeR E X st0 s name args).1.st)):=rfl
 have HWI:Hid (xar X s name args fuel=0->(0<=fuel/\fuel<=400)/\xax X.heap.length s=0/\VsOk X.heap.length args):=xfn;obtain⟨ws,hws⟩:∃ ws,xar X s name args fuel=ws:=⟨_,rfl⟩;rw[hws] at hwr HPE HWI;clear hws;go_wp2_with fail;refine hwr.mono ?_;rintro e w1' ⟨rfl,hbv⟩;have hR1:=hR.later hbv;have HB1:=hid (xaf hbW hbv);clear w0 w1 w2 c0 c1 c2 c3 hwr hR;have hown:=fun w' (k:Kp (fun t=>t=3) T0 w w')=>xoQ X _ _ w' (hC.fx xaA (.refl _ _) k (by omega)) (hH.fx xaE (.refl _ _) k (by omega))
 obtain⟨w0,w1,w2,c0,c1,c2,c3,-⟩:=id hR1
 by_cases hz:ws=0
 ·have hz':(ws != 0)=false:=by simpa using hz
  rw[if_neg (by simpa using hz)] at HPE
  obtain⟨hfu,hsl,hvs⟩:=HWI.out hz;clear HWI hz;have hq1:=xrw;have hq2:=xrq;have hsf:∀ (w:World) (a:Addr) (k:Nat) (c:Array Value),(store a (.func (.func k) #[] c)).run Try.prog w=stored Try.prog w a (.func (.func k) #[] c) .plain:=fun w a k c=>run_store Try.prog w a _ _ rfl
  go_wp2_with fail;refine (hown _ (Kp.of_below HB1.out)).mono ?_;rintro e w2' ⟨g,gh,sh,rfl,hCo,hHo,hgh,hbo⟩;have hR2:=hR1.later hbo;have hsz:=hR1.sz;have HB2:=hid (xaf HB1.out hbo);clear w0 w1 w2 c0 c1 c2 c3 hR1;have hbM:=xak w2' (MB (⟨E,.slice (some ⟨g,0,none⟩) X.cz.length X.cz.length,X.ez,.func (.func LF) #[] lc,.func (.func QF) #[] qc⟩:Mp σ) (⟨X.heap,0,0,st0⟩:Mc σ) 0 (.slice (some ⟨gh,0,none⟩) X.heap.length X.heap.length));have hbw3:=xaf HB2.out hbM;have hgl:gh<w2'.heap.size:=by obtain⟨cur,h1,-⟩:=hHo.row;exact xal h1
  have hs2:=hbo.size;have TO:∀ x,x<w.heap.size->xmf T0 w.heap.size gh w2'.heap.size x=T0 x:=fun x hx=>by unfold xmf;rw[if_pos hx]
  have T4:∀ i,i<4->xmf T0 w.heap.size gh w2'.heap.size (w.heap.size+i)=4:=fun i hi=>by unfold xmf;rw[if_neg (by omega),if_pos (by omega)]
  have Tc:∀ x,w1'.heap.size<=x->x<gh->xmf T0 w.heap.size gh w2'.heap.size x=0:=fun x h1 h2=>by unfold xmf;rw[if_neg (by omega),if_neg (by omega),if_pos h2]
  have Th:∀ x,gh<=x->x<w2'.heap.size->xmf T0 w.heap.size gh w2'.heap.size x=2:=fun x h1 h2=>by unfold xmf;rw[if_neg (by omega),if_neg (by omega),if_neg (by omega),if_pos h2]
  have Tm:xmf T0 w.heap.size gh w2'.heap.size w2'.heap.size=1:=by unfold xmf;rw[if_neg (by omega),if_neg (by omega),if_neg (by omega),if_neg (by omega)]
  generalize xmf T0 w.heap.size gh w2'.heap.size=Tg at *
  have hM3:MacAt (⟨E,.slice (some ⟨g,0,none⟩) X.cz.length X.cz.length,X.ez,.func (.func LF) #[] lc,.func (.func QF) #[] qc⟩:Mp σ) Tg (w2'.alloc (MB (⟨E,.slice (some ⟨g,0,none⟩) X.cz.length X.cz.length,X.ez,.func (.func LF) #[] lc,.func (.func QF) #[] qc⟩:Mp σ) (⟨X.heap,0,0,st0⟩:Mc σ) 0 (.slice (some ⟨gh,0,none⟩) X.heap.length X.heap.length))) w2'.heap.size ⟨X.heap,0,0,st0⟩ 0 (.slice (some ⟨gh,0,none⟩) X.heap.length X.heap.length) gh sh:=
   ⟨qzJ w2' _,Tm,(hHo.heap hbyh Th).keep (.refl _ _) (Kp.of_below (S:=fun _=>False) hbM) id,by rw[hEc];exact hCo.keep xaA (Keeps.of_below hbM) fun x hx=>⟨by have:=hx.2;simp;omega,Tc x hx.1 hx.2⟩⟩
  have hXt:Ext T0 Tg w:=fun x hx=>TO x hx
  have hkT:Kp (fun _=>False) T0 w (w2'.alloc (MB (⟨E,.slice (some ⟨g,0,none⟩) X.cz.length X.cz.length,X.ez,.func (.func LF) #[] lc,.func (.func QF) #[] qc⟩:Mp σ) (⟨X.heap,0,0,st0⟩:Mc σ) 0 (.slice (some ⟨gh,0,none⟩) X.heap.length X.heap.length))):=Kp.of_below hbw3
  have hLk:L Tg (w2'.alloc (MB (⟨E,.slice (some ⟨g,0,none⟩) X.cz.length X.cz.length,X.ez,.func (.func LF) #[] lc,.func (.func QF) #[] qc⟩:Mp σ) (⟨X.heap,0,0,st0⟩:Mc σ) 0 (.slice (some ⟨gh,0,none⟩) X.heap.length X.heap.length))) st0 (E.fuel-0).toNat:=by
   rw[HFU.out,Int.sub_zero];rw[Nat.min_eq_left (by omega)] at hL
   exact hLo.keep hL hXt hkT id id
  have hA3:=hA.fx xa1 hXt hkT id;have hMi:MIn (⟨E,.slice (some ⟨g,0,none⟩) X.cz.length X.cz.length,X.ez,.func (.func LF) #[] lc,.func (.func QF) #[] qc⟩:Mp σ).E (⟨X.heap,0,0,st0⟩:Mc σ):=⟨by show HOk E.cz X.heap;rw[hEc];exact xhj hX,⟨by simp,by show (0:Int)<=E.fuel;rw[HFU.out];exact hfu.1⟩,by simp⟩
  have hfst:=xl8 (hCx (by rw[HFU.out];exact hfu.1) (by rw[HFU.out];exact hfu.2) (.slice (some ⟨g,0,none⟩) X.cz.length X.cz.length)) hM3 hLk hMi s name args _ hsl hvs hA3 (K:=5) (qzC _)
  have hR3:=hR2.later hbM;have HBW3:=hid hbw3;have HCo3:Hid (xai (fun x=>w1'.heap.size<=x/\x<gh) (w2'.alloc (MB (⟨E,.slice (some ⟨g,0,none⟩) X.cz.length X.cz.length,X.ez,.func (.func LF) #[] lc,.func (.func QF) #[] qc⟩:Mp σ) (⟨X.heap,0,0,st0⟩:Mc σ) 0 (.slice (some ⟨gh,0,none⟩) X.heap.length X.heap.length))) (.slice (some ⟨g,0,none⟩) X.cz.length X.cz.length) X.cz):=hCo.later xaA hbM
  clear hM3 hLk hA3 hMi hCo hHo hR2 hbM hbo hL
  have HRE:Hid (xeR E X st0 s name args=xa4 (⟨E,.slice (some ⟨g,0,none⟩) X.cz.length X.cz.length,X.ez,.func (.func LF) #[] lc,.func (.func QF) #[] qc⟩:Mp σ).E 20 ⟨X.heap,0,0,st0⟩ (xaB (⟨E,.slice (some ⟨g,0,none⟩) X.cz.length X.cz.length,X.ez,.func (.func LF) #[] lc,.func (.func QF) #[] qc⟩:Mp σ).E.cz (xas X.heap s) name).1 (xaB (⟨E,.slice (some ⟨g,0,none⟩) X.cz.length X.cz.length,X.ez,.func (.func LF) #[] lc,.func (.func QF) #[] qc⟩:Mp σ).E.cz (xas X.heap s) name).2 s args):=by
   show xeR E X st0 s name args=xa4 E 20 ⟨X.heap,0,0,st0⟩ (xaB E.cz (xas X.heap s) name).1 (xaB E.cz (xas X.heap s) name).2 s args
   rw[hEc];rfl
  rw[← HRE.out] at hfst;clear HRE;obtain⟨R,hRn⟩:∃ R,xeR E X st0 s name args=R:=⟨_,rfl⟩;rw[hRn] at hfst HPE;clear hRn;obtain⟨rm,v,er⟩:=R;unfold xrY at HPE;simp only at HPE;obtain⟨V3,hV3⟩:∃ V3,V3=w2'.alloc (MB (⟨E,.slice (some ⟨g,0,none⟩) X.cz.length X.cz.length,X.ez,.func (.func LF) #[] lc,.func (.func QF) #[] qc⟩:Mp σ) (⟨X.heap,0,0,st0⟩:Mc σ) 0 (.slice (some ⟨gh,0,none⟩) X.heap.length X.heap.length)):=⟨_,rfl⟩;rw[← hV3] at hfst hR3 HBW3 HCo3;have hV3':(w2'.alloc (.cells #[.slice (some ⟨g,0,none⟩) X.cz.length X.cz.length,.slice (some ⟨gh,0,none⟩) X.heap.length X.heap.length,.int .i64 X.ez,.int .i64 fuel,.int .i64 0,.int .i64 0,.int .i64 0,.func (.func LF) #[] lc,.func (.func QF) #[] qc] 109))=V3:=by rw[hV3,← HFU.out]
  have hz3:w2'.heap.size<V3.heap.size:=by rw[hV3];simp
  clear hV3
  go_upto_region 9 with (fail)
  try rw[hV3']
  clear hV3';obtain⟨w0,w1,w2,c0,c1,c2,c3,-⟩:=id hR3;have HMB:Hid (w2'.heap.size<V3.heap.size):=hz3;clear hz3 hq1 hq2 hsf;generalize w2'.heap.size=mb at *;go_wp2_with fail;refine hfst.mono ?_;rintro e w4 ⟨rfl,⟨T4',hX4,⟨hv4,g4,s4,hM4⟩,hL4⟩,hK4⟩;simp only at hM4 hL4;have hR4:=hR3.kp hK4 (fun i hi=>by rw[T4 i hi];unfold All;omega)
  have HB4:Hid (Kp (fun t=>t=3) T0 w w4):=⟨hK4.os.trans HBW3.out.os,hK4.tape.trans HBW3.out.tape,hK4.output.trans HBW3.out.output,qzD HBW3.out.size hK4.size,fun x hx hs=>(hK4.blk x (qzE hx HBW3.out.size) (by rw[TO x hx];have:=hTo x hx;unfold All;omega)).trans (HBW3.out.block x hx)⟩
  have HX4:Hid (Ext T0 T4' w):=hXt.trans HBW3.out.size hX4;have HL4:=hid hL4;have t42:T4' (w.heap.size+2)=4:=by rw[hX4 _ (by have:=hR3.sz;omega)];exact T4 2 (by omega)
  have t43:T4' (w.heap.size+3)=4:=by rw[hX4 _ (by have:=hR3.sz;omega)];exact T4 3 (by omega)
  have hlm4:mb<w4.heap.size:=xal hM4.box;have hmw:w.heap.size+4<=mb:=by omega
  have HCo4:Hid (xai (fun x=>(T4' x=0\/T4' x=2)/\w.heap.size<=x) w4 (.slice (some ⟨g,0,none⟩) X.cz.length X.cz.length) X.cz):=HCo3.out.keep xaA (Keeps.of_block fun x hx hl=>hK4.blk x hl (by rw[Tc x hx.1 hx.2];unfold All;omega)) fun x hx=>⟨Or.inl (by rw[hX4 x (by have:=HMB.out;have:=hx.2;omega),Tc x hx.1 hx.2]),by have:=hx.1;omega⟩
  have TZ:Hid (∀ x,x<w.heap.size->T4' x=0\/T4' x=3):=fun x hx=>by rw[hX4 x (qzE hx HBW3.out.size),TO x hx];exact hTo x hx
  clear hfst w0 w1 w2 c0 c1 c2 c3 hR3 hX4 hK4 HCo3 TO T4 Tc Th Tm hL4 hXt hkT;have hbv4:=xak w4 (.cells #[.int .i64 v.k,.int .i64 v.n] 27);have hM5:=hM4.later hbv4;have HCo5:=hid (HCo4.out.later xaA hbv4);have hR5:=hR4.later hbv4;have HB5:=hid (HB4.out.on hbv4);have HL5:=hid (hLo.keep HL4.out (.refl _ _) (Kp.of_below (S:=fun _=>False) hbv4) id id)
  have v0:(w4.alloc (.cells #[.int .i64 v.k,.int .i64 v.n] 27)).cell? ⟨w4.heap.size,0,none⟩=some (.int .i64 v.k):=xaa _ _ _ _ rfl 0;have v1:(w4.alloc (.cells #[.int .i64 v.k,.int .i64 v.n] 27)).cell? ⟨w4.heap.size,1,none⟩=some (.int .i64 v.n):=xaa _ _ _ _ rfl 1;have hsz4:=hR4.sz
  go_upto_region 10 with (fail)
  clear hM4 hR4 hbv4;generalize hv4z:w4.heap.size=vb at *;generalize (w4.alloc (.cells #[.int .i64 v.k,.int .i64 v.n] 27))=V5 at *
  by_cases he:er=0
  ·have he':(er != 0)=false:=by simpa using he
   rw[if_neg (by simpa using he)] at HPE
   clear he;obtain⟨cap4,hv4e,-⟩:=hM5.heap.form;have m0:V5.cell? ⟨mb,0,none⟩=some (.slice (some ⟨g,0,none⟩) X.cz.length X.cz.length):=hM5.c0;have m1:=hM5.c1;have m2:V5.cell? ⟨mb,2,none⟩=some (.int .i64 X.ez):=hM5.c2;have m4:=hM5.c4;rw[hv4e] at m1;have HQ:=hid fun u0 u1 u2 v0 v1 v2 v3=>WiPost.fin hLo (r:=(⟨rm.heap,v,0,rm.sz_⟩,rm.st)) (P:=fun x=>(T4' x=0\/T4' x=2)/\w.heap.size<=x) HB5.out HX4.out HL5.out t42 t43 HCo5.out (hM5.heap.heap.mono xaE fun x hx=>⟨Or.inr hx.2,Nat.le_of_not_lt fun hl=>by have:=TZ.out x hl;rw[hx.2] at this;omega⟩) (fun h=>by have:=h.1;rw[t42] at this;omega) (fun h=>by have:=h.1;rw[t43] at this;omega) (fun x hx=>⟨hx.2,by have:=hx.1;omega⟩) u0 u1 u2 v0 v1 v2 v3
   rw[hv4e] at HQ;obtain⟨w0,w1,w2,c0,c1,c2,c3,a0,a1,a2,af,b0,b1,b2,b3,bf,-⟩:=id hR5;have n1:¬ mb=w.heap.size+2:=by omega
   have n2:¬ mb=w.heap.size+3:=by omega
   have n3:¬ w.heap.size+2=mb:=by omega
   have n4:¬ w.heap.size+3=mb:=by omega
   have n5:¬ vb=w.heap.size+2:=by omega
   have n6:¬ vb=w.heap.size+3:=by omega
   have n7:¬ w.heap.size+2=vb:=by omega
   have n8:¬ w.heap.size+3=vb:=by omega
   clear hM5 hR5 hv4e;simp only[Nat.add_assoc,Nat.reduceAdd] at *;go_wp2
   go_region
   all_goals (
    go_wp2;rw[HPE.out];refine qzK (v:=.tuple #[WV (.slice (some ⟨g,0,none⟩) X.cz.length X.cz.length) (.slice (some ⟨g4,0,none⟩) rm.heap.length cap4) X.ez,RnV ⟨rm.heap,v,0,rm.sz_⟩]) ?_ rfl ((HQ.out _ _ _ _ _ _ _).drew hLo)
    simp[results,Try.results12,go_sem,a0,a1,a2,b0,b1,b2,b3])
  ·have he':(er != 0)=true:=by simpa using he
   rw[if_pos (by simpa using he)] at HPE
   clear he;have m4:=hM5.c4;have hownD:=hown V5.drew HB5.out.drew;have hS0:EeR w mb (.slice ac X.cz.length cc) (.slice ah X.heap.length ch) X.ez rm.sz_ V5.drew:=⟨hR5.w0,hR5.w1,hR5.w2,m4,by omega⟩
   have hRd:=hR5.later (qzL _ V5).drew;have HB6:=hid HB5.out.drew;have HX6:Hid (Ext T0 (xaF T4' V5.drew 4) w):=HX4.out.trans HB6.out.size (xaq T4' V5.drew 4);have HL6:Hid (L (xaF T4' V5.drew 4) V5.drew rm.st _):=hLo.keep HL5.out (fun x hx=>xaq T4' V5.drew 4 x hx) (Kp.refl (fun _=>False) _ _).drew id id
   have t62:xaF T4' V5.drew 4 (w.heap.size+2)=4:=by rw[xaq T4' V5.drew 4 _ (by have:=hRd.sz;omega)];exact t42
   have t63:xaF T4' V5.drew 4 (w.heap.size+3)=4:=by rw[xaq T4' V5.drew 4 _ (by have:=hRd.sz;omega)];exact t43
   have hV5z:w.heap.size+4<=V5.drew.heap.size:=hRd.sz;clear hM5 hR5 m4;simp only[Nat.add_assoc,Nat.reduceAdd] at *;go_wp2
   go_region_held3 (fun w'=>w'.cell? ⟨w.heap.size,0,none⟩=some (.slice ac X.cz.length cc)/\w'.cell? ⟨w.heap.size,1,none⟩=some (.slice ah X.heap.length ch)/\w'.cell? ⟨w.heap.size,2,none⟩=some (.int .i64 X.ez)/\w'.cell? ⟨mb,4,none⟩=some (.int .i64 rm.sz_))
    (first | with_reducible exact hS0.al | with_reducible exact hY.al | with_reducible exact (((hY.set (Or.inl rfl) _ _).set (Or.inl rfl) _ _).set (Or.inl rfl) _ _).al | with_reducible exact (((((((hY.set (Or.inl rfl) _ _).set (Or.inl rfl) _ _).set (Or.inl rfl) _ _).set (Or.inr rfl) _ _).set (Or.inr rfl) _ _).set (Or.inr rfl) _ _).set (Or.inr rfl) _ _).al | with_reducible exact ((((hY.set (Or.inr rfl) _ _).set (Or.inr rfl) _ _).set (Or.inr rfl) _ _).set (Or.inr rfl) _ _).al)
    (first | (go_at_call 39;refine hownD.mono ?_;rintro e w6 ⟨g',gh',sh',rfl,hCo,hHo,hgh',hbo⟩;have hY:=hS0.later hbo;have HQ:=hid (fun u0 u1 u2 v0 v1 v2 v3=>WiPost.fin hLo (r:=(⟨X.heap,xaU,er,rm.sz_⟩,rm.st)) (P:=fun b=>V5.drew.heap.size<=b) (HB6.out.on hbo) HX6.out (hLo.keep HL6.out (.refl _ _) (Kp.of_below (S:=fun _=>False) hbo) id id) t62 t63 (hCo.mono xaA fun b h=>h.1) ((hHo.isHeap hbyh).mono xaE fun b h=>qzD hgh' h) (by omega) (by omega) (fun x hx=>⟨by omega,by rw[xaJ hx];omega⟩) u0 u1 u2 v0 v1 v2 v3);obtain⟨-,-,-,-,-,-,-,a0,a1,a2,af,b0,b1,b2,b3,bf,-⟩:=id (hRd.later hbo);clear hCo hHo))
   all_goals (
    go_wp2;rw[HPE.out];refine qzK (v:=.tuple #[WV (.slice (some ⟨g',0,none⟩) X.cz.length X.cz.length) (.slice (some ⟨gh',0,none⟩) X.heap.length X.heap.length) X.ez,RnV ⟨X.heap,xaU,er,rm.sz_⟩]) ?_ rfl (HQ.out _ _ _ _ _ _ _)
    simp[results,Try.results12,go_sem,a0,a1,a2,b0,b1,b2,b3])
 ·have hz':(ws != 0)=true:=by simpa using hz
  rw[if_pos (by simpa using hz)] at HPE
  clear HWI hz;go_wp2_with fail;refine (hown _ (Kp.of_below HB1.out)).mono ?_;rintro e w2' ⟨g,gh,sh,rfl,hCo,hHo,hgh,hbo⟩;have hR2:=hR1.later hbo;have hsz:=hR1.sz;have HQ:=hid fun u0 u1 u2 v0 v1 v2 v3=>WiPost.fin hLo (r:=(⟨X.heap,xaU,ws,0⟩,st0)) (P:=fun b=>w1'.heap.size<=b) (Kp.of_below (xaf HB1.out hbo)) (xaq T0 w 4) (hLo.keep hL (xaq T0 w 4) (Kp.of_below (S:=fun _=>False) (xaf HB1.out hbo)) id id) (xaJ (by omega)) (xaJ (by omega)) (hCo.mono xaA fun b h=>h.1) ((hHo.isHeap hbyh).mono xaE fun b h=>by omega) (by omega) (by omega) (fun x hx=>⟨by omega,by rw[xaJ (by omega)];omega⟩) u0 u1 u2 v0 v1 v2 v3
  clear w0 w1 w2 c0 c1 c2 c3 hCo hHo hown;obtain⟨w0,w1,w2,c0,c1,c2,c3,a0,a1,a2,af,b0,b1,b2,b3,bf,-⟩:=id hR2;go_wp2;rw[HPE.out];refine qzK (v:=.tuple #[WV (.slice (some ⟨g,0,none⟩) X.cz.length X.cz.length) (.slice (some ⟨gh,0,none⟩) X.heap.length X.heap.length) X.ez,RnV ⟨X.heap,xaU,ws,0⟩]) ?_ rfl (HQ.out _ _ _ _ _ _ _)
  simp[results,Try.results12,go_sem,a0,a1,a2,b0,b1,b2,b3]
theorem xmK {fn:Nat}{f:Func}(hf:Try.prog.funcs[fn]?=some f)(hn:(f.name == "runtime.NumGoroutine")=false)(hb:f.body.isSome=true)(args:Array Value)(w:World):(callFunc fn args).run Try.prog w=.ok (.enter fn args) w:=by
 have h1:¬ f.name = "runtime.NumGoroutine" := by simpa using hn
 have h2:¬ f.body=none:=by intro h;rw[h] at hb;cases hb
 simp[callFunc,hf,h1,h2]
theorem xna {X:QW}(h:xaH X=0){c n:Int}{m:QM}(hm:xaI X.cz c n=some m):m.code.length<=60:=by
 obtain⟨hs,-,hk,-⟩:=xcl h;obtain⟨kc,kn,x,rfl,rfl,hx,hxm⟩:=xfm hm;have h1:=hk kc x (xae hx) hx;unfold rkE at h1
 split at h1
 ·cases h1
 ·split at h1
  ·cases h1
  ·have h2:=xbM h1 kn m hxm;unfold rmE at h2
   split at h2
   ·cases h2
   ·split at h2
    ·rename_i hp
     have:m.code.length=0:=by
      unfold xgQ at hp;rw[List.any_eq_true] at hp;obtain⟨p,-,hp⟩:=hp
      simp at hp
      simp[hp]
     omega
    ·unfold xd9 at h2
     split at h2
     ·rename_i hw;exact absurd h2 hw
     ·rename_i hw;have:=xkn (by simpa using hw)
      omega
def PlPost (w:World)(X:QW)(r:Ran)(e:Ending)(w':World):Prop:=
 Below w.heap.size w w'/\∃ cv hv,e=.returned (.tuple #[WV cv hv X.ez,RnV r])/\xai (fun b=>w.heap.size<=b) w' cv X.cz/\xaD (fun b=>w.heap.size<=b) w' hv r.heap
theorem WiPost.plain {σ:Type}{L:(Nat->Nat)->World->σ->Nat->Prop}{w w':World}{X:QW}{r:Ran × σ}{e:Ending}(h:WiPost L (fun _=>0) w X r e w'):PlPost w X r.1 e w':=by
 obtain⟨hk,T',-,-,cv,hv,rfl,h1,h2⟩:=h
 exact⟨hk.below (fun b _=>by omega) (qzC _),cv,hv,rfl,h1.mono xaA fun b h=>h.1,h2.mono xaE fun b h=>h.1⟩
theorem xiR (X:QW)(b:Nat)(cv hv:Value):Lok (LkP X b cv hv):=⟨fun h e k h0 _=>h.keep e k h0,fun h _=>⟨h.tag,h.lt,h.w0,h.w1,h.w2,h.cls,h.heap⟩⟩
theorem xjs {α:Type}(p:α->Bool)(xs:List α):xcP p xs=-1\/∃ (j:Nat) (x:α),xcP p xs=(j:Int)/\xs[j]?=some x/\p x=true/\∀ i y,i<j->xs[i]?=some y->p y=false:=by
 unfold xcP
 cases h:xs.findIdx? p with
 | none=>left;rfl
 | some j=>
  right
  rw[List.findIdx?_eq_some_iff_getElem] at h;obtain⟨hj,hp,hn⟩:=h;refine⟨j,xs[j],rfl,by simp[hj],hp,fun i y hi hy=>?_⟩
  have:=hn i hi;rw[List.getElem?_eq_getElem (by omega)] at hy
  cases hy
  simpa using this
def xcI (i:QI):Bool:=i.op == 14 || i.op == 13
def xdj (m:QM):Bool:=m.prim == 0 && !m.code.any xcI
theorem xk2 (x:QI)(w:World):Calls Try.prog 76 #[IV x] w fun e w'=>e=.returned (.bool (xcI x))/\Below w.heap.size w w':=by
 by_cases h:x.op=14
 ·have hd:(x.op == 14)=true:=by simpa using h
  have HS:Hid (xcI x=true):=by show _=_;simp[xcI,h]
  clear h;go_enter Try.func76,Try.ntmps76;go_wp2
  go_ret
  exact⟨xby HS.out.symm,xak _ _⟩
 ·have hd:(x.op == 14)=false:=by simpa using h
  have HS:Hid (xcI x=(x.op == 13)):=by show _=_;simp[xcI,h]
  clear h;go_enter Try.func76,Try.ntmps76;go_wp2
  go_ret
  exact⟨xby HS.out.symm,xak _ _⟩
theorem xlH {P:Nat->Prop}(xs:List QI)(v:Value)(w:World)(hh:xaR P w v xs) :
  Calls Try.prog 97 #[v,.func (.func 76) #[] #[]] w fun e w'=>e=.returned (.int .i64 (xcP xcI xs))/\Below w.heap.size w w':=by
 obtain⟨ad,cap,rfl,hl,hcap,hby,hrow⟩:=hh;go_enter Try.func97,Try.ntmps97;go_wp2
 go_loopg [8] xs.length (fun g c wr=>∃ j:Nat,j+g=xs.length/\c=.int .i64 j/\Below w.heap.size w wr/\∀ i y,i<j->xs[i]?=some y->xcI y=false)
 case atStart=>exact⟨0,by omega,rfl,qzL _ _,fun i y hi=>by omega⟩
 case round=>
  obtain⟨j,hj,rfl,hbel,hno⟩:=hrel;have HN:Hid (∀ i y,i<j->xs[i]?=some y->xcI y=false):=hno;clear hno
  by_cases hlt:j<xs.length
  ·obtain⟨b,o,rfl,-,hv0,hv1,hv2,hv3,hv4,hsz⟩:=hrow j xs[j] (by simp[hlt])
   have hxj:Hid (xs[j]?=some xs[j]):=by show _=_;simp[hlt]
   generalize xs[j]=x at *;simp only[Nat.add_zero] at hv0;have u0:=qzA hbel hv0;have u1:=qzA hbel hv1;have u2:=qzA hbel hv2;have u3:=qzA hbel hv3;have u4:=qzA hbel hv4;clear hv0 hv1 hv2 hv3 hv4 hrow;have hj1:(j:Int)<(xs.length:Int):=by omega
   have hj0:(0:Int)<=(j:Int):=by omega
   go_wp2_with fail;refine (xk2 x _).mono ?_;rintro e w1 ⟨rfl,hb⟩
   by_cases hp:xcI x=true
   ·go_wp2
    go_ret
    exact⟨xan (xfG hxj.out hp HN.out).symm,xaf hbel hb⟩
   ·have hp':xcI x=false:=by simpa using hp
    clear hp;go_wp2
    go_roundg (gk-1)
    case measure=>omega
    case rel=>
     refine⟨j+1,by omega,by go_num,xaf hbel hb,fun i y hi hy=>?_⟩
     by_cases hij:i=j
     ·subst hij;rw[hxj.out] at hy;cases hy;exact hp'
     ·exact HN.out i y (by omega) hy
  ·obtain rfl:j=xs.length:=by omega
   go_wp2
   go_ret
   exact⟨xan (xdW fun i y hy=>HN.out i y (xae hy) hy).symm,hbel⟩
theorem xnd {α:Type}(p:α->Bool)(xs:List α):decide (0<=xcP p xs)=xs.any p:=by
 unfold xcP
 cases h:xs.findIdx? p with
 | none=>
  rw[List.findIdx?_eq_none_iff] at h
  have:xs.any p=false:=by
   rw[List.any_eq_false];intro x hx
   simp[h x hx]
  simp[this]
 | some j=>
  rw[List.findIdx?_eq_some_iff_getElem] at h;obtain⟨h1,h2,-⟩:=h
  have:xs.any p=true:=by
   rw[List.any_eq_true]
   exact⟨_,List.getElem_mem h1,h2⟩
  rw[this]
  simp
theorem xiG {P:Nat->Prop}(xs:List QI)(v:Value)(w:World)(hh:xaR P w v xs) :
  Calls Try.prog 75 #[v,.func (.func 76) #[] #[]] w fun e w'=>e=.returned (.bool (xs.any xcI))/\Below w.heap.size w w':=by
 go_enter Try.func75,Try.ntmps75;go_wp2_with fail;refine (xlH xs v _ hh).mono ?_;rintro e w1 ⟨rfl,hb⟩;go_wp2
 go_ret
 exact⟨xby (xnd xcI xs),hb⟩
theorem xkA {P:Nat->Prop}(x:QM)(v:Value)(w:World)(hh:xaR P w v x.code):Calls Try.prog 54 #[MV x v] w fun e w'=>e=.returned (.bool (xdj x))/\Below w.heap.size w w':=by
 obtain⟨ad,cap,rfl,-⟩:=id hh
 by_cases h:x.prim=0
 ·have hd:(x.prim == 0)=true:=by simpa using h
  have HS:Hid (xdj x=!x.code.any xcI):=by show _=_;simp[xdj,h]
  clear h;go_enter Try.func54,Try.ntmps54;go_wp2_with fail;refine (xiG x.code _ _ (hh.later xa2 (xak _ _))).mono ?_;rintro e w1 ⟨rfl,hb⟩;go_wp2
  go_ret
  exact⟨xby HS.out.symm,xea (qzL _ _) hb⟩
 ·have hd:(x.prim == 0)=false:=by simpa using h
  have HS:Hid (xdj x=false):=by show _=_;simp[xdj,h]
  clear h;go_enter Try.func54,Try.ntmps54;go_wp2
  go_ret
  exact⟨xby HS.out.symm,xak _ _⟩
theorem xhC {xs:List QC}{name:ByteArray}:∀ (l:List Int),0<=(xcJ xs name l).2->(xcJ xs name l).2=xcw (xbG xs (xcJ xs name l).1) name
 | [],h=>by simp[xcJ] at h
 | k :: r,h=>by
  unfold xcJ at h ⊢
  by_cases hk:0<=xcw (xbG xs k) name
  ·rw[if_pos hk]
  ·rw[if_neg hk] at h ⊢
   exact xhC r h
theorem xiv {xs:List QC}{k:Int}{name:ByteArray}(h:0<=xcw (xbG xs k) name):∃ (q:Nat) (x:QC),k=(q:Int)/\xs[q]?=some x/\xbG xs k=x.mz:=by
 unfold xbG at h ⊢
 cases hx:xbx xs k with
 | none=>rw[hx] at h;simp[xcw,xcP] at h
 | some x=>
  obtain⟨q,rfl,hq⟩:=xa7 hx
  exact⟨q,x,rfl,hq,rfl⟩
theorem xg5 {xs:List QC}{name:ByteArray}:∀ {l:List Int},(∀ k∈l,0<=k)->((xcJ xs name l).1<0/\(xcJ xs name l).2<0)\/(0<=(xcJ xs name l).1/\0<=(xcJ xs name l).2)
 | [],_=>Or.inl (by simp[xcJ])
 | k :: r,h=>by
  unfold xcJ
  split
  ·rename_i hk
   exact Or.inr ⟨h k (by simp),hk⟩
  ·exact xg5 fun q hq=>h q (by simp[hq])
theorem xla (xs:List QC)(c:Int)(name:ByteArray):((xaB xs c name).1<0/\(xaB xs c name).2<0)\/(0<=(xaB xs c name).1/\0<=(xaB xs c name).2):=by
 rw[xhw];refine xg5 fun k hk=>?_
 obtain⟨i,hi,rfl⟩:=List.mem_iff_getElem.1 hk;obtain⟨q,x,e,-⟩:=xfH _ _ i _ (by rw[List.getElem?_eq_getElem hi])
 rw[e];omega
theorem xk5 {xs:List QC}{k:Int}{name:ByteArray}(h:0<=(xaB xs k name).2):∃ (q:Nat) (x:QC) (t:Nat) (y:QM),xaB xs k name=((q:Int),(t:Int))/\xs[q]?=some x/\x.mz[t]?=some y:=by
 rw[xhw] at h ⊢;generalize xdB xs (xs.length+1) k=l at *;have h1:=xhC l h;have h2:0<=xcw (xbG xs (xcJ xs name l).1) name:=by omega
 obtain⟨q,x,hq,hx,hm⟩:=xiv h2;rw[hm] at h1 h2
 rcases xjs (fun m:QM=>eqN m.name name) x.mz with h3 | ⟨t,y,ht,hy,hp,-⟩
 ·have:xcw x.mz name=-1:=h3
  omega
 ·have ht':xcw x.mz name=(t:Int):=ht;refine⟨q,x,t,y,?_,hx,hy⟩;rw[ht'] at h1
  exact Prod.ext hq h1
theorem xfd (xs:List QC)(k:Int)(name:ByteArray):((xaB xs k name).1<0/\(xaB xs k name).2<0)\/∃ (q:Nat) (x:QC) (t:Nat) (y:QM),xaB xs k name=((q:Int),(t:Int))/\xs[q]?=some x/\x.mz[t]?=some y:=by
 rcases xla xs k name with h | h
 ·exact Or.inl h
 ·exact Or.inr (xk5 h.2)
abbrev ins (op a b c:Int):QI:=⟨op,a,b,c,⟨#[]⟩⟩
def xay (self args temps first behind:Int)(x:QI):QI:=
 if x.op=1 then ins 3 self 0 0
 else if x.op=2 then ins 3 (args+x.a) 0 0
 else if x.op=3\/x.op=11 then ins x.op (temps+x.a) 0 0
 else if x.op=4 then ins 19 self x.a 0
 else if x.op=12 then ins 20 self x.a 0
 else if x.op=15\/x.op=16 then ins x.op (first+x.a) 0 0
 else if x.op=17 then ins 15 behind 0 0
 else x
def xdd (args:Int):Nat->List QI
 | 0=>[]
 | n+1=>ins 11 (args+n) 0 0 :: xdd args n
def xco (temps:Int)(n:Nat):List QI:=(List.range n).flatMap fun k=>[ins 6 0 0 0,ins 11 (temps+(k:Nat)) 0 0]
theorem xdV (temps:Int)(n:Nat):xco temps (n+1)=xco temps n++[ins 6 0 0 0,ins 11 (temps+(n:Nat)) 0 0]:=by
 unfold xco;rw[List.range_succ,List.flatMap_append];simp
theorem xdP (temps:Int):∀ n,(xco temps n).length=2*n
 | 0=>rfl
 | n+1=>by rw[xdV,List.length_append,xdP temps n];simp;omega
theorem xfV (args:Int):∀ n,(xdd args n).length=n
 | 0=>rfl
 | n+1=>by simp[xdd,xfV args n]
def xfy (leaf:QM)(guard:QI)(self:Int):List QI:=[guard,ins 21 0 0 0]++xdd (self+1) leaf.args.toNat++[ins 11 self 0 0]++xco (self+1+leaf.args) leaf.temps.toNat
def xbw (leaf:QM)(n:Int):Int:=n+3+leaf.args+2*leaf.temps
def xbu (leaf:QM)(guard:QI)(self n:Int):List QI:=xfy leaf guard self++leaf.code.map (xay self (self+1) (self+1+leaf.args) (xbw leaf n) (xbw leaf n+leaf.code.length))
theorem xnx (leaf:QM)(guard:QI)(self:Int):(xfy leaf guard self).length=3+leaf.args.toNat+2*leaf.temps.toNat:=by
 unfold xfy;simp[xfV,xdP];omega
theorem xbB (leaf:QM)(guard:QI)(self n:Int):(xbu leaf guard self n).length=3+leaf.args.toNat+2*leaf.temps.toNat+leaf.code.length:=by
 unfold xbu;rw[List.length_append,xnx];simp
def xd5 (xs:List QC)(k:Int)(name:ByteArray):Option QM:=if (xaB xs k name).2<0 then none else (xs[(xaB xs k name).1.toNat]?).bind fun x=>x.mz[(xaB xs k name).2.toNat]?
def xa3 (xs:List QC)(sites:List Int)(at':Nat)(x:QI):Option QM:=
 if x.op=14/\0<=sites.getD at' (-1) then
  match xd5 xs (sites.getD at' (-1)) x.name with
  | none=>none
  | some m=>if m.args=x.a/\xdj m=true then some m else none
 else none
def xgy (n temps:Int)(leaf:QM)(left:Int):Bool:=decide (n+3+leaf.args+2*leaf.temps+leaf.code.length+left<=240/\temps+1+leaf.args+leaf.temps<=40)
def xbh (x:QI)(at':Int):QI:=if x.op=14 then { x with c:=at' } else x
def xdZ (xs:List QC)(sites:List Int)(len:Nat)(n temps:Int)(at':Nat)(x:QI):Option QM:=
 match xa3 xs sites at' x with
 | none=>none
 | some leaf=>if xgy n temps leaf ((len:Int)-at')=true then some leaf else none
structure Bd where
 code:List QI
 temps:Int
 begins:List Int
 pieces:Nat
def xdA (xs:List QC)(sites:List Int)(len:Nat)(s:Bd)(at':Nat)(x:QI):Bd:=
 match xdZ xs sites len s.code.length s.temps at' x with
 | none=>⟨s.code++[xbh x at'],s.temps,s.begins++[(s.code.length:Int)],s.pieces⟩
 | some leaf=>⟨s.code++xbu leaf (ins 18 (sites.getD at' (-1)) leaf.args at') s.temps s.code.length,s.temps+1+leaf.args+leaf.temps,s.begins++[(s.code.length:Int)],s.pieces+1⟩
def xah (xs:List QC)(sites:List Int)(m:QM):Nat->Bd
 | 0=>⟨[],m.temps,[],0⟩
 | k+1=>match m.code[k]? with
  | none=>xah xs sites m k
  | some x=>xdA xs sites m.code.length (xah xs sites m k) k x
theorem xbg {xs:List QC}{sites:List Int}{m:QM}{k:Nat}{x:QI}(h:m.code[k]?=some x):xah xs sites m (k+1)=xdA xs sites m.code.length (xah xs sites m k) k x:=by
 rw[xah,h]
theorem xel (xs:List QC)(sites:List Int)(len:Nat)(s:Bd)(k:Nat)(x:QI):(xdA xs sites len s k x).begins=s.begins++[(s.code.length:Int)]:=by
 unfold xdA;split<;>rfl
theorem xbF {xs:List QC}{sites:List Int}{m:QM}:∀ {k:Nat},k<=m.code.length->(xah xs sites m k).begins.length=k
 | 0,_=>rfl
 | k+1,h=>by
  rw[xbg (List.getElem?_eq_getElem (by omega)),xel,List.length_append,xbF (by omega)];rfl
def xeh (begins:List Int)(x:QI):Option Int:=if (x.op=15\/x.op=16)/\0<=x.a then begins[x.a.toNat]? else none
def xdC (begins:List Int)(plain:List QI)(code:List QI):Nat->List QI
 | 0=>code
 | k+1=>match plain[k]?,begins[k]? with
  | some x,some b=>match xeh begins x with
   | some t=>(xdC begins plain code k).modify b.toNat fun y=>{ y with a:=t }
   | none=>xdC begins plain code k
  | _,_=>xdC begins plain code k
theorem xdi (begins:List Int)(plain code:List QI):∀ k,(xdC begins plain code k).length=code.length
 | 0=>rfl
 | k+1=>by
  unfold xdC
  split
  ·split
   ·rw[List.length_modify,xdi begins plain code k]
   ·exact xdi begins plain code k
  ·exact xdi begins plain code k
structure Fst where
 cls:Int
 name:ByteArray
 ez:Int
 temps:Int
 code:List QI
def xdw:Fst:=⟨0,⟨#[]⟩,0,0,[]⟩
def xce (X:QW)(c:Int)(m:QM)(sites:List Int):Fst × Bool:=
 let s:=xah X.cz sites m m.code.length
 if s.pieces=0 then (xdw,false) else (⟨c,m.name,X.ez,s.temps,xdC s.begins m.code s.code m.code.length⟩,true)
theorem xcr {p:Prop}(h:p):Hid p:=h
def xdh:Int->List Int->Bool
 | _,[]=>true
 | m,n :: r=>if n<0\/m<n then false else xdh (m-n) r
theorem xoi {α:Type}{xs:List α}{j:Nat}{x:α}(h:xs[j]?=some x):xs.drop j=x :: xs.drop (j+1):=by
 obtain⟨hj,rfl⟩:=List.getElem?_eq_some_iff.1 h
 exact List.drop_eq_getElem_cons hj
theorem xks {P:Nat->Prop}(ps:List Int)(v:Value)(m:Int)(w:World)(hm:0<=m/\m<=1000)(h:xc5 P w v ps):Calls Try.prog 55 #[.int .i64 m,v] w fun e w'=>e=.returned (.bool (xdh m ps))/\w'=w:=by
 obtain⟨ad,cap,rfl,hl,hcap,hby,hrow⟩:=h;go_enter Try.func55,Try.ntmps55;go_wp2
 go_loopg [0,9] ps.length (fun g mv c wr=>∃ (j:Nat) (mm:Int),j+g=ps.length/\c=.int .i64 j/\mv=.int .i64 mm/\(0<=mm/\mm<=1000)/\Hid (xdh m ps=xdh mm (ps.drop j))/\wr=w)
 case atStart=>exact⟨0,m,by omega,rfl,rfl,hm,rfl,rfl⟩
 case round=>
  obtain⟨j,mm,hj,rfl,rfl,⟨hm0,hm1⟩,HF,rfl⟩:=hrel
  by_cases hlt:j<ps.length
  ·have hx:ps[j]?=some ps[j]:=by simp[hlt]
   have HX:=xcr hx;obtain⟨b,o,rfl,-,y0⟩:=hrow j ps[j] hx;generalize ps[j]=x at *;have hj1:(j:Int)<(ps.length:Int):=by omega
   have hj0:(0:Int)<=(j:Int):=by omega
   replace y0:wr.cell? ⟨b,o+j,none⟩=some (.int .i64 x):=by simpa [xpr] using y0
   clear hrow hx;have HS:Hid (xdh m ps=if x<0\/mm<x then false else xdh (mm-x) (ps.drop (j+1))):=by show _=_;rw[HF.out,xoi HX.out];rfl
   by_cases h0:x<0
   ·have hd:decide (x<0)=true:=by simpa using h0
    have HR:Hid (xdh m ps=false):=by show _=_;rw[HS.out,if_pos (Or.inl h0)]
    clear h0;go_wp2
    go_ret
    exact⟨xby HR.out.symm,rfl⟩
   ·have hd:decide (x<0)=false:=by simpa using h0
    by_cases h1:mm<x
    ·have hd1:decide (mm<x)=true:=by simpa using h1
     have HR:Hid (xdh m ps=false):=by show _=_;rw[HS.out,if_pos (Or.inr h1)]
     clear h0 h1;go_wp2
     go_ret
     exact⟨xby HR.out.symm,rfl⟩
    ·have hd1:decide (mm<x)=false:=by simpa using h1
     have HR:Hid (xdh m ps=xdh (mm-x) (ps.drop (j+1))):=by show _=_;rw[HS.out,if_neg (by omega)]
     have hw:IntKind.i64.wrap (mm-x)=mm-x:=xat (by omega) (by omega)
     have HM:Hid (0<=mm-x/\mm-x<=1000):=by show _/\_;omega
     clear h0 h1;go_wp2
     go_roundg (gk-1)
     case measure=>omega
     case rel=>exact⟨j+1,mm-x,by omega,by go_num,rfl,HM.out,HR.out,rfl⟩
  ·obtain rfl:j=ps.length:=by omega
   have HR:Hid (xdh m ps=true):=by show _=_;rw[HF.out,List.drop_length];rfl
   go_wp2
   go_ret
   exact⟨xby HR.out.symm,rfl⟩
theorem xfT (x:QI)(n:Int)(w:World):Calls Try.prog 34 #[IV x,.int .i64 n] w fun e w'=>e=.returned (IV (xbh x n))/\Below w.heap.size w w':=by
 have hb2:=xbP w (.cells #[.int .i64 x.op,.int .i64 x.a,.int .i64 x.b,.int .i64 x.c,.string x.name] 59) (.cells #[.int .i64 0,.int .i64 0,.int .i64 0,.int .i64 0,.string ⟨#[]⟩] 59)
 by_cases h:x.op=14
 ·have hd:(x.op == 14)=true:=by simpa using h
  have HS:Hid (xbh x n={ x with c:=n }):=by show _=_;unfold xbh;rw[if_pos h]
  clear h;go_enter Try.func34,Try.ntmps34;go_wp2;refine qzK (v:=IV { x with c:=n }) ?_ rfl ⟨by rw[HS.out],?_⟩
  ·simp[results,Try.results34,go_sem]
  ·exact xbP _ _ _
 ·have hd:(x.op == 14)=false:=by simpa using h
  have HS:Hid (xbh x n=x):=by show _=_;unfold xbh;rw[if_neg h]
  clear h;go_enter Try.func34,Try.ntmps34;go_wp2;refine qzK (v:=IV x) ?_ rfl ⟨by rw[HS.out],?_⟩
  ·simp[results,Try.results34,go_sem]
  ·exact xbP _ _ _
abbrev PlV (self args temps first behind:Int):Value:=.agg #[.int .i64 self,.int .i64 args,.int .i64 temps,.int .i64 first,.int .i64 behind]
abbrev FsV (f:Fst)(kv:Value):Value:=.agg #[.int .i64 f.cls,.string f.name,.int .i64 f.ez,.int .i64 f.temps,kv]
theorem xjZ (self args temps first behind:Int)(x:QI)(w:World)(h1:0<=args/\args<=1000)(h2:0<=temps/\temps<=1000)(h3:0<=first/\first<=1000)(ha:(x.op=2\/x.op=3\/x.op=11\/x.op=15\/x.op=16)->0<=x.a/\x.a<=1000) :
  Calls Try.prog 56 #[PlV self args temps first behind,IV x] w fun e w'=>e=.returned (IV (xay self args temps first behind x))/\Below w.heap.size w w':=by
 obtain⟨y,HS⟩:∃ y,Hid (xay self args temps first behind x=y):=⟨_,rfl⟩
 have hb3:=fun (u:Array Value)=>xfL w (.cells #[.int .i64 self,.int .i64 args,.int .i64 temps,.int .i64 first,.int .i64 behind] 101) (.cells #[.int .i64 x.op,.int .i64 x.a,.int .i64 x.b,.int .i64 x.c,.string x.name] 59) (.cells u 59)
 go_enter Try.func56,Try.ntmps56
 by_cases g1:x.op=1
 ·have hd:(x.op == 1)=true:=by simpa using g1
  have HR:Hid (xay self args temps first behind x=ins 3 self 0 0):=by show _=_;unfold xay;rw[if_pos g1]
  clear g1 ha;go_wp2;refine qzK (v:=IV (ins 3 self 0 0)) ?_ rfl ⟨by rw[HR.out],hb3 _⟩
  simp[results,Try.results56,go_sem]
 have d1:(x.op == 1)=false:=by simpa using g1
 by_cases g2:x.op=2
 ·have hd:(x.op == 2)=true:=by simpa using g2
  have HR:Hid (xay self args temps first behind x=ins 3 (args+x.a) 0 0):=by show _=_;unfold xay;rw[if_neg g1,if_pos g2]
  have hw:IntKind.i64.wrap (args+x.a)=args+x.a:=by have:=ha (Or.inl g2);exact xat (by omega) (by omega)
  clear g1 g2 ha;go_wp2;refine qzK (v:=IV (ins 3 (args+x.a) 0 0)) ?_ rfl ⟨by rw[HR.out],hb3 _⟩
  simp[results,Try.results56,go_sem]
 have d2:(x.op == 2)=false:=by simpa using g2
 by_cases g3:x.op=3
 ·have hd:(x.op == 3)=true:=by simpa using g3
  have HR:Hid (xay self args temps first behind x=ins x.op (temps+x.a) 0 0):=by show _=_;unfold xay;rw[if_neg g1,if_neg g2,if_pos (Or.inl g3)]
  have hw:IntKind.i64.wrap (temps+x.a)=temps+x.a:=by have:=ha (Or.inr (Or.inl g3));exact xat (by omega) (by omega)
  clear g1 g2 g3 ha;go_wp2;refine qzK (v:=IV (ins x.op (temps+x.a) 0 0)) ?_ rfl ⟨by rw[HR.out],hb3 _⟩
  simp[results,Try.results56,go_sem]
 have d3:(x.op == 3)=false:=by simpa using g3
 by_cases g11:x.op=11
 ·have hd:(x.op == 11)=true:=by simpa using g11
  have HR:Hid (xay self args temps first behind x=ins x.op (temps+x.a) 0 0):=by show _=_;unfold xay;rw[if_neg g1,if_neg g2,if_pos (Or.inr g11)]
  have hw:IntKind.i64.wrap (temps+x.a)=temps+x.a:=by have:=ha (Or.inr (Or.inr (Or.inl g11)));exact xat (by omega) (by omega)
  clear g1 g2 g3 g11 ha;go_wp2;refine qzK (v:=IV (ins x.op (temps+x.a) 0 0)) ?_ rfl ⟨by rw[HR.out],hb3 _⟩
  simp[results,Try.results56,go_sem]
 have d11:(x.op == 11)=false:=by simpa using g11
 by_cases g4:x.op=4
 ·have hd:(x.op == 4)=true:=by simpa using g4
  have HR:Hid (xay self args temps first behind x=ins 19 self x.a 0):=by show _=_;unfold xay;rw[if_neg g1,if_neg g2,if_neg (by omega),if_pos g4]
  clear g1 g2 g3 g11 g4 ha;go_wp2;refine qzK (v:=IV (ins 19 self x.a 0)) ?_ rfl ⟨by rw[HR.out],hb3 _⟩
  simp[results,Try.results56,go_sem]
 have d4:(x.op == 4)=false:=by simpa using g4
 by_cases g12:x.op=12
 ·have hd:(x.op == 12)=true:=by simpa using g12
  have HR:Hid (xay self args temps first behind x=ins 20 self x.a 0):=by show _=_;unfold xay;rw[if_neg g1,if_neg g2,if_neg (by omega),if_neg g4,if_pos g12]
  clear g1 g2 g3 g11 g4 g12 ha;go_wp2;refine qzK (v:=IV (ins 20 self x.a 0)) ?_ rfl ⟨by rw[HR.out],hb3 _⟩
  simp[results,Try.results56,go_sem]
 have d12:(x.op == 12)=false:=by simpa using g12
 by_cases g15:x.op=15
 ·have hd:(x.op == 15)=true:=by simpa using g15
  have HR:Hid (xay self args temps first behind x=ins x.op (first+x.a) 0 0):=by show _=_;unfold xay;rw[if_neg g1,if_neg g2,if_neg (by omega),if_neg g4,if_neg g12,if_pos (Or.inl g15)]
  have hw:IntKind.i64.wrap (first+x.a)=first+x.a:=by have:=ha (Or.inr (Or.inr (Or.inr (Or.inl g15))));exact xat (by omega) (by omega)
  clear g1 g2 g3 g11 g4 g12 g15 ha;go_wp2;refine qzK (v:=IV (ins x.op (first+x.a) 0 0)) ?_ rfl ⟨by rw[HR.out],hb3 _⟩
  simp[results,Try.results56,go_sem]
 have d15:(x.op == 15)=false:=by simpa using g15
 by_cases g16:x.op=16
 ·have hd:(x.op == 16)=true:=by simpa using g16
  have HR:Hid (xay self args temps first behind x=ins x.op (first+x.a) 0 0):=by show _=_;unfold xay;rw[if_neg g1,if_neg g2,if_neg (by omega),if_neg g4,if_neg g12,if_pos (Or.inr g16)]
  have hw:IntKind.i64.wrap (first+x.a)=first+x.a:=by have:=ha (Or.inr (Or.inr (Or.inr (Or.inr g16))));exact xat (by omega) (by omega)
  clear g1 g2 g3 g11 g4 g12 g15 g16 ha;go_wp2;refine qzK (v:=IV (ins x.op (first+x.a) 0 0)) ?_ rfl ⟨by rw[HR.out],hb3 _⟩
  simp[results,Try.results56,go_sem]
 have d16:(x.op == 16)=false:=by simpa using g16
 by_cases g17:x.op=17
 ·have hd:(x.op == 17)=true:=by simpa using g17
  have HR:Hid (xay self args temps first behind x=ins 15 behind 0 0):=by show _=_;unfold xay;rw[if_neg g1,if_neg g2,if_neg (by omega),if_neg g4,if_neg g12,if_neg (by omega),if_pos g17]
  clear g1 g2 g3 g11 g4 g12 g15 g16 g17 ha;go_wp2;refine qzK (v:=IV (ins 15 behind 0 0)) ?_ rfl ⟨by rw[HR.out],hb3 _⟩
  simp[results,Try.results56,go_sem]
 have d17:(x.op == 17)=false:=by simpa using g17
 have HR:Hid (xay self args temps first behind x=x):=by show _=_;unfold xay;rw[if_neg g1,if_neg g2,if_neg (by omega),if_neg g4,if_neg g12,if_neg (by omega),if_neg g17]
 clear g1 g2 g3 g11 g4 g12 g15 g16 g17 ha;go_wp2;refine qzK (v:=IV x) ?_ rfl ⟨by rw[HR.out],hb3 _⟩
 simp[results,Try.results56,go_sem]
theorem xfv {w:World}(T ty e:TypeId)(z:Value)(sz bytes:Nat)(hT:Try.prog.underlying T=some (.slice e))(hI:(Try.prog.info? e).map (fun i=>(i.zero,i.size,i.bytes))=some (some z,sz,bytes))(hzs:z.cells.size=sz)(hsz:0<sz)
  (base n:Nat) (v:Value) (xs:List Value) (hown:ownsAt w base e sz v n xs) (ad:Addr) (k kc:Nat) (hk:0<k) (news:List Value) (hl:news.length=k*sz) (hnews:∀ j u,news[j]?=some u->w.cell? (ad.add j)=some u) (h1:∀ u∈news,u.oneCell'=true) (h63:n+k<=maxLen) (hby:(n+k)*bytes<=140737488355328) (hbase:base<=w.heap.size) :
  ∃ v' w',(Builtin.append_ #[T,T] ty #[v,.slice (some ad) k kc]).run Try.prog w=.ok v' w'/\ownsAt w' base e sz v' (n+k) (xs++news)/\(v'.ownBlock=v.ownBlock\/∃ g,v'.ownBlock=some g/\w.heap.size<=g)/\Below base w w'/\(∀ b,b<w.heap.size->some b≠v.ownBlock->w'.heap[b]?=w.heap[b]?):=by
 obtain⟨i0,hi,hz0,hz1,hz2⟩:=xa8 hI;obtain⟨hxl,⟨rfl,rfl⟩ | ⟨g,o,cap,cur,rfl,h3,h4,h5,h6,h7,h8⟩⟩:=id hown
 ·obtain⟨v',w',hrun,r1,r2,_⟩:=run_append_own (P:=Try.prog) w w.heap.size T ty e i0 z sz bytes hT hi hz0 hz1 hz2 hzs hsz (.slice none 0 0) 0 [] (World.ownsRow_nil w _ e sz) ad k kc news hl hnews h1 h63 hby (qzC _);have hxs:xs=[]:=List.eq_nil_of_length_eq_zero (by simpa using hxl)
  subst hxs;refine⟨v',w',hrun,xcK (by simpa using r1) hbase,Or.inr ?_,?_,fun b hb hne=>r2.block b hb hne⟩
  ·obtain⟨-,h | ⟨g,c,cur,e,h3,h4,-⟩⟩:=r1
   ·omega
   ·exact⟨g,by rw[e];rfl,h3⟩
  ·exact (qzL _ _).grown r2 hbase fun k hk=>by cases hk
 ·by_cases hr:n+k<=cap
  ·have hcs:cur.toList.length=cur.size:=by simp
   have hon:o+n*sz+news.length<=cur.size:=by
    have:(n+k)*sz<=cap*sz:=Nat.mul_le_mul_right _ hr;rw[Nat.add_mul] at this
    omega
   have hrun:=run_append_room_cells (P:=Try.prog) w T ty e i0 hT hi g o n cap ad k kc news (by rw[hz1];exact hl) hnews h1 hr (fun j hj=>by rw[hz1,qzB h4];simp;omega) (fun j hj=>by unfold World.frozen?;simp[h4])
   rw[hz1] at hrun;have hrow:=xcQ news (o+n*sz) w cur h4 hon;refine⟨_,_,hrun,⟨by rw[List.length_append,hxl,hl,Nat.add_mul],Or.inr ⟨g,o,cap,_,rfl,h3,hrow,hr,h6,?_,?_⟩⟩,Or.inl rfl,?_,fun b hb hne=>xa0 (fun e=>hne (by rw[e];rfl)) _ _ _⟩
   ·simp
    omega
   ·rw[← h8]
    apply List.ext_getElem?
    intro i;simp only[List.getElem?_take,List.getElem?_drop,List.getElem?_append,List.length_append,List.length_take,List.length_drop,hcs];have e1:min (o+n*sz) cur.size=o+n*sz:=by omega
    have e2:min (n*sz) (cur.size-o)=n*sz:=by omega
    rw[e1,e2];have e3:(n+k)*sz=n*sz+k*sz:=by rw[Nat.add_mul]
    rw[e3]
    by_cases g1:i<n*sz
    ·simp[g1,show i<n*sz+k*sz by omega,show o+i<o+n*sz by omega,show o+i<o+n*sz+news.length by omega]
    ·by_cases g2:i<n*sz+k*sz
     ·simp[g1,g2,show ¬ (o+i<o+n*sz) by omega,show o+i<o+n*sz+news.length by omega,show o+i-(o+n*sz)=i-n*sz by omega]
     ·simp[g1,g2]
      omega
   ·refine⟨?_,?_,?_,?_,fun k hk=>xa0 (by omega) _ _ _⟩
    ·exact (xbk _ _ _ _).os
    ·exact (xbk _ _ _ _).tape
    ·exact (xbk _ _ _ _).output
    ·rw[xbJ];exact qzC _
  ·obtain⟨v',w',hrun,r1,r2⟩:=run_append_arg_grows (P:=Try.prog) w T ty e i0 z sz bytes hT hi hz0 hz1 hz2 hzs hsz ⟨g,o,none⟩ n cap xs hxl (fun j u hu=>by
    rw[Addr.add_lit,qzB h4];rw[← h8,List.getElem?_take] at hu
    split at hu
    ·rw[List.getElem?_drop] at hu;simpa using hu
    ·cases hu) ad k kc news hl hnews (by omega) h63 hby
   refine⟨v',w',hrun,xcK r1 hbase,Or.inr ?_,?_,fun b hb hne=>r2.block b hb (by simp)⟩
   ·obtain⟨-,h | ⟨g,c,cur,e,h3,h4,-⟩⟩:=r1
    ·omega
    ·exact⟨g,by rw[e];rfl,h3⟩
   ·exact (qzL _ _).grown r2 hbase fun k hk=>by cases hk
theorem xfN {ops:Array Oper}{rest:List Oper}{o:Oper}{a:Act}{w:World}{Q:Exit->Act->World->Prop}(hgd:o.guard=none)(s x:Operand)(T e:TypeId)(z:Value)(sz bytes:Nat)
  (hop:o.op=Op.call { callee:=Callee.builtin Builtin.append,args:=#[s,x],argTypes:=#[T,T] }) (hT:Try.prog.underlying T=some (.slice e)) (hI:(Try.prog.info? e).map (fun i=>(i.zero,i.size,i.bytes))=some (some z,sz,bytes)) (hzs:z.cells.size=sz) (hsz:0<sz)
  (base n:Nat) (v:Value) (xs:List Value) (hs:a.eval s=v) (hown:ownsAt w base e sz v n xs) (ad:Addr) (k kc:Nat) (hk:0<k) (hx:a.eval x=.slice (some ad) k kc) (news:List Value) (hl:news.length=k*sz) (hnews:∀ j u,news[j]?=some u->w.cell? (ad.add j)=some u) (h1:∀ u∈news,u.oneCell'=true) (h63:n+k<=maxLen) (hby:(n+k)*bytes<=140737488355328) (hbase:base<=w.heap.size)
  (hK:∀ a' cap' w',ownsAt w' base e sz (.slice a' (n+k) cap') (n+k) (xs++news)->((Value.slice a' (n+k) cap').ownBlock=v.ownBlock\/∃ g,(Value.slice a' (n+k) cap').ownBlock=some g/\w.heap.size<=g)->Below base w w'->(∀ b,b<w.heap.size->some b≠v.ownBlock->w'.heap[b]?=w.heap[b]?)->wpList Try.prog ops Q rest (a.put o.dst (.slice a' (n+k) cap')) w') :
  wpList Try.prog ops Q (o :: rest) a w:=by
 refine wpList_plain hgd fun K hKK=>?_
 obtain⟨v',w',hrun,r1,r2,r3,r4⟩:=xfv T o.type e z sz bytes hT hI hzs hsz base n v xs hown ad k kc hk news hl hnews h1 h63 hby hbase;obtain⟨a',cap',rfl,-⟩:=r1.form;unfold Oper.wp
 simp[execOp,hop,resolve,invoke,builtin,hs,hx,hrun,Result.andThen]
 exact hKK _ _ (hK a' cap' w' r1 r2 r3 r4)
theorem xf6 {α:Type}{E:Lay α}{sz bytes:Nat}(G:Good E sz){t:TypeId}{Q:Nat->Prop}{B n:Nat}{v:Value}{w:World}{cs:List Value}{xs:List α}(hown:ownsAt w B t sz v n cs)(hc:Cells E sz Q w cs xs)(hn:xs.length=n)(hQ:∀ b,B<=b->b<w.heap.size->Q b)(hby:n*bytes<=140737488351232):IsRow E sz bytes Q w v xs:=by
 obtain⟨h0,⟨rfl,h1⟩ | ⟨g,o,cap,cur,rfl,h3,h4,h5,h6,h7,h8⟩⟩:=hown
 ·obtain rfl:=List.eq_nil_of_length_eq_zero (hn.trans h1)
  exact xbn
 ·subst hn;refine⟨_,_,rfl,h5,h6,hby,fun i x hx=>⟨g,o,rfl,hQ _ h3 (xal h4),G.move (hc.2 i x hx) (fun _ h=>h) (.refl _ _) fun k hk v hv=>?_⟩⟩
  rw[← h8,List.getElem?_take] at hv
  split at hv
  ·rw[List.getElem?_drop] at hv;rw[qzB h4,Nat.add_assoc]
   simpa using hv
  ·cases hv
def xa9:List QI->List Value
 | []=>[]
 | x :: r=>.int .i64 x.op :: .int .i64 x.a :: .int .i64 x.b :: .int .i64 x.c :: .string x.name :: xa9 r
theorem xdT:∀ q,(xa9 q).length=q.length*5
 | []=>rfl
 | p :: q=>by simp[xa9,xdT q];omega
theorem xeJ:∀ q r,xa9 (q++r)=xa9 q++xa9 r
 | [],r=>rfl
 | p :: q,r=>by simp[xa9,xeJ q r]
theorem xho:∀ (q:List QI),∀ u∈xa9 q,u.oneCell'=true
 | [],u,h=>by simp[xa9] at h
 | p :: q,u,h=>by
  simp only[xa9,List.mem_cons] at h
  rcases h with rfl | rfl | rfl | rfl | rfl | h
  ·rfl
  ·rfl
  ·rfl
  ·rfl
  ·rfl
  ·exact xho q u h
theorem xhc:∀ {q:List QI} {i:Nat} {x:QI},q[i]?=some x->(xa9 q)[i*5]?=some (.int .i64 x.op)/\(xa9 q)[i*5+1]?=some (.int .i64 x.a)/\(xa9 q)[i*5+2]?=some (.int .i64 x.b)/\(xa9 q)[i*5+3]?=some (.int .i64 x.c)/\(xa9 q)[i*5+4]?=some (.string x.name)
 | [],i,x,h=>by simp at h
 | p :: q,0,x,h=>by simp at h;subst h;exact⟨rfl,rfl,rfl,rfl,rfl⟩
 | p :: q,i+1,x,h=>by
  have:=xhc (q:=q) (i:=i) (x:=x) (by simpa using h)
  rw[show (i+1)*5=i*5+1+1+1+1+1 by omega]
  exact this
def NmOk (xs:List QI):Prop:=∀ x∈xs,x.name.size<=140737488351232
theorem NmOk.append {xs ys:List QI}(h:NmOk xs)(k:NmOk ys):NmOk (xs++ys):=fun x hx=>by
 rcases List.mem_append.1 hx with h' | h'
 ·exact h x h'
 ·exact k x h'
theorem xiE {P:Nat->Prop}{w:World}{xs:List QI}(h:NmOk xs):Cells xeu 5 P w (xa9 xs) xs:=⟨xdT _,fun i x hx=>by
 obtain⟨h0,h1,h2,h3,h4⟩:=xhc hx
 exact⟨by simpa using h0,h1,h2,h3,h4,h x (List.mem_of_getElem? hx)⟩⟩
theorem xrl {P:Nat->Prop}{w:World}{B:Nat}{v:Value}{xs:List QI}(h:ownsAt w B 59 5 v xs.length (xa9 xs))(hn:NmOk xs)(hP:∀ b,B<=b->b<w.heap.size->P b)(hl:xs.length<=100000):xaR P w v xs:=xf6 xa2 h (xiE hn) rfl hP (by omega)
end Go.Proofs.Ytdfbgpiikeheiaa
