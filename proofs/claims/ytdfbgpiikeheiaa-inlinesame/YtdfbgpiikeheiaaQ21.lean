/- A part. -/
import Derived.Test.YtdfbgpiikeheiaaQ20
namespace Go.Proofs.Ytdfbgpiikeheiaa
open Go.ChangeShapes Go.WideShapes Go.ChangeAt Go.RowKit
set_option linter.unusedSimpArgs false
set_option linter.unusedVariables false
set_option maxHeartbeats 8000000
set_option maxRecDepth 8000
theorem w64 {n:Int}(h0:-9223372036854775808<=n)(h1:n<=9223372036854775807):wrap64 n=n:=by unfold wrap64;omega
theorem xjv {N:Int}(h:0<=N)(h1:N<=2000000000000000000):wrap64 (N-wrap64 (wrap64 (N.tdiv 1073741825)*1073741825))=N.tmod 1073741825:=by
 have e:N.tdiv 1073741825=N / 1073741825:=Int.tdiv_eq_ediv_of_nonneg h;have t:N.tmod 1073741825=N % 1073741825:=Int.tmod_eq_emod_of_nonneg h;rw[e,t];have h2:0<=N / 1073741825/\N / 1073741825*1073741825<=N:=by omega
 rw[w64 (n:=N / 1073741825) (by omega) (by omega),w64 (n:=N / 1073741825*1073741825) (by omega) (by omega),w64 (by omega) (by omega)]
 omega
theorem xjG {N:Int}(h:¬ 0<=N)(h1:-2000000000000000000<=N):wrap64 (N+wrap64 (wrap64 ((wrap64 (-N)).tdiv 1073741825)*1073741825))=N.tmod 1073741825:=by
 rw[w64 (n:=-N) (by omega) (by omega)]
 have e:(-N).tdiv 1073741825=(-N) / 1073741825:=Int.tdiv_eq_ediv_of_nonneg (by omega)
 have t:N.tmod 1073741825=-((-N) % 1073741825):=by
  rw[← Int.tmod_eq_emod_of_nonneg (show (0:Int)<=-N by omega),Int.neg_tmod,Int.neg_neg]
 rw[e,t];rw[w64 (n:=(-N) / 1073741825) (by omega) (by omega),w64 (n:=(-N) / 1073741825*1073741825) (by omega) (by omega),w64 (by omega) (by omega)]
 omega
theorem xlY (p:Int)(a b:QV)(w:World)(ha:a.k=3->-1073741824<=a.n/\a.n<=1073741824)(hb:b.k=3->-1073741824<=b.n/\b.n<=1073741824):Calls Try.prog 64 #[.int .i64 p,VV a,VV b] w fun e w'=>e=.returned (.tuple #[VV (xbR p a b).1,.int .i64 (xbR p a b).2])/\Below w.heap.size w w':=by
 have hR:=xm5 w a b;go_enter Try.func64,Try.ntmps64
 go_upto_region 1 with (fail)
 generalize (((w.alloc (.cells #[.int .i64 a.k,.int .i64 a.n] 27)).alloc (.cells #[.int .i64 b.k,.int .i64 b.n] 27)).alloc (.cells #[.int .i64 0,.int .i64 0] 27))=W at *;obtain⟨-,a0,a1,b0,b1,r0,r1,rf,sz⟩:=id hR;simp only[Nat.add_assoc,Nat.reduceAdd] at *
 by_cases hk:a.k=3/\b.k=3
 ·have hab:=And.intro (ha hk.1) (hb hk.2);have ak':(a.k != 3)=false:=by simpa using hk.1
  have bk':(b.k != 3)=false:=by simpa using hk.2
  have hP:xbR p a b=if p=1 then (⟨3,(a.n+b.n).tmod 1073741825⟩,0) else if p=2 then (⟨3,(a.n-b.n).tmod 1073741825⟩,0) else if p=3 then (⟨3,(a.n*b.n).tmod 1073741825⟩,0) else if p=4 then (⟨if a.n<b.n then 2 else 1,0⟩,0) else if p=5 then (⟨if a.n=b.n then 2 else 1,0⟩,0) else (xaU,1):=by unfold xbR;rw[if_neg (by omega)]
  have wadd:IntKind.i64.wrap (a.n+b.n)=a.n+b.n:=xat (by omega) (by omega)
  have wsub:IntKind.i64.wrap (a.n-b.n)=a.n-b.n:=xat (by omega) (by omega)
  have hm:=xmL hab.1 hab.2;have wmul:IntKind.i64.wrap (a.n*b.n)=a.n*b.n:=xat (by omega) (by omega)
  have hA:=hid hab;have hM:=hid hm;clear hab hm ha hb hk
  by_cases hp1:p=1
  ·have hV:Hid (xbR p a b=(⟨3,(a.n+b.n).tmod 1073741825⟩,0)):=by show _=_;rw[hP];rw[if_pos hp1]
   have hq1:(p == 1)=true:=by simpa using hp1
   clear hP
   by_cases hs:0<=a.n+b.n
   ·have HM:=hid (xjv hs (by have:=hA.out;omega))
    go_wp2;refine qzK (v:=.tuple #[VV ⟨3,(a.n+b.n).tmod 1073741825⟩,.int .i64 0]) ?_ rfl ⟨by have:=hV.out;first | rw[this] | (rw[hp1] at this;rw[this]),(hR.bel.setCell (by simp) _).setCell (by simp) _⟩
    simp[results,Try.results64,go_sem,r0,r1]
    exact HM.out
   ·have HM:=hid (xjG hs (by have:=hA.out;omega))
    go_wp2;refine qzK (v:=.tuple #[VV ⟨3,(a.n+b.n).tmod 1073741825⟩,.int .i64 0]) ?_ rfl ⟨by have:=hV.out;first | rw[this] | (rw[hp1] at this;rw[this]),(hR.bel.setCell (by simp) _).setCell (by simp) _⟩
    simp[results,Try.results64,go_sem,r0,r1]
    exact HM.out
  have hq1:(p == 1)=false:=by simpa using hp1
  by_cases hp2:p=2
  ·have hV:Hid (xbR p a b=(⟨3,(a.n-b.n).tmod 1073741825⟩,0)):=by show _=_;rw[hP];rw[if_neg hp1];rw[if_pos hp2]
   have hq2:(p == 2)=true:=by simpa using hp2
   clear hP
   by_cases hs:0<=a.n-b.n
   ·have HM:=hid (xjv hs (by have:=hA.out;omega))
    go_wp2;refine qzK (v:=.tuple #[VV ⟨3,(a.n-b.n).tmod 1073741825⟩,.int .i64 0]) ?_ rfl ⟨by have:=hV.out;first | rw[this] | (rw[hp2] at this;rw[this]),(hR.bel.setCell (by simp) _).setCell (by simp) _⟩
    simp[results,Try.results64,go_sem,r0,r1]
    exact HM.out
   ·have HM:=hid (xjG hs (by have:=hA.out;omega))
    go_wp2;refine qzK (v:=.tuple #[VV ⟨3,(a.n-b.n).tmod 1073741825⟩,.int .i64 0]) ?_ rfl ⟨by have:=hV.out;first | rw[this] | (rw[hp2] at this;rw[this]),(hR.bel.setCell (by simp) _).setCell (by simp) _⟩
    simp[results,Try.results64,go_sem,r0,r1]
    exact HM.out
  have hq2:(p == 2)=false:=by simpa using hp2
  by_cases hp3:p=3
  ·have hV:Hid (xbR p a b=(⟨3,(a.n*b.n).tmod 1073741825⟩,0)):=by show _=_;rw[hP];rw[if_neg hp1];rw[if_neg hp2];rw[if_pos hp3]
   have hq3:(p == 3)=true:=by simpa using hp3
   clear hP
   by_cases hs:0<=a.n*b.n
   ·have HM:=hid (xjv hs (by have:=hM.out;omega))
    go_wp2;refine qzK (v:=.tuple #[VV ⟨3,(a.n*b.n).tmod 1073741825⟩,.int .i64 0]) ?_ rfl ⟨by have:=hV.out;first | rw[this] | (rw[hp3] at this;rw[this]),(hR.bel.setCell (by simp) _).setCell (by simp) _⟩
    simp[results,Try.results64,go_sem,r0,r1]
    exact HM.out
   ·have HM:=hid (xjG hs (by have:=hM.out;omega))
    go_wp2;refine qzK (v:=.tuple #[VV ⟨3,(a.n*b.n).tmod 1073741825⟩,.int .i64 0]) ?_ rfl ⟨by have:=hV.out;first | rw[this] | (rw[hp3] at this;rw[this]),(hR.bel.setCell (by simp) _).setCell (by simp) _⟩
    simp[results,Try.results64,go_sem,r0,r1]
    exact HM.out
  have hq3:(p == 3)=false:=by simpa using hp3
  by_cases hp4:p=4
  ·have hV:Hid (xbR p a b=(⟨if decide (a.n<b.n) then 2 else 1,0⟩,0)):=by show _=_;rw[hP];rw[if_neg hp1];rw[if_neg hp2];rw[if_neg hp3];rw[if_pos hp4];simp
   have hq4:(p == 4)=true:=by simpa using hp4
   clear hP;have hrb:=fun w=>xeE (decide (a.n<b.n)) w
   generalize (if decide (a.n<b.n)=true then (2:Int) else 1)=z at hrb hV;go_wp2_with fail;refine (hrb _).mono ?_;rintro e w1 ⟨rfl,hb1⟩;have hR1:=hR.later hb1;clear a0 a1 b0 b1 r0 r1 rf hR;obtain⟨-,a0,a1,b0,b1,r0,r1,rf,-⟩:=id hR1;go_wp2;refine qzK (v:=.tuple #[VV ⟨z,0⟩,.int .i64 0]) ?_ rfl ⟨by have:=hV.out;first | rw[this] | (rw[hp4] at this;rw[this]),(hR1.bel.setCell (by simp) _).setCell (by simp) _⟩
   simp[results,Try.results64,go_sem,r0,r1]
  have hq4:(p == 4)=false:=by simpa using hp4
  by_cases hp5:p=5
  ·have hV:Hid (xbR p a b=(⟨if (a.n == b.n) then 2 else 1,0⟩,0)):=by show _=_;rw[hP];rw[if_neg hp1];rw[if_neg hp2];rw[if_neg hp3];rw[if_neg hp4];rw[if_pos hp5];simp
   have hq5:(p == 5)=true:=by simpa using hp5
   clear hP;have hrb:=fun w=>xeE ((a.n == b.n)) w
   generalize (if (a.n == b.n)=true then (2:Int) else 1)=z at hrb hV;go_wp2_with fail;refine (hrb _).mono ?_;rintro e w1 ⟨rfl,hb1⟩;have hR1:=hR.later hb1;clear a0 a1 b0 b1 r0 r1 rf hR;obtain⟨-,a0,a1,b0,b1,r0,r1,rf,-⟩:=id hR1;go_wp2;refine qzK (v:=.tuple #[VV ⟨z,0⟩,.int .i64 0]) ?_ rfl ⟨by have:=hV.out;first | rw[this] | (rw[hp5] at this;rw[this]),(hR1.bel.setCell (by simp) _).setCell (by simp) _⟩
   simp[results,Try.results64,go_sem,r0,r1]
  have hq5:(p == 5)=false:=by simpa using hp5
  have hV:Hid (xbR p a b=(xaU,1)):=by show _=_;rw[hP,if_neg hp1,if_neg hp2,if_neg hp3,if_neg hp4,if_neg hp5]
  clear hP;go_wp2;refine qzK (v:=.tuple #[VV xaU,.int .i64 1]) ?_ rfl ⟨by rw[hV.out],(hR.bel.setCell (by simp) _).setCell (by simp) _⟩
  simp[results,Try.results64,go_sem,r0,r1]
 ·have hV:Hid (xbR p a b=(xaU,12)):=by show _=_;unfold xbR;rw[if_pos (by omega)]
  by_cases h1:a.k=3
  ·have ak':(a.k != 3)=false:=by simpa using h1
   have bk':(b.k != 3)=true:=by simp;omega
   go_wp2;refine qzK (v:=.tuple #[VV xaU,.int .i64 12]) ?_ rfl ⟨by rw[hV.out],(hR.bel.setCell (by simp) _).setCell (by simp) _⟩
   simp[results,Try.results64,go_sem,r0,r1]
  ·have ak':(a.k != 3)=true:=by simpa using h1
   go_wp2;refine qzK (v:=.tuple #[VV xaU,.int .i64 12]) ?_ rfl ⟨by rw[hV.out],(hR.bel.setCell (by simp) _).setCell (by simp) _⟩
   simp[results,Try.results64,go_sem,r0,r1]
def xre (p:Rp)(d:Nat):Prop:=
 ∀ (K:Nat) (T:Nat->Nat) (w:World) (mb:Nat) (m:Mc RSt) (hv sv ov:Value) (c n:Int) (self:QV) (args:List QV) (av:Value) (mt:QM) (kv:Value),5<=K->RMac p T w mb m (20-(d:Int)) 0 hv sv ov->MIn p.E m->Few m->FOk p.X.cz m.heap.length (xaK p.E c n mt self args)->PlOk (xaK p.E c n mt self args)->xaO (Fx T w) w av args->xaR (Fx T w) w kv mt.code->
  Calls Try.prog 65 #[.pointer (some ⟨mb,0,none⟩),.int .i64 c,MV mt kv,VV self,av] w fun e w'=>xcT p T w mb (20-(d:Int)) K (xb7 (xa4 p.E d) p.E d (xf4 (xaK p.E c n mt self args)) m (xaK p.E c n mt self args)) e w'
structure ErB (w:World)(sf:QV)(mt:QM)(kv:Value)(w':World):Prop where
 s0:w'.cell? ⟨w.heap.size,0,none⟩=some (.int .i64 sf.k)
 s1:w'.cell? ⟨w.heap.size,1,none⟩=some (.int .i64 sf.n)
 r0:w'.cell? ⟨w.heap.size+1,0,none⟩=some (.int .i64 0)
 r1:w'.cell? ⟨w.heap.size+1,1,none⟩=some (.int .i64 0)
 rf:∀ o,w'.frozen? ⟨w.heap.size+1,o,none⟩=false
 m0:w'.heap[w.heap.size+2]?=some (.cells #[.string mt.name,.int .i64 mt.args,.int .i64 mt.temps,.int .i64 mt.prim,kv] 55 (0,0))
theorem ErB.kp {w:World}{sf:QV}{mt:QM}{kv:Value}{w' w'':World}{S:Nat->Prop}{T:Nat->Nat}(h:ErB w sf mt kv w')(k:Kp S T w' w'')(h0:¬ S (T w.heap.size))(h1:¬ S (T (w.heap.size+1)))(h2:¬ S (T (w.heap.size+2))):ErB w sf mt kv w'':=
 ⟨k.cell h.s0 h0,k.cell h.s1 h0,k.cell h.r0 h1,k.cell h.r1 h1,fun o=>xcp k (by have:=xal h.m0;omega) h1 (h.rf o),k.held h.m0 h2⟩
theorem ErB.later {w:World}{sf:QV}{mt:QM}{kv:Value}{w' w'':World}(h:ErB w sf mt kv w')(hb:Below w'.heap.size w' w''):ErB w sf mt kv w'':=h.kp (S:=fun _=>False) (T:=fun _=>0) (.of_below hb) id id id
theorem xqJ (w:World)(sf:QV)(mt:QM)(kv:Value):ErB w sf mt kv (((w.alloc (.cells #[.int .i64 sf.k,.int .i64 sf.n] 27)).alloc (.cells #[.int .i64 0,.int .i64 0] 27)).alloc (.cells #[.string mt.name,.int .i64 mt.args,.int .i64 mt.temps,.int .i64 mt.prim,kv] 55)):=by
 obtain⟨s0,s1,r0,r1,rf,sz⟩:=xjp w sf;have hb:=xak ((w.alloc (.cells #[.int .i64 sf.k,.int .i64 sf.n] 27)).alloc (.cells #[.int .i64 0,.int .i64 0] 27)) (.cells #[.string mt.name,.int .i64 mt.args,.int .i64 mt.temps,.int .i64 mt.prim,kv] 55);have hz:((w.alloc (.cells #[.int .i64 sf.k,.int .i64 sf.n] 27)).alloc (.cells #[.int .i64 0,.int .i64 0] 27)).heap.size=w.heap.size+2:=by simp
 refine⟨qzA hb s0,qzA hb s1,qzA hb r0,qzA hb r1,fun o=>(hb.frozen (p:=⟨w.heap.size+1,o,none⟩) (by simp)).trans (rf o),?_⟩
 have:=qzJ ((w.alloc (.cells #[.int .i64 sf.k,.int .i64 sf.n] 27)).alloc (.cells #[.int .i64 0,.int .i64 0] 27)) (.cells #[.string mt.name,.int .i64 mt.args,.int .i64 mt.temps,.int .i64 mt.prim,kv] 55);rw[hz] at this
 exact this
section
variable {p:Rp} {d:Nat} {T T1:Nat->Nat} {w U:World} {mb K:Nat} {m:Mc RSt} {hv sv ov:Value} {r:Mc RSt × QV × Int}
theorem xgR {deep:Int}(hE:Ext T T1 w)(hM:RMac p T1 U mb r.1 deep r.2.2 hv sv ov)(hK:Kp (All K) T w U)(h4:T1 (w.heap.size+1)=4):xcT p T w mb deep K r (.returned (VV r.2.1)) ((U.setCell ⟨w.heap.size+1,0,none⟩ (.int .i64 r.2.1.k)).setCell ⟨w.heap.size+1,1,none⟩ (.int .i64 r.2.1.n)):=by
 have k4:Kp (fun t=>t=4) T1 U ((U.setCell ⟨w.heap.size+1,0,none⟩ (.int .i64 r.2.1.k)).setCell ⟨w.heap.size+1,1,none⟩ (.int .i64 r.2.1.n)):=((Kp.refl (fun t=>t=4) T1 U).set (b:=w.heap.size+1) (fun _=>h4) _ _).set (b:=w.heap.size+1) (fun _=>h4) _ _
 exact⟨rfl,⟨T1,_,_,_,hE,hM.keep (.refl _ _) k4 (by omega) (by omega) (by omega) (by omega)⟩,(hK.set (fun h=>by omega) _ _).set (fun h=>by omega) _ _⟩
end
theorem xgZ {h:Int}{v:QV}(hv:xax h v=0):v.k=3->-1073741824<=v.n/\v.n<=1073741824:=fun hk=>by
 unfold xax xcu at hv;rw[hk] at hv
 simp at hv
 omega
structure PmS (W:World)(b:Nat)(q:Int)(s y:QV)(ba oa:Nat)(w':World):Prop where
 c1:w'.cell? ⟨b+2,3,none⟩=some (.int .i64 q)
 c2:w'.cell? ⟨b,0,none⟩=some (.int .i64 s.k)
 c3:w'.cell? ⟨b,1,none⟩=some (.int .i64 s.n)
 c4:w'.cell? ⟨ba,oa,none⟩=some (.int .i64 y.k)
 c5:w'.cell? ⟨ba,oa+1,none⟩=some (.int .i64 y.n)
 bel:Below W.heap.size W w'
 lt:b+2<W.heap.size/\ba<W.heap.size
theorem PmS.later {W:World}{b:Nat}{q:Int}{s y:QV}{ba oa:Nat}{w' w'':World}(h:PmS W b q s y ba oa w')(hb:Below w'.heap.size w' w''):PmS W b q s y ba oa w'':=⟨qzA hb h.c1,qzA hb h.c2,qzA hb h.c3,qzA hb h.c4,qzA hb h.c5,xaf h.bel hb,h.lt⟩
theorem PmS.al {W:World}{b:Nat}{q:Int}{s y:QV}{ba oa:Nat}{w':World}(h:PmS W b q s y ba oa w'):w'.cell? ⟨b+1+1,3,none⟩=some (.int .i64 q)/\w'.cell? ⟨b,0,none⟩=some (.int .i64 s.k)/\w'.cell? ⟨b,1,none⟩=some (.int .i64 s.n)/\w'.cell? ⟨ba,oa,none⟩=some (.int .i64 y.k)/\w'.cell? ⟨ba,oa+1,none⟩=some (.int .i64 y.n)/\PmS W b q s y ba oa w':=⟨h.c1,h.c2,h.c3,h.c4,h.c5,h⟩
theorem PmS.set {W:World}{b:Nat}{q:Int}{s y:QV}{ba oa:Nat}{w':World}(h:PmS W b q s y ba oa w'){x:Nat}(hx:W.heap.size<=x)(o:Nat)(u:Value):PmS W b q s y ba oa (w'.setCell ⟨x,o,none⟩ u):=
 have hl:=h.lt
 ⟨(qzI _ _ _ _ (by simp;omega)).trans h.c1,(qzI _ _ _ _ (by simp;omega)).trans h.c2,(qzI _ _ _ _ (by simp;omega)).trans h.c3,(qzI _ _ _ _ (by simp;omega)).trans h.c4,(qzI _ _ _ _ (by simp;omega)).trans h.c5,h.bel.setCell hx _,hl⟩
theorem xrc {V w2:World}{v:QV}(hb:Below (V.alloc (.cells #[.int .i64 0,.int .i64 0] 27)).drew.heap.size (V.alloc (.cells #[.int .i64 0,.int .i64 0] 27)).drew w2):((w2.setCell ⟨V.heap.size,0,none⟩ (.int .i64 v.k)).setCell ⟨V.heap.size,1,none⟩ (.int .i64 v.n)).cell? ⟨V.heap.size,0,none⟩=some (.int .i64 v.k)/\((w2.setCell ⟨V.heap.size,0,none⟩ (.int .i64 v.k)).setCell ⟨V.heap.size,1,none⟩ (.int .i64 v.n)).cell? ⟨V.heap.size,1,none⟩=some (.int .i64 v.n):=by
 have g0:(V.alloc (.cells #[.int .i64 0,.int .i64 0] 27)).drew.cell? ⟨V.heap.size,0,none⟩=some (.int .i64 0):=xaa V _ _ _ rfl 0;have g1:(V.alloc (.cells #[.int .i64 0,.int .i64 0] 27)).drew.cell? ⟨V.heap.size,1,none⟩=some (.int .i64 0):=xaa V _ _ _ rfl 1;have c0:=qzA hb g0;have c1:=qzA hb g1
 exact⟨(qzM _ _ _ _ (by simp)).trans (World.cell?_setCell_same _ _ _ c0),World.cell?_setCell_same _ _ _ ((qzM _ _ _ _ (by simp)).trans c1)⟩
theorem xg4 {p:Rp}(hX:Rx p)(d:Nat)(hd:d<=20)(hB:∀ d',d=d'+1->xre p d'):xrD p d:=by
 intro K T w mb m hv sv ov c n self args av mt hK h hI hW hSe hAr hA hmt;obtain⟨aa,ca,rfl,-,hca,-,-⟩:=id hA;unfold maxLen at hca;obtain⟨q,j,xc,rfl,rfl,hxc,hxm⟩:=xfm hmt;obtain⟨ac,cc,hcv,hlc,hcc,-,hrow⟩:=id h.cls;obtain⟨bc,oc,hac,-,-,-,-,-,mv,y3,hms⟩:=hrow q xc hxc;obtain⟨am,cm,rfl,hlm,hcm,-,hrm⟩:=hms;obtain⟨b2,o2,rfl,-,z0,z1,z2,z3,-,kv,z4,hco⟩:=hrm j mt hxm;obtain⟨ak,ck,rfl,-⟩:=id hco;subst hac;simp only[Nat.add_zero] at z0;unfold maxLen at hcc hcm;have hq:=xae hxc;have hj:=xae hxm;have hq1:(q:Int)<(p.X.cz.length:Int):=by omega
 have hq0:(0:Int)<=(q:Int):=by omega
 have hj1:(j:Int)<(xc.mz.length:Int):=by omega
 have hj0:(0:Int)<=(j:Int):=by omega
 have hmbl:=xal h.box;have hb2:=xbP w (.cells #[.int .i64 self.k,.int .i64 self.n] 27) (.cells #[.int .i64 0,.int .i64 0] 27);have hb3:=xfL w (.cells #[.int .i64 self.k,.int .i64 self.n] 27) (.cells #[.int .i64 0,.int .i64 0] 27) (.cells #[.string mt.name,.int .i64 mt.args,.int .i64 mt.temps,.int .i64 mt.prim,.slice ak mt.code.length ck] 55);have c0:=qzA hb2 h.c0;rw[hcv] at c0;have y3':=qzA hb2 y3;have z0':=qzA hb2 z0;have z1':=qzA hb2 z1;have z2':=qzA hb2 z2;have z3':=qzA hb2 z3;have z4':=qzA hb2 z4;have hE0:=xqJ w self mt (.slice ak mt.code.length ck);have hM0:=h.keep (xaq T w 4) (Kp.of_below (S:=fun _=>False) hb3) id id id id
 have hA0:=hA.fx xa1 (xaq T w 4) (Kp.of_below (S:=fun _=>False) hb3) id
 have hC0:=hco.fx xa2 (xaq T w 4) (Kp.of_below (S:=fun _=>False) hb3) id
 have HK0:Hid (Kp (All K) T w _):=Kp.of_below hb3;have HRM:=hid (xdS hX.right hmt);have HEN:Hid (xa4 p.E d m q j self args=xbc p.E d (xjn p.E d) m q j self args):=by show _=_;rw[xnf]
 have HMT:=hid hmt;clear hrow hrm hxc hxm z0 z1 z2 z3 z4 y3 hco hA h;go_enter Try.func44,Try.ntmps44
 go_upto_region 2 with (fail)
 generalize (((w.alloc (.cells #[.int .i64 self.k,.int .i64 self.n] 27)).alloc (.cells #[.int .i64 0,.int .i64 0] 27)).alloc (.cells #[.string mt.name,.int .i64 mt.args,.int .i64 mt.temps,.int .i64 mt.prim,.slice ak mt.code.length ck] 55))=W at *;have t0:xaF T w 4 w.heap.size=4:=xaJ (qzC _);have t1:xaF T w 4 (w.heap.size+1)=4:=xaJ (by omega)
 have t2:xaF T w 4 (w.heap.size+2)=4:=xaJ (by omega)
 have hEx:=xaq T w 4;generalize xaF T w 4=T1 at *;have HEx:=hid hEx;have HT1:=hid t1;clear c0 y3' z0' z1' z2' z3' z4' hb2 hb3 hEx;have hne1:¬ mb=w.heap.size+1:=by omega
 have hne1':¬ w.heap.size+1=mb:=by omega
 have hne0:¬ mb=w.heap.size:=by omega
 have hne0':¬ w.heap.size=mb:=by omega
 have hne2:¬ mb=w.heap.size+2:=by omega
 have hne2':¬ w.heap.size+2=mb:=by omega
 have hfail:∀ (e:Int),Hid (RMac p T1 (W.setCell ⟨mb,7,none⟩ (.int .i64 e)) mb m (20-(d:Int)) e hv sv ov/\Kp (All K) T w (W.setCell ⟨mb,7,none⟩ (.int .i64 e))):=fun e=>⟨hM0.num7 e,HK0.out.trans HEx.out ((kp1 hM0 7 (.int .i64 e)).mono fun t h=>Or.inl h)⟩
 have c7:=hM0.c7;have cf:=xap hM0.box;obtain⟨s0,s1,r0,r1,rf,hm0⟩:=id hE0;have m1:W.cell? ⟨w.heap.size+2,1,none⟩=some (.int .i64 mt.args):=by rw[qzB hm0];rfl
 have m3:W.cell? ⟨w.heap.size+2,3,none⟩=some (.int .i64 mt.prim):=by rw[qzB hm0];rfl
 have hEq:∀ r,xbc p.E d (xjn p.E d) m q j self args=r->Hid (xa4 p.E d m q j self args=r):=fun r h=>HEN.out.trans h
 by_cases hargs:mt.args=(args.length:Int)
 ·have hd:(mt.args == (args.length:Int))=true:=by simpa using hargs
  have c3:=hM0.c3;have c4:=hM0.c4;have HArg:=hid hargs;rw[hargs] at m1;clear hargs hd hfail
  go_upto_region 5 with (fail)
  go_quiet (fail)
  have hbq:=below_drewN (qzL W.heap.size W) nq;replace hM0:=hM0.later hbq;replace hE0:=hE0.later hbq;replace hA0:=hA0.fx xa1 (.refl _ _) (Kp.of_below (S:=fun _=>False) hbq) id
  replace hC0:=hC0.fx xa2 (.refl _ _) (Kp.of_below (S:=fun _=>False) hbq) id
  have HKV:Hid (Kp (All K) T w (W.drewN nq)):=HK0.out.trans HEx.out (Kp.of_below hbq);clear hbq c3 c4 c7 cf s0 s1 r0 r1 rf hm0 m1 m3;generalize W.drewN nq=V at *;obtain⟨s0,s1,r0,r1,rf,hm0⟩:=id hE0;have m3:V.cell? ⟨w.heap.size+2,3,none⟩=some (.int .i64 mt.prim):=by rw[qzB hm0];rfl
  have c4:=hM0.c4;have c6:=hM0.c6;have c7:=hM0.c7;have cf:=xap hM0.box;have hfail:∀ (e:Int),Hid (RMac p T1 (V.setCell ⟨mb,7,none⟩ (.int .i64 e)) mb m (20-(d:Int)) e hv sv ov/\Kp (All K) T w (V.setCell ⟨mb,7,none⟩ (.int .i64 e))):=fun e=>⟨hM0.num7 e,HKV.out.trans HEx.out ((kp1 hM0 7 (.int .i64 e)).mono fun t h=>Or.inl h)⟩
  have hEnt:xbc p.E d (xjn p.E d) m q j self args=if mt.prim≠0 then (if p.fuel<=m.sz_ then (m,xaU,13) else ({ m with sz_:=m.sz_+1 },xbR mt.prim self (xaM args 0))) else if (xau p.E d m).2≠0 then (m,xaU,(xau p.E d m).2) else xjn p.E d (xau p.E d m).1 (xaK p.E q j mt self args):=by
   unfold xbc;rw[show xaI p.E.cz (q:Int) (j:Int)=some mt from HMT.out]
   simp only[];rw[if_neg (by have:=HArg.out;omega)]
   rfl
  have HEnt:=hid hEnt;clear hEnt
  by_cases hfu:p.fuel<=m.sz_
  ·have HV:=hEq (m,xaU,13) (by
    rw[HEnt.out]
    by_cases hpr:mt.prim≠0
    ·rw[if_pos hpr,if_pos hfu]
    ·rw[if_neg hpr];have hc:xau p.E d m=(m,13):=by unfold xau;rw[if_pos (show p.E.fuel<=m.sz_ from hfu)]
     rw[hc];simp)
   obtain⟨HM7,HK7⟩:=(hfail 13).out;have HM7:=hid HM7;have HK7:=hid HK7;have hfd:decide (p.fuel<=m.sz_)=true:=by simpa using hfu
   clear hfail hEq hE0 hM0 hA0 hC0;go_wp2;rw[HV.out];refine qzK (v:=VV xaU) ?_ rfl (xgR (r:=(m,xaU,13)) HEx.out HM7.out HK7.out HT1.out)
   simp[results,Try.results44,go_sem,r0,r1,hne1,hne1']
  ·have hfd:decide (p.fuel<=m.sz_)=false:=by simpa using hfu
   have HFu:=hid hfu;have hsw:IntKind.i64.wrap (m.sz_+1)=m.sz_+1:=by have:=hI.sz_;have:=hX.fuel;exact xat (by omega) (by omega)
   have hsw':wrap64 (m.sz_+1)=m.sz_+1:=by have:=hI.sz_;have:=hX.fuel;unfold wrap64;omega
   clear hfu
   by_cases hpr:mt.prim=0
   ·rw[hpr] at m3
    by_cases hd0:d=0
    ·have HV:=hEq (m,xaU,14) (by
      rw[HEnt.out,if_neg (by simpa using hpr)]
      have hc:xau p.E d m=(m,14):=by unfold xau;rw[if_neg (show ¬ p.E.fuel<=m.sz_ from HFu.out),if_pos hd0]
      rw[hc];simp)
     obtain⟨HM7,HK7⟩:=(hfail 14).out;have HM7:=hid HM7;have HK7:=hid HK7;have c6a:V.cell? ⟨mb,6,none⟩=some (.int .i64 20):=by rw[c6,hd0];rfl
     obtain rfl:d=0:=hd0;clear c6;clear hfail hEq hE0 hM0 hA0 hC0 hpr;go_wp2;rw[HV.out];refine qzK (v:=VV xaU) ?_ rfl (by have:=xgR (r:=(m,xaU,14)) HEx.out HM7.out HK7.out HT1.out;simpa using this)
     simp[results,Try.results44,go_sem,r0,r1,hne1,hne1']
    ·obtain⟨d',rfl⟩:∃ d',d=d'+1:=⟨d-1,by omega⟩
     have hc:xau p.E (d'+1) m=({ m with sz_:=m.sz_+1 },0):=by unfold xau;rw[if_neg (show ¬ p.E.fuel<=m.sz_ from HFu.out),if_neg (by omega)]
     have HV:=hEq (xb7 (xa4 p.E d') p.E d' (xf4 (xaK p.E q j mt self args)) { m with sz_:=m.sz_+1 } (xaK p.E q j mt self args)) (by
      rw[HEnt.out,if_neg (by simpa using hpr),hc]
      simp only[];rw[if_neg (by simp)]
      rfl)
     have hdp:(20:Int)-((d'+1:Nat):Int)=19-(d':Int):=by omega
     rw[hdp] at c6;have hdg:decide ((20:Int)<=19-(d':Int))=false:=by simp;omega
     have hdw:IntKind.i64.wrap (19-(d':Int)+1)=20-(d':Int):=by rw[xat (by omega) (by omega)];omega
     have hdw':wrap64 (19-(d':Int)+1)=20-(d':Int):=by unfold wrap64;omega
     have hdv:IntKind.i64.wrap (20-(d':Int)-1)=19-(d':Int):=by rw[xat (by omega) (by omega)];omega
     have hdv':wrap64 (20-(d':Int)-1)=19-(d':Int):=by unfold wrap64;omega
     have hM1:=(hM0.num4 (m.sz_+1)).num6 (20-(d':Int));have k1:Kp (fun t=>t=1) T1 V ((V.setCell ⟨mb,4,none⟩ (.int .i64 (m.sz_+1))).setCell ⟨mb,6,none⟩ (.int .i64 (20-(d':Int)))):=(kp1 hM0 4 _).trans (.refl _ _) (kp1 (hM0.num4 (m.sz_+1)) 6 _)
     have hE1:=hE0.kp k1 (by rw[t0];omega) (by rw[t1];omega) (by rw[t2];omega)
     have hA1:=hA0.fx xa1 (.refl _ _) k1 (by omega)
     have hC1:=hC0.fx xa2 (.refl _ _) k1 (by omega)
     have HK1:Hid (Kp (All K) T w _):=HKV.out.trans HEx.out (k1.mono fun t h=>Or.inl h)
     have hMI:MIn p.E { m with sz_:=m.sz_+1 }:=⟨hI.heap,⟨by have:=hI.sz_;show 0<=m.sz_+1;omega,by have:=HFu.out;show m.sz_+1<=p.fuel;omega⟩,hI.tz⟩
     have hFw:Few { m with sz_:=m.sz_+1 }:=hW
     have hFO:FOk p.X.cz m.heap.length (xaK p.E q j mt self args):=⟨hSe,hAr,xeB _ _,(fun v hv=>by cases hv),hX.ok.meths _ _ _ HMT.out,hX.ok.meths _ _ _ HMT.out⟩
     have hPl:PlOk (xaK p.E q j mt self args):=xh0 hX.right HMT.out hpr HArg.out self rfl;have hBd:=hB d' rfl K T1 _ mb _ hv sv ov q j self args _ mt _ hK hM1 hMI hFw hFO hPl hA1 hC1;have n4:=hM0.c4;have g6:(V.setCell ⟨mb,4,none⟩ (.int .i64 (m.sz_+1))).cell? ⟨mb,6,none⟩=some (.int .i64 (19-(d':Int))):=by have:=(hM0.num4 (m.sz_+1)).c6;rw[hdp] at this;exact this
     have gf:=xap (hM0.num4 (m.sz_+1)).box;clear hfail hEq hE0 hM0 hA0 hC0 hMI hFw hFO hPl hA1 hC1 k1 hpr
     go_upto_region 18 with (fail)
     generalize ((V.setCell ⟨mb,4,none⟩ (.int .i64 (m.sz_+1))).setCell ⟨mb,6,none⟩ (.int .i64 (20-(d':Int))))=V2 at *;have hB1:=hE1.m0;have a0:V2.cell? ⟨w.heap.size+2,0,none⟩=some (.string mt.name):=by rw[qzB hB1];rfl
     have a1:V2.cell? ⟨w.heap.size+2,1,none⟩=some (.int .i64 mt.args):=by rw[qzB hB1];rfl
     have a2:V2.cell? ⟨w.heap.size+2,2,none⟩=some (.int .i64 mt.temps):=by rw[qzB hB1];rfl
     have a3:V2.cell? ⟨w.heap.size+2,3,none⟩=some (.int .i64 mt.prim):=by rw[qzB hB1];rfl
     have a4:V2.cell? ⟨w.heap.size+2,4,none⟩=some (.slice ak mt.code.length ck):=by rw[qzB hB1];rfl
     have b0:=hE1.s0;have b1:=hE1.s1;clear s0 s1 r0 r1 rf hm0 m3 c4 c6 c7 cf n4 g6 gf;go_wp2_with fail;clear a0 a1 a2 a3 a4 b0 b1 hB1;refine hBd.mono ?_;rintro e w3 ⟨rfl,⟨T3,hv3,sv3,ov3,hE3,hM3⟩,hK3⟩;dsimp only;have hE3b:=hE1.kp hK3 (by rw[t0];unfold All;omega) (by rw[t1];unfold All;omega) (by rw[t2];unfold All;omega)
     obtain⟨RR,HRR⟩:∃ RR,Hid (xb7 (xa4 p.E d') p.E d' (xf4 (xaK p.E q j mt self args)) { m with sz_:=m.sz_+1 } (xaK p.E q j mt self args)=RR):=⟨_,rfl⟩
     rw[HRR.out] at hM3 ⊢;have hbx:=xak w3 (.cells #[.int .i64 RR.2.1.k,.int .i64 RR.2.1.n] 27);have hE4:=hE3b.later hbx;have hM4:=hM3.later hbx;have k6:=hM4.c6;have kf:=xap hM4.box;have e0:(w3.alloc (.cells #[.int .i64 RR.2.1.k,.int .i64 RR.2.1.n] 27)).cell? ⟨w3.heap.size,0,none⟩=some (.int .i64 RR.2.1.k):=xaa _ _ _ _ rfl 0;have e1:(w3.alloc (.cells #[.int .i64 RR.2.1.k,.int .i64 RR.2.1.n] 27)).cell? ⟨w3.heap.size,1,none⟩=some (.int .i64 RR.2.1.n):=xaa _ _ _ _ rfl 1;have hM5:=hM4.num6 (19-(d':Int));have hmw:mb<w3.heap.size:=xal hM3.box;have hww:w.heap.size+2<w3.heap.size:=xal hE3b.m0;have hz2:V2.heap.size<=w3.heap.size:=hK3.size
     have HE3:Hid (Ext T T3 w):=fun b hb=>(hE3 b (by have:=HK1.out.size;omega)).trans (HEx.out b hb)
     have HT3:Hid (T3 (w.heap.size+1)=4):=by show _=_;rw[hE3 _ (by have:=xal hE1.m0;omega)];exact t1
     have HK5:Hid (Kp (All K) T w ((w3.alloc (.cells #[.int .i64 RR.2.1.k,.int .i64 RR.2.1.n] 27)).setCell ⟨mb,6,none⟩ (.int .i64 (19-(d':Int))))):=by
      have k5:=kp1 hM4 6 (.int .i64 (19-(d':Int)));have:=(HK1.out.trans HEx.out hK3).on hbx
      exact this.trans HE3.out (k5.mono fun t h=>Or.inl h)
     have HM5:=hid hM5;obtain⟨-,-,r0,r1,rf,-⟩:=hE4;have n1:¬ mb=w3.heap.size:=by omega
     have n2:¬ w3.heap.size=mb:=by omega
     have n3:¬ w.heap.size+1=w3.heap.size:=by omega
     have n4:¬ w3.heap.size=w.heap.size+1:=by omega
     clear hE1 hE3b hM3 hM4 hM5 hE3 hK3 hBd hbx
     go_upto_region 19 with (fail)
     generalize (w3.alloc (.cells #[.int .i64 RR.2.1.k,.int .i64 RR.2.1.n] 27))=V4 at *;go_wp2;rw[HV.out,HRR.out];refine qzK (v:=VV RR.2.1) ?_ rfl (xgR (r:=RR) HE3.out (by rw[hdp];exact HM5.out) HK5.out HT3.out)
     simp[results,Try.results44,go_sem,r0,r1,hne1,hne1',n1,n2,n3,n4]
   ·have hpn:(mt.prim == 0)=false:=by simpa using hpr
    have hone:args.length=1:=by
     rcases HRM.out with ⟨-,h1⟩ | ⟨h0,-⟩
     ·have:=HArg.out;omega
     ·exact absurd h0 hpr
    obtain⟨a0,rfl⟩:∃ a0,args=[a0]:=by
     match args,hone with
     | [a0],_=>exact⟨a0,rfl⟩
    have HV:=hEq ({ m with sz_:=m.sz_+1 },xbR mt.prim self a0) (by
     rw[HEnt.out,if_pos hpr,if_neg HFu.out]
     rfl)
    have hM1:=hM0.num4 (m.sz_+1);have k1:=kp1 hM0 4 (.int .i64 (m.sz_+1));have hE1:=hE0.kp k1 (by rw[t0];omega) (by rw[t1];omega) (by rw[t2];omega)
    have hA1:=hA0.fx xa1 (.refl _ _) k1 (by omega)
    have HK1:Hid (Kp (All K) T w (V.setCell ⟨mb,4,none⟩ (.int .i64 (m.sz_+1)))):=HKV.out.trans HEx.out (k1.mono fun t h=>Or.inl h)
    clear hfail hEq hE0 hM0 hA0 hC0 s0 s1 r0 r1 rf hm0 c6 c7 k1 hpr
    go_upto_region 10 with (fail)
    generalize (V.setCell ⟨mb,4,none⟩ (.int .i64 (m.sz_+1)))=V1 at *;obtain⟨aa',ca',e',-,-,-,hrow⟩:=id hA1;simp only[Value.slice.injEq] at e';obtain⟨rfl,-,-⟩:=e';obtain⟨ba,oa,rfl,hba,u0,u1⟩:=hrow 0 a0 rfl;simp only[Nat.zero_mul,Nat.add_zero] at u0 u1;have n3:V1.cell? ⟨w.heap.size+2,3,none⟩=some (.int .i64 mt.prim):=by rw[qzB hE1.m0];rfl
    have hlw:=xal hE1.m0;have hS0:PmS V1 w.heap.size mt.prim self a0 ba oa V1.drew:=⟨n3,hE1.s0,hE1.s1,u0,u1,(qzL _ _).drew,hlw,hba.1⟩;have hr1:=xgZ hSe;have hr2:=xgZ (hAr a0 (by simp))
    clear n3 u0 u1 hrow;obtain⟨v1,e1,hr⟩:∃ v1 e1,xbR mt.prim self a0=(v1,e1):=⟨_,_,rfl⟩;have hprim:∀ w,Calls Try.prog 64 #[.int .i64 mt.prim,VV self,VV a0] w fun e w'=>e=.returned (.tuple #[VV v1,.int .i64 e1])/\Below w.heap.size w w':=fun w=>by have:=xlY mt.prim self a0 w hr1 hr2;rw[hr] at this;exact this
    rw[hr] at HV;clear hr hr1 hr2;have HE1:=hid hE1;have HM1:=hid hM1;clear hE1 hM1 hA1 m3 c4 cf;have tokA:True:=trivial
    go_region_held3 (fun w'=>w'.cell? ⟨w.heap.size+1+1,3,none⟩=some (.int .i64 mt.prim)/\w'.cell? ⟨w.heap.size,0,none⟩=some (.int .i64 self.k)/\w'.cell? ⟨w.heap.size,1,none⟩=some (.int .i64 self.n)/\w'.cell? ⟨ba,oa,none⟩=some (.int .i64 a0.k)/\w'.cell? ⟨ba,oa+1,none⟩=some (.int .i64 a0.n)/\PmS V1 w.heap.size mt.prim self a0 ba oa w')
     (first | with_reducible exact hS0.al | with_reducible exact hY.al | exact (hS0.later (xak _ _)).al | exact (hY.later (xak _ _)).al | exact ((‹_/\_/\_/\_/\_/\PmS V1 w.heap.size mt.prim self a0 ba oa _›).2.2.2.2.2.later (xak _ _)).al | exact ((hY.set (by omega) _ _).set (by omega) _ _).al | exact ((((‹_/\_/\_/\_/\_/\PmS V1 w.heap.size mt.prim self a0 ba oa _›).2.2.2.2.2.set (by omega) _ _).set (by omega) _ _).al))
     (first
      | (have _t:=tokA;go_at_call 64;refine (hprim _).mono ?_;rintro e w2 ⟨rfl,hb2⟩;have hY:=(‹_/\_/\_/\_/\_/\PmS V1 w.heap.size mt.prim self a0 ba oa _›).2.2.2.2.2.later hb2;have hsz0:=(‹_/\_/\_/\_/\_/\PmS V1 w.heap.size mt.prim self a0 ba oa _›).2.2.2.2.2.bel.size;clear tokA;obtain⟨hc2,hf2⟩:=xjm hb2;have hz2:=hb2.size))
    ·have hT:=(‹_/\_/\_/\_/\_/\PmS V1 w.heap.size mt.prim self a0 ba oa _›).2.2.2.2.2.bel;have hM2:=HM1.out.later hT;have hE2:=HE1.out.later hT;have k7:=hM2.c7;have kf:=xap hM2.box;have e0:(w2.alloc (.cells #[.int .i64 v1.k,.int .i64 v1.n] 27)).cell? ⟨w2.heap.size,0,none⟩=some (.int .i64 v1.k):=xaa _ _ _ _ rfl 0;have e1':(w2.alloc (.cells #[.int .i64 v1.k,.int .i64 v1.n] 27)).cell? ⟨w2.heap.size,1,none⟩=some (.int .i64 v1.n):=xaa _ _ _ _ rfl 1;have hmv:mb<V1.heap.size:=xal HM1.out.box;have n1:¬ mb=w2.heap.size:=by have:=hz2;have:=hsz0;omega
     have n2:¬ w2.heap.size=mb:=fun h=>n1 h.symm
     have n3:¬ w.heap.size+1=w2.heap.size:=by have:=hz2;have:=hsz0;omega
     have n4:¬ w2.heap.size=w.heap.size+1:=fun h=>n3 h.symm
     have HM3:=hid (hM2.num7 e1);have HK3:Hid (Kp (All K) T w ((w2.alloc (.cells #[.int .i64 v1.k,.int .i64 v1.n] 27)).setCell ⟨mb,7,none⟩ (.int .i64 e1))):=(HK1.out.on hT).trans HEx.out ((kp1 hM2 7 (.int .i64 e1)).mono fun t h=>Or.inl h)
     obtain⟨-,-,r0,r1,rf,-⟩:=hE2;clear hM2 hT hY hS0 hc2 hf2 hb2;generalize (w2.alloc (.cells #[.int .i64 v1.k,.int .i64 v1.n] 27))=V' at *;go_wp2;rw[HV.out];refine qzK (v:=VV v1) ?_ rfl (xgR (r:=(_,v1,e1)) HEx.out HM3.out HK3.out HT1.out)
     simp[results,Try.results44,go_sem,r0,r1,hne1,hne1',n1,n2,n3,n4]
    ·have hT:=(‹_/\_/\_/\_/\_/\PmS V1 w.heap.size mt.prim self a0 ba oa _›).2.2.2.2.2.bel;have hM2:=HM1.out.later hT;have hE2:=HE1.out.later hT;have k7:=hM2.c7;have kf:=xap hM2.box;obtain⟨e0,e1'⟩:=xrc (v:=v1) hb2;have hmv:mb<V1.heap.size:=xal HM1.out.box;have n1:¬ mb=V1.heap.size:=by have:=hz2;have:=hsz0;omega
     have n2:¬ V1.heap.size=mb:=fun h=>n1 h.symm
     have n3:¬ w.heap.size+1=V1.heap.size:=by have:=hz2;have:=hsz0;omega
     have n4:¬ V1.heap.size=w.heap.size+1:=fun h=>n3 h.symm
     have HM3:=hid (hM2.num7 e1);have HK3:Hid (Kp (All K) T w (((w2.setCell ⟨V1.heap.size,0,none⟩ (.int .i64 v1.k)).setCell ⟨V1.heap.size,1,none⟩ (.int .i64 v1.n)).setCell ⟨mb,7,none⟩ (.int .i64 e1))):=(HK1.out.on hT).trans HEx.out ((kp1 hM2 7 (.int .i64 e1)).mono fun t h=>Or.inl h)
     obtain⟨-,-,r0,r1,rf,-⟩:=hE2;clear hM2 hT hY hS0 hc2 hf2 hb2;generalize ((w2.setCell ⟨V1.heap.size,0,none⟩ (.int .i64 v1.k)).setCell ⟨V1.heap.size,1,none⟩ (.int .i64 v1.n))=V' at *;go_wp2;rw[HV.out];refine qzK (v:=VV v1) ?_ rfl (xgR (r:=(_,v1,e1)) HEx.out HM3.out HK3.out HT1.out)
     simp[results,Try.results44,go_sem,r0,r1,hne1,hne1',n1,n2,n3,n4]
 ·have HV:=hEq (m,xaU,8) (by
   unfold xbc;rw[show xaI p.E.cz (q:Int) (j:Int)=some mt from HMT.out]
   simp only[];rw[if_pos hargs])
  have hd:(mt.args == (args.length:Int))=false:=by simpa using hargs
  obtain⟨HM7,HK7⟩:=(hfail 8).out;have HM7:=hid HM7;have HK7:=hid HK7;clear hfail hEq hE0 hM0 hA0 hC0 hargs;go_wp2;rw[HV.out];refine qzK (v:=VV xaU) ?_ rfl (xgR (r:=(m,xaU,8)) HEx.out HM7.out HK7.out HT1.out)
  simp[results,Try.results44,go_sem,r0,r1,hne1,hne1']
theorem xko {p:Rp}(hX:Rx p):∀ d:Nat,d<=20->xrD p d
 | 0,h=>xg4 hX 0 h fun d' e=>by omega
 | d+1,h=>xg4 hX (d+1) h fun d' e=>by
  obtain rfl:d=d':=by omega
  exact xnQ hX (xko hX d (by omega))
def xcx (X:QW)(s:QV)(name:ByteArray)(args:List QV)(fuel:Int):Mc RSt × QV × Int:=
 xa4 (xcX X fuel) 20 ⟨X.heap,0,0,[]⟩ (xaB X.cz (xas X.heap s) name).1 (xaB X.cz (xas X.heap s) name).2 s args
def xlt (X:QW)(s:QV)(name:ByteArray)(args:List QV)(fuel:Int):RSt:=if xar X s name args fuel≠0 then [] else (xcx X s name args fuel).1.st
theorem xpt (X:QW)(s:QV)(name:ByteArray)(args:List QV)(fuel:Int):(xlQ X s name args fuel).1.heap=(xcx X s name args fuel).1.heap/\(xlQ X s name args fuel).1.sz_=(xcx X s name args fuel).1.sz_/\(xlQ X s name args fuel).2=(xcx X s name args fuel).2:=by
 have h:=xml (Rel:=fun (_:RSt) (_:Unit)=>True) (SOk:=fun _ _=>True) (E:=xcX X fuel) (E':=xe1 X fuel) ⟨rfl,rfl,rfl,fun _ _ _ _ _ _ _=>⟨rfl,trivial⟩,fun _ _ _ _ _ _ _ _=>trivial,fun _ _ _ _ _ _ _ _ _=>trivial⟩ 20 ⟨X.heap,0,0,[]⟩ ⟨X.heap,0,0,()⟩ (xaB X.cz (xas X.heap s) name).1 (xaB X.cz (xas X.heap s) name).2 s args ⟨rfl,rfl,rfl,trivial⟩
 exact⟨h.1.heap,h.1.sz_,h.2⟩
def RuPost (X:QW)(fuel:Int)(cv0:Value)(w:World)(r:Ran)(st:RSt)(e:Ending)(w':World):Prop:=
 Below w.heap.size w w'/\∃ cv hv T m deep err hv' sv ov,e=.returned (.tuple #[WV cv hv X.ez,RnV r,.pointer (some ⟨w.heap.size+4,0,none⟩)])/\xai Tru w' cv X.cz/\xaD Tru w' hv r.heap/\RMac ⟨X,fuel,cv0⟩ T w' (w.heap.size+4) m deep err hv' sv ov/\m.st=st
theorem xmZ {U:World}{b o b':Nat}{v u0 u1 u2:Value}(h:U.cell? ⟨b,o,none⟩=some v)(hne:b≠b'):(((U.setCell ⟨b',0,none⟩ u0).setCell ⟨b',1,none⟩ u1).setCell ⟨b',2,none⟩ u2).cell? ⟨b,o,none⟩=some v:=
 (qzI _ _ _ _ (by simp;omega)).trans ((qzI _ _ _ _ (by simp;omega)).trans ((qzI _ _ _ _ (by simp;omega)).trans h))
theorem RuPost.fin {X:QW}{fuel:Int}{cv0:Value}{w V:World}{r:Ran}{st:RSt}{cv hv hv' sv ov:Value}{P:Nat->Prop}{T:Nat->Nat}{m:Mc RSt}{deep err:Int}(hb:Below w.heap.size w V)(hC:xai P V cv X.cz)(hH:xaD P V hv r.heap)(h2:¬ P (w.heap.size+2))(h3:¬ P (w.heap.size+3))(hM:RMac ⟨X,fuel,cv0⟩ T V (w.heap.size+4) m deep err hv' sv ov)(hst:m.st=st)(t2:T (w.heap.size+2)=4)(t3:T (w.heap.size+3)=4)(u0 u1 u2 v0 v1 v2 v3:Value) :
  RuPost X fuel cv0 w r st (.returned (.tuple #[WV cv hv X.ez,RnV r,.pointer (some ⟨w.heap.size+4,0,none⟩)])) (((((((V.setCell ⟨w.heap.size+2,0,none⟩ u0).setCell ⟨w.heap.size+2,1,none⟩ u1).setCell ⟨w.heap.size+2,2,none⟩ u2).setCell ⟨w.heap.size+3,0,none⟩ v0).setCell ⟨w.heap.size+3,1,none⟩ v1).setCell ⟨w.heap.size+3,2,none⟩ v2).setCell ⟨w.heap.size+3,3,none⟩ v3):=by
 have k:Keeps P V (((((((V.setCell ⟨w.heap.size+2,0,none⟩ u0).setCell ⟨w.heap.size+2,1,none⟩ u1).setCell ⟨w.heap.size+2,2,none⟩ u2).setCell ⟨w.heap.size+3,0,none⟩ v0).setCell ⟨w.heap.size+3,1,none⟩ v1).setCell ⟨w.heap.size+3,2,none⟩ v2).setCell ⟨w.heap.size+3,3,none⟩ v3):=xaC (xaC (xaC (xaC (xaC (xaC (xaC (Keeps.refl _ _) h2 _) h2 _) h2 _) h3 _) h3 _) h3 _) h3 _;have k4:Kp (fun t=>t=4) T V (((((((V.setCell ⟨w.heap.size+2,0,none⟩ u0).setCell ⟨w.heap.size+2,1,none⟩ u1).setCell ⟨w.heap.size+2,2,none⟩ u2).setCell ⟨w.heap.size+3,0,none⟩ v0).setCell ⟨w.heap.size+3,1,none⟩ v1).setCell ⟨w.heap.size+3,2,none⟩ v2).setCell ⟨w.heap.size+3,3,none⟩ v3):=(((((((Kp.refl _ _ _).set (fun _=>t2) _ _).set (fun _=>t2) _ _).set (fun _=>t2) _ _).set (fun _=>t3) _ _).set (fun _=>t3) _ _).set (fun _=>t3) _ _).set (fun _=>t3) _ _
 refine⟨((((((hb.setCell (by simp) _).setCell (by simp) _).setCell (by simp) _).setCell (by simp) _).setCell (by simp) _).setCell (by simp) _).setCell (by simp) _,cv,hv,T,m,deep,err,hv',sv,ov,rfl,hC.keep xaA k fun _ _=>trivial,hH.keep xaE k fun _ _=>trivial,hM.keep (.refl _ _) k4 (by omega) (by omega) (by omega) (by omega),hst⟩
theorem RuPost.drew {X:QW}{fuel:Int}{cv0:Value}{w w':World}{r:Ran}{st:RSt}{e:Ending}(h:RuPost X fuel cv0 w r st e w'):RuPost X fuel cv0 w r st e w'.drew:=by
 obtain⟨hb,cv,hv,T,m,deep,err,hv',sv,ov,h1,h2,h3,h4,h5⟩:=h
 exact⟨hb.drew,cv,hv,T,m,deep,err,hv',sv,ov,h1,h2.later xaA (qzL _ _).drew,h3.later xaE (qzL _ _).drew,h4.later (qzL _ _).drew,h5⟩
def xnM (n:Nat):Nat->Nat:=fun x=>if x<n then 0 else if x=n+4 then 1 else 4
theorem xhX {n x:Nat}(h:x<n):xnM n x=0:=by simp[xnM,h]
theorem xqa (n:Nat):xnM n (n+4)=1:=by simp[xnM]
theorem xqE {n x:Nat}(h:n<=x)(h4:x≠n+4):xnM n x=4:=by simp[xnM,h4];omega
theorem xkW {X:QW}{fuel:Int}{cv hv:Value}{w W:World}{P:Nat->Prop}(hC:xai P w cv X.cz)(hH:xaD P w hv X.heap)(hb:Below w.heap.size w W)(hbox:W.heap[w.heap.size+4]?=some (.cells #[cv,hv,.int .i64 X.ez,.int .i64 fuel,.int .i64 0,.int .i64 0,.int .i64 0,.int .i64 0,.slice none 0 0,.slice none 0 0] 113 (0,0))):RMac ⟨X,fuel,cv⟩ (xnM w.heap.size) W (w.heap.size+4) ⟨X.heap,0,0,[]⟩ 0 0 hv (.slice none 0 0) (.slice none 0 0):=by
 have hs:=hb.size;refine⟨hbox,xqa _,((xca hC).later xaA hb).mono xaA fun b hb=>⟨by omega,xhX hb⟩,((xc8 hH).later xaE hb).mono xaE fun b hb=>⟨by omega,xhX hb⟩,⟨rfl,Or.inl ⟨rfl,rfl⟩⟩,fun g hg=>(by cases hg),⟨rfl,Or.inl ⟨rfl,rfl⟩⟩,fun g hg=>(by cases hg)⟩
theorem xo5 {P Q:Nat->Prop}(X:QW)(hX:xaH X=0)(s:QV)(name:ByteArray)(args:List QV)(fuel:Int)(cv hv av:Value)(w:World)(hC:xai P w cv X.cz)(hH:xaD P w hv X.heap)(hA:xaO Q w av args)(hn:name.size<=140737488351232) :
  Calls Try.prog 15 #[WV cv hv X.ez,ClV s name av,.int .i64 fuel] w fun e w'=>RuPost X fuel cv w (xdG X s name args fuel) (xlt X s name args fuel) e w':=by
 obtain⟨ac,cc,rfl,-,-,hby,-⟩:=id hC;obtain⟨ah,ch,rfl,-,-,hbyh,-⟩:=id hH;obtain⟨aa,ca,rfl,-⟩:=id hA;have hR0:=(xjE w (.slice ac X.cz.length cc) (.slice ah X.heap.length ch) X.ez s name (.slice aa args.length ca)).later (xak _ (.cells #[.slice ac X.cz.length cc,.slice ah X.heap.length ch,.int .i64 X.ez,.int .i64 fuel,.int .i64 0,.int .i64 0,.int .i64 0,.int .i64 0,.slice none 0 0,.slice none 0 0] 113));have hB0:Below w.heap.size w (((((w.alloc (.cells #[.slice ac X.cz.length cc,.slice ah X.heap.length ch,.int .i64 X.ez] 25)).alloc (.cells #[.int .i64 s.k,.int .i64 s.n,.string name,.slice aa args.length ca] 30)).alloc (.cells #[.slice none 0 0,.slice none 0 0,.int .i64 0] 25)).alloc (.cells #[.int .i64 0,.int .i64 0,.int .i64 0,.int .i64 0] 35)).alloc (.cells #[.slice ac X.cz.length cc,.slice ah X.heap.length ch,.int .i64 X.ez,.int .i64 fuel,.int .i64 0,.int .i64 0,.int .i64 0,.int .i64 0,.slice none 0 0,.slice none 0 0] 113)):=xaf (xaf (xbP _ _ _) (xbP _ _ _)) (xak _ _)
 have hbx0:(((((w.alloc (.cells #[.slice ac X.cz.length cc,.slice ah X.heap.length ch,.int .i64 X.ez] 25)).alloc (.cells #[.int .i64 s.k,.int .i64 s.n,.string name,.slice aa args.length ca] 30)).alloc (.cells #[.slice none 0 0,.slice none 0 0,.int .i64 0] 25)).alloc (.cells #[.int .i64 0,.int .i64 0,.int .i64 0,.int .i64 0] 35)).alloc (.cells #[.slice ac X.cz.length cc,.slice ah X.heap.length ch,.int .i64 X.ez,.int .i64 fuel,.int .i64 0,.int .i64 0,.int .i64 0,.int .i64 0,.slice none 0 0,.slice none 0 0] 113)).heap[w.heap.size+4]?=some (.cells #[.slice ac X.cz.length cc,.slice ah X.heap.length ch,.int .i64 X.ez,.int .i64 fuel,.int .i64 0,.int .i64 0,.int .i64 0,.int .i64 0,.slice none 0 0,.slice none 0 0] 113 (0,0)):=by
  have:=qzJ ((((w.alloc (.cells #[.slice ac X.cz.length cc,.slice ah X.heap.length ch,.int .i64 X.ez] 25)).alloc (.cells #[.int .i64 s.k,.int .i64 s.n,.string name,.slice aa args.length ca] 30)).alloc (.cells #[.slice none 0 0,.slice none 0 0,.int .i64 0] 25)).alloc (.cells #[.int .i64 0,.int .i64 0,.int .i64 0,.int .i64 0] 35)) (.cells #[.slice ac X.cz.length cc,.slice ah X.heap.length ch,.int .i64 X.ez,.int .i64 fuel,.int .i64 0,.int .i64 0,.int .i64 0,.int .i64 0,.slice none 0 0,.slice none 0 0] 113)
  simpa using this
 go_enter Try.func15,Try.ntmps15
 go_upto_region 2 with (fail)
 simp only[Nat.add_assoc,Nat.reduceAdd] at *;generalize (((((w.alloc (.cells #[.slice ac X.cz.length cc,.slice ah X.heap.length ch,.int .i64 X.ez] 25)).alloc (.cells #[.int .i64 s.k,.int .i64 s.n,.string name,.slice aa args.length ca] 30)).alloc (.cells #[.slice none 0 0,.slice none 0 0,.int .i64 0] 25)).alloc (.cells #[.int .i64 0,.int .i64 0,.int .i64 0,.int .i64 0] 35)).alloc (.cells #[.slice ac X.cz.length cc,.slice ah X.heap.length ch,.int .i64 X.ez,.int .i64 fuel,.int .i64 0,.int .i64 0,.int .i64 0,.int .i64 0,.slice none 0 0,.slice none 0 0] 113))=W at *;obtain⟨n0,n1,n2,m0,m1,m2,m3⟩:=And.intro hR0.w0 (And.intro hR0.w1 (And.intro hR0.w2 (And.intro hR0.c0 (And.intro hR0.c1 (And.intro hR0.c2 hR0.c3)))))
 go_wp2_with fail;refine (xgL X s name args fuel _ _ _ W ⟨_,_,_,rfl⟩ (hH.later xaE hB0) (hA.later xa1 hB0) hn).mono ?_;rintro e w1 ⟨rfl,hb1⟩;have hR1:=hR0.later hb1;have hB1:=xaf hB0 hb1;have hM1:=(xkW hC hH hB0 hbx0).later hb1;clear n0 n1 n2 m0 m1 m2 m3 hR0 hB0 hbx0 hb1;have t0:∀ i,i<4->xnM w.heap.size (w.heap.size+i)=4:=fun i hi=>xqE (by omega) (by omega)
 by_cases hw:xar X s name args fuel=0
 ·have HPl:Hid (xdG X s name args fuel=if (xcx X s name args fuel).2.2≠0 then ⟨X.heap,xaU,(xcx X s name args fuel).2.2,(xcx X s name args fuel).1.sz_⟩ else ⟨(xcx X s name args fuel).1.heap,(xcx X s name args fuel).2.1,0,(xcx X s name args fuel).1.sz_⟩):=by
   show _=_
   obtain⟨q1,q2,q3⟩:=xpt X s name args fuel;unfold xdG;rw[if_neg (by simpa using hw),q1,q2,q3]
  have HSt:Hid (xlt X s name args fuel=(xcx X s name args fuel).1.st):=by show _=_;unfold xlt;rw[if_neg (by simpa using hw)]
  obtain⟨hfu,hws,hwa⟩:=xfn hw;have hRx:Rx ⟨X,fuel,.slice ac X.cz.length cc⟩:=⟨hX,hfu⟩
  have HMi:Hid (MIn (Rp.E ⟨X,fuel,.slice ac X.cz.length cc⟩) ⟨X.heap,0,0,[]⟩):=by
   have he:=xhj hX
   exact⟨he,⟨Int.le_refl _,hfu.1⟩,⟨Int.le_refl _,by show (0:Int)<=300;omega⟩⟩
  have HX:=hid (And.intro hRx (And.intro hws hwa));rw[hw];clear hw hws hwa hfu
  go_upto_region 5 with (fail)
  have hSl:∀ w',Below w1.heap.size w1 w'->w'.cell? ⟨w.heap.size,0,none⟩=some (.slice ac X.cz.length cc)/\w'.cell? ⟨w.heap.size,1,none⟩=some (.slice ah X.heap.length ch)/\w'.cell? ⟨w.heap.size,2,none⟩=some (.int .i64 X.ez)/\w'.cell? ⟨w.heap.size+1,0,none⟩=some (.int .i64 s.k)/\w'.cell? ⟨w.heap.size+1,1,none⟩=some (.int .i64 s.n)/\w'.cell? ⟨w.heap.size+1,2,none⟩=some (.string name):=fun w' hb=>by
   have h:=hR1.later hb
   exact⟨h.w0,h.w1,h.w2,h.c0,h.c1,h.c2⟩
  have hS0:=hSl _ (qzL _ w1).drew;refine xav (S:=fun w'=>w'.cell? ⟨w.heap.size,0,none⟩=some (.slice ac X.cz.length cc)/\w'.cell? ⟨w.heap.size,1,none⟩=some (.slice ah X.heap.length ch)/\w'.cell? ⟨w.heap.size,2,none⟩=some (.int .i64 X.ez)/\w'.cell? ⟨w.heap.size+1,0,none⟩=some (.int .i64 s.k)/\w'.cell? ⟨w.heap.size+1,1,none⟩=some (.int .i64 s.n)/\w'.cell? ⟨w.heap.size+1,2,none⟩=some (.string name)) [] (by kernel_rfl) ?_
  refine tj 0 (⟨some 29,.load 25 (.tmp 3),25,_,_,none⟩) (WV (.slice ac X.cz.length cc) (.slice ah X.heap.length ch) X.ez) (hS0) ?_ ?_
  ·rintro w⟨q0,q1,q2,q3,q4,q5⟩;go_simp
  try simp only[Act.put,qzF,qzG,qzH]
  refine tj 1 (⟨some 30,.fieldAddr 25 (.tmp 3) 1,0,_,_,none⟩) (.pointer (some ⟨w.heap.size,1,none⟩)) (hS0) ?_ ?_
  ·rintro w⟨q0,q1,q2,q3,q4,q5⟩;go_simp
  try simp only[Act.put,qzF,qzG,qzH]
  refine tj 2 (⟨some 31,.load 23 (.tmp 30),23,_,_,none⟩) (.slice ah X.heap.length ch) (hS0) ?_ ?_
  ·rintro w⟨q0,q1,q2,q3,q4,q5⟩;go_simp
  try simp only[Act.put,qzF,qzG,qzH]
  refine tj 3 (⟨some 32,.fieldAddr 30 (.tmp 4) 0,0,_,_,none⟩) (.pointer (some ⟨w.heap.size+1,0,none⟩)) (hS0) ?_ ?_
  ·rintro w⟨q0,q1,q2,q3,q4,q5⟩;go_simp
  try simp only[Act.put,qzF,qzG,qzH]
  refine tj 4 (⟨some 33,.load 27 (.tmp 32),27,_,_,none⟩) (VV s) (hS0) ?_ ?_
  ·rintro w⟨q0,q1,q2,q3,q4,q5⟩;go_simp
  try simp only[Act.put,qzF,qzG,qzH]
  refine tj 6 (⟨some 35,.fieldAddr 30 (.tmp 4) 1,0,_,_,none⟩) (.pointer (some ⟨w.heap.size+1,2,none⟩)) (hS0) ?_ ?_
  ·rintro w⟨q0,q1,q2,q3,q4,q5⟩;go_simp
  try simp only[Act.put,qzF,qzG,qzH]
  refine tj 7 (⟨some 36,.load 9 (.tmp 35),9,_,_,none⟩) (.string name) (hS0) ?_ ?_
  ·rintro w⟨q0,q1,q2,q3,q4,q5⟩;go_simp
  try simp only[Act.put,qzF,qzG,qzH]
  refine xab (rs:=[5]) (by kernel_rfl) (by simp) ?_
  intro i hi;simp only[List.mem_cons,List.not_mem_nil,or_false] at hi;subst hi;refine xaN (o:=⟨some 34,.call ⟨.value (.func 43),#[.tmp 31,.tmp 33],#[23,27]⟩,3,_,_,none⟩) rfl (fun K' hK=>?_)
  refine xaZ rfl 43 (.func 43) #[.tmp 31,.tmp 33] _ rfl #[] rfl #[.slice ah X.heap.length ch,VV s] (by simp[Act.eval,Act.put]) (vf23 _ _) ?_
  refine (show Calls Try.prog 43 #[.slice ah X.heap.length ch,VV s] w1.drew _ from (xg7 X.heap _ s w1.drew (hH.later xaE (xaf hB1 (qzL _ w1).drew))).mono ?_)
  rintro e w2 ⟨rfl,hb2⟩;refine⟨_,rfl,?_⟩;have hb12:Below w1.heap.size w1 w2:=xaf (qzL _ w1).drew hb2;refine hK _ _ (fun _=>?_) ?_
  ·exact hSl _ hb12
  clear hK K'
  try simp only[Act.put,qzF,qzG,qzH]
  refine xab (rs:=[8]) (by kernel_rfl) (by simp) ?_
  intro i hi;simp only[List.mem_cons,List.not_mem_nil,or_false] at hi;subst hi;refine xaN (o:=⟨some 37,.call ⟨.value (.func 9),#[.tmp 29,.tmp 34,.tmp 36],#[25,3,9]⟩,56,_,_,none⟩) rfl (fun K' hK=>?_)
  refine xaZ rfl 9 (.func 9) #[.tmp 29,.tmp 34,.tmp 36] _ rfl #[] rfl #[WV (.slice ac X.cz.length cc) (.slice ah X.heap.length ch) X.ez,.int .i64 (xas X.heap s),.string name] (by simp[Act.eval,Act.put]) (vf22 _ _) ?_
  refine (show Calls Try.prog 9 #[WV (.slice ac X.cz.length cc) (.slice ah X.heap.length ch) X.ez,.int .i64 (xas X.heap s),.string name] w2 _ from (xit X (xas X.heap s) name _ _ w2 (hC.later xaA (xaf hB1 hb12)) (hH.later xaE (xaf hB1 hb12))).mono ?_)
  rintro e w3 ⟨rfl,hb3⟩;refine⟨_,rfl,?_⟩;have hb13:Below w1.heap.size w1 w3:=xaf hb12 hb3;obtain⟨fc,fj,hf⟩:∃ fc fj,xaB X.cz (xas X.heap s) name=(fc,fj):=⟨_,_,rfl⟩;rw[hf];refine hK _ _ (fun _=>?_) ?_
  ·exact hSl _ hb13
  clear hK K'
  try simp only[Act.put,qzF,qzG,qzH]
  refine tj 9 (⟨some 28,.move (.tmp 37),56,_,_,none⟩) (.tuple #[.int .i64 fc,.int .i64 fj]) (hSl _ hb13) ?_ ?_
  ·rintro w⟨q0,q1,q2,q3,q4,q5⟩;go_simp
  try simp only[Act.put,qzF,qzG,qzH]
  refine tj 10 (⟨some 38,.extract (.tmp 28) 0,3,_,_,none⟩) (.int .i64 fc) (hSl _ hb13) ?_ ?_
  ·rintro w⟨q0,q1,q2,q3,q4,q5⟩;go_simp
  try simp only[Act.put,qzF,qzG,qzH]
  refine tj 11 (⟨some 39,.extract (.tmp 28) 1,3,_,_,none⟩) (.int .i64 fj) (hSl _ hb13) ?_ ?_
  ·rintro w⟨q0,q1,q2,q3,q4,q5⟩;go_simp
  try simp only[Act.put,qzF,qzG,qzH]
  refine tj 12 (⟨some 11,.assign (.tmp 38),3,_,_,none⟩) (.int .i64 fc) (hSl _ hb13) ?_ ?_
  ·rintro w⟨q0,q1,q2,q3,q4,q5⟩;go_simp
  try simp only[Act.put,qzF,qzG,qzH]
  refine tj 13 (⟨some 12,.assign (.tmp 39),3,_,_,none⟩) (.int .i64 fj) (hSl _ hb13) ?_ ?_
  ·rintro w⟨q0,q1,q2,q3,q4,q5⟩;go_simp
  try simp only[Act.put,qzF,qzG,qzH]
  refine xaz (by kernel_rfl) ?_ _
  try simp only[Act.put,qzF,qzG,qzH]
  replace hR1:=hR1.later hb13;replace hM1:=hM1.later hb13;replace hB1:=xaf hB1 hb13;have HRu:Hid (xcx X s name args fuel=xa4 (Rp.E ⟨X,fuel,.slice ac X.cz.length cc⟩) 20 ⟨X.heap,0,0,[]⟩ fc fj s args):=by show _=_;unfold xcx;rw[hf]
  have hfm:0<=fj->∃ mt,xaI X.cz fc fj=some mt:=fun h=>by have:=xiU (xs:=X.cz) (k:=xas X.heap s) (name:=name) (by rw[hf];exact h);rw[hf] at this;exact this
  have HFn:Hid (¬ 0<=fj->xcx X s name args fuel=(⟨X.heap,0,0,[]⟩,xaU,10)):=fun h=>by
   unfold xcx;have h2:¬ 0<=(xaB (Rp.X ⟨X,fuel,.slice ac X.cz.length cc⟩).cz (xas X.heap s) (QI.mk 0 0 0 0 name).name).2:=by show ¬ 0<=(xaB X.cz (xas X.heap s) name).2;rw[hf];exact h
   exact xkj (p:=⟨X,fuel,.slice ac X.cz.length cc⟩) (x:=QI.mk 0 0 0 0 name) (d:=20) h2
  have HA:=hid (hA.later xa1 hB1);clear hb12 hb13 hb2 hb3 hSl hS0 hf
  by_cases hj:0<=fj
  ·obtain⟨mt,hmt⟩:=hfm hj;have hj':¬ (fj<0):=by omega
   have HMt:=hid hmt;clear hfm HFn hmt hj;obtain⟨r,hr⟩:∃ r,xcx X s name args fuel=r:=⟨_,rfl⟩;rw[hr] at HPl HSt HRu;have hAF:xaO (Fx (xnM w.heap.size) w3) w3 (.slice aa args.length ca) args:=((xfh hA).later xa1 hB1).mono xa1 fun b hb=>⟨by have:=hB1.size;omega,xhX hb⟩
   obtain⟨n0,n1,n2,m0,m1,m2,m3⟩:=And.intro hR1.w0 (And.intro hR1.w1 (And.intro hR1.w2 (And.intro hR1.c0 (And.intro hR1.c1 (And.intro hR1.c2 hR1.c3)))));go_wp2_with fail;refine (show Calls Try.prog 44 #[.pointer (some ⟨w.heap.size+4,0,none⟩),.int .i64 fc,.int .i64 fj,VV s,.slice aa args.length ca] w3 _ from (xko HX.out.1 20 (qzC _) 5 (xnM w.heap.size) w3 (w.heap.size+4) ⟨X.heap,0,0,[]⟩ _ _ _ fc fj s args _ mt (qzC _) hM1 HMi.out (by unfold xpk;simp) HX.out.2.1 HX.out.2.2 hAF HMt.out).mono ?_)
   rw[← HRu.out];rintro e w5 ⟨rfl,⟨T5,hv5,sv5,ov5,hE5,hM5⟩,hK5⟩;dsimp only;have hR5:=hR1.kp hK5 (fun i hi=>by rw[t0 i hi];unfold All;omega)
   have hB5:Below w.heap.size w w5:=hB1.trans (hK5.below (fun b hb=>by rw[xhX hb];unfold All;omega) hB1.size)
   have hz:=hR1.sz;have t52:T5 (w.heap.size+2)=4:=by rw[hE5 _ (by omega)];exact t0 2 (by omega)
   have t53:T5 (w.heap.size+3)=4:=by rw[hE5 _ (by omega)];exact t0 3 (by omega)
   have hCw:=(xca hC).later xaA (xaf hB5 (xak w5 (.cells #[.int .i64 r.2.1.k,.int .i64 r.2.1.n] 27)));have hHw:=(xc8 hH).later xaE (xaf hB5 (xak w5 (.cells #[.int .i64 r.2.1.k,.int .i64 r.2.1.n] 27)));have y0:(w5.alloc (.cells #[.int .i64 r.2.1.k,.int .i64 r.2.1.n] 27)).cell? ⟨w5.heap.size,0,none⟩=some (.int .i64 r.2.1.k):=xaa _ _ _ _ rfl 0;have y1:(w5.alloc (.cells #[.int .i64 r.2.1.k,.int .i64 r.2.1.n] 27)).cell? ⟨w5.heap.size,1,none⟩=some (.int .i64 r.2.1.n):=xaa _ _ _ _ rfl 1;replace hR5:=hR5.later (xak w5 (.cells #[.int .i64 r.2.1.k,.int .i64 r.2.1.n] 27));replace hM5:=hM5.later (xak w5 (.cells #[.int .i64 r.2.1.k,.int .i64 r.2.1.n] 27))
   replace hB5:=xaf hB5 (xak w5 (.cells #[.int .i64 r.2.1.k,.int .i64 r.2.1.n] 27));have hvl:w.heap.size+4<w5.heap.size:=qzE (xal hM1.box) hK5.size;clear n0 n1 n2 m0 m1 m2 m3 hK5 hE5 hR1 hM1 hAF
   go_upto_region 9 with (fail)
   generalize (w5.alloc (.cells #[.int .i64 r.2.1.k,.int .i64 r.2.1.n] 27))=V at *;generalize w5.heap.size=vb at *;have c7:=hM5.c7;obtain⟨a5,c5,rfl,-⟩:=id hM5.heap
   by_cases h0:r.2.2=0
   ·rw[if_neg (by omega)] at HPl
    have HQ:=hid fun u0 u1 u2 v0 v1 v2 v3=>RuPost.fin (P:=Fx T5 V) (r:=⟨r.1.heap,r.2.1,0,r.1.sz_⟩) hB5 hM5.cls hM5.heap (fun h=>by have:=h.2;omega) (fun h=>by have:=h.2;omega) hM5 HSt.out.symm t52 t53 u0 u1 u2 v0 v1 v2 v3
    rw[h0] at c7;obtain⟨-,-,-,-,-,-,-,a0,a1,a2,af,b0,b1,b2,b3,bf,-⟩:=id hR5
    have hSl:∀ w',Below V.heap.size V w'->w'.cell? ⟨w.heap.size+4,0,none⟩=some (.slice ac X.cz.length cc)/\w'.cell? ⟨w.heap.size+4,1,none⟩=some (.slice a5 r.1.heap.length c5)/\w'.cell? ⟨w.heap.size+4,2,none⟩=some (.int .i64 X.ez)/\w'.cell? ⟨vb,0,none⟩=some (.int .i64 r.2.1.k)/\w'.cell? ⟨vb,1,none⟩=some (.int .i64 r.2.1.n)/\w'.cell? ⟨w.heap.size+4,4,none⟩=some (.int .i64 r.1.sz_):=fun w' hb=>by
     have h:=hM5.later hb
     exact⟨h.c0,h.c1,h.c2,qzA hb y0,qzA hb y1,h.c4⟩
    have hS0:=hSl _ (qzL _ V).drew;clear h0
    go_upto_region 11 with (fail)
    refine xav (S:=fun _=>True) [] (by kernel_rfl) ?_
    refine tj 10 (⟨some 79,.move (.tmp 9),69,_,_,none⟩) (.pointer (some ⟨w.heap.size+4,0,none⟩)) (trivial) ?_ ?_
    ·intro w hSw;obtain _h:=hSw;go_simp
    try simp only[Act.put,qzF,qzG,qzH]
    refine xdn (S:=fun w'=>w'.cell? ⟨w.heap.size+4,0,none⟩=some (.slice ac X.cz.length cc)/\w'.cell? ⟨w.heap.size+4,1,none⟩=some (.slice a5 r.1.heap.length c5)/\w'.cell? ⟨w.heap.size+4,2,none⟩=some (.int .i64 X.ez)/\w'.cell? ⟨vb,0,none⟩=some (.int .i64 r.2.1.k)/\w'.cell? ⟨vb,1,none⟩=some (.int .i64 r.2.1.n)/\w'.cell? ⟨w.heap.size+4,4,none⟩=some (.int .i64 r.1.sz_)) (late:=[12,13]) _ _ _ _ ?_
    refine tj 0 (⟨some 69,.move (.tmp 9),69,_,_,none⟩) (.pointer (some ⟨w.heap.size+4,0,none⟩)) (hS0) ?_ ?_
    ·rintro w⟨q0,q1,q2,q3,q4,q5⟩;go_simp
    try simp only[Act.put,qzF,qzG,qzH]
    refine tj 1 (⟨some 70,.nilCheck (.tmp 69),0,_,_,none⟩) (.pointer (some ⟨w.heap.size+4,0,none⟩)) (hS0) ?_ ?_
    ·rintro w⟨q0,q1,q2,q3,q4,q5⟩;go_simp
    try simp only[Act.put,qzF,qzG,qzH]
    refine tj 2 (⟨some 71,.fieldAddr 113 (.tmp 70) 0,0,_,_,none⟩) (.pointer (some ⟨w.heap.size+4,0,none⟩)) (hS0) ?_ ?_
    ·rintro w⟨q0,q1,q2,q3,q4,q5⟩;go_simp
    try simp only[Act.put,qzF,qzG,qzH]
    refine tj 3 (⟨some 72,.load 25 (.tmp 71),25,_,_,none⟩) (WV (.slice ac X.cz.length cc) (.slice a5 r.1.heap.length c5) X.ez) (hS0) ?_ ?_
    ·rintro w⟨q0,q1,q2,q3,q4,q5⟩;go_simp
    try simp only[Act.put,qzF,qzG,qzH]
    refine tj 4 (⟨some 73,.load 27 (.tmp 13),27,_,_,none⟩) (VV r.2.1) (hS0) ?_ ?_
    ·rintro w⟨q0,q1,q2,q3,q4,q5⟩;go_simp
    try simp only[Act.put,qzF,qzG,qzH]
    refine tj 5 (⟨some 74,.move (.tmp 9),69,_,_,none⟩) (.pointer (some ⟨w.heap.size+4,0,none⟩)) (hS0) ?_ ?_
    ·rintro w⟨q0,q1,q2,q3,q4,q5⟩;go_simp
    try simp only[Act.put,qzF,qzG,qzH]
    refine tj 6 (⟨some 75,.nilCheck (.tmp 74),0,_,_,none⟩) (.pointer (some ⟨w.heap.size+4,0,none⟩)) (hS0) ?_ ?_
    ·rintro w⟨q0,q1,q2,q3,q4,q5⟩;go_simp
    try simp only[Act.put,qzF,qzG,qzH]
    refine tj 7 (⟨some 76,.fieldAddr 113 (.tmp 75) 2,0,_,_,none⟩) (.pointer (some ⟨w.heap.size+4,4,none⟩)) (hS0) ?_ ?_
    ·rintro w⟨q0,q1,q2,q3,q4,q5⟩;go_simp
    try simp only[Act.put,qzF,qzG,qzH]
    refine tj 8 (⟨some 77,.load 3 (.tmp 76),3,_,_,none⟩) (.int .i64 r.1.sz_) (hS0) ?_ ?_
    ·rintro w⟨q0,q1,q2,q3,q4,q5⟩;go_simp
    try simp only[Act.put,qzF,qzG,qzH]
    refine tj 9 (⟨some 78,.build 35 #[(0,.tmp 73),(2,.tmp 77)],35,_,_,none⟩) (.agg #[.int .i64 r.2.1.k,.int .i64 r.2.1.n,.int .i64 0,.int .i64 r.1.sz_]) (hS0) ?_ ?_
    ·rintro w⟨q0,q1,q2,q3,q4,q5⟩;go_simp
    try simp only[Act.put,qzF,qzG,qzH]
    obtain⟨z0,z1,z2,z3,z4,z5⟩:=hSl _ (qzL _ V).drew;refine xab (rs:=[11]) (by kernel_rfl) (by simp) ?_
    intro i hi;simp only[List.mem_cons,List.not_mem_nil,or_false] at hi;subst hi;refine xaN (o:=⟨none,.store 25 (.tmp 6) (.tmp 72),0,_,_,none⟩) rfl (fun K' hK=>?_)
    go_simp;refine hK _ _ (fun _=>?_) ?_
    ·exact⟨xmZ z0 (by omega),xmZ z1 (by omega),xmZ z2 (by omega),xmZ z3 (by omega),xmZ z4 (by omega),xmZ z5 (by omega)⟩
    clear hK K'
    try simp only[Act.put,qzF,qzG,qzH]
    refine xab (rs:=[12]) (by kernel_rfl) (by simp) ?_
    intro i hi;simp only[List.mem_cons,List.not_mem_nil,or_false] at hi;subst hi;refine xaN (o:=⟨none,.store 35 (.tmp 7) (.tmp 78),0,_,_,none⟩) rfl (fun K' hK=>?_)
    go_simp;refine hK _ _ (fun h=>absurd h (by decide)) ?_
    clear hK K'
    try simp only[Act.put,qzF,qzG,qzH]
    refine xcN (S':=fun _=>True) (late':=[]) (by kernel_rfl) ?_
    refine tj 13 (⟨some 8,.assign (.tmp 79),69,_,_,none⟩) (.pointer (some ⟨w.heap.size+4,0,none⟩)) (trivial) ?_ ?_
    ·intro w hSw;obtain _h:=hSw;go_simp
    try simp only[Act.put,qzF,qzG,qzH]
    refine xaz (by kernel_rfl) ?_ _
    try simp only[Act.put,qzF,qzG,qzH]
    go_wp2;rw[HPl.out];refine qzK (v:=.tuple #[WV (.slice ac X.cz.length cc) (.slice a5 r.1.heap.length c5) X.ez,RnV ⟨r.1.heap,r.2.1,0,r.1.sz_⟩,.pointer (some ⟨w.heap.size+4,0,none⟩)]) ?_ rfl (HQ.out _ _ _ _ _ _ _).drew
    simp[results,Try.results15,go_sem,a0,a1,a2,b0,b1,b2,b3]
   ·rw[if_pos h0] at HPl;have HQ:=hid fun u0 u1 u2 v0 v1 v2 v3=>RuPost.fin (P:=fun b=>b<w.heap.size) (r:=⟨X.heap,xaU,r.2.2,r.1.sz_⟩) hB5 hCw hHw (by omega) (by omega) hM5 HSt.out.symm t52 t53 u0 u1 u2 v0 v1 v2 v3
    have h0':(r.2.2 == 0)=false:=by simpa using h0
    obtain⟨-,-,-,-,-,-,-,a0,a1,a2,af,b0,b1,b2,b3,bf,-⟩:=id hR5
    have hSl:∀ w',Below V.heap.size V w'->w'.cell? ⟨w.heap.size,0,none⟩=some (.slice ac X.cz.length cc)/\w'.cell? ⟨w.heap.size,1,none⟩=some (.slice ah X.heap.length ch)/\w'.cell? ⟨w.heap.size,2,none⟩=some (.int .i64 X.ez)/\w'.cell? ⟨w.heap.size+4,7,none⟩=some (.int .i64 r.2.2)/\w'.cell? ⟨w.heap.size+4,4,none⟩=some (.int .i64 r.1.sz_):=fun w' hb=>by
     have h:=hM5.later hb;have h':=hR5.later hb
     exact⟨h'.w0,h'.w1,h'.w2,h.c7,h.c4⟩
    have hS0:=hSl _ (qzL _ V).drew;clear h0
    go_upto_region 10 with (fail)
    refine xav (S:=fun _=>True) [] (by kernel_rfl) ?_
    refine tj 10 (⟨some 68,.move (.tmp 9),69,_,_,none⟩) (.pointer (some ⟨w.heap.size+4,0,none⟩)) (trivial) ?_ ?_
    ·intro w hSw;obtain _h:=hSw;go_simp
    try simp only[Act.put,qzF,qzG,qzH]
    refine xdn (S:=fun w'=>w'.cell? ⟨w.heap.size,0,none⟩=some (.slice ac X.cz.length cc)/\w'.cell? ⟨w.heap.size,1,none⟩=some (.slice ah X.heap.length ch)/\w'.cell? ⟨w.heap.size,2,none⟩=some (.int .i64 X.ez)/\w'.cell? ⟨w.heap.size+4,7,none⟩=some (.int .i64 r.2.2)/\w'.cell? ⟨w.heap.size+4,4,none⟩=some (.int .i64 r.1.sz_)) (late:=[12,13]) _ _ _ _ ?_
    refine tj 0 (⟨some 58,.load 25 (.tmp 3),25,_,_,none⟩) (WV (.slice ac X.cz.length cc) (.slice ah X.heap.length ch) X.ez) (hS0) ?_ ?_
    ·rintro w⟨q0,q1,q2,q3,q4⟩;go_simp
    try simp only[Act.put,qzF,qzG,qzH]
    refine tj 1 (⟨some 59,.move (.tmp 9),69,_,_,none⟩) (.pointer (some ⟨w.heap.size+4,0,none⟩)) (hS0) ?_ ?_
    ·rintro w⟨q0,q1,q2,q3,q4⟩;go_simp
    try simp only[Act.put,qzF,qzG,qzH]
    refine tj 2 (⟨some 60,.nilCheck (.tmp 59),0,_,_,none⟩) (.pointer (some ⟨w.heap.size+4,0,none⟩)) (hS0) ?_ ?_
    ·rintro w⟨q0,q1,q2,q3,q4⟩;go_simp
    try simp only[Act.put,qzF,qzG,qzH]
    refine tj 3 (⟨some 61,.fieldAddr 113 (.tmp 60) 5,0,_,_,none⟩) (.pointer (some ⟨w.heap.size+4,7,none⟩)) (hS0) ?_ ?_
    ·rintro w⟨q0,q1,q2,q3,q4⟩;go_simp
    try simp only[Act.put,qzF,qzG,qzH]
    refine tj 4 (⟨some 62,.load 32 (.tmp 61),32,_,_,none⟩) (.int .i64 r.2.2) (hS0) ?_ ?_
    ·rintro w⟨q0,q1,q2,q3,q4⟩;go_simp
    try simp only[Act.put,qzF,qzG,qzH]
    refine tj 5 (⟨some 63,.move (.tmp 9),69,_,_,none⟩) (.pointer (some ⟨w.heap.size+4,0,none⟩)) (hS0) ?_ ?_
    ·rintro w⟨q0,q1,q2,q3,q4⟩;go_simp
    try simp only[Act.put,qzF,qzG,qzH]
    refine tj 6 (⟨some 64,.nilCheck (.tmp 63),0,_,_,none⟩) (.pointer (some ⟨w.heap.size+4,0,none⟩)) (hS0) ?_ ?_
    ·rintro w⟨q0,q1,q2,q3,q4⟩;go_simp
    try simp only[Act.put,qzF,qzG,qzH]
    refine tj 7 (⟨some 65,.fieldAddr 113 (.tmp 64) 2,0,_,_,none⟩) (.pointer (some ⟨w.heap.size+4,4,none⟩)) (hS0) ?_ ?_
    ·rintro w⟨q0,q1,q2,q3,q4⟩;go_simp
    try simp only[Act.put,qzF,qzG,qzH]
    refine tj 8 (⟨some 66,.load 3 (.tmp 65),3,_,_,none⟩) (.int .i64 r.1.sz_) (hS0) ?_ ?_
    ·rintro w⟨q0,q1,q2,q3,q4⟩;go_simp
    try simp only[Act.put,qzF,qzG,qzH]
    refine tj 9 (⟨some 67,.build 35 #[(1,.tmp 62),(2,.tmp 66)],35,_,_,none⟩) (.agg #[.int .i64 0,.int .i64 0,.int .i64 r.2.2,.int .i64 r.1.sz_]) (hS0) ?_ ?_
    ·rintro w⟨q0,q1,q2,q3,q4⟩;go_simp
    try simp only[Act.put,qzF,qzG,qzH]
    obtain⟨z0,z1,z2,z3,z4⟩:=hSl _ (qzL _ V).drew;refine xab (rs:=[11]) (by kernel_rfl) (by simp) ?_
    intro i hi;simp only[List.mem_cons,List.not_mem_nil,or_false] at hi;subst hi;refine xaN (o:=⟨none,.store 25 (.tmp 6) (.tmp 58),0,_,_,none⟩) rfl (fun K' hK=>?_)
    go_simp;refine hK _ _ (fun _=>?_) ?_
    ·exact⟨xmZ z0 (by omega),xmZ z1 (by omega),xmZ z2 (by omega),xmZ z3 (by omega),xmZ z4 (by omega)⟩
    clear hK K'
    try simp only[Act.put,qzF,qzG,qzH]
    refine xab (rs:=[12]) (by kernel_rfl) (by simp) ?_
    intro i hi;simp only[List.mem_cons,List.not_mem_nil,or_false] at hi;subst hi;refine xaN (o:=⟨none,.store 35 (.tmp 7) (.tmp 67),0,_,_,none⟩) rfl (fun K' hK=>?_)
    go_simp;refine hK _ _ (fun h=>absurd h (by decide)) ?_
    clear hK K'
    try simp only[Act.put,qzF,qzG,qzH]
    refine xcN (S':=fun _=>True) (late':=[]) (by kernel_rfl) ?_
    refine tj 13 (⟨some 8,.assign (.tmp 68),69,_,_,none⟩) (.pointer (some ⟨w.heap.size+4,0,none⟩)) (trivial) ?_ ?_
    ·intro w hSw;obtain _h:=hSw;go_simp
    try simp only[Act.put,qzF,qzG,qzH]
    refine xaz (by kernel_rfl) ?_ _
    try simp only[Act.put,qzF,qzG,qzH]
    go_wp2;rw[HPl.out];refine qzK (v:=.tuple #[WV (.slice ac X.cz.length cc) (.slice ah X.heap.length ch) X.ez,RnV ⟨X.heap,xaU,r.2.2,r.1.sz_⟩,.pointer (some ⟨w.heap.size+4,0,none⟩)]) ?_ rfl (HQ.out _ _ _ _ _ _ _).drew
    simp[results,Try.results15,go_sem,a0,a1,a2,b0,b1,b2,b3]
  ·have hj':fj<0:=by omega
   have HRn:=hid (HFn.out hj);have HPl':Hid (xdG X s name args fuel=⟨X.heap,xaU,10,0⟩):=by show _=_;rw[HPl.out,HRn.out];simp
   have HSt':Hid (xlt X s name args fuel=[]):=by show _=_;rw[HSt.out,HRn.out]
   have HQ:=hid fun u0 u1 u2 v0 v1 v2 v3=>RuPost.fin (P:=fun b=>b<w.heap.size) (r:=⟨X.heap,xaU,10,0⟩) hB1 ((xca hC).later xaA hB1) ((xc8 hH).later xaE hB1) (by omega) (by omega) hM1 rfl (t0 2 (by omega)) (t0 3 (by omega)) u0 u1 u2 v0 v1 v2 v3
   obtain⟨n0,n1,n2,-,-,-,-,a0,a1,a2,af,b0,b1,b2,b3,bf,-⟩:=id hR1;clear hfm HFn HPl HSt hj;go_wp2;rw[HPl'.out,HSt'.out];refine qzK (v:=.tuple #[WV (.slice ac X.cz.length cc) (.slice ah X.heap.length ch) X.ez,RnV ⟨X.heap,xaU,10,0⟩,.pointer (some ⟨w.heap.size+4,0,none⟩)]) ?_ rfl (HQ.out _ _ _ _ _ _ _)
   simp[results,Try.results15,go_sem,a0,a1,a2,b0,b1,b2,b3]
 ·have hw':(xar X s name args fuel == 0)=false:=by simpa using hw
  have hw2:(xar X s name args fuel != 0)=true:=by simpa using hw
  have HPl:Hid (xdG X s name args fuel=⟨X.heap,xaU,xar X s name args fuel,0⟩):=by show _=_;unfold xdG;rw[if_pos hw]
  have HSt:Hid (xlt X s name args fuel=[]):=by show _=_;unfold xlt;rw[if_pos hw]
  generalize xar X s name args fuel=we at *;have HQ:=hid fun u0 u1 u2 v0 v1 v2 v3=>RuPost.fin (P:=fun b=>b<w.heap.size) (r:=⟨X.heap,xaU,we,0⟩) hB1 ((xca hC).later xaA hB1) ((xc8 hH).later xaE hB1) (by omega) (by omega) hM1 rfl (t0 2 (by omega)) (t0 3 (by omega)) u0 u1 u2 v0 v1 v2 v3
  obtain⟨n0,n1,n2,-,-,-,-,a0,a1,a2,af,b0,b1,b2,b3,bf,-⟩:=id hR1;clear hw;go_wp2;rw[HPl.out,HSt.out];refine qzK (v:=.tuple #[WV (.slice ac X.cz.length cc) (.slice ah X.heap.length ch) X.ez,RnV ⟨X.heap,xaU,we,0⟩,.pointer (some ⟨w.heap.size+4,0,none⟩)]) ?_ rfl (HQ.out _ _ _ _ _ _ _)
  simp[results,Try.results15,go_sem,a0,a1,a2,b0,b1,b2,b3]
theorem xra (d:Nat)(k n k' n':Int)(w:World):(Op.equalIn (d+2) 27 (.agg #[.int .i64 k,.int .i64 n]) (.agg #[.int .i64 k',.int .i64 n'])).run Try.prog w=.ok (k == k' && n == n') w:=by
 have u3:=Try.underlying3;have a3:=Try.isAgg3;have z3:=Try.sizeOf3;have hS:Try.prog.underlying 27=some (.struct (Try.prog.fieldsOf 27)):=by kernel_rfl
 have hp:Try.prog.stoodInHeld 27=false:=by kernel_rfl
 rw[run_equalIn_struct w (d+1) 27 _ _ hS hp];simp only[Program.fieldsOf,Try.underlying27];go_simp
 by_cases h1:k=k'<;>by_cases h3:n=n'<;>simp[h1,h3]
theorem xrb (x y:Ran)(w:World):(Op.equalIn 10000 35 (RnV x) (RnV y)).run Try.prog w=.ok (x.v.k == y.v.k && x.v.n == y.v.n && x.err == y.err && x.sz_ == y.sz_) w:=by
 have u3:=Try.underlying3;have a3:=Try.isAgg3;have z3:=Try.sizeOf3;have u31:=Try.underlying32;have a31:=Try.isAgg32;have z31:=Try.sizeOf32;have a27:=Try.isAgg27;have z27:=Try.sizeOf27;have hV:=xra 9997;have hS:Try.prog.underlying 35=some (.struct (Try.prog.fieldsOf 35)):=by kernel_rfl
 have hp:Try.prog.stoodInHeld 35=false:=by kernel_rfl
 rw[show (10000:Nat)=9999+1 from rfl,run_equalIn_struct w 9999 35 _ _ hS hp]
 simp only[Program.fieldsOf,Try.underlying35];clear hS hp;go_simp
 by_cases h1:x.v.k=y.v.k<;>by_cases h2:x.v.n=y.v.n<;>by_cases h3:x.err=y.err<;>by_cases h4:x.sz_=y.sz_<;>simp[h1,h2,h3,h4]
theorem eqlR (x y:Ran)(w:World):(binOp .eql 35 (RnV x) (RnV y)).run Try.prog w=.ok (.bool (x.v.k == y.v.k && x.v.n == y.v.n && x.err == y.err && x.sz_ == y.sz_)) w:=by
 rw[run_eql_struct,xrb]
 rfl
theorem xkv (x:Ran):(x.v.k == x.v.k && x.v.n == x.v.n && x.err == x.err && x.sz_ == x.sz_)=true:=by simp
end Go.Proofs.Ytdfbgpiikeheiaa
