/- A part. -/
import Derived.Test.YtapbeiccodnniaaGreatM36
namespace Go.Proofs.YtapbeiccodnniaaGreat
open Go.ChangeShapes Go.WideShapes Go.ChangeAt Go.RowKit
set_option linter.unusedSimpArgs false
set_option linter.unusedVariables false
set_option maxHeartbeats 8000000
set_option maxRecDepth 8000
def xoE (p:Rp)(d:Nat):Prop:=
 ∀ (K:Nat) (T:Nat->Nat) (w:World) (mb:Nat) (m:Mc RSt) (hv sv ov:Value) (c n:Int) (self:QV) (args:List QV) (av:Value) (mt:QM) (kv:Value),5<=K->RMac p T w mb m (20-(d:Int)) 0 hv sv ov->MIn p.E m->Few m->FOk p.X.cz m.heap.length (xaG p.E c n mt self args)->PlOk (xaG p.E c n mt self args)->xaB (Fx T w) w av args->xa5 (Fx T w) w kv mt.code->
  Calls Tryz.prog 52 #[.pointer (some ⟨mb,0,none⟩),.int .i64 c,MV mt kv,VV self,av] w fun e w'=>xaS p T w mb (20-(d:Int)) K (xcL (xa1 p.E d) p.E d (xeQ (xaG p.E c n mt self args)) m (xaG p.E c n mt self args)) e w'
structure ErB (w:World)(sf:QV)(mt:QM)(kv:Value)(w':World):Prop where
 s0:w'.cell? ⟨w.heap.size,0,none⟩=some (.int .i64 sf.k)
 s1:w'.cell? ⟨w.heap.size,1,none⟩=some (.int .i64 sf.n)
 r0:w'.cell? ⟨w.heap.size+1,0,none⟩=some (.int .i64 0)
 r1:w'.cell? ⟨w.heap.size+1,1,none⟩=some (.int .i64 0)
 rf:∀ o,w'.frozen? ⟨w.heap.size+1,o,none⟩=false
 m0:w'.heap[w.heap.size+2]?=some (.cells #[.string mt.name,.int .i64 mt.args,.int .i64 mt.temps,.int .i64 mt.prim,kv] 59 (0,0))
theorem ErB.kp {w:World}{sf:QV}{mt:QM}{kv:Value}{w' w'':World}{S:Nat->Prop}{T:Nat->Nat}(h:ErB w sf mt kv w')(k:Kp S T w' w'')(h0:¬ S (T w.heap.size))(h1:¬ S (T (w.heap.size+1)))(h2:¬ S (T (w.heap.size+2))):ErB w sf mt kv w'':=
 ⟨k.cell h.s0 h0,k.cell h.s1 h0,k.cell h.r0 h1,k.cell h.r1 h1,fun o=>xb6 k (by have:=xaf h.m0;omega) h1 (h.rf o),k.held h.m0 h2⟩
theorem ErB.later {w:World}{sf:QV}{mt:QM}{kv:Value}{w' w'':World}(h:ErB w sf mt kv w')(hb:Below w'.heap.size w' w''):ErB w sf mt kv w'':=h.kp (S:=fun _=>False) (T:=fun _=>0) (.of_below hb) id id id
theorem xog (w:World)(sf:QV)(mt:QM)(kv:Value):ErB w sf mt kv (((w.alloc (.cells #[.int .i64 sf.k,.int .i64 sf.n] 27)).alloc (.cells #[.int .i64 0,.int .i64 0] 27)).alloc (.cells #[.string mt.name,.int .i64 mt.args,.int .i64 mt.temps,.int .i64 mt.prim,kv] 59)):=by
 obtain⟨s0,s1,r0,r1,rf,sz⟩:=xhM w sf;have hb:=xaj ((w.alloc (.cells #[.int .i64 sf.k,.int .i64 sf.n] 27)).alloc (.cells #[.int .i64 0,.int .i64 0] 27)) (.cells #[.string mt.name,.int .i64 mt.args,.int .i64 mt.temps,.int .i64 mt.prim,kv] 59);have hz:((w.alloc (.cells #[.int .i64 sf.k,.int .i64 sf.n] 27)).alloc (.cells #[.int .i64 0,.int .i64 0] 27)).heap.size=w.heap.size+2:=by simp
 refine⟨qzA hb s0,qzA hb s1,qzA hb r0,qzA hb r1,fun o=>(hb.frozen (p:=⟨w.heap.size+1,o,none⟩) (by simp)).trans (rf o),?_⟩
 have:=qzJ ((w.alloc (.cells #[.int .i64 sf.k,.int .i64 sf.n] 27)).alloc (.cells #[.int .i64 0,.int .i64 0] 27)) (.cells #[.string mt.name,.int .i64 mt.args,.int .i64 mt.temps,.int .i64 mt.prim,kv] 59);rw[hz] at this
 exact this
section
variable {p:Rp} {d:Nat} {T T1:Nat->Nat} {w U:World} {mb K:Nat} {m:Mc RSt} {hv sv ov:Value} {r:Mc RSt × QV × Int}
theorem xfU {deep:Int}(hE:Ext T T1 w)(hM:RMac p T1 U mb r.1 deep r.2.2 hv sv ov)(hK:Kp (All K) T w U)(h4:T1 (w.heap.size+1)=4):xaS p T w mb deep K r (.returned (VV r.2.1)) ((U.setCell ⟨w.heap.size+1,0,none⟩ (.int .i64 r.2.1.k)).setCell ⟨w.heap.size+1,1,none⟩ (.int .i64 r.2.1.n)):=by
 have k4:Kp (fun t=>t=4) T1 U ((U.setCell ⟨w.heap.size+1,0,none⟩ (.int .i64 r.2.1.k)).setCell ⟨w.heap.size+1,1,none⟩ (.int .i64 r.2.1.n)):=((Kp.refl (fun t=>t=4) T1 U).set (b:=w.heap.size+1) (fun _=>h4) _ _).set (b:=w.heap.size+1) (fun _=>h4) _ _
 exact⟨rfl,⟨T1,_,_,_,hE,hM.keep (.refl _ _) k4 (by omega) (by omega) (by omega) (by omega)⟩,(hK.set (fun h=>by omega) _ _).set (fun h=>by omega) _ _⟩
end
theorem xfO {h:Int}{v:QV}(hv:xas h v=0):v.k=3->-1073741824<=v.n/\v.n<=1073741824:=fun hk=>by
 unfold xas xch at hv;rw[hk] at hv
 simp at hv
 omega
structure PmS (W:World)(b:Nat)(q:Int)(s y:QV)(ba oa:Nat)(w':World):Prop where
 c1:w'.cell? ⟨b+2,3,none⟩=some (.int .i64 q)
 c2:w'.cell? ⟨b,0,none⟩=some (.int .i64 s.k)
 c3:w'.cell? ⟨b,1,none⟩=some (.int .i64 s.n)
 c4:w'.cell? ⟨ba,oa,none⟩=some (.int .i64 y.k)
 c5:w'.cell? ⟨ba,oa+1,none⟩=some (.int .i64 y.n)
 bel:Below W.heap.size W w'
 lt:b+2<W.heap.size/\ba<W.heap.size
theorem PmS.later {W:World}{b:Nat}{q:Int}{s y:QV}{ba oa:Nat}{w' w'':World}(h:PmS W b q s y ba oa w')(hb:Below w'.heap.size w' w''):PmS W b q s y ba oa w'':=⟨qzA hb h.c1,qzA hb h.c2,qzA hb h.c3,qzA hb h.c4,qzA hb h.c5,xah h.bel hb,h.lt⟩
theorem PmS.al {W:World}{b:Nat}{q:Int}{s y:QV}{ba oa:Nat}{w':World}(h:PmS W b q s y ba oa w'):w'.cell? ⟨b+1+1,3,none⟩=some (.int .i64 q)/\w'.cell? ⟨b,0,none⟩=some (.int .i64 s.k)/\w'.cell? ⟨b,1,none⟩=some (.int .i64 s.n)/\w'.cell? ⟨ba,oa,none⟩=some (.int .i64 y.k)/\w'.cell? ⟨ba,oa+1,none⟩=some (.int .i64 y.n)/\PmS W b q s y ba oa w':=⟨h.c1,h.c2,h.c3,h.c4,h.c5,h⟩
theorem PmS.set {W:World}{b:Nat}{q:Int}{s y:QV}{ba oa:Nat}{w':World}(h:PmS W b q s y ba oa w'){x:Nat}(hx:W.heap.size<=x)(o:Nat)(u:Value):PmS W b q s y ba oa (w'.setCell ⟨x,o,none⟩ u):=
 have hl:=h.lt
 ⟨(qzI _ _ _ _ (by simp;omega)).trans h.c1,(qzI _ _ _ _ (by simp;omega)).trans h.c2,(qzI _ _ _ _ (by simp;omega)).trans h.c3,(qzI _ _ _ _ (by simp;omega)).trans h.c4,(qzI _ _ _ _ (by simp;omega)).trans h.c5,h.bel.setCell hx _,hl⟩
theorem xoy {V w2:World}{v:QV}(hb:Below (V.alloc (.cells #[.int .i64 0,.int .i64 0] 27)).drew.heap.size (V.alloc (.cells #[.int .i64 0,.int .i64 0] 27)).drew w2):((w2.setCell ⟨V.heap.size,0,none⟩ (.int .i64 v.k)).setCell ⟨V.heap.size,1,none⟩ (.int .i64 v.n)).cell? ⟨V.heap.size,0,none⟩=some (.int .i64 v.k)/\((w2.setCell ⟨V.heap.size,0,none⟩ (.int .i64 v.k)).setCell ⟨V.heap.size,1,none⟩ (.int .i64 v.n)).cell? ⟨V.heap.size,1,none⟩=some (.int .i64 v.n):=by
 have g0:(V.alloc (.cells #[.int .i64 0,.int .i64 0] 27)).drew.cell? ⟨V.heap.size,0,none⟩=some (.int .i64 0):=xaa V _ _ _ rfl 0;have g1:(V.alloc (.cells #[.int .i64 0,.int .i64 0] 27)).drew.cell? ⟨V.heap.size,1,none⟩=some (.int .i64 0):=xaa V _ _ _ rfl 1;have c0:=qzA hb g0;have c1:=qzA hb g1
 exact⟨(qzM _ _ _ _ (by simp)).trans (World.cell?_setCell_same _ _ _ c0),World.cell?_setCell_same _ _ _ ((qzM _ _ _ _ (by simp)).trans c1)⟩
theorem xf2 {p:Rp}(hX:Rx p)(d:Nat)(hd:d<=20)(hB:∀ d',d=d'+1->xoE p d'):xoY p d:=by
 intro K T w mb m hv sv ov c n self args av mt hK h hI hW hSe hAr hA hmt;obtain⟨aa,ca,rfl,-,hca,-,-⟩:=id hA;unfold maxLen at hca;obtain⟨q,j,xc,rfl,rfl,hxc,hxm⟩:=xej hmt;obtain⟨ac,cc,hcv,hlc,hcc,-,hrow⟩:=id h.cls;obtain⟨bc,oc,hac,-,-,-,-,-,mv,y3,hms⟩:=hrow q xc hxc;obtain⟨am,cm,rfl,hlm,hcm,-,hrm⟩:=hms;obtain⟨b2,o2,rfl,-,z0,z1,z2,z3,-,kv,z4,hco⟩:=hrm j mt hxm;obtain⟨ak,ck,rfl,-⟩:=id hco;subst hac;simp only[Nat.add_zero] at z0;unfold maxLen at hcc hcm;have hq:=xae hxc;have hj:=xae hxm;have hq1:(q:Int)<(p.X.cz.length:Int):=by omega
 have hq0:(0:Int)<=(q:Int):=by omega
 have hj1:(j:Int)<(xc.mz.length:Int):=by omega
 have hj0:(0:Int)<=(j:Int):=by omega
 have hmbl:=xaf h.box;have hb2:=xca w (.cells #[.int .i64 self.k,.int .i64 self.n] 27) (.cells #[.int .i64 0,.int .i64 0] 27);have hb3:=xfv w (.cells #[.int .i64 self.k,.int .i64 self.n] 27) (.cells #[.int .i64 0,.int .i64 0] 27) (.cells #[.string mt.name,.int .i64 mt.args,.int .i64 mt.temps,.int .i64 mt.prim,.slice ak mt.code.length ck] 59);have c0:=qzA hb2 h.c0;rw[hcv] at c0;have y3':=qzA hb2 y3;have z0':=qzA hb2 z0;have z1':=qzA hb2 z1;have z2':=qzA hb2 z2;have z3':=qzA hb2 z3;have z4':=qzA hb2 z4;have hE0:=xog w self mt (.slice ak mt.code.length ck);have hM0:=h.keep (xao T w 4) (Kp.of_below (S:=fun _=>False) hb3) id id id id
 have hA0:=hA.fx xaK (xao T w 4) (Kp.of_below (S:=fun _=>False) hb3) id
 have hC0:=hco.fx xbl (xao T w 4) (Kp.of_below (S:=fun _=>False) hb3) id
 have HK0:Hid (Kp (All K) T w _):=Kp.of_below hb3;have HRM:=hid (xfT hX.right hmt);have HEN:Hid (xa1 p.E d m q j self args=xbj p.E d (xie p.E d) m q j self args):=by show _=_;rw[xlq]
 have HMT:=hid hmt;clear hrow hrm hxc hxm z0 z1 z2 z3 z4 y3 hco hA h;go_enter Tryz.func35,Tryz.ntmps35
 go_upto_region 2 with (fail)
 generalize (((w.alloc (.cells #[.int .i64 self.k,.int .i64 self.n] 27)).alloc (.cells #[.int .i64 0,.int .i64 0] 27)).alloc (.cells #[.string mt.name,.int .i64 mt.args,.int .i64 mt.temps,.int .i64 mt.prim,.slice ak mt.code.length ck] 59))=W at *;have t0:xau T w 4 w.heap.size=4:=xav (qzC _);have t1:xau T w 4 (w.heap.size+1)=4:=xav (by omega)
 have t2:xau T w 4 (w.heap.size+2)=4:=xav (by omega)
 have hEx:=xao T w 4;generalize xau T w 4=T1 at *;have HEx:=hid hEx;have HT1:=hid t1;clear c0 y3' z0' z1' z2' z3' z4' hb2 hb3 hEx;have hne1:¬ mb=w.heap.size+1:=by omega
 have hne1':¬ w.heap.size+1=mb:=by omega
 have hne0:¬ mb=w.heap.size:=by omega
 have hne0':¬ w.heap.size=mb:=by omega
 have hne2:¬ mb=w.heap.size+2:=by omega
 have hne2':¬ w.heap.size+2=mb:=by omega
 have hfail:∀ (e:Int),Hid (RMac p T1 (W.setCell ⟨mb,7,none⟩ (.int .i64 e)) mb m (20-(d:Int)) e hv sv ov/\Kp (All K) T w (W.setCell ⟨mb,7,none⟩ (.int .i64 e))):=fun e=>⟨hM0.num7 e,HK0.out.trans HEx.out ((kp1 hM0 7 (.int .i64 e)).mono fun t h=>Or.inl h)⟩
 have c7:=hM0.c7;have cf:=xam hM0.box;obtain⟨s0,s1,r0,r1,rf,hm0⟩:=id hE0;have m1:W.cell? ⟨w.heap.size+2,1,none⟩=some (.int .i64 mt.args):=by rw[qzB hm0];rfl
 have m3:W.cell? ⟨w.heap.size+2,3,none⟩=some (.int .i64 mt.prim):=by rw[qzB hm0];rfl
 have hEq:∀ r,xbj p.E d (xie p.E d) m q j self args=r->Hid (xa1 p.E d m q j self args=r):=fun r h=>HEN.out.trans h
 by_cases hargs:mt.args=(args.length:Int)
 ·have hd:(mt.args == (args.length:Int))=true:=by simpa using hargs
  have c3:=hM0.c3;have c4:=hM0.c4;have HArg:=hid hargs;rw[hargs] at m1;clear hargs hd hfail
  go_upto_region 5 with (fail)
  go_quiet (fail)
  have hbq:=below_drewN (qzL W.heap.size W) nq;replace hM0:=hM0.later hbq;replace hE0:=hE0.later hbq;replace hA0:=hA0.fx xaK (.refl _ _) (Kp.of_below (S:=fun _=>False) hbq) id
  replace hC0:=hC0.fx xbl (.refl _ _) (Kp.of_below (S:=fun _=>False) hbq) id
  have HKV:Hid (Kp (All K) T w (W.drewN nq)):=HK0.out.trans HEx.out (Kp.of_below hbq);clear hbq c3 c4 c7 cf s0 s1 r0 r1 rf hm0 m1 m3;generalize W.drewN nq=V at *;obtain⟨s0,s1,r0,r1,rf,hm0⟩:=id hE0;have m3:V.cell? ⟨w.heap.size+2,3,none⟩=some (.int .i64 mt.prim):=by rw[qzB hm0];rfl
  have c4:=hM0.c4;have c6:=hM0.c6;have c7:=hM0.c7;have cf:=xam hM0.box;have hfail:∀ (e:Int),Hid (RMac p T1 (V.setCell ⟨mb,7,none⟩ (.int .i64 e)) mb m (20-(d:Int)) e hv sv ov/\Kp (All K) T w (V.setCell ⟨mb,7,none⟩ (.int .i64 e))):=fun e=>⟨hM0.num7 e,HKV.out.trans HEx.out ((kp1 hM0 7 (.int .i64 e)).mono fun t h=>Or.inl h)⟩
  have hEnt:xbj p.E d (xie p.E d) m q j self args=if mt.prim≠0 then (if p.fuel<=m.sz_ then (m,xaU,13) else ({ m with sz_:=m.sz_+1 },xbA mt.prim self (xaM args 0))) else if (xay p.E d m).2≠0 then (m,xaU,(xay p.E d m).2) else xie p.E d (xay p.E d m).1 (xaG p.E q j mt self args):=by
   unfold xbj;rw[show xaO p.E.cz (q:Int) (j:Int)=some mt from HMT.out]
   simp only[];rw[if_neg (by have:=HArg.out;omega)]
   rfl
  have HEnt:=hid hEnt;clear hEnt
  by_cases hfu:p.fuel<=m.sz_
  ·have HV:=hEq (m,xaU,13) (by
    rw[HEnt.out]
    by_cases hpr:mt.prim≠0
    ·rw[if_pos hpr,if_pos hfu]
    ·rw[if_neg hpr];have hc:xay p.E d m=(m,13):=by unfold xay;rw[if_pos (show p.E.fuel<=m.sz_ from hfu)]
     rw[hc];simp)
   obtain⟨HM7,HK7⟩:=(hfail 13).out;have HM7:=hid HM7;have HK7:=hid HK7;have hfd:decide (p.fuel<=m.sz_)=true:=by simpa using hfu
   clear hfail hEq hE0 hM0 hA0 hC0;go_wp2;rw[HV.out];refine qzK (v:=VV xaU) ?_ rfl (xfU (r:=(m,xaU,13)) HEx.out HM7.out HK7.out HT1.out)
   simp[results,Tryz.results35,go_sem,r0,r1,hne1,hne1']
  ·have hfd:decide (p.fuel<=m.sz_)=false:=by simpa using hfu
   have HFu:=hid hfu;have hsw:IntKind.i64.wrap (m.sz_+1)=m.sz_+1:=by have:=hI.sz_;have:=hX.fuel;exact xaE (by omega) (by omega)
   have hsw':wrap64 (m.sz_+1)=m.sz_+1:=by have:=hI.sz_;have:=hX.fuel;unfold wrap64;omega
   clear hfu
   by_cases hpr:mt.prim=0
   ·rw[hpr] at m3
    by_cases hd0:d=0
    ·have HV:=hEq (m,xaU,14) (by
      rw[HEnt.out,if_neg (by simpa using hpr)]
      have hc:xay p.E d m=(m,14):=by unfold xay;rw[if_neg (show ¬ p.E.fuel<=m.sz_ from HFu.out),if_pos hd0]
      rw[hc];simp)
     obtain⟨HM7,HK7⟩:=(hfail 14).out;have HM7:=hid HM7;have HK7:=hid HK7;have c6a:V.cell? ⟨mb,6,none⟩=some (.int .i64 20):=by rw[c6,hd0];rfl
     obtain rfl:d=0:=hd0;clear c6;clear hfail hEq hE0 hM0 hA0 hC0 hpr;go_wp2;rw[HV.out];refine qzK (v:=VV xaU) ?_ rfl (by have:=xfU (r:=(m,xaU,14)) HEx.out HM7.out HK7.out HT1.out;simpa using this)
     simp[results,Tryz.results35,go_sem,r0,r1,hne1,hne1']
    ·obtain⟨d',rfl⟩:∃ d',d=d'+1:=⟨d-1,by omega⟩
     have hc:xay p.E (d'+1) m=({ m with sz_:=m.sz_+1 },0):=by unfold xay;rw[if_neg (show ¬ p.E.fuel<=m.sz_ from HFu.out),if_neg (by omega)]
     have HV:=hEq (xcL (xa1 p.E d') p.E d' (xeQ (xaG p.E q j mt self args)) { m with sz_:=m.sz_+1 } (xaG p.E q j mt self args)) (by
      rw[HEnt.out,if_neg (by simpa using hpr),hc]
      simp only[];rw[if_neg (by simp)]
      rfl)
     have hdp:(20:Int)-((d'+1:Nat):Int)=19-(d':Int):=by omega
     rw[hdp] at c6;have hdg:decide ((20:Int)<=19-(d':Int))=false:=by simp;omega
     have hdw:IntKind.i64.wrap (19-(d':Int)+1)=20-(d':Int):=by rw[xaE (by omega) (by omega)];omega
     have hdw':wrap64 (19-(d':Int)+1)=20-(d':Int):=by unfold wrap64;omega
     have hdv:IntKind.i64.wrap (20-(d':Int)-1)=19-(d':Int):=by rw[xaE (by omega) (by omega)];omega
     have hdv':wrap64 (20-(d':Int)-1)=19-(d':Int):=by unfold wrap64;omega
     have hM1:=(hM0.num4 (m.sz_+1)).num6 (20-(d':Int));have k1:Kp (fun t=>t=1) T1 V ((V.setCell ⟨mb,4,none⟩ (.int .i64 (m.sz_+1))).setCell ⟨mb,6,none⟩ (.int .i64 (20-(d':Int)))):=(kp1 hM0 4 _).trans (.refl _ _) (kp1 (hM0.num4 (m.sz_+1)) 6 _)
     have hE1:=hE0.kp k1 (by rw[t0];omega) (by rw[t1];omega) (by rw[t2];omega)
     have hA1:=hA0.fx xaK (.refl _ _) k1 (by omega)
     have hC1:=hC0.fx xbl (.refl _ _) k1 (by omega)
     have HK1:Hid (Kp (All K) T w _):=HKV.out.trans HEx.out (k1.mono fun t h=>Or.inl h)
     have hMI:MIn p.E { m with sz_:=m.sz_+1 }:=⟨hI.heap,⟨by have:=hI.sz_;show 0<=m.sz_+1;omega,by have:=HFu.out;show m.sz_+1<=p.fuel;omega⟩,hI.turns⟩
     have hFw:Few { m with sz_:=m.sz_+1 }:=hW
     have hFO:FOk p.X.cz m.heap.length (xaG p.E q j mt self args):=⟨hSe,hAr,xc8 _ _,(fun v hv=>by cases hv),hX.ok.meths _ _ _ HMT.out,hX.ok.meths _ _ _ HMT.out⟩
     have hPl:PlOk (xaG p.E q j mt self args):=xl9 hX.right HMT.out hpr HArg.out self rfl;have hBd:=hB d' rfl K T1 _ mb _ hv sv ov q j self args _ mt _ hK hM1 hMI hFw hFO hPl hA1 hC1;have n4:=hM0.c4;have g6:(V.setCell ⟨mb,4,none⟩ (.int .i64 (m.sz_+1))).cell? ⟨mb,6,none⟩=some (.int .i64 (19-(d':Int))):=by have:=(hM0.num4 (m.sz_+1)).c6;rw[hdp] at this;exact this
     have gf:=xam (hM0.num4 (m.sz_+1)).box;clear hfail hEq hE0 hM0 hA0 hC0 hMI hFw hFO hPl hA1 hC1 k1 hpr
     go_upto_region 18 with (fail)
     generalize ((V.setCell ⟨mb,4,none⟩ (.int .i64 (m.sz_+1))).setCell ⟨mb,6,none⟩ (.int .i64 (20-(d':Int))))=V2 at *;have hB1:=hE1.m0;have a0:V2.cell? ⟨w.heap.size+2,0,none⟩=some (.string mt.name):=by rw[qzB hB1];rfl
     have a1:V2.cell? ⟨w.heap.size+2,1,none⟩=some (.int .i64 mt.args):=by rw[qzB hB1];rfl
     have a2:V2.cell? ⟨w.heap.size+2,2,none⟩=some (.int .i64 mt.temps):=by rw[qzB hB1];rfl
     have a3:V2.cell? ⟨w.heap.size+2,3,none⟩=some (.int .i64 mt.prim):=by rw[qzB hB1];rfl
     have a4:V2.cell? ⟨w.heap.size+2,4,none⟩=some (.slice ak mt.code.length ck):=by rw[qzB hB1];rfl
     have b0:=hE1.s0;have b1:=hE1.s1;clear s0 s1 r0 r1 rf hm0 m3 c4 c6 c7 cf n4 g6 gf;go_wp2_with fail;clear a0 a1 a2 a3 a4 b0 b1 hB1;refine hBd.mono ?_;rintro e w3 ⟨rfl,⟨T3,hv3,sv3,ov3,hE3,hM3⟩,hK3⟩;dsimp only;have hE3b:=hE1.kp hK3 (by rw[t0];unfold All;omega) (by rw[t1];unfold All;omega) (by rw[t2];unfold All;omega)
     obtain⟨RR,HRR⟩:∃ RR,Hid (xcL (xa1 p.E d') p.E d' (xeQ (xaG p.E q j mt self args)) { m with sz_:=m.sz_+1 } (xaG p.E q j mt self args)=RR):=⟨_,rfl⟩
     rw[HRR.out] at hM3 ⊢;have hbx:=xaj w3 (.cells #[.int .i64 RR.2.1.k,.int .i64 RR.2.1.n] 27);have hE4:=hE3b.later hbx;have hM4:=hM3.later hbx;have k6:=hM4.c6;have kf:=xam hM4.box;have e0:(w3.alloc (.cells #[.int .i64 RR.2.1.k,.int .i64 RR.2.1.n] 27)).cell? ⟨w3.heap.size,0,none⟩=some (.int .i64 RR.2.1.k):=xaa _ _ _ _ rfl 0;have e1:(w3.alloc (.cells #[.int .i64 RR.2.1.k,.int .i64 RR.2.1.n] 27)).cell? ⟨w3.heap.size,1,none⟩=some (.int .i64 RR.2.1.n):=xaa _ _ _ _ rfl 1;have hM5:=hM4.num6 (19-(d':Int));have hmw:mb<w3.heap.size:=xaf hM3.box;have hww:w.heap.size+2<w3.heap.size:=xaf hE3b.m0;have hz2:V2.heap.size<=w3.heap.size:=hK3.size
     have HE3:Hid (Ext T T3 w):=fun b hb=>(hE3 b (by have:=HK1.out.size;omega)).trans (HEx.out b hb)
     have HT3:Hid (T3 (w.heap.size+1)=4):=by show _=_;rw[hE3 _ (by have:=xaf hE1.m0;omega)];exact t1
     have HK5:Hid (Kp (All K) T w ((w3.alloc (.cells #[.int .i64 RR.2.1.k,.int .i64 RR.2.1.n] 27)).setCell ⟨mb,6,none⟩ (.int .i64 (19-(d':Int))))):=by
      have k5:=kp1 hM4 6 (.int .i64 (19-(d':Int)));have:=(HK1.out.trans HEx.out hK3).on hbx
      exact this.trans HE3.out (k5.mono fun t h=>Or.inl h)
     have HM5:=hid hM5;obtain⟨-,-,r0,r1,rf,-⟩:=hE4;have n1:¬ mb=w3.heap.size:=by omega
     have n2:¬ w3.heap.size=mb:=by omega
     have n3:¬ w.heap.size+1=w3.heap.size:=by omega
     have n4:¬ w3.heap.size=w.heap.size+1:=by omega
     clear hE1 hE3b hM3 hM4 hM5 hE3 hK3 hBd hbx
     go_upto_region 19 with (fail)
     generalize (w3.alloc (.cells #[.int .i64 RR.2.1.k,.int .i64 RR.2.1.n] 27))=V4 at *;go_wp2;rw[HV.out,HRR.out];refine qzK (v:=VV RR.2.1) ?_ rfl (xfU (r:=RR) HE3.out (by rw[hdp];exact HM5.out) HK5.out HT3.out)
     simp[results,Tryz.results35,go_sem,r0,r1,hne1,hne1',n1,n2,n3,n4]
   ·have hpn:(mt.prim == 0)=false:=by simpa using hpr
    have hone:args.length=1:=by
     rcases HRM.out with ⟨-,h1⟩ | ⟨h0,-⟩
     ·have:=HArg.out;omega
     ·exact absurd h0 hpr
    obtain⟨a0,rfl⟩:∃ a0,args=[a0]:=by
     match args,hone with
     | [a0],_=>exact⟨a0,rfl⟩
    have HV:=hEq ({ m with sz_:=m.sz_+1 },xbA mt.prim self a0) (by
     rw[HEnt.out,if_pos hpr,if_neg HFu.out]
     rfl)
    have hM1:=hM0.num4 (m.sz_+1);have k1:=kp1 hM0 4 (.int .i64 (m.sz_+1));have hE1:=hE0.kp k1 (by rw[t0];omega) (by rw[t1];omega) (by rw[t2];omega)
    have hA1:=hA0.fx xaK (.refl _ _) k1 (by omega)
    have HK1:Hid (Kp (All K) T w (V.setCell ⟨mb,4,none⟩ (.int .i64 (m.sz_+1)))):=HKV.out.trans HEx.out (k1.mono fun t h=>Or.inl h)
    clear hfail hEq hE0 hM0 hA0 hC0 s0 s1 r0 r1 rf hm0 c6 c7 k1 hpr
    go_upto_region 10 with (fail)
    generalize (V.setCell ⟨mb,4,none⟩ (.int .i64 (m.sz_+1)))=V1 at *;obtain⟨aa',ca',e',-,-,-,hrow⟩:=id hA1;simp only[Value.slice.injEq] at e';obtain⟨rfl,-,-⟩:=e';obtain⟨ba,oa,rfl,hba,u0,u1⟩:=hrow 0 a0 rfl;simp only[Nat.zero_mul,Nat.add_zero] at u0 u1;have n3:V1.cell? ⟨w.heap.size+2,3,none⟩=some (.int .i64 mt.prim):=by rw[qzB hE1.m0];rfl
    have hlw:=xaf hE1.m0;have hS0:PmS V1 w.heap.size mt.prim self a0 ba oa V1.drew:=⟨n3,hE1.s0,hE1.s1,u0,u1,(qzL _ _).drew,hlw,hba.1⟩;have hr1:=xfO hSe;have hr2:=xfO (hAr a0 (by simp))
    clear n3 u0 u1 hrow;obtain⟨v1,e1,hr⟩:∃ v1 e1,xbA mt.prim self a0=(v1,e1):=⟨_,_,rfl⟩;have hprim:∀ w,Calls Tryz.prog 51 #[.int .i64 mt.prim,VV self,VV a0] w fun e w'=>e=.returned (.tuple #[VV v1,.int .i64 e1])/\Below w.heap.size w w':=fun w=>by have:=xlk mt.prim self a0 w hr1 hr2;rw[hr] at this;exact this
    rw[hr] at HV;clear hr hr1 hr2;have HE1:=hid hE1;have HM1:=hid hM1;clear hE1 hM1 hA1 m3 c4 cf;have tokA:True:=trivial
    go_region_held3 (fun w'=>w'.cell? ⟨w.heap.size+1+1,3,none⟩=some (.int .i64 mt.prim)/\w'.cell? ⟨w.heap.size,0,none⟩=some (.int .i64 self.k)/\w'.cell? ⟨w.heap.size,1,none⟩=some (.int .i64 self.n)/\w'.cell? ⟨ba,oa,none⟩=some (.int .i64 a0.k)/\w'.cell? ⟨ba,oa+1,none⟩=some (.int .i64 a0.n)/\PmS V1 w.heap.size mt.prim self a0 ba oa w')
     (first | with_reducible exact hS0.al | with_reducible exact hY.al | exact (hS0.later (xaj _ _)).al | exact (hY.later (xaj _ _)).al | exact ((‹_/\_/\_/\_/\_/\PmS V1 w.heap.size mt.prim self a0 ba oa _›).2.2.2.2.2.later (xaj _ _)).al | exact ((hY.set (by omega) _ _).set (by omega) _ _).al | exact ((((‹_/\_/\_/\_/\_/\PmS V1 w.heap.size mt.prim self a0 ba oa _›).2.2.2.2.2.set (by omega) _ _).set (by omega) _ _).al))
     (first
      | (have _t:=tokA;go_at_call 51;refine (hprim _).mono ?_;rintro e w2 ⟨rfl,hb2⟩;have hY:=(‹_/\_/\_/\_/\_/\PmS V1 w.heap.size mt.prim self a0 ba oa _›).2.2.2.2.2.later hb2;have hsz0:=(‹_/\_/\_/\_/\_/\PmS V1 w.heap.size mt.prim self a0 ba oa _›).2.2.2.2.2.bel.size;clear tokA;obtain⟨hc2,hf2⟩:=xhH hb2;have hz2:=hb2.size))
    ·have hT:=(‹_/\_/\_/\_/\_/\PmS V1 w.heap.size mt.prim self a0 ba oa _›).2.2.2.2.2.bel;have hM2:=HM1.out.later hT;have hE2:=HE1.out.later hT;have k7:=hM2.c7;have kf:=xam hM2.box;have e0:(w2.alloc (.cells #[.int .i64 v1.k,.int .i64 v1.n] 27)).cell? ⟨w2.heap.size,0,none⟩=some (.int .i64 v1.k):=xaa _ _ _ _ rfl 0;have e1':(w2.alloc (.cells #[.int .i64 v1.k,.int .i64 v1.n] 27)).cell? ⟨w2.heap.size,1,none⟩=some (.int .i64 v1.n):=xaa _ _ _ _ rfl 1;have hmv:mb<V1.heap.size:=xaf HM1.out.box;have n1:¬ mb=w2.heap.size:=by have:=hz2;have:=hsz0;omega
     have n2:¬ w2.heap.size=mb:=fun h=>n1 h.symm
     have n3:¬ w.heap.size+1=w2.heap.size:=by have:=hz2;have:=hsz0;omega
     have n4:¬ w2.heap.size=w.heap.size+1:=fun h=>n3 h.symm
     have HM3:=hid (hM2.num7 e1);have HK3:Hid (Kp (All K) T w ((w2.alloc (.cells #[.int .i64 v1.k,.int .i64 v1.n] 27)).setCell ⟨mb,7,none⟩ (.int .i64 e1))):=(HK1.out.on hT).trans HEx.out ((kp1 hM2 7 (.int .i64 e1)).mono fun t h=>Or.inl h)
     obtain⟨-,-,r0,r1,rf,-⟩:=hE2;clear hM2 hT hY hS0 hc2 hf2 hb2;generalize (w2.alloc (.cells #[.int .i64 v1.k,.int .i64 v1.n] 27))=V' at *;go_wp2;rw[HV.out];refine qzK (v:=VV v1) ?_ rfl (xfU (r:=(_,v1,e1)) HEx.out HM3.out HK3.out HT1.out)
     simp[results,Tryz.results35,go_sem,r0,r1,hne1,hne1',n1,n2,n3,n4]
    ·have hT:=(‹_/\_/\_/\_/\_/\PmS V1 w.heap.size mt.prim self a0 ba oa _›).2.2.2.2.2.bel;have hM2:=HM1.out.later hT;have hE2:=HE1.out.later hT;have k7:=hM2.c7;have kf:=xam hM2.box;obtain⟨e0,e1'⟩:=xoy (v:=v1) hb2;have hmv:mb<V1.heap.size:=xaf HM1.out.box;have n1:¬ mb=V1.heap.size:=by have:=hz2;have:=hsz0;omega
     have n2:¬ V1.heap.size=mb:=fun h=>n1 h.symm
     have n3:¬ w.heap.size+1=V1.heap.size:=by have:=hz2;have:=hsz0;omega
     have n4:¬ V1.heap.size=w.heap.size+1:=fun h=>n3 h.symm
     have HM3:=hid (hM2.num7 e1);have HK3:Hid (Kp (All K) T w (((w2.setCell ⟨V1.heap.size,0,none⟩ (.int .i64 v1.k)).setCell ⟨V1.heap.size,1,none⟩ (.int .i64 v1.n)).setCell ⟨mb,7,none⟩ (.int .i64 e1))):=(HK1.out.on hT).trans HEx.out ((kp1 hM2 7 (.int .i64 e1)).mono fun t h=>Or.inl h)
     obtain⟨-,-,r0,r1,rf,-⟩:=hE2;clear hM2 hT hY hS0 hc2 hf2 hb2;generalize ((w2.setCell ⟨V1.heap.size,0,none⟩ (.int .i64 v1.k)).setCell ⟨V1.heap.size,1,none⟩ (.int .i64 v1.n))=V' at *;go_wp2;rw[HV.out];refine qzK (v:=VV v1) ?_ rfl (xfU (r:=(_,v1,e1)) HEx.out HM3.out HK3.out HT1.out)
     simp[results,Tryz.results35,go_sem,r0,r1,hne1,hne1',n1,n2,n3,n4]
 ·have HV:=hEq (m,xaU,8) (by
   unfold xbj;rw[show xaO p.E.cz (q:Int) (j:Int)=some mt from HMT.out]
   simp only[];rw[if_pos hargs])
  have hd:(mt.args == (args.length:Int))=false:=by simpa using hargs
  obtain⟨HM7,HK7⟩:=(hfail 8).out;have HM7:=hid HM7;have HK7:=hid HK7;clear hfail hEq hE0 hM0 hA0 hC0 hargs;go_wp2;rw[HV.out];refine qzK (v:=VV xaU) ?_ rfl (xfU (r:=(m,xaU,8)) HEx.out HM7.out HK7.out HT1.out)
  simp[results,Tryz.results35,go_sem,r0,r1,hne1,hne1']
structure LkP (X:QW)(b:Nat)(cv hv:Value)(T:Nat->Nat)(w:World)(st:Unit)(n:Nat):Prop where
 tag:T b=0
 lt:b<w.heap.size
 w0:w.cell? ⟨b,0,none⟩=some cv
 w1:w.cell? ⟨b,1,none⟩=some hv
 w2:w.cell? ⟨b,2,none⟩=some (.int .i64 X.ez)
 cls:xai (Fx T w) w cv X.cz
 heap:xaC (Fx T w) w hv X.heap
theorem LkP.keep {X:QW}{b:Nat}{cv hv:Value}{T T':Nat->Nat}{w w':World}{st:Unit}{n:Nat}{S:Nat->Prop}(h:LkP X b cv hv T w st n)(e:Ext T T' w)(k:Kp S T w w')(h0:¬ S 0):LkP X b cv hv T' w' st n:=
 ⟨by rw[e _ h.lt];exact h.tag,qzE h.lt k.size,k.cell h.w0 (by rw[h.tag];exact h0),k.cell h.w1 (by rw[h.tag];exact h0),k.cell h.w2 (by rw[h.tag];exact h0),h.cls.fx xaz e k h0,h.heap.fx xaD e k h0⟩
section
variable {σ:Type} {p:Mp σ} {L:(Nat->Nat)->World->σ->Nat->Prop} {LF QF:Nat} {lc qc:Array Value} {T:Nat->Nat} {w:World} {mb:Nat} {m:Mc σ} {hv:Value} {g:Nat} {s:Nat->Nat} {K:Nat}
structure FsR (w:World)(mb:Nat)(v0 v1:Value)(ep:Int)(s:QV)(name:ByteArray)(av:Value)(w':World):Prop where
 bel:Below w.heap.size w w'
 m0:w'.cell? ⟨mb,0,none⟩=some v0
 m1:w'.cell? ⟨mb,1,none⟩=some v1
 m2:w'.cell? ⟨mb,2,none⟩=some (.int .i64 ep)
 c0:w'.cell? ⟨w.heap.size,0,none⟩=some (.int .i64 s.k)
 c1:w'.cell? ⟨w.heap.size,1,none⟩=some (.int .i64 s.n)
 c2:w'.cell? ⟨w.heap.size,2,none⟩=some (.string name)
 c3:w'.cell? ⟨w.heap.size,3,none⟩=some av
 r0:w'.cell? ⟨w.heap.size+1,0,none⟩=some (.int .i64 0)
 r1:w'.cell? ⟨w.heap.size+1,1,none⟩=some (.int .i64 0)
 rf:∀ o,w'.frozen? ⟨w.heap.size+1,o,none⟩=false
 sz:w.heap.size+2<=w'.heap.size
theorem FsR.later {w:World}{mb:Nat}{v0 v1:Value}{ep:Int}{s:QV}{name:ByteArray}{av:Value}{w' w'':World}(h:FsR w mb v0 v1 ep s name av w')(hb:Below w'.heap.size w' w''):FsR w mb v0 v1 ep s name av w'':=
 ⟨xah h.bel hb,qzA hb h.m0,qzA hb h.m1,qzA hb h.m2,qzA hb h.c0,qzA hb h.c1,qzA hb h.c2,qzA hb h.c3,qzA hb h.r0,qzA hb h.r1,fun o=>(hb.frozen (p:=⟨w.heap.size+1,o,none⟩) (by have:=h.sz;simp only;omega)).trans (h.rf o),qzD h.sz hb.size⟩
theorem FsR.al {w:World}{mb:Nat}{v0 v1:Value}{ep:Int}{s:QV}{name:ByteArray}{av:Value}{w':World}(h:FsR w mb v0 v1 ep s name av w'):w'.cell? ⟨mb,0,none⟩=some v0/\w'.cell? ⟨mb,1,none⟩=some v1/\w'.cell? ⟨mb,2,none⟩=some (.int .i64 ep)/\w'.cell? ⟨w.heap.size,0,none⟩=some (.int .i64 s.k)/\w'.cell? ⟨w.heap.size,1,none⟩=some (.int .i64 s.n)/\w'.cell? ⟨w.heap.size,2,none⟩=some (.string name):=⟨h.m0,h.m1,h.m2,h.c0,h.c1,h.c2⟩
theorem xki (hC:Cx p L LF lc QF qc)(h:MacAt p T w mb m 0 hv g s)(hL:L T w m.st (p.E.fuel-m.sz_).toNat)(hI:MIn p.E m)(sf:QV)(name:ByteArray)(args:List QV)(av:Value)(hSe:xas m.heap.length sf=0)(hAr:VsOk m.heap.length args)(hA:xaB (Fx T w) w av args)(hK5:5<=K) :
  Calls Tryz.prog 44 #[.pointer (some ⟨mb,0,none⟩),ClV sf name av] w fun e w'=>EnPost p L T w mb 0 K (xa1 p.E 20 m (xaw p.E.cz (xar m.heap sf) name).1 (xaw p.E.cz (xar m.heap sf) name).2 sf args) e w':=by
 have hX:=xao T w 4;have hT4:∀ b,w.heap.size<=b->xau T w 4 b=4:=fun b hb=>xav hb
 have hb1:Below w.heap.size w ((w.alloc (.cells #[.int .i64 sf.k,.int .i64 sf.n,.string name,av] 30)).alloc (.cells #[.int .i64 0,.int .i64 0] 27)).drew:=(xca w _ _).drew;have hM0:=(h.tagged0 4).later hb1;have hA0:=(xdR hA xaK 4).fx xaK (.refl _ w) (Kp.of_below (S:=fun _=>False) hb1) id
 have hL0:=hC.keep (hC.keep hL hX (Kp.refl (fun _=>False) _ _) id id) (.refl _ _) (Kp.of_below (S:=fun _=>False) hb1) id id
 have hFs:FsR w mb p.cv hv p.ep sf name av ((w.alloc (.cells #[.int .i64 sf.k,.int .i64 sf.n,.string name,av] 30)).alloc (.cells #[.int .i64 0,.int .i64 0] 27)).drew:=by
  refine⟨hb1,hM0.c0,hM0.c1,hM0.c2,qzA (xaj _ _).drew (xaa w #[.int .i64 sf.k,.int .i64 sf.n,.string name,av] 30 _ rfl 0),qzA (xaj _ _).drew (xaa w #[.int .i64 sf.k,.int .i64 sf.n,.string name,av] 30 _ rfl 1),qzA (xaj _ _).drew (xaa w #[.int .i64 sf.k,.int .i64 sf.n,.string name,av] 30 _ rfl 2),qzA (xaj _ _).drew (xaa w #[.int .i64 sf.k,.int .i64 sf.n,.string name,av] 30 _ rfl 3),xaa _ _ _ _ (by simp) 0,xaa _ _ _ _ (by simp) 1,fun o=>xam (cur:=#[.int .i64 0,.int .i64 0]) (t:=27) ?_ o,by simp⟩
  rw[xe7];have:=qzJ (w.alloc (.cells #[.int .i64 sf.k,.int .i64 sf.n,.string name,av] 30)) (.cells #[.int .i64 0,.int .i64 0] 27)
  simpa using this
 have hlm:=xaf h.box;obtain⟨aa,ca,rfl,-⟩:=id hA;clear h hA hL;generalize xau T w 4=T1 at *;have t1:T1 (w.heap.size+1)=4:=hT4 _ (by omega)
 go_enter Tryz.func44,Tryz.ntmps44
 go_upto_region 1 with (fail)
 generalize ((w.alloc (.cells #[.int .i64 sf.k,.int .i64 sf.n,.string name,.slice aa args.length ca] 30)).alloc (.cells #[.int .i64 0,.int .i64 0] 27))=W at *;have hcl:=hM0.cls.mono (Q:=fun _=>True) xaz fun _ _=>trivial
 have hhp:=hM0.heap.heap.mono (Q:=fun _=>True) xaD fun _ _=>trivial
 obtain⟨ch,rfl,-⟩:=hM0.heap.form;obtain⟨ac,cc,hcv,-⟩:=id hcl;have hcls:∀ w':World,Below W.drew.heap.size W.drew w'->Calls Tryz.prog 60 #[.slice (some ⟨g,0,none⟩) m.heap.length ch,VV sf] w' fun e w''=>e=.returned (.int .i64 (xar m.heap sf))/\Below w'.heap.size w' w'':=fun w' hb=>xel m.heap _ sf w' (hhp.later xaD hb)
 have hfin:∀ w':World,Below W.drew.heap.size W.drew w'->Calls Tryz.prog 59 #[WV p.cv (.slice (some ⟨g,0,none⟩) m.heap.length ch) p.ep,.int .i64 (xar m.heap sf),.string name] w' fun e w''=>e=.returned (.tuple #[.int .i64 (xaw p.E.cz (xar m.heap sf) name).1,.int .i64 (xaw p.E.cz (xar m.heap sf) name).2])/\Below w'.heap.size w' w'':=fun w' hb=>xeI ⟨p.E.cz,m.heap,p.ep⟩ (xar m.heap sf) name p.cv _ w' (hcl.later xaz hb) (hhp.later xaD hb)
 have HM0:=hid hM0;rw[hcv] at hfin hFs;clear hcv hcl hhp hM0;obtain⟨c0,hc0⟩:∃ c0,c0=xar m.heap sf:=⟨_,rfl⟩;rw[← hc0] at hcls hfin;obtain⟨r1,r2,hr⟩:∃ r1 r2,xaw p.E.cz c0 name=(r1,r2):=⟨_,_,rfl⟩;rw[hr] at hfin;have HRO:Hid (xa1 p.E 20 m (xaw p.E.cz (xar m.heap sf) name).1 (xaw p.E.cz (xar m.heap sf) name).2 sf args=xa1 p.E 20 m r1 r2 sf args):=by show _=_;rw[← hc0,hr]
 clear hc0 hr;have hS0:=hFs.al;have tokA:True:=trivial
 go_region_held3 (fun w'=>w'.cell? ⟨mb,0,none⟩=some (.slice ac p.E.cz.length cc)/\w'.cell? ⟨mb,1,none⟩=some (.slice (some ⟨g,0,none⟩) m.heap.length ch)/\w'.cell? ⟨mb,2,none⟩=some (.int .i64 p.ep)/\w'.cell? ⟨w.heap.size,0,none⟩=some (.int .i64 sf.k)/\w'.cell? ⟨w.heap.size,1,none⟩=some (.int .i64 sf.n)/\w'.cell? ⟨w.heap.size,2,none⟩=some (.string name))
  (first | with_reducible exact hS0 | with_reducible exact hS1 | with_reducible exact hS2)
  (first
   | (have _t:=tokA;go_at_call 60;refine (hcls _ (qzL _ _)).mono ?_;rintro e w3 ⟨rfl,hb3⟩;have hF3:=hFs.later hb3;have hS1:=hF3.al;clear tokA;have tokB:True:=trivial)
   | (have _t:=tokB;go_at_call 59;refine (hfin _ hb3).mono ?_;rintro e w4 ⟨rfl,hb4⟩;have hF4:=hF3.later hb4;have hS2:=hF4.al;have hb34:=xah hb3 hb4;clear tokB))
 have hM4:=HM0.out.later hb34;have hA4:=hA0.fx xaK (.refl _ _) (Kp.of_below (S:=fun _=>False) hb34) id
 have hL4:=hC.keep hL0 (.refl _ _) (Kp.of_below (S:=fun _=>False) hb34) id id
 have hent:=xg6 hC 20 (qzC _) K T1 w4 mb m _ _ _ r1 r2 sf args _ hK5 hM4 hL4 hI hSe hAr hA4;have HKW:=hid (Kp.of_below (S:=All K) (T:=T) hF4.bel);obtain⟨-,m0,m1,m2,c0',c1,c2,c3,r0,r1',rf,sz⟩:=id hF4;have H4:=hid hF4;clear hS0 hS1 hS2 hcls hfin hF3 hF4 hFs hb3 hb4 hb34 hM4 hA4 hL4;obtain⟨R,hR⟩:∃ R,xa1 p.E 20 m r1 r2 sf args=R:=⟨_,rfl⟩;rw[hR] at hent HRO;clear hR;go_wp2_with fail;refine hent.mono ?_;rintro e w6 ⟨rfl,⟨T6,hX6,⟨hv6,g6,s6,hM6⟩,hL6⟩,hK6⟩;have q0:=hK6.cell r0 (by rw[t1];unfold All;omega)
 have q1:=hK6.cell r1' (by rw[t1];unfold All;omega)
 have qf:∀ o,w6.frozen? ⟨w.heap.size+1,o,none⟩=false:=fun o=>xb6 hK6 (by omega) (by rw[t1];unfold All;omega) (rf o)
 have t6:T6 (w.heap.size+1)=4:=by rw[hX6 _ (by omega)];exact t1
 have HQ:=hid fun u0 u1=>EnPost.fin (r:=R) hC (hX.trans HKW.out.size hX6) (show MacAt p T6 w6 mb R.1 0 hv6 g6 s6 from hM6) hL6 (HKW.out.trans hX hK6) t6 u0 u1
 clear hent hM6 hL6 hK6 hX6 m0 m1 m2 c0' c1 c2 c3 r0 r1' rf;obtain⟨rm,v,er⟩:=R;go_wp2;rw[HRO.out];refine qzK (v:=.tuple #[VV v,.int .i64 er]) ?_ rfl (HQ.out _ _)
 simp[results,Tryz.results44,go_sem,q0,q1]
end
abbrev RnV (r:Ran):Value:=.agg #[.int .i64 r.v.k,.int .i64 r.v.n,.int .i64 r.err,.int .i64 r.sz_]
def WiPost {σ:Type}(L:(Nat->Nat)->World->σ->Nat->Prop)(T0:Nat->Nat)(w:World)(X:QW)(r:Ran × σ)(e:Ending)(w':World):Prop:=
 Kp (fun t=>t=3) T0 w w'/\∃ T',Ext T0 T' w/\L T' w' r.2 0/\∃ cv hv,e=.returned (.tuple #[WV cv hv X.ez,RnV r.1])/\xai (fun b=>w.heap.size<=b/\T' b≠3) w' cv X.cz/\xaC (fun b=>w.heap.size<=b/\T' b≠3) w' hv r.1.heap
structure WtR (w:World)(cv hv:Value)(ep:Int)(s:QV)(name:ByteArray)(av:Value)(w':World):Prop where
 w0:w'.cell? ⟨w.heap.size,0,none⟩=some cv
 w1:w'.cell? ⟨w.heap.size,1,none⟩=some hv
 w2:w'.cell? ⟨w.heap.size,2,none⟩=some (.int .i64 ep)
 c0:w'.cell? ⟨w.heap.size+1,0,none⟩=some (.int .i64 s.k)
 c1:w'.cell? ⟨w.heap.size+1,1,none⟩=some (.int .i64 s.n)
 c2:w'.cell? ⟨w.heap.size+1,2,none⟩=some (.string name)
 c3:w'.cell? ⟨w.heap.size+1,3,none⟩=some av
 a0:w'.cell? ⟨w.heap.size+2,0,none⟩=some (.slice none 0 0)
 a1:w'.cell? ⟨w.heap.size+2,1,none⟩=some (.slice none 0 0)
 a2:w'.cell? ⟨w.heap.size+2,2,none⟩=some (.int .i64 0)
 af:∀ o,w'.frozen? ⟨w.heap.size+2,o,none⟩=false
 b0:w'.cell? ⟨w.heap.size+3,0,none⟩=some (.int .i64 0)
 b1:w'.cell? ⟨w.heap.size+3,1,none⟩=some (.int .i64 0)
 b2:w'.cell? ⟨w.heap.size+3,2,none⟩=some (.int .i64 0)
 b3:w'.cell? ⟨w.heap.size+3,3,none⟩=some (.int .i64 0)
 bf:∀ o,w'.frozen? ⟨w.heap.size+3,o,none⟩=false
 sz:w.heap.size+4<=w'.heap.size
theorem WtR.kp {w:World}{cv hv:Value}{ep:Int}{s:QV}{name:ByteArray}{av:Value}{w' w'':World}{S:Nat->Prop}{T:Nat->Nat}(h:WtR w cv hv ep s name av w')(k:Kp S T w' w'')(hs:∀ i,i<4->¬ S (T (w.heap.size+i))):WtR w cv hv ep s name av w'':=
 have hz:=h.sz
 ⟨k.cell h.w0 (hs 0 (by omega)),k.cell h.w1 (hs 0 (by omega)),k.cell h.w2 (hs 0 (by omega)),k.cell h.c0 (hs 1 (by omega)),k.cell h.c1 (hs 1 (by omega)),k.cell h.c2 (hs 1 (by omega)),k.cell h.c3 (hs 1 (by omega)),k.cell h.a0 (hs 2 (by omega)),k.cell h.a1 (hs 2 (by omega)),k.cell h.a2 (hs 2 (by omega)),fun o=>xb6 k (by omega) (hs 2 (by omega)) (h.af o),k.cell h.b0 (hs 3 (by omega)),k.cell h.b1 (hs 3 (by omega)),k.cell h.b2 (hs 3 (by omega)),k.cell h.b3 (hs 3 (by omega)),fun o=>xb6 k (by omega) (hs 3 (by omega)) (h.bf o),qzD hz k.size⟩
theorem WtR.later {w:World}{cv hv:Value}{ep:Int}{s:QV}{name:ByteArray}{av:Value}{w' w'':World}(h:WtR w cv hv ep s name av w')(hb:Below w'.heap.size w' w''):WtR w cv hv ep s name av w'':=h.kp (T:=fun _=>0) (Kp.of_below (S:=fun _=>False) hb) fun _ _=>id
theorem xka (w:World)(cv hv:Value)(ep:Int)(s:QV)(name:ByteArray)(av:Value):WtR w cv hv ep s name av ((((w.alloc (.cells #[cv,hv,.int .i64 ep] 25)).alloc (.cells #[.int .i64 s.k,.int .i64 s.n,.string name,av] 30)).alloc (.cells #[.slice none 0 0,.slice none 0 0,.int .i64 0] 25)).alloc (.cells #[.int .i64 0,.int .i64 0,.int .i64 0,.int .i64 0] 37)):=by
 obtain⟨-,w0,w1,w2,c0,c1,c2,c3⟩:=xgc w cv hv ep s name av;have q:=xca ((w.alloc (.cells #[cv,hv,.int .i64 ep] 25)).alloc (.cells #[.int .i64 s.k,.int .i64 s.n,.string name,av] 30)) (.cells #[.slice none 0 0,.slice none 0 0,.int .i64 0] 25) (.cells #[.int .i64 0,.int .i64 0,.int .i64 0,.int .i64 0] 37);have e2:((w.alloc (.cells #[cv,hv,.int .i64 ep] 25)).alloc (.cells #[.int .i64 s.k,.int .i64 s.n,.string name,av] 30)).heap.size=w.heap.size+2:=by simp
 have e3:(((w.alloc (.cells #[cv,hv,.int .i64 ep] 25)).alloc (.cells #[.int .i64 s.k,.int .i64 s.n,.string name,av] 30)).alloc (.cells #[.slice none 0 0,.slice none 0 0,.int .i64 0] 25)).heap.size=w.heap.size+3:=by simp
 refine⟨qzA q w0,qzA q w1,qzA q w2,qzA q c0,qzA q c1,qzA q c2,qzA q c3,qzA (xaj _ _) (xaa _ _ _ _ e2 0),qzA (xaj _ _) (xaa _ _ _ _ e2 1),qzA (xaj _ _) (xaa _ _ _ _ e2 2),fun o=>((xaj _ _).frozen (p:=⟨w.heap.size+2,o,none⟩) (by rw[e3];simp)).trans (xam (cur:=#[.slice none 0 0,.slice none 0 0,.int .i64 0]) (t:=25) (xba _ _ _ e2) o),xaa _ _ _ _ e3 0,xaa _ _ _ _ e3 1,xaa _ _ _ _ e3 2,xaa _ _ _ _ e3 3,xam (cur:=#[.int .i64 0,.int .i64 0,.int .i64 0,.int .i64 0]) (t:=37) (xba _ _ _ e3),by simp⟩
end Go.Proofs.YtapbeiccodnniaaGreat
