/- A part. -/
import Derived.Test.YtaodadfahifbpaaGreatM19
namespace Go.Proofs.YtaodadfahifbpaaGreat
open Go.ChangeShapes Go.WideShapes Go.ChangeAt Go.RowKit
set_option linter.unusedSimpArgs false
set_option linter.unusedVariables false
set_option maxHeartbeats 8000000
set_option maxRecDepth 8000
def xoY (p:Rp)(d:Nat):Prop:=
 ∀ (K:Nat) (T:Nat->Nat) (w:World) (mb:Nat) (m:Mc RSt) (hv sv ov:Value) (c n:Int) (self:QV) (args:List QV) (av:Value) (mt:QM) (kv:Value),5<=K->RMac p T w mb m (20-(d:Int)) 0 hv sv ov->MIn p.E m->Few m->FOk p.X.cz m.heap.length (xaO p.E c n mt self args)->PlOk (xaO p.E c n mt self args)->xaG (Fx T w) w av args->xaK (Fx T w) w kv mt.code->
  Calls Tryz.prog 52 #[.pointer (some ⟨mb,0,none⟩),.int .i64 c,MV mt kv,VV self,av] w fun e w'=>xaX p T w mb (20-(d:Int)) K (xcU (xa7 p.E d) p.E d (xfD (xaO p.E c n mt self args)) m (xaO p.E c n mt self args)) e w'
structure ErB (w:World)(sf:QV)(mt:QM)(kv:Value)(w':World):Prop where
 s0:w'.cell? ⟨w.heap.size,0,none⟩=some (.int .i64 sf.k)
 s1:w'.cell? ⟨w.heap.size,1,none⟩=some (.int .i64 sf.n)
 r0:w'.cell? ⟨w.heap.size+1,0,none⟩=some (.int .i64 0)
 r1:w'.cell? ⟨w.heap.size+1,1,none⟩=some (.int .i64 0)
 rf:∀ o,w'.frozen? ⟨w.heap.size+1,o,none⟩=false
 m0:w'.heap[w.heap.size+2]?=some (.cells #[.string mt.name,.int .i64 mt.args,.int .i64 mt.temps,.int .i64 mt.prim,kv] 59 (0,0))
theorem ErB.kp {w:World}{sf:QV}{mt:QM}{kv:Value}{w' w'':World}{S:Nat->Prop}{T:Nat->Nat}(h:ErB w sf mt kv w')(k:Kp S T w' w'')(h0:¬ S (T w.heap.size))(h1:¬ S (T (w.heap.size+1)))(h2:¬ S (T (w.heap.size+2))):ErB w sf mt kv w'':=
 ⟨k.cell h.s0 h0,k.cell h.s1 h0,k.cell h.r0 h1,k.cell h.r1 h1,fun o=>xb8 k (by have:=xai h.m0;omega) h1 (h.rf o),k.held h.m0 h2⟩
theorem ErB.later {w:World}{sf:QV}{mt:QM}{kv:Value}{w' w'':World}(h:ErB w sf mt kv w')(hb:Below w'.heap.size w' w''):ErB w sf mt kv w'':=h.kp (S:=fun _=>False) (T:=fun _=>0) (.of_below hb) id id id
theorem xoA (w:World)(sf:QV)(mt:QM)(kv:Value):ErB w sf mt kv (((w.alloc (.cells #[.int .i64 sf.k,.int .i64 sf.n] 27)).alloc (.cells #[.int .i64 0,.int .i64 0] 27)).alloc (.cells #[.string mt.name,.int .i64 mt.args,.int .i64 mt.temps,.int .i64 mt.prim,kv] 59)):=by
 obtain⟨s0,s1,r0,r1,rf,sz⟩:=xix w sf;have hb:=xaj ((w.alloc (.cells #[.int .i64 sf.k,.int .i64 sf.n] 27)).alloc (.cells #[.int .i64 0,.int .i64 0] 27)) (.cells #[.string mt.name,.int .i64 mt.args,.int .i64 mt.temps,.int .i64 mt.prim,kv] 59);have hz:((w.alloc (.cells #[.int .i64 sf.k,.int .i64 sf.n] 27)).alloc (.cells #[.int .i64 0,.int .i64 0] 27)).heap.size=w.heap.size+2:=by simp
 refine⟨qzA hb s0,qzA hb s1,qzA hb r0,qzA hb r1,fun o=>(hb.frozen (p:=⟨w.heap.size+1,o,none⟩) (by simp)).trans (rf o),?_⟩
 have:=heap_alloc_new ((w.alloc (.cells #[.int .i64 sf.k,.int .i64 sf.n] 27)).alloc (.cells #[.int .i64 0,.int .i64 0] 27)) (.cells #[.string mt.name,.int .i64 mt.args,.int .i64 mt.temps,.int .i64 mt.prim,kv] 59);rw[hz] at this
 exact this
section
variable {p:Rp} {d:Nat} {T T1:Nat->Nat} {w U:World} {mb K:Nat} {m:Mc RSt} {hv sv ov:Value} {r:Mc RSt × QV × Int}
theorem xf4 {deep:Int}(hE:Ext T T1 w)(hM:RMac p T1 U mb r.1 deep r.2.2 hv sv ov)(hK:Kp (All K) T w U)(h4:T1 (w.heap.size+1)=4):xaX p T w mb deep K r (.returned (VV r.2.1)) ((U.setCell ⟨w.heap.size+1,0,none⟩ (.int .i64 r.2.1.k)).setCell ⟨w.heap.size+1,1,none⟩ (.int .i64 r.2.1.n)):=by
 have k4:Kp (fun t=>t=4) T1 U ((U.setCell ⟨w.heap.size+1,0,none⟩ (.int .i64 r.2.1.k)).setCell ⟨w.heap.size+1,1,none⟩ (.int .i64 r.2.1.n)):=((Kp.refl (fun t=>t=4) T1 U).set (b:=w.heap.size+1) (fun _=>h4) _ _).set (b:=w.heap.size+1) (fun _=>h4) _ _
 exact⟨rfl,⟨T1,_,_,_,hE,hM.keep (.refl _ _) k4 (by omega) (by omega) (by omega) (by omega)⟩,(hK.set (fun h=>by omega) _ _).set (fun h=>by omega) _ _⟩
end
theorem xf5 {h:Int}{v:QV}(hv:xas h v=0):v.k=3->-1073741824<=v.n/\v.n<=1073741824:=fun hk=>by
 unfold xas xcb at hv;rw[hk] at hv
 simp at hv
 omega
structure PmS (W:World)(b:Nat)(q:Int)(s y:QV)(ba oa:Nat)(w':World):Prop where
 c1:w'.cell? ⟨b+2,3,none⟩=some (.int .i64 q)
 c2:w'.cell? ⟨b,0,none⟩=some (.int .i64 s.k)
 c3:w'.cell? ⟨b,1,none⟩=some (.int .i64 s.n)
 c4:w'.cell? ⟨ba,oa,none⟩=some (.int .i64 y.k)
 c5:w'.cell? ⟨ba,oa+1,none⟩=some (.int .i64 y.n)
 bel:Below W.heap.size W w'
 lt:b+2<W.heap.size/\ba<W.heap.size
theorem PmS.later {W:World}{b:Nat}{q:Int}{s y:QV}{ba oa:Nat}{w' w'':World}(h:PmS W b q s y ba oa w')(hb:Below w'.heap.size w' w''):PmS W b q s y ba oa w'':=⟨qzA hb h.c1,qzA hb h.c2,qzA hb h.c3,qzA hb h.c4,qzA hb h.c5,xae h.bel hb,h.lt⟩
theorem PmS.al {W:World}{b:Nat}{q:Int}{s y:QV}{ba oa:Nat}{w':World}(h:PmS W b q s y ba oa w'):w'.cell? ⟨b+1+1,3,none⟩=some (.int .i64 q)/\w'.cell? ⟨b,0,none⟩=some (.int .i64 s.k)/\w'.cell? ⟨b,1,none⟩=some (.int .i64 s.n)/\w'.cell? ⟨ba,oa,none⟩=some (.int .i64 y.k)/\w'.cell? ⟨ba,oa+1,none⟩=some (.int .i64 y.n)/\PmS W b q s y ba oa w':=⟨h.c1,h.c2,h.c3,h.c4,h.c5,h⟩
theorem PmS.set {W:World}{b:Nat}{q:Int}{s y:QV}{ba oa:Nat}{w':World}(h:PmS W b q s y ba oa w'){x:Nat}(hx:W.heap.size<=x)(o:Nat)(u:Value):PmS W b q s y ba oa (w'.setCell ⟨x,o,none⟩ u):=
 have hl:=h.lt
 ⟨(World.cell?_setCell_far _ _ _ _ (by simp;omega)).trans h.c1,(World.cell?_setCell_far _ _ _ _ (by simp;omega)).trans h.c2,(World.cell?_setCell_far _ _ _ _ (by simp;omega)).trans h.c3,(World.cell?_setCell_far _ _ _ _ (by simp;omega)).trans h.c4,(World.cell?_setCell_far _ _ _ _ (by simp;omega)).trans h.c5,h.bel.setCell hx _,hl⟩
theorem xo2 {V w2:World}{v:QV}(hb:Below (V.alloc (.cells #[.int .i64 0,.int .i64 0] 27)).drew.heap.size (V.alloc (.cells #[.int .i64 0,.int .i64 0] 27)).drew w2):((w2.setCell ⟨V.heap.size,0,none⟩ (.int .i64 v.k)).setCell ⟨V.heap.size,1,none⟩ (.int .i64 v.n)).cell? ⟨V.heap.size,0,none⟩=some (.int .i64 v.k)/\((w2.setCell ⟨V.heap.size,0,none⟩ (.int .i64 v.k)).setCell ⟨V.heap.size,1,none⟩ (.int .i64 v.n)).cell? ⟨V.heap.size,1,none⟩=some (.int .i64 v.n):=by
 have g0:(V.alloc (.cells #[.int .i64 0,.int .i64 0] 27)).drew.cell? ⟨V.heap.size,0,none⟩=some (.int .i64 0):=xaa V _ _ _ rfl 0;have g1:(V.alloc (.cells #[.int .i64 0,.int .i64 0] 27)).drew.cell? ⟨V.heap.size,1,none⟩=some (.int .i64 0):=xaa V _ _ _ rfl 1;have c0:=qzA hb g0;have c1:=qzA hb g1
 exact⟨(World.cell?_setCell_other _ _ _ _ (by simp)).trans (World.cell?_setCell_same _ _ _ c0),World.cell?_setCell_same _ _ _ ((World.cell?_setCell_other _ _ _ _ (by simp)).trans c1)⟩
theorem xgl {p:Rp}(hX:Rx p)(d:Nat)(hd:d<=20)(hB:∀ d',d=d'+1->xoY p d'):xpp p d:=by
 intro K T w mb m hv sv ov c n self args av mt hK h hI hW hSe hAr hA hmt;obtain⟨aa,ca,rfl,-,hca,-,-⟩:=id hA;unfold maxLen at hca;obtain⟨q,j,xc,rfl,rfl,hxc,hxm⟩:=xgF hmt;obtain⟨ac,cc,hcv,hlc,hcc,-,hrow⟩:=id h.cls;obtain⟨bc,oc,hac,-,-,-,-,-,mv,y3,hms⟩:=hrow q xc hxc;obtain⟨am,cm,rfl,hlm,hcm,-,hrm⟩:=hms;obtain⟨b2,o2,rfl,-,z0,z1,z2,z3,-,kv,z4,hco⟩:=hrm j mt hxm;obtain⟨ak,ck,rfl,-⟩:=id hco;subst hac;simp only[Nat.add_zero] at z0;unfold maxLen at hcc hcm;have hq:=xag hxc;have hj:=xag hxm;have hq1:(q:Int)<(p.X.cz.length:Int):=by omega
 have hq0:(0:Int)<=(q:Int):=by omega
 have hj1:(j:Int)<(xc.mz.length:Int):=by omega
 have hj0:(0:Int)<=(j:Int):=by omega
 have hmbl:=xai h.box;have hb2:=xbA w (.cells #[.int .i64 self.k,.int .i64 self.n] 27) (.cells #[.int .i64 0,.int .i64 0] 27);have hb3:=xeQ w (.cells #[.int .i64 self.k,.int .i64 self.n] 27) (.cells #[.int .i64 0,.int .i64 0] 27) (.cells #[.string mt.name,.int .i64 mt.args,.int .i64 mt.temps,.int .i64 mt.prim,.slice ak mt.code.length ck] 59);have c0:=qzA hb2 h.c0;rw[hcv] at c0;have y3':=qzA hb2 y3;have z0':=qzA hb2 z0;have z1':=qzA hb2 z1;have z2':=qzA hb2 z2;have z3':=qzA hb2 z3;have z4':=qzA hb2 z4;have hE0:=xoA w self mt (.slice ak mt.code.length ck);have hM0:=h.keep (xan T w 4) (Kp.of_below (S:=fun _=>False) hb3) id id id id
 have hA0:=hA.fx xaS (xan T w 4) (Kp.of_below (S:=fun _=>False) hb3) id
 have hC0:=hco.fx xaV (xan T w 4) (Kp.of_below (S:=fun _=>False) hb3) id
 have HK0:Hid (Kp (All K) T w _):=Kp.of_below hb3;have HRM:=hid (xdm hX.right hmt);have HEN:Hid (xa7 p.E d m q j self args=xby p.E d (xiu p.E d) m q j self args):=by show _=_;rw[xlr]
 have HMT:=hid hmt;clear hrow hrm hxc hxm z0 z1 z2 z3 z4 y3 hco hA h;go_enter Tryz.func27,Tryz.ntmps27
 go_upto_region 2 with (fail)
 generalize (((w.alloc (.cells #[.int .i64 self.k,.int .i64 self.n] 27)).alloc (.cells #[.int .i64 0,.int .i64 0] 27)).alloc (.cells #[.string mt.name,.int .i64 mt.args,.int .i64 mt.temps,.int .i64 mt.prim,.slice ak mt.code.length ck] 59))=W at *;have t0:xay T w 4 w.heap.size=4:=xaC (qzC _);have t1:xay T w 4 (w.heap.size+1)=4:=xaC (by omega)
 have t2:xay T w 4 (w.heap.size+2)=4:=xaC (by omega)
 have hEx:=xan T w 4;generalize xay T w 4=T1 at *;have HEx:=hid hEx;have HT1:=hid t1;clear c0 y3' z0' z1' z2' z3' z4' hb2 hb3 hEx;have hne1:¬ mb=w.heap.size+1:=by omega
 have hne1':¬ w.heap.size+1=mb:=by omega
 have hne0:¬ mb=w.heap.size:=by omega
 have hne0':¬ w.heap.size=mb:=by omega
 have hne2:¬ mb=w.heap.size+2:=by omega
 have hne2':¬ w.heap.size+2=mb:=by omega
 have hfail:∀ (e:Int),Hid (RMac p T1 (W.setCell ⟨mb,7,none⟩ (.int .i64 e)) mb m (20-(d:Int)) e hv sv ov/\Kp (All K) T w (W.setCell ⟨mb,7,none⟩ (.int .i64 e))):=fun e=>⟨hM0.num7 e,HK0.out.trans HEx.out ((kp1 hM0 7 (.int .i64 e)).mono fun t h=>Or.inl h)⟩
 have c7:=hM0.c7;have cf:=xam hM0.box;obtain⟨s0,s1,r0,r1,rf,hm0⟩:=id hE0;have m1:W.cell? ⟨w.heap.size+2,1,none⟩=some (.int .i64 mt.args):=by rw[qzB hm0];rfl
 have m3:W.cell? ⟨w.heap.size+2,3,none⟩=some (.int .i64 mt.prim):=by rw[qzB hm0];rfl
 have hEq:∀ r,xby p.E d (xiu p.E d) m q j self args=r->Hid (xa7 p.E d m q j self args=r):=fun r h=>HEN.out.trans h
 by_cases hargs:mt.args=(args.length:Int)
 ·have hd:(mt.args == (args.length:Int))=true:=by simpa using hargs
  have c3:=hM0.c3;have c4:=hM0.c4;have HArg:=hid hargs;rw[hargs] at m1;clear hargs hd hfail
  go_upto_region 5 with (fail)
  go_quiet (fail)
  have hbq:=below_drewN (Below.refl W.heap.size W) nq;replace hM0:=hM0.later hbq;replace hE0:=hE0.later hbq;replace hA0:=hA0.fx xaS (.refl _ _) (Kp.of_below (S:=fun _=>False) hbq) id
  replace hC0:=hC0.fx xaV (.refl _ _) (Kp.of_below (S:=fun _=>False) hbq) id
  have HKV:Hid (Kp (All K) T w (W.drewN nq)):=HK0.out.trans HEx.out (Kp.of_below hbq);clear hbq c3 c4 c7 cf s0 s1 r0 r1 rf hm0 m1 m3;generalize W.drewN nq=V at *;obtain⟨s0,s1,r0,r1,rf,hm0⟩:=id hE0;have m3:V.cell? ⟨w.heap.size+2,3,none⟩=some (.int .i64 mt.prim):=by rw[qzB hm0];rfl
  have c4:=hM0.c4;have c6:=hM0.c6;have c7:=hM0.c7;have cf:=xam hM0.box;have hfail:∀ (e:Int),Hid (RMac p T1 (V.setCell ⟨mb,7,none⟩ (.int .i64 e)) mb m (20-(d:Int)) e hv sv ov/\Kp (All K) T w (V.setCell ⟨mb,7,none⟩ (.int .i64 e))):=fun e=>⟨hM0.num7 e,HKV.out.trans HEx.out ((kp1 hM0 7 (.int .i64 e)).mono fun t h=>Or.inl h)⟩
  have hEnt:xby p.E d (xiu p.E d) m q j self args=if mt.prim≠0 then (if p.fuel<=m.sz_ then (m,xaY,13) else ({ m with sz_:=m.sz_+1 },xbD mt.prim self (xaN args 0))) else if (xaI p.E d m).2≠0 then (m,xaY,(xaI p.E d m).2) else xiu p.E d (xaI p.E d m).1 (xaO p.E q j mt self args):=by
   unfold xby;rw[show xaJ p.E.cz (q:Int) (j:Int)=some mt from HMT.out]
   simp only[];rw[if_neg (by have:=HArg.out;omega)]
   rfl
  have HEnt:=hid hEnt;clear hEnt
  by_cases hfu:p.fuel<=m.sz_
  ·have HV:=hEq (m,xaY,13) (by
    rw[HEnt.out]
    by_cases hpr:mt.prim≠0
    ·rw[if_pos hpr,if_pos hfu]
    ·rw[if_neg hpr];have hc:xaI p.E d m=(m,13):=by unfold xaI;rw[if_pos (show p.E.fuel<=m.sz_ from hfu)]
     rw[hc];simp)
   obtain⟨HM7,HK7⟩:=(hfail 13).out;have HM7:=hid HM7;have HK7:=hid HK7;have hfd:decide (p.fuel<=m.sz_)=true:=by simpa using hfu
   clear hfail hEq hE0 hM0 hA0 hC0;go_wp2;rw[HV.out];refine bodyPost_ret (v:=VV xaY) ?_ rfl (xf4 (r:=(m,xaY,13)) HEx.out HM7.out HK7.out HT1.out)
   simp[results,Tryz.results27,go_sem,r0,r1,hne1,hne1']
  ·have hfd:decide (p.fuel<=m.sz_)=false:=by simpa using hfu
   have HFu:=hid hfu;have hsw:IntKind.i64.wrap (m.sz_+1)=m.sz_+1:=by have:=hI.sz_;have:=hX.fuel;exact xaq (by omega) (by omega)
   have hsw':wrap64 (m.sz_+1)=m.sz_+1:=by have:=hI.sz_;have:=hX.fuel;unfold wrap64;omega
   clear hfu
   by_cases hpr:mt.prim=0
   ·rw[hpr] at m3
    by_cases hd0:d=0
    ·have HV:=hEq (m,xaY,14) (by
      rw[HEnt.out,if_neg (by simpa using hpr)]
      have hc:xaI p.E d m=(m,14):=by unfold xaI;rw[if_neg (show ¬ p.E.fuel<=m.sz_ from HFu.out),if_pos hd0]
      rw[hc];simp)
     obtain⟨HM7,HK7⟩:=(hfail 14).out;have HM7:=hid HM7;have HK7:=hid HK7;have c6a:V.cell? ⟨mb,6,none⟩=some (.int .i64 20):=by rw[c6,hd0];rfl
     obtain rfl:d=0:=hd0;clear c6;clear hfail hEq hE0 hM0 hA0 hC0 hpr;go_wp2;rw[HV.out];refine bodyPost_ret (v:=VV xaY) ?_ rfl (by have:=xf4 (r:=(m,xaY,14)) HEx.out HM7.out HK7.out HT1.out;simpa using this)
     simp[results,Tryz.results27,go_sem,r0,r1,hne1,hne1']
    ·obtain⟨d',rfl⟩:∃ d',d=d'+1:=⟨d-1,by omega⟩
     have hc:xaI p.E (d'+1) m=({ m with sz_:=m.sz_+1 },0):=by unfold xaI;rw[if_neg (show ¬ p.E.fuel<=m.sz_ from HFu.out),if_neg (by omega)]
     have HV:=hEq (xcU (xa7 p.E d') p.E d' (xfD (xaO p.E q j mt self args)) { m with sz_:=m.sz_+1 } (xaO p.E q j mt self args)) (by
      rw[HEnt.out,if_neg (by simpa using hpr),hc]
      simp only[];rw[if_neg (by simp)]
      rfl)
     have hdp:(20:Int)-((d'+1:Nat):Int)=19-(d':Int):=by omega
     rw[hdp] at c6;have hdg:decide ((20:Int)<=19-(d':Int))=false:=by simp;omega
     have hdw:IntKind.i64.wrap (19-(d':Int)+1)=20-(d':Int):=by rw[xaq (by omega) (by omega)];omega
     have hdw':wrap64 (19-(d':Int)+1)=20-(d':Int):=by unfold wrap64;omega
     have hdv:IntKind.i64.wrap (20-(d':Int)-1)=19-(d':Int):=by rw[xaq (by omega) (by omega)];omega
     have hdv':wrap64 (20-(d':Int)-1)=19-(d':Int):=by unfold wrap64;omega
     have hM1:=(hM0.num4 (m.sz_+1)).num6 (20-(d':Int));have k1:Kp (fun t=>t=1) T1 V ((V.setCell ⟨mb,4,none⟩ (.int .i64 (m.sz_+1))).setCell ⟨mb,6,none⟩ (.int .i64 (20-(d':Int)))):=(kp1 hM0 4 _).trans (.refl _ _) (kp1 (hM0.num4 (m.sz_+1)) 6 _)
     have hE1:=hE0.kp k1 (by rw[t0];omega) (by rw[t1];omega) (by rw[t2];omega)
     have hA1:=hA0.fx xaS (.refl _ _) k1 (by omega)
     have hC1:=hC0.fx xaV (.refl _ _) k1 (by omega)
     have HK1:Hid (Kp (All K) T w _):=HKV.out.trans HEx.out (k1.mono fun t h=>Or.inl h)
     have hMI:MIn p.E { m with sz_:=m.sz_+1 }:=⟨hI.heap,⟨by have:=hI.sz_;show 0<=m.sz_+1;omega,by have:=HFu.out;show m.sz_+1<=p.fuel;omega⟩,hI.tz⟩
     have hFw:Few { m with sz_:=m.sz_+1 }:=hW
     have hFO:FOk p.X.cz m.heap.length (xaO p.E q j mt self args):=⟨hSe,hAr,xd2 _ _,(fun v hv=>by cases hv),hX.ok.meths _ _ _ HMT.out,hX.ok.meths _ _ _ HMT.out⟩
     have hPl:PlOk (xaO p.E q j mt self args):=xl0 hX.right HMT.out hpr HArg.out self rfl;have hBd:=hB d' rfl K T1 _ mb _ hv sv ov q j self args _ mt _ hK hM1 hMI hFw hFO hPl hA1 hC1;have n4:=hM0.c4;have g6:(V.setCell ⟨mb,4,none⟩ (.int .i64 (m.sz_+1))).cell? ⟨mb,6,none⟩=some (.int .i64 (19-(d':Int))):=by have:=(hM0.num4 (m.sz_+1)).c6;rw[hdp] at this;exact this
     have gf:=xam (hM0.num4 (m.sz_+1)).box;clear hfail hEq hE0 hM0 hA0 hC0 hMI hFw hFO hPl hA1 hC1 k1 hpr
     go_upto_region 18 with (fail)
     generalize ((V.setCell ⟨mb,4,none⟩ (.int .i64 (m.sz_+1))).setCell ⟨mb,6,none⟩ (.int .i64 (20-(d':Int))))=V2 at *;have hB1:=hE1.m0;have a0:V2.cell? ⟨w.heap.size+2,0,none⟩=some (.string mt.name):=by rw[qzB hB1];rfl
     have a1:V2.cell? ⟨w.heap.size+2,1,none⟩=some (.int .i64 mt.args):=by rw[qzB hB1];rfl
     have a2:V2.cell? ⟨w.heap.size+2,2,none⟩=some (.int .i64 mt.temps):=by rw[qzB hB1];rfl
     have a3:V2.cell? ⟨w.heap.size+2,3,none⟩=some (.int .i64 mt.prim):=by rw[qzB hB1];rfl
     have a4:V2.cell? ⟨w.heap.size+2,4,none⟩=some (.slice ak mt.code.length ck):=by rw[qzB hB1];rfl
     have b0:=hE1.s0;have b1:=hE1.s1;clear s0 s1 r0 r1 rf hm0 m3 c4 c6 c7 cf n4 g6 gf;go_wp2_with fail;clear a0 a1 a2 a3 a4 b0 b1 hB1;refine hBd.mono ?_;rintro e w3 ⟨rfl,⟨T3,hv3,sv3,ov3,hE3,hM3⟩,hK3⟩;dsimp only;have hE3b:=hE1.kp hK3 (by rw[t0];unfold All;omega) (by rw[t1];unfold All;omega) (by rw[t2];unfold All;omega)
     obtain⟨RR,HRR⟩:∃ RR,Hid (xcU (xa7 p.E d') p.E d' (xfD (xaO p.E q j mt self args)) { m with sz_:=m.sz_+1 } (xaO p.E q j mt self args)=RR):=⟨_,rfl⟩
     rw[HRR.out] at hM3 ⊢;have hbx:=xaj w3 (.cells #[.int .i64 RR.2.1.k,.int .i64 RR.2.1.n] 27);have hE4:=hE3b.later hbx;have hM4:=hM3.later hbx;have k6:=hM4.c6;have kf:=xam hM4.box;have e0:(w3.alloc (.cells #[.int .i64 RR.2.1.k,.int .i64 RR.2.1.n] 27)).cell? ⟨w3.heap.size,0,none⟩=some (.int .i64 RR.2.1.k):=xaa _ _ _ _ rfl 0;have e1:(w3.alloc (.cells #[.int .i64 RR.2.1.k,.int .i64 RR.2.1.n] 27)).cell? ⟨w3.heap.size,1,none⟩=some (.int .i64 RR.2.1.n):=xaa _ _ _ _ rfl 1;have hM5:=hM4.num6 (19-(d':Int));have hmw:mb<w3.heap.size:=xai hM3.box;have hww:w.heap.size+2<w3.heap.size:=xai hE3b.m0;have hz2:V2.heap.size<=w3.heap.size:=hK3.size
     have HE3:Hid (Ext T T3 w):=fun b hb=>(hE3 b (by have:=HK1.out.size;omega)).trans (HEx.out b hb)
     have HT3:Hid (T3 (w.heap.size+1)=4):=by show _=_;rw[hE3 _ (by have:=xai hE1.m0;omega)];exact t1
     have HK5:Hid (Kp (All K) T w ((w3.alloc (.cells #[.int .i64 RR.2.1.k,.int .i64 RR.2.1.n] 27)).setCell ⟨mb,6,none⟩ (.int .i64 (19-(d':Int))))):=by
      have k5:=kp1 hM4 6 (.int .i64 (19-(d':Int)));have:=(HK1.out.trans HEx.out hK3).on hbx
      exact this.trans HE3.out (k5.mono fun t h=>Or.inl h)
     have HM5:=hid hM5;obtain⟨-,-,r0,r1,rf,-⟩:=hE4;have n1:¬ mb=w3.heap.size:=by omega
     have n2:¬ w3.heap.size=mb:=by omega
     have n3:¬ w.heap.size+1=w3.heap.size:=by omega
     have n4:¬ w3.heap.size=w.heap.size+1:=by omega
     clear hE1 hE3b hM3 hM4 hM5 hE3 hK3 hBd hbx
     go_upto_region 19 with (fail)
     generalize (w3.alloc (.cells #[.int .i64 RR.2.1.k,.int .i64 RR.2.1.n] 27))=V4 at *;go_wp2;rw[HV.out,HRR.out];refine bodyPost_ret (v:=VV RR.2.1) ?_ rfl (xf4 (r:=RR) HE3.out (by rw[hdp];exact HM5.out) HK5.out HT3.out)
     simp[results,Tryz.results27,go_sem,r0,r1,hne1,hne1',n1,n2,n3,n4]
   ·have hpn:(mt.prim == 0)=false:=by simpa using hpr
    have hone:args.length=1:=by
     rcases HRM.out with ⟨-,h1⟩ | ⟨h0,-⟩
     ·have:=HArg.out;omega
     ·exact absurd h0 hpr
    obtain⟨a0,rfl⟩:∃ a0,args=[a0]:=by
     match args,hone with
     | [a0],_=>exact⟨a0,rfl⟩
    have HV:=hEq ({ m with sz_:=m.sz_+1 },xbD mt.prim self a0) (by
     rw[HEnt.out,if_pos hpr,if_neg HFu.out]
     rfl)
    have hM1:=hM0.num4 (m.sz_+1);have k1:=kp1 hM0 4 (.int .i64 (m.sz_+1));have hE1:=hE0.kp k1 (by rw[t0];omega) (by rw[t1];omega) (by rw[t2];omega)
    have hA1:=hA0.fx xaS (.refl _ _) k1 (by omega)
    have HK1:Hid (Kp (All K) T w (V.setCell ⟨mb,4,none⟩ (.int .i64 (m.sz_+1)))):=HKV.out.trans HEx.out (k1.mono fun t h=>Or.inl h)
    clear hfail hEq hE0 hM0 hA0 hC0 s0 s1 r0 r1 rf hm0 c6 c7 k1 hpr
    go_upto_region 10 with (fail)
    generalize (V.setCell ⟨mb,4,none⟩ (.int .i64 (m.sz_+1)))=V1 at *;obtain⟨aa',ca',e',-,-,-,hrow⟩:=id hA1;simp only[Value.slice.injEq] at e';obtain⟨rfl,-,-⟩:=e';obtain⟨ba,oa,rfl,hba,u0,u1⟩:=hrow 0 a0 rfl;simp only[Nat.zero_mul,Nat.add_zero] at u0 u1;have n3:V1.cell? ⟨w.heap.size+2,3,none⟩=some (.int .i64 mt.prim):=by rw[qzB hE1.m0];rfl
    have hlw:=xai hE1.m0;have hS0:PmS V1 w.heap.size mt.prim self a0 ba oa V1.drew:=⟨n3,hE1.s0,hE1.s1,u0,u1,(Below.refl _ _).drew,hlw,hba.1⟩;have hr1:=xf5 hSe;have hr2:=xf5 (hAr a0 (by simp))
    clear n3 u0 u1 hrow;obtain⟨v1,e1,hr⟩:∃ v1 e1,xbD mt.prim self a0=(v1,e1):=⟨_,_,rfl⟩;have hprim:∀ w,Calls Tryz.prog 51 #[.int .i64 mt.prim,VV self,VV a0] w fun e w'=>e=.returned (.tuple #[VV v1,.int .i64 e1])/\Below w.heap.size w w':=fun w=>by have:=xkV mt.prim self a0 w hr1 hr2;rw[hr] at this;exact this
    rw[hr] at HV;clear hr hr1 hr2;have HE1:=hid hE1;have HM1:=hid hM1;clear hE1 hM1 hA1 m3 c4 cf;have tokA:True:=trivial
    go_region_held3 (fun w'=>w'.cell? ⟨w.heap.size+1+1,3,none⟩=some (.int .i64 mt.prim)/\w'.cell? ⟨w.heap.size,0,none⟩=some (.int .i64 self.k)/\w'.cell? ⟨w.heap.size,1,none⟩=some (.int .i64 self.n)/\w'.cell? ⟨ba,oa,none⟩=some (.int .i64 a0.k)/\w'.cell? ⟨ba,oa+1,none⟩=some (.int .i64 a0.n)/\PmS V1 w.heap.size mt.prim self a0 ba oa w')
     (first | with_reducible exact hS0.al | with_reducible exact hY.al | exact (hS0.later (xaj _ _)).al | exact (hY.later (xaj _ _)).al | exact ((‹_/\_/\_/\_/\_/\PmS V1 w.heap.size mt.prim self a0 ba oa _›).2.2.2.2.2.later (xaj _ _)).al | exact ((hY.set (by omega) _ _).set (by omega) _ _).al | exact ((((‹_/\_/\_/\_/\_/\PmS V1 w.heap.size mt.prim self a0 ba oa _›).2.2.2.2.2.set (by omega) _ _).set (by omega) _ _).al))
     (first
      | (have _t:=tokA;go_at_call 51;refine (hprim _).mono ?_;rintro e w2 ⟨rfl,hb2⟩;have hY:=(‹_/\_/\_/\_/\_/\PmS V1 w.heap.size mt.prim self a0 ba oa _›).2.2.2.2.2.later hb2;have hsz0:=(‹_/\_/\_/\_/\_/\PmS V1 w.heap.size mt.prim self a0 ba oa _›).2.2.2.2.2.bel.size;clear tokA;obtain⟨hc2,hf2⟩:=xiJ hb2;have hz2:=hb2.size))
    ·have hT:=(‹_/\_/\_/\_/\_/\PmS V1 w.heap.size mt.prim self a0 ba oa _›).2.2.2.2.2.bel;have hM2:=HM1.out.later hT;have hE2:=HE1.out.later hT;have k7:=hM2.c7;have kf:=xam hM2.box;have e0:(w2.alloc (.cells #[.int .i64 v1.k,.int .i64 v1.n] 27)).cell? ⟨w2.heap.size,0,none⟩=some (.int .i64 v1.k):=xaa _ _ _ _ rfl 0;have e1':(w2.alloc (.cells #[.int .i64 v1.k,.int .i64 v1.n] 27)).cell? ⟨w2.heap.size,1,none⟩=some (.int .i64 v1.n):=xaa _ _ _ _ rfl 1;have hmv:mb<V1.heap.size:=xai HM1.out.box;have n1:¬ mb=w2.heap.size:=by have:=hz2;have:=hsz0;omega
     have n2:¬ w2.heap.size=mb:=fun h=>n1 h.symm
     have n3:¬ w.heap.size+1=w2.heap.size:=by have:=hz2;have:=hsz0;omega
     have n4:¬ w2.heap.size=w.heap.size+1:=fun h=>n3 h.symm
     have HM3:=hid (hM2.num7 e1);have HK3:Hid (Kp (All K) T w ((w2.alloc (.cells #[.int .i64 v1.k,.int .i64 v1.n] 27)).setCell ⟨mb,7,none⟩ (.int .i64 e1))):=(HK1.out.on hT).trans HEx.out ((kp1 hM2 7 (.int .i64 e1)).mono fun t h=>Or.inl h)
     obtain⟨-,-,r0,r1,rf,-⟩:=hE2;clear hM2 hT hY hS0 hc2 hf2 hb2;generalize (w2.alloc (.cells #[.int .i64 v1.k,.int .i64 v1.n] 27))=V' at *;go_wp2;rw[HV.out];refine bodyPost_ret (v:=VV v1) ?_ rfl (xf4 (r:=(_,v1,e1)) HEx.out HM3.out HK3.out HT1.out)
     simp[results,Tryz.results27,go_sem,r0,r1,hne1,hne1',n1,n2,n3,n4]
    ·have hT:=(‹_/\_/\_/\_/\_/\PmS V1 w.heap.size mt.prim self a0 ba oa _›).2.2.2.2.2.bel;have hM2:=HM1.out.later hT;have hE2:=HE1.out.later hT;have k7:=hM2.c7;have kf:=xam hM2.box;obtain⟨e0,e1'⟩:=xo2 (v:=v1) hb2;have hmv:mb<V1.heap.size:=xai HM1.out.box;have n1:¬ mb=V1.heap.size:=by have:=hz2;have:=hsz0;omega
     have n2:¬ V1.heap.size=mb:=fun h=>n1 h.symm
     have n3:¬ w.heap.size+1=V1.heap.size:=by have:=hz2;have:=hsz0;omega
     have n4:¬ V1.heap.size=w.heap.size+1:=fun h=>n3 h.symm
     have HM3:=hid (hM2.num7 e1);have HK3:Hid (Kp (All K) T w (((w2.setCell ⟨V1.heap.size,0,none⟩ (.int .i64 v1.k)).setCell ⟨V1.heap.size,1,none⟩ (.int .i64 v1.n)).setCell ⟨mb,7,none⟩ (.int .i64 e1))):=(HK1.out.on hT).trans HEx.out ((kp1 hM2 7 (.int .i64 e1)).mono fun t h=>Or.inl h)
     obtain⟨-,-,r0,r1,rf,-⟩:=hE2;clear hM2 hT hY hS0 hc2 hf2 hb2;generalize ((w2.setCell ⟨V1.heap.size,0,none⟩ (.int .i64 v1.k)).setCell ⟨V1.heap.size,1,none⟩ (.int .i64 v1.n))=V' at *;go_wp2;rw[HV.out];refine bodyPost_ret (v:=VV v1) ?_ rfl (xf4 (r:=(_,v1,e1)) HEx.out HM3.out HK3.out HT1.out)
     simp[results,Tryz.results27,go_sem,r0,r1,hne1,hne1',n1,n2,n3,n4]
 ·have HV:=hEq (m,xaY,8) (by
   unfold xby;rw[show xaJ p.E.cz (q:Int) (j:Int)=some mt from HMT.out]
   simp only[];rw[if_pos hargs])
  have hd:(mt.args == (args.length:Int))=false:=by simpa using hargs
  obtain⟨HM7,HK7⟩:=(hfail 8).out;have HM7:=hid HM7;have HK7:=hid HK7;clear hfail hEq hE0 hM0 hA0 hC0 hargs;go_wp2;rw[HV.out];refine bodyPost_ret (v:=VV xaY) ?_ rfl (xf4 (r:=(m,xaY,8)) HEx.out HM7.out HK7.out HT1.out)
  simp[results,Tryz.results27,go_sem,r0,r1,hne1,hne1']
theorem xiZ {p:Rp}(hX:Rx p):∀ d:Nat,d<=20->xpp p d
 | 0,h=>xgl hX 0 h fun d' e=>by omega
 | d+1,h=>xgl hX (d+1) h fun d' e=>by
  obtain rfl:d=d':=by omega
  exact xl7 hX (xiZ hX d (by omega))
def xce (X:QW)(s:QV)(name:ByteArray)(args:List QV)(fuel:Int):Mc RSt × QV × Int:=
 xa7 (xcF X fuel) 20 ⟨X.heap,0,0,[]⟩ (xaF X.cz (xav X.heap s) name).1 (xaF X.cz (xav X.heap s) name).2 s args
def xj4 (X:QW)(s:QV)(name:ByteArray)(args:List QV)(fuel:Int):RSt:=if xap X s name args fuel≠0 then [] else (xce X s name args fuel).1.st
theorem xn5 (X:QW)(s:QV)(name:ByteArray)(args:List QV)(fuel:Int):(xmU X s name args fuel).1.heap=(xce X s name args fuel).1.heap/\(xmU X s name args fuel).1.sz_=(xce X s name args fuel).1.sz_/\(xmU X s name args fuel).2=(xce X s name args fuel).2:=by
 have h:=xko (Rel:=fun (_:RSt) (_:Unit)=>True) (SOk:=fun _ _=>True) (E:=xcF X fuel) (E':=xgQ X fuel) ⟨rfl,rfl,rfl,fun _ _ _ _ _ _ _=>⟨rfl,trivial⟩,fun _ _ _ _ _ _ _ _=>trivial,fun _ _ _ _ _ _ _ _ _=>trivial⟩ 20 ⟨X.heap,0,0,[]⟩ ⟨X.heap,0,0,()⟩ (xaF X.cz (xav X.heap s) name).1 (xaF X.cz (xav X.heap s) name).2 s args ⟨rfl,rfl,rfl,trivial⟩
 exact⟨h.1.heap,h.1.sz_,h.2⟩
def RuPost (X:QW)(fuel:Int)(cv0:Value)(w:World)(r:Ran)(st:RSt)(e:Ending)(w':World):Prop:=
 Below w.heap.size w w'/\∃ cv hv T m deep err hv' sv ov,e=.returned (.tuple #[WV cv hv X.ez,RnV r,.pointer (some ⟨w.heap.size+4,0,none⟩)])/\xaf Tru w' cv X.cz/\xaA Tru w' hv r.heap/\RMac ⟨X,fuel,cv0⟩ T w' (w.heap.size+4) m deep err hv' sv ov/\m.st=st
theorem xlb {U:World}{b o b':Nat}{v u0 u1 u2:Value}(h:U.cell? ⟨b,o,none⟩=some v)(hne:b≠b'):(((U.setCell ⟨b',0,none⟩ u0).setCell ⟨b',1,none⟩ u1).setCell ⟨b',2,none⟩ u2).cell? ⟨b,o,none⟩=some v:=
 (World.cell?_setCell_far _ _ _ _ (by simp;omega)).trans ((World.cell?_setCell_far _ _ _ _ (by simp;omega)).trans ((World.cell?_setCell_far _ _ _ _ (by simp;omega)).trans h))
theorem RuPost.fin {X:QW}{fuel:Int}{cv0:Value}{w V:World}{r:Ran}{st:RSt}{cv hv hv' sv ov:Value}{P:Nat->Prop}{T:Nat->Nat}{m:Mc RSt}{deep err:Int}(hb:Below w.heap.size w V)(hC:xaf P V cv X.cz)(hH:xaA P V hv r.heap)(h2:¬ P (w.heap.size+2))(h3:¬ P (w.heap.size+3))(hM:RMac ⟨X,fuel,cv0⟩ T V (w.heap.size+4) m deep err hv' sv ov)(hst:m.st=st)(t2:T (w.heap.size+2)=4)(t3:T (w.heap.size+3)=4)(u0 u1 u2 v0 v1 v2 v3:Value) :
  RuPost X fuel cv0 w r st (.returned (.tuple #[WV cv hv X.ez,RnV r,.pointer (some ⟨w.heap.size+4,0,none⟩)])) (((((((V.setCell ⟨w.heap.size+2,0,none⟩ u0).setCell ⟨w.heap.size+2,1,none⟩ u1).setCell ⟨w.heap.size+2,2,none⟩ u2).setCell ⟨w.heap.size+3,0,none⟩ v0).setCell ⟨w.heap.size+3,1,none⟩ v1).setCell ⟨w.heap.size+3,2,none⟩ v2).setCell ⟨w.heap.size+3,3,none⟩ v3):=by
 have k:Keeps P V (((((((V.setCell ⟨w.heap.size+2,0,none⟩ u0).setCell ⟨w.heap.size+2,1,none⟩ u1).setCell ⟨w.heap.size+2,2,none⟩ u2).setCell ⟨w.heap.size+3,0,none⟩ v0).setCell ⟨w.heap.size+3,1,none⟩ v1).setCell ⟨w.heap.size+3,2,none⟩ v2).setCell ⟨w.heap.size+3,3,none⟩ v3):=xax (xax (xax (xax (xax (xax (xax (Keeps.refl _ _) h2 _) h2 _) h2 _) h3 _) h3 _) h3 _) h3 _;have k4:Kp (fun t=>t=4) T V (((((((V.setCell ⟨w.heap.size+2,0,none⟩ u0).setCell ⟨w.heap.size+2,1,none⟩ u1).setCell ⟨w.heap.size+2,2,none⟩ u2).setCell ⟨w.heap.size+3,0,none⟩ v0).setCell ⟨w.heap.size+3,1,none⟩ v1).setCell ⟨w.heap.size+3,2,none⟩ v2).setCell ⟨w.heap.size+3,3,none⟩ v3):=(((((((Kp.refl _ _ _).set (fun _=>t2) _ _).set (fun _=>t2) _ _).set (fun _=>t2) _ _).set (fun _=>t3) _ _).set (fun _=>t3) _ _).set (fun _=>t3) _ _).set (fun _=>t3) _ _
 refine⟨((((((hb.setCell (by simp) _).setCell (by simp) _).setCell (by simp) _).setCell (by simp) _).setCell (by simp) _).setCell (by simp) _).setCell (by simp) _,cv,hv,T,m,deep,err,hv',sv,ov,rfl,hC.keep xau k fun _ _=>trivial,hH.keep xaz k fun _ _=>trivial,hM.keep (.refl _ _) k4 (by omega) (by omega) (by omega) (by omega),hst⟩
theorem RuPost.drew {X:QW}{fuel:Int}{cv0:Value}{w w':World}{r:Ran}{st:RSt}{e:Ending}(h:RuPost X fuel cv0 w r st e w'):RuPost X fuel cv0 w r st e w'.drew:=by
 obtain⟨hb,cv,hv,T,m,deep,err,hv',sv,ov,h1,h2,h3,h4,h5⟩:=h
 exact⟨hb.drew,cv,hv,T,m,deep,err,hv',sv,ov,h1,h2.later xau (Below.refl _ _).drew,h3.later xaz (Below.refl _ _).drew,h4.later (Below.refl _ _).drew,h5⟩
def xlW (n:Nat):Nat->Nat:=fun x=>if x<n then 0 else if x=n+4 then 1 else 4
theorem xgy {n x:Nat}(h:x<n):xlW n x=0:=by simp[xlW,h]
theorem xnY (n:Nat):xlW n (n+4)=1:=by simp[xlW]
theorem xnw {n x:Nat}(h:n<=x)(h4:x≠n+4):xlW n x=4:=by simp[xlW,h4];omega
theorem xjy {X:QW}{fuel:Int}{cv hv:Value}{w W:World}{P:Nat->Prop}(hC:xaf P w cv X.cz)(hH:xaA P w hv X.heap)(hb:Below w.heap.size w W)(hbox:W.heap[w.heap.size+4]?=some (.cells #[cv,hv,.int .i64 X.ez,.int .i64 fuel,.int .i64 0,.int .i64 0,.int .i64 0,.int .i64 0,.slice none 0 0,.slice none 0 0] 91 (0,0))):RMac ⟨X,fuel,cv⟩ (xlW w.heap.size) W (w.heap.size+4) ⟨X.heap,0,0,[]⟩ 0 0 hv (.slice none 0 0) (.slice none 0 0):=by
 have hs:=hb.size;refine⟨hbox,xnY _,((xbO hC).later xau hb).mono xau fun b hb=>⟨by omega,xgy hb⟩,((xcQ hH).later xaz hb).mono xaz fun b hb=>⟨by omega,xgy hb⟩,⟨rfl,Or.inl ⟨rfl,rfl⟩⟩,fun g hg=>(by cases hg),⟨rfl,Or.inl ⟨rfl,rfl⟩⟩,fun g hg=>(by cases hg)⟩
theorem xme {P Q:Nat->Prop}(X:QW)(hX:xaW X=0)(s:QV)(name:ByteArray)(args:List QV)(fuel:Int)(cv hv av:Value)(w:World)(hC:xaf P w cv X.cz)(hH:xaA P w hv X.heap)(hA:xaG Q w av args)(hn:name.size<=140737488351232) :
  Calls Tryz.prog 10 #[WV cv hv X.ez,ClV s name av,.int .i64 fuel] w fun e w'=>RuPost X fuel cv w (xdx X s name args fuel) (xj4 X s name args fuel) e w':=by
 obtain⟨ac,cc,rfl,-,-,hby,-⟩:=id hC;obtain⟨ah,ch,rfl,-,-,hbyh,-⟩:=id hH;obtain⟨aa,ca,rfl,-⟩:=id hA;have hR0:=(xig w (.slice ac X.cz.length cc) (.slice ah X.heap.length ch) X.ez s name (.slice aa args.length ca)).later (xaj _ (.cells #[.slice ac X.cz.length cc,.slice ah X.heap.length ch,.int .i64 X.ez,.int .i64 fuel,.int .i64 0,.int .i64 0,.int .i64 0,.int .i64 0,.slice none 0 0,.slice none 0 0] 91));have hB0:Below w.heap.size w (((((w.alloc (.cells #[.slice ac X.cz.length cc,.slice ah X.heap.length ch,.int .i64 X.ez] 25)).alloc (.cells #[.int .i64 s.k,.int .i64 s.n,.string name,.slice aa args.length ca] 30)).alloc (.cells #[.slice none 0 0,.slice none 0 0,.int .i64 0] 25)).alloc (.cells #[.int .i64 0,.int .i64 0,.int .i64 0,.int .i64 0] 37)).alloc (.cells #[.slice ac X.cz.length cc,.slice ah X.heap.length ch,.int .i64 X.ez,.int .i64 fuel,.int .i64 0,.int .i64 0,.int .i64 0,.int .i64 0,.slice none 0 0,.slice none 0 0] 91)):=xae (xae (xbA _ _ _) (xbA _ _ _)) (xaj _ _)
 have hbx0:(((((w.alloc (.cells #[.slice ac X.cz.length cc,.slice ah X.heap.length ch,.int .i64 X.ez] 25)).alloc (.cells #[.int .i64 s.k,.int .i64 s.n,.string name,.slice aa args.length ca] 30)).alloc (.cells #[.slice none 0 0,.slice none 0 0,.int .i64 0] 25)).alloc (.cells #[.int .i64 0,.int .i64 0,.int .i64 0,.int .i64 0] 37)).alloc (.cells #[.slice ac X.cz.length cc,.slice ah X.heap.length ch,.int .i64 X.ez,.int .i64 fuel,.int .i64 0,.int .i64 0,.int .i64 0,.int .i64 0,.slice none 0 0,.slice none 0 0] 91)).heap[w.heap.size+4]?=some (.cells #[.slice ac X.cz.length cc,.slice ah X.heap.length ch,.int .i64 X.ez,.int .i64 fuel,.int .i64 0,.int .i64 0,.int .i64 0,.int .i64 0,.slice none 0 0,.slice none 0 0] 91 (0,0)):=by
  have:=heap_alloc_new ((((w.alloc (.cells #[.slice ac X.cz.length cc,.slice ah X.heap.length ch,.int .i64 X.ez] 25)).alloc (.cells #[.int .i64 s.k,.int .i64 s.n,.string name,.slice aa args.length ca] 30)).alloc (.cells #[.slice none 0 0,.slice none 0 0,.int .i64 0] 25)).alloc (.cells #[.int .i64 0,.int .i64 0,.int .i64 0,.int .i64 0] 37)) (.cells #[.slice ac X.cz.length cc,.slice ah X.heap.length ch,.int .i64 X.ez,.int .i64 fuel,.int .i64 0,.int .i64 0,.int .i64 0,.int .i64 0,.slice none 0 0,.slice none 0 0] 91)
  simpa using this
 go_enter Tryz.func10,Tryz.ntmps10
 go_upto_region 2 with (fail)
 simp only[Nat.add_assoc,Nat.reduceAdd] at *;generalize (((((w.alloc (.cells #[.slice ac X.cz.length cc,.slice ah X.heap.length ch,.int .i64 X.ez] 25)).alloc (.cells #[.int .i64 s.k,.int .i64 s.n,.string name,.slice aa args.length ca] 30)).alloc (.cells #[.slice none 0 0,.slice none 0 0,.int .i64 0] 25)).alloc (.cells #[.int .i64 0,.int .i64 0,.int .i64 0,.int .i64 0] 37)).alloc (.cells #[.slice ac X.cz.length cc,.slice ah X.heap.length ch,.int .i64 X.ez,.int .i64 fuel,.int .i64 0,.int .i64 0,.int .i64 0,.int .i64 0,.slice none 0 0,.slice none 0 0] 91))=W at *;obtain⟨n0,n1,n2,m0,m1,m2,m3⟩:=And.intro hR0.w0 (And.intro hR0.w1 (And.intro hR0.w2 (And.intro hR0.c0 (And.intro hR0.c1 (And.intro hR0.c2 hR0.c3)))))
 go_wp2_with fail;refine (xfO X s name args fuel _ _ _ W ⟨_,_,_,rfl⟩ (hH.later xaz hB0) (hA.later xaS hB0) hn).mono ?_;rintro e w1 ⟨rfl,hb1⟩;have hR1:=hR0.later hb1;have hB1:=xae hB0 hb1;have hM1:=(xjy hC hH hB0 hbx0).later hb1;clear n0 n1 n2 m0 m1 m2 m3 hR0 hB0 hbx0 hb1;have t0:∀ i,i<4->xlW w.heap.size (w.heap.size+i)=4:=fun i hi=>xnw (by omega) (by omega)
 by_cases hw:xap X s name args fuel=0
 ·have HPl:Hid (xdx X s name args fuel=if (xce X s name args fuel).2.2≠0 then ⟨X.heap,xaY,(xce X s name args fuel).2.2,(xce X s name args fuel).1.sz_⟩ else ⟨(xce X s name args fuel).1.heap,(xce X s name args fuel).2.1,0,(xce X s name args fuel).1.sz_⟩):=by
   show _=_
   obtain⟨q1,q2,q3⟩:=xn5 X s name args fuel;unfold xdx;rw[if_neg (by simpa using hw),q1,q2,q3]
  have HSt:Hid (xj4 X s name args fuel=(xce X s name args fuel).1.st):=by show _=_;unfold xj4;rw[if_neg (by simpa using hw)]
  obtain⟨hfu,hws,hwa⟩:=xeL hw;have hRx:Rx ⟨X,fuel,.slice ac X.cz.length cc⟩:=⟨hX,hfu⟩
  have HMi:Hid (MIn (Rp.E ⟨X,fuel,.slice ac X.cz.length cc⟩) ⟨X.heap,0,0,[]⟩):=by
   have he:=xf7 hX
   exact⟨he,⟨Int.le_refl _,hfu.1⟩,⟨Int.le_refl _,by show (0:Int)<=300;omega⟩⟩
  have HX:=hid (And.intro hRx (And.intro hws hwa));rw[hw];clear hw hws hwa hfu
  go_upto_region 5 with (fail)
  have hSl:∀ w',Below w1.heap.size w1 w'->w'.cell? ⟨w.heap.size,0,none⟩=some (.slice ac X.cz.length cc)/\w'.cell? ⟨w.heap.size,1,none⟩=some (.slice ah X.heap.length ch)/\w'.cell? ⟨w.heap.size,2,none⟩=some (.int .i64 X.ez)/\w'.cell? ⟨w.heap.size+1,0,none⟩=some (.int .i64 s.k)/\w'.cell? ⟨w.heap.size+1,1,none⟩=some (.int .i64 s.n)/\w'.cell? ⟨w.heap.size+1,2,none⟩=some (.string name):=fun w' hb=>by
   have h:=hR1.later hb
   exact⟨h.w0,h.w1,h.w2,h.c0,h.c1,h.c2⟩
  have hS0:=hSl _ (Below.refl _ w1).drew;refine xat (S:=fun w'=>w'.cell? ⟨w.heap.size,0,none⟩=some (.slice ac X.cz.length cc)/\w'.cell? ⟨w.heap.size,1,none⟩=some (.slice ah X.heap.length ch)/\w'.cell? ⟨w.heap.size,2,none⟩=some (.int .i64 X.ez)/\w'.cell? ⟨w.heap.size+1,0,none⟩=some (.int .i64 s.k)/\w'.cell? ⟨w.heap.size+1,1,none⟩=some (.int .i64 s.n)/\w'.cell? ⟨w.heap.size+1,2,none⟩=some (.string name)) [] (by kernel_rfl) ?_
  refine tk 0 (⟨some 29,.load 25 (.tmp 3),25,_,_,none⟩) (WV (.slice ac X.cz.length cc) (.slice ah X.heap.length ch) X.ez) rfl (hS0) (fun _ _ _ h=>h) rfl (by kernel_rfl) ?_ ?_
  ·rintro w⟨q0,q1,q2,q3,q4,q5⟩;go_simp
  try simp only[Act.put,qzF,qzG,qzH]
  refine tk 1 (⟨some 30,.fieldAddr 25 (.tmp 3) 1,0,_,_,none⟩) (.pointer (some ⟨w.heap.size,1,none⟩)) rfl (hS0) (fun _ _ _ h=>h) rfl (by kernel_rfl) ?_ ?_
  ·rintro w⟨q0,q1,q2,q3,q4,q5⟩;go_simp
  try simp only[Act.put,qzF,qzG,qzH]
  refine tk 2 (⟨some 31,.load 23 (.tmp 30),23,_,_,none⟩) (.slice ah X.heap.length ch) rfl (hS0) (fun _ _ _ h=>h) rfl (by kernel_rfl) ?_ ?_
  ·rintro w⟨q0,q1,q2,q3,q4,q5⟩;go_simp
  try simp only[Act.put,qzF,qzG,qzH]
  refine tk 3 (⟨some 32,.fieldAddr 30 (.tmp 4) 0,0,_,_,none⟩) (.pointer (some ⟨w.heap.size+1,0,none⟩)) rfl (hS0) (fun _ _ _ h=>h) rfl (by kernel_rfl) ?_ ?_
  ·rintro w⟨q0,q1,q2,q3,q4,q5⟩;go_simp
  try simp only[Act.put,qzF,qzG,qzH]
  refine tk 4 (⟨some 33,.load 27 (.tmp 32),27,_,_,none⟩) (VV s) rfl (hS0) (fun _ _ _ h=>h) rfl (by kernel_rfl) ?_ ?_
  ·rintro w⟨q0,q1,q2,q3,q4,q5⟩;go_simp
  try simp only[Act.put,qzF,qzG,qzH]
  refine tk 6 (⟨some 35,.fieldAddr 30 (.tmp 4) 1,0,_,_,none⟩) (.pointer (some ⟨w.heap.size+1,2,none⟩)) rfl (hS0) (fun _ _ _ h=>h) rfl (by kernel_rfl) ?_ ?_
  ·rintro w⟨q0,q1,q2,q3,q4,q5⟩;go_simp
  try simp only[Act.put,qzF,qzG,qzH]
  refine tk 7 (⟨some 36,.load 9 (.tmp 35),9,_,_,none⟩) (.string name) rfl (hS0) (fun _ _ _ h=>h) rfl (by kernel_rfl) ?_ ?_
  ·rintro w⟨q0,q1,q2,q3,q4,q5⟩;go_simp
  try simp only[Act.put,qzF,qzG,qzH]
  refine xab (rs:=[5]) (by kernel_rfl) (by simp) ?_
  intro i hi;simp only[List.mem_cons,List.not_mem_nil,or_false] at hi;subst hi;refine xaL (o:=⟨some 34,.call ⟨.value (.func 26),#[.tmp 31,.tmp 33],#[23,27]⟩,3,_,_,none⟩) rfl (fun K' hK=>?_)
  refine xa0 rfl 26 (.func 26) #[.tmp 31,.tmp 33] _ rfl #[] rfl #[.slice ah X.heap.length ch,VV s] (by simp[Act.eval,Act.put]) (vf23 _ _) ?_
  refine (show Calls Tryz.prog 26 #[.slice ah X.heap.length ch,VV s] w1.drew _ from (xgo X.heap _ s w1.drew (hH.later xaz (xae hB1 (Below.refl _ w1).drew))).mono ?_)
  rintro e w2 ⟨rfl,hb2⟩;refine⟨_,rfl,?_⟩;have hb12:Below w1.heap.size w1 w2:=xae (Below.refl _ w1).drew hb2;refine hK _ _ (fun _=>?_) ?_
  ·exact hSl _ hb12
  clear hK K'
  try simp only[Act.put,qzF,qzG,qzH]
  refine xab (rs:=[8]) (by kernel_rfl) (by simp) ?_
  intro i hi;simp only[List.mem_cons,List.not_mem_nil,or_false] at hi;subst hi;refine xaL (o:=⟨some 37,.call ⟨.value (.func 25),#[.tmp 29,.tmp 34,.tmp 36],#[25,3,9]⟩,93,_,_,none⟩) rfl (fun K' hK=>?_)
  refine xa0 rfl 25 (.func 25) #[.tmp 29,.tmp 34,.tmp 36] _ rfl #[] rfl #[WV (.slice ac X.cz.length cc) (.slice ah X.heap.length ch) X.ez,.int .i64 (xav X.heap s),.string name] (by simp[Act.eval,Act.put]) (vf22 _ _) ?_
  refine (show Calls Tryz.prog 25 #[WV (.slice ac X.cz.length cc) (.slice ah X.heap.length ch) X.ez,.int .i64 (xav X.heap s),.string name] w2 _ from (xhS X (xav X.heap s) name _ _ w2 (hC.later xau (xae hB1 hb12)) (hH.later xaz (xae hB1 hb12))).mono ?_)
  rintro e w3 ⟨rfl,hb3⟩;refine⟨_,rfl,?_⟩;have hb13:Below w1.heap.size w1 w3:=xae hb12 hb3;obtain⟨fc,fj,hf⟩:∃ fc fj,xaF X.cz (xav X.heap s) name=(fc,fj):=⟨_,_,rfl⟩;rw[hf];refine hK _ _ (fun _=>?_) ?_
  ·exact hSl _ hb13
  clear hK K'
  try simp only[Act.put,qzF,qzG,qzH]
  refine tk 9 (⟨some 28,.move (.tmp 37),93,_,_,none⟩) (.tuple #[.int .i64 fc,.int .i64 fj]) rfl (hSl _ hb13) (fun _ _ _ h=>h) rfl (by kernel_rfl) ?_ ?_
  ·rintro w⟨q0,q1,q2,q3,q4,q5⟩;go_simp
  try simp only[Act.put,qzF,qzG,qzH]
  refine tk 10 (⟨some 38,.extract (.tmp 28) 0,3,_,_,none⟩) (.int .i64 fc) rfl (hSl _ hb13) (fun _ _ _ h=>h) rfl (by kernel_rfl) ?_ ?_
  ·rintro w⟨q0,q1,q2,q3,q4,q5⟩;go_simp
  try simp only[Act.put,qzF,qzG,qzH]
  refine tk 11 (⟨some 39,.extract (.tmp 28) 1,3,_,_,none⟩) (.int .i64 fj) rfl (hSl _ hb13) (fun _ _ _ h=>h) rfl (by kernel_rfl) ?_ ?_
  ·rintro w⟨q0,q1,q2,q3,q4,q5⟩;go_simp
  try simp only[Act.put,qzF,qzG,qzH]
  refine tk 12 (⟨some 11,.assign (.tmp 38),3,_,_,none⟩) (.int .i64 fc) rfl (hSl _ hb13) (fun _ _ _ h=>h) rfl (by kernel_rfl) ?_ ?_
  ·rintro w⟨q0,q1,q2,q3,q4,q5⟩;go_simp
  try simp only[Act.put,qzF,qzG,qzH]
  refine tk 13 (⟨some 12,.assign (.tmp 39),3,_,_,none⟩) (.int .i64 fj) rfl (hSl _ hb13) (fun _ _ _ h=>h) rfl (by kernel_rfl) ?_ ?_
  ·rintro w⟨q0,q1,q2,q3,q4,q5⟩;go_simp
  try simp only[Act.put,qzF,qzG,qzH]
  refine xaw (by kernel_rfl) ?_ _
  try simp only[Act.put,qzF,qzG,qzH]
  replace hR1:=hR1.later hb13;replace hM1:=hM1.later hb13;replace hB1:=xae hB1 hb13;have HRu:Hid (xce X s name args fuel=xa7 (Rp.E ⟨X,fuel,.slice ac X.cz.length cc⟩) 20 ⟨X.heap,0,0,[]⟩ fc fj s args):=by show _=_;unfold xce;rw[hf]
  have hfm:0<=fj->∃ mt,xaJ X.cz fc fj=some mt:=fun h=>by have:=xhd (xs:=X.cz) (k:=xav X.heap s) (name:=name) (by rw[hf];exact h);rw[hf] at this;exact this
  have HFn:Hid (¬ 0<=fj->xce X s name args fuel=(⟨X.heap,0,0,[]⟩,xaY,10)):=fun h=>by
   unfold xce;have h2:¬ 0<=(xaF (Rp.X ⟨X,fuel,.slice ac X.cz.length cc⟩).cz (xav X.heap s) (QI.mk 0 0 0 0 name).name).2:=by show ¬ 0<=(xaF X.cz (xav X.heap s) name).2;rw[hf];exact h
   exact xiX (p:=⟨X,fuel,.slice ac X.cz.length cc⟩) (x:=QI.mk 0 0 0 0 name) (d:=20) h2
  have HA:=hid (hA.later xaS hB1);clear hb12 hb13 hb2 hb3 hSl hS0 hf
  by_cases hj:0<=fj
  ·obtain⟨mt,hmt⟩:=hfm hj;have hj':¬ (fj<0):=by omega
   have HMt:=hid hmt;clear hfm HFn hmt hj;obtain⟨r,hr⟩:∃ r,xce X s name args fuel=r:=⟨_,rfl⟩;rw[hr] at HPl HSt HRu;have hAF:xaG (Fx (xlW w.heap.size) w3) w3 (.slice aa args.length ca) args:=((xei hA).later xaS hB1).mono xaS fun b hb=>⟨by have:=hB1.size;omega,xgy hb⟩
   obtain⟨n0,n1,n2,m0,m1,m2,m3⟩:=And.intro hR1.w0 (And.intro hR1.w1 (And.intro hR1.w2 (And.intro hR1.c0 (And.intro hR1.c1 (And.intro hR1.c2 hR1.c3)))));go_wp2_with fail;refine (show Calls Tryz.prog 27 #[.pointer (some ⟨w.heap.size+4,0,none⟩),.int .i64 fc,.int .i64 fj,VV s,.slice aa args.length ca] w3 _ from (xiZ HX.out.1 20 (qzC _) 5 (xlW w.heap.size) w3 (w.heap.size+4) ⟨X.heap,0,0,[]⟩ _ _ _ fc fj s args _ mt (qzC _) hM1 HMi.out (by unfold xns;simp) HX.out.2.1 HX.out.2.2 hAF HMt.out).mono ?_)
   rw[← HRu.out];rintro e w5 ⟨rfl,⟨T5,hv5,sv5,ov5,hE5,hM5⟩,hK5⟩;dsimp only;have hR5:=hR1.kp hK5 (fun i hi=>by rw[t0 i hi];unfold All;omega)
   have hB5:Below w.heap.size w w5:=hB1.trans (hK5.below (fun b hb=>by rw[xgy hb];unfold All;omega) hB1.size)
   have hz:=hR1.sz;have t52:T5 (w.heap.size+2)=4:=by rw[hE5 _ (by omega)];exact t0 2 (by omega)
   have t53:T5 (w.heap.size+3)=4:=by rw[hE5 _ (by omega)];exact t0 3 (by omega)
   have hCw:=(xbO hC).later xau (xae hB5 (xaj w5 (.cells #[.int .i64 r.2.1.k,.int .i64 r.2.1.n] 27)));have hHw:=(xcQ hH).later xaz (xae hB5 (xaj w5 (.cells #[.int .i64 r.2.1.k,.int .i64 r.2.1.n] 27)));have y0:(w5.alloc (.cells #[.int .i64 r.2.1.k,.int .i64 r.2.1.n] 27)).cell? ⟨w5.heap.size,0,none⟩=some (.int .i64 r.2.1.k):=xaa _ _ _ _ rfl 0;have y1:(w5.alloc (.cells #[.int .i64 r.2.1.k,.int .i64 r.2.1.n] 27)).cell? ⟨w5.heap.size,1,none⟩=some (.int .i64 r.2.1.n):=xaa _ _ _ _ rfl 1;replace hR5:=hR5.later (xaj w5 (.cells #[.int .i64 r.2.1.k,.int .i64 r.2.1.n] 27));replace hM5:=hM5.later (xaj w5 (.cells #[.int .i64 r.2.1.k,.int .i64 r.2.1.n] 27))
   replace hB5:=xae hB5 (xaj w5 (.cells #[.int .i64 r.2.1.k,.int .i64 r.2.1.n] 27));have hvl:w.heap.size+4<w5.heap.size:=qzE (xai hM1.box) hK5.size;clear n0 n1 n2 m0 m1 m2 m3 hK5 hE5 hR1 hM1 hAF
   go_upto_region 9 with (fail)
   generalize (w5.alloc (.cells #[.int .i64 r.2.1.k,.int .i64 r.2.1.n] 27))=V at *;generalize w5.heap.size=vb at *;have c7:=hM5.c7;obtain⟨a5,c5,rfl,-⟩:=id hM5.heap
   by_cases h0:r.2.2=0
   ·rw[if_neg (by omega)] at HPl
    have HQ:=hid fun u0 u1 u2 v0 v1 v2 v3=>RuPost.fin (P:=Fx T5 V) (r:=⟨r.1.heap,r.2.1,0,r.1.sz_⟩) hB5 hM5.cls hM5.heap (fun h=>by have:=h.2;omega) (fun h=>by have:=h.2;omega) hM5 HSt.out.symm t52 t53 u0 u1 u2 v0 v1 v2 v3
    rw[h0] at c7;obtain⟨-,-,-,-,-,-,-,a0,a1,a2,af,b0,b1,b2,b3,bf,-⟩:=id hR5
    have hSl:∀ w',Below V.heap.size V w'->w'.cell? ⟨w.heap.size+4,0,none⟩=some (.slice ac X.cz.length cc)/\w'.cell? ⟨w.heap.size+4,1,none⟩=some (.slice a5 r.1.heap.length c5)/\w'.cell? ⟨w.heap.size+4,2,none⟩=some (.int .i64 X.ez)/\w'.cell? ⟨vb,0,none⟩=some (.int .i64 r.2.1.k)/\w'.cell? ⟨vb,1,none⟩=some (.int .i64 r.2.1.n)/\w'.cell? ⟨w.heap.size+4,4,none⟩=some (.int .i64 r.1.sz_):=fun w' hb=>by
     have h:=hM5.later hb
     exact⟨h.c0,h.c1,h.c2,qzA hb y0,qzA hb y1,h.c4⟩
    have hS0:=hSl _ (Below.refl _ V).drew;clear h0
    go_upto_region 11 with (fail)
    refine xat (S:=fun _=>True) [] (by kernel_rfl) ?_
    refine tk 10 (⟨some 79,.move (.tmp 9),42,_,_,none⟩) (.pointer (some ⟨w.heap.size+4,0,none⟩)) rfl (trivial) (fun _ _ _ h=>h) rfl (by kernel_rfl) ?_ ?_
    ·intro w hSw;obtain _h:=hSw;go_simp
    try simp only[Act.put,qzF,qzG,qzH]
    refine xcX (S:=fun w'=>w'.cell? ⟨w.heap.size+4,0,none⟩=some (.slice ac X.cz.length cc)/\w'.cell? ⟨w.heap.size+4,1,none⟩=some (.slice a5 r.1.heap.length c5)/\w'.cell? ⟨w.heap.size+4,2,none⟩=some (.int .i64 X.ez)/\w'.cell? ⟨vb,0,none⟩=some (.int .i64 r.2.1.k)/\w'.cell? ⟨vb,1,none⟩=some (.int .i64 r.2.1.n)/\w'.cell? ⟨w.heap.size+4,4,none⟩=some (.int .i64 r.1.sz_)) (late:=[12,13]) _ _ _ _ ?_
    refine tk 0 (⟨some 69,.move (.tmp 9),42,_,_,none⟩) (.pointer (some ⟨w.heap.size+4,0,none⟩)) rfl (hS0) (fun _ _ _ h=>h) rfl (by kernel_rfl) ?_ ?_
    ·rintro w⟨q0,q1,q2,q3,q4,q5⟩;go_simp
    try simp only[Act.put,qzF,qzG,qzH]
    refine tk 1 (⟨some 70,.nilCheck (.tmp 69),0,_,_,none⟩) (.pointer (some ⟨w.heap.size+4,0,none⟩)) rfl (hS0) (fun _ _ _ h=>h) rfl (by kernel_rfl) ?_ ?_
    ·rintro w⟨q0,q1,q2,q3,q4,q5⟩;go_simp
    try simp only[Act.put,qzF,qzG,qzH]
    refine tk 2 (⟨some 71,.fieldAddr 91 (.tmp 70) 0,0,_,_,none⟩) (.pointer (some ⟨w.heap.size+4,0,none⟩)) rfl (hS0) (fun _ _ _ h=>h) rfl (by kernel_rfl) ?_ ?_
    ·rintro w⟨q0,q1,q2,q3,q4,q5⟩;go_simp
    try simp only[Act.put,qzF,qzG,qzH]
    refine tk 3 (⟨some 72,.load 25 (.tmp 71),25,_,_,none⟩) (WV (.slice ac X.cz.length cc) (.slice a5 r.1.heap.length c5) X.ez) rfl (hS0) (fun _ _ _ h=>h) rfl (by kernel_rfl) ?_ ?_
    ·rintro w⟨q0,q1,q2,q3,q4,q5⟩;go_simp
    try simp only[Act.put,qzF,qzG,qzH]
    refine tk 4 (⟨some 73,.load 27 (.tmp 13),27,_,_,none⟩) (VV r.2.1) rfl (hS0) (fun _ _ _ h=>h) rfl (by kernel_rfl) ?_ ?_
    ·rintro w⟨q0,q1,q2,q3,q4,q5⟩;go_simp
    try simp only[Act.put,qzF,qzG,qzH]
    refine tk 5 (⟨some 74,.move (.tmp 9),42,_,_,none⟩) (.pointer (some ⟨w.heap.size+4,0,none⟩)) rfl (hS0) (fun _ _ _ h=>h) rfl (by kernel_rfl) ?_ ?_
    ·rintro w⟨q0,q1,q2,q3,q4,q5⟩;go_simp
    try simp only[Act.put,qzF,qzG,qzH]
    refine tk 6 (⟨some 75,.nilCheck (.tmp 74),0,_,_,none⟩) (.pointer (some ⟨w.heap.size+4,0,none⟩)) rfl (hS0) (fun _ _ _ h=>h) rfl (by kernel_rfl) ?_ ?_
    ·rintro w⟨q0,q1,q2,q3,q4,q5⟩;go_simp
    try simp only[Act.put,qzF,qzG,qzH]
    refine tk 7 (⟨some 76,.fieldAddr 91 (.tmp 75) 2,0,_,_,none⟩) (.pointer (some ⟨w.heap.size+4,4,none⟩)) rfl (hS0) (fun _ _ _ h=>h) rfl (by kernel_rfl) ?_ ?_
    ·rintro w⟨q0,q1,q2,q3,q4,q5⟩;go_simp
    try simp only[Act.put,qzF,qzG,qzH]
    refine tk 8 (⟨some 77,.load 3 (.tmp 76),3,_,_,none⟩) (.int .i64 r.1.sz_) rfl (hS0) (fun _ _ _ h=>h) rfl (by kernel_rfl) ?_ ?_
    ·rintro w⟨q0,q1,q2,q3,q4,q5⟩;go_simp
    try simp only[Act.put,qzF,qzG,qzH]
    refine tk 9 (⟨some 78,.build 37 #[(0,.tmp 73),(2,.tmp 77)],37,_,_,none⟩) (.agg #[.int .i64 r.2.1.k,.int .i64 r.2.1.n,.int .i64 0,.int .i64 r.1.sz_]) rfl (hS0) (fun _ _ _ h=>h) rfl (by kernel_rfl) ?_ ?_
    ·rintro w⟨q0,q1,q2,q3,q4,q5⟩;go_simp
    try simp only[Act.put,qzF,qzG,qzH]
    obtain⟨z0,z1,z2,z3,z4,z5⟩:=hSl _ (Below.refl _ V).drew;refine xab (rs:=[11]) (by kernel_rfl) (by simp) ?_
    intro i hi;simp only[List.mem_cons,List.not_mem_nil,or_false] at hi;subst hi;refine xaL (o:=⟨none,.store 25 (.tmp 6) (.tmp 72),0,_,_,none⟩) rfl (fun K' hK=>?_)
    go_simp;refine hK _ _ (fun _=>?_) ?_
    ·exact⟨xlb z0 (by omega),xlb z1 (by omega),xlb z2 (by omega),xlb z3 (by omega),xlb z4 (by omega),xlb z5 (by omega)⟩
    clear hK K'
    try simp only[Act.put,qzF,qzG,qzH]
    refine xab (rs:=[12]) (by kernel_rfl) (by simp) ?_
    intro i hi;simp only[List.mem_cons,List.not_mem_nil,or_false] at hi;subst hi;refine xaL (o:=⟨none,.store 37 (.tmp 7) (.tmp 78),0,_,_,none⟩) rfl (fun K' hK=>?_)
    go_simp;refine hK _ _ (fun h=>absurd h (by decide)) ?_
    clear hK K'
    try simp only[Act.put,qzF,qzG,qzH]
    refine xct (S':=fun _=>True) (late':=[]) (by kernel_rfl) ?_
    refine tk 13 (⟨some 8,.assign (.tmp 79),42,_,_,none⟩) (.pointer (some ⟨w.heap.size+4,0,none⟩)) rfl (trivial) (fun _ _ _ h=>h) rfl (by kernel_rfl) ?_ ?_
    ·intro w hSw;obtain _h:=hSw;go_simp
    try simp only[Act.put,qzF,qzG,qzH]
    refine xaw (by kernel_rfl) ?_ _
    try simp only[Act.put,qzF,qzG,qzH]
    go_wp2;rw[HPl.out];refine bodyPost_ret (v:=.tuple #[WV (.slice ac X.cz.length cc) (.slice a5 r.1.heap.length c5) X.ez,RnV ⟨r.1.heap,r.2.1,0,r.1.sz_⟩,.pointer (some ⟨w.heap.size+4,0,none⟩)]) ?_ rfl (HQ.out _ _ _ _ _ _ _).drew
    simp[results,Tryz.results10,go_sem,a0,a1,a2,b0,b1,b2,b3]
   ·rw[if_pos h0] at HPl;have HQ:=hid fun u0 u1 u2 v0 v1 v2 v3=>RuPost.fin (P:=fun b=>b<w.heap.size) (r:=⟨X.heap,xaY,r.2.2,r.1.sz_⟩) hB5 hCw hHw (by omega) (by omega) hM5 HSt.out.symm t52 t53 u0 u1 u2 v0 v1 v2 v3
    have h0':(r.2.2 == 0)=false:=by simpa using h0
    obtain⟨-,-,-,-,-,-,-,a0,a1,a2,af,b0,b1,b2,b3,bf,-⟩:=id hR5
    have hSl:∀ w',Below V.heap.size V w'->w'.cell? ⟨w.heap.size,0,none⟩=some (.slice ac X.cz.length cc)/\w'.cell? ⟨w.heap.size,1,none⟩=some (.slice ah X.heap.length ch)/\w'.cell? ⟨w.heap.size,2,none⟩=some (.int .i64 X.ez)/\w'.cell? ⟨w.heap.size+4,7,none⟩=some (.int .i64 r.2.2)/\w'.cell? ⟨w.heap.size+4,4,none⟩=some (.int .i64 r.1.sz_):=fun w' hb=>by
     have h:=hM5.later hb;have h':=hR5.later hb
     exact⟨h'.w0,h'.w1,h'.w2,h.c7,h.c4⟩
    have hS0:=hSl _ (Below.refl _ V).drew;clear h0
    go_upto_region 10 with (fail)
    refine xat (S:=fun _=>True) [] (by kernel_rfl) ?_
    refine tk 10 (⟨some 68,.move (.tmp 9),42,_,_,none⟩) (.pointer (some ⟨w.heap.size+4,0,none⟩)) rfl (trivial) (fun _ _ _ h=>h) rfl (by kernel_rfl) ?_ ?_
    ·intro w hSw;obtain _h:=hSw;go_simp
    try simp only[Act.put,qzF,qzG,qzH]
    refine xcX (S:=fun w'=>w'.cell? ⟨w.heap.size,0,none⟩=some (.slice ac X.cz.length cc)/\w'.cell? ⟨w.heap.size,1,none⟩=some (.slice ah X.heap.length ch)/\w'.cell? ⟨w.heap.size,2,none⟩=some (.int .i64 X.ez)/\w'.cell? ⟨w.heap.size+4,7,none⟩=some (.int .i64 r.2.2)/\w'.cell? ⟨w.heap.size+4,4,none⟩=some (.int .i64 r.1.sz_)) (late:=[12,13]) _ _ _ _ ?_
    refine tk 0 (⟨some 58,.load 25 (.tmp 3),25,_,_,none⟩) (WV (.slice ac X.cz.length cc) (.slice ah X.heap.length ch) X.ez) rfl (hS0) (fun _ _ _ h=>h) rfl (by kernel_rfl) ?_ ?_
    ·rintro w⟨q0,q1,q2,q3,q4⟩;go_simp
    try simp only[Act.put,qzF,qzG,qzH]
    refine tk 1 (⟨some 59,.move (.tmp 9),42,_,_,none⟩) (.pointer (some ⟨w.heap.size+4,0,none⟩)) rfl (hS0) (fun _ _ _ h=>h) rfl (by kernel_rfl) ?_ ?_
    ·rintro w⟨q0,q1,q2,q3,q4⟩;go_simp
    try simp only[Act.put,qzF,qzG,qzH]
    refine tk 2 (⟨some 60,.nilCheck (.tmp 59),0,_,_,none⟩) (.pointer (some ⟨w.heap.size+4,0,none⟩)) rfl (hS0) (fun _ _ _ h=>h) rfl (by kernel_rfl) ?_ ?_
    ·rintro w⟨q0,q1,q2,q3,q4⟩;go_simp
    try simp only[Act.put,qzF,qzG,qzH]
    refine tk 3 (⟨some 61,.fieldAddr 91 (.tmp 60) 5,0,_,_,none⟩) (.pointer (some ⟨w.heap.size+4,7,none⟩)) rfl (hS0) (fun _ _ _ h=>h) rfl (by kernel_rfl) ?_ ?_
    ·rintro w⟨q0,q1,q2,q3,q4⟩;go_simp
    try simp only[Act.put,qzF,qzG,qzH]
    refine tk 4 (⟨some 62,.load 33 (.tmp 61),33,_,_,none⟩) (.int .i64 r.2.2) rfl (hS0) (fun _ _ _ h=>h) rfl (by kernel_rfl) ?_ ?_
    ·rintro w⟨q0,q1,q2,q3,q4⟩;go_simp
    try simp only[Act.put,qzF,qzG,qzH]
    refine tk 5 (⟨some 63,.move (.tmp 9),42,_,_,none⟩) (.pointer (some ⟨w.heap.size+4,0,none⟩)) rfl (hS0) (fun _ _ _ h=>h) rfl (by kernel_rfl) ?_ ?_
    ·rintro w⟨q0,q1,q2,q3,q4⟩;go_simp
    try simp only[Act.put,qzF,qzG,qzH]
    refine tk 6 (⟨some 64,.nilCheck (.tmp 63),0,_,_,none⟩) (.pointer (some ⟨w.heap.size+4,0,none⟩)) rfl (hS0) (fun _ _ _ h=>h) rfl (by kernel_rfl) ?_ ?_
    ·rintro w⟨q0,q1,q2,q3,q4⟩;go_simp
    try simp only[Act.put,qzF,qzG,qzH]
    refine tk 7 (⟨some 65,.fieldAddr 91 (.tmp 64) 2,0,_,_,none⟩) (.pointer (some ⟨w.heap.size+4,4,none⟩)) rfl (hS0) (fun _ _ _ h=>h) rfl (by kernel_rfl) ?_ ?_
    ·rintro w⟨q0,q1,q2,q3,q4⟩;go_simp
    try simp only[Act.put,qzF,qzG,qzH]
    refine tk 8 (⟨some 66,.load 3 (.tmp 65),3,_,_,none⟩) (.int .i64 r.1.sz_) rfl (hS0) (fun _ _ _ h=>h) rfl (by kernel_rfl) ?_ ?_
    ·rintro w⟨q0,q1,q2,q3,q4⟩;go_simp
    try simp only[Act.put,qzF,qzG,qzH]
    refine tk 9 (⟨some 67,.build 37 #[(1,.tmp 62),(2,.tmp 66)],37,_,_,none⟩) (.agg #[.int .i64 0,.int .i64 0,.int .i64 r.2.2,.int .i64 r.1.sz_]) rfl (hS0) (fun _ _ _ h=>h) rfl (by kernel_rfl) ?_ ?_
    ·rintro w⟨q0,q1,q2,q3,q4⟩;go_simp
    try simp only[Act.put,qzF,qzG,qzH]
    obtain⟨z0,z1,z2,z3,z4⟩:=hSl _ (Below.refl _ V).drew;refine xab (rs:=[11]) (by kernel_rfl) (by simp) ?_
    intro i hi;simp only[List.mem_cons,List.not_mem_nil,or_false] at hi;subst hi;refine xaL (o:=⟨none,.store 25 (.tmp 6) (.tmp 58),0,_,_,none⟩) rfl (fun K' hK=>?_)
    go_simp;refine hK _ _ (fun _=>?_) ?_
    ·exact⟨xlb z0 (by omega),xlb z1 (by omega),xlb z2 (by omega),xlb z3 (by omega),xlb z4 (by omega)⟩
    clear hK K'
    try simp only[Act.put,qzF,qzG,qzH]
    refine xab (rs:=[12]) (by kernel_rfl) (by simp) ?_
    intro i hi;simp only[List.mem_cons,List.not_mem_nil,or_false] at hi;subst hi;refine xaL (o:=⟨none,.store 37 (.tmp 7) (.tmp 67),0,_,_,none⟩) rfl (fun K' hK=>?_)
    go_simp;refine hK _ _ (fun h=>absurd h (by decide)) ?_
    clear hK K'
    try simp only[Act.put,qzF,qzG,qzH]
    refine xct (S':=fun _=>True) (late':=[]) (by kernel_rfl) ?_
    refine tk 13 (⟨some 8,.assign (.tmp 68),42,_,_,none⟩) (.pointer (some ⟨w.heap.size+4,0,none⟩)) rfl (trivial) (fun _ _ _ h=>h) rfl (by kernel_rfl) ?_ ?_
    ·intro w hSw;obtain _h:=hSw;go_simp
    try simp only[Act.put,qzF,qzG,qzH]
    refine xaw (by kernel_rfl) ?_ _
    try simp only[Act.put,qzF,qzG,qzH]
    go_wp2;rw[HPl.out];refine bodyPost_ret (v:=.tuple #[WV (.slice ac X.cz.length cc) (.slice ah X.heap.length ch) X.ez,RnV ⟨X.heap,xaY,r.2.2,r.1.sz_⟩,.pointer (some ⟨w.heap.size+4,0,none⟩)]) ?_ rfl (HQ.out _ _ _ _ _ _ _).drew
    simp[results,Tryz.results10,go_sem,a0,a1,a2,b0,b1,b2,b3]
  ·have hj':fj<0:=by omega
   have HRn:=hid (HFn.out hj);have HPl':Hid (xdx X s name args fuel=⟨X.heap,xaY,10,0⟩):=by show _=_;rw[HPl.out,HRn.out];simp
   have HSt':Hid (xj4 X s name args fuel=[]):=by show _=_;rw[HSt.out,HRn.out]
   have HQ:=hid fun u0 u1 u2 v0 v1 v2 v3=>RuPost.fin (P:=fun b=>b<w.heap.size) (r:=⟨X.heap,xaY,10,0⟩) hB1 ((xbO hC).later xau hB1) ((xcQ hH).later xaz hB1) (by omega) (by omega) hM1 rfl (t0 2 (by omega)) (t0 3 (by omega)) u0 u1 u2 v0 v1 v2 v3
   obtain⟨n0,n1,n2,-,-,-,-,a0,a1,a2,af,b0,b1,b2,b3,bf,-⟩:=id hR1;clear hfm HFn HPl HSt hj;go_wp2;rw[HPl'.out,HSt'.out];refine bodyPost_ret (v:=.tuple #[WV (.slice ac X.cz.length cc) (.slice ah X.heap.length ch) X.ez,RnV ⟨X.heap,xaY,10,0⟩,.pointer (some ⟨w.heap.size+4,0,none⟩)]) ?_ rfl (HQ.out _ _ _ _ _ _ _)
   simp[results,Tryz.results10,go_sem,a0,a1,a2,b0,b1,b2,b3]
 ·have hw':(xap X s name args fuel == 0)=false:=by simpa using hw
  have hw2:(xap X s name args fuel != 0)=true:=by simpa using hw
  have HPl:Hid (xdx X s name args fuel=⟨X.heap,xaY,xap X s name args fuel,0⟩):=by show _=_;unfold xdx;rw[if_pos hw]
  have HSt:Hid (xj4 X s name args fuel=[]):=by show _=_;unfold xj4;rw[if_pos hw]
  generalize xap X s name args fuel=we at *;have HQ:=hid fun u0 u1 u2 v0 v1 v2 v3=>RuPost.fin (P:=fun b=>b<w.heap.size) (r:=⟨X.heap,xaY,we,0⟩) hB1 ((xbO hC).later xau hB1) ((xcQ hH).later xaz hB1) (by omega) (by omega) hM1 rfl (t0 2 (by omega)) (t0 3 (by omega)) u0 u1 u2 v0 v1 v2 v3
  obtain⟨n0,n1,n2,-,-,-,-,a0,a1,a2,af,b0,b1,b2,b3,bf,-⟩:=id hR1;clear hw;go_wp2;rw[HPl.out,HSt.out];refine bodyPost_ret (v:=.tuple #[WV (.slice ac X.cz.length cc) (.slice ah X.heap.length ch) X.ez,RnV ⟨X.heap,xaY,we,0⟩,.pointer (some ⟨w.heap.size+4,0,none⟩)]) ?_ rfl (HQ.out _ _ _ _ _ _ _)
  simp[results,Tryz.results10,go_sem,a0,a1,a2,b0,b1,b2,b3]
section
variable {H:Type} {enc:TypeId × Value->H} {w:World} {base:Nat} {spare:Nat->Bool} {held:Bool}
theorem xnE:Tryz.prog.cellsOf 30=4:=by kernel_rfl
theorem xly {r:Reach}{b0:Nat}{v:Value}{d:DataW H}{p:List MemPlace}(hv:Value.okWide Tryz.prog w r b0 30 v)(h:DataW.Trod enc Tryz.prog w base spare held 30 v d p)(hw:∀ n∈d.weights Tryz.prog 30,n<=140737488351232):∃ (s:QV) (name:ByteArray) (av:Value) (args:List QV),v=ClV s name av/\name.size<=140737488351232/\xaG Tru w av args:=by
 obtain⟨cs,rfl,hsz⟩:=okWide_struct Tryz.underlying30 hv;obtain⟨c0,c1,c2,c3,rfl⟩:=Joins.array4 (hsz.trans xnE);obtain⟨fuel,hf0⟩:=h;obtain⟨xs,k,hk,hxy,_,hxl,hf⟩:=DataW.trod_struct Tryz.underlying30 hf0
 match xs,hxl with
 | [y0,y1,y2],_=>
  have g0:=hf 0 _ rfl;have g1:=hf 1 _ rfl;have g2:=hf 2 _ rfl
  simp[Value.cells,xkh,xhw,xk8] at g0 g1 g2
  simp only[Prod.mk.injEq] at hxy;obtain⟨rfl,-⟩:=hxy;obtain⟨y,hy⟩:=xiY rfl g0;obtain⟨z0,z1⟩:=hy
  simp at z0 z1
  subst z0 z1;obtain⟨s,e1,e2,-⟩:=DataW.trod_string Tryz.underlying9 g1
  simp at e1
  subst e1;obtain⟨l,hl⟩:=xhx g2 (fun q hq=>hw q (xbr (j:=2) (xs:=[y0,y1,y2]) Tryz.underlying30 rfl rfl q hq))
  have hs:s.size<=140737488351232:=by
   have:=hw s.data.toList.length (xbr (j:=1) (xs:=[y0,y1,y2]) Tryz.underlying30 rfl rfl _ (by rw[e2];simp[DataW.weights]))
   simpa using this
  exact⟨y,s,_,l,rfl,hs,hl⟩
end
theorem bx4 {w:World}{z:Nat}{a b c d:Value}{t:TypeId}(h:w.heap[z]?=some (.cells #[a,b,c,d] t (0,0))):w.cell? ⟨z,0,none⟩=some a/\w.cell? ⟨z,1,none⟩=some b/\w.cell? ⟨z,2,none⟩=some c/\w.cell? ⟨z,3,none⟩=some d:=
 ⟨by rw[qzB h];rfl,by rw[qzB h];rfl,by rw[qzB h];rfl,by rw[qzB h];rfl⟩
structure TwoR (X:QW)(w:World)(B D:Nat)(s:QV)(name:ByteArray)(cv hv av:Value)(w':World):Prop where
 bel:Below w.heap.size w w'
 bw:w'.heap[B]?=some (.cells #[cv,hv,.int .i64 X.ez] 25 (0,0))
 bc:w'.heap[D]?=some (.cells #[.int .i64 s.k,.int .i64 s.n,.string name,av] 30 (0,0))
theorem TwoR.later {X:QW}{w:World}{B D:Nat}{s:QV}{name:ByteArray}{cv hv av:Value}{w' w'':World}(h:TwoR X w B D s name cv hv av w')(hb:Below w'.heap.size w' w''):TwoR X w B D s name cv hv av w'':=⟨xae h.bel hb,xad h.bw hb,xad h.bc hb⟩
theorem TwoR.al {X:QW}{w:World}{B D:Nat}{s:QV}{name:ByteArray}{cv hv av:Value}{w':World}(h:TwoR X w B D s name cv hv av w'):(w'.cell? ⟨B,0,none⟩=some cv/\w'.cell? ⟨B,1,none⟩=some hv/\w'.cell? ⟨B,2,none⟩=some (.int .i64 X.ez))/\w'.cell? ⟨D,0,none⟩=some (.int .i64 s.k)/\w'.cell? ⟨D,1,none⟩=some (.int .i64 s.n)/\w'.cell? ⟨D,2,none⟩=some (.string name)/\w'.cell? ⟨D,3,none⟩=some av:=⟨(xj3 h.bw).1,bx4 h.bc⟩
structure TwoB (b:Nat)(v0 v1 v2 u0 u1 u2 u3:Value)(w:World):Prop where
 bw:w.heap[b]?=some (.cells #[v0,v1,v2] 25 (0,0))
 bc:w.heap[b+1]?=some (.cells #[u0,u1,u2,u3] 37 (0,0))
theorem TwoB.later {b:Nat}{v0 v1 v2 u0 u1 u2 u3:Value}{w w':World}(h:TwoB b v0 v1 v2 u0 u1 u2 u3 w)(hb:Below w.heap.size w w'):TwoB b v0 v1 v2 u0 u1 u2 u3 w':=⟨xad h.bw hb,xad h.bc hb⟩
theorem TwoB.al {b:Nat}{v0 v1 v2 u0 u1 u2 u3:Value}{w:World}(h:TwoB b v0 v1 v2 u0 u1 u2 u3 w):(w.cell? ⟨b,0,none⟩=some v0/\w.cell? ⟨b,1,none⟩=some v1/\w.cell? ⟨b,2,none⟩=some v2)/\w.cell? ⟨b+1,0,none⟩=some u0/\w.cell? ⟨b+1,1,none⟩=some u1/\w.cell? ⟨b+1,2,none⟩=some u2/\w.cell? ⟨b+1,3,none⟩=some u3:=⟨(xj3 h.bw).1,bx4 h.bc⟩
theorem xlT (w:World)(v0 v1 v2 u0 u1 u2 u3:Value):TwoB w.heap.size v0 v1 v2 u0 u1 u2 u3 ((w.alloc (.cells #[v0,v1,v2] 25)).alloc (.cells #[u0,u1,u2,u3] 37)):=by
 refine⟨xad (heap_alloc_new w _) (xaj _ _),?_⟩;have:=heap_alloc_new (w.alloc (.cells #[v0,v1,v2] 25)) (.cells #[u0,u1,u2,u3] 37)
 simpa using this
theorem xit {P Q R:Nat->Prop}(X:QW)(s:QV)(name:ByteArray)(args:List QV)(fuel:Int)(l:List Fst)(cv hv av fv:Value)(w:World)(hC:xaf P w cv X.cz)(hH:xaA P w hv X.heap)(hA:xaG Q w av args)(hn:name.size<=140737488351232)(hF:xcG R w fv l) :
  Calls Tryz.prog 4 #[WV cv hv X.ez,ClV s name av,.int .i64 fuel,fv] w fun e w'=>e=.returned (.bool true)/\Below w.heap.size w w':=by
 obtain⟨ac,cc,rfl,-⟩:=id hC;obtain⟨ah,ch,rfl,-⟩:=id hH;obtain⟨aa,ca,rfl,-⟩:=id hA;obtain⟨af,cf,rfl,hl1,hcap,hby,hrow⟩:=id hF
 have hR:TwoR X w w.heap.size (w.heap.size+1) s name (.slice ac X.cz.length cc) (.slice ah X.heap.length ch) (.slice aa args.length ca) ((w.alloc (.cells #[.slice ac X.cz.length cc,.slice ah X.heap.length ch,.int .i64 X.ez] 25)).alloc (.cells #[.int .i64 s.k,.int .i64 s.n,.string name,.slice aa args.length ca] 30)):=by
  refine⟨xbA _ _ _,xad (heap_alloc_new w _) (xaj _ _),?_⟩;have:=heap_alloc_new (w.alloc (.cells #[.slice ac X.cz.length cc,.slice ah X.heap.length ch,.int .i64 X.ez] 25)) (.cells #[.int .i64 s.k,.int .i64 s.n,.string name,.slice aa args.length ca] 30)
  simpa using this
 go_enter Tryz.func4,Tryz.ntmps4;go_wp2_with fail;generalize ((w.alloc (.cells #[.slice ac X.cz.length cc,.slice ah X.heap.length ch,.int .i64 X.ez] 25)).alloc (.cells #[.int .i64 s.k,.int .i64 s.n,.string name,.slice aa args.length ca] 30))=W0 at *;refine (xih _).mono ?_;rintro e w1 ⟨rfl,hb1⟩;replace hR:=hR.later hb1;clear hb1;obtain⟨⟨s0,s1,s2⟩,p0,p1,p2,p3⟩:=hR.al;go_wp2_with fail;refine (xjP X _ _ _ (hC.later xau hR.bel) (hH.later xaz hR.bel)).mono ?_;rintro e w2 ⟨rfl,hb2⟩;replace hR:=hR.later hb2;clear hb2 s0 s1 s2 p0 p1 p2 p3;obtain⟨⟨s0,s1,s2⟩,p0,p1,p2,p3⟩:=hR.al
 by_cases hX:xaW X=0
 ·rw[hX];have HR:=hid hR;have HX:=hid hX;go_wp2
  go_loopg [23] l.length (fun g i wr=>∃ j:Nat,j+g=l.length/\i=.int .i64 j/\Below w2.heap.size w2 wr/\∀ i f,i<j->l[i]?=some f->f.ez≠X.ez)
  case atStart=>exact⟨0,by omega,rfl,Below.refl _ _,fun i f hi=>by omega⟩
  case round=>
   obtain⟨j,hj,rfl,hbel,hno⟩:=hrel;have HN:Hid (∀ i f,i<j->l[i]?=some f->f.ez≠X.ez):=hno;have hR2:=HR.out.later hbel;clear hno hR hX s0 s1 s2 p0 p1 p2 p3;obtain⟨⟨s0,s1,s2⟩,p0,p1,p2,p3⟩:=hR2.al
   by_cases hlt:j<l.length
   ·obtain⟨b,o,rfl,-,hv0,hv1,hv2,hv3,v4,hv4,hv5⟩:=hrow j l[j] (by simp[hlt])
    have hxj:Hid (l[j]?=some l[j]):=by show _=_;simp[hlt]
    generalize l[j]=x at *;simp only[Nat.add_zero] at hv0;have hbw:=hR2.bel;have u0:=qzA hbw hv0;have u1:=qzA hbw hv1;have u2:=qzA hbw hv2;have u3:=qzA hbw hv3;have u4:=qzA hbw hv4;obtain⟨k1,k2,rfl,-⟩:=id hv5;clear hv0 hv1 hv2 hv3 hv4 hrow;have hj1:(j:Int)<(l.length:Int):=by omega
    have hj0:(0:Int)<=(j:Int):=by omega
    have s3:=(hR2.later (xaj wr (.cells #[.int .i64 x.cls,.string x.name,.int .i64 x.ez,.int .i64 x.temps,.slice k1 x.code.length k2] 49))).al.1.2.2
    by_cases hep:x.ez=X.ez
    ·have hbF:=xae hbw (xaj wr (.cells #[.int .i64 x.cls,.string x.name,.int .i64 x.ez,.int .i64 x.temps,.slice k1 x.code.length k2] 49));have hbq:(x.ez == X.ez)=true:=by simpa using hep
     clear hep;go_wp2;refine bodyPost_ret (v:=.bool true) ?_ rfl ⟨rfl,hbF⟩
     simp[results,Tryz.results4,go_sem]
    ·have hbF:=xae hbel (xaj wr (.cells #[.int .i64 x.cls,.string x.name,.int .i64 x.ez,.int .i64 x.temps,.slice k1 x.code.length k2] 49));have hbq:(x.ez == X.ez)=false:=by simpa using hep
     go_wp2
     go_roundg (gk-1)
     case measure=>omega
     case rel=>
      refine⟨j+1,by omega,by go_num,hbF,fun i f hi hf=>?_⟩
      by_cases hij:i=j
      ·subst hij;rw[hxj.out] at hf;cases hf;exact hep
      ·exact HN.out i f (by omega) hf
   ·obtain rfl:j=l.length:=by omega
    have hold:∀ f∈l,f.ez≠X.ez:=fun f hf=>by
     obtain⟨i,hi⟩:=List.getElem?_of_mem hf
     exact HN.out i f (xag hi) hi
    have HO:=hid hold;clear hold;go_wp2_with fail;refine (xm1 X HX.out s name args fuel HO.out _ _ _ _ wr (hC.later xau hR2.bel) (hH.later xaz hR2.bel) (hA.later xaS hR2.bel) (hF.later xgC hR2.bel) hn).mono ?_;rintro e w3 ⟨hb3,cv3,hv3,rfl,hCA,hHA⟩;obtain⟨r,hr⟩:∃ r,xdx X s name args fuel=r:=⟨_,rfl⟩;rw[hr] at hHA ⊢;have HPR:=hid hr;obtain⟨x1,y1,rfl⟩:∃ a c,cv3=.slice a X.cz.length c:=hCA.get;obtain⟨x2,y2,rfl⟩:∃ a c,hv3=.slice a r.heap.length c:=hHA.get;clear hr s0 s1 s2 p0 p1 p2 p3;have hb4:=xbA w3 (.cells #[.slice x1 X.cz.length y1,.slice x2 r.heap.length y2,.int .i64 X.ez] 25) (.cells #[.int .i64 r.v.k,.int .i64 r.v.n,.int .i64 r.err,.int .i64 r.sz_] 37)
    have hB4:=xlT w3 (.slice x1 X.cz.length y1) (.slice x2 r.heap.length y2) (.int .i64 X.ez) (.int .i64 r.v.k) (.int .i64 r.v.n) (.int .i64 r.err) (.int .i64 r.sz_);have hR4:=(hR2.later hb3).later hb4;replace hCA:=hCA.later xau hb4;replace hHA:=hHA.later xaz hb4;clear hb3 hb4 hR2 hbel
    go_upto_region 12 with (fail)
    generalize ((w3.alloc (.cells #[.slice x1 X.cz.length y1,.slice x2 r.heap.length y2,.int .i64 X.ez] 25)).alloc (.cells #[.int .i64 r.v.k,.int .i64 r.v.n,.int .i64 r.err,.int .i64 r.sz_] 37))=W4 at *;generalize w3.heap.size=bA at *;obtain⟨⟨s0,s1,s2⟩,p0,p1,p2,p3⟩:=hR4.al;go_wp2_with fail;refine (xme X HX.out s name args fuel _ _ _ W4 (hC.later xau hR4.bel) (hH.later xaz hR4.bel) (hA.later xaS hR4.bel) hn).mono ?_;rintro e w5 ⟨hb5,cv5,hv5,T5,mm,deep,err,hv',sv,ov,rfl,hCB,hHB,-,-⟩;dsimp only;rw[HPR.out] at hHB ⊢;obtain⟨x3,y3,rfl⟩:∃ a c,cv5=.slice a X.cz.length c:=hCB.get;obtain⟨x4,y4,rfl⟩:∃ a c,hv5=.slice a r.heap.length c:=hHB.get
    clear s0 s1 s2 p0 p1 p2 p3;have hb6:=xbA w5 (.cells #[.slice x3 X.cz.length y3,.slice x4 r.heap.length y4,.int .i64 X.ez] 25) (.cells #[.int .i64 r.v.k,.int .i64 r.v.n,.int .i64 r.err,.int .i64 r.sz_] 37);have hB6:=xlT w5 (.slice x3 X.cz.length y3) (.slice x4 r.heap.length y4) (.int .i64 X.ez) (.int .i64 r.v.k) (.int .i64 r.v.n) (.int .i64 r.err) (.int .i64 r.sz_);have hb56:=xae hb5 hb6;replace hB4:=hB4.later hb56;replace hCA:=hCA.later xau hb56;replace hHA:=hHA.later xaz hb56;replace hCB:=hCB.later xau hb6;replace hHB:=hHB.later xaz hb6;have hbU:=xae hR4.bel hb56;clear hb5 hb6 hb56 hR4
    go_upto_region 13 with (fail)
    generalize ((w5.alloc (.cells #[.slice x3 X.cz.length y3,.slice x4 r.heap.length y4,.int .i64 X.ez] 25)).alloc (.cells #[.int .i64 r.v.k,.int .i64 r.v.n,.int .i64 r.err,.int .i64 r.sz_] 37))=U at *;generalize w5.heap.size=bB at *;obtain⟨⟨s0,s1,s2⟩,p0,p1,p2,p3⟩:=hB4.al;obtain⟨⟨t0,t1,t2⟩,z0,z1,z2,z3⟩:=hB6.al;have hqr:∀ w,(binOp .eql 37 (RnV r) (RnV r)).run Tryz.prog w=.ok (.bool true) w:=fun w=>by rw[eqlR,xjo]
    go_wp2_with fail;refine (xmM ⟨X.cz,r.heap,X.ez⟩ _ _ _ _ U hCA hHA hCB hHB).mono ?_;rintro e F ⟨rfl,hbF⟩;have hbel:=xae hbU hbF;clear s0 s1 s2 p0 p1 p2 p3 t0 t1 t2 z0 z1 z2 z3 hCA hHA hCB hHB;go_wp2;refine bodyPost_ret (v:=.bool true) ?_ rfl ⟨rfl,hbel⟩
    simp[results,Tryz.results4,go_sem]
 ·go_wp2;refine bodyPost_ret (v:=.bool true) ?_ rfl ⟨rfl,hR.bel⟩
  simp[results,Tryz.results4,go_sem]
end Go.Proofs.YtaodadfahifbpaaGreat
