/- A part. -/
import Derived.Test.YtbafokihegegiaaGreatDoorM5
namespace Go.Proofs.YtbafokihegegiaaGreatDoor
open Go.ChangeShapes Go.WideShapes Go.ChangeAt Go.RowKit
set_option linter.unusedSimpArgs false
set_option linter.unusedVariables false
set_option maxHeartbeats 8000000
set_option maxRecDepth 8000
section
variable {σ:Type}
variable {p:Mp σ} {L:(Nat->Nat)->World->σ->Nat->Prop} {LF QF:Nat} {lc qc:Array Value} {T T':Nat->Nat} {w w':World} {mb:Nat} {m m':Mc σ} {hv:Value} {g:Nat} {s:Nat->Nat} {K fb:Nat} {f:Fr} {cv av tv sv kv:Value}
theorem xo9 (c n:Int)(w:World):Calls Tryz.prog 110 #[.int .i64 c,.int .i64 n] w fun e w'=>e=.returned (.tuple #[FaV 0 ⟨#[]⟩ 0 0 (.slice none 0 0),.bool false])/\Below w.heap.size w w':=by
 go_enter Tryz.func110,Tryz.ntmps110;go_wp2;refine bodyPost_ret (v:=.tuple #[FaV 0 ⟨#[]⟩ 0 0 (.slice none 0 0),.bool false]) ?_ rfl ⟨rfl,xai _ _⟩
 simp[results,Tryz.results110,go_sem]
structure EnR (w:World)(sf:QV)(w':World):Prop where
 s0:w'.cell? ⟨w.heap.size,0,none⟩=some (.int .i64 sf.k)
 s1:w'.cell? ⟨w.heap.size,1,none⟩=some (.int .i64 sf.n)
 r0:w'.cell? ⟨w.heap.size+1,0,none⟩=some (.int .i64 0)
 r1:w'.cell? ⟨w.heap.size+1,1,none⟩=some (.int .i64 0)
 rf:∀ o,w'.frozen? ⟨w.heap.size+1,o,none⟩=false
 sz:w.heap.size+2<=w'.heap.size
theorem EnR.kp {w:World}{self:QV}{w' w'':World}{S:Nat->Prop}{T:Nat->Nat}(h:EnR w self w')(k:Kp S T w' w'')(h1:¬ S (T w.heap.size))(h2:¬ S (T (w.heap.size+1))):EnR w self w'':=
 ⟨k.cell h.s0 h1,k.cell h.s1 h1,k.cell h.r0 h2,k.cell h.r1 h2,fun o=>xc0 k (by have:=h.sz;omega) h2 (h.rf o),qzD h.sz k.size⟩
theorem xrt (w:World)(self:QV):EnR w self ((w.alloc (.cells #[.int .i64 self.k,.int .i64 self.n] 41)).alloc (.cells #[.int .i64 0,.int .i64 0] 41)):=by
 obtain⟨a0,a1,r0,r1,rf,sz⟩:=xnv w self
 exact⟨a0,a1,r0,r1,rf,sz⟩
theorem EnPost.fin {calls:Int}{T1:Nat->Nat}{U:World}{r:Mc σ × QV × Int}(hC:Cx p L LF lc QF qc)(hE:Ext T T1 w)(hM:MacAt p T1 U mb r.1 calls hv g s)(hL:L T1 U r.1.st (if r.2.2=0 then xdy p.E r.1 else 0))(hK:Kp (All K) T w U)(h4:T1 (w.heap.size+1)=4)(u0 u1:Value):EnPost p L T w mb calls K r (.returned (.tuple #[VV r.2.1,.int .i64 r.2.2])) ((U.setCell ⟨w.heap.size+1,0,none⟩ u0).setCell ⟨w.heap.size+1,1,none⟩ u1):=by
 have k:Kp (fun t=>t=4) T1 U ((U.setCell ⟨w.heap.size+1,0,none⟩ u0).setCell ⟨w.heap.size+1,1,none⟩ u1):=((Kp.refl (fun t=>t=4) _ _).set (fun _=>h4) _ _).set (fun _=>h4) _ _
 exact⟨rfl,⟨T1,hE,⟨_,_,_,hM.keep (.refl _ _) k (by omega) (by omega) (by omega)⟩,hC.keep hL (.refl _ _) k (by omega) (by omega)⟩,(hK.set (fun h=>absurd h (by omega)) _ _).set (fun h=>absurd h (by omega)) _ _⟩
def xq7 (E:Env σ):Nat->Mc σ->Fr->Mc σ × QV × Int
 | 0=>fun m _=>(m,xa4,14)
 | d+1=>fun m f=>xck (xbh E d) E d (xi6 f) m f
theorem xq9 (E:Env σ)(d:Nat):xbh E d=xbs E d (xq7 E d):=by cases d<;>rfl
theorem FrNew.later (h:FrNew T K w fb f cv av)(hb:Below w.heap.size w w'):FrNew T K w' fb f cv av:=⟨xaa h.box hb,h.tag,h.args.fx xa7 (.refl _ _) (Kp.of_below (S:=fun _=>False) hb) id,h.meth.fx xaU (.refl _ _) (Kp.of_below (S:=fun _=>False) hb) id,h.pos,h.stack⟩
theorem xnF {c k:Int}{mt:QM}{self:QV}{args:List QV}(h:FrNew T K w fb ⟨c,mt,self,args,[],[],[],0,false⟩ cv av)(E:Env σ)(fc:Int)(fn:ByteArray)(fe ft:Int)(kq:Value)(hq:∀ q,E.quick c k=some q->ft=q.2/\xaG (Fx T w) w kq q.1):Calls Tryz.prog 231 #[.pointer (some ⟨fb,0,none⟩),FaV fc fn fe ft kq,.bool (E.quick c k).isSome] w fun e w'=>e=.returned (.tuple #[])/\∃ T' tv sv kv,Ext T T' w/\FrAt T' K w' fb (xaT E c k mt self args) cv av tv sv kv/\Kp (fun t=>t=K) T w w':=by
 unfold xaT
 cases hk:E.quick c k with
 | none=>exact xkt h rfl kq fc fn fe ft
 | some q=>
  obtain⟨rfl,hc⟩:=hq q hk
  exact xl9 h kq fc fn fe q.2 q.1 hc
theorem xpb (E:Env σ)(c k:Int)(mt:QM)(self:QV)(args:List QV):(xaT E c k mt self args).cls=c/\(xaT E c k mt self args).meth=mt/\(xaT E c k mt self args).self=self/\(xaT E c k mt self args).args=args/\(xaT E c k mt self args).stack=[]:=by
 unfold xaT
 split<;>exact⟨rfl,rfl,rfl,rfl,rfl⟩
theorem xpy (hC:Cx p L LF lc QF qc){h:Int}{c k:Int}{mt:QM}(hm:xaz p.E.cz c k=some mt){self:QV}{args:List QV}(hs:xaM h self=0)(ha:VsOk h args):FOk p.E.cz h (xaT p.E c k mt self args)/\xqm (xaT p.E c k mt self args)/\xi6 (xaT p.E c k mt self args)<=1000000:=by
 obtain⟨f1,f2⟩:=hC.few c k mt hm;unfold xaT
 cases hk:p.E.quick c k with
 | none=>exact⟨⟨hs,ha,xgd _ _,(fun v hv=>by cases hv),hC.ok.meths _ _ _ hm,hC.ok.meths _ _ _ hm⟩,(fun h=>by cases h),by unfold xi6;simp only;omega⟩
 | some q=>
  obtain⟨g1,g2⟩:=f2 q hk
  exact⟨⟨hs,ha,xgd _ _,(fun v hv=>by cases hv),hC.ok.fast _ _ _ hk,hC.ok.meths _ _ _ hm⟩,fun _=>g2,by unfold xi6;simp only;omega⟩
theorem xjw (hC:Cx p L LF lc QF qc)(d:Nat)(hd:d<=20)(hIh:∀ d',d=d'+1->xfL p L d'):xfL p L d:=by
 intro K T w mb m hv g s c n self args av hK5 h hL hI hSe hAr hA;have hX:=xaQ T w 4;have hT4:∀ b,w.heap.size<=b->xbc T w 4 b=4:=fun b hb=>xba hb
 have hb1:=xbp w (.cells #[.int .i64 self.k,.int .i64 self.n] 41) (.cells #[.int .i64 0,.int .i64 0] 41);have hM0:=(h.tagged0 4).later hb1;have hA0:=(xfh hA xa7 4).fx xa7 (.refl _ w) (Kp.of_below (S:=fun _=>False) hb1) id
 have hL0:=hC.keep (hC.keep hL hX (Kp.refl (fun _=>False) _ _) id id) (.refl _ _) (Kp.of_below (S:=fun _=>False) hb1) id id
 have hR0:=xrt w self;have HKW:Hid (Kp (All K) T w ((w.alloc (.cells #[.int .i64 self.k,.int .i64 self.n] 41)).alloc (.cells #[.int .i64 0,.int .i64 0] 41))):=Kp.of_below hb1;obtain⟨aa,ca,rfl,-⟩:=id hA;have hlm:=xam h.box;clear h hA hL;generalize xbc T w 4=T1 at *;have t0:T1 w.heap.size=4:=hT4 _ (qzC _);have t1:T1 (w.heap.size+1)=4:=hT4 _ (by omega)
 go_enter Tryz.func191,Tryz.ntmps191
 go_upto_region 1 with (fail)
 generalize ((w.alloc (.cells #[.int .i64 self.k,.int .i64 self.n] 41)).alloc (.cells #[.int .i64 0,.int .i64 0] 41))=W at *;have hhas:=xpt hM0 c n;have HEN:Hid (xbh p.E d m c n self args=xbs p.E d (xq7 p.E d) m c n self args):=by show _=_;rw[xq9]
 go_wp2_with fail;refine hhas.mono ?_;rintro e w1 ⟨rfl,hbw⟩;have hM1:=hM0.later hbw;have hA1:=hA0.fx xa7 (.refl _ _) (Kp.of_below (S:=fun _=>False) hbw) id
 have hL1:=hC.keep hL0 (.refl _ _) (Kp.of_below (S:=fun _=>False) hbw) id id
 have hR1:=hR0.kp (T:=T1) (S:=fun _=>False) (Kp.of_below hbw) id id
 have HK1:=hid (HKW.out.on hbw);clear hhas hM0 hA0 hL0 hR0 hbw hb1;obtain⟨s0,s1,r0,r1,rf,sz⟩:=id hR1
 cases hma:xaz p.E.cz c n with
 | none=>
  have HE:Hid (xbh p.E d m c n self args=(m,xa4,10)):=by show _=_;rw[HEN.out];unfold xbs;rw[hma]
  clear hma HEN;have Q:=fun u0 u1=>EnPost.fin (r:=(m,xa4,10)) hC hX hM1 (by rw[if_neg (by simp)];exact hC.mono hL1 (Nat.zero_le _)) HK1.out t1 u0 u1
  have HQ:=hid Q;clear Q hM1 hL1 hA1 hR1;go_wp2;rw[HE.out];refine bodyPost_ret (v:=.tuple #[VV xa4,.int .i64 10]) ?_ rfl (HQ.out _ _)
  simp[results,Tryz.results191,go_sem,r0,r1]
 | some mt=>
  obtain⟨kc,kn,xc,rfl,rfl,hxc,hxm⟩:=xhh hma;obtain⟨ac,cc,hcv,hcl,hcc,-,hrow⟩:=hM1.cls;obtain⟨bc,oc,hac,-,e0,e1,e2,e3,mv,e4,hmv⟩:=hrow kc xc hxc;obtain⟨am,cm,rfl,hml,hcm,-,hrowm⟩:=hmv;obtain⟨bm,om,rfl,hbm,f0,f1,f2,f3,f4,cv,f5,hcode⟩:=hrowm kn mt hxm;obtain⟨ak,ck,rfl,-⟩:=id hcode;have m0:=hM1.c0;rw[hcv,hac] at m0;simp only[Nat.add_zero] at e0 f0;unfold maxLen at hcc hcm;have l1:=xad hxc;have l2:=xad hxm;have c1:(kc:Int)<(p.E.cz.length:Int):=by omega
  have c2:(kn:Int)<(xc.mz.length:Int):=by omega
  have c3:(0:Int)<=(kc:Int):=by omega
  have c4:(0:Int)<=(kn:Int):=by omega
  clear hrow hrowm hcv hac hxc hxm;have hbV:=xai w1 (.cells #[.string mt.name,.int .i64 mt.args,.int .i64 mt.temps,.int .i64 mt.prim,.slice ak mt.code.length ck] 51);have hM2:=hM1.later hbV;have hA2:=hA1.fx xa7 (.refl _ _) (Kp.of_below (S:=fun _=>False) hbV) id
  have hCo2:=hcode.fx xaU (.refl _ _) (Kp.of_below (S:=fun _=>False) hbV) id
  have hL2:=hC.keep hL1 (.refl _ _) (Kp.of_below (S:=fun _=>False) hbV) id id
  have hR2:=hR1.kp (T:=T1) (S:=fun _=>False) (Kp.of_below hbV) id id
  have b0:=xab w1 #[.string mt.name,.int .i64 mt.args,.int .i64 mt.temps,.int .i64 mt.prim,.slice ak mt.code.length ck] 51 _ rfl 0;have b1:=xab w1 #[.string mt.name,.int .i64 mt.args,.int .i64 mt.temps,.int .i64 mt.prim,.slice ak mt.code.length ck] 51 _ rfl 1;have b2:=xab w1 #[.string mt.name,.int .i64 mt.args,.int .i64 mt.temps,.int .i64 mt.prim,.slice ak mt.code.length ck] 51 _ rfl 2;have b3:=xab w1 #[.string mt.name,.int .i64 mt.args,.int .i64 mt.temps,.int .i64 mt.prim,.slice ak mt.code.length ck] 51 _ rfl 3;have b4:=xab w1 #[.string mt.name,.int .i64 mt.args,.int .i64 mt.temps,.int .i64 mt.prim,.slice ak mt.code.length ck] 51 _ rfl 4
  have HK2:=hid (HK1.out.on hbV);have tm:T1 w1.heap.size=4:=hT4 _ (by omega)
  have hMz:w1.heap.size<(w1.alloc (.cells #[.string mt.name,.int .i64 mt.args,.int .i64 mt.temps,.int .i64 mt.prim,.slice ak mt.code.length ck] 51)).heap.size:=by simp
  go_upto_region 4 with (fail)
  clear hM1 hA1 hL1 hR1 s0 s1 r0 r1 rf sz e0 e1 e2 e3 e4 f0 f1 f2 f3 f4 f5 m0 hcode hbV HK1;generalize (w1.alloc (.cells #[.string mt.name,.int .i64 mt.args,.int .i64 mt.temps,.int .i64 mt.prim,.slice ak mt.code.length ck] 51))=V at *;simp only[List.getElem?_toArray,List.getElem?_cons_zero,List.getElem?_cons_succ] at b0 b1 b2 b3 b4;generalize w1.heap.size=MBk at *;obtain⟨s0,s1,r0,r1,rf,sz⟩:=id hR2
  have HN:Hid (xbh p.E d m kc kn self args=if mt.args≠args.length then (m,xa4,8) else if mt.prim≠0 then xbl p.E m mt.prim self args else if (xar p.E d m).2≠0 then (m,xa4,(xar p.E d m).2) else xq7 p.E d (xar p.E d m).1 (xaT p.E kc kn mt self args)):=by
   show _=_
   rw[HEN.out];unfold xbs xbl;rw[hma]
  have HMA:=hid hma;clear hma HEN
  by_cases hag:mt.args=(args.length:Int)
  ·have hag':(mt.args != (args.length:Int))=false:=by simpa using hag
   rw[if_neg (by simpa using hag)] at HN
   have HAG:=hid hag;clear hag
   by_cases hpr:mt.prim=0
   ·have hpr':(mt.prim != 0)=false:=by simpa using hpr
    rw[if_neg (by simpa using hpr)] at HN
    have HPR:=hid hpr;clear hpr;have hcc:=xe6 d hM2 hI.sz_.1 (by have:=hC.fuel;omega) rfl hd
    obtain⟨m3,e3,hce⟩:∃ m3 e3,xar p.E d m=(m3,e3):=⟨_,_,rfl⟩;rw[hce] at hcc HN;go_wp2_with fail;refine hcc.mono ?_;rintro e w3 ⟨rfl,hM3,hK3⟩;have hR3:=hR2.kp hK3 (by rw[t0];omega) (by rw[t1];omega)
    have hL3:=hC.keep hL2 (.refl _ _) hK3 (by omega) (by omega)
    have hA3:=hA2.fx xa7 (.refl _ _) hK3 (by omega)
    have hCo3:=hCo2.fx xaU (.refl _ _) hK3 (by omega)
    have d0:=hK3.cell b0 (by rw[tm];omega)
    have d1:=hK3.cell b1 (by rw[tm];omega)
    have d2:=hK3.cell b2 (by rw[tm];omega)
    have d3:=hK3.cell b3 (by rw[tm];omega)
    have d4:=hK3.cell b4 (by rw[tm];omega)
    have HK3:=hid (HK2.out.trans hX (hK3.mono (S':=All K) fun t h=>Or.inl h))
    have hMz3:MBk<w3.heap.size:=qzE hMz hK3.size;clear hcc hM2 hA2 hL2 hR2 s0 s1 r0 r1 rf sz b0 b1 b2 b3 b4 hK3 hCo2;obtain⟨s0,s1,r0,r1,rf,sz⟩:=id hR3
    by_cases her:e3=0
    ·subst her;have her':((0:Int) != 0)=false:=by simp
     rw[if_neg (by simp)] at HN
     obtain⟨hd0,hm3,hfu⟩:d≠0/\m3={ m with sz_:=m.sz_+1 }/\¬ p.E.fuel<=m.sz_:=by
      unfold xar at hce
      split at hce
      ·cases hce
      ·rename_i k
       split at hce
       ·cases hce
       ·rename_i k2;exact⟨k2,(congrArg Prod.fst hce).symm,k⟩
     obtain⟨d',rfl⟩:∃ d',d=d'+1:=⟨d-1,by omega⟩
     clear hd0 hce;obtain⟨hFo,hGd,hGas⟩:=xpy hC HMA.out hSe hAr;have hStk:=(xpb p.E kc kn mt self args).2.2.2.2;have HN2:Hid (xbh p.E (d'+1) m kc kn self args=xck (xbh p.E d') p.E d' (xi6 (xaT p.E kc kn mt self args)) m3 (xaT p.E kc kn mt self args)):=HN.out;clear HN
     have hI3:MIn p.E m3:=by
      rw[hm3]
      exact⟨hI.heap,⟨by have:=hI.sz_;simp only;omega,by simp only;omega⟩,hI.tz⟩
     have hFo3:FOk p.E.cz m3.heap.length (xaT p.E kc kn mt self args):=by
      rw[hm3]
      exact hFo
     have hRm3:(xaT p.E kc kn mt self args).stack.length+muE m3 (xaT p.E kc kn mt self args)<=1000000:=by
      have:=xjS (f:=xaT p.E kc kn mt self args) hI3.tz.1;rw[hStk];simp only[List.length_nil]
      omega
     clear hFo hGas hStk
     have hL3':L T1 w3 m3.st (xdy p.E m3):=by
      rw[hm3]
      exact hC.mono hL3 (by unfold xdy;simp only;omega)
     clear hL3 hm3 hfu;have HMN:Hid (MBk<w3.heap.size):=hMz3;have q8:=hM3.c8;rw[hC.qv] at q8;have hbF:=xai w3 (FB ⟨kc,mt,self,args,[],[],[],0,false⟩ (.slice ak mt.code.length ck) (.slice aa args.length ca) (.slice none 0 0) (.slice none 0 0) (.slice none 0 0));have hX4:Ext T1 (xla T1 w3.heap.size K) w3:=xgj (qzC _);have hkF:Kp (fun _=>False) T1 w3 _:=Kp.of_below hbF
     have hM4:=hM3.keep hX4 hkF id id id;have hL4:=hC.keep hL3' hX4 hkF id id;have hR4:=hR3.kp (T:=T1) hkF id id
     have hNew:FrNew (xla T1 w3.heap.size K) K (w3.alloc (FB ⟨kc,mt,self,args,[],[],[],0,false⟩ (.slice ak mt.code.length ck) (.slice aa args.length ca) (.slice none 0 0) (.slice none 0 0) (.slice none 0 0))) w3.heap.size ⟨kc,mt,self,args,[],[],[],0,false⟩ (.slice ak mt.code.length ck) (.slice aa args.length ca):=
      ⟨heap_alloc_new w3 _,xfg _ _ _,hA3.fx xa7 hX4 hkF id,hCo3.fx xaU hX4 hkF id,hK5,rfl⟩
     have HK4:=hid (HK3.out.on hbF);have t04:xla T1 w3.heap.size K w.heap.size=4:=by rw[hX4 _ (by omega)];exact t0
     have t14:xla T1 w3.heap.size K (w.heap.size+1)=4:=by rw[hX4 _ (by omega)];exact t1
     have HE4:Hid (Ext T (xla T1 w3.heap.size K) w):=hX.trans HK3.out.size hX4;have q84:=hM4.c8;rw[hC.qv] at q84;have hcf:=hC.qcf
     go_upto_region 12 with (fail)
     generalize xla T1 w3.heap.size K=T4 at *;generalize (w3.alloc (FB ⟨kc,mt,self,args,[],[],[],0,false⟩ (.slice ak mt.code.length ck) (.slice aa args.length ca) (.slice none 0 0) (.slice none 0 0) (.slice none 0 0)))=V4 at *;clear d0 d1 d2 d3 d4 s0 s1 r0 r1 rf sz q8 hM3 hL3' hR3 hA3 hCo3 hbF hkF hX4;go_wp2_with fail;refine (hC.quick T4 V4 _ kc kn mt _ hL4 HMA.out).mono ?_;rintro e w5 ⟨⟨fc,fn,fe,ft,aq,nq,cq,rfl,hq5⟩,hb5⟩;have hk5:Kp (fun _=>False) T4 V4 w5:=Kp.of_below hb5
     have hM5:=hM4.later hb5;have hL5:=hC.keep hL4 (.refl _ _) hk5 id id;have hR5:=hR4.kp hk5 id id;have hNew5:=hNew.later hb5;have HK5:=hid (HK4.out.on hb5);clear hM4 hL4 hR4 hNew q84 hk5;go_wp2_with fail;refine (xnF hNew5 p.E fc fn fe ft _ hq5).mono ?_;rintro e w6 ⟨rfl,T6,tv,sv,kv,hX6,hF6,hK6⟩;have hM6:=hM5.keep hX6 hK6 (by omega) (by omega) (by omega)
     have hL6:=hC.keep hL5 hX6 hK6 (by omega) (by omega)
     have hR6:=hR5.kp hK6 (by rw[t04];omega) (by rw[t14];omega)
     have hsz5:=hR5.sz;have t06:T6 w.heap.size=4:=by rw[hX6 _ (by omega)];exact t04
     have t16:T6 (w.heap.size+1)=4:=by rw[hX6 _ (by omega)];exact t14
     have HE6:=hid (HE4.out.trans HK5.out.size hX6);have HK6:=hid (HK5.out.trans HE4.out (hK6.mono (S':=All K) fun t h=>by unfold All;omega))
     clear hM5 hL5 hR5 hNew5 hX6 hK6;have m5:=hM6.c5;have mf:=xaq hM6.box;have hcw:IntKind.i64.wrap (20-((d'+1:Nat):Int)+1)=20-(d':Int):=by rw[xal (by omega) (by omega)];omega
     have hcw2:IntKind.i64.wrap (20-(d':Int)-1)=20-((d'+1:Nat):Int):=by rw[xal (by omega) (by omega)];omega
     obtain⟨cA,hcA⟩:∃ cA:Int,cA=20-((d'+1:Nat):Int):=⟨_,rfl⟩;obtain⟨cB,hcB⟩:∃ cB:Int,cB=20-(d':Int):=⟨_,rfl⟩;rw[← hcA] at m5 hcw hcw2;rw[← hcB] at hcw hcw2;have HCA:=hid hcA;have HCB:=hid hcB;clear hcA hcB;have k7:Kp (fun t=>t=1) T6 w6 (w6.setCell ⟨mb,5,none⟩ (.int .i64 cB)):=(Kp.refl _ _ _).set (fun _=>hM6.tag) _ _
     have hM7:MacAt p T6 (w6.setCell ⟨mb,5,none⟩ (.int .i64 cB)) mb m3 (20-(d':Int)) hv g s:=hM6.turn (m':=m3) k7 (by rw[xoi hM6.box,HCB.out]) rfl
     have hF7:=hF6.keep (.refl _ _) k7 (by omega) (by omega) (by omega) (by omega)
     have hL7:=hC.keep hL6 (.refl _ _) k7 (by omega) (by omega)
     have hR7:=hR6.kp k7 (by rw[t06];omega) (by rw[t16];omega)
     have HK7:=hid (HK6.out.trans HE6.out (k7.mono (S':=All K) fun t h=>Or.inl h))
     have hfin:=xmM hC (by omega) (hIh d' rfl) hM7 hF7 hL7 hI3 hFo3 hGd hRm3
     generalize xck (xbh p.E d') p.E d' (xi6 (xaT p.E kc kn mt self args)) m3 (xaT p.E kc kn mt self args)=R at *;go_wp2_with fail;refine (hfin).mono ?_;rintro e w8 ⟨rfl,⟨T8,hX8,⟨hv8,g8,s8,hM8⟩,hL8⟩,hK8⟩;obtain⟨rm,v,er⟩:=R;simp only at hM8 hL8;have hR8:=hR7.kp hK8 (by rw[t06];unfold All;omega) (by rw[t16];unfold All;omega)
     have hsz7:=hR7.sz;have t18:T8 (w.heap.size+1)=4:=by rw[hX8 _ (by omega)];exact t16
     have t08:T8 w.heap.size=4:=by rw[hX8 _ (by omega)];exact t06
     have HE8:=hid (HE6.out.trans HK7.out.size hX8);have HK8:=hid (HK7.out.trans HE6.out hK8);have m58:=hM8.c5;rw[← HCB.out] at m58;have mf8:=xaq hM8.box;have hlm8:mb<w8.heap.size:=xam hM8.box;have hn8:¬ mb=w8.heap.size:=by omega
     have hn8':¬ w8.heap.size=mb:=by omega
     have HM8:=hid hM8;have HL8:=hid hL8;clear hfin hM7 hF7 hL7 hR7 hM6 hF6 hL6 hR6 k7 m5 mf hX8 hK8 hM8 hL8 hI3 hFo3 hGd hRm3 hcf;have kS:Kp (fun t=>t=1) T8 w8 (w8.setCell ⟨mb,5,none⟩ (.int .i64 cA)):=(Kp.refl _ _ _).set (fun _=>HM8.out.tag) _ _
     have hMS:MacAt p T8 (w8.setCell ⟨mb,5,none⟩ (.int .i64 cA)) mb rm (20-((d'+1:Nat):Int)) hv8 g8 s8:=HM8.out.turn (m':=rm) kS (by rw[xoi HM8.out.box,HCA.out]) rfl
     have hbU:Below (w8.setCell ⟨mb,5,none⟩ (.int .i64 cA)).heap.size (w8.setCell ⟨mb,5,none⟩ (.int .i64 cA)) ((w8.setCell ⟨mb,5,none⟩ (.int .i64 cA)).alloc (.cells #[.int .i64 v.k,.int .i64 v.n] 41)):=xai _ _;have kU:=kS.on hbU;have hMU:=hMS.later hbU;have hLU:=hC.keep HL8.out (.refl _ _) kU (by omega) (by omega)
     have hRU:=hR8.kp kU (by rw[t08];omega) (by rw[t18];omega)
     have v0:((w8.setCell ⟨mb,5,none⟩ (.int .i64 cA)).alloc (.cells #[.int .i64 v.k,.int .i64 v.n] 41)).cell? ⟨w8.heap.size,0,none⟩=some (.int .i64 v.k):=xab _ _ _ _ (by simp) 0
     have v1:((w8.setCell ⟨mb,5,none⟩ (.int .i64 cA)).alloc (.cells #[.int .i64 v.k,.int .i64 v.n] 41)).cell? ⟨w8.heap.size,1,none⟩=some (.int .i64 v.n):=xab _ _ _ _ (by simp) 1
     have HQ:=hid fun u0 u1=>EnPost.fin (r:=(rm,v,er)) hC HE8.out hMU hLU (HK8.out.trans HE8.out (kU.mono fun t h=>Or.inl h)) t18 u0 u1
     clear hMU hLU kU kS hMS hbU
     go_upto_region 16 with (fail)
     generalize ((w8.setCell ⟨mb,5,none⟩ (.int .i64 cA)).alloc (.cells #[.int .i64 v.k,.int .i64 v.n] 41))=U at *;obtain⟨s0,s1,r0,r1,rf,sz⟩:=id hRU;have hnz:¬ w.heap.size+1=w8.heap.size:=by have:=hR8.sz;omega
     have hnz':¬ w8.heap.size=w.heap.size+1:=by have:=hR8.sz;omega
     go_wp2;rw[HN2.out];refine bodyPost_ret (v:=.tuple #[VV v,.int .i64 er]) ?_ rfl (HQ.out _ _)
     simp[results,Tryz.results191,go_sem,r0,r1]
    ·have her':(e3 != 0)=true:=by simpa using her
     rw[if_pos her] at HN
     have hm3:m3=m:=by
      have:(xar p.E d m).2≠0:=by rw[hce];exact her
      unfold xar at hce this
      split at hce
      ·exact (congrArg Prod.fst hce).symm
      ·rename_i k;rw[if_neg k] at this
       split at hce
       ·exact (congrArg Prod.fst hce).symm
       ·rename_i k2;rw[if_neg k2] at this;exact absurd rfl this
     subst hm3;have HQ:=hid fun u0 u1=>EnPost.fin (r:=(m3,xa4,e3)) hC hX hM3 (by rw[if_neg her];exact hC.mono hL3 (Nat.zero_le _)) HK3.out t1 u0 u1
     clear hM3 hL3 hA3 hR3 hce;go_wp2;rw[HN.out];refine bodyPost_ret (v:=.tuple #[VV xa4,.int .i64 e3]) ?_ rfl (HQ.out _ _)
     simp[results,Tryz.results191,go_sem,r0,r1]
   ·have hpr':(mt.prim != 0)=true:=by simpa using hpr
    rw[if_pos (by simpa using hpr)] at HN
    clear hpr
    have hbd:∀ v:QV,xaM m.heap.length v=0->v.k=3->-1073741824<=v.n/\v.n<=1073741824:=fun v hv h3=>by
     unfold xaM xdp at hv;rw[h3] at hv
     simp at hv
     omega
    have hpi:=xiZ hM2 hI.sz_.1 (by have:=hC.fuel;omega) mt.prim self args _ hA2 (hbd _ hSe) (hbd _ (hAr.entry 0))
    have hsd:(xbl p.E m mt.prim self args).1.st=m.st/\((xbl p.E m mt.prim self args).2.2=0->xdy p.E (xbl p.E m mt.prim self args).1<=(p.E.fuel-m.sz_).toNat):=by
     unfold xbl
     split
     ·exact⟨rfl,fun h=>by cases h⟩
     ·exact⟨rfl,fun _=>by unfold xdy;simp only;omega⟩
    generalize xbl p.E m mt.prim self args=r at *;go_wp2_with fail;refine hpi.mono ?_;rintro e w3 ⟨rfl,⟨T3,hX3,hM3⟩,hK3⟩;have hR3:=hR2.kp hK3 (by rw[t0];omega) (by rw[t1];omega)
    have hL3:=hC.keep hL2 hX3 hK3 (by omega) (by omega)
    have t3:T3 (w.heap.size+1)=4:=by rw[hX3 _ (by omega)];exact t1
    have hle:(if r.2.2=0 then xdy p.E r.1 else 0)<=(p.E.fuel-m.sz_).toNat:=by
     by_cases h0:r.2.2=0
     ·rw[if_pos h0];exact hsd.2 h0
     ·rw[if_neg h0];exact Nat.zero_le _
    have HQ:=hid fun u0 u1=>EnPost.fin (r:=r) hC (hX.trans HK2.out.size hX3) hM3 (by rw[hsd.1];exact hC.mono hL3 hle) (HK2.out.trans hX (hK3.mono fun t h=>Or.inl h)) t3 u0 u1
    clear hpi hM2 hA2 hL2 hR2 s0 s1 r0 r1 rf sz b0 b1 b2 b3 b4 hK3 hM3 hL3;obtain⟨s0,s1,r0,r1,rf,sz⟩:=id hR3;go_wp2;rw[HN.out];refine bodyPost_ret (v:=.tuple #[VV r.2.1,.int .i64 r.2.2]) ?_ rfl (HQ.out _ _)
    simp[results,Tryz.results191,go_sem,r0,r1]
  ·have hag':(mt.args != (args.length:Int))=true:=by simpa using hag
   rw[if_pos (by simpa using hag)] at HN
   clear hag;have HQ:=hid fun u0 u1=>EnPost.fin (r:=(m,xa4,8)) hC hX hM2 (by rw[if_neg (by simp)];exact hC.mono hL2 (Nat.zero_le _)) HK2.out t1 u0 u1
   clear hM2 hA2 hL2 hR2;go_wp2;rw[HN.out];refine bodyPost_ret (v:=.tuple #[VV xa4,.int .i64 8]) ?_ rfl (HQ.out _ _)
   simp[results,Tryz.results191,go_sem,r0,r1]
theorem xji (hC:Cx p L LF lc QF qc):∀ d,d<=20->xfL p L d
 | 0,hd=>xjw hC 0 hd (fun d' h=>by omega)
 | d+1,hd=>xjw hC (d+1) hd (fun d' h=>by
   have:d'=d:=by omega
   subst this
   exact xji hC d' (by omega))
end
theorem xd6 {α:Type}{E:Lay α}{sz bytes:Nat}{P:Nat->Prop}{w:World}{v:Value}{xs:List α}(h:IsRow E sz bytes P w v xs)(hE:∀ f x,E P w f x->E (fun b=>b<w.heap.size) w f x/\∃ u,f 0=some u):IsRow E sz bytes (fun b=>b<w.heap.size) w v xs:=by
 obtain⟨ad,cap,h1,h2,h3,h4,h5⟩:=h;refine⟨ad,cap,h1,h2,h3,h4,fun i x hx=>?_⟩
 obtain⟨b,o,e1,e2,e3⟩:=h5 i x hx;obtain⟨k1,u,k2⟩:=hE _ _ e3
 exact⟨b,o,e1,World.block_lt_of_cell? w _ k2,k1⟩
theorem xh6 {P:Nat->Prop}{w:World}{v:Value}{xs:List QI}(h:xaG P w v xs):xaG (fun b=>b<w.heap.size) w v xs:=xd6 h fun f x hx=>⟨hx,_,hx.1⟩
theorem xek {P:Nat->Prop}{w:World}{v:Value}{xs:List QV}(h:xaV P w v xs):xaV (fun b=>b<w.heap.size) w v xs:=xd6 h fun f x hx=>⟨hx,_,hx.1⟩
theorem xkR {P:Nat->Prop}{w:World}{v:Value}{xs:List QM}(h:xbU P w v xs):xbU (fun b=>b<w.heap.size) w v xs:=xd6 h fun f x hx=>by
 obtain⟨h0,h1,h2,h3,h4,c,h5,h6⟩:=hx
 exact⟨⟨h0,h1,h2,h3,h4,c,h5,xh6 h6⟩,_,h0⟩
theorem xdx {P:Nat->Prop}{w:World}{v:Value}{xs:List QC}(h:xag P w v xs):xag (fun b=>b<w.heap.size) w v xs:=xd6 h fun f x hx=>by
 obtain⟨h0,h1,h2,h3,c,h5,h6⟩:=hx
 exact⟨⟨h0,h1,h2,h3,c,h5,xkR h6⟩,_,h0⟩
theorem xfO {P:Nat->Prop}{w:World}{v:Value}{xs:List QO}(h:xav P w v xs):xav (fun b=>b<w.heap.size) w v xs:=xd6 h fun f x hx=>by
 obtain⟨h0,c,h5,h6⟩:=hx
 exact⟨⟨h0,c,h5,xek h6⟩,_,h0⟩
abbrev ClV (s:QV)(name:ByteArray)(av:Value):Value:=.agg #[.int .i64 s.k,.int .i64 s.n,.string name,av]
theorem xfk {α:Type}{f:Nat->α->Int}:∀ {l:List α} {k:Nat},(∀ i y,l[i]?=some y->f (k+i) y=0)->xbB f k l=0
 | [],_,_=>rfl
 | x :: r,k,h=>by
  unfold xbB;rw[if_neg (by have:=h 0 x rfl;simpa using this)]
  exact xfk fun i y hy=>by have:=h (i+1) y (by simpa using hy);rw[show k+1+i=k+(i+1) by omega];exact this
structure WcR (w:World)(cv hv:Value)(ep:Int)(s:QV)(name:ByteArray)(av:Value)(w':World):Prop where
 bel:Below w.heap.size w w'
 w0:w'.cell? ⟨w.heap.size,0,none⟩=some cv
 w1:w'.cell? ⟨w.heap.size,1,none⟩=some hv
 w2:w'.cell? ⟨w.heap.size,2,none⟩=some (.int .i64 ep)
 c0:w'.cell? ⟨w.heap.size+1,0,none⟩=some (.int .i64 s.k)
 c1:w'.cell? ⟨w.heap.size+1,1,none⟩=some (.int .i64 s.n)
 c2:w'.cell? ⟨w.heap.size+1,2,none⟩=some (.string name)
 c3:w'.cell? ⟨w.heap.size+1,3,none⟩=some av
theorem WcR.later {w:World}{cv hv:Value}{ep:Int}{s:QV}{name:ByteArray}{av:Value}{w' w'':World}(h:WcR w cv hv ep s name av w')(hb:Below w'.heap.size w' w''):WcR w cv hv ep s name av w'':=
 ⟨xaf h.bel hb,qzA hb h.w0,qzA hb h.w1,qzA hb h.w2,qzA hb h.c0,qzA hb h.c1,qzA hb h.c2,qzA hb h.c3⟩
theorem xk2 (w:World)(cv hv:Value)(ep:Int)(s:QV)(name:ByteArray)(av:Value):WcR w cv hv ep s name av ((w.alloc (.cells #[cv,hv,.int .i64 ep] 26)).alloc (.cells #[.int .i64 s.k,.int .i64 s.n,.string name,av] 54)):=
 ⟨xbp _ _ _,qzA (xai _ _) (xab _ _ _ _ rfl 0),qzA (xai _ _) (xab _ _ _ _ rfl 1),qzA (xai _ _) (xab _ _ _ _ rfl 2),xab _ _ _ _ (by simp) 0,xab _ _ _ _ (by simp) 1,xab _ _ _ _ (by simp) 2,xab _ _ _ _ (by simp) 3⟩
theorem xnq {P Q:Nat->Prop}(X:QW)(s:QV)(name:ByteArray)(args:List QV)(fuel:Int)(cv hv av:Value)(w:World)(hcv:∃ a n c,cv=.slice a n c)(hH:xav P w hv X.heap)(hA:xaV Q w av args)(hn:name.size<=140737488351232):Calls Tryz.prog 139 #[WV cv hv X.ez,ClV s name av,.int .i64 fuel] w fun e w'=>e=.returned (.int .i64 (xaH X s name args fuel))/\Below w.heap.size w w':=by
 have hR:=xk2 w cv hv X.ez s name av;obtain⟨ah,ch,rfl,-⟩:=id hH;obtain⟨aa,ca,rfl,hal,hac,-,hrow⟩:=id hA;obtain⟨ac,nc,cc,rfl⟩:=hcv;unfold maxLen at hac;go_enter Tryz.func139,Tryz.ntmps139
 go_upto_region 1 with (fail)
 generalize ((w.alloc (.cells #[.slice ac nc cc,.slice ah X.heap.length ch,.int .i64 X.ez] 26)).alloc (.cells #[.int .i64 s.k,.int .i64 s.n,.string name,.slice aa args.length ca] 54))=W at *;obtain⟨-,w0,w1,w2,c0,c1,c2,c3⟩:=id hR;go_wp2_with fail;refine (xfo name _ hn).mono ?_;rintro e w1' ⟨rfl,hb1⟩;have hR1:=hR.later hb1;clear w0 w1 w2 c0 c1 c2 c3 hR hb1;obtain⟨-,w0,w1,w2,c0,c1,c2,c3⟩:=id hR1
 cases hnb:xdz name with
 | false=>
  have HE:Hid (xaH X s name args fuel=7):=by show _=_;unfold xaH;rw[if_pos hnb]
  go_wp2
  go_ret
  exact⟨xa6 HE.out.symm,hR1.bel⟩
 | true=>
  by_cases h4:4<args.length
  ·have HE:Hid (xaH X s name args fuel=5):=by show _=_;unfold xaH;rw[if_neg (by rw[hnb];simp),if_pos h4]
   have h4':(4:Int)<(args.length:Int):=by omega
   go_wp2
   go_ret
   exact⟨xa6 HE.out.symm,hR1.bel⟩
  have h4':¬ ((4:Int)<(args.length:Int)):=by omega
  by_cases hf:fuel<0
  ·have HE:Hid (xaH X s name args fuel=3):=by show _=_;unfold xaH;rw[if_neg (by rw[hnb];simp),if_neg h4,if_pos (Or.inl hf)]
   have hf':decide (fuel<0)=true:=by simpa using hf
   go_wp2
   go_ret
   exact⟨xa6 HE.out.symm,hR1.bel⟩
  have hf':decide (fuel<0)=false:=by simpa using hf
  by_cases hg:400<fuel
  ·have HE:Hid (xaH X s name args fuel=3):=by show _=_;unfold xaH;rw[if_neg (by rw[hnb];simp),if_neg h4,if_pos (Or.inr hg)]
   have hg':decide (400<fuel)=true:=by simpa using hg
   go_wp2
   go_ret
   exact⟨xa6 HE.out.symm,hR1.bel⟩
  have hg':decide (400<fuel)=false:=by simpa using hg
  have HE:Hid (xaH X s name args fuel=if xaM X.heap.length s≠0 then xaM X.heap.length s else xbB (fun _ v=>xaM X.heap.length v) 0 args):=by show _=_;unfold xaH;rw[if_neg (by rw[hnb];simp),if_neg h4,if_neg (by omega)]
  clear hnb hf hg;have hvw:=fun w=>xin s (X.heap.length:Int) w
  generalize xaM X.heap.length s=ws at *;go_wp2_with fail;refine (hvw _).mono ?_;rintro e w2' ⟨rfl,hb2⟩;have hR2:=hR1.later hb2;clear w0 w1 w2 c0 c1 c2 c3 hR1 hb2 hvw;obtain⟨-,w0,w1,w2,c0,c1,c2,c3⟩:=id hR2
  by_cases hws:ws=0
  ·have hws':(ws != 0)=false:=by simpa using hws
   rw[if_neg (by simpa using hws)] at HE
   clear hws;go_wp2;clear w0 w1 w2 c0 c1 c2 c3
   go_loopg [40] args.length (fun gk c wr=>∃ j:Nat,j+gk=args.length/\c=.int .i64 j/\WcR w (.slice ac nc cc) (.slice ah X.heap.length ch) X.ez s name (.slice aa args.length ca) wr/\∀ i y,i<j->args[i]?=some y->xaM X.heap.length y=0)
   case atStart=>exact⟨0,by omega,rfl,hR2,fun i y hi=>by omega⟩
   case round=>
    clear hR2;obtain⟨j,hj,rfl,hRr,hok⟩:=hrel;have HO:=hid hok;clear hok;obtain⟨-,w0,w1,w2,c0,c1,c2,c3⟩:=id hRr
    by_cases hlt:j<args.length
    ·have hx:args[j]?=some args[j]:=by simp[hlt]
     have HX:=hid hx;generalize args[j]=y at *;obtain⟨b,o,rfl,-,v0,v1⟩:=hrow j y hx;simp only[Nat.add_zero] at v0;have u0:=qzA hRr.bel v0;have u1:=qzA hRr.bel v1;clear v0 v1 hrow hx;have hj1:(j:Int)<(args.length:Int):=by omega
     have hj0:(0:Int)<=(j:Int):=by omega
     have hvw:=fun w=>xin y (X.heap.length:Int) w
     obtain⟨wy,hwy⟩:∃ wy,wy=xaM X.heap.length y:=⟨_,rfl⟩;rw[← hwy] at hvw;have HWY:=hid hwy;clear hwy;have hRa:=hRr.later (xai wr (.cells #[.int .i64 y.k,.int .i64 y.n] 41));have y0:(wr.alloc (.cells #[.int .i64 y.k,.int .i64 y.n] 41)).cell? ⟨wr.heap.size,0,none⟩=some (.int .i64 y.k):=xab _ _ _ _ rfl 0;have y1:(wr.alloc (.cells #[.int .i64 y.k,.int .i64 y.n] 41)).cell? ⟨wr.heap.size,1,none⟩=some (.int .i64 y.n):=xab _ _ _ _ rfl 1
     go_upto_region 13 with (fail)
     clear w0 w1 w2 c0 c1 c2 c3 u0 u1 hRr;generalize (wr.alloc (.cells #[.int .i64 y.k,.int .i64 y.n] 41))=V at *;obtain⟨-,w0,w1,w2,c0,c1,c2,c3⟩:=id hRa;go_wp2_with fail;refine (hvw _).mono ?_;rintro e w5 ⟨rfl,hb5⟩;have hR5:=hRa.later hb5;clear w0 w1 w2 c0 c1 c2 c3 hRa hb5 hvw y0 y1
     by_cases hz:wy=0
     ·have hz':(wy != 0)=false:=by simpa using hz
      go_wp2
      go_roundg (gk-1)
      case measure=>omega
      case rel=>
       refine⟨j+1,by omega,by go_num,hR5,fun i y' hi hy=>?_⟩
       by_cases hij:i=j
       ·subst hij;rw[HX.out] at hy;cases hy;rw[← HWY.out];exact hz
       ·exact HO.out i y' (by omega) hy
     ·have hz':(wy != 0)=true:=by simpa using hz
      go_wp2
      go_ret
      refine⟨xa6 ?_,hR5.bel⟩;have:=xgN (f:=fun _ v=>xaM X.heap.length v) (k:=0) HX.out (by rw[← HWY.out];exact hz) (fun i y' hi hy=>HO.out i y' hi hy)
      rw[HE.out,this,HWY.out]
    ·obtain rfl:j=args.length:=by omega
     go_wp2
     go_ret
     refine⟨xa6 ?_,hRr.bel⟩;rw[HE.out,xfk fun i y hy=>HO.out i y (xad hy) hy]
  ·have hws':(ws != 0)=true:=by simpa using hws
   rw[if_pos hws] at HE;go_wp2
   go_ret
   exact⟨xa6 HE.out.symm,hR2.bel⟩
structure LkP (X:QW)(b:Nat)(cv hv:Value)(T:Nat->Nat)(w:World)(st:Unit)(n:Nat):Prop where
 tag:T b=0
 lt:b<w.heap.size
 w0:w.cell? ⟨b,0,none⟩=some cv
 w1:w.cell? ⟨b,1,none⟩=some hv
 w2:w.cell? ⟨b,2,none⟩=some (.int .i64 X.ez)
 cls:xag (Fx T w) w cv X.cz
 heap:xav (Fx T w) w hv X.heap
theorem LkP.keep {X:QW}{b:Nat}{cv hv:Value}{T T':Nat->Nat}{w w':World}{st:Unit}{n:Nat}{S:Nat->Prop}(h:LkP X b cv hv T w st n)(e:Ext T T' w)(k:Kp S T w w')(h0:¬ S 0):LkP X b cv hv T' w' st n:=
 ⟨by rw[e _ h.lt];exact h.tag,qzE h.lt k.size,k.cell h.w0 (by rw[h.tag];exact h0),k.cell h.w1 (by rw[h.tag];exact h0),k.cell h.w2 (by rw[h.tag];exact h0),h.cls.fx xax e k h0,h.heap.fx xaB e k h0⟩
theorem xkx {X:QW}{b:Nat}{cv hv:Value}{T:Nat->Nat}{w:World}{n:Nat}(h:LkP X b cv hv T w () n)(s:QS)(c:Int)(name:ByteArray):Calls Tryz.prog 141 #[SV s,.int .i64 c,.string name,.pointer (some ⟨b,0,none⟩)] w fun e w'=>e=.returned (.tuple #[.int .i64 (xak X.cz c name).1,.int .i64 (xak X.cz c name).2])/\Below w.heap.size w w':=by
 have hb1:=xai w (.cells #[.int .i64 s.cls,.string s.name,.int .i64 s.at'] 105);have h1:=h.keep (T':=T) (.refl _ _) (Kp.of_below (S:=fun _=>False) hb1) id
 have hf:=fun w' (hb:Below (w.alloc (.cells #[.int .i64 s.cls,.string s.name,.int .i64 s.at'] 105)).heap.size (w.alloc (.cells #[.int .i64 s.cls,.string s.name,.int .i64 s.at'] 105)) w')=>xc4 X c name cv hv w' ((h1.cls.mono (Q:=fun _=>True) xax fun _ _=>trivial).later xax hb) ((h1.heap.mono (Q:=fun _=>True) xaB fun _ _=>trivial).later xaB hb)
 obtain⟨-,-,w0,w1,w2,hc,hh⟩:=id h1;obtain⟨ac,cc,rfl,-⟩:=id hc;obtain⟨ah,ch,rfl,-⟩:=id hh;clear h h1 hc hh;obtain⟨r1,r2,hr⟩:∃ r1 r2,xak X.cz c name=(r1,r2):=⟨_,_,rfl⟩;rw[hr] at hf ⊢;clear hr;go_enter Tryz.func141,Tryz.ntmps141
 go_upto_region 1 with (fail)
 generalize (w.alloc (.cells #[.int .i64 s.cls,.string s.name,.int .i64 s.at'] 105))=W at *;go_wp2_with fail;refine (hf _ (Below.refl _ _)).mono ?_;rintro e w2' ⟨rfl,hb2⟩;have HB:=hid (xaf hb1 hb2);clear w0 w1 w2 hf hb2;go_wp2;refine bodyPost_ret (v:=.tuple #[.int .i64 r1,.int .i64 r2]) ?_ rfl ⟨rfl,HB.out⟩
 simp[results,Tryz.results141,go_sem]
section
variable {σ:Type} {p:Mp σ} {L:(Nat->Nat)->World->σ->Nat->Prop} {LF QF:Nat} {lc qc:Array Value} {T:Nat->Nat} {w:World} {mb:Nat} {m:Mc σ} {hv:Value} {g:Nat} {s:Nat->Nat} {K:Nat}
structure FsR (w:World)(mb:Nat)(v0 v1:Value)(ep:Int)(s:QV)(name:ByteArray)(av:Value)(w':World):Prop where
 bel:Below w.heap.size w w'
 m0:w'.cell? ⟨mb,0,none⟩=some v0
 m1:w'.cell? ⟨mb,1,none⟩=some v1
 m2:w'.cell? ⟨mb,2,none⟩=some (.int .i64 ep)
 c0:w'.cell? ⟨w.heap.size,0,none⟩=some (.int .i64 s.k)
 c1:w'.cell? ⟨w.heap.size,1,none⟩=some (.int .i64 s.n)
 c2:w'.cell? ⟨w.heap.size,2,none⟩=some (.string name)
 c3:w'.cell? ⟨w.heap.size,3,none⟩=some av
 r0:w'.cell? ⟨w.heap.size+1,0,none⟩=some (.int .i64 0)
 r1:w'.cell? ⟨w.heap.size+1,1,none⟩=some (.int .i64 0)
 rf:∀ o,w'.frozen? ⟨w.heap.size+1,o,none⟩=false
 sz:w.heap.size+2<=w'.heap.size
theorem FsR.later {w:World}{mb:Nat}{v0 v1:Value}{ep:Int}{s:QV}{name:ByteArray}{av:Value}{w' w'':World}(h:FsR w mb v0 v1 ep s name av w')(hb:Below w'.heap.size w' w''):FsR w mb v0 v1 ep s name av w'':=
 ⟨xaf h.bel hb,qzA hb h.m0,qzA hb h.m1,qzA hb h.m2,qzA hb h.c0,qzA hb h.c1,qzA hb h.c2,qzA hb h.c3,qzA hb h.r0,qzA hb h.r1,fun o=>(hb.frozen (p:=⟨w.heap.size+1,o,none⟩) (by have:=h.sz;simp only;omega)).trans (h.rf o),qzD h.sz hb.size⟩
theorem FsR.al {w:World}{mb:Nat}{v0 v1:Value}{ep:Int}{s:QV}{name:ByteArray}{av:Value}{w':World}(h:FsR w mb v0 v1 ep s name av w'):w'.cell? ⟨mb,0,none⟩=some v0/\w'.cell? ⟨mb,1,none⟩=some v1/\w'.cell? ⟨mb,2,none⟩=some (.int .i64 ep)/\w'.cell? ⟨w.heap.size,0,none⟩=some (.int .i64 s.k)/\w'.cell? ⟨w.heap.size,1,none⟩=some (.int .i64 s.n)/\w'.cell? ⟨w.heap.size,2,none⟩=some (.string name):=⟨h.m0,h.m1,h.m2,h.c0,h.c1,h.c2⟩
theorem xou (hC:Cx p L LF lc QF qc)(h:MacAt p T w mb m 0 hv g s)(hL:L T w m.st (p.E.fuel-m.sz_).toNat)(hI:MIn p.E m)(sf:QV)(name:ByteArray)(args:List QV)(av:Value)(hSe:xaM m.heap.length sf=0)(hAr:VsOk m.heap.length args)(hA:xaV (Fx T w) w av args)(hK5:5<=K) :
  Calls Tryz.prog 140 #[.pointer (some ⟨mb,0,none⟩),ClV sf name av] w fun e w'=>EnPost p L T w mb 0 K (xbh p.E 20 m (xak p.E.cz (xap m.heap sf) name).1 (xak p.E.cz (xap m.heap sf) name).2 sf args) e w':=by
 have hX:=xaQ T w 4;have hT4:∀ b,w.heap.size<=b->xbc T w 4 b=4:=fun b hb=>xba hb
 have hb1:Below w.heap.size w ((w.alloc (.cells #[.int .i64 sf.k,.int .i64 sf.n,.string name,av] 54)).alloc (.cells #[.int .i64 0,.int .i64 0] 41)).drew:=(xbp w _ _).drew;have hM0:=(h.tagged0 4).later hb1;have hA0:=(xfh hA xa7 4).fx xa7 (.refl _ w) (Kp.of_below (S:=fun _=>False) hb1) id
 have hL0:=hC.keep (hC.keep hL hX (Kp.refl (fun _=>False) _ _) id id) (.refl _ _) (Kp.of_below (S:=fun _=>False) hb1) id id
 have hFs:FsR w mb p.cv hv p.ep sf name av ((w.alloc (.cells #[.int .i64 sf.k,.int .i64 sf.n,.string name,av] 54)).alloc (.cells #[.int .i64 0,.int .i64 0] 41)).drew:=by
  refine⟨hb1,hM0.c0,hM0.c1,hM0.c2,qzA (xai _ _).drew (xab w #[.int .i64 sf.k,.int .i64 sf.n,.string name,av] 54 _ rfl 0),qzA (xai _ _).drew (xab w #[.int .i64 sf.k,.int .i64 sf.n,.string name,av] 54 _ rfl 1),qzA (xai _ _).drew (xab w #[.int .i64 sf.k,.int .i64 sf.n,.string name,av] 54 _ rfl 2),qzA (xai _ _).drew (xab w #[.int .i64 sf.k,.int .i64 sf.n,.string name,av] 54 _ rfl 3),xab _ _ _ _ (by simp) 0,xab _ _ _ _ (by simp) 1,fun o=>xaq (cur:=#[.int .i64 0,.int .i64 0]) (t:=41) ?_ o,by simp⟩
  rw[xgv];have:=heap_alloc_new (w.alloc (.cells #[.int .i64 sf.k,.int .i64 sf.n,.string name,av] 54)) (.cells #[.int .i64 0,.int .i64 0] 41)
  simpa using this
 have hlm:=xam h.box;obtain⟨aa,ca,rfl,-⟩:=id hA;clear h hA hL;generalize xbc T w 4=T1 at *;have t1:T1 (w.heap.size+1)=4:=hT4 _ (by omega)
 go_enter Tryz.func140,Tryz.ntmps140
 go_upto_region 1 with (fail)
 generalize ((w.alloc (.cells #[.int .i64 sf.k,.int .i64 sf.n,.string name,.slice aa args.length ca] 54)).alloc (.cells #[.int .i64 0,.int .i64 0] 41))=W at *;have hcl:=hM0.cls.mono (Q:=fun _=>True) xax fun _ _=>trivial
 have hhp:=hM0.heap.heap.mono (Q:=fun _=>True) xaB fun _ _=>trivial
 obtain⟨ch,rfl,-⟩:=hM0.heap.form;obtain⟨ac,cc,hcv,-⟩:=id hcl;have hcls:∀ w':World,Below W.drew.heap.size W.drew w'->Calls Tryz.prog 190 #[.slice (some ⟨g,0,none⟩) m.heap.length ch,VV sf] w' fun e w''=>e=.returned (.int .i64 (xap m.heap sf))/\Below w'.heap.size w' w'':=fun w' hb=>xfF m.heap _ sf w' (hhp.later xaB hb)
 have hfin:∀ w':World,Below W.drew.heap.size W.drew w'->Calls Tryz.prog 142 #[WV p.cv (.slice (some ⟨g,0,none⟩) m.heap.length ch) p.ep,.int .i64 (xap m.heap sf),.string name] w' fun e w''=>e=.returned (.tuple #[.int .i64 (xak p.E.cz (xap m.heap sf) name).1,.int .i64 (xak p.E.cz (xap m.heap sf) name).2])/\Below w'.heap.size w' w'':=fun w' hb=>xc4 ⟨p.E.cz,m.heap,p.ep⟩ (xap m.heap sf) name p.cv _ w' (hcl.later xax hb) (hhp.later xaB hb)
 have HM0:=hid hM0;rw[hcv] at hfin hFs;clear hcv hcl hhp hM0;obtain⟨c0,hc0⟩:∃ c0,c0=xap m.heap sf:=⟨_,rfl⟩;rw[← hc0] at hcls hfin;obtain⟨r1,r2,hr⟩:∃ r1 r2,xak p.E.cz c0 name=(r1,r2):=⟨_,_,rfl⟩;rw[hr] at hfin;have HRO:Hid (xbh p.E 20 m (xak p.E.cz (xap m.heap sf) name).1 (xak p.E.cz (xap m.heap sf) name).2 sf args=xbh p.E 20 m r1 r2 sf args):=by show _=_;rw[← hc0,hr]
 clear hc0 hr;have hS0:=hFs.al;have tokA:True:=trivial
 go_region_held3 (fun w'=>w'.cell? ⟨mb,0,none⟩=some (.slice ac p.E.cz.length cc)/\w'.cell? ⟨mb,1,none⟩=some (.slice (some ⟨g,0,none⟩) m.heap.length ch)/\w'.cell? ⟨mb,2,none⟩=some (.int .i64 p.ep)/\w'.cell? ⟨w.heap.size,0,none⟩=some (.int .i64 sf.k)/\w'.cell? ⟨w.heap.size,1,none⟩=some (.int .i64 sf.n)/\w'.cell? ⟨w.heap.size,2,none⟩=some (.string name))
  (first | with_reducible exact hS0 | with_reducible exact hS1 | with_reducible exact hS2)
  (first
   | (have _t:=tokA;go_at_call 190;refine (hcls _ (Below.refl _ _)).mono ?_;rintro e w3 ⟨rfl,hb3⟩;have hF3:=hFs.later hb3;have hS1:=hF3.al;clear tokA;have tokB:True:=trivial)
   | (have _t:=tokB;go_at_call 142;refine (hfin _ hb3).mono ?_;rintro e w4 ⟨rfl,hb4⟩;have hF4:=hF3.later hb4;have hS2:=hF4.al;have hb34:=xaf hb3 hb4;clear tokB))
 have hM4:=HM0.out.later hb34;have hA4:=hA0.fx xa7 (.refl _ _) (Kp.of_below (S:=fun _=>False) hb34) id
 have hL4:=hC.keep hL0 (.refl _ _) (Kp.of_below (S:=fun _=>False) hb34) id id
 have hent:=xji hC 20 (qzC _) K T1 w4 mb m _ _ _ r1 r2 sf args _ hK5 hM4 hL4 hI hSe hAr hA4;have HKW:=hid (Kp.of_below (S:=All K) (T:=T) hF4.bel);obtain⟨-,m0,m1,m2,c0',c1,c2,c3,r0,r1',rf,sz⟩:=id hF4;have H4:=hid hF4;clear hS0 hS1 hS2 hcls hfin hF3 hF4 hFs hb3 hb4 hb34 hM4 hA4 hL4;obtain⟨R,hR⟩:∃ R,xbh p.E 20 m r1 r2 sf args=R:=⟨_,rfl⟩;rw[hR] at hent HRO;clear hR;go_wp2_with fail;refine hent.mono ?_;rintro e w6 ⟨rfl,⟨T6,hX6,⟨hv6,g6,s6,hM6⟩,hL6⟩,hK6⟩;have q0:=hK6.cell r0 (by rw[t1];unfold All;omega)
 have q1:=hK6.cell r1' (by rw[t1];unfold All;omega)
 have qf:∀ o,w6.frozen? ⟨w.heap.size+1,o,none⟩=false:=fun o=>xc0 hK6 (by omega) (by rw[t1];unfold All;omega) (rf o)
 have t6:T6 (w.heap.size+1)=4:=by rw[hX6 _ (by omega)];exact t1
 have HQ:=hid fun u0 u1=>EnPost.fin (r:=R) hC (hX.trans HKW.out.size hX6) (show MacAt p T6 w6 mb R.1 0 hv6 g6 s6 from hM6) hL6 (HKW.out.trans hX hK6) t6 u0 u1
 clear hent hM6 hL6 hK6 hX6 m0 m1 m2 c0' c1 c2 c3 r0 r1' rf;obtain⟨rm,v,er⟩:=R;go_wp2;rw[HRO.out];refine bodyPost_ret (v:=.tuple #[VV v,.int .i64 er]) ?_ rfl (HQ.out _ _)
 simp[results,Tryz.results140,go_sem,q0,q1]
end
abbrev RnV (r:Ran):Value:=.agg #[.int .i64 r.v.k,.int .i64 r.v.n,.int .i64 r.err,.int .i64 r.sz_]
def WiPost {σ:Type}(L:(Nat->Nat)->World->σ->Nat->Prop)(T0:Nat->Nat)(w:World)(X:QW)(r:Ran × σ)(e:Ending)(w':World):Prop:=
 Kp (fun t=>t=3) T0 w w'/\∃ T',Ext T0 T' w/\L T' w' r.2 0/\∃ cv hv,e=.returned (.tuple #[WV cv hv X.ez,RnV r.1])/\xag (fun b=>w.heap.size<=b/\T' b≠3) w' cv X.cz/\xav (fun b=>w.heap.size<=b/\T' b≠3) w' hv r.1.heap
structure WtR (w:World)(cv hv:Value)(ep:Int)(s:QV)(name:ByteArray)(av:Value)(w':World):Prop where
 w0:w'.cell? ⟨w.heap.size,0,none⟩=some cv
 w1:w'.cell? ⟨w.heap.size,1,none⟩=some hv
 w2:w'.cell? ⟨w.heap.size,2,none⟩=some (.int .i64 ep)
 c0:w'.cell? ⟨w.heap.size+1,0,none⟩=some (.int .i64 s.k)
 c1:w'.cell? ⟨w.heap.size+1,1,none⟩=some (.int .i64 s.n)
 c2:w'.cell? ⟨w.heap.size+1,2,none⟩=some (.string name)
 c3:w'.cell? ⟨w.heap.size+1,3,none⟩=some av
 a0:w'.cell? ⟨w.heap.size+2,0,none⟩=some (.slice none 0 0)
 a1:w'.cell? ⟨w.heap.size+2,1,none⟩=some (.slice none 0 0)
 a2:w'.cell? ⟨w.heap.size+2,2,none⟩=some (.int .i64 0)
 af:∀ o,w'.frozen? ⟨w.heap.size+2,o,none⟩=false
 b0:w'.cell? ⟨w.heap.size+3,0,none⟩=some (.int .i64 0)
 b1:w'.cell? ⟨w.heap.size+3,1,none⟩=some (.int .i64 0)
 b2:w'.cell? ⟨w.heap.size+3,2,none⟩=some (.int .i64 0)
 b3:w'.cell? ⟨w.heap.size+3,3,none⟩=some (.int .i64 0)
 bf:∀ o,w'.frozen? ⟨w.heap.size+3,o,none⟩=false
 sz:w.heap.size+4<=w'.heap.size
theorem WtR.kp {w:World}{cv hv:Value}{ep:Int}{s:QV}{name:ByteArray}{av:Value}{w' w'':World}{S:Nat->Prop}{T:Nat->Nat}(h:WtR w cv hv ep s name av w')(k:Kp S T w' w'')(hs:∀ i,i<4->¬ S (T (w.heap.size+i))):WtR w cv hv ep s name av w'':=
 have hz:=h.sz
 ⟨k.cell h.w0 (hs 0 (by omega)),k.cell h.w1 (hs 0 (by omega)),k.cell h.w2 (hs 0 (by omega)),k.cell h.c0 (hs 1 (by omega)),k.cell h.c1 (hs 1 (by omega)),k.cell h.c2 (hs 1 (by omega)),k.cell h.c3 (hs 1 (by omega)),k.cell h.a0 (hs 2 (by omega)),k.cell h.a1 (hs 2 (by omega)),k.cell h.a2 (hs 2 (by omega)),fun o=>xc0 k (by omega) (hs 2 (by omega)) (h.af o),k.cell h.b0 (hs 3 (by omega)),k.cell h.b1 (hs 3 (by omega)),k.cell h.b2 (hs 3 (by omega)),k.cell h.b3 (hs 3 (by omega)),fun o=>xc0 k (by omega) (hs 3 (by omega)) (h.bf o),qzD hz k.size⟩
theorem WtR.later {w:World}{cv hv:Value}{ep:Int}{s:QV}{name:ByteArray}{av:Value}{w' w'':World}(h:WtR w cv hv ep s name av w')(hb:Below w'.heap.size w' w''):WtR w cv hv ep s name av w'':=h.kp (T:=fun _=>0) (Kp.of_below (S:=fun _=>False) hb) fun _ _=>id
theorem xkJ (w:World)(cv hv:Value)(ep:Int)(s:QV)(name:ByteArray)(av:Value):WtR w cv hv ep s name av ((((w.alloc (.cells #[cv,hv,.int .i64 ep] 26)).alloc (.cells #[.int .i64 s.k,.int .i64 s.n,.string name,av] 54)).alloc (.cells #[.slice none 0 0,.slice none 0 0,.int .i64 0] 26)).alloc (.cells #[.int .i64 0,.int .i64 0,.int .i64 0,.int .i64 0] 98)):=by
 obtain⟨-,w0,w1,w2,c0,c1,c2,c3⟩:=xk2 w cv hv ep s name av;have q:=xbp ((w.alloc (.cells #[cv,hv,.int .i64 ep] 26)).alloc (.cells #[.int .i64 s.k,.int .i64 s.n,.string name,av] 54)) (.cells #[.slice none 0 0,.slice none 0 0,.int .i64 0] 26) (.cells #[.int .i64 0,.int .i64 0,.int .i64 0,.int .i64 0] 98);have e2:((w.alloc (.cells #[cv,hv,.int .i64 ep] 26)).alloc (.cells #[.int .i64 s.k,.int .i64 s.n,.string name,av] 54)).heap.size=w.heap.size+2:=by simp
 have e3:(((w.alloc (.cells #[cv,hv,.int .i64 ep] 26)).alloc (.cells #[.int .i64 s.k,.int .i64 s.n,.string name,av] 54)).alloc (.cells #[.slice none 0 0,.slice none 0 0,.int .i64 0] 26)).heap.size=w.heap.size+3:=by simp
 refine⟨qzA q w0,qzA q w1,qzA q w2,qzA q c0,qzA q c1,qzA q c2,qzA q c3,qzA (xai _ _) (xab _ _ _ _ e2 0),qzA (xai _ _) (xab _ _ _ _ e2 1),qzA (xai _ _) (xab _ _ _ _ e2 2),fun o=>((xai _ _).frozen (p:=⟨w.heap.size+2,o,none⟩) (by rw[e3];simp)).trans (xaq (cur:=#[.slice none 0 0,.slice none 0 0,.int .i64 0]) (t:=26) (xaR _ _ _ e2) o),xab _ _ _ _ e3 0,xab _ _ _ _ e3 1,xab _ _ _ _ e3 2,xab _ _ _ _ e3 3,xaq (cur:=#[.int .i64 0,.int .i64 0,.int .i64 0,.int .i64 0]) (t:=98) (xaR _ _ _ e3),by simp⟩
theorem OwnC.rowIn {w:World}{B:Nat}{xs:List QC}{s:Nat->Nat}(h:OwnC w B xs s xs.length)(hby:xs.length*56<=140737488351232):xag (fun b=>B<=b/\b<s xs.length) w (.slice (some ⟨B,0,none⟩) xs.length xs.length) xs:=by
 have hB:=h.2.1;have h0n:=h.mono 0 xs.length (by omega) (qzC _)
 refine⟨_,_,rfl,qzC _,by unfold maxLen;omega,hby,fun i x hx=>⟨B,0,rfl,⟨qzC _,by omega⟩,?_⟩⟩
 have hi:=xad hx;have hn:=h.mono (i+1) xs.length (by omega) (qzC _)
 have hk:=h.2.2.2.2 i x hi hx;have hm:=h.mono 0 i (by omega) (by omega)
 obtain⟨g,hg,hlo,hM⟩:=hk.meths;obtain⟨h0,h1,h2,h3,-⟩:=hk;simp only[Nat.zero_add]
 exact⟨h0,h1,h2,h3,_,hg,hM.mono xbj fun b hb=>⟨by have:=hb.1;omega,by have:=hb.2;omega⟩⟩
theorem xlT {P:Nat->Prop}(X:QW)(cv hv:Value)(w:World)(h1:xag P w cv X.cz)(h2:xav P w hv X.heap):Calls Tryz.prog 32 #[WV cv hv X.ez] w fun e w'=>∃ g gh sh,e=.returned (WV (.slice (some ⟨g,0,none⟩) X.cz.length X.cz.length) (.slice (some ⟨gh,0,none⟩) X.heap.length X.heap.length) X.ez)/\xag (fun b=>w.heap.size<=b/\b<gh) w' (.slice (some ⟨g,0,none⟩) X.cz.length X.cz.length) X.cz/\HRow w' gh sh X.heap X.heap.length/\w.heap.size<=gh/\Below w.heap.size w w':=by
 obtain⟨a1,c1,e1,-,-,b1,-⟩:=id h1;refine (xn9 X cv hv w h1 h2).mono ?_;rintro e w' ⟨g,gh,s,rfl,hO,⟨sh,hR⟩,hs,hg,hb⟩;have hB:=hO.2.1;have h0n:=hO.mono 0 X.cz.length (by omega) (qzC _)
 exact⟨g,gh,sh,rfl,(hO.rowIn b1).mono xax fun b hb=>⟨by have:=hb.1;omega,by have:=hb.2;omega⟩,hR,by omega,hb⟩
theorem HRow.isHeap {w:World}{g:Nat}{s:Nat->Nat}{xs:List QO}(h:HRow w g s xs xs.length)(hby:xs.length*32<=140737488351232):xav (fun b=>g<=b) w (.slice (some ⟨g,0,none⟩) xs.length xs.length) xs:=by
 have hT:∀ b,g<=b->b<w.heap.size->(fun b=>if g<=b then 2 else 0) b=2:=fun b hb _=>by simp[hb]
 refine (h.heap hby hT).heap.mono xaB fun b hb=>?_
 have:=hb.2;simp only at this
 split at this
 ·assumption
 ·cases this
section
variable {σ:Type} {L:(Nat->Nat)->World->σ->Nat->Prop} {LF QF:Nat} {lc qc:Array Value}
structure Lok (L:(Nat->Nat)->World->σ->Nat->Prop):Prop where
 keep:∀ {T T':Nat->Nat} {w w':World} {st:σ} {n:Nat} {S:Nat->Prop},L T w st n->Ext T T' w->Kp S T w w'->¬ S 0->¬ S 3->L T' w' st n
 mono:∀ {T:Nat->Nat} {w:World} {st:σ} {n n':Nat},L T w st n->n'<=n->L T w st n'
theorem WiPost.fin (hCx:Lok L){w U:World}{X:QW}{r:Ran × σ}{cv hv:Value}{P:Nat->Prop}{T0 T1:Nat->Nat}{n:Nat}(hk:Kp (fun t=>t=3) T0 w U)(hE:Ext T0 T1 w)(hL:L T1 U r.2 n)(t2:T1 (w.heap.size+2)=4)(t3:T1 (w.heap.size+3)=4)(hC:xag P U cv X.cz)(hH:xav P U hv r.1.heap)(h2:¬ P (w.heap.size+2))(h3:¬ P (w.heap.size+3))(hP:∀ x,P x->w.heap.size<=x/\T1 x≠3)(u0 u1 u2 v0 v1 v2 v3:Value) :
  WiPost L T0 w X r (.returned (.tuple #[WV cv hv X.ez,RnV r.1])) (((((((U.setCell ⟨w.heap.size+2,0,none⟩ u0).setCell ⟨w.heap.size+2,1,none⟩ u1).setCell ⟨w.heap.size+2,2,none⟩ u2).setCell ⟨w.heap.size+3,0,none⟩ v0).setCell ⟨w.heap.size+3,1,none⟩ v1).setCell ⟨w.heap.size+3,2,none⟩ v2).setCell ⟨w.heap.size+3,3,none⟩ v3):=by
 have k:Keeps P U (((((((U.setCell ⟨w.heap.size+2,0,none⟩ u0).setCell ⟨w.heap.size+2,1,none⟩ u1).setCell ⟨w.heap.size+2,2,none⟩ u2).setCell ⟨w.heap.size+3,0,none⟩ v0).setCell ⟨w.heap.size+3,1,none⟩ v1).setCell ⟨w.heap.size+3,2,none⟩ v2).setCell ⟨w.heap.size+3,3,none⟩ v3):=xas (xas (xas (xas (xas (xas (xas (Keeps.refl _ _) h2 _) h2 _) h2 _) h3 _) h3 _) h3 _) h3 _;have hn2:¬ w.heap.size+2<w.heap.size:=by omega
 have hn3:¬ w.heap.size+3<w.heap.size:=by omega
 have k4:Kp (fun t=>t=4) T1 U (((((((U.setCell ⟨w.heap.size+2,0,none⟩ u0).setCell ⟨w.heap.size+2,1,none⟩ u1).setCell ⟨w.heap.size+2,2,none⟩ u2).setCell ⟨w.heap.size+3,0,none⟩ v0).setCell ⟨w.heap.size+3,1,none⟩ v1).setCell ⟨w.heap.size+3,2,none⟩ v2).setCell ⟨w.heap.size+3,3,none⟩ v3):=(((((((Kp.refl _ _ _).set (fun _=>t2) _ _).set (fun _=>t2) _ _).set (fun _=>t2) _ _).set (fun _=>t3) _ _).set (fun _=>t3) _ _).set (fun _=>t3) _ _).set (fun _=>t3) _ _
 refine⟨((((((hk.set (fun h=>absurd h hn2) _ _).set (fun h=>absurd h hn2) _ _).set (fun h=>absurd h hn2) _ _).set (fun h=>absurd h hn3) _ _).set (fun h=>absurd h hn3) _ _).set (fun h=>absurd h hn3) _ _).set (fun h=>absurd h hn3) _ _,T1,hE,hCx.mono (hCx.keep hL (.refl _ _) k4 (by omega) (by omega)) (Nat.zero_le _),cv,hv,rfl,hC.keep xax k hP,hH.keep xaB k hP⟩
theorem WiPost.drew (hCx:Lok L){w w':World}{X:QW}{r:Ran × σ}{T0:Nat->Nat}{e:Ending}(h:WiPost L T0 w X r e w'):WiPost L T0 w X r e w'.drew:=by
 obtain⟨hb,T',hE,hL,cv,hv,rfl,h1,h2⟩:=h
 exact⟨hb.drew,T',hE,hCx.keep hL (.refl _ _) (Kp.refl (fun _=>False) _ _).drew id id,cv,hv,rfl,h1.later xax (Below.refl _ _).drew,h2.later xaB (Below.refl _ _).drew⟩
end
theorem xdL (d:Nat)(t:TypeId)(k:Nat)(c:Array Value)(w:World){a b v}(h:Tryz.prog.underlying t=some (.func a b v)):(Op.equalIn (d+1) t (.func (.func k) #[] c) .nilFunc).run Tryz.prog w=.ok false w:=by
 simp[Op.equalIn,run_underlying h]
theorem xso (k:Nat)(c:Array Value)(w:World):(binOp .eql 179 (.func (.func k) #[] c) .nilFunc).run Tryz.prog w=.ok (.bool false) w:=by
 simp only[binOp];have:(Op.equal 179 (.func (.func k) #[] c) .nilFunc).run Tryz.prog w=.ok false w:=xdL 9999 179 k c w Tryz.underlying179
 simp[this]
theorem xsj (k:Nat)(c:Array Value)(w:World):(binOp .eql 184 (.func (.func k) #[] c) .nilFunc).run Tryz.prog w=.ok (.bool false) w:=by
 simp only[binOp];have:(Op.equal 184 (.func (.func k) #[] c) .nilFunc).run Tryz.prog w=.ok false w:=xdL 9999 184 k c w Tryz.underlying184
 simp[this]
def xnk (T0:Nat->Nat)(n gh mb:Nat):Nat->Nat:=fun x=>if x<n then T0 x else if x<n+4 then 4 else if x<gh then 0 else if x<mb then 2 else 1
structure EeR (w:World)(mb:Nat)(v0 v1:Value)(ep n:Int)(w':World):Prop where
 w0:w'.cell? ⟨w.heap.size,0,none⟩=some v0
 w1:w'.cell? ⟨w.heap.size,1,none⟩=some v1
 w2:w'.cell? ⟨w.heap.size,2,none⟩=some (.int .i64 ep)
 m4:w'.cell? ⟨mb,4,none⟩=some (.int .i64 n)
 lt:w.heap.size+4<=mb
theorem EeR.later {w:World}{mb:Nat}{v0 v1:Value}{ep n:Int}{w' w'':World}(h:EeR w mb v0 v1 ep n w')(hb:Below w'.heap.size w' w''):EeR w mb v0 v1 ep n w'':=⟨qzA hb h.w0,qzA hb h.w1,qzA hb h.w2,qzA hb h.m4,h.lt⟩
theorem EeR.set {w:World}{mb:Nat}{v0 v1:Value}{ep n:Int}{w':World}(h:EeR w mb v0 v1 ep n w'){b:Nat}(hb:b=w.heap.size+2\/b=w.heap.size+3)(o:Nat)(u:Value):EeR w mb v0 v1 ep n (w'.setCell ⟨b,o,none⟩ u):=
 have hl:=h.lt
 ⟨(World.cell?_setCell_far _ _ _ _ (by simp;omega)).trans h.w0,(World.cell?_setCell_far _ _ _ _ (by simp;omega)).trans h.w1,(World.cell?_setCell_far _ _ _ _ (by simp;omega)).trans h.w2,(World.cell?_setCell_far _ _ _ _ (by simp;omega)).trans h.m4,hl⟩
theorem EeR.al {w:World}{mb:Nat}{v0 v1:Value}{ep n:Int}{w':World}(h:EeR w mb v0 v1 ep n w'):w'.cell? ⟨w.heap.size,0,none⟩=some v0/\w'.cell? ⟨w.heap.size,1,none⟩=some v1/\w'.cell? ⟨w.heap.size,2,none⟩=some (.int .i64 ep)/\w'.cell? ⟨mb,4,none⟩=some (.int .i64 n):=⟨h.w0,h.w1,h.w2,h.m4⟩
theorem xiL {σ:Type}{L:(Nat->Nat)->World->σ->Nat->Prop}{LF QF:Nat}{lc qc:Array Value}{T0:Nat->Nat}(X:QW)(hX:xau X=0)(E:Env σ)(st0:σ)(hEc:E.cz=X.cz)(s:QV)(name:ByteArray)(args:List QV)(cv hv av:Value)(w:World)(hTo:∀ x,x<w.heap.size->T0 x=0\/T0 x=3)(hC:xag (Fx T0 w) w cv X.cz)(hH:xav (Fx T0 w) w hv X.heap)(hA:xaV (Fx T0 w) w av args)(hn:name.size<=140737488351232)(hLo:Lok L)(hL:L T0 w st0 (min E.fuel.toNat 400))(hCx:0<=E.fuel->E.fuel<=400->∀ cv',Cx (⟨E,cv',X.ez,.func (.func LF) #[] lc,.func (.func QF) #[] qc⟩:Mp σ) L LF lc QF qc) :
  Calls Tryz.prog 108 #[WV cv hv X.ez,ClV s name av,.int .i64 E.fuel,.func (.func LF) #[] lc,.func (.func QF) #[] qc] w fun e w'=>WiPost L T0 w X (xcb E X st0 s name args E.fuel) e w':=by
 obtain⟨fuel,hfuel⟩:∃ fuel,E.fuel=fuel:=⟨_,rfl⟩;rw[hfuel] at hL ⊢;have HFU:=hid hfuel;clear hfuel;have hR:=xkJ w cv hv X.ez s name av;have hbW:Below w.heap.size w ((((w.alloc (.cells #[cv,hv,.int .i64 X.ez] 26)).alloc (.cells #[.int .i64 s.k,.int .i64 s.n,.string name,av] 54)).alloc (.cells #[.slice none 0 0,.slice none 0 0,.int .i64 0] 26)).alloc (.cells #[.int .i64 0,.int .i64 0,.int .i64 0,.int .i64 0] 98)):=xaf (xbp _ _ _) (xbp _ _ _);obtain⟨ac,cc,hcv,-,-,hby,-⟩:=id hC;obtain⟨ah,ch,hhv,-,-,hbyh,-⟩:=id hH;obtain⟨aa,ca,hav,-⟩:=id hA;subst hcv hhv hav;go_enter Tryz.func108,Tryz.ntmps108
 go_upto_region 1 with (fail)
 generalize ((((w.alloc (.cells #[.slice ac X.cz.length cc,.slice ah X.heap.length ch,.int .i64 X.ez] 26)).alloc (.cells #[.int .i64 s.k,.int .i64 s.n,.string name,.slice aa args.length ca] 54)).alloc (.cells #[.slice none 0 0,.slice none 0 0,.int .i64 0] 26)).alloc (.cells #[.int .i64 0,.int .i64 0,.int .i64 0,.int .i64 0] 98))=W at *;obtain⟨w0,w1,w2,c0,c1,c2,c3,-⟩:=id hR;have hwr:=xnq X s name args fuel (.slice ac X.cz.length cc) _ _ W ⟨_,_,_,rfl⟩ (hH.later xaB hbW) (hA.later xa7 hbW) hn;have HPE:Hid (xcb E X st0 s name args fuel=if xaH X s name args fuel≠0 then (⟨X.heap,xa4,xaH X s name args fuel,0⟩,st0) else (xrY X (xcL E X st0 s name args),(xcL E X st0 s name args).1.st)):=rfl
 have HWI:Hid (xaH X s name args fuel=0->(0<=fuel/\fuel<=400)/\xaM X.heap.length s=0/\VsOk X.heap.length args):=xd1;obtain⟨ws,hws⟩:∃ ws,xaH X s name args fuel=ws:=⟨_,rfl⟩;rw[hws] at hwr HPE HWI;clear hws;go_wp2_with fail;refine hwr.mono ?_;rintro e w1' ⟨rfl,hbv⟩;have hR1:=hR.later hbv;have HB1:=hid (xaf hbW hbv);clear w0 w1 w2 c0 c1 c2 c3 hwr hR;have hown:=fun w' (k:Kp (fun t=>t=3) T0 w w')=>xlT X _ _ w' (hC.fx xax (.refl _ _) k (by omega)) (hH.fx xaB (.refl _ _) k (by omega))
 obtain⟨w0,w1,w2,c0,c1,c2,c3,-⟩:=id hR1
 by_cases hz:ws=0
 ·have hz':(ws != 0)=false:=by simpa using hz
  rw[if_neg (by simpa using hz)] at HPE
  obtain⟨hfu,hsl,hvs⟩:=HWI.out hz;clear HWI hz;have hq1:=xso;have hq2:=xsj;have hsf:∀ (w:World) (a:Addr) (k:Nat) (c:Array Value),(store a (.func (.func k) #[] c)).run Tryz.prog w=stored Tryz.prog w a (.func (.func k) #[] c) .plain:=fun w a k c=>run_store Tryz.prog w a _ _ rfl
  go_wp2_with fail;refine (hown _ (Kp.of_below HB1.out)).mono ?_;rintro e w2' ⟨g,gh,sh,rfl,hCo,hHo,hgh,hbo⟩;have hR2:=hR1.later hbo;have hsz:=hR1.sz;have HB2:=hid (xaf HB1.out hbo);clear w0 w1 w2 c0 c1 c2 c3 hR1;have hbM:=xai w2' (MB (⟨E,.slice (some ⟨g,0,none⟩) X.cz.length X.cz.length,X.ez,.func (.func LF) #[] lc,.func (.func QF) #[] qc⟩:Mp σ) (⟨X.heap,0,0,st0⟩:Mc σ) 0 (.slice (some ⟨gh,0,none⟩) X.heap.length X.heap.length));have hbw3:=xaf HB2.out hbM;have hgl:gh<w2'.heap.size:=by obtain⟨cur,h1,-⟩:=hHo.row;exact xam h1
  have hs2:=hbo.size;have TO:∀ x,x<w.heap.size->xnk T0 w.heap.size gh w2'.heap.size x=T0 x:=fun x hx=>by unfold xnk;rw[if_pos hx]
  have T4:∀ i,i<4->xnk T0 w.heap.size gh w2'.heap.size (w.heap.size+i)=4:=fun i hi=>by unfold xnk;rw[if_neg (by omega),if_pos (by omega)]
  have Tc:∀ x,w1'.heap.size<=x->x<gh->xnk T0 w.heap.size gh w2'.heap.size x=0:=fun x h1 h2=>by unfold xnk;rw[if_neg (by omega),if_neg (by omega),if_pos h2]
  have Th:∀ x,gh<=x->x<w2'.heap.size->xnk T0 w.heap.size gh w2'.heap.size x=2:=fun x h1 h2=>by unfold xnk;rw[if_neg (by omega),if_neg (by omega),if_neg (by omega),if_pos h2]
  have Tm:xnk T0 w.heap.size gh w2'.heap.size w2'.heap.size=1:=by unfold xnk;rw[if_neg (by omega),if_neg (by omega),if_neg (by omega),if_neg (by omega)]
  generalize xnk T0 w.heap.size gh w2'.heap.size=Tg at *
  have hM3:MacAt (⟨E,.slice (some ⟨g,0,none⟩) X.cz.length X.cz.length,X.ez,.func (.func LF) #[] lc,.func (.func QF) #[] qc⟩:Mp σ) Tg (w2'.alloc (MB (⟨E,.slice (some ⟨g,0,none⟩) X.cz.length X.cz.length,X.ez,.func (.func LF) #[] lc,.func (.func QF) #[] qc⟩:Mp σ) (⟨X.heap,0,0,st0⟩:Mc σ) 0 (.slice (some ⟨gh,0,none⟩) X.heap.length X.heap.length))) w2'.heap.size ⟨X.heap,0,0,st0⟩ 0 (.slice (some ⟨gh,0,none⟩) X.heap.length X.heap.length) gh sh:=
   ⟨heap_alloc_new w2' _,Tm,(hHo.heap hbyh Th).keep (.refl _ _) (Kp.of_below (S:=fun _=>False) hbM) id,by rw[hEc];exact hCo.keep xax (Keeps.of_below hbM) fun x hx=>⟨by have:=hx.2;simp;omega,Tc x hx.1 hx.2⟩⟩
  have hXt:Ext T0 Tg w:=fun x hx=>TO x hx
  have hkT:Kp (fun _=>False) T0 w (w2'.alloc (MB (⟨E,.slice (some ⟨g,0,none⟩) X.cz.length X.cz.length,X.ez,.func (.func LF) #[] lc,.func (.func QF) #[] qc⟩:Mp σ) (⟨X.heap,0,0,st0⟩:Mc σ) 0 (.slice (some ⟨gh,0,none⟩) X.heap.length X.heap.length))):=Kp.of_below hbw3
  have hLk:L Tg (w2'.alloc (MB (⟨E,.slice (some ⟨g,0,none⟩) X.cz.length X.cz.length,X.ez,.func (.func LF) #[] lc,.func (.func QF) #[] qc⟩:Mp σ) (⟨X.heap,0,0,st0⟩:Mc σ) 0 (.slice (some ⟨gh,0,none⟩) X.heap.length X.heap.length))) st0 (E.fuel-0).toNat:=by
   rw[HFU.out,Int.sub_zero];rw[Nat.min_eq_left (by omega)] at hL
   exact hLo.keep hL hXt hkT id id
  have hA3:=hA.fx xa7 hXt hkT id;have hMi:MIn (⟨E,.slice (some ⟨g,0,none⟩) X.cz.length X.cz.length,X.ez,.func (.func LF) #[] lc,.func (.func QF) #[] qc⟩:Mp σ).E (⟨X.heap,0,0,st0⟩:Mc σ):=⟨by show HOk E.cz X.heap;rw[hEc];exact xdk hX,⟨by simp,by show (0:Int)<=E.fuel;rw[HFU.out];exact hfu.1⟩,by simp⟩
  have hfst:=xou (hCx (by rw[HFU.out];exact hfu.1) (by rw[HFU.out];exact hfu.2) (.slice (some ⟨g,0,none⟩) X.cz.length X.cz.length)) hM3 hLk hMi s name args _ hsl hvs hA3 (K:=5) (qzC _)
  have hR3:=hR2.later hbM;have HBW3:=hid hbw3;have HCo3:Hid (xag (fun x=>w1'.heap.size<=x/\x<gh) (w2'.alloc (MB (⟨E,.slice (some ⟨g,0,none⟩) X.cz.length X.cz.length,X.ez,.func (.func LF) #[] lc,.func (.func QF) #[] qc⟩:Mp σ) (⟨X.heap,0,0,st0⟩:Mc σ) 0 (.slice (some ⟨gh,0,none⟩) X.heap.length X.heap.length))) (.slice (some ⟨g,0,none⟩) X.cz.length X.cz.length) X.cz):=hCo.later xax hbM
  clear hM3 hLk hA3 hMi hCo hHo hR2 hbM hbo hL
  have HRE:Hid (xcL E X st0 s name args=xbh (⟨E,.slice (some ⟨g,0,none⟩) X.cz.length X.cz.length,X.ez,.func (.func LF) #[] lc,.func (.func QF) #[] qc⟩:Mp σ).E 20 ⟨X.heap,0,0,st0⟩ (xak (⟨E,.slice (some ⟨g,0,none⟩) X.cz.length X.cz.length,X.ez,.func (.func LF) #[] lc,.func (.func QF) #[] qc⟩:Mp σ).E.cz (xap X.heap s) name).1 (xak (⟨E,.slice (some ⟨g,0,none⟩) X.cz.length X.cz.length,X.ez,.func (.func LF) #[] lc,.func (.func QF) #[] qc⟩:Mp σ).E.cz (xap X.heap s) name).2 s args):=by
   show xcL E X st0 s name args=xbh E 20 ⟨X.heap,0,0,st0⟩ (xak E.cz (xap X.heap s) name).1 (xak E.cz (xap X.heap s) name).2 s args
   rw[hEc];rfl
  rw[← HRE.out] at hfst;clear HRE;obtain⟨R,hRn⟩:∃ R,xcL E X st0 s name args=R:=⟨_,rfl⟩;rw[hRn] at hfst HPE;clear hRn;obtain⟨rm,v,er⟩:=R;unfold xrY at HPE;simp only at HPE;obtain⟨V3,hV3⟩:∃ V3,V3=w2'.alloc (MB (⟨E,.slice (some ⟨g,0,none⟩) X.cz.length X.cz.length,X.ez,.func (.func LF) #[] lc,.func (.func QF) #[] qc⟩:Mp σ) (⟨X.heap,0,0,st0⟩:Mc σ) 0 (.slice (some ⟨gh,0,none⟩) X.heap.length X.heap.length)):=⟨_,rfl⟩;rw[← hV3] at hfst hR3 HBW3 HCo3;have hV3':(w2'.alloc (.cells #[.slice (some ⟨g,0,none⟩) X.cz.length X.cz.length,.slice (some ⟨gh,0,none⟩) X.heap.length X.heap.length,.int .i64 X.ez,.int .i64 fuel,.int .i64 0,.int .i64 0,.int .i64 0,.func (.func LF) #[] lc,.func (.func QF) #[] qc] 217))=V3:=by rw[hV3,← HFU.out]
  have hz3:w2'.heap.size<V3.heap.size:=by rw[hV3];simp
  clear hV3
  go_upto_region 9 with (fail)
  try rw[hV3']
  clear hV3';obtain⟨w0,w1,w2,c0,c1,c2,c3,-⟩:=id hR3;have HMB:Hid (w2'.heap.size<V3.heap.size):=hz3;clear hz3 hq1 hq2 hsf;generalize w2'.heap.size=mb at *;go_wp2_with fail;refine hfst.mono ?_;rintro e w4 ⟨rfl,⟨T4',hX4,⟨hv4,g4,s4,hM4⟩,hL4⟩,hK4⟩;simp only at hM4 hL4;have hR4:=hR3.kp hK4 (fun i hi=>by rw[T4 i hi];unfold All;omega)
  have HB4:Hid (Kp (fun t=>t=3) T0 w w4):=⟨hK4.os.trans HBW3.out.os,hK4.tape.trans HBW3.out.tape,hK4.output.trans HBW3.out.output,qzD HBW3.out.size hK4.size,fun x hx hs=>(hK4.blk x (qzE hx HBW3.out.size) (by rw[TO x hx];have:=hTo x hx;unfold All;omega)).trans (HBW3.out.block x hx)⟩
  have HX4:Hid (Ext T0 T4' w):=hXt.trans HBW3.out.size hX4;have HL4:=hid hL4;have t42:T4' (w.heap.size+2)=4:=by rw[hX4 _ (by have:=hR3.sz;omega)];exact T4 2 (by omega)
  have t43:T4' (w.heap.size+3)=4:=by rw[hX4 _ (by have:=hR3.sz;omega)];exact T4 3 (by omega)
  have hlm4:mb<w4.heap.size:=xam hM4.box;have hmw:w.heap.size+4<=mb:=by omega
  have HCo4:Hid (xag (fun x=>(T4' x=0\/T4' x=2)/\w.heap.size<=x) w4 (.slice (some ⟨g,0,none⟩) X.cz.length X.cz.length) X.cz):=HCo3.out.keep xax (Keeps.of_block fun x hx hl=>hK4.blk x hl (by rw[Tc x hx.1 hx.2];unfold All;omega)) fun x hx=>⟨Or.inl (by rw[hX4 x (by have:=HMB.out;have:=hx.2;omega),Tc x hx.1 hx.2]),by have:=hx.1;omega⟩
  have TZ:Hid (∀ x,x<w.heap.size->T4' x=0\/T4' x=3):=fun x hx=>by rw[hX4 x (qzE hx HBW3.out.size),TO x hx];exact hTo x hx
  clear hfst w0 w1 w2 c0 c1 c2 c3 hR3 hX4 hK4 HCo3 TO T4 Tc Th Tm hL4 hXt hkT;have hbv4:=xai w4 (.cells #[.int .i64 v.k,.int .i64 v.n] 41);have hM5:=hM4.later hbv4;have HCo5:=hid (HCo4.out.later xax hbv4);have hR5:=hR4.later hbv4;have HB5:=hid (HB4.out.on hbv4);have HL5:=hid (hLo.keep HL4.out (.refl _ _) (Kp.of_below (S:=fun _=>False) hbv4) id id)
  have v0:(w4.alloc (.cells #[.int .i64 v.k,.int .i64 v.n] 41)).cell? ⟨w4.heap.size,0,none⟩=some (.int .i64 v.k):=xab _ _ _ _ rfl 0;have v1:(w4.alloc (.cells #[.int .i64 v.k,.int .i64 v.n] 41)).cell? ⟨w4.heap.size,1,none⟩=some (.int .i64 v.n):=xab _ _ _ _ rfl 1;have hsz4:=hR4.sz
  go_upto_region 10 with (fail)
  clear hM4 hR4 hbv4;generalize hv4z:w4.heap.size=vb at *;generalize (w4.alloc (.cells #[.int .i64 v.k,.int .i64 v.n] 41))=V5 at *
  by_cases he:er=0
  ·have he':(er != 0)=false:=by simpa using he
   rw[if_neg (by simpa using he)] at HPE
   clear he;obtain⟨cap4,hv4e,-⟩:=hM5.heap.form;have m0:V5.cell? ⟨mb,0,none⟩=some (.slice (some ⟨g,0,none⟩) X.cz.length X.cz.length):=hM5.c0;have m1:=hM5.c1;have m2:V5.cell? ⟨mb,2,none⟩=some (.int .i64 X.ez):=hM5.c2;have m4:=hM5.c4;rw[hv4e] at m1;have HQ:=hid fun u0 u1 u2 v0 v1 v2 v3=>WiPost.fin hLo (r:=(⟨rm.heap,v,0,rm.sz_⟩,rm.st)) (P:=fun x=>(T4' x=0\/T4' x=2)/\w.heap.size<=x) HB5.out HX4.out HL5.out t42 t43 HCo5.out (hM5.heap.heap.mono xaB fun x hx=>⟨Or.inr hx.2,Nat.le_of_not_lt fun hl=>by have:=TZ.out x hl;rw[hx.2] at this;omega⟩) (fun h=>by have:=h.1;rw[t42] at this;omega) (fun h=>by have:=h.1;rw[t43] at this;omega) (fun x hx=>⟨hx.2,by have:=hx.1;omega⟩) u0 u1 u2 v0 v1 v2 v3
   rw[hv4e] at HQ;obtain⟨w0,w1,w2,c0,c1,c2,c3,a0,a1,a2,af,b0,b1,b2,b3,bf,-⟩:=id hR5;have n1:¬ mb=w.heap.size+2:=by omega
   have n2:¬ mb=w.heap.size+3:=by omega
   have n3:¬ w.heap.size+2=mb:=by omega
   have n4:¬ w.heap.size+3=mb:=by omega
   have n5:¬ vb=w.heap.size+2:=by omega
   have n6:¬ vb=w.heap.size+3:=by omega
   have n7:¬ w.heap.size+2=vb:=by omega
   have n8:¬ w.heap.size+3=vb:=by omega
   clear hM5 hR5 hv4e;simp only[Nat.add_assoc,Nat.reduceAdd] at *;go_wp2
   go_region
   all_goals (
    go_wp2;rw[HPE.out];refine bodyPost_ret (v:=.tuple #[WV (.slice (some ⟨g,0,none⟩) X.cz.length X.cz.length) (.slice (some ⟨g4,0,none⟩) rm.heap.length cap4) X.ez,RnV ⟨rm.heap,v,0,rm.sz_⟩]) ?_ rfl ((HQ.out _ _ _ _ _ _ _).drew hLo)
    simp[results,Tryz.results108,go_sem,a0,a1,a2,b0,b1,b2,b3])
  ·have he':(er != 0)=true:=by simpa using he
   rw[if_pos (by simpa using he)] at HPE
   clear he;have m4:=hM5.c4;have hownD:=hown V5.drew HB5.out.drew;have hS0:EeR w mb (.slice ac X.cz.length cc) (.slice ah X.heap.length ch) X.ez rm.sz_ V5.drew:=⟨hR5.w0,hR5.w1,hR5.w2,m4,by omega⟩
   have hRd:=hR5.later (Below.refl _ V5).drew;have HB6:=hid HB5.out.drew;have HX6:Hid (Ext T0 (xbc T4' V5.drew 4) w):=HX4.out.trans HB6.out.size (xaQ T4' V5.drew 4);have HL6:Hid (L (xbc T4' V5.drew 4) V5.drew rm.st _):=hLo.keep HL5.out (fun x hx=>xaQ T4' V5.drew 4 x hx) (Kp.refl (fun _=>False) _ _).drew id id
   have t62:xbc T4' V5.drew 4 (w.heap.size+2)=4:=by rw[xaQ T4' V5.drew 4 _ (by have:=hRd.sz;omega)];exact t42
   have t63:xbc T4' V5.drew 4 (w.heap.size+3)=4:=by rw[xaQ T4' V5.drew 4 _ (by have:=hRd.sz;omega)];exact t43
   have hV5z:w.heap.size+4<=V5.drew.heap.size:=hRd.sz;clear hM5 hR5 m4;simp only[Nat.add_assoc,Nat.reduceAdd] at *;go_wp2
   go_region_held3 (fun w'=>w'.cell? ⟨w.heap.size,0,none⟩=some (.slice ac X.cz.length cc)/\w'.cell? ⟨w.heap.size,1,none⟩=some (.slice ah X.heap.length ch)/\w'.cell? ⟨w.heap.size,2,none⟩=some (.int .i64 X.ez)/\w'.cell? ⟨mb,4,none⟩=some (.int .i64 rm.sz_))
    (first | with_reducible exact hS0.al | with_reducible exact hY.al | with_reducible exact (((hY.set (Or.inl rfl) _ _).set (Or.inl rfl) _ _).set (Or.inl rfl) _ _).al | with_reducible exact (((((((hY.set (Or.inl rfl) _ _).set (Or.inl rfl) _ _).set (Or.inl rfl) _ _).set (Or.inr rfl) _ _).set (Or.inr rfl) _ _).set (Or.inr rfl) _ _).set (Or.inr rfl) _ _).al | with_reducible exact ((((hY.set (Or.inr rfl) _ _).set (Or.inr rfl) _ _).set (Or.inr rfl) _ _).set (Or.inr rfl) _ _).al)
    (first | (go_at_call 32;refine hownD.mono ?_;rintro e w6 ⟨g',gh',sh',rfl,hCo,hHo,hgh',hbo⟩;have hY:=hS0.later hbo;have HQ:=hid (fun u0 u1 u2 v0 v1 v2 v3=>WiPost.fin hLo (r:=(⟨X.heap,xa4,er,rm.sz_⟩,rm.st)) (P:=fun b=>V5.drew.heap.size<=b) (HB6.out.on hbo) HX6.out (hLo.keep HL6.out (.refl _ _) (Kp.of_below (S:=fun _=>False) hbo) id id) t62 t63 (hCo.mono xax fun b h=>h.1) ((hHo.isHeap hbyh).mono xaB fun b h=>qzD hgh' h) (by omega) (by omega) (fun x hx=>⟨by omega,by rw[xba hx];omega⟩) u0 u1 u2 v0 v1 v2 v3);obtain⟨-,-,-,-,-,-,-,a0,a1,a2,af,b0,b1,b2,b3,bf,-⟩:=id (hRd.later hbo);clear hCo hHo))
   all_goals (
    go_wp2;rw[HPE.out];refine bodyPost_ret (v:=.tuple #[WV (.slice (some ⟨g',0,none⟩) X.cz.length X.cz.length) (.slice (some ⟨gh',0,none⟩) X.heap.length X.heap.length) X.ez,RnV ⟨X.heap,xa4,er,rm.sz_⟩]) ?_ rfl (HQ.out _ _ _ _ _ _ _)
    simp[results,Tryz.results108,go_sem,a0,a1,a2,b0,b1,b2,b3])
 ·have hz':(ws != 0)=true:=by simpa using hz
  rw[if_pos (by simpa using hz)] at HPE
  clear HWI hz;go_wp2_with fail;refine (hown _ (Kp.of_below HB1.out)).mono ?_;rintro e w2' ⟨g,gh,sh,rfl,hCo,hHo,hgh,hbo⟩;have hR2:=hR1.later hbo;have hsz:=hR1.sz;have HQ:=hid fun u0 u1 u2 v0 v1 v2 v3=>WiPost.fin hLo (r:=(⟨X.heap,xa4,ws,0⟩,st0)) (P:=fun b=>w1'.heap.size<=b) (Kp.of_below (xaf HB1.out hbo)) (xaQ T0 w 4) (hLo.keep hL (xaQ T0 w 4) (Kp.of_below (S:=fun _=>False) (xaf HB1.out hbo)) id id) (xba (by omega)) (xba (by omega)) (hCo.mono xax fun b h=>h.1) ((hHo.isHeap hbyh).mono xaB fun b h=>by omega) (by omega) (by omega) (fun x hx=>⟨by omega,by rw[xba (by omega)];omega⟩) u0 u1 u2 v0 v1 v2 v3
  clear w0 w1 w2 c0 c1 c2 c3 hCo hHo hown;obtain⟨w0,w1,w2,c0,c1,c2,c3,a0,a1,a2,af,b0,b1,b2,b3,bf,-⟩:=id hR2;go_wp2;rw[HPE.out];refine bodyPost_ret (v:=.tuple #[WV (.slice (some ⟨g,0,none⟩) X.cz.length X.cz.length) (.slice (some ⟨gh,0,none⟩) X.heap.length X.heap.length) X.ez,RnV ⟨X.heap,xa4,ws,0⟩]) ?_ rfl (HQ.out _ _ _ _ _ _ _)
  simp[results,Tryz.results108,go_sem,a0,a1,a2,b0,b1,b2,b3]
theorem xiI {P:Nat->Prop}(X:QW)(cv hv:Value)(w:World)(h1:xag P w cv X.cz)(h2:xav P w hv X.heap):Calls Tryz.prog 32 #[WV cv hv X.ez] w fun e w'=>∃ g gh s,e=.returned (WV (.slice (some ⟨g,0,none⟩) X.cz.length X.cz.length) (.slice (some ⟨gh,0,none⟩) X.heap.length X.heap.length) X.ez)/\OwnC w' g X.cz s X.cz.length/\
  xav (fun b=>s X.cz.length<=b/\b<w'.heap.size) w' (.slice (some ⟨gh,0,none⟩) X.heap.length X.heap.length) X.heap/\w.heap.size<=g/\Below w.heap.size w w':=by
 obtain⟨-,-,-,-,-,hby,-⟩:=id h2;refine (xn9 X cv hv w h1 h2).mono ?_;rintro e w' ⟨g,gh,s,rfl,hO,⟨sh,hR⟩,hs,hg,hb⟩;have hH:=hR.heap hby (T:=fun b=>if gh<=b then 2 else 0) fun b h _=>by rw[if_pos h]
 refine⟨g,gh,s,rfl,hO,hH.heap.mono xaB fun b h=>⟨?_,h.1⟩,hg,hb⟩
 have h2:=h.2;dsimp only at h2
 split at h2
 ·omega
 ·cases h2
section
variable {σ α:Type}
structure Cnt (E:Env σ)(A B:σ->Nat):Prop where
 a:∀ st s c nm,A (E.look st s c nm).1=A st+1
 b:∀ st s c nm,B (E.look st s c nm).1=B st\/(B (E.look st s c nm).1=B st+1/\xaz E.cz (E.look st s c nm).2.1 (E.look st s c nm).2.2=none)
structure StInv (A B:σ->Nat)(k:Int)(m:Mc σ)(r:Mc σ × α × Int):Prop where
 good:r.2.2=0->(A r.1.st:Int)+m.sz_+k<=A m.st+r.1.sz_/\B r.1.st=B m.st
 bad:r.2.2≠0->(A r.1.st:Int)+m.sz_+k<=A m.st+r.1.sz_+1/\(B r.1.st=B m.st\/(r.2.2=10/\B r.1.st=B m.st+1))
theorem StInv.of {A B:σ->Nat}{m:Mc σ}{r:Mc σ × α × Int}(h1:r.1.st=m.st)(h2:m.sz_<=r.1.sz_):StInv A B 0 m r:=⟨fun _=>by rw[h1];exact⟨by omega,rfl⟩,fun _=>by rw[h1];exact⟨by omega,Or.inl rfl⟩⟩
theorem xkj (m:Mc σ)(f:Fr)(a b:Int):(xa3 m f a b).1.st=m.st/\(xa3 m f a b).1.sz_=m.sz_:=by
 unfold xa3
 by_cases h:b<=a
 ·simp only[h,if_true];split<;>exact⟨rfl,rfl⟩
 ·simp only[h,if_false];split<;>exact⟨rfl,rfl⟩
theorem xlz (E:Env σ)(d:Nat)(m:Mc σ):(xar E d m).1.st=m.st/\m.sz_<=(xar E d m).1.sz_/\((xar E d m).2=0->(xar E d m).1.sz_=m.sz_+1):=by
 unfold xar
 split
 ·exact⟨rfl,by simp,fun h=>by cases h⟩
 ·split
  ·exact⟨rfl,by simp,fun h=>by cases h⟩
  ·exact⟨rfl,by simp;omega,fun _=>rfl⟩
def xlW (A B:σ->Nat)(ent:Ent σ)(E:Env σ):Prop:=∀ m c n s a,StInv A B 1 m (ent m c n s a)/\(xaz E.cz c n=none->ent m c n s a=(m,xa4,10))
theorem xpP {A B:σ->Nat}{E:Env σ}(hC:Cnt E A B){ent:Ent σ}(he:xlW A B ent E)(d:Nat)(m:Mc σ)(f:Fr)(a:Int)(x:QI):StInv A B 0 m (xaj ent E d m f a x):=by
 have self:∀ (g:Fr) (e:Int),StInv A B 0 m (m,g,e):=fun g e=>.of rfl (Int.le_refl _)
 unfold xaj
 split
 ·exact self _ _
 ·split
  ·exact self _ _
  ·split
   ·exact self _ _
   ·split
    ·exact self _ _
    ·split
     ·exact .of rfl (Int.le_refl _)
     ·split
      ·unfold xci;split
       ·exact self _ _
       ·exact .of rfl (Int.le_refl _)
      ·split
       ·unfold xbO;simp only;generalize xbI f.stack x.a=k;have ha:=hC.a m.st (f.site a x) (xap m.heap (xaL (f.stack.take k) 0)) x.name;have hb:=hC.b m.st (f.site a x) (xap m.heap (xaL (f.stack.take k) 0)) x.name;generalize E.look m.st (f.site a x) (xap m.heap (xaL (f.stack.take k) 0)) x.name=l at ha hb ⊢;obtain⟨h1,h2⟩:=he { m with st:=l.1 } l.2.1 l.2.2 (xaL (f.stack.take k) 0) (f.stack.drop k)
        generalize ent { m with st:=l.1 } l.2.1 l.2.2 (xaL (f.stack.take k) 0) (f.stack.drop k)=r at h1 h2 ⊢
        rcases hb with hb | ⟨hb,hn⟩
        ·by_cases h0:r.2.2=0
         ·rw[if_neg (by simpa using h0)]
          have:=h1.good h0;simp only at this
          exact⟨fun _=>⟨by simp only;omega,by rw[this.2];exact hb⟩,fun h=>absurd rfl h⟩
         ·rw[if_pos h0];have:=h1.bad h0;simp only at this;refine⟨fun h=>absurd h h0,fun _=>⟨by simp only;omega,?_⟩⟩
          rcases this.2 with h | ⟨h,h'⟩
          ·exact Or.inl (h.trans hb)
          ·exact Or.inr ⟨h,by rw[h',hb]⟩
        ·have e:=h2 hn;subst e;rw[if_pos (by simp)]
         exact⟨(fun h=>by cases h),fun _=>⟨by simp only;omega,Or.inr ⟨rfl,hb⟩⟩⟩
       ·split
        ·have:=xkj m f a x.a
         exact .of this.1 (by rw[this.2];exact Int.le_refl _)
        ·split
         ·unfold xbQ
          split
          ·exact self _ _
          ·split
           ·have:=xkj m f.pop a x.a
            exact .of this.1 (by rw[this.2];exact Int.le_refl _)
           ·exact self _ _
         ·unfold xb7
          split
          ·exact self _ _
          ·split
           ·exact self _ _
           ·split
            ·exact self _ _
            ·split
             ·exact .of rfl (Int.le_refl _)
             ·split
              ·have:=xlz E d m
               exact .of this.1 this.2.1
              ·exact self _ _
theorem xni {A B:σ->Nat}{E:Env σ}(hC:Cnt E A B){ent:Ent σ}(he:xlW A B ent E)(d:Nat):∀ (g:Nat) (m:Mc σ) (f:Fr),StInv A B 0 m (xck ent E d g m f)
 | 0,m,f=>.of rfl (Int.le_refl _)
 | g+1,m,f=>by
  unfold xck;generalize (if f.pc<0 then none else f.code[f.pc.toNat]?)=q
  cases q with
  | none=>exact .of rfl (Int.le_refl _)
  | some x=>
   simp only[]
   by_cases h17:x.op=17
   ·rw[if_pos h17];exact .of rfl (Int.le_refl _)
   ·rw[if_neg h17];have hs:=xpP hC he d m { f with pc:=f.pc+1 } f.pc x
    generalize xaj ent E d m { f with pc:=f.pc+1 } f.pc x=r at hs ⊢
    by_cases h0:r.2.2=0
    ·rw[if_neg (by simpa using h0)]
     have ih:=xni hC he d g r.1 r.2.1;obtain⟨i1,i2⟩:=hs.good h0;refine⟨fun h=>?_,fun h=>?_⟩
     ·obtain⟨j1,j2⟩:=ih.good h
      exact⟨by omega,j2.trans i2⟩
     ·obtain⟨j1,j2⟩:=ih.bad h;refine⟨by omega,?_⟩
      rcases j2 with j | ⟨j,j'⟩
      ·exact Or.inl (j.trans i2)
      ·exact Or.inr ⟨j,by rw[j',i2]⟩
    ·rw[if_pos h0]
     exact⟨fun h=>absurd h h0,fun _=>hs.bad h0⟩
theorem xjc {A B:σ->Nat}{E:Env σ}(d:Nat){body:Mc σ->Fr->Mc σ × QV × Int}(hb:∀ m f,StInv A B 0 m (body m f)):xlW A B (xbs E d body) E:=fun m c n s a=>by
 have self:∀ (v:QV) (e:Int),e≠0->StInv A B 1 m (m,v,e):=fun v e he=>⟨fun h=>absurd h he,fun _=>⟨by simp only;omega,Or.inl rfl⟩⟩
 unfold xbs
 cases xaz E.cz c n with
 | none=>exact⟨self _ _ (by omega),fun _=>rfl⟩
 | some mt=>
  refine⟨?_,fun h=>by cases h⟩
  simp only
  split
  ·exact self _ _ (by omega)
  ·split
   ·split
    ·exact self _ _ (by omega)
    ·exact⟨fun _=>⟨by simp only;omega,rfl⟩,fun _=>⟨by simp only;omega,Or.inl rfl⟩⟩
   ·obtain⟨c1,c2,c3⟩:=xlz E d m
    split
    ·rename_i h;exact self _ _ h
    ·rename_i h;have h0:(xar E d m).2=0:=by simpa using h
     have c4:=c3 h0;have ih:=hb (xar E d m).1 (xaT E c n mt s a);generalize body (xar E d m).1 (xaT E c n mt s a)=r at ih ⊢;refine⟨fun h=>?_,fun h=>?_⟩
     ·obtain⟨j1,j2⟩:=ih.good h;rw[c1] at j1 j2
      exact⟨by omega,j2⟩
     ·obtain⟨j1,j2⟩:=ih.bad h;rw[c1] at j1 j2
      exact⟨by omega,j2⟩
theorem xof {A B:σ->Nat}{E:Env σ}(hC:Cnt E A B):∀ d,xlW A B (xbh E d) E
 | 0=>xjc 0 fun m f=>.of rfl (Int.le_refl _)
 | d+1=>xjc (d+1) fun m f=>xni hC (xof hC d) d _ m f
end
theorem xfy:∀ (x y z:List UInt8),Op.bytesLess x y=true->Op.bytesLess y z=true->Op.bytesLess x z=true
 | [],[],z,h,_=>by simp[Op.bytesLess] at h
 | [],b :: y,[],_,k=>by simp[Op.bytesLess] at k
 | [],b :: y,c :: z,_,_=>by simp[Op.bytesLess]
 | a :: x,[],z,h,_=>by simp[Op.bytesLess] at h
 | a :: x,b :: y,[],_,k=>by simp[Op.bytesLess] at k
 | a :: x,b :: y,c :: z,h,k=>by
  simp only[Op.bytesLess,Bool.or_eq_true,decide_eq_true_eq,Bool.and_eq_true,beq_iff_eq] at h k ⊢
  rcases h with h | ⟨rfl,h⟩
  ·rcases k with k | ⟨rfl,k⟩
   ·exact Or.inl (UInt8.lt_trans h k)
   ·exact Or.inl h
  ·rcases k with k | ⟨rfl,k⟩
   ·exact Or.inl k
   ·exact Or.inr ⟨rfl,xfy x y z h k⟩
theorem xgi:∀ (x:List UInt8),Op.bytesLess x x=false
 | []=>rfl
 | a :: x=>by simp[Op.bytesLess,xgi x]
theorem xiH:∀ (x y:List UInt8),Op.bytesLess x y=true\/x=y\/Op.bytesLess y x=true
 | [],[]=>Or.inr (Or.inl rfl)
 | [],b :: y=>Or.inl (by simp[Op.bytesLess])
 | a :: x,[]=>Or.inr (Or.inr (by simp[Op.bytesLess]))
 | a :: x,b :: y=>by
  simp only[Op.bytesLess,Bool.or_eq_true,decide_eq_true_eq,Bool.and_eq_true,beq_iff_eq]
  rcases UInt8.lt_or_lt_of_ne (a:=a) (b:=b) |> fun h=>(Classical.em (a=b)).elim (fun e=>Or.inr e) (fun e=>Or.inl (h e)) with (h | h) | rfl
  ·exact Or.inl (Or.inl h)
  ·exact Or.inr (Or.inr (Or.inl h))
  ·rcases xiH x y with h | rfl | h
   ·exact Or.inl (Or.inr ⟨rfl,h⟩)
   ·exact Or.inr (Or.inl rfl)
   ·exact Or.inr (Or.inr (Or.inr ⟨rfl,h⟩))
theorem xoq {a b:ByteArray}:gtN a b=true ↔ ltN b a=true:=by
 unfold gtN ltN
 constructor
 ·intro h;simp only[Bool.and_eq_true,Bool.not_eq_true',beq_eq_false_iff_ne] at h
  rcases xiH a.toList b.toList with k | k | k
  ·rw[h.1] at k;cases k
  ·exact absurd k (by simpa using h.2)
  ·exact k
 ·intro h
  have h1:Op.bytesLess a.toList b.toList=false:=by
   cases k:Op.bytesLess a.toList b.toList
   ·rfl
   ·have:=xfy _ _ _ h k;rw[xgi] at this;cases this
  have h2:¬ a.toList=b.toList:=fun e=>by rw[e,xgi] at h;cases h
  simp[h1,h2]
theorem xed {a b:ByteArray}:eqN a b=true ↔ a.toList=b.toList:=by simp[eqN]
theorem xr2 {a b c:ByteArray}(h:eqN a b=true)(k:ltN a c=true):ltN b c=true:=by
 unfold ltN at k ⊢;rw[← xed.1 h];exact k
theorem xnt {a b c:ByteArray}(h:ltN a b=true)(k:ltN b c=true):ltN a c=true:=xfy _ _ _ h k
theorem xjh {a b:ByteArray}(h:ltN b a=true):eqN a b=false:=by
 cases k:eqN a b
 ·rfl
 ·unfold ltN at h;rw[xed.1 k,xgi] at h;cases h
theorem xfG {X:QW}{j:Nat}{ms:List QM}(h:∀ i y,ms[i]?=some y->rmE X j ms i y=0):∀ (e i:Nat) (a b:QM),ms[i]?=some a->ms[i+e+1]?=some b->ltN a.name b.name=true
 | 0,i,a,b,ha,hb=>by
  have h1:=h (i+1) b hb;unfold rmE at h1
  split at h1
  ·cases h1
  ·rename_i h2;simp only[xhH,ha] at h2
   simpa using h2
 | e+1,i,a,b,ha,hb=>by
  have hlt:=xad hb;obtain⟨p,hp⟩:∃ p,ms[i+e+1]?=some p:=⟨_,List.getElem?_eq_getElem (by omega)⟩
  have h1:=h (i+(e+1)+1) b hb;unfold rmE at h1
  split at h1
  ·cases h1
  ·rename_i h2;have e1:ms[i+(e+1)]?=some p:=hp;simp only[xhH,e1] at h2
   exact xnt (xfG h e i a p ha hp) (by simpa using h2)
theorem xfT {X:QW}(hX:xau X=0){c k n:Int}{a b:QM}(ha:xaz X.cz c k=some a)(hb:xaz X.cz c n=some b)(hn:a.name=b.name):a=b:=by
 obtain⟨kc,kk,x,rfl,rfl,hx,hak⟩:=xhh ha;obtain⟨kc',kn,x',e1,rfl,hx',hbn⟩:=xhh hb;have:kc'=kc:=by omega
 subst this;rw[hx] at hx'
 cases hx'
 obtain⟨-,-,hM,-⟩:=xbX hX;have h1:=hM kc' x (xad hx) hx;unfold rkE at h1
 split at h1
 ·cases h1
 ·split at h1
  ·cases h1
  ·have hall:=xbH h1
   rcases Nat.lt_trichotomy kk kn with hlt | heq | hgt
   ·have:=xfG hall (kn-kk-1) kk a b hak (by rw[show kk+(kn-kk-1)+1=kn by omega];exact hbn)
    have h2:=xjh this;rw[hn,xed.2 rfl] at h2
    cases h2
   ·subst heq;rw[hak] at hbn
    cases hbn
    rfl
   ·have:=xfG hall (kk-kn-1) kn b a hbn (by rw[show kn+(kk-kn-1)+1=kk by omega];exact hak)
    have h2:=xjh this;rw[hn,xed.2 rfl] at h2
    cases h2
def xgA (cs:List QC)(s:QS)(nm:ByteArray):Prop:=∃ n mt,∃ k:Nat,∃ x,xaz cs s.cls n=some mt/\mt.name=s.name/\s.at'=(k:Int)/\mt.code[k]?=some x/\x.op=14/\x.name=nm
theorem xpE {X:QW}(hX:xau X=0){s:QS}{a b:ByteArray}(ha:xgA X.cz s a)(hb:xgA X.cz s b):a=b:=by
 obtain⟨n,mt,k,x,h1,h2,h3,h4,-,rfl⟩:=ha;obtain⟨n',mt',k',x',h1',h2',h3',h4',-,rfl⟩:=hb;obtain rfl:mt=mt':=xfT hX h1 h1' (by rw[h2,h2'])
 obtain rfl:k=k':=by omega
 rw[h4] at h4'
 cases h4'
 rfl
end Go.Proofs.YtbafokihegegiaaGreatDoor
