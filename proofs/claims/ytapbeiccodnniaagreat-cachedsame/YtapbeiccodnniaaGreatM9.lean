/- A part. -/
import Derived.Test.YtapbeiccodnniaaGreatM8
namespace Go.Proofs.YtapbeiccodnniaaGreat
open Go.ChangeShapes Go.WideShapes Go.ChangeAt Go.RowKit
set_option linter.unusedSimpArgs false
set_option linter.unusedVariables false
set_option maxHeartbeats 8000000
set_option maxRecDepth 8000
section
variable {σ:Type}
variable {p:Mp σ} {L:(Nat->Nat)->World->σ->Nat->Prop} {LF QF:Nat} {lc qc:Array Value} {T T':Nat->Nat} {w w':World} {mb:Nat} {m m':Mc σ} {hv:Value} {g:Nat} {s:Nat->Nat} {K fb:Nat} {f:Fr} {cv av tv sv kv:Value}
theorem xmv (c n:Int)(w:World):Calls Tryz.prog 24 #[.int .i64 c,.int .i64 n] w fun e w'=>e=.returned (.tuple #[FaV 0 ⟨#[]⟩ 0 0 (.slice none 0 0),.bool false])/\Below w.heap.size w w':=by
 go_enter Tryz.func24,Tryz.ntmps24;go_wp2;refine bodyPost_ret (v:=.tuple #[FaV 0 ⟨#[]⟩ 0 0 (.slice none 0 0),.bool false]) ?_ rfl ⟨rfl,xaj _ _⟩
 simp[results,Tryz.results24,go_sem]
structure EnR (w:World)(sf:QV)(w':World):Prop where
 s0:w'.cell? ⟨w.heap.size,0,none⟩=some (.int .i64 sf.k)
 s1:w'.cell? ⟨w.heap.size,1,none⟩=some (.int .i64 sf.n)
 r0:w'.cell? ⟨w.heap.size+1,0,none⟩=some (.int .i64 0)
 r1:w'.cell? ⟨w.heap.size+1,1,none⟩=some (.int .i64 0)
 rf:∀ o,w'.frozen? ⟨w.heap.size+1,o,none⟩=false
 sz:w.heap.size+2<=w'.heap.size
theorem EnR.kp {w:World}{self:QV}{w' w'':World}{S:Nat->Prop}{T:Nat->Nat}(h:EnR w self w')(k:Kp S T w' w'')(h1:¬ S (T w.heap.size))(h2:¬ S (T (w.heap.size+1))):EnR w self w'':=
 ⟨k.cell h.s0 h1,k.cell h.s1 h1,k.cell h.r0 h2,k.cell h.r1 h2,fun o=>xb6 k (by have:=h.sz;omega) h2 (h.rf o),qzD h.sz k.size⟩
theorem xhM (w:World)(self:QV):EnR w self ((w.alloc (.cells #[.int .i64 self.k,.int .i64 self.n] 27)).alloc (.cells #[.int .i64 0,.int .i64 0] 27)):=by
 obtain⟨a0,a1,r0,r1,rf,sz⟩:=xkp w self
 exact⟨a0,a1,r0,r1,rf,sz⟩
theorem EnPost.fin {calls:Int}{T1:Nat->Nat}{U:World}{r:Mc σ × QV × Int}(hC:Cx p L LF lc QF qc)(hE:Ext T T1 w)(hM:MacAt p T1 U mb r.1 calls hv g s)(hL:L T1 U r.1.st (if r.2.2=0 then xc7 p.E r.1 else 0))(hK:Kp (All K) T w U)(h4:T1 (w.heap.size+1)=4)(u0 u1:Value):EnPost p L T w mb calls K r (.returned (.tuple #[VV r.2.1,.int .i64 r.2.2])) ((U.setCell ⟨w.heap.size+1,0,none⟩ u0).setCell ⟨w.heap.size+1,1,none⟩ u1):=by
 have k:Kp (fun t=>t=4) T1 U ((U.setCell ⟨w.heap.size+1,0,none⟩ u0).setCell ⟨w.heap.size+1,1,none⟩ u1):=((Kp.refl (fun t=>t=4) _ _).set (fun _=>h4) _ _).set (fun _=>h4) _ _
 exact⟨rfl,⟨T1,hE,⟨_,_,_,hM.keep (.refl _ _) k (by omega) (by omega) (by omega)⟩,hC.keep hL (.refl _ _) k (by omega) (by omega)⟩,(hK.set (fun h=>absurd h (by omega)) _ _).set (fun h=>absurd h (by omega)) _ _⟩
def xie (E:Env σ):Nat->Mc σ->Fr->Mc σ × QV × Int
 | 0=>fun m _=>(m,xaU,14)
 | d+1=>fun m f=>xcL (xa1 E d) E d (xeQ f) m f
theorem xlq (E:Env σ)(d:Nat):xa1 E d=xbj E d (xie E d):=by cases d<;>rfl
theorem FrNew.later (h:FrNew T K w fb f cv av)(hb:Below w.heap.size w w'):FrNew T K w' fb f cv av:=⟨xac h.box hb,h.tag,h.args.fx xaK (.refl _ _) (Kp.of_below (S:=fun _=>False) hb) id,h.meth.fx xbl (.refl _ _) (Kp.of_below (S:=fun _=>False) hb) id,h.pos,h.stack⟩
theorem xkc {c k:Int}{mt:QM}{self:QV}{args:List QV}(h:FrNew T K w fb ⟨c,mt,self,args,[],[],[],0,false⟩ cv av)(E:Env σ)(fc:Int)(fn:ByteArray)(fe ft:Int)(kq:Value)(hq:∀ q,E.quick c k=some q->ft=q.2/\xa5 (Fx T w) w kq q.1):Calls Tryz.prog 80 #[.pointer (some ⟨fb,0,none⟩),FaV fc fn fe ft kq,.bool (E.quick c k).isSome] w fun e w'=>e=.returned (.tuple #[])/\∃ T' tv sv kv,Ext T T' w/\FrAt T' K w' fb (xaG E c k mt self args) cv av tv sv kv/\Kp (fun t=>t=K) T w w':=by
 unfold xaG
 cases hk:E.quick c k with
 | none=>exact xil h rfl kq fc fn fe ft
 | some q=>
  obtain⟨rfl,hc⟩:=hq q hk
  exact xjI h kq fc fn fe q.2 q.1 hc
theorem xlU (E:Env σ)(c k:Int)(mt:QM)(self:QV)(args:List QV):(xaG E c k mt self args).cls=c/\(xaG E c k mt self args).meth=mt/\(xaG E c k mt self args).self=self/\(xaG E c k mt self args).args=args/\(xaG E c k mt self args).stack=[]:=by
 unfold xaG
 split<;>exact⟨rfl,rfl,rfl,rfl,rfl⟩
theorem xmw (hC:Cx p L LF lc QF qc){h:Int}{c k:Int}{mt:QM}(hm:xaO p.E.cz c k=some mt){self:QV}{args:List QV}(hs:xas h self=0)(ha:VsOk h args):FOk p.E.cz h (xaG p.E c k mt self args)/\xmK (xaG p.E c k mt self args)/\xeQ (xaG p.E c k mt self args)<=1000000:=by
 obtain⟨f1,f2⟩:=hC.few c k mt hm;unfold xaG
 cases hk:p.E.quick c k with
 | none=>exact⟨⟨hs,ha,xc8 _ _,(fun v hv=>by cases hv),hC.ok.meths _ _ _ hm,hC.ok.meths _ _ _ hm⟩,(fun h=>by cases h),by unfold xeQ;simp only;omega⟩
 | some q=>
  obtain⟨g1,g2⟩:=f2 q hk
  exact⟨⟨hs,ha,xc8 _ _,(fun v hv=>by cases hv),hC.ok.fast _ _ _ hk,hC.ok.meths _ _ _ hm⟩,fun _=>g2,by unfold xeQ;simp only;omega⟩
theorem xgK (hC:Cx p L LF lc QF qc)(d:Nat)(hd:d<=20)(hIh:∀ d',d=d'+1->xek p L d'):xek p L d:=by
 intro K T w mb m hv g s c n self args av hK5 h hL hI hSe hAr hA;have hX:=xao T w 4;have hT4:∀ b,w.heap.size<=b->xau T w 4 b=4:=fun b hb=>xav hb
 have hb1:=xca w (.cells #[.int .i64 self.k,.int .i64 self.n] 27) (.cells #[.int .i64 0,.int .i64 0] 27);have hM0:=(h.tagged0 4).later hb1;have hA0:=(xdR hA xaK 4).fx xaK (.refl _ w) (Kp.of_below (S:=fun _=>False) hb1) id
 have hL0:=hC.keep (hC.keep hL hX (Kp.refl (fun _=>False) _ _) id id) (.refl _ _) (Kp.of_below (S:=fun _=>False) hb1) id id
 have hR0:=xhM w self;have HKW:Hid (Kp (All K) T w ((w.alloc (.cells #[.int .i64 self.k,.int .i64 self.n] 27)).alloc (.cells #[.int .i64 0,.int .i64 0] 27))):=Kp.of_below hb1;obtain⟨aa,ca,rfl,-⟩:=id hA;have hlm:=xaf h.box;clear h hA hL;generalize xau T w 4=T1 at *;have t0:T1 w.heap.size=4:=hT4 _ (qzC _);have t1:T1 (w.heap.size+1)=4:=hT4 _ (by omega)
 go_enter Tryz.func61,Tryz.ntmps61
 go_upto_region 1 with (fail)
 generalize ((w.alloc (.cells #[.int .i64 self.k,.int .i64 self.n] 27)).alloc (.cells #[.int .i64 0,.int .i64 0] 27))=W at *;have hhas:=xmm hM0 c n;have HEN:Hid (xa1 p.E d m c n self args=xbj p.E d (xie p.E d) m c n self args):=by show _=_;rw[xlq]
 go_wp2_with fail;refine hhas.mono ?_;rintro e w1 ⟨rfl,hbw⟩;have hM1:=hM0.later hbw;have hA1:=hA0.fx xaK (.refl _ _) (Kp.of_below (S:=fun _=>False) hbw) id
 have hL1:=hC.keep hL0 (.refl _ _) (Kp.of_below (S:=fun _=>False) hbw) id id
 have hR1:=hR0.kp (T:=T1) (S:=fun _=>False) (Kp.of_below hbw) id id
 have HK1:=hid (HKW.out.on hbw);clear hhas hM0 hA0 hL0 hR0 hbw hb1;obtain⟨s0,s1,r0,r1,rf,sz⟩:=id hR1
 cases hma:xaO p.E.cz c n with
 | none=>
  have HE:Hid (xa1 p.E d m c n self args=(m,xaU,10)):=by show _=_;rw[HEN.out];unfold xbj;rw[hma]
  clear hma HEN;have Q:=fun u0 u1=>EnPost.fin (r:=(m,xaU,10)) hC hX hM1 (by rw[if_neg (by simp)];exact hC.mono hL1 (Nat.zero_le _)) HK1.out t1 u0 u1
  have HQ:=hid Q;clear Q hM1 hL1 hA1 hR1;go_wp2;rw[HE.out];refine bodyPost_ret (v:=.tuple #[VV xaU,.int .i64 10]) ?_ rfl (HQ.out _ _)
  simp[results,Tryz.results61,go_sem,r0,r1]
 | some mt=>
  obtain⟨kc,kn,xc,rfl,rfl,hxc,hxm⟩:=xej hma;obtain⟨ac,cc,hcv,hcl,hcc,-,hrow⟩:=hM1.cls;obtain⟨bc,oc,hac,-,e0,e1,e2,e3,mv,e4,hmv⟩:=hrow kc xc hxc;obtain⟨am,cm,rfl,hml,hcm,-,hrowm⟩:=hmv;obtain⟨bm,om,rfl,hbm,f0,f1,f2,f3,f4,cv,f5,hcode⟩:=hrowm kn mt hxm;obtain⟨ak,ck,rfl,-⟩:=id hcode;have m0:=hM1.c0;rw[hcv,hac] at m0;simp only[Nat.add_zero] at e0 f0;unfold maxLen at hcc hcm;have l1:=xae hxc;have l2:=xae hxm;have c1:(kc:Int)<(p.E.cz.length:Int):=by omega
  have c2:(kn:Int)<(xc.mz.length:Int):=by omega
  have c3:(0:Int)<=(kc:Int):=by omega
  have c4:(0:Int)<=(kn:Int):=by omega
  clear hrow hrowm hcv hac hxc hxm;have hbV:=xaj w1 (.cells #[.string mt.name,.int .i64 mt.args,.int .i64 mt.temps,.int .i64 mt.prim,.slice ak mt.code.length ck] 59);have hM2:=hM1.later hbV;have hA2:=hA1.fx xaK (.refl _ _) (Kp.of_below (S:=fun _=>False) hbV) id
  have hCo2:=hcode.fx xbl (.refl _ _) (Kp.of_below (S:=fun _=>False) hbV) id
  have hL2:=hC.keep hL1 (.refl _ _) (Kp.of_below (S:=fun _=>False) hbV) id id
  have hR2:=hR1.kp (T:=T1) (S:=fun _=>False) (Kp.of_below hbV) id id
  have b0:=xaa w1 #[.string mt.name,.int .i64 mt.args,.int .i64 mt.temps,.int .i64 mt.prim,.slice ak mt.code.length ck] 59 _ rfl 0;have b1:=xaa w1 #[.string mt.name,.int .i64 mt.args,.int .i64 mt.temps,.int .i64 mt.prim,.slice ak mt.code.length ck] 59 _ rfl 1;have b2:=xaa w1 #[.string mt.name,.int .i64 mt.args,.int .i64 mt.temps,.int .i64 mt.prim,.slice ak mt.code.length ck] 59 _ rfl 2;have b3:=xaa w1 #[.string mt.name,.int .i64 mt.args,.int .i64 mt.temps,.int .i64 mt.prim,.slice ak mt.code.length ck] 59 _ rfl 3;have b4:=xaa w1 #[.string mt.name,.int .i64 mt.args,.int .i64 mt.temps,.int .i64 mt.prim,.slice ak mt.code.length ck] 59 _ rfl 4
  have HK2:=hid (HK1.out.on hbV);have tm:T1 w1.heap.size=4:=hT4 _ (by omega)
  have hMz:w1.heap.size<(w1.alloc (.cells #[.string mt.name,.int .i64 mt.args,.int .i64 mt.temps,.int .i64 mt.prim,.slice ak mt.code.length ck] 59)).heap.size:=by simp
  go_upto_region 4 with (fail)
  clear hM1 hA1 hL1 hR1 s0 s1 r0 r1 rf sz e0 e1 e2 e3 e4 f0 f1 f2 f3 f4 f5 m0 hcode hbV HK1;generalize (w1.alloc (.cells #[.string mt.name,.int .i64 mt.args,.int .i64 mt.temps,.int .i64 mt.prim,.slice ak mt.code.length ck] 59))=V at *;simp only[List.getElem?_toArray,List.getElem?_cons_zero,List.getElem?_cons_succ] at b0 b1 b2 b3 b4;generalize w1.heap.size=MBk at *;obtain⟨s0,s1,r0,r1,rf,sz⟩:=id hR2
  have HN:Hid (xa1 p.E d m kc kn self args=if mt.args≠args.length then (m,xaU,8) else if mt.prim≠0 then xa7 p.E m mt.prim self args else if (xay p.E d m).2≠0 then (m,xaU,(xay p.E d m).2) else xie p.E d (xay p.E d m).1 (xaG p.E kc kn mt self args)):=by
   show _=_
   rw[HEN.out];unfold xbj xa7;rw[hma]
  have HMA:=hid hma;clear hma HEN
  by_cases hag:mt.args=(args.length:Int)
  ·have hag':(mt.args != (args.length:Int))=false:=by simpa using hag
   rw[if_neg (by simpa using hag)] at HN
   have HAG:=hid hag;clear hag
   by_cases hpr:mt.prim=0
   ·have hpr':(mt.prim != 0)=false:=by simpa using hpr
    rw[if_neg (by simpa using hpr)] at HN
    have HPR:=hid hpr;clear hpr;have hcc:=xd7 d hM2 hI.sz_.1 (by have:=hC.fuel;omega) rfl hd
    obtain⟨m3,e3,hce⟩:∃ m3 e3,xay p.E d m=(m3,e3):=⟨_,_,rfl⟩;rw[hce] at hcc HN;go_wp2_with fail;refine hcc.mono ?_;rintro e w3 ⟨rfl,hM3,hK3⟩;have hR3:=hR2.kp hK3 (by rw[t0];omega) (by rw[t1];omega)
    have hL3:=hC.keep hL2 (.refl _ _) hK3 (by omega) (by omega)
    have hA3:=hA2.fx xaK (.refl _ _) hK3 (by omega)
    have hCo3:=hCo2.fx xbl (.refl _ _) hK3 (by omega)
    have d0:=hK3.cell b0 (by rw[tm];omega)
    have d1:=hK3.cell b1 (by rw[tm];omega)
    have d2:=hK3.cell b2 (by rw[tm];omega)
    have d3:=hK3.cell b3 (by rw[tm];omega)
    have d4:=hK3.cell b4 (by rw[tm];omega)
    have HK3:=hid (HK2.out.trans hX (hK3.mono (S':=All K) fun t h=>Or.inl h))
    have hMz3:MBk<w3.heap.size:=qzE hMz hK3.size;clear hcc hM2 hA2 hL2 hR2 s0 s1 r0 r1 rf sz b0 b1 b2 b3 b4 hK3 hCo2;obtain⟨s0,s1,r0,r1,rf,sz⟩:=id hR3
    by_cases her:e3=0
    ·subst her;have her':((0:Int) != 0)=false:=by simp
     rw[if_neg (by simp)] at HN
     obtain⟨hd0,hm3,hfu⟩:d≠0/\m3={ m with sz_:=m.sz_+1 }/\¬ p.E.fuel<=m.sz_:=by
      unfold xay at hce
      split at hce
      ·cases hce
      ·rename_i k
       split at hce
       ·cases hce
       ·rename_i k2;exact⟨k2,(congrArg Prod.fst hce).symm,k⟩
     obtain⟨d',rfl⟩:∃ d',d=d'+1:=⟨d-1,by omega⟩
     clear hd0 hce;obtain⟨hFo,hGd,hGas⟩:=xmw hC HMA.out hSe hAr;have hStk:=(xlU p.E kc kn mt self args).2.2.2.2;have HN2:Hid (xa1 p.E (d'+1) m kc kn self args=xcL (xa1 p.E d') p.E d' (xeQ (xaG p.E kc kn mt self args)) m3 (xaG p.E kc kn mt self args)):=HN.out;clear HN
     have hI3:MIn p.E m3:=by
      rw[hm3]
      exact⟨hI.heap,⟨by have:=hI.sz_;simp only;omega,by simp only;omega⟩,hI.tz⟩
     have hFo3:FOk p.E.cz m3.heap.length (xaG p.E kc kn mt self args):=by
      rw[hm3]
      exact hFo
     have hRm3:(xaG p.E kc kn mt self args).stack.length+muE m3 (xaG p.E kc kn mt self args)<=1000000:=by
      have:=xkZ (f:=xaG p.E kc kn mt self args) hI3.tz.1;rw[hStk];simp only[List.length_nil]
      omega
     clear hFo hGas hStk
     have hL3':L T1 w3 m3.st (xc7 p.E m3):=by
      rw[hm3]
      exact hC.mono hL3 (by unfold xc7;simp only;omega)
     clear hL3 hm3 hfu;have HMN:Hid (MBk<w3.heap.size):=hMz3;have q8:=hM3.c8;rw[hC.qv] at q8;have hbF:=xaj w3 (FB ⟨kc,mt,self,args,[],[],[],0,false⟩ (.slice ak mt.code.length ck) (.slice aa args.length ca) (.slice none 0 0) (.slice none 0 0) (.slice none 0 0));have hX4:Ext T1 (xhE T1 w3.heap.size K) w3:=xd5 (qzC _);have hkF:Kp (fun _=>False) T1 w3 _:=Kp.of_below hbF
     have hM4:=hM3.keep hX4 hkF id id id;have hL4:=hC.keep hL3' hX4 hkF id id;have hR4:=hR3.kp (T:=T1) hkF id id
     have hNew:FrNew (xhE T1 w3.heap.size K) K (w3.alloc (FB ⟨kc,mt,self,args,[],[],[],0,false⟩ (.slice ak mt.code.length ck) (.slice aa args.length ca) (.slice none 0 0) (.slice none 0 0) (.slice none 0 0))) w3.heap.size ⟨kc,mt,self,args,[],[],[],0,false⟩ (.slice ak mt.code.length ck) (.slice aa args.length ca):=
      ⟨heap_alloc_new w3 _,xdv _ _ _,hA3.fx xaK hX4 hkF id,hCo3.fx xbl hX4 hkF id,hK5,rfl⟩
     have HK4:=hid (HK3.out.on hbF);have t04:xhE T1 w3.heap.size K w.heap.size=4:=by rw[hX4 _ (by omega)];exact t0
     have t14:xhE T1 w3.heap.size K (w.heap.size+1)=4:=by rw[hX4 _ (by omega)];exact t1
     have HE4:Hid (Ext T (xhE T1 w3.heap.size K) w):=hX.trans HK3.out.size hX4;have q84:=hM4.c8;rw[hC.qv] at q84;have hcf:=hC.qcf
     go_upto_region 12 with (fail)
     generalize xhE T1 w3.heap.size K=T4 at *;generalize (w3.alloc (FB ⟨kc,mt,self,args,[],[],[],0,false⟩ (.slice ak mt.code.length ck) (.slice aa args.length ca) (.slice none 0 0) (.slice none 0 0) (.slice none 0 0)))=V4 at *;clear d0 d1 d2 d3 d4 s0 s1 r0 r1 rf sz q8 hM3 hL3' hR3 hA3 hCo3 hbF hkF hX4;go_wp2_with fail;refine (hC.quick T4 V4 _ kc kn mt _ hL4 HMA.out).mono ?_;rintro e w5 ⟨⟨fc,fn,fe,ft,aq,nq,cq,rfl,hq5⟩,hb5⟩;have hk5:Kp (fun _=>False) T4 V4 w5:=Kp.of_below hb5
     have hM5:=hM4.later hb5;have hL5:=hC.keep hL4 (.refl _ _) hk5 id id;have hR5:=hR4.kp hk5 id id;have hNew5:=hNew.later hb5;have HK5:=hid (HK4.out.on hb5);clear hM4 hL4 hR4 hNew q84 hk5;go_wp2_with fail;refine (xkc hNew5 p.E fc fn fe ft _ hq5).mono ?_;rintro e w6 ⟨rfl,T6,tv,sv,kv,hX6,hF6,hK6⟩;have hM6:=hM5.keep hX6 hK6 (by omega) (by omega) (by omega)
     have hL6:=hC.keep hL5 hX6 hK6 (by omega) (by omega)
     have hR6:=hR5.kp hK6 (by rw[t04];omega) (by rw[t14];omega)
     have hsz5:=hR5.sz;have t06:T6 w.heap.size=4:=by rw[hX6 _ (by omega)];exact t04
     have t16:T6 (w.heap.size+1)=4:=by rw[hX6 _ (by omega)];exact t14
     have HE6:=hid (HE4.out.trans HK5.out.size hX6);have HK6:=hid (HK5.out.trans HE4.out (hK6.mono (S':=All K) fun t h=>by unfold All;omega))
     clear hM5 hL5 hR5 hNew5 hX6 hK6;have m5:=hM6.c5;have mf:=xam hM6.box;have hcw:IntKind.i64.wrap (20-((d'+1:Nat):Int)+1)=20-(d':Int):=by rw[xaE (by omega) (by omega)];omega
     have hcw2:IntKind.i64.wrap (20-(d':Int)-1)=20-((d'+1:Nat):Int):=by rw[xaE (by omega) (by omega)];omega
     obtain⟨cA,hcA⟩:∃ cA:Int,cA=20-((d'+1:Nat):Int):=⟨_,rfl⟩;obtain⟨cB,hcB⟩:∃ cB:Int,cB=20-(d':Int):=⟨_,rfl⟩;rw[← hcA] at m5 hcw hcw2;rw[← hcB] at hcw hcw2;have HCA:=hid hcA;have HCB:=hid hcB;clear hcA hcB;have k7:Kp (fun t=>t=1) T6 w6 (w6.setCell ⟨mb,5,none⟩ (.int .i64 cB)):=(Kp.refl _ _ _).set (fun _=>hM6.tag) _ _
     have hM7:MacAt p T6 (w6.setCell ⟨mb,5,none⟩ (.int .i64 cB)) mb m3 (20-(d':Int)) hv g s:=hM6.turn (m':=m3) k7 (by rw[xkj hM6.box,HCB.out]) rfl
     have hF7:=hF6.keep (.refl _ _) k7 (by omega) (by omega) (by omega) (by omega)
     have hL7:=hC.keep hL6 (.refl _ _) k7 (by omega) (by omega)
     have hR7:=hR6.kp k7 (by rw[t06];omega) (by rw[t16];omega)
     have HK7:=hid (HK6.out.trans HE6.out (k7.mono (S':=All K) fun t h=>Or.inl h))
     have hfin:=xjh hC (by omega) (hIh d' rfl) hM7 hF7 hL7 hI3 hFo3 hGd hRm3
     generalize xcL (xa1 p.E d') p.E d' (xeQ (xaG p.E kc kn mt self args)) m3 (xaG p.E kc kn mt self args)=R at *;go_wp2_with fail;refine (hfin).mono ?_;rintro e w8 ⟨rfl,⟨T8,hX8,⟨hv8,g8,s8,hM8⟩,hL8⟩,hK8⟩;obtain⟨rm,v,er⟩:=R;simp only at hM8 hL8;have hR8:=hR7.kp hK8 (by rw[t06];unfold All;omega) (by rw[t16];unfold All;omega)
     have hsz7:=hR7.sz;have t18:T8 (w.heap.size+1)=4:=by rw[hX8 _ (by omega)];exact t16
     have t08:T8 w.heap.size=4:=by rw[hX8 _ (by omega)];exact t06
     have HE8:=hid (HE6.out.trans HK7.out.size hX8);have HK8:=hid (HK7.out.trans HE6.out hK8);have m58:=hM8.c5;rw[← HCB.out] at m58;have mf8:=xam hM8.box;have hlm8:mb<w8.heap.size:=xaf hM8.box;have hn8:¬ mb=w8.heap.size:=by omega
     have hn8':¬ w8.heap.size=mb:=by omega
     have HM8:=hid hM8;have HL8:=hid hL8;clear hfin hM7 hF7 hL7 hR7 hM6 hF6 hL6 hR6 k7 m5 mf hX8 hK8 hM8 hL8 hI3 hFo3 hGd hRm3 hcf;have kS:Kp (fun t=>t=1) T8 w8 (w8.setCell ⟨mb,5,none⟩ (.int .i64 cA)):=(Kp.refl _ _ _).set (fun _=>HM8.out.tag) _ _
     have hMS:MacAt p T8 (w8.setCell ⟨mb,5,none⟩ (.int .i64 cA)) mb rm (20-((d'+1:Nat):Int)) hv8 g8 s8:=HM8.out.turn (m':=rm) kS (by rw[xkj HM8.out.box,HCA.out]) rfl
     have hbU:Below (w8.setCell ⟨mb,5,none⟩ (.int .i64 cA)).heap.size (w8.setCell ⟨mb,5,none⟩ (.int .i64 cA)) ((w8.setCell ⟨mb,5,none⟩ (.int .i64 cA)).alloc (.cells #[.int .i64 v.k,.int .i64 v.n] 27)):=xaj _ _;have kU:=kS.on hbU;have hMU:=hMS.later hbU;have hLU:=hC.keep HL8.out (.refl _ _) kU (by omega) (by omega)
     have hRU:=hR8.kp kU (by rw[t08];omega) (by rw[t18];omega)
     have v0:((w8.setCell ⟨mb,5,none⟩ (.int .i64 cA)).alloc (.cells #[.int .i64 v.k,.int .i64 v.n] 27)).cell? ⟨w8.heap.size,0,none⟩=some (.int .i64 v.k):=xaa _ _ _ _ (by simp) 0
     have v1:((w8.setCell ⟨mb,5,none⟩ (.int .i64 cA)).alloc (.cells #[.int .i64 v.k,.int .i64 v.n] 27)).cell? ⟨w8.heap.size,1,none⟩=some (.int .i64 v.n):=xaa _ _ _ _ (by simp) 1
     have HQ:=hid fun u0 u1=>EnPost.fin (r:=(rm,v,er)) hC HE8.out hMU hLU (HK8.out.trans HE8.out (kU.mono fun t h=>Or.inl h)) t18 u0 u1
     clear hMU hLU kU kS hMS hbU
     go_upto_region 16 with (fail)
     generalize ((w8.setCell ⟨mb,5,none⟩ (.int .i64 cA)).alloc (.cells #[.int .i64 v.k,.int .i64 v.n] 27))=U at *;obtain⟨s0,s1,r0,r1,rf,sz⟩:=id hRU;have hnz:¬ w.heap.size+1=w8.heap.size:=by have:=hR8.sz;omega
     have hnz':¬ w8.heap.size=w.heap.size+1:=by have:=hR8.sz;omega
     go_wp2;rw[HN2.out];refine bodyPost_ret (v:=.tuple #[VV v,.int .i64 er]) ?_ rfl (HQ.out _ _)
     simp[results,Tryz.results61,go_sem,r0,r1]
    ·have her':(e3 != 0)=true:=by simpa using her
     rw[if_pos her] at HN
     have hm3:m3=m:=by
      have:(xay p.E d m).2≠0:=by rw[hce];exact her
      unfold xay at hce this
      split at hce
      ·exact (congrArg Prod.fst hce).symm
      ·rename_i k;rw[if_neg k] at this
       split at hce
       ·exact (congrArg Prod.fst hce).symm
       ·rename_i k2;rw[if_neg k2] at this;exact absurd rfl this
     subst hm3;have HQ:=hid fun u0 u1=>EnPost.fin (r:=(m3,xaU,e3)) hC hX hM3 (by rw[if_neg her];exact hC.mono hL3 (Nat.zero_le _)) HK3.out t1 u0 u1
     clear hM3 hL3 hA3 hR3 hce;go_wp2;rw[HN.out];refine bodyPost_ret (v:=.tuple #[VV xaU,.int .i64 e3]) ?_ rfl (HQ.out _ _)
     simp[results,Tryz.results61,go_sem,r0,r1]
   ·have hpr':(mt.prim != 0)=true:=by simpa using hpr
    rw[if_pos (by simpa using hpr)] at HN
    clear hpr
    have hbd:∀ v:QV,xas m.heap.length v=0->v.k=3->-1073741824<=v.n/\v.n<=1073741824:=fun v hv h3=>by
     unfold xas xch at hv;rw[h3] at hv
     simp at hv
     omega
    have hpi:=xgv hM2 hI.sz_.1 (by have:=hC.fuel;omega) mt.prim self args _ hA2 (hbd _ hSe) (hbd _ (hAr.entry 0))
    have hsd:(xa7 p.E m mt.prim self args).1.st=m.st/\((xa7 p.E m mt.prim self args).2.2=0->xc7 p.E (xa7 p.E m mt.prim self args).1<=(p.E.fuel-m.sz_).toNat):=by
     unfold xa7
     split
     ·exact⟨rfl,fun h=>by cases h⟩
     ·exact⟨rfl,fun _=>by unfold xc7;simp only;omega⟩
    generalize xa7 p.E m mt.prim self args=r at *;go_wp2_with fail;refine hpi.mono ?_;rintro e w3 ⟨rfl,⟨T3,hX3,hM3⟩,hK3⟩;have hR3:=hR2.kp hK3 (by rw[t0];omega) (by rw[t1];omega)
    have hL3:=hC.keep hL2 hX3 hK3 (by omega) (by omega)
    have t3:T3 (w.heap.size+1)=4:=by rw[hX3 _ (by omega)];exact t1
    have hle:(if r.2.2=0 then xc7 p.E r.1 else 0)<=(p.E.fuel-m.sz_).toNat:=by
     by_cases h0:r.2.2=0
     ·rw[if_pos h0];exact hsd.2 h0
     ·rw[if_neg h0];exact Nat.zero_le _
    have HQ:=hid fun u0 u1=>EnPost.fin (r:=r) hC (hX.trans HK2.out.size hX3) hM3 (by rw[hsd.1];exact hC.mono hL3 hle) (HK2.out.trans hX (hK3.mono fun t h=>Or.inl h)) t3 u0 u1
    clear hpi hM2 hA2 hL2 hR2 s0 s1 r0 r1 rf sz b0 b1 b2 b3 b4 hK3 hM3 hL3;obtain⟨s0,s1,r0,r1,rf,sz⟩:=id hR3;go_wp2;rw[HN.out];refine bodyPost_ret (v:=.tuple #[VV r.2.1,.int .i64 r.2.2]) ?_ rfl (HQ.out _ _)
    simp[results,Tryz.results61,go_sem,r0,r1]
  ·have hag':(mt.args != (args.length:Int))=true:=by simpa using hag
   rw[if_pos (by simpa using hag)] at HN
   clear hag;have HQ:=hid fun u0 u1=>EnPost.fin (r:=(m,xaU,8)) hC hX hM2 (by rw[if_neg (by simp)];exact hC.mono hL2 (Nat.zero_le _)) HK2.out t1 u0 u1
   clear hM2 hA2 hL2 hR2;go_wp2;rw[HN.out];refine bodyPost_ret (v:=.tuple #[VV xaU,.int .i64 8]) ?_ rfl (HQ.out _ _)
   simp[results,Tryz.results61,go_sem,r0,r1]
theorem xg6 (hC:Cx p L LF lc QF qc):∀ d,d<=20->xek p L d
 | 0,hd=>xgK hC 0 hd (fun d' h=>by omega)
 | d+1,hd=>xgK hC (d+1) hd (fun d' h=>by
   have:d'=d:=by omega
   subst this
   exact xg6 hC d' (by omega))
end
theorem xlG (s:ByteArray)(w:World)(hs:s.size<=140737488351232):Calls Tryz.prog 54 #[.string s] w fun e w'=>e=.returned (.bool (xbf s))/\Below w.heap.size w w':=by
 by_cases h0:s.size<1
 ·have h0':(s.size:Int)<1:=by omega
  have hn:xbf s=false:=by simp[xbf];omega
  rw[hn];go_enter Tryz.func54,Tryz.ntmps54;go_wp2
  go_ret
  exact⟨rfl,Below.refl _ _⟩
 ·have h0':(1:Int)<=(s.size:Int):=by omega
  by_cases h1:12<s.size
  ·have h1':(12:Int)<(s.size:Int):=by omega
   have hn:xbf s=false:=by simp[xbf];omega
   rw[hn];go_enter Tryz.func54,Tryz.ntmps54;go_wp2
   go_ret
   exact⟨rfl,Below.refl _ _⟩
  ·have h1':(s.size:Int)<=12:=by omega
   have HN:Hid (xbf s=okB s):=by show _=_;unfold xbf;rw[decide_eq_true (by omega)];rfl
   go_enter Tryz.func54,Tryz.ntmps54;go_wp2
   go_loopg [14] s.size (fun g c wr=>∃ j:Nat,j+g=s.size/\c=.int .i64 j/\wr=w/\∀ i (hi:i<s.size),i<j->33<=s[i].toNat/\s[i].toNat<=126)
   case atStart=>exact⟨0,by omega,rfl,rfl,fun i _ hi=>by omega⟩
   case round=>
    obtain⟨j,hj,rfl,rfl,hok⟩:=hrel;have HO:Hid (∀ i (hi:i<s.size),i<j->33<=s[i].toNat/\s[i].toNat<=126):=hok;clear hok
    by_cases hlt:j<s.size
    ·have hj0:(0:Int)<=(j:Int):=by omega
     have hj1:(j:Int)<(s.size:Int):=by omega
     by_cases c1:s[j].toNat<=32
     ·have hn:Hid (okB s=false):=xfK hlt (by omega)
      have c1':((s[j].toNat:Nat):Int)<=32:=by omega
      go_wp2
      go_ret
      exact⟨xb7 (by rw[HN.out,hn.out]),Below.refl _ _⟩
     ·have c1':(32:Int)<((s[j].toNat:Nat):Int):=by omega
      by_cases c2:126<s[j].toNat
      ·have hn:Hid (okB s=false):=xfK hlt (by omega)
       have c2':(126:Int)<((s[j].toNat:Nat):Int):=by omega
       go_wp2
       go_ret
       exact⟨xb7 (by rw[HN.out,hn.out]),Below.refl _ _⟩
      ·have c2':((s[j].toNat:Nat):Int)<=126:=by omega
       have HT:Hid (33<=s[j].toNat/\s[j].toNat<=126):=by constructor<;>omega
       clear c1 c2;go_wp2
       go_roundg (gk-1)
       case measure=>omega
       case rel=>
        refine⟨j+1,by omega,by go_num,rfl,fun i hi hij=>?_⟩
        by_cases he:i=j
        ·subst he;exact HT.out
        ·exact HO.out i hi (by omega)
    ·go_wp2
     go_ret
     exact⟨xb7 (by rw[HN.out,xib fun i hi=>HO.out i hi (by omega)]),Below.refl _ _⟩
theorem xdk {α:Type}{E:Lay α}{sz bytes:Nat}{P:Nat->Prop}{w:World}{v:Value}{xs:List α}(h:IsRow E sz bytes P w v xs)(hE:∀ f x,E P w f x->E (fun b=>b<w.heap.size) w f x/\∃ u,f 0=some u):IsRow E sz bytes (fun b=>b<w.heap.size) w v xs:=by
 obtain⟨ad,cap,h1,h2,h3,h4,h5⟩:=h;refine⟨ad,cap,h1,h2,h3,h4,fun i x hx=>?_⟩
 obtain⟨b,o,e1,e2,e3⟩:=h5 i x hx;obtain⟨k1,u,k2⟩:=hE _ _ e3
 exact⟨b,o,e1,World.block_lt_of_cell? w _ k2,k1⟩
theorem xjc {P:Nat->Prop}{w:World}{v:Value}{xs:List QI}(h:xa5 P w v xs):xa5 (fun b=>b<w.heap.size) w v xs:=xdk h fun f x hx=>⟨hx,_,hx.1⟩
theorem xer {P:Nat->Prop}{w:World}{v:Value}{xs:List QV}(h:xaB P w v xs):xaB (fun b=>b<w.heap.size) w v xs:=xdk h fun f x hx=>⟨hx,_,hx.1⟩
theorem xhT {P:Nat->Prop}{w:World}{v:Value}{xs:List QM}(h:xbd P w v xs):xbd (fun b=>b<w.heap.size) w v xs:=xdk h fun f x hx=>by
 obtain⟨h0,h1,h2,h3,h4,c,h5,h6⟩:=hx
 exact⟨⟨h0,h1,h2,h3,h4,c,h5,xjc h6⟩,_,h0⟩
theorem xbF {P:Nat->Prop}{w:World}{v:Value}{xs:List QC}(h:xai P w v xs):xai (fun b=>b<w.heap.size) w v xs:=xdk h fun f x hx=>by
 obtain⟨h0,h1,h2,h3,c,h5,h6⟩:=hx
 exact⟨⟨h0,h1,h2,h3,c,h5,xhT h6⟩,_,h0⟩
theorem xcq {P:Nat->Prop}{w:World}{v:Value}{xs:List QO}(h:xaC P w v xs):xaC (fun b=>b<w.heap.size) w v xs:=xdk h fun f x hx=>by
 obtain⟨h0,c,h5,h6⟩:=hx
 exact⟨⟨h0,c,h5,xer h6⟩,_,h0⟩
abbrev ClV (s:QV)(name:ByteArray)(av:Value):Value:=.agg #[.int .i64 s.k,.int .i64 s.n,.string name,av]
theorem xc2 {α:Type}{f:Nat->α->Int}:∀ {l:List α} {k:Nat},(∀ i y,l[i]?=some y->f (k+i) y=0)->xbe f k l=0
 | [],_,_=>rfl
 | x :: r,k,h=>by
  unfold xbe;rw[if_neg (by have:=h 0 x rfl;simpa using this)]
  exact xc2 fun i y hy=>by have:=h (i+1) y (by simpa using hy);rw[show k+1+i=k+(i+1) by omega];exact this
structure WcR (w:World)(cv hv:Value)(ep:Int)(s:QV)(name:ByteArray)(av:Value)(w':World):Prop where
 bel:Below w.heap.size w w'
 w0:w'.cell? ⟨w.heap.size,0,none⟩=some cv
 w1:w'.cell? ⟨w.heap.size,1,none⟩=some hv
 w2:w'.cell? ⟨w.heap.size,2,none⟩=some (.int .i64 ep)
 c0:w'.cell? ⟨w.heap.size+1,0,none⟩=some (.int .i64 s.k)
 c1:w'.cell? ⟨w.heap.size+1,1,none⟩=some (.int .i64 s.n)
 c2:w'.cell? ⟨w.heap.size+1,2,none⟩=some (.string name)
 c3:w'.cell? ⟨w.heap.size+1,3,none⟩=some av
theorem WcR.later {w:World}{cv hv:Value}{ep:Int}{s:QV}{name:ByteArray}{av:Value}{w' w'':World}(h:WcR w cv hv ep s name av w')(hb:Below w'.heap.size w' w''):WcR w cv hv ep s name av w'':=
 ⟨xah h.bel hb,qzA hb h.w0,qzA hb h.w1,qzA hb h.w2,qzA hb h.c0,qzA hb h.c1,qzA hb h.c2,qzA hb h.c3⟩
theorem xgc (w:World)(cv hv:Value)(ep:Int)(s:QV)(name:ByteArray)(av:Value):WcR w cv hv ep s name av ((w.alloc (.cells #[cv,hv,.int .i64 ep] 25)).alloc (.cells #[.int .i64 s.k,.int .i64 s.n,.string name,av] 30)):=
 ⟨xca _ _ _,qzA (xaj _ _) (xaa _ _ _ _ rfl 0),qzA (xaj _ _) (xaa _ _ _ _ rfl 1),qzA (xaj _ _) (xaa _ _ _ _ rfl 2),xaa _ _ _ _ (by simp) 0,xaa _ _ _ _ (by simp) 1,xaa _ _ _ _ (by simp) 2,xaa _ _ _ _ (by simp) 3⟩
theorem xkq {P Q:Nat->Prop}(X:QW)(s:QV)(name:ByteArray)(args:List QV)(fuel:Int)(cv hv av:Value)(w:World)(hcv:∃ a n c,cv=.slice a n c)(hH:xaC P w hv X.heap)(hA:xaB Q w av args)(hn:name.size<=140737488351232):Calls Tryz.prog 41 #[WV cv hv X.ez,ClV s name av,.int .i64 fuel] w fun e w'=>e=.returned (.int .i64 (xap X s name args fuel))/\Below w.heap.size w w':=by
 have hR:=xgc w cv hv X.ez s name av;obtain⟨ah,ch,rfl,-⟩:=id hH;obtain⟨aa,ca,rfl,hal,hac,-,hrow⟩:=id hA;obtain⟨ac,nc,cc,rfl⟩:=hcv;unfold maxLen at hac;go_enter Tryz.func41,Tryz.ntmps41
 go_upto_region 1 with (fail)
 generalize ((w.alloc (.cells #[.slice ac nc cc,.slice ah X.heap.length ch,.int .i64 X.ez] 25)).alloc (.cells #[.int .i64 s.k,.int .i64 s.n,.string name,.slice aa args.length ca] 30))=W at *;obtain⟨-,w0,w1,w2,c0,c1,c2,c3⟩:=id hR;go_wp2_with fail;refine (xlG name _ hn).mono ?_;rintro e w1' ⟨rfl,hb1⟩;have hR1:=hR.later hb1;clear w0 w1 w2 c0 c1 c2 c3 hR hb1;obtain⟨-,w0,w1,w2,c0,c1,c2,c3⟩:=id hR1
 cases hnb:xbf name with
 | false=>
  have HE:Hid (xap X s name args fuel=7):=by show _=_;unfold xap;rw[if_pos hnb]
  go_wp2
  go_ret
  exact⟨xak HE.out.symm,hR1.bel⟩
 | true=>
  by_cases h4:4<args.length
  ·have HE:Hid (xap X s name args fuel=5):=by show _=_;unfold xap;rw[if_neg (by rw[hnb];simp),if_pos h4]
   have h4':(4:Int)<(args.length:Int):=by omega
   go_wp2
   go_ret
   exact⟨xak HE.out.symm,hR1.bel⟩
  have h4':¬ ((4:Int)<(args.length:Int)):=by omega
  by_cases hf:fuel<0
  ·have HE:Hid (xap X s name args fuel=3):=by show _=_;unfold xap;rw[if_neg (by rw[hnb];simp),if_neg h4,if_pos (Or.inl hf)]
   have hf':decide (fuel<0)=true:=by simpa using hf
   go_wp2
   go_ret
   exact⟨xak HE.out.symm,hR1.bel⟩
  have hf':decide (fuel<0)=false:=by simpa using hf
  by_cases hg:400<fuel
  ·have HE:Hid (xap X s name args fuel=3):=by show _=_;unfold xap;rw[if_neg (by rw[hnb];simp),if_neg h4,if_pos (Or.inr hg)]
   have hg':decide (400<fuel)=true:=by simpa using hg
   go_wp2
   go_ret
   exact⟨xak HE.out.symm,hR1.bel⟩
  have hg':decide (400<fuel)=false:=by simpa using hg
  have HE:Hid (xap X s name args fuel=if xas X.heap.length s≠0 then xas X.heap.length s else xbe (fun _ v=>xas X.heap.length v) 0 args):=by show _=_;unfold xap;rw[if_neg (by rw[hnb];simp),if_neg h4,if_neg (by omega)]
  clear hnb hf hg;have hvw:=fun w=>xfL s (X.heap.length:Int) w
  generalize xas X.heap.length s=ws at *;go_wp2_with fail;refine (hvw _).mono ?_;rintro e w2' ⟨rfl,hb2⟩;have hR2:=hR1.later hb2;clear w0 w1 w2 c0 c1 c2 c3 hR1 hb2 hvw;obtain⟨-,w0,w1,w2,c0,c1,c2,c3⟩:=id hR2
  by_cases hws:ws=0
  ·have hws':(ws != 0)=false:=by simpa using hws
   rw[if_neg (by simpa using hws)] at HE
   clear hws;go_wp2;clear w0 w1 w2 c0 c1 c2 c3
   go_loopg [40] args.length (fun gk c wr=>∃ j:Nat,j+gk=args.length/\c=.int .i64 j/\WcR w (.slice ac nc cc) (.slice ah X.heap.length ch) X.ez s name (.slice aa args.length ca) wr/\∀ i y,i<j->args[i]?=some y->xas X.heap.length y=0)
   case atStart=>exact⟨0,by omega,rfl,hR2,fun i y hi=>by omega⟩
   case round=>
    clear hR2;obtain⟨j,hj,rfl,hRr,hok⟩:=hrel;have HO:=hid hok;clear hok;obtain⟨-,w0,w1,w2,c0,c1,c2,c3⟩:=id hRr
    by_cases hlt:j<args.length
    ·have hx:args[j]?=some args[j]:=by simp[hlt]
     have HX:=hid hx;generalize args[j]=y at *;obtain⟨b,o,rfl,-,v0,v1⟩:=hrow j y hx;simp only[Nat.add_zero] at v0;have u0:=qzA hRr.bel v0;have u1:=qzA hRr.bel v1;clear v0 v1 hrow hx;have hj1:(j:Int)<(args.length:Int):=by omega
     have hj0:(0:Int)<=(j:Int):=by omega
     have hvw:=fun w=>xfL y (X.heap.length:Int) w
     obtain⟨wy,hwy⟩:∃ wy,wy=xas X.heap.length y:=⟨_,rfl⟩;rw[← hwy] at hvw;have HWY:=hid hwy;clear hwy;have hRa:=hRr.later (xaj wr (.cells #[.int .i64 y.k,.int .i64 y.n] 27));have y0:(wr.alloc (.cells #[.int .i64 y.k,.int .i64 y.n] 27)).cell? ⟨wr.heap.size,0,none⟩=some (.int .i64 y.k):=xaa _ _ _ _ rfl 0;have y1:(wr.alloc (.cells #[.int .i64 y.k,.int .i64 y.n] 27)).cell? ⟨wr.heap.size,1,none⟩=some (.int .i64 y.n):=xaa _ _ _ _ rfl 1
     go_upto_region 13 with (fail)
     clear w0 w1 w2 c0 c1 c2 c3 u0 u1 hRr;generalize (wr.alloc (.cells #[.int .i64 y.k,.int .i64 y.n] 27))=V at *;obtain⟨-,w0,w1,w2,c0,c1,c2,c3⟩:=id hRa;go_wp2_with fail;refine (hvw _).mono ?_;rintro e w5 ⟨rfl,hb5⟩;have hR5:=hRa.later hb5;clear w0 w1 w2 c0 c1 c2 c3 hRa hb5 hvw y0 y1
     by_cases hz:wy=0
     ·have hz':(wy != 0)=false:=by simpa using hz
      go_wp2
      go_roundg (gk-1)
      case measure=>omega
      case rel=>
       refine⟨j+1,by omega,by go_num,hR5,fun i y' hi hy=>?_⟩
       by_cases hij:i=j
       ·subst hij;rw[HX.out] at hy;cases hy;rw[← HWY.out];exact hz
       ·exact HO.out i y' (by omega) hy
     ·have hz':(wy != 0)=true:=by simpa using hz
      go_wp2
      go_ret
      refine⟨xak ?_,hR5.bel⟩;have:=xc4 (f:=fun _ v=>xas X.heap.length v) (k:=0) HX.out (by rw[← HWY.out];exact hz) (fun i y' hi hy=>HO.out i y' hi hy)
      rw[HE.out,this,HWY.out]
    ·obtain rfl:j=args.length:=by omega
     go_wp2
     go_ret
     refine⟨xak ?_,hRr.bel⟩;rw[HE.out,xc2 fun i y hy=>HO.out i y (xae hy) hy]
  ·have hws':(ws != 0)=true:=by simpa using hws
   rw[if_pos hws] at HE;go_wp2
   go_ret
   exact⟨xak HE.out.symm,hR2.bel⟩
structure LkP (X:QW)(b:Nat)(cv hv:Value)(T:Nat->Nat)(w:World)(st:Unit)(n:Nat):Prop where
 tag:T b=0
 lt:b<w.heap.size
 w0:w.cell? ⟨b,0,none⟩=some cv
 w1:w.cell? ⟨b,1,none⟩=some hv
 w2:w.cell? ⟨b,2,none⟩=some (.int .i64 X.ez)
 cls:xai (Fx T w) w cv X.cz
 heap:xaC (Fx T w) w hv X.heap
theorem LkP.keep {X:QW}{b:Nat}{cv hv:Value}{T T':Nat->Nat}{w w':World}{st:Unit}{n:Nat}{S:Nat->Prop}(h:LkP X b cv hv T w st n)(e:Ext T T' w)(k:Kp S T w w')(h0:¬ S 0):LkP X b cv hv T' w' st n:=
 ⟨by rw[e _ h.lt];exact h.tag,qzE h.lt k.size,k.cell h.w0 (by rw[h.tag];exact h0),k.cell h.w1 (by rw[h.tag];exact h0),k.cell h.w2 (by rw[h.tag];exact h0),h.cls.fx xaz e k h0,h.heap.fx xaD e k h0⟩
section
variable {σ:Type} {p:Mp σ} {L:(Nat->Nat)->World->σ->Nat->Prop} {LF QF:Nat} {lc qc:Array Value} {T:Nat->Nat} {w:World} {mb:Nat} {m:Mc σ} {hv:Value} {g:Nat} {s:Nat->Nat} {K:Nat}
structure FsR (w:World)(mb:Nat)(v0 v1:Value)(ep:Int)(s:QV)(name:ByteArray)(av:Value)(w':World):Prop where
 bel:Below w.heap.size w w'
 m0:w'.cell? ⟨mb,0,none⟩=some v0
 m1:w'.cell? ⟨mb,1,none⟩=some v1
 m2:w'.cell? ⟨mb,2,none⟩=some (.int .i64 ep)
 c0:w'.cell? ⟨w.heap.size,0,none⟩=some (.int .i64 s.k)
 c1:w'.cell? ⟨w.heap.size,1,none⟩=some (.int .i64 s.n)
 c2:w'.cell? ⟨w.heap.size,2,none⟩=some (.string name)
 c3:w'.cell? ⟨w.heap.size,3,none⟩=some av
 r0:w'.cell? ⟨w.heap.size+1,0,none⟩=some (.int .i64 0)
 r1:w'.cell? ⟨w.heap.size+1,1,none⟩=some (.int .i64 0)
 rf:∀ o,w'.frozen? ⟨w.heap.size+1,o,none⟩=false
 sz:w.heap.size+2<=w'.heap.size
theorem FsR.later {w:World}{mb:Nat}{v0 v1:Value}{ep:Int}{s:QV}{name:ByteArray}{av:Value}{w' w'':World}(h:FsR w mb v0 v1 ep s name av w')(hb:Below w'.heap.size w' w''):FsR w mb v0 v1 ep s name av w'':=
 ⟨xah h.bel hb,qzA hb h.m0,qzA hb h.m1,qzA hb h.m2,qzA hb h.c0,qzA hb h.c1,qzA hb h.c2,qzA hb h.c3,qzA hb h.r0,qzA hb h.r1,fun o=>(hb.frozen (p:=⟨w.heap.size+1,o,none⟩) (by have:=h.sz;simp only;omega)).trans (h.rf o),qzD h.sz hb.size⟩
theorem FsR.al {w:World}{mb:Nat}{v0 v1:Value}{ep:Int}{s:QV}{name:ByteArray}{av:Value}{w':World}(h:FsR w mb v0 v1 ep s name av w'):w'.cell? ⟨mb,0,none⟩=some v0/\w'.cell? ⟨mb,1,none⟩=some v1/\w'.cell? ⟨mb,2,none⟩=some (.int .i64 ep)/\w'.cell? ⟨w.heap.size,0,none⟩=some (.int .i64 s.k)/\w'.cell? ⟨w.heap.size,1,none⟩=some (.int .i64 s.n)/\w'.cell? ⟨w.heap.size,2,none⟩=some (.string name):=⟨h.m0,h.m1,h.m2,h.c0,h.c1,h.c2⟩
theorem xki (hC:Cx p L LF lc QF qc)(h:MacAt p T w mb m 0 hv g s)(hL:L T w m.st (p.E.fuel-m.sz_).toNat)(hI:MIn p.E m)(sf:QV)(name:ByteArray)(args:List QV)(av:Value)(hSe:xas m.heap.length sf=0)(hAr:VsOk m.heap.length args)(hA:xaB (Fx T w) w av args)(hK5:5<=K) :
  Calls Tryz.prog 44 #[.pointer (some ⟨mb,0,none⟩),ClV sf name av] w fun e w'=>EnPost p L T w mb 0 K (xa1 p.E 20 m (xaw p.E.cz (xar m.heap sf) name).1 (xaw p.E.cz (xar m.heap sf) name).2 sf args) e w':=by
 have hX:=xao T w 4;have hT4:∀ b,w.heap.size<=b->xau T w 4 b=4:=fun b hb=>xav hb
 have hb1:Below w.heap.size w ((w.alloc (.cells #[.int .i64 sf.k,.int .i64 sf.n,.string name,av] 30)).alloc (.cells #[.int .i64 0,.int .i64 0] 27)).drew:=(xca w _ _).drew;have hM0:=(h.tagged0 4).later hb1;have hA0:=(xdR hA xaK 4).fx xaK (.refl _ w) (Kp.of_below (S:=fun _=>False) hb1) id
 have hL0:=hC.keep (hC.keep hL hX (Kp.refl (fun _=>False) _ _) id id) (.refl _ _) (Kp.of_below (S:=fun _=>False) hb1) id id
 have hFs:FsR w mb p.cv hv p.ep sf name av ((w.alloc (.cells #[.int .i64 sf.k,.int .i64 sf.n,.string name,av] 30)).alloc (.cells #[.int .i64 0,.int .i64 0] 27)).drew:=by
  refine⟨hb1,hM0.c0,hM0.c1,hM0.c2,qzA (xaj _ _).drew (xaa w #[.int .i64 sf.k,.int .i64 sf.n,.string name,av] 30 _ rfl 0),qzA (xaj _ _).drew (xaa w #[.int .i64 sf.k,.int .i64 sf.n,.string name,av] 30 _ rfl 1),qzA (xaj _ _).drew (xaa w #[.int .i64 sf.k,.int .i64 sf.n,.string name,av] 30 _ rfl 2),qzA (xaj _ _).drew (xaa w #[.int .i64 sf.k,.int .i64 sf.n,.string name,av] 30 _ rfl 3),xaa _ _ _ _ (by simp) 0,xaa _ _ _ _ (by simp) 1,fun o=>xam (cur:=#[.int .i64 0,.int .i64 0]) (t:=27) ?_ o,by simp⟩
  rw[xe7];have:=heap_alloc_new (w.alloc (.cells #[.int .i64 sf.k,.int .i64 sf.n,.string name,av] 30)) (.cells #[.int .i64 0,.int .i64 0] 27)
  simpa using this
 have hlm:=xaf h.box;obtain⟨aa,ca,rfl,-⟩:=id hA;clear h hA hL;generalize xau T w 4=T1 at *;have t1:T1 (w.heap.size+1)=4:=hT4 _ (by omega)
 go_enter Tryz.func44,Tryz.ntmps44
 go_upto_region 1 with (fail)
 generalize ((w.alloc (.cells #[.int .i64 sf.k,.int .i64 sf.n,.string name,.slice aa args.length ca] 30)).alloc (.cells #[.int .i64 0,.int .i64 0] 27))=W at *;have hcl:=hM0.cls.mono (Q:=fun _=>True) xaz fun _ _=>trivial
 have hhp:=hM0.heap.heap.mono (Q:=fun _=>True) xaD fun _ _=>trivial
 obtain⟨ch,rfl,-⟩:=hM0.heap.form;obtain⟨ac,cc,hcv,-⟩:=id hcl;have hcls:∀ w':World,Below W.drew.heap.size W.drew w'->Calls Tryz.prog 60 #[.slice (some ⟨g,0,none⟩) m.heap.length ch,VV sf] w' fun e w''=>e=.returned (.int .i64 (xar m.heap sf))/\Below w'.heap.size w' w'':=fun w' hb=>xel m.heap _ sf w' (hhp.later xaD hb)
 have hfin:∀ w':World,Below W.drew.heap.size W.drew w'->Calls Tryz.prog 59 #[WV p.cv (.slice (some ⟨g,0,none⟩) m.heap.length ch) p.ep,.int .i64 (xar m.heap sf),.string name] w' fun e w''=>e=.returned (.tuple #[.int .i64 (xaw p.E.cz (xar m.heap sf) name).1,.int .i64 (xaw p.E.cz (xar m.heap sf) name).2])/\Below w'.heap.size w' w'':=fun w' hb=>xeI ⟨p.E.cz,m.heap,p.ep⟩ (xar m.heap sf) name p.cv _ w' (hcl.later xaz hb) (hhp.later xaD hb)
 have HM0:=hid hM0;rw[hcv] at hfin hFs;clear hcv hcl hhp hM0;obtain⟨c0,hc0⟩:∃ c0,c0=xar m.heap sf:=⟨_,rfl⟩;rw[← hc0] at hcls hfin;obtain⟨r1,r2,hr⟩:∃ r1 r2,xaw p.E.cz c0 name=(r1,r2):=⟨_,_,rfl⟩;rw[hr] at hfin;have HRO:Hid (xa1 p.E 20 m (xaw p.E.cz (xar m.heap sf) name).1 (xaw p.E.cz (xar m.heap sf) name).2 sf args=xa1 p.E 20 m r1 r2 sf args):=by show _=_;rw[← hc0,hr]
 clear hc0 hr;have hS0:=hFs.al;have tokA:True:=trivial
 go_region_held3 (fun w'=>w'.cell? ⟨mb,0,none⟩=some (.slice ac p.E.cz.length cc)/\w'.cell? ⟨mb,1,none⟩=some (.slice (some ⟨g,0,none⟩) m.heap.length ch)/\w'.cell? ⟨mb,2,none⟩=some (.int .i64 p.ep)/\w'.cell? ⟨w.heap.size,0,none⟩=some (.int .i64 sf.k)/\w'.cell? ⟨w.heap.size,1,none⟩=some (.int .i64 sf.n)/\w'.cell? ⟨w.heap.size,2,none⟩=some (.string name))
  (first | with_reducible exact hS0 | with_reducible exact hS1 | with_reducible exact hS2)
  (first
   | (have _t:=tokA;go_at_call 60;refine (hcls _ (Below.refl _ _)).mono ?_;rintro e w3 ⟨rfl,hb3⟩;have hF3:=hFs.later hb3;have hS1:=hF3.al;clear tokA;have tokB:True:=trivial)
   | (have _t:=tokB;go_at_call 59;refine (hfin _ hb3).mono ?_;rintro e w4 ⟨rfl,hb4⟩;have hF4:=hF3.later hb4;have hS2:=hF4.al;have hb34:=xah hb3 hb4;clear tokB))
 have hM4:=HM0.out.later hb34;have hA4:=hA0.fx xaK (.refl _ _) (Kp.of_below (S:=fun _=>False) hb34) id
 have hL4:=hC.keep hL0 (.refl _ _) (Kp.of_below (S:=fun _=>False) hb34) id id
 have hent:=xg6 hC 20 (qzC _) K T1 w4 mb m _ _ _ r1 r2 sf args _ hK5 hM4 hL4 hI hSe hAr hA4;have HKW:=hid (Kp.of_below (S:=All K) (T:=T) hF4.bel);obtain⟨-,m0,m1,m2,c0',c1,c2,c3,r0,r1',rf,sz⟩:=id hF4;have H4:=hid hF4;clear hS0 hS1 hS2 hcls hfin hF3 hF4 hFs hb3 hb4 hb34 hM4 hA4 hL4;obtain⟨R,hR⟩:∃ R,xa1 p.E 20 m r1 r2 sf args=R:=⟨_,rfl⟩;rw[hR] at hent HRO;clear hR;go_wp2_with fail;refine hent.mono ?_;rintro e w6 ⟨rfl,⟨T6,hX6,⟨hv6,g6,s6,hM6⟩,hL6⟩,hK6⟩;have q0:=hK6.cell r0 (by rw[t1];unfold All;omega)
 have q1:=hK6.cell r1' (by rw[t1];unfold All;omega)
 have qf:∀ o,w6.frozen? ⟨w.heap.size+1,o,none⟩=false:=fun o=>xb6 hK6 (by omega) (by rw[t1];unfold All;omega) (rf o)
 have t6:T6 (w.heap.size+1)=4:=by rw[hX6 _ (by omega)];exact t1
 have HQ:=hid fun u0 u1=>EnPost.fin (r:=R) hC (hX.trans HKW.out.size hX6) (show MacAt p T6 w6 mb R.1 0 hv6 g6 s6 from hM6) hL6 (HKW.out.trans hX hK6) t6 u0 u1
 clear hent hM6 hL6 hK6 hX6 m0 m1 m2 c0' c1 c2 c3 r0 r1' rf;obtain⟨rm,v,er⟩:=R;go_wp2;rw[HRO.out];refine bodyPost_ret (v:=.tuple #[VV v,.int .i64 er]) ?_ rfl (HQ.out _ _)
 simp[results,Tryz.results44,go_sem,q0,q1]
end
abbrev RnV (r:Ran):Value:=.agg #[.int .i64 r.v.k,.int .i64 r.v.n,.int .i64 r.err,.int .i64 r.sz_]
def WiPost {σ:Type}(L:(Nat->Nat)->World->σ->Nat->Prop)(T0:Nat->Nat)(w:World)(X:QW)(r:Ran × σ)(e:Ending)(w':World):Prop:=
 Kp (fun t=>t=3) T0 w w'/\∃ T',Ext T0 T' w/\L T' w' r.2 0/\∃ cv hv,e=.returned (.tuple #[WV cv hv X.ez,RnV r.1])/\xai (fun b=>w.heap.size<=b/\T' b≠3) w' cv X.cz/\xaC (fun b=>w.heap.size<=b/\T' b≠3) w' hv r.1.heap
structure WtR (w:World)(cv hv:Value)(ep:Int)(s:QV)(name:ByteArray)(av:Value)(w':World):Prop where
 w0:w'.cell? ⟨w.heap.size,0,none⟩=some cv
 w1:w'.cell? ⟨w.heap.size,1,none⟩=some hv
 w2:w'.cell? ⟨w.heap.size,2,none⟩=some (.int .i64 ep)
 c0:w'.cell? ⟨w.heap.size+1,0,none⟩=some (.int .i64 s.k)
 c1:w'.cell? ⟨w.heap.size+1,1,none⟩=some (.int .i64 s.n)
 c2:w'.cell? ⟨w.heap.size+1,2,none⟩=some (.string name)
 c3:w'.cell? ⟨w.heap.size+1,3,none⟩=some av
 a0:w'.cell? ⟨w.heap.size+2,0,none⟩=some (.slice none 0 0)
 a1:w'.cell? ⟨w.heap.size+2,1,none⟩=some (.slice none 0 0)
 a2:w'.cell? ⟨w.heap.size+2,2,none⟩=some (.int .i64 0)
 af:∀ o,w'.frozen? ⟨w.heap.size+2,o,none⟩=false
 b0:w'.cell? ⟨w.heap.size+3,0,none⟩=some (.int .i64 0)
 b1:w'.cell? ⟨w.heap.size+3,1,none⟩=some (.int .i64 0)
 b2:w'.cell? ⟨w.heap.size+3,2,none⟩=some (.int .i64 0)
 b3:w'.cell? ⟨w.heap.size+3,3,none⟩=some (.int .i64 0)
 bf:∀ o,w'.frozen? ⟨w.heap.size+3,o,none⟩=false
 sz:w.heap.size+4<=w'.heap.size
theorem WtR.kp {w:World}{cv hv:Value}{ep:Int}{s:QV}{name:ByteArray}{av:Value}{w' w'':World}{S:Nat->Prop}{T:Nat->Nat}(h:WtR w cv hv ep s name av w')(k:Kp S T w' w'')(hs:∀ i,i<4->¬ S (T (w.heap.size+i))):WtR w cv hv ep s name av w'':=
 have hz:=h.sz
 ⟨k.cell h.w0 (hs 0 (by omega)),k.cell h.w1 (hs 0 (by omega)),k.cell h.w2 (hs 0 (by omega)),k.cell h.c0 (hs 1 (by omega)),k.cell h.c1 (hs 1 (by omega)),k.cell h.c2 (hs 1 (by omega)),k.cell h.c3 (hs 1 (by omega)),k.cell h.a0 (hs 2 (by omega)),k.cell h.a1 (hs 2 (by omega)),k.cell h.a2 (hs 2 (by omega)),fun o=>xb6 k (by omega) (hs 2 (by omega)) (h.af o),k.cell h.b0 (hs 3 (by omega)),k.cell h.b1 (hs 3 (by omega)),k.cell h.b2 (hs 3 (by omega)),k.cell h.b3 (hs 3 (by omega)),fun o=>xb6 k (by omega) (hs 3 (by omega)) (h.bf o),qzD hz k.size⟩
theorem WtR.later {w:World}{cv hv:Value}{ep:Int}{s:QV}{name:ByteArray}{av:Value}{w' w'':World}(h:WtR w cv hv ep s name av w')(hb:Below w'.heap.size w' w''):WtR w cv hv ep s name av w'':=h.kp (T:=fun _=>0) (Kp.of_below (S:=fun _=>False) hb) fun _ _=>id
theorem xka (w:World)(cv hv:Value)(ep:Int)(s:QV)(name:ByteArray)(av:Value):WtR w cv hv ep s name av ((((w.alloc (.cells #[cv,hv,.int .i64 ep] 25)).alloc (.cells #[.int .i64 s.k,.int .i64 s.n,.string name,av] 30)).alloc (.cells #[.slice none 0 0,.slice none 0 0,.int .i64 0] 25)).alloc (.cells #[.int .i64 0,.int .i64 0,.int .i64 0,.int .i64 0] 37)):=by
 obtain⟨-,w0,w1,w2,c0,c1,c2,c3⟩:=xgc w cv hv ep s name av;have q:=xca ((w.alloc (.cells #[cv,hv,.int .i64 ep] 25)).alloc (.cells #[.int .i64 s.k,.int .i64 s.n,.string name,av] 30)) (.cells #[.slice none 0 0,.slice none 0 0,.int .i64 0] 25) (.cells #[.int .i64 0,.int .i64 0,.int .i64 0,.int .i64 0] 37);have e2:((w.alloc (.cells #[cv,hv,.int .i64 ep] 25)).alloc (.cells #[.int .i64 s.k,.int .i64 s.n,.string name,av] 30)).heap.size=w.heap.size+2:=by simp
 have e3:(((w.alloc (.cells #[cv,hv,.int .i64 ep] 25)).alloc (.cells #[.int .i64 s.k,.int .i64 s.n,.string name,av] 30)).alloc (.cells #[.slice none 0 0,.slice none 0 0,.int .i64 0] 25)).heap.size=w.heap.size+3:=by simp
 refine⟨qzA q w0,qzA q w1,qzA q w2,qzA q c0,qzA q c1,qzA q c2,qzA q c3,qzA (xaj _ _) (xaa _ _ _ _ e2 0),qzA (xaj _ _) (xaa _ _ _ _ e2 1),qzA (xaj _ _) (xaa _ _ _ _ e2 2),fun o=>((xaj _ _).frozen (p:=⟨w.heap.size+2,o,none⟩) (by rw[e3];simp)).trans (xam (cur:=#[.slice none 0 0,.slice none 0 0,.int .i64 0]) (t:=25) (xba _ _ _ e2) o),xaa _ _ _ _ e3 0,xaa _ _ _ _ e3 1,xaa _ _ _ _ e3 2,xaa _ _ _ _ e3 3,xam (cur:=#[.int .i64 0,.int .i64 0,.int .i64 0,.int .i64 0]) (t:=37) (xba _ _ _ e3),by simp⟩
end Go.Proofs.YtapbeiccodnniaaGreat
