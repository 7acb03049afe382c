/- A part. -/
import Derived.Test.YtapbeiccodnniaaGreatM21
namespace Go.Proofs.YtapbeiccodnniaaGreat
open Go.ChangeShapes Go.WideShapes Go.ChangeAt Go.RowKit
set_option linter.unusedSimpArgs false
set_option linter.unusedVariables false
set_option maxHeartbeats 8000000
set_option maxRecDepth 8000
abbrev NoB (n t:Nat):Nat->Prop:=fun b=>b≠n/\b≠t
abbrev OB0:Obj:=.cells #[.slice none 0 0,.slice none 0 0,.int .i64 0,.int .i64 0,.int .i64 0,.int .i64 0,.int .i64 0,.slice none 0 0,.slice none 0 0,.int .i64 0,.int .i64 0] 39 (0,0)
structure CdR (X:QW)(r:Ran)(cv hv:Value)(w:World)(tb mb:Nat)(q:List Ask)(cv5 hv5 sv ov:Value)(wr:World)(st:CSt)(lv tv:Value):Prop where
 wb:WtB w cv hv X.ez wr
 lo:w.heap.size+2<tb
 lm:mb<tb
 c:xai (NoB (w.heap.size+2) tb) wr cv5 X.cz
 h:xaC (NoB (w.heap.size+2) tb) wr hv5 r.heap
 s:IsRow xrx 3 0 (NoB (w.heap.size+2) tb) wr sv q
 o:IsRow xrv 1 0 (NoB (w.heap.size+2) tb) wr ov q
 mo:wr.cell? ⟨mb,9,none⟩=some ov
 lc:xbk (NoB (w.heap.size+2) tb) wr lv st.cells
 tc:xbc (NoB (w.heap.size+2) tb) wr tv st.ts
 box:wr.heap[tb]?=some (OB2 cv5 hv5 X.ez r lv tv st)
 rb:wr.heap[w.heap.size+2]?=some OB0
section
variable {X:QW} {r:Ran} {cv hv:Value} {w:World} {tb mb:Nat} {q:List Ask} {cv5 hv5 sv ov:Value} {wr:World} {st:CSt} {lv tv:Value}
theorem CdR.later (h:CdR X r cv hv w tb mb q cv5 hv5 sv ov wr st lv tv){ws:World}(hb:Below wr.heap.size wr ws):CdR X r cv hv w tb mb q cv5 hv5 sv ov ws st lv tv:=
 ⟨h.wb.later hb,h.lo,h.lm,h.c.later xaz hb,h.h.later xaD hb,h.s.later xqm hb,h.o.later xqn hb,qzA hb h.mo,h.lc.later xbw hb,h.tc.later xbZ hb,xac h.box hb,xac h.rb hb⟩
theorem CdR.put (h:CdR X r cv hv w tb mb q cv5 hv5 sv ov wr st lv tv){o:Nat}{u:Value}{st':CSt}{lv' tv':Value}(hb:(wr.setCell ⟨tb,o,none⟩ u).heap[tb]?=some (OB2 cv5 hv5 X.ez r lv' tv' st'))(hl:xbk (NoB (w.heap.size+2) tb) wr lv' st'.cells)(ht:xbc (NoB (w.heap.size+2) tb) wr tv' st'.ts):CdR X r cv hv w tb mb q cv5 hv5 sv ov (wr.setCell ⟨tb,o,none⟩ u) st' lv' tv':=by
 have k:Keeps (NoB (w.heap.size+2) tb) wr (wr.setCell ⟨tb,o,none⟩ u):=xaq (Keeps.refl _ _) (fun h=>h.2 rfl) _
 have f:∀ (b o':Nat) (v:Value),b≠tb->wr.cell? ⟨b,o',none⟩=some v->(wr.setCell ⟨tb,o,none⟩ u).cell? ⟨b,o',none⟩=some v:=fun b o' v hn hc=>(qzI _ _ _ _ (by simp;omega)).trans hc
 have h1:=h.lo;have h2:=h.lm
 exact⟨⟨h.wb.bel.setCell (by simp;omega) _,f _ _ _ (by omega) h.wb.a0,f _ _ _ (by omega) h.wb.a1,f _ _ _ (by omega) h.wb.a2⟩,h1,h2,h.c.keep xaz k fun _ h=>h,h.h.keep xaD k fun _ h=>h,h.s.keep xqm k fun _ h=>h,h.o.keep xqn k fun _ h=>h,f _ _ _ (by omega) h.mo,hl.keep xbw k fun _ h=>h,ht.keep xbZ k fun _ h=>h,hb,by rw[xab (by omega)];exact h.rb⟩
theorem CdR.no (h:CdR X r cv hv w tb mb q cv5 hv5 sv ov wr st lv tv):∀ b,wr.heap.size<=b->NoB (w.heap.size+2) tb b:=fun b hb=>by
 have h1:=xaf h.box;have h2:=h.lo
 exact⟨by omega,by omega⟩
def xq7 (w:World)(X:QW)(r:Ran)(st:CSt)(e:Ending)(w':World):Prop:=
 Below w.heap.size w w'/\∃ cv hv lv tv,e=.returned (CaV cv hv X.ez r lv tv st.hits st.nots)/\xai Tru w' cv X.cz/\xaC Tru w' hv r.heap/\xbk Tru w' lv st.cells/\xbc Tru w' tv st.ts
theorem CdR.fin (h:CdR X r cv hv w tb mb q cv5 hv5 sv ov wr st lv tv)(u0 u1 u2 u3 u4 u5 u6 u7 u8 u9 u10:Value):xq7 w X r st (.returned (CaV cv5 hv5 X.ez r lv tv st.hits st.nots)) (((((((((((wr.setCell ⟨w.heap.size+2,0,none⟩ u0).setCell ⟨w.heap.size+2,1,none⟩ u1).setCell ⟨w.heap.size+2,2,none⟩ u2).setCell ⟨w.heap.size+2,3,none⟩ u3).setCell ⟨w.heap.size+2,4,none⟩ u4).setCell ⟨w.heap.size+2,5,none⟩ u5).setCell ⟨w.heap.size+2,6,none⟩ u6).setCell ⟨w.heap.size+2,7,none⟩ u7).setCell ⟨w.heap.size+2,8,none⟩ u8).setCell ⟨w.heap.size+2,9,none⟩ u9).setCell ⟨w.heap.size+2,10,none⟩ u10):=by
 have hn:∀ {P:Prop},(w.heap.size+2≠w.heap.size+2/\P)->False:=fun h=>h.1 rfl
 have k:Keeps (NoB (w.heap.size+2) tb) wr (((((((((((wr.setCell ⟨w.heap.size+2,0,none⟩ u0).setCell ⟨w.heap.size+2,1,none⟩ u1).setCell ⟨w.heap.size+2,2,none⟩ u2).setCell ⟨w.heap.size+2,3,none⟩ u3).setCell ⟨w.heap.size+2,4,none⟩ u4).setCell ⟨w.heap.size+2,5,none⟩ u5).setCell ⟨w.heap.size+2,6,none⟩ u6).setCell ⟨w.heap.size+2,7,none⟩ u7).setCell ⟨w.heap.size+2,8,none⟩ u8).setCell ⟨w.heap.size+2,9,none⟩ u9).setCell ⟨w.heap.size+2,10,none⟩ u10):=
  xaq (xaq (xaq (xaq (xaq (xaq (xaq (xaq (xaq (xaq (xaq (Keeps.refl _ _) hn _) hn _) hn _) hn _) hn _) hn _) hn _) hn _) hn _) hn _) hn _
 exact⟨((((((((((h.wb.bel.setCell (by simp) _).setCell (by simp) _).setCell (by simp) _).setCell (by simp) _).setCell (by simp) _).setCell (by simp) _).setCell (by simp) _).setCell (by simp) _).setCell (by simp) _).setCell (by simp) _).setCell (by simp) _,_,_,_,_,rfl,h.c.keep xaz k fun _ _=>trivial,h.h.keep xaD k fun _ _=>trivial,h.lc.keep xbw k fun _ _=>trivial,h.tc.keep xbZ k fun _ _=>trivial⟩
end
theorem bw4 {w:World}{z:Nat}{a b c d:Value}{t:TypeId}(h:w.heap[z]?=some (.cells #[a,b,c,d] t (0,0))):w.cell? ⟨z,0,none⟩=some a/\w.cell? ⟨z,1,none⟩=some b/\w.cell? ⟨z,2,none⟩=some c/\w.cell? ⟨z,3,none⟩=some d:=
 ⟨by rw[qzB h];rfl,by rw[qzB h];rfl,by rw[qzB h];rfl,by rw[qzB h];rfl⟩
structure CdI (X:QW)(st0:CSt)(q:List Ask)(j:Nat)(st:CSt):Prop where
 eq:st=xqa X st0 (q.take j)
 few:CFew st (401-j)
 ins:InS X st.cells
theorem xq6 {w w':World}{b0 o0:Nat}{v0:Value}{b1 o1:Nat}{v1:Value}{b2 o2:Nat}{v2:Value}{b3 o3:Nat}{v3:Value}{b4 o4:Nat}{v4:Value}{b5 o5:Nat}{v5:Value}{b6 o6:Nat}{v6:Value}{b7 o7:Nat}{v7:Value}{b8 o8:Nat}{v8:Value}(h:w.cell? ⟨b0,o0,none⟩=some v0/\w.cell? ⟨b1,o1,none⟩=some v1/\w.cell? ⟨b2,o2,none⟩=some v2/\w.cell? ⟨b3,o3,none⟩=some v3/\w.cell? ⟨b4,o4,none⟩=some v4/\w.cell? ⟨b5,o5,none⟩=some v5/\w.cell? ⟨b6,o6,none⟩=some v6/\w.cell? ⟨b7,o7,none⟩=some v7/\w.cell? ⟨b8,o8,none⟩=some v8)(hb:Below w.heap.size w w'):w'.cell? ⟨b0,o0,none⟩=some v0/\w'.cell? ⟨b1,o1,none⟩=some v1/\w'.cell? ⟨b2,o2,none⟩=some v2/\w'.cell? ⟨b3,o3,none⟩=some v3/\w'.cell? ⟨b4,o4,none⟩=some v4/\w'.cell? ⟨b5,o5,none⟩=some v5/\w'.cell? ⟨b6,o6,none⟩=some v6/\w'.cell? ⟨b7,o7,none⟩=some v7/\w'.cell? ⟨b8,o8,none⟩=some v8:=
 ⟨qzA hb h.1,qzA hb h.2.1,qzA hb h.2.2.1,qzA hb h.2.2.2.1,qzA hb h.2.2.2.2.1,qzA hb h.2.2.2.2.2.1,qzA hb h.2.2.2.2.2.2.1,qzA hb h.2.2.2.2.2.2.2.1,qzA hb h.2.2.2.2.2.2.2.2⟩
theorem bw11 {w:World}{z:Nat}{v0 v1 v2 v3 v4 v5 v6 v7 v8 v9 v10:Value}{t:TypeId}(h:w.heap[z]?=some (.cells #[v0,v1,v2,v3,v4,v5,v6,v7,v8,v9,v10] t (0,0))):w.cell? ⟨z,0,none⟩=some v0/\w.cell? ⟨z,1,none⟩=some v1/\w.cell? ⟨z,2,none⟩=some v2/\w.cell? ⟨z,3,none⟩=some v3/\w.cell? ⟨z,4,none⟩=some v4/\w.cell? ⟨z,5,none⟩=some v5/\w.cell? ⟨z,6,none⟩=some v6/\w.cell? ⟨z,7,none⟩=some v7/\w.cell? ⟨z,8,none⟩=some v8/\w.cell? ⟨z,9,none⟩=some v9/\w.cell? ⟨z,10,none⟩=some v10:=by
 refine⟨?_,?_,?_,?_,?_,?_,?_,?_,?_,?_,?_⟩<;>(rw[qzB h];rfl)
theorem xqV {X:QW}{st:CSt}{s:QS}{c:Int}(nm:ByteArray)(h:0<=xft st.cells s X.ez c):xpv X st s c nm=⟨st.cells,xc1 st.ts s c,st.hits+1,st.nots⟩:=if_pos h
theorem xqU {X:QW}{st:CSt}{s:QS}{c:Int}{nm:ByteArray}(h:¬ 0<=xft st.cells s X.ez c)(h2:0<=(xaw X.cz c nm).2):xpv X st s c nm=⟨xcX st.cells s X.ez ⟨c,(xaw X.cz c nm).1⟩,xc1 st.ts s c,st.hits,st.nots+1⟩:=by unfold xpv;rw[if_neg h,if_pos h2]
theorem xrb {X:QW}{st:CSt}{s:QS}{c:Int}{nm:ByteArray}(h:¬ 0<=xft st.cells s X.ez c)(h2:¬ 0<=(xaw X.cz c nm).2):xpv X st s c nm=⟨st.cells,xc1 st.ts s c,st.hits,st.nots+1⟩:=by unfold xpv;rw[if_neg h,if_neg h2]
theorem CdI.next {X:QW}{st0:CSt}{q:List Ask}{j:Nat}{st:CSt}(h:CdI X st0 q j st)(hj:j<=400){s:QS}{c:Int}{nm:ByteArray}(ha:q[j]?=some (s,c,nm)):CdI X st0 q (j+1) (xpv X st s c nm):=by
 refine⟨?_,?_,(h.ins.look s c nm).2⟩
 ·rw[h.eq,xqM ha]
 ·have hf:=h.few;rw[show 401-j=(401-(j+1))+1 from by omega] at hf
  exact xqS h.ins hf s c nm
theorem xqd {P Q R S:Nat->Prop}(X:QW)(hX:xaJ X=0)(s:QV)(name:ByteArray)(args:List QV)(fuel:Int)(l:List QE)(ts:List QT)(cv hv av lv tv:Value)(w:World)(hC:xai P w cv X.cz)(hH:xaC P w hv X.heap)(hA:xaB Q w av args)(hL:xbk R w lv l)(hT:xbc S w tv ts)(hn:name.size<=140737488351232)(hf:CFew ⟨l,ts,0,0⟩ 401)(hI:InS X l) :
  Calls Tryz.prog 8 #[WV cv hv X.ez,ClV s name av,.int .i64 fuel,lv,tv] w fun e w'=>xq7 w X (xcI X s name args fuel) (xqa X ⟨l,ts,0,0⟩ (xpw X s name args fuel)) e w':=by
 obtain⟨ac,cc,rfl,-⟩:=id hC;obtain⟨ah,ch,rfl,-⟩:=id hH;obtain⟨aa,ca,rfl,-⟩:=id hA;obtain⟨al,kl,rfl,-⟩:=id hL;obtain⟨at',kt,rfl,-⟩:=id hT;have hb0:Below w.heap.size w (((w.alloc (.cells #[.slice ac X.cz.length cc,.slice ah X.heap.length ch,.int .i64 X.ez] 25)).alloc (.cells #[.int .i64 s.k,.int .i64 s.n,.string name,.slice aa args.length ca] 30)).alloc OB0):=xah (xca _ _ _) (xaj _ _);have hW0:=(xpY w (.slice ac X.cz.length cc) (.slice ah X.heap.length ch) X.ez).later (xca _ (.cells #[.int .i64 s.k,.int .i64 s.n,.string name,.slice aa args.length ca] 30) OB0);have hp0:(((w.alloc (.cells #[.slice ac X.cz.length cc,.slice ah X.heap.length ch,.int .i64 X.ez] 25)).alloc (.cells #[.int .i64 s.k,.int .i64 s.n,.string name,.slice aa args.length ca] 30)).alloc OB0).heap[w.heap.size+1]?=some (.cells #[.int .i64 s.k,.int .i64 s.n,.string name,.slice aa args.length ca] 30 (0,0)):=xac (by have:=qzJ (w.alloc (.cells #[.slice ac X.cz.length cc,.slice ah X.heap.length ch,.int .i64 X.ez] 25)) (.cells #[.int .i64 s.k,.int .i64 s.n,.string name,.slice aa args.length ca] 30);simpa using this) (xaj _ _)
 have hr0:(((w.alloc (.cells #[.slice ac X.cz.length cc,.slice ah X.heap.length ch,.int .i64 X.ez] 25)).alloc (.cells #[.int .i64 s.k,.int .i64 s.n,.string name,.slice aa args.length ca] 30)).alloc OB0).heap[w.heap.size+2]?=some OB0:=by
  have:=qzJ ((w.alloc (.cells #[.slice ac X.cz.length cc,.slice ah X.heap.length ch,.int .i64 X.ez] 25)).alloc (.cells #[.int .i64 s.k,.int .i64 s.n,.string name,.slice aa args.length ca] 30)) OB0
  simpa using this
 have hz0:(((w.alloc (.cells #[.slice ac X.cz.length cc,.slice ah X.heap.length ch,.int .i64 X.ez] 25)).alloc (.cells #[.int .i64 s.k,.int .i64 s.n,.string name,.slice aa args.length ca] 30)).alloc OB0).heap.size=w.heap.size+3:=by simp
 have HCW:=hid hC;have HHW:=hid hH;have HF:=hid hf;have HI:=hid hI;have hst0:=fun a (h:a∈xpw X s name args fuel)=>xrf hX (xqJ s name args fuel a h)
 have hqn:=xqY (X:=X) s name args fuel;have hsq:=xqu X s name args fuel;have HQN:=hid hqn;clear hf hI hqn;go_enter Tryz.func8,Tryz.ntmps8
 go_upto_region 1 with (fail)
 generalize (((w.alloc (.cells #[.slice ac X.cz.length cc,.slice ah X.heap.length ch,.int .i64 X.ez] 25)).alloc (.cells #[.int .i64 s.k,.int .i64 s.n,.string name,.slice aa args.length ca] 30)).alloc OB0)=W0 at *;obtain⟨-,a0,a1,a2⟩:=id hW0;obtain⟨p0,p1,p2,p3⟩:=bw4 hp0;go_wp2_with fail;refine (xms (w.heap.size+2) X hX s name args fuel _ _ _ W0 (by omega) (((xbF hC).later xaz hb0).mono xaz fun b (h:b<w.heap.size)=>(by omega:b≠w.heap.size+2)) (((xcq hH).later xaD hb0).mono xaD fun b (h:b<w.heap.size)=>(by omega:b≠w.heap.size+2)) (((xer hA).later xaK hb0).mono xaK fun b (h:b<w.heap.size)=>(by omega:b≠w.heap.size+2)) hn).mono ?_
 rintro e w1 ⟨hb1,cv5,hv5,T5,mm,deep,err,hv',sv,ov,rfl,hC5,hH5,hM,hst,hTz⟩;obtain⟨hSr,hOr⟩:=xqC (z:=w.heap.size+2) (hst.trans hsq) hM.sites hM.of (fun g hg e=>by have:=hM.stag g hg;rw[e] at this;omega) (fun g hg e=>by have:=hM.otag g hg;rw[e] at this;omega)
 have hC6:=xpr hC5;have hH6:=xpK hH5;have hL6:xbk (fun b=>b<w.heap.size) w1 (.slice al l.length kl) l:=((xp7 hL).later xbw (xah hb0 hb1)).mono xbw fun b h=>h.2
 have hT6:xbc (fun b=>b<w.heap.size) w1 (.slice at' ts.length kt) ts:=((xpF hT).later xbZ (xah hb0 hb1)).mono xbZ fun b h=>h.2
 obtain⟨a5,k5,rfl⟩:∃ a c,cv5=.slice a X.cz.length c:=hC5.get;obtain⟨a6,k6,rfl⟩:∃ a c,hv5=.slice a (xcI X s name args fuel).heap.length c:=hH5.get;obtain⟨a7,k7,rfl⟩:∃ a c,sv=.slice a (xpw X s name args fuel).length c:=hSr.get;obtain⟨a8,k8,rfl⟩:∃ a c,ov=.slice a (xpw X s name args fuel).length c:=hOr.get;have c8:=hM.c8;have c9:=hM.c9;have hmb:=xaf hM.box;have hW1:=hW0.later hb1;have hr1:=xac hr0 hb1;have hs1:=hb1.size;have HZ:Hid (w.heap.size+3<=w1.heap.size):=hid (by omega)
 obtain⟨mb,hmbe⟩:∃ mb,W0.heap.size+4=mb:=⟨_,rfl⟩;rw[hmbe] at c8 c9 hmb ⊢;clear hM hst hsq hC5 hH5 hC hH hA hL hT a0 a1 a2 p0 p1 p2 p3 hp0 hr0 hW0 hz0 hs1 hmbe hb1 hb0;generalize hqe:xpw X s name args fuel=q at *;generalize hre:xcI X s name args fuel=r at *;have HQE:=hid hqe;have HRE:=hid hre;clear hqe hre;dsimp only;have hb3:Below w1.heap.size w1 (((w1.alloc (.cells #[.slice a5 X.cz.length k5,.slice a6 r.heap.length k6,.int .i64 X.ez] 25)).alloc (.cells #[.int .i64 r.v.k,.int .i64 r.v.n,.int .i64 r.err,.int .i64 r.sz_] 37)).alloc (.cells #[.slice a5 X.cz.length k5,.slice a6 r.heap.length k6,.int .i64 X.ez,.int .i64 r.v.k,.int .i64 r.v.n,.int .i64 r.err,.int .i64 r.sz_,.slice al l.length kl,.slice at' ts.length kt,.int .i64 0,.int .i64 0] 39)):=xah (xca _ _ _) (xaj _ _)
 have hR0:CdR X r (.slice ac X.cz.length cc) (.slice ah X.heap.length ch) w (w1.heap.size+2) mb q (.slice a5 X.cz.length k5) (.slice a6 r.heap.length k6) (.slice a7 q.length k7) (.slice a8 q.length k8) (((w1.alloc (.cells #[.slice a5 X.cz.length k5,.slice a6 r.heap.length k6,.int .i64 X.ez] 25)).alloc (.cells #[.int .i64 r.v.k,.int .i64 r.v.n,.int .i64 r.err,.int .i64 r.sz_] 37)).alloc (.cells #[.slice a5 X.cz.length k5,.slice a6 r.heap.length k6,.int .i64 X.ez,.int .i64 r.v.k,.int .i64 r.v.n,.int .i64 r.err,.int .i64 r.sz_,.slice al l.length kl,.slice at' ts.length kt,.int .i64 0,.int .i64 0] 39)) ⟨l,ts,0,0⟩ (.slice al l.length kl) (.slice at' ts.length kt):=by
  have hz:=HZ.out;refine⟨hW1.later hb3,by omega,by omega,(hC6.later xaz hb3).mono xaz ?_,(hH6.later xaD hb3).mono xaD ?_,(hSr.later xqm hb3).mono xqm ?_,(hOr.later xqn hb3).mono xqn ?_,qzA hb3 c9,(hL6.later xbw hb3).mono xbw ?_,(hT6.later xbZ hb3).mono xbZ ?_,?_,xac hr1 hb3⟩
  ·exact fun b h=>⟨h.1,by have:=h.2;omega⟩
  ·exact fun b h=>⟨h.1,by have:=h.2;omega⟩
  ·exact fun b h=>⟨h.1,by have:=h.2;omega⟩
  ·exact fun b h=>⟨h.1,by have:=h.2;omega⟩
  ·exact fun b (h:b<w.heap.size)=>⟨by omega,by omega⟩
  ·exact fun b (h:b<w.heap.size)=>⟨by omega,by omega⟩
  ·have:=qzJ ((w1.alloc (.cells #[.slice a5 X.cz.length k5,.slice a6 r.heap.length k6,.int .i64 X.ez] 25)).alloc (.cells #[.int .i64 r.v.k,.int .i64 r.v.n,.int .i64 r.err,.int .i64 r.sz_] 37)) (.cells #[.slice a5 X.cz.length k5,.slice a6 r.heap.length k6,.int .i64 X.ez,.int .i64 r.v.k,.int .i64 r.v.n,.int .i64 r.err,.int .i64 r.sz_,.slice al l.length kl,.slice at' ts.length kt,.int .i64 0,.int .i64 0] 39)
   simpa using this
 go_upto_region 3 with (fail)
 simp only[Nat.add_assoc,Nat.reduceAdd];have c8:=qzA hb3 c8;generalize (((w1.alloc (.cells #[.slice a5 X.cz.length k5,.slice a6 r.heap.length k6,.int .i64 X.ez] 25)).alloc (.cells #[.int .i64 r.v.k,.int .i64 r.v.n,.int .i64 r.err,.int .i64 r.sz_] 37)).alloc (.cells #[.slice a5 X.cz.length k5,.slice a6 r.heap.length k6,.int .i64 X.ez,.int .i64 r.v.k,.int .i64 r.v.n,.int .i64 r.err,.int .i64 r.sz_,.slice al l.length kl,.slice at' ts.length kt,.int .i64 0,.int .i64 0] 39))=W3 at *;generalize w1.heap.size+2=tb at *;clear hb3;have hql:q.length<=400:=HQN.out;have hI0:CdI X ⟨l,ts,0,0⟩ q 0 ⟨l,ts,0,0⟩:=⟨rfl,HF.out,HI.out⟩
 go_wp2;clear c8
 go_loopg [38] q.length (fun g i wr=>∃ (j:Nat) (st:CSt) (lv tv:Value),j+g=q.length/\i=.int .i64 j/\CdR X r (.slice ac X.cz.length cc) (.slice ah X.heap.length ch) w tb mb q (.slice a5 X.cz.length k5) (.slice a6 r.heap.length k6) (.slice a7 q.length k7) (.slice a8 q.length k8) wr st lv tv/\CdI X ⟨l,ts,0,0⟩ q j st)
 case atStart=>exact⟨0,_,_,_,by omega,rfl,hR0,hI0⟩
 case round=>
  obtain⟨j,st,lv,tv,hj,rfl,hR,hI⟩:=hrel;obtain⟨a3,k3,rfl⟩:∃ a c,lv=.slice a st.cells.length c:=hR.lc.get;obtain⟨a4,k4,rfl⟩:∃ a c,tv=.slice a st.ts.length c:=hR.tc.get;have HI:=hid hI;clear hR0 hI0 hI
  by_cases hlt:j<q.length
  ·obtain⟨⟨⟨sc,sn,sa⟩,cx,nm⟩,haj⟩:∃ a,q[j]?=some a:=⟨_,List.getElem?_eq_getElem hlt⟩;obtain⟨qn,jn,k,yc,m,ins,e1,e2,e3,e4,e5,e6,e7⟩:=hst0 _ (List.mem_of_getElem? haj);dsimp only at e1 e3 e5 e7;subst e1 e5 e7;have HAJ:=hid haj;obtain⟨d1,c1,g1,-,-,-,hr1⟩:=id hR.s;simp only[Value.slice.injEq] at g1;obtain⟨rfl,-,rfl⟩:=g1;obtain⟨b,o,rfl,-,q0,q1,q2⟩:=hr1 j _ haj;obtain⟨d2,c2,g2,-,-,-,hr2⟩:=id hR.o;simp only[Value.slice.injEq] at g2;obtain⟨rfl,-,rfl⟩:=g2;obtain⟨b2,o2,rfl,-,p0⟩:=hr2 j _ haj;unfold xrv at p0;simp only[Nat.add_zero,Nat.mul_one] at q0 p0;dsimp only at q0 q1 q2 p0;have HE2:=hid e2;have HE3:=hid e3
   have HE4:=hid e4;have HE6:=hid e6;have hj1:(j:Int)<(q.length:Int):=by omega
   have hj0:(0:Int)<=(j:Int):=by omega
   have hbx:=xaj wr (.cells #[.int .i64 (qn:Int),.string sn,.int .i64 (k:Int)] 67);have hS:=xeS wr ⟨qn,sn,k⟩ 67;clear hr1 hr2 haj e2 e3 e4 e6
   go_upto_region 6 with (fail)
   replace hR:=hR.later hbx;replace p0:=qzA hbx p0;have hzs:wr.heap.size<(wr.alloc (.cells #[.int .i64 (qn:Int),.string sn,.int .i64 (k:Int)] 67)).heap.size:=by simp
   clear q0 q1 q2 hbx;generalize (wr.alloc (.cells #[.int .i64 (qn:Int),.string sn,.int .i64 (k:Int)] 67))=W at *;generalize wr.heap.size=sb at *;have m9:=hR.mo
   go_upto_region 7 with (fail)
   clear p0 m9;obtain⟨-,-,-,-,-,-,-,b7,b8,b9,b10⟩:=xoL hR.box;obtain⟨s0,s1,s2⟩:=id hS;have hfw:=HI.out.few;have hlc:=hR.tc;go_wp2_with fail;refine (xqL (NoB (w.heap.size+2) tb) st.ts _ ⟨qn,sn,k⟩ cx W hR.no hR.tc (by have:=hfw.t;omega) (fun x hx=>by have:=hfw.tl x hx;omega)).mono ?_
   rintro e w2 ⟨a9,k9,rfl,hT9,hb2⟩;have hR2:=(hR.later hb2).put (o:=8) (u:=.slice a9 (xc1 st.ts ⟨qn,sn,k⟩ cx).length k9) (st':=⟨st.cells,xc1 st.ts ⟨qn,sn,k⟩ cx,st.hits,st.nots⟩) (lv':=.slice a3 st.cells.length k3) (tv':=.slice a9 (xc1 st.ts ⟨qn,sn,k⟩ cx).length k9) (by rw[xad (hR.later hb2).box];rfl) (hR.later hb2).lc hT9
   replace hS:=hS.later hb2;have hzs2:=qzE hzs hb2.size;have htz:=xaf hR.box
   have hS2:SiteAt (w2.setCell ⟨tb,8,none⟩ (.slice a9 (xc1 st.ts ⟨qn,sn,k⟩ cx).length k9)) sb ⟨qn,sn,k⟩:=by
    have hne:sb≠tb:=by
     intro e;subst e;have:=hR.box;have h1:=hS.c1;have h2:=(hR.later hb2).box;rw[qzB h2] at h1
     simp at h1
    exact⟨(qzI _ _ _ _ (by simp;omega)).trans hS.c0,(qzI _ _ _ _ (by simp;omega)).trans hS.c1,(qzI _ _ _ _ (by simp;omega)).trans hS.c2⟩
   have fz:=xam (hR.later hb2).box;obtain⟨-,-,-,-,-,-,-,b7,b8,b9,b10⟩:=xoL (hR.later hb2).box;clear s0 s1 s2 hfw hlc hT9 hR hzs hS hb2
   go_upto_region 8 with (fail)
   generalize (w2.setCell ⟨tb,8,none⟩ (.slice a9 (xc1 st.ts ⟨qn,sn,k⟩ cx).length k9))=V at *;clear b7 b8 b9 b10 fz;obtain⟨-,-,-,-,-,-,-,b7,b8,b9,b10⟩:=xoL hR2.box;obtain⟨s0,s1,s2⟩:=id hS2;obtain⟨-,a0,a1,a2⟩:=id hR2.wb;dsimp only at b7 b8 b9 b10;have hbh:=HI.out.few.h;have hbk:=HI.out.few.k;go_wp2_with fail;refine (xqZ st.cells _ ⟨qn,sn,k⟩ X.ez cx V hR2.lc).mono ?_;rintro e w3 ⟨rfl,hb3⟩;replace hR2:=hR2.later hb3;replace hS2:=hS2.later hb3;clear b7 b8 b9 b10 s0 s1 s2 a0 a1 a2 hb3;have fz:=xam hR2.box;obtain⟨-,-,-,-,-,-,-,b7,b8,b9,b10⟩:=xoL hR2.box;dsimp only at b7 b8 b9 b10
   by_cases g0:0<=xft st.cells ⟨qn,sn,k⟩ X.ez cx
   ·have hd0:decide (0<=xft st.cells ⟨qn,sn,k⟩ X.ez cx)=true:=by simpa using g0
    have HL:=hid (xqV (X:=X) (st:=st) ins.name g0);have hwr:IntKind.i64.wrap (st.hits+1)=st.hits+1:=xaE (by omega) (by omega)
    have hwr':wrap64 (st.hits+1)=st.hits+1:=by unfold wrap64;omega
    have hR3:=hR2.put (o:=9) (u:=.int .i64 (st.hits+1)) (st':=⟨st.cells,xc1 st.ts ⟨qn,sn,k⟩ cx,st.hits+1,st.nots⟩) (lv':=.slice a3 st.cells.length k3) (tv':=.slice a9 (xc1 st.ts ⟨qn,sn,k⟩ cx).length k9) (by rw[xad hR2.box];rfl) hR2.lc hR2.tc
    rw[← HL.out] at hR3;have HR3:=hid hR3;clear g0 hR2 hR3;generalize xft st.cells ⟨qn,sn,k⟩ X.ez cx=gt at *;go_wp2
    go_roundg (gk-1)
    case measure=>omega
    case rel=>exact⟨j+1,_,_,_,by omega,by go_num,HR3.out,HI.out.next (by omega) HAJ.out⟩
   ·have hd0:decide (0<=xft st.cells ⟨qn,sn,k⟩ X.ez cx)=false:=by simpa using g0
    have HG:=hid g0;have hwr:IntKind.i64.wrap (st.nots+1)=st.nots+1:=xaE (by omega) (by omega)
    have hwr':wrap64 (st.nots+1)=st.nots+1:=by unfold wrap64;omega
    have hR3:=hR2.put (o:=10) (u:=.int .i64 (st.nots+1)) (st':=⟨st.cells,xc1 st.ts ⟨qn,sn,k⟩ cx,st.hits,st.nots+1⟩) (lv':=.slice a3 st.cells.length k3) (tv':=.slice a9 (xc1 st.ts ⟨qn,sn,k⟩ cx).length k9) (by rw[xad hR2.box];rfl) hR2.lc hR2.tc
    have hS3:SiteAt (w3.setCell ⟨tb,10,none⟩ (.int .i64 (st.nots+1))) sb ⟨qn,sn,k⟩:=by
     have hne:sb≠tb:=by
      intro e;subst e;have h1:=hS2.c1;rw[qzB hR2.box] at h1
      simp at h1
     exact⟨(qzI _ _ _ _ (by simp;omega)).trans hS2.c0,(qzI _ _ _ _ (by simp;omega)).trans hS2.c1,(qzI _ _ _ _ (by simp;omega)).trans hS2.c2⟩
    clear g0 hR2 hS2
    go_upto_region 11 with (fail)
    clear hd0 hwr hwr' b7 b8 b9 b10 fz;generalize (w3.setCell ⟨tb,10,none⟩ (.int .i64 (st.nots+1)))=Y at *;obtain⟨-,a0,a1,a2⟩:=id hR3.wb;obtain⟨s0,s1,s2⟩:=id hS3;have hCd:=(HCW.out.later xaz hR3.wb.bel).later xaz (qzL _ Y).drew;have hHd:=(HHW.out.later xaD hR3.wb.bel).later xaD (qzL _ Y).drew;obtain⟨bc,oc,bm,om,cm,av,ck,rfl,m3,m4,hK⟩:=xpV hCd HE2.out HE4.out;obtain⟨bi,oi,rfl,i4⟩:=xp2 hK HE6.out;have hqn0:(0:Int)<=(qn:Int):=by omega
    have hqn1:(qn:Int)<(X.cz.length:Int):=by have:=xae HE2.out;omega
    have hjn0:(0:Int)<=(jn:Int):=by omega
    have hjn1:(jn:Int)<(yc.mz.length:Int):=by have:=xae HE4.out;omega
    have hk0:(0:Int)<=(k:Int):=by omega
    have hk1:(k:Int)<(m.code.length:Int):=by have:=xae HE6.out;omega
    have hS0:Y.drew.cell? ⟨w.heap.size,0,none⟩=some (.slice (some ⟨bc,oc,none⟩) X.cz.length cc)/\Y.drew.cell? ⟨w.heap.size,1,none⟩=some (.slice ah X.heap.length ch)/\Y.drew.cell? ⟨w.heap.size,2,none⟩=some (.int .i64 X.ez)/\Y.drew.cell? ⟨sb,0,none⟩=some (.int .i64 (qn:Int))/\Y.drew.cell? ⟨sb,1,none⟩=some (.string sn)/\Y.drew.cell? ⟨sb,2,none⟩=some (.int .i64 (k:Int))/\Y.drew.cell? ⟨bc,oc+qn*4+3,none⟩=some (.slice (some ⟨bm,om,none⟩) yc.mz.length cm)/\Y.drew.cell? ⟨bm,om+jn*5+4,none⟩=some (.slice (some ⟨bi,oi,none⟩) m.code.length ck)/\Y.drew.cell? ⟨bi,oi+k*5+4,none⟩=some (.string ins.name):=⟨a0,a1,a2,s0,s1,s2,m3,m4,i4⟩
    replace hR3:=hid (hR3.later (qzL _ Y).drew);replace hS3:=hid (hS3.later (qzL _ Y).drew);clear a0 a1 a2 s0 s1 s2 m3 m4 i4 hK;have tokA:True:=trivial
    go_region_held3 (fun w'=>w'.cell? ⟨w.heap.size,0,none⟩=some (.slice (some ⟨bc,oc,none⟩) X.cz.length cc)/\w'.cell? ⟨w.heap.size,1,none⟩=some (.slice ah X.heap.length ch)/\w'.cell? ⟨w.heap.size,2,none⟩=some (.int .i64 X.ez)/\w'.cell? ⟨sb,0,none⟩=some (.int .i64 (qn:Int))/\w'.cell? ⟨sb,1,none⟩=some (.string sn)/\w'.cell? ⟨sb,2,none⟩=some (.int .i64 (k:Int))/\w'.cell? ⟨bc,oc+qn*4+3,none⟩=some (.slice (some ⟨bm,om,none⟩) yc.mz.length cm)/\w'.cell? ⟨bm,om+jn*5+4,none⟩=some (.slice (some ⟨bi,oi,none⟩) m.code.length ck)/\w'.cell? ⟨bi,oi+k*5+4,none⟩=some (.string ins.name))
     (first | with_reducible exact hS0 | with_reducible exact hS1 | with_reducible exact hS2)
     (first
      | (have _t:=tokA;go_at_call 27;refine (xqz X ⟨qn,sn,k⟩ _ _ _ hCd ⟨_,_,_,rfl⟩ rfl HE2.out HE3.out).mono ?_;rintro e w4 ⟨rfl,hb4⟩;have hS1:=xq6 hS0 hb4;clear tokA;have tokB:True:=trivial)
      | (have _u:=tokB;go_at_call 19;refine (xhs X cx ins.name _ _ _ (hCd.later xaz hb4) (hHd.later xaD hb4)).mono ?_;rintro e w5 ⟨rfl,hb5⟩;have hS2:=xq6 hS1 hb5;clear tokB))
    have hb45:=xah hb4 hb5;have hR4:=hR3.out.later hb45;have hS4:=hS3.out.later hb45;clear hS0 hS1 hS2 hCd hHd hb4 hb5 hb45 hR3 hS3;have HLP:=hid (fun h2=>xqU (X:=X) (st:=st) (s:=⟨qn,sn,k⟩) (c:=cx) (nm:=ins.name) (by have:=HG.out;omega) h2)
    have HLN:=hid (fun h2=>xrb (X:=X) (st:=st) (s:=⟨qn,sn,k⟩) (c:=cx) (nm:=ins.name) (by have:=HG.out;omega) h2)
    have HNX:=hid (HI.out.next (by omega) HAJ.out)
    generalize xaw X.cz cx ins.name=fr at *;obtain⟨f1,f2⟩:=fr;dsimp only at *;have fz:=xam hR4.box;obtain⟨-,-,-,-,-,-,-,b7,b8,b9,b10⟩:=xoL hR4.box;dsimp only at b7 b8 b9 b10;obtain⟨s0,s1,s2⟩:=id hS4;obtain⟨-,a0,a1,a2⟩:=id hR4.wb
    by_cases k2:0<=f2
    ·have hd2:decide (0<=f2)=true:=by simpa using k2
     have HL:=hid (HLP.out k2);have hcb:=HI.out.few.c;clear k2 HLP HLN;go_wp2_with fail;refine (xqT (NoB (w.heap.size+2) tb) st.cells _ ⟨qn,sn,k⟩ X.ez cx f1 _ hR4.no hR4.lc (by omega)).mono ?_
     rintro e w6 ⟨ap,kp,rfl,hP6,hb6⟩;have hR5:=(hR4.later hb6).put (o:=7) (u:=.slice ap (xcX st.cells ⟨qn,sn,k⟩ X.ez ⟨cx,f1⟩).length kp) (st':=⟨xcX st.cells ⟨qn,sn,k⟩ X.ez ⟨cx,f1⟩,xc1 st.ts ⟨qn,sn,k⟩ cx,st.hits,st.nots+1⟩) (lv':=.slice ap (xcX st.cells ⟨qn,sn,k⟩ X.ez ⟨cx,f1⟩).length kp) (tv':=.slice a9 (xc1 st.ts ⟨qn,sn,k⟩ cx).length k9) (by rw[xad (hR4.later hb6).box];rfl) hP6 (hR4.later hb6).tc
     rw[← HL.out] at hR5;have HR5:=hid hR5;have fz:=xam (hR4.later hb6).box;obtain⟨-,-,-,-,-,-,-,b7,b8,b9,b10⟩:=xoL (hR4.later hb6).box;dsimp only at b7 b8 b9 b10;clear hR4 hS4 s0 s1 s2 a0 a1 a2 hR5 hP6 hb6;go_wp2
     go_roundg (gk-1)
     case measure=>omega
     case rel=>exact⟨j+1,_,_,_,by omega,by go_num,HR5.out,HNX.out⟩
    ·have hd2:decide (0<=f2)=false:=by simpa using k2
     have HL:=hid (HLN.out k2);rw[← HL.out] at hR4;have HR5:=hid hR4;clear k2 HLP HLN hR4 hS4 s0 s1 s2 a0 a1 a2 b7 b8 b9 b10 fz;go_wp2
     go_roundg (gk-1)
     case measure=>omega
     case rel=>exact⟨j+1,_,_,_,by omega,by go_num,HR5.out,HNX.out⟩
  ·obtain rfl:j=q.length:=by omega
   have HE:=hid HI.out.eq;have fz:=xam hR.rb;obtain⟨z0,z1,z2,z3,z4,z5,z6,z7,z8,z9,z10⟩:=bw11 hR.rb;obtain⟨b0,b1,b2,b3,b4,b5,b6,b7,b8,b9,b10⟩:=xoL hR.box;have HQ:=hid (hR.fin);have HT:Hid (q.take q.length=q):=List.take_of_length_le (qzC _);go_wp2;refine qzK (v:=CaV (.slice a5 X.cz.length k5) (.slice a6 r.heap.length k6) X.ez r (.slice a3 st.cells.length k3) (.slice a4 st.ts.length k4) st.hits st.nots) ?_ rfl ?_
   ·simp[results,Tryz.results8,go_sem,z0,z1,z2,z3,z4,z5,z6,z7,z8,z9,z10]
   ·rw[HT.out] at HE;rw[HQE.out,HRE.out,← HE.out]
    exact HQ.out _ _ _ _ _ _ _ _ _ _ _
theorem xg2 {P Q:Nat->Prop}(xs:List QI)(va vb:Value)(w:World)(ha:xa5 P w va xs)(hb:xa5 Q w vb xs):Calls Tryz.prog 29 #[va,vb] w fun e w'=>e=.returned (.bool true)/\Below w.heap.size w w':=by
 obtain⟨ad,cap,rfl,hl,hcap,hby,hrow⟩:=ha;obtain⟨ad',cap',rfl,hl',hcap',hby',hrow'⟩:=hb;go_enter Tryz.func29,Tryz.ntmps29;go_wp2
 go_loopg [13] xs.length (fun g c wr=>∃ j:Nat,j+g=xs.length/\c=.int .i64 j/\∃ n,wr=w.drewN n)
 case atStart=>exact⟨0,by omega,rfl,0,rfl⟩
 case round=>
  obtain⟨j,hj,rfl,nn,rfl⟩:=hrel
  by_cases hlt:j<xs.length
  ·obtain⟨b,o,rfl,-,q0,q1,q2,q3,q4,-⟩:=hrow j xs[j] (by simp[hlt])
   obtain⟨b',o',rfl,-,k0,k1,k2,k3,k4,-⟩:=hrow' j xs[j] (by simp[hlt])
   generalize xs[j]=x at *;simp only[Nat.add_zero] at q0 k0;have hj1:(j:Int)<(xs.length:Int):=by omega
   have hj0:(0:Int)<=(j:Int):=by omega
   clear hrow hrow';go_wp2
   go_quiet (fail)
   go_wp2
   go_roundg (gk-1)
   case measure=>omega
   case rel=>exact⟨j+1,by omega,by go_num,_,rfl⟩
  ·go_wp2
   go_ret
   exact⟨rfl,below_drewN (qzL _ _) _⟩
set_option maxRecDepth 100000 in
theorem xlT {P Q:Nat->Prop}(X:QW)(ca ha cb hb:Value)(w:World)(h1:xai P w ca X.cz)(h2:xaC P w ha X.heap)(h3:xai Q w cb X.cz)(h4:xaC Q w hb X.heap):Calls Tryz.prog 9 #[WV ca ha X.ez,WV cb hb X.ez] w fun e w'=>e=.returned (.bool true)/\Below w.heap.size w w':=by
 obtain⟨ad,cap,rfl,hl,hcap,hby,hrow⟩:=h1;obtain⟨ah,kh,rfl,hlh,hkh,hbh,hrh⟩:=h2;obtain⟨ad',cap',rfl,hl',hcap',hby',hrow'⟩:=h3;obtain⟨ah',kh',rfl,hlh',hkh',hbh',hrh'⟩:=h4;unfold maxLen at hcap hcap' hkh hkh';go_enter Tryz.func9,Tryz.ntmps9;go_wp2;have hW:=xca w (Obj.cells #[Value.slice ad X.cz.length cap,Value.slice ah X.heap.length kh,Value.int .i64 X.ez] 25) (Obj.cells #[Value.slice ad' X.cz.length cap',Value.slice ah' X.heap.length kh',Value.int .i64 X.ez] 25);have a1:((w.alloc (Obj.cells #[Value.slice ad X.cz.length cap,Value.slice ah X.heap.length kh,Value.int .i64 X.ez] 25)).alloc (Obj.cells #[Value.slice ad' X.cz.length cap',Value.slice ah' X.heap.length kh',Value.int .i64 X.ez] 25)).cell? ⟨w.heap.size,1,none⟩=some (Value.slice ah X.heap.length kh):=qzA (xaj _ _) (by rw[xaa _ _ _ _ rfl];rfl)
 have b0:((w.alloc (Obj.cells #[Value.slice ad X.cz.length cap,Value.slice ah X.heap.length kh,Value.int .i64 X.ez] 25)).alloc (Obj.cells #[Value.slice ad' X.cz.length cap',Value.slice ah' X.heap.length kh',Value.int .i64 X.ez] 25)).cell? ⟨w.heap.size+1,0,none⟩=some (Value.slice ad' X.cz.length cap'):=by rw[xaa _ _ _ _ (by simp)];rfl
 have b1:((w.alloc (Obj.cells #[Value.slice ad X.cz.length cap,Value.slice ah X.heap.length kh,Value.int .i64 X.ez] 25)).alloc (Obj.cells #[Value.slice ad' X.cz.length cap',Value.slice ah' X.heap.length kh',Value.int .i64 X.ez] 25)).cell? ⟨w.heap.size+1,1,none⟩=some (Value.slice ah' X.heap.length kh'):=by rw[xaa _ _ _ _ (by simp)];rfl
 generalize ((w.alloc (Obj.cells #[Value.slice ad X.cz.length cap,Value.slice ah X.heap.length kh,Value.int .i64 X.ez] 25)).alloc (Obj.cells #[Value.slice ad' X.cz.length cap',Value.slice ah' X.heap.length kh',Value.int .i64 X.ez] 25))=W at *
 go_loopg [40] X.cz.length (fun g c wr=>∃ j:Nat,j+g=X.cz.length/\c=.int .i64 j/\Below W.heap.size W wr)
 case atStart=>exact⟨0,by omega,rfl,qzL _ _⟩
 case round=>
  obtain⟨j,hj,rfl,hbel⟩:=hrel;have hbw:=xah hW hbel;have b0':=qzA hbel b0
  by_cases hlt:j<X.cz.length
  ·obtain⟨b,o,rfl,-,p0,p1,p2,-,sv,p3,hms⟩:=hrow j X.cz[j] (by simp[hlt])
   obtain⟨b',o',rfl,-,q0,q1,q2,-,sv',q3,hms'⟩:=hrow' j X.cz[j] (by simp[hlt])
   generalize X.cz[j]=x at *;simp only[Nat.add_zero] at p0 q0;replace p0:=qzA hbw p0;replace p1:=qzA hbw p1;replace p2:=qzA hbw p2;replace p3:=qzA hbw p3;replace q0:=fun y=>qzA (xaj wr y) (qzA hbw q0)
   replace q1:=fun y=>qzA (xaj wr y) (qzA hbw q1)
   replace q2:=fun y=>qzA (xaj wr y) (qzA hbw q2)
   replace q3:=fun y=>qzA (xaj wr y) (qzA hbw q3)
   have b0'':=fun y=>qzA (xaj wr y) b0'
   replace hms:=hms.later xbi hbw;replace hms':=hms'.later xbi hbw;obtain⟨am,km,rfl,hlm,hkm,hbm,hrm⟩:=id hms;obtain⟨am',km',rfl,hlm',hkm',hbm',hrm'⟩:=id hms';unfold maxLen at hkm hkm';have hj1:(j:Int)<(X.cz.length:Int):=by omega
   have hj0:(0:Int)<=(j:Int):=by omega
   go_wp2;have hB2:=xca wr (Obj.cells #[Value.string x.name,Value.int .i64 x.super,Value.int .i64 x.slots,Value.slice am x.mz.length km] 54) (Obj.cells #[Value.string x.name,Value.int .i64 x.super,Value.int .i64 x.slots,Value.slice am' x.mz.length km'] 54);have m1:((wr.alloc (Obj.cells #[Value.string x.name,Value.int .i64 x.super,Value.int .i64 x.slots,Value.slice am x.mz.length km] 54)).alloc (Obj.cells #[Value.string x.name,Value.int .i64 x.super,Value.int .i64 x.slots,Value.slice am' x.mz.length km'] 54)).cell? ⟨wr.heap.size+1,3,none⟩=some (Value.slice am' x.mz.length km'):=by rw[xaa _ _ _ _ (by simp)];rfl
   obtain⟨go,hgo⟩:∃ go,go=gk:=⟨_,rfl⟩;have hBW:=xah hbel hB2;replace hms:=hms.later xbi hB2;replace hms':=hms'.later xbi hB2;clear p0 p1 p2 p3 q0 q1 q2 q3 b0' b0'' hrm hrm' hB2 hbw hbel;generalize hBx:wr.heap.size+1=Bx at *;generalize ((wr.alloc (Obj.cells #[Value.string x.name,Value.int .i64 x.super,Value.int .i64 x.slots,Value.slice am x.mz.length km] 54)).alloc (Obj.cells #[Value.string x.name,Value.int .i64 x.super,Value.int .i64 x.slots,Value.slice am' x.mz.length km'] 54))=W2 at *
   go_loopg [81] x.mz.length (fun g c wi=>∃ k:Nat,k+g=x.mz.length/\c=.int .i64 k/\Below W2.heap.size W2 wi)
   case atStart=>exact⟨0,by omega,rfl,qzL _ _⟩
   case round=>
    obtain⟨k,hk,rfl,hbi⟩:=hrel
    by_cases hkl:k<x.mz.length
    ·obtain⟨am0,km0,e0,-,-,-,hrm⟩:=hms.later xbi hbi;simp only[Value.slice.injEq] at e0;obtain⟨rfl,-,rfl⟩:=e0;obtain⟨am0',km0',e0',-,-,-,hrm'⟩:=hms'.later xbi hbi;simp only[Value.slice.injEq] at e0';obtain⟨rfl,-,rfl⟩:=e0';obtain⟨b,o,rfl,-,p0,p1,p2,p3,-,sv,p4,hcc⟩:=hrm k x.mz[k] (by simp[hkl])
     obtain⟨b',o',rfl,-,q0,q1,q2,q3,-,sv',q4,hcc'⟩:=hrm' k x.mz[k] (by simp[hkl])
     generalize x.mz[k]=y at *;simp only[Nat.add_zero] at p0 q0;replace q0:=fun y=>qzA (xaj wr y) q0
     replace q1:=fun y=>qzA (xaj wr y) q1
     replace q2:=fun y=>qzA (xaj wr y) q2
     replace q3:=fun y=>qzA (xaj wr y) q3
     replace q4:=fun y=>qzA (xaj wr y) q4
     have m1':=fun y=>qzA (xaj wr y) (qzA hbi m1)
     obtain⟨ac,kc,rfl⟩:=hcc.get;obtain⟨ac',kc',rfl⟩:=hcc'.get;have hk1:(k:Int)<(x.mz.length:Int):=by omega
     have hk0:(0:Int)<=(k:Int):=by omega
     clear hrm hrm'
     go_wp2_with (go_at_call 29;refine (xg2 y.code _ _ _ (hcc.later xbl (by first | exact xca _ _ _ | exact (xca _ _ _).drew)) (hcc'.later xbl (by first | exact xca _ _ _ | exact (xca _ _ _).drew))).mono ?_;rintro e w5 ⟨rfl,hb5⟩)
     go_roundg (gk-1)
     case measure=>omega
     case rel=>exact⟨k+1,by omega,by go_num,xah hbi (xah (xca _ _ _) hb5)⟩
    ·go_wp2
     go_roundg (go-1)
     case measure=>omega
     case rel=>exact⟨j+1,by omega,by go_num,xah hBW hbi⟩
  ·have a1':=qzA hbel a1;have b1':=qzA hbel b1;have hbw:=xah hW hbel;clear hrow hrow' b0' a1 b1 b0;go_wp2;have hW3:=hbw;generalize wr=W3 at *
   go_loopg [130] X.heap.length (fun g c wr=>∃ j:Nat,j+g=X.heap.length/\c=.int .i64 j/\Below W3.heap.size W3 wr)
   case atStart=>exact⟨0,by omega,rfl,qzL _ _⟩
   case round=>
    obtain⟨j,hj,rfl,hbel⟩:=hrel;have cb1:=qzA hbel b1';have hbw:=xah hW3 hbel
    by_cases hlt:j<X.heap.length
    ·obtain⟨b,o,rfl,-,hv1,sv,hv2,hsl⟩:=hrh j X.heap[j] (by simp[hlt])
     obtain⟨b',o',rfl,-,hv1',sv',hv2',hsl'⟩:=hrh' j X.heap[j] (by simp[hlt])
     generalize X.heap[j]=x at *;simp only[Nat.add_zero] at hv1 hv1';have u1:=qzA hbw hv1;have u2:=qzA hbw hv2;have u1':=qzA hbw hv1';have u2':=qzA hbw hv2';replace hsl:=hsl.later xaK hbw;replace hsl':=hsl'.later xaK hbw;clear hv1 hv2 hv1' hv2';obtain⟨ad2,cap2,rfl,hl2,hcap2,hby2,-⟩:=id hsl;obtain⟨ad2',cap2',rfl,hl2',hcap2',hby2',-⟩:=id hsl';unfold maxLen at hcap2 hcap2';have hj1:(j:Int)<(X.heap.length:Int):=by omega
     have hj0:(0:Int)<=(j:Int):=by omega
     have k1:=fun x=>qzA (xaj wr x) u1
     have k2:=fun x=>qzA (xaj wr x) u2
     have k1':=fun x=>qzA (xaj wr x) u1'
     have k2':=fun x=>qzA (xaj wr x) u2'
     have kb:=fun x=>qzA (xaj wr x) cb1
     go_wp2
     go_quiet (fail)
     go_wp2;have hD:Below wr.heap.size wr ((wr.alloc (Obj.cells #[Value.int .i64 x.cls,Value.slice ad2 x.slots.length cap2] 64)).drewN nq):=below_drewN (xaj _ _) nq;have m1:((wr.alloc (Obj.cells #[Value.int .i64 x.cls,Value.slice ad2 x.slots.length cap2] 64)).drewN nq).cell? ⟨wr.heap.size,1,none⟩=some (Value.slice ad2 x.slots.length cap2):=by simp
     have m2:=qzA hD u2';have mb:=qzA hD cb1;have hBW:=xah hbel hD;obtain⟨Bx,hBx⟩:∃ Bx,Bx=wr.heap.size:=⟨_,rfl⟩;rw[← hBx] at m1 ⊢;clear hBx;replace hsl:=hsl.later xaK hD;replace hsl':=hsl'.later xaK hD;clear k1 k2 k1' k2' kb u1 u2 u1' u2' cb1 hD;generalize (wr.alloc (Obj.cells #[Value.int .i64 x.cls,Value.slice ad2 x.slots.length cap2] 64)).drewN nq=W2 at *;clear hbel hbw;obtain⟨go,hgo⟩:∃ go,go=gk:=⟨_,rfl⟩
     go_loopg [160] x.slots.length (fun g c wi=>∃ k:Nat,k+g=x.slots.length/\c=.int .i64 k/\∃ n,wi=W2.drewN n)
     case atStart=>exact⟨0,by omega,rfl,0,rfl⟩
     case round=>
      obtain⟨k,hk,rfl,nn,rfl⟩:=hrel
      by_cases hkl:k<x.slots.length
      ·obtain⟨a0,c0,e0,-,-,-,hr2⟩:=hsl;simp only[Value.slice.injEq] at e0;obtain⟨rfl,-,rfl⟩:=e0;obtain⟨a0',c0',e0',-,-,-,hr2'⟩:=hsl';simp only[Value.slice.injEq] at e0';obtain⟨rfl,-,rfl⟩:=e0';obtain⟨b2,o2,rfl,-,q1,q2⟩:=hr2 k x.slots[k] (by simp[hkl])
       obtain⟨b3,o3,rfl,-,q3,q4⟩:=hr2' k x.slots[k] (by simp[hkl])
       generalize x.slots[k]=y at *;simp only[Nat.add_zero] at q1 q3;have hk1:(k:Int)<(x.slots.length:Int):=by omega
       have hk0:(0:Int)<=(k:Int):=by omega
       clear hr2 hr2';go_wp2
       go_quiet (fail)
       go_wp2
       go_roundg (gk-1)
       case measure=>omega
       case rel=>exact⟨k+1,by omega,by go_num,_,rfl⟩
      ·go_wp2
       go_roundg (go-1)
       case measure=>omega
       case rel=>exact⟨j+1,by omega,by go_num,below_drewN hBW nn⟩
    ·go_wp2
     go_ret
     exact⟨rfl,hbw⟩
theorem xos (d:Nat)(k n k' n':Int)(w:World):(Op.equalIn (d+2) 27 (.agg #[.int .i64 k,.int .i64 n]) (.agg #[.int .i64 k',.int .i64 n'])).run Tryz.prog w=.ok (k == k' && n == n') w:=by
 have u3:=Tryz.underlying3;have a3:=Tryz.isAgg3;have z3:=Tryz.sizeOf3;have hS:Tryz.prog.underlying 27=some (.struct (Tryz.prog.fieldsOf 27)):=by kernel_rfl
 have hp:Tryz.prog.stoodInHeld 27=false:=by kernel_rfl
 rw[run_equalIn_struct w (d+1) 27 _ _ hS hp];simp only[Program.fieldsOf,Tryz.underlying27];go_simp
 by_cases h1:k=k'<;>by_cases h3:n=n'<;>simp[h1,h3]
theorem xoG (x y:Ran)(w:World):(Op.equalIn 10000 37 (RnV x) (RnV y)).run Tryz.prog w=.ok (x.v.k == y.v.k && x.v.n == y.v.n && x.err == y.err && x.sz_ == y.sz_) w:=by
 have u3:=Tryz.underlying3;have a3:=Tryz.isAgg3;have z3:=Tryz.sizeOf3;have u31:=Tryz.underlying33;have a31:=Tryz.isAgg33;have z31:=Tryz.sizeOf33;have a27:=Tryz.isAgg27;have z27:=Tryz.sizeOf27;have hV:=xos 9997;have hS:Tryz.prog.underlying 37=some (.struct (Tryz.prog.fieldsOf 37)):=by kernel_rfl
 have hp:Tryz.prog.stoodInHeld 37=false:=by kernel_rfl
 rw[show (10000:Nat)=9999+1 from rfl,run_equalIn_struct w 9999 37 _ _ hS hp]
 simp only[Program.fieldsOf,Tryz.underlying37];clear hS hp;go_simp
 by_cases h1:x.v.k=y.v.k<;>by_cases h2:x.v.n=y.v.n<;>by_cases h3:x.err=y.err<;>by_cases h4:x.sz_=y.sz_<;>simp[h1,h2,h3,h4]
theorem eqlR (x y:Ran)(w:World):(binOp .eql 37 (RnV x) (RnV y)).run Tryz.prog w=.ok (.bool (x.v.k == y.v.k && x.v.n == y.v.n && x.err == y.err && x.sz_ == y.sz_)) w:=by
 rw[run_eql_struct,xoG]
 rfl
theorem xmd (x:Ran):(x.v.k == x.v.k && x.v.n == x.v.n && x.err == x.err && x.sz_ == x.sz_)=true:=by simp
structure TwB (w:World)(cv hv:Value)(ep:Int)(s:QV)(name:ByteArray)(av:Value)(wr:World):Prop where
 wb:WtB w cv hv ep wr
 cb:wr.heap[w.heap.size+1]?=some (.cells #[.int .i64 s.k,.int .i64 s.n,.string name,av] 30 (0,0))
theorem TwB.later {w:World}{cv hv:Value}{ep:Int}{s:QV}{name:ByteArray}{av:Value}{wr ws:World}(h:TwB w cv hv ep s name av wr)(hb:Below wr.heap.size wr ws):TwB w cv hv ep s name av ws:=⟨h.wb.later hb,xac h.cb hb⟩
theorem xq8 (w:World)(cv hv:Value)(ep:Int)(s:QV)(name:ByteArray)(av:Value):TwB w cv hv ep s name av ((w.alloc (.cells #[cv,hv,.int .i64 ep] 25)).alloc (.cells #[.int .i64 s.k,.int .i64 s.n,.string name,av] 30)):=
 ⟨(xpY w cv hv ep).later (xaj _ _),by have:=qzJ (w.alloc (.cells #[cv,hv,.int .i64 ep] 25)) (.cells #[.int .i64 s.k,.int .i64 s.n,.string name,av] 30);simpa using this⟩
theorem TwB.al {w:World}{cv hv:Value}{ep:Int}{s:QV}{name:ByteArray}{av:Value}{wr:World}(h:TwB w cv hv ep s name av wr):(wr.cell? ⟨w.heap.size,0,none⟩=some cv/\wr.cell? ⟨w.heap.size,1,none⟩=some hv/\wr.cell? ⟨w.heap.size,2,none⟩=some (.int .i64 ep))/\wr.cell? ⟨w.heap.size+1,0,none⟩=some (.int .i64 s.k)/\wr.cell? ⟨w.heap.size+1,1,none⟩=some (.int .i64 s.n)/\wr.cell? ⟨w.heap.size+1,2,none⟩=some (.string name)/\wr.cell? ⟨w.heap.size+1,3,none⟩=some av:=
 ⟨⟨h.wb.a0,h.wb.a1,h.wb.a2⟩,bw4 h.cb⟩
theorem xqw {P Q R S:Nat->Prop}(X:QW)(s:QV)(name:ByteArray)(args:List QV)(fuel:Int)(l:List QE)(ts:List QT)(cv hv av lv tv:Value)(w:World)(hC:xai P w cv X.cz)(hH:xaC P w hv X.heap)(hA:xaB Q w av args)(hL:xbk R w lv l)(hT:xbc S w tv ts)(hn:name.size<=140737488351232)(hf:CFew ⟨l,ts,0,0⟩ 401) :
  Calls Tryz.prog 3 #[WV cv hv X.ez,ClV s name av,.int .i64 fuel,lv,tv] w fun e w'=>e=.returned (.bool true)/\Below w.heap.size w w':=by
 obtain⟨ac,cc,rfl,-⟩:=id hC;obtain⟨ah,ch,rfl,-⟩:=id hH;obtain⟨aa,ca,rfl,-⟩:=id hA;obtain⟨al,kl,rfl,-⟩:=id hL;obtain⟨at',kt,rfl,-⟩:=id hT;have hR:=xq8 w (.slice ac X.cz.length cc) (.slice ah X.heap.length ch) X.ez s name (.slice aa args.length ca);go_enter Tryz.func3,Tryz.ntmps3;go_wp2_with fail;generalize ((w.alloc (.cells #[.slice ac X.cz.length cc,.slice ah X.heap.length ch,.int .i64 X.ez] 25)).alloc (.cells #[.int .i64 s.k,.int .i64 s.n,.string name,.slice aa args.length ca] 30))=W0 at *;refine (xjO X _ _ _ (hC.later xaz hR.wb.bel) (hH.later xaD hR.wb.bel)).mono ?_;rintro e w1 ⟨rfl,hb1⟩;replace hR:=hR.later hb1
 clear hb1;obtain⟨⟨a0,a1,a2⟩,p0,p1,p2,p3⟩:=hR.al
 by_cases hX:xaJ X=0
 ·rw[hX];go_wp2_with fail;refine (xqv X l _ _ _ _ (hC.later xaz hR.wb.bel) (hH.later xaD hR.wb.bel) (hL.later xbw hR.wb.bel)).mono ?_;rintro e w2 ⟨rfl,hb2⟩;replace hR:=hR.later hb2;clear hb2 a0 a1 a2 p0 p1 p2 p3;obtain⟨⟨a0,a1,a2⟩,p0,p1,p2,p3⟩:=hR.al
  by_cases hk:xpn X l=true
  ·obtain⟨hT1,hI1⟩:=xqr hX hk;rw[hk];have hca:=fun (w':World) (hb:Below w.heap.size w w')=>xfH X hX s name args fuel l ts _ _ _ _ _ w' (hC.later xaz hb) (hH.later xaD hb) (hA.later xaK hb) (hL.later xbw hb) (hT.later xbZ hb) hn (hf.mono (by omega))
   have hrc:=fun (w':World) (hb:Below w.heap.size w w')=>xqd X hX s name args fuel l ts _ _ _ _ _ w' (hC.later xaz hb) (hH.later xaD hb) (hA.later xaK hb) (hL.later xbw hb) (hT.later xbZ hb) hn hf hI1
   rw[xqi hX hT1,xq5 _ _ hI1] at hca;generalize xqa X ⟨l,ts,0,0⟩ (xpw X s name args fuel)=st at *;generalize xcI X s name args fuel=r at *;clear hT1 hI1 hk hX;go_wp2_with fail;refine (hca w2 hR.wb.bel).mono ?_;rintro e Y ⟨hbY,cvY,hvY,lvY,tvY,rfl,c1,c2,c3,c4⟩;obtain⟨b1,j1,rfl⟩:∃ a c,cvY=.slice a X.cz.length c:=c1.get;obtain⟨b2,j2,rfl⟩:∃ a c,hvY=.slice a r.heap.length c:=c2.get;obtain⟨b3,j3,rfl⟩:∃ a c,lvY=.slice a st.cells.length c:=c3.get;obtain⟨b4,j4,rfl⟩:∃ a c,tvY=.slice a st.ts.length c:=c4.get;dsimp only at *;clear a0 a1 a2 p0 p1 p2 p3 hca;have hbo:=xaj Y (OB2 (.slice b1 X.cz.length j1) (.slice b2 r.heap.length j2) X.ez r (.slice b3 st.cells.length j3) (.slice b4 st.ts.length j4) st)
   have hoB:=qzJ Y (OB2 (.slice b1 X.cz.length j1) (.slice b2 r.heap.length j2) X.ez r (.slice b3 st.cells.length j3) (.slice b4 st.ts.length j4) st);replace hR:=hR.later (xah hbY hbo);replace c1:=c1.later xaz hbo;replace c2:=c2.later xaD hbo;replace c3:=c3.later xbw hbo;replace c4:=c4.later xbZ hbo;clear hbY hbo
   go_upto_region 4 with (fail)
   generalize (Y.alloc (OB2 (.slice b1 X.cz.length j1) (.slice b2 r.heap.length j2) X.ez r (.slice b3 st.cells.length j3) (.slice b4 st.ts.length j4) st))=Z at *;generalize Y.heap.size=ob at *;obtain⟨⟨a0,a1,a2⟩,p0,p1,p2,p3⟩:=hR.al;go_wp2_with fail;refine (hrc Z hR.wb.bel).mono ?_;rintro e V ⟨hbV,cvV,hvV,lvV,tvV,rfl,d1,d2,d3,d4⟩;obtain⟨x1,y1,rfl⟩:∃ a c,cvV=.slice a X.cz.length c:=d1.get;obtain⟨x2,y2,rfl⟩:∃ a c,hvV=.slice a r.heap.length c:=d2.get;obtain⟨x3,y3,rfl⟩:∃ a c,lvV=.slice a st.cells.length c:=d3.get;obtain⟨x4,y4,rfl⟩:∃ a c,tvV=.slice a st.ts.length c:=d4.get;clear a0 a1 a2 p0 p1 p2 p3 hrc
   have hbo:=xaj V (OB2 (.slice x1 X.cz.length y1) (.slice x2 r.heap.length y2) X.ez r (.slice x3 st.cells.length y3) (.slice x4 st.ts.length y4) st);have hpB:=qzJ V (OB2 (.slice x1 X.cz.length y1) (.slice x2 r.heap.length y2) X.ez r (.slice x3 st.cells.length y3) (.slice x4 st.ts.length y4) st);have hbVo:=xah hbV hbo;replace hoB:=xac hoB hbVo;have hbel:=xah hR.wb.bel hbVo;replace c1:=c1.later xaz hbVo;replace c2:=c2.later xaD hbVo;replace c3:=c3.later xbw hbVo;replace c4:=c4.later xbZ hbVo;replace d1:=d1.later xaz hbo;replace d2:=d2.later xaD hbo;replace d3:=d3.later xbw hbo;replace d4:=d4.later xbZ hbo
   clear hbV hbo hbVo hR
   go_upto_region 5 with (fail)
   generalize (V.alloc (OB2 (.slice x1 X.cz.length y1) (.slice x2 r.heap.length y2) X.ez r (.slice x3 st.cells.length y3) (.slice x4 st.ts.length y4) st))=U at *;generalize V.heap.size=pb at *;obtain⟨o0,o1,o2,o3,o4,o5,o6,o7,o8,o9,o10⟩:=xoL hoB;obtain⟨q0,q1,q2,q3,q4,q5,q6,q7,q8,q9,q10⟩:=xoL hpB;have hqr:∀ w,(binOp .eql 37 (RnV r) (RnV r)).run Tryz.prog w=.ok (.bool true) w:=fun w=>by rw[eqlR,xmd]
   go_wp2_with fail;refine (xlT ⟨X.cz,r.heap,X.ez⟩ _ _ _ _ U c1 c2 d1 d2).mono ?_;rintro e F ⟨rfl,hbF⟩;replace hoB:=xac hoB hbF;replace hpB:=xac hpB hbF;replace hbel:=xah hbel hbF;replace c3:=c3.later xbw hbF;replace c4:=c4.later xbZ hbF;replace d3:=d3.later xbw hbF;replace d4:=d4.later xbZ hbF;clear o0 o1 o2 o3 o4 o5 o6 o7 o8 o9 o10 q0 q1 q2 q3 q4 q5 q6 q7 q8 q9 q10 hbF c1 c2 d1 d2;obtain⟨o0,o1,o2,o3,o4,o5,o6,o7,o8,o9,o10⟩:=xoL hoB;obtain⟨q0,q1,q2,q3,q4,q5,q6,q7,q8,q9,q10⟩:=xoL hpB;go_wp2_with fail;refine (xp1 st.cells _ _ F c3 d3).mono ?_;rintro e G ⟨rfl,hbF⟩;replace hoB:=xac hoB hbF;replace hpB:=xac hpB hbF
   replace hbel:=xah hbel hbF;replace c4:=c4.later xbZ hbF;replace d4:=d4.later xbZ hbF;clear o0 o1 o2 o3 o4 o5 o6 o7 o8 o9 o10 q0 q1 q2 q3 q4 q5 q6 q7 q8 q9 q10 hbF c3 d3;obtain⟨o0,o1,o2,o3,o4,o5,o6,o7,o8,o9,o10⟩:=xoL hoB;obtain⟨q0,q1,q2,q3,q4,q5,q6,q7,q8,q9,q10⟩:=xoL hpB;go_wp2_with fail;refine (xpH st.ts _ _ G c4 d4).mono ?_;rintro e J ⟨rfl,hbF⟩;replace hoB:=xac hoB hbF;replace hpB:=xac hpB hbF;replace hbel:=xah hbel hbF;clear o0 o1 o2 o3 o4 o5 o6 o7 o8 o9 o10 q0 q1 q2 q3 q4 q5 q6 q7 q8 q9 q10 hbF c4 d4;obtain⟨o0,o1,o2,o3,o4,o5,o6,o7,o8,o9,o10⟩:=xoL hoB;obtain⟨q0,q1,q2,q3,q4,q5,q6,q7,q8,q9,q10⟩:=xoL hpB
   go_wp2;refine qzK (v:=.bool true) ?_ rfl ⟨rfl,hbel⟩
   simp[results,Tryz.results3,go_sem]
  ·have hk':xpn X l=false:=by simpa using hk
   rw[hk'];go_wp2;refine qzK (v:=.bool true) ?_ rfl ⟨rfl,hR.wb.bel⟩
   simp[results,Tryz.results3,go_sem]
 ·have hd:(xaJ X != 0)=true:=by simpa using hX
  go_wp2;refine qzK (v:=.bool true) ?_ rfl ⟨rfl,hR.wb.bel⟩
  simp[results,Tryz.results3,go_sem]
section
variable {H:Type} {enc:TypeId × Value->H} {w:World} {base:Nat} {spare:Nat->Bool} {held:Bool}
theorem xns:Tryz.prog.cellsOf 30=4:=by kernel_rfl
theorem xqB {r:Reach}{b0:Nat}{v:Value}{d:DataW H}{p:List MemPlace}(hv:Value.okWide Tryz.prog w r b0 30 v)(h:DataW.Trod enc Tryz.prog w base spare held 30 v d p)(hw:∀ n∈d.weights Tryz.prog 30,n<=140737488351232):∃ (s:QV) (name:ByteArray) (av:Value) (args:List QV),v=ClV s name av/\name.size<=140737488351232/\xaB Tru w av args:=by
 obtain⟨cs,rfl,hsz⟩:=okWide_struct Tryz.underlying30 hv;obtain⟨c0,c1,c2,c3,rfl⟩:=Joins.array4 (hsz.trans xns);obtain⟨fuel,hf0⟩:=h;obtain⟨xs,k,hk,hxy,_,hxl,hf⟩:=DataW.trod_struct Tryz.underlying30 hf0
 match xs,hxl with
 | [y0,y1,y2],_=>
  have g0:=hf 0 _ rfl;have g1:=hf 1 _ rfl;have g2:=hf 2 _ rfl
  simp[Value.cells,xld,xiE,xls] at g0 g1 g2
  simp only[Prod.mk.injEq] at hxy;obtain⟨rfl,-⟩:=hxy;obtain⟨y,hy⟩:=xiw rfl g0;obtain⟨z0,z1⟩:=hy
  simp at z0 z1
  subst z0 z1;obtain⟨s,e1,e2,-⟩:=DataW.trod_string Tryz.underlying9 g1
  simp at e1
  subst e1;obtain⟨l,hl⟩:=xg3 g2 (fun q hq=>hw q (xbx (j:=2) (xs:=[y0,y1,y2]) Tryz.underlying30 rfl rfl q hq))
  have hs:s.size<=140737488351232:=by
   have:=hw s.data.toList.length (xbx (j:=1) (xs:=[y0,y1,y2]) Tryz.underlying30 rfl rfl _ (by rw[e2];simp[DataW.weights]))
   simpa using this
  exact⟨y,s,_,l,rfl,hs,hl⟩
end
theorem xrc:Tryz.prog.bytesOf 72=16:=by kernel_rfl
theorem xrg:Tryz.prog.bytesOf 97=56:=by kernel_rfl
theorem xrk:Tryz.prog.bytesOf 70=72:=by kernel_rfl
theorem xqA:Tryz.prog.cellsOf 67=3:=by kernel_rfl
theorem xrd:Tryz.prog.cellsOf 72=2:=by kernel_rfl
theorem xrh:Tryz.prog.cellsOf 97=4:=by kernel_rfl
theorem xq9:Tryz.prog.cellsOf 70=6:=by kernel_rfl
theorem xqy:Tryz.prog.cellsOf 68=1:=by kernel_rfl
theorem xru:Tryz.prog.cellsOf 4=1:=by kernel_rfl
theorem IsRow.weak {α:Type}{E:Lay α}{sz bytes:Nat}{P:Nat->Prop}{w:World}{v:Value}{xs:List α}(h:IsRow E sz bytes P w v xs):IsRow E sz 0 P w v xs/\xs.length*bytes<=140737488351232:=by
 obtain⟨ad,cap,h1,h2,h3,h4,h5⟩:=h
 exact⟨⟨ad,cap,h1,h2,h3,by simp,h5⟩,h4⟩
def xqk {α:Type}(E:Lay α)(q:α->Prop):Lay α:=fun P w f x=>E P w f x/\q x
theorem Good.and {α:Type}{E:Lay α}{sz:Nat}(G:Good E sz)(q:α->Prop):Good (xqk E q) sz where
 move h hl hk hf:=⟨G.move h.1 hl hk hf,h.2⟩
 there h:=G.there h.1
 pos:=G.pos
theorem IsRow.split {α:Type}{E:Lay α}{q:α->Prop}{sz bytes:Nat}{P:Nat->Prop}{w:World}{v:Value}{xs:List α}(h:IsRow (xqk E q) sz bytes P w v xs):IsRow E sz bytes P w v xs/\∀ x∈xs,q x:=by
 obtain⟨ad,cap,h1,h2,h3,h4,h5⟩:=h;refine⟨⟨ad,cap,h1,h2,h3,h4,fun i x hx=>?_⟩,fun x hx=>?_⟩
 ·obtain⟨b,o,e1,e2,e3⟩:=h5 i x hx
  exact⟨b,o,e1,e2,e3.1⟩
 ·obtain⟨i,hi,rfl⟩:=List.mem_iff_getElem.1 hx;obtain⟨b,o,e1,e2,e3⟩:=h5 i xs[i] (by simp)
  exact e3.2
theorem xqo {H:Type}:∀ {l:List (DataW H)} {d:DataW H},d∈l->Rows.uptoBulk d<=Rows.uptoBulkAll l
 | [],d,h=>by simp at h
 | x :: r,d,h=>by
  simp only[Rows.uptoBulkAll]
  rcases List.mem_cons.1 h with rfl | h
  ·omega
  ·have:=xqo h;omega
section
variable {H:Type} {enc:TypeId × Value->H} {w:World} {base:Nat} {spare:Nat->Bool} {held:Bool}
theorem xp4 {n:Nat}{cs:List Value}{x:DataW H × List MemPlace}(hl:cs.length=3)(h:DataW.trod enc Tryz.prog w base spare held n 67 cs=some x):∃ y,xrw Tru w (fun k=>cs[k]?) y:=by
 obtain⟨xs,k,hk,hxy,_,hxl,hf⟩:=DataW.trod_struct Tryz.underlying67 h
 match xs,hxl,cs,hl with
 | [y0,y1,y2],_,[v0,v1,v2],_=>
  have g0:=hf 0 _ rfl;have g1:=hf 1 _ rfl;have g2:=hf 2 _ rfl
  simp[xgN,xiE] at g0 g1 g2
  obtain⟨a,e0,-,-⟩:=DataW.trod_int Tryz.underlying3 g0;obtain⟨s,e1,-,-⟩:=DataW.trod_string Tryz.underlying9 g1;obtain⟨b,e2,-,-⟩:=DataW.trod_int Tryz.underlying3 g2
  simp at e0 e1 e2
  subst e0 e1 e2
  exact⟨⟨a,s,b⟩,rfl,rfl,rfl⟩
theorem xqK {n:Nat}{cs:List Value}{x:DataW H × List MemPlace}(hl:cs.length=2)(h:DataW.trod enc Tryz.prog w base spare held n 72 cs=some x):∃ y,xda Tru w (fun k=>cs[k]?) y:=by
 obtain⟨xs,k,hk,hxy,_,hxl,hf⟩:=DataW.trod_struct Tryz.underlying72 h
 match xs,hxl,cs,hl with
 | [y0,y1],_,[v0,v1],_=>
  have g0:=hf 0 _ rfl;have g1:=hf 1 _ rfl
  simp[xgN] at g0 g1
  obtain⟨a,e0,-,-⟩:=DataW.trod_int Tryz.underlying3 g0;obtain⟨b,e1,-,-⟩:=DataW.trod_int Tryz.underlying3 g1
  simp at e0 e1
  subst e0 e1
  exact⟨⟨a,b⟩,rfl,rfl⟩
theorem xpW {fuel:Nat}{v:Value}{x:DataW H × List MemPlace}(h:DataW.trod enc Tryz.prog w base spare held fuel 68 [v]=some x)(hw:∀ n∈x.1.weights Tryz.prog 68,n<=140737488351232):∃ xs,IsRow xda 2 16 Tru w v xs:=
 xdA xbq Tryz.underlying68 xrd xrc (by omega) (fun n cs x hl h hw=>xqK hl h) h hw
theorem xpE {T e:TypeId}(ht:Tryz.prog.underlying T=some (.slice e)){r:Reach}{b0:Nat}{v:Value}{d:DataW H}{p:List MemPlace}(hv:Value.okWide Tryz.prog w r b0 T v)(h:DataW.Trod enc Tryz.prog w base spare held T v d p):∃ fuel,DataW.trod enc Tryz.prog w base spare held fuel T [v]=some (d,p):=by
 obtain⟨fuel,hf⟩:=h;obtain⟨a,len,cap,rfl⟩:=okWide_slice ht hv
 exact⟨fuel,hf⟩
theorem xqp {H:Type}:∀ l:List (DataW H),l.length<=Rows.uptoBulkAll l
 | []=>by simp
 | d :: r=>by
  have ih:=xqp r
  have h1:1<=Rows.uptoBulk d:=by
   cases d with
   | lit l=>cases l<;>simp[Rows.uptoBulk]
   | nil=>simp[Rows.uptoBulk]
   | ptr d=>simp[Rows.uptoBulk]
   | slice elems spare=>simp[Rows.uptoBulk]
   | agg parts=>simp[Rows.uptoBulk]
   | iface t d=>simp[Rows.uptoBulk]
   | map entries=>simp[Rows.uptoBulk]
   | held h=>simp[Rows.uptoBulk]
  simp only[Rows.uptoBulkAll,List.length_cons]
  omega
theorem xqx {T e:TypeId}(ht:Tryz.prog.underlying T=some (.slice e)){fuel:Nat}{a:Option Addr}{n c:Nat}{x:DataW H × List MemPlace}(h:DataW.trod enc Tryz.prog w base spare held fuel T [.slice a n c]=some x):n<=Rows.uptoBulk x.1:=by
 rcases Go.Deep.open_slice ht h with ⟨hcs,-⟩ | ⟨b,len,cap,m,k,D,Pl,hcs,-,hl,hm,hmm,rfl,hx⟩
 ·simp at hcs;omega
 ·simp at hcs
  obtain⟨-,rfl,-⟩:=hcs;have:=xqp ((List.range n).map D);simp only[List.length_map,List.length_range] at this;simp only[Rows.uptoBulk]
  omega
theorem xpD {α:Type}{E:Lay α}{sz bytes:Nat}{P:Nat->Prop}{T e:TypeId}(ht:Tryz.prog.underlying T=some (.slice e)){fuel:Nat}{v:Value}{xs:List α}{x:DataW H × List MemPlace}(h:DataW.trod enc Tryz.prog w base spare held fuel T [v]=some x)(hr:IsRow E sz bytes P w v xs):xs.length<=Rows.uptoBulk x.1:=by
 obtain⟨ad,cap,rfl,-⟩:=hr
 exact xqx ht h
theorem xpU {α:Type}{E:Lay α}{sz bytes M:Nat}(G:Good E sz){T e:TypeId}(ht:Tryz.prog.underlying T=some (.slice e))(hc:Tryz.prog.cellsOf e=sz)(hb:Tryz.prog.bytesOf e=bytes)(hp:0<bytes)
  (hel:∀ (n:Nat) (cs:List Value) (x:DataW H × List MemPlace),cs.length=sz->DataW.trod enc Tryz.prog w base spare held n e cs=some x->(∀ n∈x.1.weights Tryz.prog e,n<=140737488351232)->Rows.uptoBulk x.1<=M->∃ y,E Tru w (fun k=>cs[k]?) y)
  {fuel:Nat} {v:Value} {x:DataW H × List MemPlace} (h:DataW.trod enc Tryz.prog w base spare held fuel T [v]=some x) (hw:∀ n∈x.1.weights Tryz.prog T,n<=140737488351232) (hM:Rows.uptoBulk x.1<=M):∃ xs,IsRow E sz bytes Tru w v xs:=by
 have hsz:=G.pos
 rcases Go.Deep.open_slice ht h with ⟨hcs,-⟩ | ⟨a,len,cap,m,n,D,Pl,hcs,-,hl,hm,hmm,rfl,hx⟩
 ·simp only[List.cons.injEq,and_true] at hcs;subst hcs
  exact⟨[],none,0,rfl,qzC _,by unfold maxLen;omega,by simp,fun i x hx=>by simp at hx⟩
 ·simp only[List.cons.injEq,and_true] at hcs;subst hcs;have hlm:len<=m:=by rw[hmm];split<;>omega
  have hbd:len*bytes<=140737488351232:=by
   have:=hw ((((List.range len).map D).length+((List.range (m-len)).map fun j=>D (len+j)).length)*Tryz.prog.bytesOf e) (by simp[DataW.weights,ht])
   rw[hb] at this
   simp at this
   rw[show len+(m-len)=m by omega] at this
   exact qzD (Nat.mul_le_mul_right _ hlm) this
  have hsl:∀ i,i<len->∃ y,∃ b o,a=⟨b,o,none⟩/\E Tru w (fun k=>w.cell? ⟨b,o+i*sz+k,none⟩) y:=fun i hi=>by
   obtain⟨cs,h1,h2⟩:=hx i (by omega)
   rw[hc] at h1;obtain⟨_,hlen,hcell⟩:=World.cells?_some h1
   obtain⟨y,hy⟩:=hel n cs _ hlen h2 (fun q hq=>hw q (by
    simp only[DataW.weights,ht,List.mem_cons,List.mem_append]
    exact Or.inr (Or.inl (xi5 (d:=D i) (by simp;exact⟨i,hi,rfl⟩) q hq)))) (qzD (by
    have:=xqo (l:=(List.range len).map D) (d:=D i) (by simp;exact⟨i,hi,rfl⟩)
    simp only[Rows.uptoBulk];omega) hM)
   obtain⟨b,o,rfl⟩:∃ b o,a=⟨b,o,none⟩:=by
    obtain⟨cs0,k1,-⟩:=hx 0 (by omega)
    rw[hc] at k1;obtain⟨_,hlen0,hcell0⟩:=World.cells?_some k1;have h0:=hcell0 0 (by omega)
    rw[Go.Deep.add_add,Nat.zero_mul,Nat.add_zero,List.getElem?_eq_getElem (by omega)] at h0
    exact xl2 h0
   refine⟨y,b,o,rfl,G.move hy (fun _ h=>h) (.refl _ _) fun k hk u hu=>?_⟩
   have h0:=hcell k (by omega)
   rw[Go.Deep.add_add,Addr.add_lit,← Nat.add_assoc] at h0;rw[h0]
   exact hu
  obtain⟨xs,h1,h2⟩:=xe1 len hsl;refine⟨xs,some a,cap,by rw[h1],by rw[h1];exact hl,hm,by rw[h1];exact hbd,fun i x hx=>?_⟩
  obtain⟨b,o,rfl,hE⟩:=h2 i x hx
  exact⟨b,o,rfl,trivial,hE⟩
theorem xp3 {n M:Nat}{cs:List Value}{x:DataW H × List MemPlace}(hl:cs.length=4)(h:DataW.trod enc Tryz.prog w base spare held n 97 cs=some x)(hw:∀ n∈x.1.weights Tryz.prog 97,n<=140737488351232)(hM:Rows.uptoBulk x.1<=M):∃ y,xqk xf7 (fun x=>x.lz.length<=M) Tru w (fun k=>cs[k]?) y:=by
 obtain⟨xs,k,hk,hxy,_,hxl,hf⟩:=DataW.trod_struct Tryz.underlying97 h
 match xs,hxl,cs,hl with
 | [y0,y1],_,[v0,v1,v2,v3],_=>
  have g0:=hf 0 _ rfl;have g1:=hf 1 _ rfl
  simp[xqA,xqy] at g0 g1
  obtain⟨s,q0,q1,q2⟩:=xp4 rfl g0;rw[hxy] at hw hM;obtain⟨ls,hls⟩:=xpW g1 (fun q hq=>hw q (xbx (j:=1) (xs:=[y0,y1]) Tryz.underlying97 rfl rfl q hq))
  obtain⟨k1,k2⟩:=hls.weak;have hb:=xpD Tryz.underlying68 g1 k1;refine⟨⟨s,ls⟩,⟨q0,q1,q2,_,rfl,k1⟩,?_⟩;simp only[List.map_cons,List.map_nil,Rows.uptoBulk,Rows.uptoBulkAll] at hM
  show ls.length<=M
  omega
theorem xpP {fuel M:Nat}{v:Value}{x:DataW H × List MemPlace}(h:DataW.trod enc Tryz.prog w base spare held fuel 32 [v]=some x)(hw:∀ n∈x.1.weights Tryz.prog 32,n<=140737488351232)(hM:Rows.uptoBulk x.1<=M):∃ xs,xbc Tru w v xs/\xs.length<=M/\∀ x∈xs,x.lz.length<=M:=by
 obtain⟨xs,hx⟩:=xpU (xbZ.and _) Tryz.underlying32 xrh xrg (by omega) (fun n cs x hl h hw hM=>xp3 hl h hw hM) h hw hM
 obtain⟨h1,h2⟩:=hx.split
 exact⟨xs,h1.weak.1,qzD (xpD Tryz.underlying32 h h1.weak.1) hM,h2⟩
theorem xqf {n M:Nat}{cs:List Value}{x:DataW H × List MemPlace}(hl:cs.length=6)(h:DataW.trod enc Tryz.prog w base spare held n 70 cs=some x)(hw:∀ n∈x.1.weights Tryz.prog 70,n<=140737488351232)(hM:Rows.uptoBulk x.1<=M):∃ y,xqk xhq (fun x=>x.lz.length<=M) Tru w (fun k=>cs[k]?) y:=by
 obtain⟨xs,k,hk,hxy,_,hxl,hf⟩:=DataW.trod_struct Tryz.underlying70 h
 match xs,hxl,cs,hl with
 | [y0,y1,y2,y3],_,[v0,v1,v2,v3,v4,v5],_=>
  have g0:=hf 0 _ rfl;have g1:=hf 1 _ rfl;have g2:=hf 2 _ rfl;have g3:=hf 3 _ rfl
  simp[xqA,xqy,xgN,xru] at g0 g1 g2 g3
  obtain⟨s,q0,q1,q2⟩:=xp4 rfl g0;obtain⟨a,e1,-,-⟩:=DataW.trod_int Tryz.underlying3 g1;obtain⟨b,e2,-⟩:=DataW.trod_bool Tryz.underlying4 g2
  simp at e1 e2
  subst e1 e2;rw[hxy] at hw hM;obtain⟨ls,hls⟩:=xpW g3 (fun q hq=>hw q (xbx (j:=3) (xs:=[y0,y1,y2,y3]) Tryz.underlying70 rfl rfl q hq))
  obtain⟨k1,k2⟩:=hls.weak;have hb:=xpD Tryz.underlying68 g3 k1;refine⟨⟨s,a,b,ls⟩,⟨q0,q1,q2,rfl,rfl,_,rfl,k1⟩,?_⟩;simp only[List.map_cons,List.map_nil,Rows.uptoBulk,Rows.uptoBulkAll] at hM
  show ls.length<=M
  omega
theorem xp5 {fuel M:Nat}{v:Value}{x:DataW H × List MemPlace}(h:DataW.trod enc Tryz.prog w base spare held fuel 31 [v]=some x)(hw:∀ n∈x.1.weights Tryz.prog 31,n<=140737488351232)(hM:Rows.uptoBulk x.1<=M):∃ xs,xbk Tru w v xs/\xs.length<=M/\∀ x∈xs,x.lz.length<=M:=by
 obtain⟨xs,hx⟩:=xpU (xbw.and _) Tryz.underlying31 xq9 xrk (by omega) (fun n cs x hl h hw hM=>xqf hl h hw hM) h hw hM
 obtain⟨h1,h2⟩:=hx.split
 exact⟨xs,h1.weak.1,qzD (xpD Tryz.underlying31 h h1.weak.1) hM,h2⟩
end
end Go.Proofs.YtapbeiccodnniaaGreat
