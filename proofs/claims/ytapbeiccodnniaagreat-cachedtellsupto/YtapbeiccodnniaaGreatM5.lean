/- A part. -/
import Derived.Test.YtapbeiccodnniaaGreatM4
import Derived.Deep.RegionHeld
namespace Go.Proofs.YtapbeiccodnniaaGreat
open Go.ChangeShapes Go.WideShapes Go.ChangeAt Go.RowKit
set_option linter.unusedSimpArgs false
set_option linter.unusedVariables false
set_option maxHeartbeats 8000000
set_option maxRecDepth 8000
theorem xry {X:QW}{l:List QE}{j q:Nat}{x:QE}{y:QL}(hx:l[j]?=some x)(hy:x.lz[q]?=some y)(he:x.ez=X.ez)(h:xpq X.cz x.site y=false):xpn X l=false:=by
 cases hs:xpn X l with
 | false=>rfl
 | true=>
  have h1:=List.all_eq_true.1 (List.all_eq_true.1 hs x (List.mem_of_getElem? hx)) y (List.mem_of_getElem? hy)
  simp[he,h] at h1
theorem xrs {X:QW}{l:List QE}(h:∀ (j:Nat) (x:QE),l[j]?=some x->∀ (q:Nat) (y:QL),x.lz[q]?=some y->x.ez=X.ez->xpq X.cz x.site y=true):xpn X l=true:=by
 refine List.all_eq_true.2 fun x hx=>List.all_eq_true.2 fun y hy=>?_
 obtain⟨j,hj,rfl⟩:=List.mem_iff_getElem.1 hx;obtain⟨q,hq,rfl⟩:=List.mem_iff_getElem.1 hy;have:=h j _ (by rw[List.getElem?_eq_getElem hj]) q _ (by rw[List.getElem?_eq_getElem hq])
 by_cases he:l[j].ez=X.ez
 ·simp[this he]
 ·simp[he]
theorem xpG {cs:List QC}{s:QS}(y:QL)(h:xpy cs s=none):xpq cs s y=false:=by unfold xpq;rw[h]
theorem xpL {cs:List QC}{s:QS}(y:QL)(h:¬ ((xaw cs s.cls s.name).1=s.cls/\0<=s.cls/\0<=s.at')):xpq cs s y=false:=xpG y (if_neg h)
theorem xqe {cs:List QC}{s:QS}(y:QL){x:QI}(h:xpy cs s=some x):xpq cs s y=(decide (0<=(xaw cs y.cls x.name).2) && decide ((xaw cs y.cls x.name).1=y.found)):=by unfold xpq;rw[h]
theorem xq3 (cs:List QC)(s:QS)(q jn k:Nat)(y:QC)(m:QM)(hk:s.cls=(q:Int))(hy:cs[q]?=some y)(hf:xaw cs s.cls s.name=((q:Int),(jn:Int)))(hm:y.mz[jn]?=some m)(ha:s.at'=(k:Int)):xpy cs s=m.code[k]?:=by
 unfold xpy;rw[hf,if_pos ⟨hk.symm,by omega,by omega⟩,hk]
 unfold xaO;rw[xfp,hy,ha]
 simp[hm]
theorem xrl {cs:List QC}{s:QS}(h:(xaw cs s.cls s.name).1=s.cls)(h0:0<=s.cls):∃ (q jn:Nat) (y:QC) (m:QM),s.cls=(q:Int)/\cs[q]?=some y/\xaw cs s.cls s.name=((q:Int),(jn:Int))/\y.mz[jn]?=some m:=by
 rcases xpJ cs s.cls s.name with e | ⟨q,y,hy,h1,e⟩
 ·rw[e] at h;simp at h;omega
 ·obtain⟨m,e1,-⟩:=xpZ h1;rw[e] at h;simp only at h;refine⟨q,(xcu y.mz s.name).toNat,y,m,h.symm,hy,?_,e1⟩;rw[e]
  simp;omega
structure WtB (w:World)(cv hv:Value)(ep:Int)(wr:World):Prop where
 bel:Below w.heap.size w wr
 a0:wr.cell? ⟨w.heap.size,0,none⟩=some cv
 a1:wr.cell? ⟨w.heap.size,1,none⟩=some hv
 a2:wr.cell? ⟨w.heap.size,2,none⟩=some (.int .i64 ep)
theorem WtB.later {w:World}{cv hv:Value}{ep:Int}{wr ws:World}(h:WtB w cv hv ep wr)(hb:Below wr.heap.size wr ws):WtB w cv hv ep ws:=⟨xah h.bel hb,qzA hb h.a0,qzA hb h.a1,qzA hb h.a2⟩
theorem xpY (w:World)(cv hv:Value)(ep:Int):WtB w cv hv ep (w.alloc (.cells #[cv,hv,.int .i64 ep] 25)):=⟨xaj _ _,by rw[xaa _ _ _ _ rfl];rfl,by rw[xaa _ _ _ _ rfl];rfl,by rw[xaa _ _ _ _ rfl];rfl⟩
theorem xpV {P:Nat->Prop}{w:World}{a:Option Addr}{cap:Nat}{cs:List QC}{q jn:Nat}{y:QC}{m:QM}(hC:xai P w (.slice a cs.length cap) cs)(hy:cs[q]?=some y)(hm:y.mz[jn]?=some m) :
  ∃ bc oc bm om cm av ck,a=some ⟨bc,oc,none⟩/\w.cell? ⟨bc,oc+q*4+3,none⟩=some (.slice (some ⟨bm,om,none⟩) y.mz.length cm)/\w.cell? ⟨bm,om+jn*5+4,none⟩=some (.slice av m.code.length ck)/\xa5 P w (.slice av m.code.length ck) m.code:=by
 obtain⟨a',c',e',-,-,-,hr⟩:=hC
 cases e'
 obtain⟨bc,oc,rfl,-,-,-,-,-,mv,h3,hM⟩:=hr q y hy;obtain⟨a2,c2,rfl,-,-,-,hr2⟩:=hM;obtain⟨bm,om,rfl,-,-,-,-,-,-,kv,h4,hK⟩:=hr2 jn m hm;obtain⟨av,ck,rfl⟩:=hK.get
 exact⟨bc,oc,bm,om,c2,av,ck,rfl,h3,h4,hK⟩
theorem xp2 {P:Nat->Prop}{w:World}{a:Option Addr}{cap:Nat}{xs:List QI}{k:Nat}{x:QI}(h:xa5 P w (.slice a xs.length cap) xs)(hx:xs[k]?=some x):∃ b o,a=some ⟨b,o,none⟩/\w.cell? ⟨b,o+k*5+4,none⟩=some (.string x.name):=by
 obtain⟨a',c',e',-,-,-,hr⟩:=h
 cases e'
 obtain⟨b,o,rfl,-,-,-,-,-,h4,-⟩:=hr k x hx
 exact⟨b,o,rfl,h4⟩
theorem xri {w w':World}{b0 o0:Nat}{v0:Value}{b1 o1:Nat}{v1:Value}{b2 o2:Nat}{v2:Value}{b3 o3:Nat}{v3:Value}{b4 o4:Nat}{v4:Value}{b5 o5:Nat}{v5:Value}{b6 o6:Nat}{v6:Value}{b7 o7:Nat}{v7:Value}(h:w.cell? ⟨b0,o0,none⟩=some v0/\w.cell? ⟨b1,o1,none⟩=some v1/\w.cell? ⟨b2,o2,none⟩=some v2/\w.cell? ⟨b3,o3,none⟩=some v3/\w.cell? ⟨b4,o4,none⟩=some v4/\w.cell? ⟨b5,o5,none⟩=some v5/\w.cell? ⟨b6,o6,none⟩=some v6/\w.cell? ⟨b7,o7,none⟩=some v7)(hb:Below w.heap.size w w'):w'.cell? ⟨b0,o0,none⟩=some v0/\w'.cell? ⟨b1,o1,none⟩=some v1/\w'.cell? ⟨b2,o2,none⟩=some v2/\w'.cell? ⟨b3,o3,none⟩=some v3/\w'.cell? ⟨b4,o4,none⟩=some v4/\w'.cell? ⟨b5,o5,none⟩=some v5/\w'.cell? ⟨b6,o6,none⟩=some v6/\w'.cell? ⟨b7,o7,none⟩=some v7:=
 ⟨qzA hb h.1,qzA hb h.2.1,qzA hb h.2.2.1,qzA hb h.2.2.2.1,qzA hb h.2.2.2.2.1,qzA hb h.2.2.2.2.2.1,qzA hb h.2.2.2.2.2.2.1,qzA hb h.2.2.2.2.2.2.2⟩
theorem xqv {P Q:Nat->Prop}(X:QW)(l:List QE)(cv hv v:Value)(w:World)(hC:xai P w cv X.cz)(hH:xaC P w hv X.heap)(hL:xbk Q w v l):Calls Tryz.prog 6 #[WV cv hv X.ez,v] w fun e w'=>e=.returned (.bool (xpn X l))/\Below w.heap.size w w':=by
 obtain⟨ac,cc,rfl,-,hcc,-⟩:=id hC;obtain⟨ah,ch,rfl,-⟩:=id hH;obtain⟨ad,cap,rfl,hl,hcap,-,hrow⟩:=id hL;unfold maxLen at hcap hcc;have hB0:=xpY w (.slice ac X.cz.length cc) (.slice ah X.heap.length ch) X.ez;go_enter Tryz.func6,Tryz.ntmps6;go_wp2;generalize (w.alloc (.cells #[.slice ac X.cz.length cc,.slice ah X.heap.length ch,.int .i64 X.ez] 25))=W0 at *
 go_loopg [16] l.length (fun g i wr=>∃ j:Nat,j+g=l.length/\i=.int .i64 j/\WtB w (.slice ac X.cz.length cc) (.slice ah X.heap.length ch) X.ez wr/\∀ (j':Nat) (x:QE),j'<j->l[j']?=some x->∀ (q:Nat) (y:QL),x.lz[q]?=some y->x.ez=X.ez->xpq X.cz x.site y=true)
 case atStart=>exact⟨0,by omega,rfl,hB0,fun j' x h=>by omega⟩
 case round=>
  obtain⟨j,hj,rfl,hR,hno⟩:=hrel;have HN:=hid hno;clear hno hB0
  by_cases hlt:j<l.length
  ·obtain⟨b,o,rfl,-,q0,q1,q2,q3,q4,lv,q5,ql⟩:=hrow j l[j] (by simp[hlt])
   have hxj:Hid (l[j]?=some l[j]):=by show _=_;simp[hlt]
   generalize l[j]=x at *;simp only[Nat.add_zero] at q0;obtain⟨ad2,cap2,rfl,hl2,hcap2,-,-⟩:=id ql;unfold maxLen at hcap2;have hj1:(j:Int)<(l.length:Int):=by omega
   have hj0:(0:Int)<=(j:Int):=by omega
   replace q0:=qzA hR.bel q0;replace q1:=qzA hR.bel q1;replace q2:=qzA hR.bel q2;replace q3:=qzA hR.bel q3;replace q4:=qzA hR.bel q4;replace q5:=qzA hR.bel q5;have hl1:=ql.later xbq hR.bel;have hx0:=xgx wr x (.slice ad2 x.lz.length cap2) 70;have hbx:=xaj wr (.cells #[.int .i64 x.site.cls,.string x.site.name,.int .i64 x.site.at',.int .i64 x.ez,.bool x.many,.slice ad2 x.lz.length cap2] 70);clear hrow
   go_upto_region 4 with (fail)
   replace hl1:=hl1.later xbq hbx;have hR1:=hR.later hbx;clear q0 q1 q2 q3 q4 q5 ql hbx hR;generalize (wr.alloc (.cells #[.int .i64 x.site.cls,.string x.site.name,.int .i64 x.site.at',.int .i64 x.ez,.bool x.many,.slice ad2 x.lz.length cap2] 70))=W1 at *;generalize wr.heap.size=xb at *;have v5:=hx0.c5;go_wp2;clear v5
   go_loopg [23] x.lz.length (fun g i wr=>∃ q:Nat,q+g=x.lz.length/\i=.int .i64 q/\WtB w (.slice ac X.cz.length cc) (.slice ah X.heap.length ch) X.ez wr/\BoxE wr xb x (.slice ad2 x.lz.length cap2)/\xbI Q wr (.slice ad2 x.lz.length cap2) x.lz/\∀ (q':Nat) (y:QL),q'<q->x.lz[q']?=some y->x.ez=X.ez->xpq X.cz x.site y=true)
   case atStart=>exact⟨0,by omega,rfl,hR1,hx0,hl1,fun q' y h=>by omega⟩
   case round=>
    obtain⟨q,hq,rfl,hR,hxq,hlq,hno⟩:=hrel;have HQ:=hid hno;clear hR1 hl1 hno hx0
    by_cases hltq:q<x.lz.length
    ·obtain⟨ad3,cap3,e3,-,-,-,hrow3⟩:=id hlq;simp only[Value.slice.injEq] at e3;obtain⟨rfl,-,-⟩:=e3;obtain⟨b3,o3,rfl,-,y0,y1⟩:=hrow3 q x.lz[q] (by simp[hltq])
     have hyq:Hid (x.lz[q]?=some x.lz[q]):=by show _=_;simp[hltq]
     generalize x.lz[q]=y at *;simp only[Nat.add_zero] at y0;have hq1:(q:Int)<(x.lz.length:Int):=by omega
     have hq0:(0:Int)<=(q:Int):=by omega
     have hby:=xaj wr (.cells #[.int .i64 y.cls,.int .i64 y.found] 72);have z0:(wr.alloc (.cells #[.int .i64 y.cls,.int .i64 y.found] 72)).cell? ⟨wr.heap.size,0,none⟩=some (.int .i64 y.cls):=by rw[xaa _ _ _ _ rfl];rfl
     have z1:(wr.alloc (.cells #[.int .i64 y.cls,.int .i64 y.found] 72)).cell? ⟨wr.heap.size,1,none⟩=some (.int .i64 y.found):=by rw[xaa _ _ _ _ rfl];rfl
     clear hrow3
     go_upto_region 7 with (fail)
     replace hR:=hR.later hby;replace hxq:=hxq.later hby;replace hlq:=hlq.later xbq hby;clear hby y0 y1;generalize (wr.alloc (.cells #[.int .i64 y.cls,.int .i64 y.found] 72))=V at *;generalize wr.heap.size=yb at *
     by_cases he:x.ez=X.ez
     ·as_aux_lemma=>
      have hd:(x.ez != X.ez)=false:=by simpa using he
      have HE:=hid he;have hNO:Hid (xpq X.cz x.site y=false->xpn X l=false):=xry hxj.out hyq.out he;have a0:=hR.a0;have a2:=hR.a2;have c0:=hxq.c0;have c1:=hxq.c1;have c2:=hxq.c2;have c3:=hxq.c3;have hsN:=xeS V x.site 67;have hbs:=xaj V (.cells #[.int .i64 x.site.cls,.string x.site.name,.int .i64 x.site.at'] 67);clear he
      go_upto_region 9 with (fail)
      replace hR:=hR.later hbs;replace hxq:=hxq.later hbs;replace hlq:=hlq.later xbq hbs;replace z0:=qzA hbs z0;replace z1:=qzA hbs z1;clear a0 a2 c0 c1 c2 c3 hbs;generalize (V.alloc (.cells #[.int .i64 x.site.cls,.string x.site.name,.int .i64 x.site.at'] 67))=U at *;generalize V.heap.size=sb at *;have a0:=hR.a0;have a1:=hR.a1;have a2:=hR.a2;obtain⟨s0,s1,s2⟩:=id hsN
      by_cases h0:x.site.cls<0
      ·have hd0:decide (x.site.cls<0)=true:=by simpa using h0
       have HF:Hid (xpn X l=false):=hNO.out (xpL y (by omega))
       clear h0;go_wp2
       go_ret
       exact⟨xb7 HF.out.symm,hR.bel⟩
      ·have hd0:decide (x.site.cls<0)=false:=by simpa using h0
       have HC0:Hid (0<=x.site.cls):=hid (by omega)
       clear h0
       by_cases h1:(X.cz.length:Int)<=x.site.cls
       ·have hd1:decide ((X.cz.length:Int)<=x.site.cls)=true:=by simpa using h1
        have HF:Hid (xpn X l=false):=hNO.out (xpL y (by have:=(xpx X.cz x.site.cls x.site.name).2;omega))
        clear h1;go_wp2
        go_ret
        exact⟨xb7 HF.out.symm,hR.bel⟩
       ·have hd1:decide ((X.cz.length:Int)<=x.site.cls)=false:=by simpa using h1
        clear h1;go_wp2_with fail;refine (xhs X x.site.cls x.site.name _ _ _ (hC.later xaz hR.bel) (hH.later xaD hR.bel)).mono ?_;rintro e w1 ⟨rfl,hb1⟩;have HNO2:=hid (fun h=>hNO.out (xpL (cs:=X.cz) (s:=x.site) y h))
        have HFM:=hid (xrl (cs:=X.cz) (s:=x.site));have HCA:=hid (xq3 X.cz x.site);obtain⟨fr,hfr⟩:∃ r,xaw X.cz x.site.cls x.site.name=r:=⟨_,rfl⟩;rw[hfr];rw[hfr] at HNO2 HFM HCA;clear hfr;obtain⟨f1,f2⟩:=fr;replace hR:=hR.later hb1;replace hxq:=hxq.later hb1;replace hlq:=hlq.later xbq hb1;replace z0:=qzA hb1 z0;replace z1:=qzA hb1 z1;replace hsN:=hsN.later hb1;clear a0 a1 a2 s0 s1 s2 hb1;obtain⟨s0,s1,s2⟩:=id hsN;have a0:=hR.a0
        by_cases h2:f1=x.site.cls
        ·obtain⟨qn,jn,yc,m,g1,g2,g3,g4⟩:=HFM.out h2 HC0.out;simp only[Prod.mk.injEq] at g3;obtain⟨rfl,rfl⟩:=g3;obtain⟨bc,oc,bm,om,cm,av,ck,rfl,m3,m4,hK⟩:=xpV (hC.later xaz hR.bel) g2 g4;have HG1:=hid g1;have HG2:=hid g2;have HG4:=hid g4;have hqn:(qn:Int)<(X.cz.length:Int):=by have:=xae g2;omega
         have hjn:(jn:Int)<(yc.mz.length:Int):=by have:=xae g4;omega
         have hqn0:(0:Int)<=(qn:Int):=by omega
         have hjn0:(0:Int)<=(jn:Int):=by omega
         rw[g1] at s0;clear h2 g1 g2 g4 hd0 hd1
         by_cases h3:x.site.at'<0
         ·have hd3:decide (x.site.at'<0)=true:=by simpa using h3
          have HF:Hid (xpn X l=false):=HNO2.out (by omega)
          clear h3;go_wp2
          go_quiet (fail)
          go_wp2
          go_ret
          exact⟨xb7 HF.out.symm,below_drewN hR.bel _⟩
         ·have hd3:decide (x.site.at'<0)=false:=by simpa using h3
          obtain⟨k,hk⟩:∃ k:Nat,x.site.at'=(k:Int):=⟨x.site.at'.toNat,by omega⟩
          have HCE:=hid (HCA.out _ _ _ _ _ HG1.out HG2.out rfl HG4.out hk);rw[hk] at s2 hd3;clear h3 hk
          by_cases h4:(m.code.length:Int)<=(k:Int)
          ·have hd4:decide ((m.code.length:Int)<=(k:Int))=true:=by simpa using h4
           have hd4':decide (m.code.length<=k)=true:=by simpa using h4
           have HF:Hid (xpn X l=false):=hNO.out (xpG y (by rw[HCE.out,List.getElem?_eq_none_iff];omega))
           clear h4;go_wp2
           go_quiet (fail)
           go_wp2
           go_ret
           exact⟨xb7 HF.out.symm,below_drewN hR.bel _⟩
          ·have hd4:decide ((m.code.length:Int)<=(k:Int))=false:=by simpa using h4
           have hd4':decide (m.code.length<=k)=false:=by simpa using h4
           have hkc:(k:Int)<(m.code.length:Int):=by omega
           have hk0:(0:Int)<=(k:Int):=by omega
           clear h4;obtain⟨ins,hins⟩:∃ ins,m.code[k]?=some ins:=⟨_,List.getElem?_eq_getElem (by omega)⟩
           obtain⟨bi,oi,rfl,i4⟩:=xp2 hK hins;have HOK:=hid (xqe (cs:=X.cz) (s:=x.site) y (HCE.out.trans hins));clear hins;go_wp2
           go_quiet (fail)
           have hq2:=below_drewN (qzL w1.heap.size w1) nq;replace hR:=hR.later hq2;replace hxq:=hxq.later hq2;replace hlq:=hlq.later xbq hq2;replace z0:=qzA hq2 z0;replace z1:=qzA hq2 z1;replace m3:=qzA hq2 m3;replace m4:=qzA hq2 m4;replace i4:=qzA hq2 i4;replace s2:=qzA hq2 s2;clear hq2 s0 s1 a0 hK hsN hd3;generalize w1.drewN nq=Y at *;have a0:=hR.a0;have a1:=hR.a1;have a2:=hR.a2
           go_upto_region 14 with (fail)
           have hS0:Y.drew.cell? ⟨w.heap.size,0,none⟩=some (.slice (some ⟨bc,oc,none⟩) X.cz.length cc)/\Y.drew.cell? ⟨w.heap.size,1,none⟩=some (.slice ah X.heap.length ch)/\Y.drew.cell? ⟨w.heap.size,2,none⟩=some (.int .i64 X.ez)/\Y.drew.cell? ⟨yb,0,none⟩=some (.int .i64 y.cls)/\Y.drew.cell? ⟨bc,oc+qn*4+3,none⟩=some (.slice (some ⟨bm,om,none⟩) yc.mz.length cm)/\Y.drew.cell? ⟨bm,om+jn*5+4,none⟩=some (.slice (some ⟨bi,oi,none⟩) m.code.length ck)/\Y.drew.cell? ⟨sb,2,none⟩=some (.int .i64 (k:Int))/\Y.drew.cell? ⟨bi,oi+k*5+4,none⟩=some (.string ins.name):=⟨a0,a1,a2,z0,m3,m4,s2,i4⟩;have hCd:=hC.later xaz (hR.bel.trans ((qzL _ Y).drew.mono hR.bel.size))
           have hHd:=hH.later xaD (hR.bel.trans ((qzL _ Y).drew.mono hR.bel.size));have HRd:=hid (hR.later (qzL _ Y).drew);have HXd:=hid (hxq.later (qzL _ Y).drew);have HLd:=hid (hlq.later xbq (qzL _ Y).drew);have z1d:=qzA (qzL _ Y).drew z1;clear a0 a1 a2 z0 z1 m3 m4 s2 i4 hR hxq hlq hd hd4 hd4';have tokA:True:=trivial
           go_region_held3 (fun w'=>w'.cell? ⟨w.heap.size,0,none⟩=some (.slice (some ⟨bc,oc,none⟩) X.cz.length cc)/\w'.cell? ⟨w.heap.size,1,none⟩=some (.slice ah X.heap.length ch)/\w'.cell? ⟨w.heap.size,2,none⟩=some (.int .i64 X.ez)/\w'.cell? ⟨yb,0,none⟩=some (.int .i64 y.cls)/\w'.cell? ⟨bc,oc+qn*4+3,none⟩=some (.slice (some ⟨bm,om,none⟩) yc.mz.length cm)/\w'.cell? ⟨bm,om+jn*5+4,none⟩=some (.slice (some ⟨bi,oi,none⟩) m.code.length ck)/\w'.cell? ⟨sb,2,none⟩=some (.int .i64 (k:Int))/\w'.cell? ⟨bi,oi+k*5+4,none⟩=some (.string ins.name))
            (first | with_reducible exact hS0 | with_reducible exact hS1)
            (first | (have _t:=tokA;go_at_call 19;refine (xhs X y.cls ins.name _ _ _ hCd hHd).mono ?_;rintro e w2 ⟨rfl,hb2⟩;have hS1:=xri hS0 hb2;clear tokA))
           generalize xaw X.cz y.cls ins.name=fr at *;obtain⟨f1,f2⟩:=fr;have hR:=HRd.out.later hb2;have hxq:=HXd.out.later hb2;have hlq:=HLd.out.later xbq hb2;have z1:=qzA hb2 z1d;clear hS0 hS1 hCd hHd hb2 z1d
           by_cases k1:f2<0
           ·have hd0:decide (f2<0)=true:=by simpa using k1
            have HF:Hid (xpn X l=false):=hNO.out (HOK.out.trans (by simp;omega))
            clear k1;go_wp2
            go_ret
            exact⟨xb7 HF.out.symm,hR.bel⟩
           ·have hd0:decide (f2<0)=false:=by simpa using k1
            by_cases k2:f1=y.found
            ·have hd1:(f1 != y.found)=false:=by simpa using k2
             have HT:Hid (xpq X.cz x.site y=true):=HOK.out.trans (by simp[k2];omega)
             clear k1 k2;go_wp2
             go_roundg (x.lz.length-(q+1))
             case measure=>omega
             case rel=>
              refine⟨q+1,by omega,by go_num,hR,hxq,hlq,fun q' z hq' hz he=>?_⟩
              by_cases h:q'=q
              ·subst h;rw[hyq.out] at hz;cases hz;exact HT.out
              ·exact HQ.out q' z (by omega) hz he
            ·have hd1:(f1 != y.found)=true:=by simpa using k2
             have HF:Hid (xpn X l=false):=hNO.out (HOK.out.trans (by simp[k2]))
             clear k1 k2;go_wp2
             go_ret
             exact⟨xb7 HF.out.symm,hR.bel⟩
        ·have HF:Hid (xpn X l=false):=HNO2.out (by omega)
         have hd2:(f1 != x.site.cls)=true:=by simpa using h2
         clear h2;go_wp2
         go_quiet (fail)
         go_wp2
         go_ret
         exact⟨xb7 HF.out.symm,below_drewN hR.bel _⟩
     ·have hd:(x.ez != X.ez)=true:=by simpa using he
      have HE:=hid he;have a2:=hR.a2;have c3:=hxq.c3;clear he;go_wp2
      go_roundg (x.lz.length-(q+1))
      case measure=>omega
      case rel=>
       refine⟨q+1,by omega,by go_num,hR,hxq,hlq,fun q' z hq' hz h=>absurd h HE.out⟩
    ·obtain rfl:q=x.lz.length:=by omega
     go_wp2
     go_roundg (l.length-(j+1))
     case measure=>omega
     case rel=>
      refine⟨j+1,by omega,by go_num,hR,fun j' z hj' hz=>?_⟩
      by_cases h:j'=j
      ·subst h;rw[hxj.out] at hz;cases hz;exact fun q' y hy=>HQ.out q' y (xae hy) hy
      ·exact HN.out j' z (by omega) hz
  ·obtain rfl:j=l.length:=by omega
   have HF:Hid (xpn X l=true):=xrs fun j x hx=>HN.out j x (xae hx) hx
   go_wp2
   go_ret
   exact⟨xb7 HF.out.symm,hR.bel⟩
theorem xpB {α:Type}{xs:List α}{j:Nat}{x:α}(hx:xs[j]?=some x):xs.take (j+1)=xs.take j++[x]:=by
 have hj:=xae hx;rw[List.take_succ_eq_append_getElem hj];rw[List.getElem?_eq_getElem hj] at hx
 cases hx
 rfl
theorem xp9 {P:Nat->Prop}{w:World}{v:Value}{ls:List QL}(h:xbI P w v ls):xbI (fun b=>P b/\b<w.heap.size) w v ls:=by
 obtain⟨ad,cap,h1,h2,h3,h4,h5⟩:=h;refine⟨ad,cap,h1,h2,h3,h4,fun i x hx=>?_⟩
 obtain⟨b,o,e,hP,hE⟩:=h5 i x hx
 exact⟨b,o,e,⟨hP,World.block_lt_of_cell? _ _ hE.1⟩,hE⟩
theorem xp7 {P:Nat->Prop}{w:World}{v:Value}{xs:List QE}(h:xbk P w v xs):xbk (fun b=>P b/\b<w.heap.size) w v xs:=by
 obtain⟨ad,cap,h1,h2,h3,h4,h5⟩:=h;refine⟨ad,cap,h1,h2,h3,h4,fun i x hx=>?_⟩
 obtain⟨b,o,e,hP,k0,k1,k2,k3,k4,lv,k5,kl⟩:=h5 i x hx
 exact⟨b,o,e,⟨hP,World.block_lt_of_cell? _ _ k0⟩,k0,k1,k2,k3,k4,lv,k5,xp9 kl⟩
theorem xpF {P:Nat->Prop}{w:World}{v:Value}{xs:List QT}(h:xbc P w v xs):xbc (fun b=>P b/\b<w.heap.size) w v xs:=by
 obtain⟨ad,cap,h1,h2,h3,h4,h5⟩:=h;refine⟨ad,cap,h1,h2,h3,h4,fun i x hx=>?_⟩
 obtain⟨b,o,e,hP,k0,k1,k2,lv,k3,kl⟩:=h5 i x hx
 exact⟨b,o,e,⟨hP,World.block_lt_of_cell? _ _ k0⟩,k0,k1,k2,lv,k3,xp9 kl⟩
def Out {α:Type}(E:Lay α)(sz:Nat)(e:TypeId)(B:Nat)(w:World)(v:Value)(xs:List α):Prop:=
 ∃ cs,w.ownsRow B e sz v xs.length cs/\Cells E sz (fun b=>b<w.heap.size/\some b≠v.ownBlock) w cs xs
theorem xpC {w w':World}{B:Nat}{e:TypeId}{sz:Nat}{v:Value}{n:Nat}{cs:List Value}(h:w.ownsRow B e sz v n cs)(hb:Below w.heap.size w w'):w'.ownsRow B e sz v n cs:=by
 obtain⟨h0,h | ⟨g,cap,cur,h1,h2,h3,h4⟩⟩:=h
 ·exact⟨h0,Or.inl h⟩
 ·exact⟨h0,Or.inr ⟨g,cap,cur,h1,h2,(hb.block _ (xaf h3)).trans h3,h4⟩⟩
section
variable {α:Type} {E:Lay α} {sz:Nat} {e:TypeId} {B:Nat} {w w':World} {v:Value} {xs:List α}
theorem Out.later (h:Out E sz e B w v xs)(G:Good E sz)(hb:Below w.heap.size w w'):Out E sz e B w' v xs:=by
 obtain⟨cs,h1,h2⟩:=h
 exact⟨cs,xpC h1 hb,h2.keep G (.of_below hb) fun b h=>⟨qzE h.1 hb.size,h.2⟩⟩
theorem Out.nil:Out E sz e B w (.slice none 0 0) ([]:List α):=⟨[],⟨by simp,Or.inl ⟨rfl,rfl⟩⟩,.nil⟩
theorem Out.form (h:Out E sz e B w v xs):∃ a c,v=.slice a xs.length c/\∀ g,v.ownBlock=some g->B<=g/\g<w.heap.size:=by
 obtain⟨cs,⟨h0,⟨rfl,h⟩ | ⟨g,cap,cur,rfl,h2,h3,h4⟩⟩,-⟩:=h
 ·exact⟨none,0,by rw[h],fun g hg=>by cases hg⟩
 ·exact⟨_,_,rfl,fun k hk=>by simp[Value.ownBlock] at hk;subst hk;exact⟨h2,xaf h3⟩⟩
theorem Out.block (h:Out E sz e B w v xs)(g:Nat)(hg:v.ownBlock=some g):B<=g/\g<w.heap.size:=by
 obtain⟨a,c,rfl,h⟩:=h.form
 exact h g hg
end
section
variable {α:Type} {E:Lay α} {sz:Nat} {R':Nat->Prop} {w:World} {ops:Array Oper} {rest:List Oper} {o:Oper} {a:Act} {Q:Exit->Act->World->Prop}
theorem xpm (G:Good E sz)(hgd:o.guard=none)(s x:Operand)(T:TypeId)(ho:o.op=.call { callee:=.builtin .append,args:=#[s,x],argTypes:=#[T,T] })
  (e:TypeId) (z:Value) (bytes:Nat) (hu:Tryz.prog.underlying T=some (.slice e)) (hI:(Tryz.prog.info? e).map (fun i=>(i.zero,i.size,i.bytes))=some (some z,sz,bytes)) (hz:z.cells.size=sz)
  (B0:Nat) (v:Value) (pre:List α) (hs:a.eval s=v) (hout:Out E sz e B0 w v pre)
  (B:Nat) (t:TypeId) (vs:List Value) (hx:a.eval x=.slice (some ⟨B,0,none⟩) 1 1) (hB:w.heap[B]?=some (.cells vs.toArray t (0,0))) (hvs:vs.length=sz) (y:α) (hy:E R' w (fun k=>vs[k]?) y)
  (hR':∀ b,R' b->b<w.heap.size/\some b≠v.ownBlock) (hB0:B0<=w.heap.size) (hb1:pre.length+1<=maxLen) (hb2:(pre.length+1)*bytes<=140737488355328)
  (h:∀ g cap w',Out E sz e B0 w' (.slice (some ⟨g,0,none⟩) (pre.length+1) cap) (pre++[y])->Below B0 w w'->(∀ b,b<w.heap.size->some b≠v.ownBlock->w'.heap[b]?=w.heap[b]?)->wpList Tryz.prog ops Q rest (a.put o.dst (.slice (some ⟨g,0,none⟩) (pre.length+1) cap)) w'):wpList Tryz.prog ops Q (o :: rest) a w:=by
 obtain⟨i0,hi,hz0,hz1,hz2⟩:=xa3 hI;obtain⟨cs,hown,hcs⟩:=id hout;refine wpList_append_lies w hgd s x T ho B0 e i0 z sz bytes hu hi hz0 hz1 hz2 hz G.pos v pre.length cs hs hown ⟨B,0,none⟩ 1 1 vs hx (by simpa using hvs) (fun j u hj=>World.news_of_block hB j u (by simpa using hj)) ?_ (by omega) hb1 hb2 hB0 w.heap.size rfl ?_
 ·intro u hu;obtain⟨j,hj,rfl⟩:=List.mem_iff_getElem.1 hu;obtain⟨v,hv,hone⟩:=G.there hy j (by omega)
  simp only[List.getElem?_eq_getElem hj] at hv
  cases hv
  exact hone
 ·intro g cap w' hown' hgr hor hlt;have hob:=hout.block;have hbel:Below B0 w w':=(qzL _ _).grown hgr hB0 (fun k hk=>(hob k hk).1)
  have hK:Keeps (fun b=>b<w.heap.size/\some b≠v.ownBlock) w w':=.of_block fun b hb _=>hgr.block b hb.1 hb.2
  have hne:∀ b,b<w.heap.size/\some b≠v.ownBlock->b<w'.heap.size/\some b≠(Value.slice (some ⟨g,0,none⟩) (pre.length+1) cap).ownBlock:=fun b hb=>by
   refine⟨qzE hb.1 hgr.size,?_⟩;simp only[Value.ownBlock]
   rcases hor with h | h
   ·rw[← h];exact hb.2
   ·intro e;cases e;omega
  refine h g cap w' ⟨cs++vs,by simpa using hown',Cells.append (hcs.keep G hK hne) G (Cells.one G hvs ?_)⟩ hbel (fun b hb hn=>hgr.block b hb hn)
  exact G.move hy (fun b hb=>hne b (hR' b hb)) (hK.mono hR') fun _ _ _ h=>h
end
def xpu (c:Int)(p:List QL × Bool)(x:QL):List QL × Bool:=if (x.cls == c)=true/\p.2=false then (p.1++[⟨x.cls,wrap64 (x.found+1)⟩],true) else (p.1++[x],p.2)
def xqj (c:Int)(ls:List QL):List QL × Bool:=ls.foldl (xpu c) ([],false)
def xrp (c:Int)(p:List QL × Bool):List QL:=if p.2 then p.1 else p.1++[⟨c,1⟩]
theorem xqF (c:Int)(ls:List QL)(x:QL):xqj c (ls++[x])=xpu c (xqj c ls) x:=by simp[xqj]
theorem xpX (c:Int):∀ (ls pre:List QL),ls.foldl (xpu c) (pre,true)=(pre++ls,true)
 | [],pre=>by simp
 | x :: r,pre=>by
  rw[List.foldl_cons];have:xpu c (pre,true) x=(pre++[x],true):=by simp[xpu]
  rw[this,xpX c r]
  simp
theorem xpN (c:Int):∀ (ls pre:List QL),xrp c (ls.foldl (xpu c) (pre,false))=pre++xbo ls c
 | [],pre=>by simp[xrp,xbo]
 | x :: r,pre=>by
  rw[List.foldl_cons]
  by_cases hx:(x.cls == c)=true
  ·have:xpu c (pre,false) x=(pre++[⟨x.cls,wrap64 (x.found+1)⟩],true):=by simp[xpu,hx]
   rw[this,xpX]
   simp[xrp,xbo,hx]
  ·have:xpu c (pre,false) x=(pre++[x],false):=by simp[xpu,hx]
   rw[this,xpN c r]
   simp[xbo,hx]
theorem xq2 (c:Int)(ls:List QL):xrp c (xqj c ls)=xbo ls c:=by
 have:=xpN c ls []
 simpa [xqj] using this
theorem xq0 (c:Int)(ls:List QL):(xqj c ls).1.length=ls.length:=by
 have:∀ (ls:List QL) (p:List QL × Bool),(ls.foldl (xpu c) p).1.length=p.1.length+ls.length:=by
  intro ls
  induction ls with
  | nil=>simp
  | cons x r ih=>
   intro p;rw[List.foldl_cons,ih];unfold xpu
   split<;>simp<;>omega
 have:=this ls ([],false)
 simpa [xqj] using this
def xpt (s:QS)(c:Int)(p:List QT × Bool)(x:QT):List QT × Bool:=if eqS x.site s=true/\p.2=false then (p.1++[⟨x.site,xbo x.lz c⟩],true) else (p.1++[x],p.2)
def xqh (s:QS)(c:Int)(xs:List QT):List QT × Bool:=xs.foldl (xpt s c) ([],false)
def xrr (s:QS)(c:Int)(p:List QT × Bool):List QT:=if p.2 then p.1 else p.1++[⟨s,[⟨c,1⟩]⟩]
theorem xqN (s:QS)(c:Int)(xs:List QT)(x:QT):xqh s c (xs++[x])=xpt s c (xqh s c xs) x:=by simp[xqh]
theorem xpT (s:QS)(c:Int):∀ (xs pre:List QT),xs.foldl (xpt s c) (pre,true)=(pre++xs,true)
 | [],pre=>by simp
 | x :: r,pre=>by
  rw[List.foldl_cons];have:xpt s c (pre,true) x=(pre++[x],true):=by simp[xpt]
  rw[this,xpT s c r]
  simp
theorem xpI (s:QS)(c:Int):∀ (xs pre:List QT),xrr s c (xs.foldl (xpt s c) (pre,false))=pre++xc1 xs s c
 | [],pre=>by simp[xrr,xc1]
 | x :: r,pre=>by
  rw[List.foldl_cons]
  by_cases hx:eqS x.site s=true
  ·have:xpt s c (pre,false) x=(pre++[⟨x.site,xbo x.lz c⟩],true):=by simp[xpt,hx]
   rw[this,xpT]
   simp[xrr,xc1,hx]
  ·have:xpt s c (pre,false) x=(pre++[x],false):=by simp[xpt,hx]
   rw[this,xpI s c r]
   simp[xc1,hx]
theorem xq1 (s:QS)(c:Int)(xs:List QT):xrr s c (xqh s c xs)=xc1 xs s c:=by
 have:=xpI s c xs []
 simpa [xqh] using this
theorem xqQ (s:QS)(c:Int)(xs:List QT):(xqh s c xs).1.length=xs.length:=by
 have:∀ (xs:List QT) (p:List QT × Bool),(xs.foldl (xpt s c) p).1.length=p.1.length+xs.length:=by
  intro xs
  induction xs with
  | nil=>simp
  | cons x r ih=>
   intro p;rw[List.foldl_cons,ih];unfold xpt
   split<;>simp<;>omega
 have:=this xs ([],false)
 simpa [xqh] using this
def OutN {α:Type}(N:Nat->Prop)(E:Lay α)(sz:Nat)(e:TypeId)(B:Nat)(w:World)(v:Value)(xs:List α):Prop:=
 ∃ cs,w.ownsRow B e sz v xs.length cs/\Cells E sz (fun b=>N b/\b<w.heap.size/\some b≠v.ownBlock) w cs xs
section
variable {α:Type} {N:Nat->Prop} {E:Lay α} {sz:Nat} {e:TypeId} {B:Nat} {w w':World} {v:Value} {xs:List α}
theorem OutN.later (h:OutN N E sz e B w v xs)(G:Good E sz)(hb:Below w.heap.size w w'):OutN N E sz e B w' v xs:=by
 obtain⟨cs,h1,h2⟩:=h
 exact⟨cs,xpC h1 hb,h2.keep G (.of_below hb) fun b h=>⟨h.1,qzE h.2.1 hb.size,h.2.2⟩⟩
theorem OutN.nil:OutN N E sz e B w (.slice none 0 0) ([]:List α):=⟨[],⟨by simp,Or.inl ⟨rfl,rfl⟩⟩,.nil⟩
theorem OutN.rowZ (h:OutN N E sz e B w v xs)(G:Good E sz){Z:Nat->Prop}(hN:∀ b,N b->Z b)(hz:∀ b,B<=b->Z b):IsRow E sz 0 Z w v xs:=by
 obtain⟨cs,h1,h2⟩:=h
 exact xql G h1 rfl (h2.keep G (.refl _ _) fun b h=>hN b h.1) fun g hg _=>hz g hg
theorem OutN.form (h:OutN N E sz e B w v xs):∃ a c,v=.slice a xs.length c:=by
 obtain⟨cs,⟨h0,⟨rfl,h⟩ | ⟨g,cap,cur,rfl,h2,h3,h4⟩⟩,-⟩:=h
 ·exact⟨none,0,by rw[h]⟩
 ·exact⟨_,_,rfl⟩
theorem OutN.block (h:OutN N E sz e B w v xs)(g:Nat)(hg:v.ownBlock=some g):B<=g/\g<w.heap.size:=by
 obtain⟨cs,⟨h0,⟨rfl,h⟩ | ⟨g',cap,cur,rfl,h2,h3,h4⟩⟩,-⟩:=h
 ·cases hg
 ·simp[Value.ownBlock] at hg;subst hg;exact⟨h2,xaf h3⟩
theorem OutN.set (h:OutN N E sz e B w v xs)(G:Good E sz){b o:Nat}(hN:¬ N b)(hb:b<B)(u:Value):OutN N E sz e B (w.setCell ⟨b,o,none⟩ u) v xs:=by
 obtain⟨cs,h1,h2⟩:=h;refine⟨cs,?_,h2.keep G (Keeps.of_setCell (by intro h;exact hN h.1) _) fun b h=>⟨h.1,by simpa using h.2.1,h.2.2⟩⟩
 obtain⟨h0,h | ⟨g,cap,cur,h1,h2,h3,h4⟩⟩:=h1
 ·exact⟨h0,Or.inl h⟩
 ·exact⟨h0,Or.inr ⟨g,cap,cur,h1,h2,(xab (by omega) _).trans h3,h4⟩⟩
end
section
variable {α:Type} {N:Nat->Prop} {E:Lay α} {sz:Nat} {R':Nat->Prop} {w:World} {ops:Array Oper} {rest:List Oper} {o:Oper} {a:Act} {Q:Exit->Act->World->Prop}
theorem xpl (G:Good E sz)(hgd:o.guard=none)(s x:Operand)(T:TypeId)(ho:o.op=.call { callee:=.builtin .append,args:=#[s,x],argTypes:=#[T,T] })
  (e:TypeId) (z:Value) (bytes:Nat) (hu:Tryz.prog.underlying T=some (.slice e)) (hI:(Tryz.prog.info? e).map (fun i=>(i.zero,i.size,i.bytes))=some (some z,sz,bytes)) (hz:z.cells.size=sz)
  (B0:Nat) (v:Value) (pre:List α) (hs:a.eval s=v) (hout:OutN N E sz e B0 w v pre)
  (B:Nat) (t:TypeId) (vs:List Value) (hx:a.eval x=.slice (some ⟨B,0,none⟩) 1 1) (hB:w.heap[B]?=some (.cells vs.toArray t (0,0))) (hvs:vs.length=sz) (y:α) (hy:E R' w (fun k=>vs[k]?) y)
  (hR':∀ b,R' b->N b/\b<w.heap.size/\some b≠v.ownBlock) (hB0:B0<=w.heap.size) (hb1:pre.length+1<=maxLen) (hb2:(pre.length+1)*bytes<=140737488355328)
  (h:∀ g cap w',OutN N E sz e B0 w' (.slice (some ⟨g,0,none⟩) (pre.length+1) cap) (pre++[y])->Below B0 w w'->wpList Tryz.prog ops Q rest (a.put o.dst (.slice (some ⟨g,0,none⟩) (pre.length+1) cap)) w'):wpList Tryz.prog ops Q (o :: rest) a w:=by
 obtain⟨i0,hi,hz0,hz1,hz2⟩:=xa3 hI;obtain⟨cs,hown,hcs⟩:=id hout;refine wpList_append_lies w hgd s x T ho B0 e i0 z sz bytes hu hi hz0 hz1 hz2 hz G.pos v pre.length cs hs hown ⟨B,0,none⟩ 1 1 vs hx (by simpa using hvs) (fun j u hj=>World.news_of_block hB j u (by simpa using hj)) ?_ (by omega) hb1 hb2 hB0 w.heap.size rfl ?_
 ·intro u hu;obtain⟨j,hj,rfl⟩:=List.mem_iff_getElem.1 hu;obtain⟨v,hv,hone⟩:=G.there hy j (by omega)
  simp only[List.getElem?_eq_getElem hj] at hv
  cases hv
  exact hone
 ·intro g cap w' hown' hgr hor hlt;have hob:=hout.block;have hbel:Below B0 w w':=(qzL _ _).grown hgr hB0 (fun k hk=>(hob k hk).1)
  have hK:Keeps (fun b=>N b/\b<w.heap.size/\some b≠v.ownBlock) w w':=.of_block fun b hb _=>hgr.block b hb.2.1 hb.2.2
  have hne:∀ b,N b/\b<w.heap.size/\some b≠v.ownBlock->N b/\b<w'.heap.size/\some b≠(Value.slice (some ⟨g,0,none⟩) (pre.length+1) cap).ownBlock:=fun b hb=>by
   refine⟨hb.1,qzE hb.2.1 hgr.size,?_⟩;simp only[Value.ownBlock]
   rcases hor with h | h
   ·rw[← h];exact hb.2.2
   ·intro e;cases e;omega
  refine h g cap w' ⟨cs++vs,by simpa using hown',Cells.append (hcs.keep G hK hne) G (Cells.one G hvs ?_)⟩ hbel
  exact G.move hy (fun b hb=>hne b (hR' b hb)) (hK.mono hR') fun _ _ _ h=>h
end
theorem xp0 (w:World)(o:Obj)(n:Nat)(hn:w.heap.size=n):(w.alloc o).heap[n]?=some o:=by subst hn;exact qzJ w o
theorem xra (w:World)(c:Int)(o:Obj):xbI (fun b=>b=w.heap.size) ((w.alloc (.cells #[.int .i64 c,.int .i64 1] 72)).alloc o) (.slice (some ⟨w.heap.size,0,none⟩) 1 1) [⟨c,1⟩]:=by
 refine⟨_,_,rfl,qzC _,by unfold maxLen;omega,by simp,fun i x hx=>⟨w.heap.size,0,rfl,rfl,?_⟩⟩
 have hi:=xae hx;obtain rfl:i=0:=by simpa using hi
 simp at hx
 subst hx
 exact⟨qzA (xaj _ _) (xaa w _ _ _ rfl 0),qzA (xaj _ _) (xaa w _ _ _ rfl 1)⟩
theorem Out.lz {B:Nat}{w:World}{v:Value}{ls:List QL}(h:Out xda 2 72 B w v ls):xbI (fun b=>B<=b/\b<w.heap.size) w v ls:=by
 obtain⟨cs,h1,h2⟩:=h
 exact xql xbq h1 rfl (P:=fun b=>B<=b/\b<w.heap.size) ⟨h2.1,h2.2⟩ fun g h h'=>⟨h,h'⟩
theorem xqL (Z:Nat->Prop)(xs:List QT)(v:Value)(s:QS)(c:Int)(w:World)(hz:∀ b,w.heap.size<=b->Z b)(hh:xbc Z w v xs)(hby:(xs.length+1)*56<=140737488355328)(hls:∀ x∈xs,(x.lz.length+1)*16<=140737488355328) :
  Calls Tryz.prog 25 #[v,SV s,.int .i64 c] w fun e w'=>∃ a cap,e=.returned (.slice a (xc1 xs s c).length cap)/\xbc Z w' (.slice a (xc1 xs s c).length cap) (xc1 xs s c)/\Below w.heap.size w w':=by
 have ho:=xpF hh;obtain⟨ad,cap,rfl,hl,hcap,-,-⟩:=id hh;unfold maxLen at hcap;have hs0:=xeS w s 67;have hb0:=xaj w (.cells #[.int .i64 s.cls,.string s.name,.int .i64 s.at'] 67);have hB0:(w.alloc (.cells #[.int .i64 s.cls,.string s.name,.int .i64 s.at'] 67)).heap.size=w.heap.size+1:=by simp
 replace ho:=ho.later xbZ hb0;clear hh;go_enter Tryz.func25,Tryz.ntmps25;go_wp2;generalize (w.alloc (.cells #[.int .i64 s.cls,.string s.name,.int .i64 s.at'] 67))=W0 at *
 go_loopg [7,8,17] xs.length (fun g o d i wr=>∃ j:Nat,j+g=xs.length/\i=.int .i64 j/\d=.bool (xqh s c (xs.take j)).2/\Below W0.heap.size W0 wr/\OutN Z xf7 4 97 W0.heap.size wr o (xqh s c (xs.take j)).1)
 case atStart=>exact⟨0,by omega,rfl,rfl,qzL _ _,OutN.nil⟩
 case round=>
  obtain⟨j,hj,rfl,rfl,hbel,hout⟩:=hrel;obtain⟨s0,s1,s2⟩:=hs0.later hbel;have hlen:(xqh s c (xs.take j)).1.length=j:=by rw[xqQ,List.length_take];omega
  have hzr:=hbel.size
  by_cases hlt:j<xs.length
  ·obtain⟨ad',cap',e',-,-,-,hrow⟩:=ho.later xbZ hbel;simp only[Value.slice.injEq] at e';obtain⟨rfl,-,-⟩:=e';obtain⟨b,o,rfl,-,q0,q1,q2,lv,q3,ql⟩:=hrow j xs[j] (by simp[hlt])
   have hxj:Hid (xs[j]?=some xs[j]):=by show _=_;simp[hlt]
   have hlx:=hls xs[j] (by simp)
   generalize xs[j]=x at *;have HC:Hid (xqh s c (xs.take (j+1))=xpt s c (xqh s c (xs.take j)) x):=by show _=_;rw[xpB hxj.out,xqN]
   simp only[Nat.add_zero] at q0;obtain⟨ad2,cap2,rfl,hl2,hcap2,-,-⟩:=id ql;unfold maxLen at hcap2;generalize hcr:xqh s c (xs.take j)=pd at *;obtain⟨pre,dn⟩:=pd;simp only at hout hlen ⊢;clear hcr hrow;have s0':=fun y=>qzA (xaj wr y) s0
   have s1':=fun y=>qzA (xaj wr y) s1
   have s2':=fun y=>qzA (xaj wr y) s2
   have he:=fun w=>xrt x.site s w
   have hj1:(j:Int)<(xs.length:Int):=by omega
   have hj0:(0:Int)<=(j:Int):=by omega
   have hbx:=xaj wr (Obj.cells #[Value.int .i64 x.site.cls,Value.string x.site.name,Value.int .i64 x.site.at',Value.slice ad2 x.lz.length cap2] 97);have hob:=hout.block
   by_cases hcase:eqS x.site s=true/\dn=false
   ·obtain⟨h1,rfl⟩:=hcase;have HP:Hid (xpt s c (pre,false) x=(pre++[⟨x.site,xbo x.lz c⟩],true)):=by show _=_;unfold xpt;rw[if_pos ⟨h1,rfl⟩]
    rw[h1] at he;clear h1;have hbox:=xlL wr x (Value.slice ad2 x.lz.length cap2) 97;have hqx:=ql.later xbq hbx;have hz1:(wr.alloc (Obj.cells #[Value.int .i64 x.site.cls,Value.string x.site.name,Value.int .i64 x.site.at',Value.slice ad2 x.lz.length cap2] 97)).heap.size=wr.heap.size+1:=by simp
    have hfz1:=fun o=>xeu wr #[Value.int .i64 x.site.cls,Value.string x.site.name,Value.int .i64 x.site.at',Value.slice ad2 x.lz.length cap2] 97 wr.heap.size o rfl
    go_wp2;generalize (wr.alloc (Obj.cells #[Value.int .i64 x.site.cls,Value.string x.site.name,Value.int .i64 x.site.at',Value.slice ad2 x.lz.length cap2] 97))=W1 at *;have HQ:Hid (∀ w',Below W1.heap.size W1 w'->Below wr.heap.size wr w'):=fun w' h=>hbx.trans (h.mono (by omega))
    have HOUT:Hid (∀ w',Below wr.heap.size wr w'->OutN Z xf7 4 97 W0.heap.size w' u7 pre):=fun w' h=>hout.later xbZ h
    have HBW:Hid (∀ w',Below wr.heap.size wr w'->Below W0.heap.size W0 w'):=fun w' h=>hbel.trans (h.mono hzr)
    clear s0 s1 s2 s0' s1' s2' he q0 q1 q2 q3 ql hbx hout hbel;generalize wr.heap.size=TB at *
    go_loopg [11,12,32] x.lz.length (fun g l d i wr=>∃ q:Nat,q+g=x.lz.length/\i=.int .i64 q/\d=.bool (xqj c (x.lz.take q)).2/\Below W1.heap.size W1 wr/\Out xda 2 72 W1.heap.size wr l (xqj c (x.lz.take q)).1)
    case atStart=>exact⟨0,by omega,rfl,rfl,qzL _ _,Out.nil⟩
    case round=>
     obtain⟨q,hq,rfl,rfl,hbq,houtq⟩:=hrel;have hlenq:(xqj c (x.lz.take q)).1.length=q:=by rw[xq0,List.length_take];omega
     by_cases hltq:q<x.lz.length
     ·obtain⟨ad3,cap3,e3,-,-,-,hrow3⟩:=hqx.later xbq hbq;simp only[Value.slice.injEq] at e3;obtain⟨rfl,-,-⟩:=e3;obtain⟨b3,o3,rfl,-,y0,y1⟩:=hrow3 q x.lz[q] (by simp[hltq])
      have hyq:Hid (x.lz[q]?=some x.lz[q]):=by show _=_;simp[hltq]
      generalize x.lz[q]=y at *;simp only[Nat.add_zero] at y0;have HL:Hid (xqj c (x.lz.take (q+1))=xpu c (xqj c (x.lz.take q)) y):=by show _=_;rw[xpB hyq.out,xqF]
      generalize hlr:xqj c (x.lz.take q)=lp at *;obtain⟨lpre,was⟩:=lp;simp only at houtq hlenq ⊢;clear hlr hrow3;have hq1:(q:Int)<(x.lz.length:Int):=by omega
      have hq0:(0:Int)<=(q:Int):=by omega
      have hzq:=hbq.size
      by_cases hcy:(y.cls == c)=true/\was=false
      ·obtain⟨hc1,rfl⟩:=hcy;have HLP:Hid (xpu c (lpre,false) y=(lpre++[⟨y.cls,wrap64 (y.found+1)⟩],true)):=by show _=_;unfold xpu;rw[if_pos ⟨hc1,rfl⟩]
       go_wp2_with (at_builtin;refine xpm xbq rfl (.tmp 48) (.tmp 50) 68 rfl 72 _ 16 Tryz.underlying68 xi4 rfl W1.heap.size _ lpre rfl ((houtq.later xbq (xaj _ _)).later xbq (xaj _ _)) _ 72 [.int .i64 y.cls,.int .i64 (wrap64 (y.found+1))] rfl (xp0 _ _ _ (by simp)) rfl ⟨y.cls,wrap64 (y.found+1)⟩ (R':=fun b=>False) ⟨rfl,rfl⟩ (fun b hb=>hb.elim) (by simp;omega) (by unfold maxLen;omega) (by rw[hlenq];omega) ?_;intro g3 cap3 w3 hout3 hbel3 hkeep3)
       go_roundg (x.lz.length-(q+1))
       case measure=>omega
       case rel=>exact⟨q+1,by omega,by go_num,by rw[HL.out,HLP.out],hbq.trans (((xaj _ _).mono hzq).trans (((xaj _ _).mono (by simp;omega)).trans hbel3)),by rw[HL.out,HLP.out];simpa [hlenq] using hout3⟩
      ·have HLP:Hid (xpu c (lpre,was) y=(lpre++[y],was)):=by show _=_;unfold xpu;rw[if_neg hcy]
       cases hc1:(y.cls == c) with
       | false=>
        go_wp2_with (at_builtin;refine xpm xbq rfl (.tmp 48) (.tmp 50) 68 rfl 72 _ 16 Tryz.underlying68 xi4 rfl W1.heap.size _ lpre rfl ((houtq.later xbq (xaj _ _)).later xbq (xaj _ _)) _ 72 [.int .i64 y.cls,.int .i64 y.found] rfl (xp0 _ _ _ (by simp)) rfl y (R':=fun b=>False) ⟨rfl,rfl⟩ (fun b hb=>hb.elim) (by simp;omega) (by unfold maxLen;omega) (by rw[hlenq];omega) ?_;intro g3 cap3 w3 hout3 hbel3 hkeep3)
        go_roundg (x.lz.length-(q+1))
        case measure=>omega
        case rel=>exact⟨q+1,by omega,by go_num,by rw[HL.out,HLP.out],hbq.trans (((xaj _ _).mono hzq).trans (((xaj _ _).mono (by simp;omega)).trans hbel3)),by rw[HL.out,HLP.out];simpa [hlenq] using hout3⟩
       | true=>
        obtain rfl:was=true:=by
         cases was with
         | true=>rfl
         | false=>exact absurd ⟨hc1,rfl⟩ hcy
        clear hcy
        go_wp2_with (at_builtin;refine xpm xbq rfl (.tmp 48) (.tmp 50) 68 rfl 72 _ 16 Tryz.underlying68 xi4 rfl W1.heap.size _ lpre rfl ((houtq.later xbq (xaj _ _)).later xbq (xaj _ _)) _ 72 [.int .i64 y.cls,.int .i64 y.found] rfl (xp0 _ _ _ (by simp)) rfl y (R':=fun b=>False) ⟨rfl,rfl⟩ (fun b hb=>hb.elim) (by simp;omega) (by unfold maxLen;omega) (by rw[hlenq];omega) ?_;intro g3 cap3 w3 hout3 hbel3 hkeep3)
        go_roundg (x.lz.length-(q+1))
        case measure=>omega
        case rel=>exact⟨q+1,by omega,by go_num,by rw[HL.out,HLP.out],hbq.trans (((xaj _ _).mono hzq).trans (((xaj _ _).mono (by simp;omega)).trans hbel3)),by rw[HL.out,HLP.out];simpa [hlenq] using hout3⟩
     ·obtain rfl:q=x.lz.length:=by omega
      have HTq:Hid (x.lz.take x.lz.length=x.lz):=List.take_of_length_le (qzC _);rw[HTq.out] at houtq hlenq ⊢;have HFq:Hid (xbo x.lz c=xrp c (xqj c x.lz)):=(xq2 c x.lz).symm;generalize hlr:xqj c x.lz=lp at *;obtain⟨lpre,was⟩:=lp;simp only at houtq hlenq ⊢;clear hlr;have hzq:=hbq.size;have HLQ:Hid (lpre.length=x.lz.length):=hlenq;clear hlenq
      cases was with
      | true=>
       have HE:Hid (xbo x.lz c=lpre):=by show _=_;rw[HFq.out];rfl
       obtain⟨a8,k8,rfl,-⟩:=houtq.form;have hbx9:=hbox.later hbq;have f9:=fun o=>(hbq.frozen (p:=⟨TB,o,none⟩) (by simp;omega)).trans (hfz1 o)
       obtain⟨c90,c91,c92,c93⟩:=hbx9;have hset9:=(HQ.out _ hbq).setCell (p:=⟨TB,3,none⟩) (qzC _) (.slice a8 lpre.length k8);have hl9:=houtq.lz.keep xbq (Keeps.of_setCell (a:=⟨TB,3,none⟩) (by intro h;have:=h.1;simp at this;omega) (.slice a8 lpre.length k8)) (fun _ h=>h)
       have hz9:=hset9.size
       go_wp2_with (at_builtin;refine xpl xbZ rfl (.tmp 62) (.tmp 64) 32 rfl 97 _ 56 Tryz.underlying32 xmI rfl W0.heap.size _ pre rfl ((HOUT.out _ hset9).later xbZ (xaj _ _)) _ 97 [.int .i64 x.site.cls,.string x.site.name,.int .i64 x.site.at',.slice a8 lpre.length k8] rfl (xp0 _ _ _ (by simp)) rfl ⟨x.site,lpre⟩ (R':=fun b=>W1.heap.size<=b/\b<wr.heap.size) ⟨rfl,rfl,rfl,_,rfl,hl9.later xbq (xaj _ _)⟩ (fun b hb=>⟨hz b (by omega),by simp;omega,fun e=>by have:=(hob b e.symm).2;omega⟩) (by simp;omega) (by unfold maxLen;omega) (by rw[hlen];omega) ?_;intro g3 cap3 w3 hout3 hbel3)
       go_roundg (xs.length-(j+1))
       case measure=>omega
       case rel=>exact⟨j+1,by omega,by go_num,by rw[HC.out,HP.out],(HBW.out _ hset9).trans (((xaj _ _).mono (HBW.out _ hset9).size).trans hbel3),by rw[HC.out,HP.out,HE.out];simpa [hlen] using hout3⟩
      | false=>
       have HE:Hid (xbo x.lz c=lpre++[⟨c,1⟩]):=by show _=_;rw[HFq.out];rfl
       have hbx9:=hbox.later hbq;have f9:=fun o=>(hbq.frozen (p:=⟨TB,o,none⟩) (by simp;omega)).trans (hfz1 o)
       obtain⟨c90,c91,c92,c93⟩:=hbx9;have hw9:=HQ.out _ hbq
       go_wp2_with (first
        | (at_builtin;refine xpm xbq rfl (.tmp 55) (.tmp 58) 68 rfl 72 _ 16 Tryz.underlying68 xi4 rfl W1.heap.size _ lpre rfl (houtq.later xbq (xaj _ _)) _ 72 [.int .i64 c,.int .i64 1] rfl (xp0 _ _ _ (by simp)) rfl ⟨c,1⟩ (R':=fun b=>False) ⟨rfl,rfl⟩ (fun b hb=>hb.elim) (by simp;omega) (by rw[HLQ.out];unfold maxLen;omega) (by rw[HLQ.out];omega) ?_;intro g8 cap8 w8 hout8 hbel8 hkeep8;have hb8:=((xaj _ _).mono hzq).trans hbel8;have hbq8:=hbq.trans hb8;have hz8:=hbq8.size;have hbx8:=hbox.later hbq8;have f8:=fun o=>(hbq8.frozen (p:=⟨TB,o,none⟩) (by simp;omega)).trans (hfz1 o);obtain⟨c80,c81,c82,c83⟩:=hbx8;have hset9:=(HQ.out _ hbq8).setCell (p:=⟨TB,3,none⟩) (qzC _) (.slice (some ⟨g8,0,none⟩) (lpre.length+1) cap8);have hl9:=hout8.lz.keep xbq (Keeps.of_setCell (a:=⟨TB,3,none⟩) (by intro h;have:=h.1;simp at this;omega) (.slice (some ⟨g8,0,none⟩) (lpre.length+1) cap8)) (fun _ h=>h);have hz9:=hset9.size;clear c90 c91 c92 c93 f9)
        | (at_builtin;refine xpl xbZ rfl (.tmp 62) (.tmp 64) 32 rfl 97 _ 56 Tryz.underlying32 xmI rfl W0.heap.size _ pre rfl ((HOUT.out _ hset9).later xbZ (xaj _ _)) _ 97 [.int .i64 x.site.cls,.string x.site.name,.int .i64 x.site.at',.slice (some ⟨g8,0,none⟩) (lpre.length+1) cap8] rfl (xp0 _ _ _ (by simp)) rfl ⟨x.site,lpre++[⟨c,1⟩]⟩ (R':=fun b=>W1.heap.size<=b/\b<w8.heap.size) ⟨rfl,rfl,rfl,_,rfl,hl9.later xbq (xaj _ _)⟩ (fun b hb=>⟨hz b (by omega),by simp;omega,fun e=>by have:=(hob b e.symm).2;omega⟩) (by simp;omega) (by unfold maxLen;omega) (by rw[hlen];omega) ?_;intro g3 cap3 w3 hout3 hbel3))
       go_roundg (xs.length-(j+1))
       case measure=>omega
       case rel=>exact⟨j+1,by omega,by go_num,by rw[HC.out,HP.out],(HBW.out _ hset9).trans (((xaj _ _).mono (HBW.out _ hset9).size).trans hbel3),by rw[HC.out,HP.out,HE.out];simpa [hlen] using hout3⟩
   ·have HP:Hid (xpt s c (pre,dn) x=(pre++[x],dn)):=by show _=_;unfold xpt;rw[if_neg hcase]
    have hlR:xbI (fun b=>Z b/\b<w.heap.size) (wr.alloc (Obj.cells #[Value.int .i64 x.site.cls,Value.string x.site.name,Value.int .i64 x.site.at',Value.slice ad2 x.lz.length cap2] 97)) (.slice ad2 x.lz.length cap2) x.lz:=ql.later xbq hbx
    cases h1:eqS x.site s with
    | false=>
     rw[h1] at he
     go_wp2_with (at_builtin;refine xpl xbZ rfl (.tmp 62) (.tmp 64) 32 rfl 97 _ 56 Tryz.underlying32 xmI rfl W0.heap.size _ pre rfl ((hout.later xbZ hbx).later xbZ (xaj _ _)) _ 97 [.int .i64 x.site.cls,.string x.site.name,.int .i64 x.site.at',.slice ad2 x.lz.length cap2] rfl (xp0 _ _ _ (by simp)) rfl x (R':=fun b=>Z b/\b<w.heap.size) ⟨rfl,rfl,rfl,_,rfl,hlR.later xbq (xaj _ _)⟩ (fun b hb=>⟨hb.1,by simp;omega,fun e=>by have:=(hob b e.symm).1;omega⟩) (by simp;omega) (by unfold maxLen;omega) (by rw[hlen];omega) ?_;intro g3 cap3 w3 hout3 hbel3)
     go_roundg (gk-1)
     case measure=>omega
     case rel=>exact⟨j+1,by omega,by go_num,by rw[HC.out,HP.out],hbel.trans ((hbx.mono hzr).trans (((xaj _ _).mono (by simp;omega)).trans hbel3)),by rw[HC.out,HP.out];simpa [hlen] using hout3⟩
    | true=>
     obtain rfl:dn=true:=by
      cases dn with
      | true=>rfl
      | false=>exact absurd ⟨h1,rfl⟩ hcase
     rw[h1] at he;clear hcase
     go_wp2_with (at_builtin;refine xpl xbZ rfl (.tmp 62) (.tmp 64) 32 rfl 97 _ 56 Tryz.underlying32 xmI rfl W0.heap.size _ pre rfl ((hout.later xbZ hbx).later xbZ (xaj _ _)) _ 97 [.int .i64 x.site.cls,.string x.site.name,.int .i64 x.site.at',.slice ad2 x.lz.length cap2] rfl (xp0 _ _ _ (by simp)) rfl x (R':=fun b=>Z b/\b<w.heap.size) ⟨rfl,rfl,rfl,_,rfl,hlR.later xbq (xaj _ _)⟩ (fun b hb=>⟨hb.1,by simp;omega,fun e=>by have:=(hob b e.symm).1;omega⟩) (by simp;omega) (by unfold maxLen;omega) (by rw[hlen];omega) ?_;intro g3 cap3 w3 hout3 hbel3)
     go_roundg (gk-1)
     case measure=>omega
     case rel=>exact⟨j+1,by omega,by go_num,by rw[HC.out,HP.out],hbel.trans ((hbx.mono hzr).trans (((xaj _ _).mono (by simp;omega)).trans hbel3)),by rw[HC.out,HP.out];simpa [hlen] using hout3⟩
  ·obtain rfl:j=xs.length:=by omega
   have HT:Hid (xs.take xs.length=xs):=List.take_of_length_le (qzC _);rw[HT.out] at hout hlen ⊢;have HF:Hid (xc1 xs s c=xrr s c (xqh s c xs)):=(xq1 s c xs).symm;generalize hcr:xqh s c xs=pd at *;obtain⟨pre,dn⟩:=pd;simp only at hout hlen ⊢;clear hcr;have hob:=hout.block;have hbw:Below w.heap.size w wr:=xah hb0 hbel
   cases dn with
   | true=>
    have HE:Hid (xc1 xs s c=pre):=by show _=_;rw[HF.out];rfl
    obtain⟨a9,c9,rfl⟩:=hout.form;go_wp2
    go_ret
    rw[HE.out]
    exact⟨a9,c9,rfl,hout.rowZ xbZ (fun _ h=>h) (fun b hb=>hz b (by omega)),hbw⟩
   | false=>
    have HE:Hid (xc1 xs s c=pre++[⟨s,[⟨c,1⟩]⟩]):=by show _=_;rw[HF.out];rfl
    go_wp2_with (at_builtin;refine xpl xbZ rfl (.tmp 69) (.tmp 75) 32 rfl 97 _ 56 Tryz.underlying32 xmI rfl W0.heap.size _ pre rfl ((hout.later xbZ (xaj _ _)).later xbZ (xaj _ _)) _ 97 [.int .i64 s.cls,.string s.name,.int .i64 s.at',.slice (some ⟨wr.heap.size,0,none⟩) 1 1] rfl (xp0 _ _ _ (by simp)) rfl ⟨s,[⟨c,1⟩]⟩ (R':=fun b=>b=wr.heap.size) ⟨rfl,rfl,rfl,_,rfl,xra wr c _⟩ (fun b hb=>⟨hz b (by omega),by simp;omega,fun e=>by have:=(hob b e.symm).2;omega⟩) (by simp;omega) (by unfold maxLen;omega) (by rw[hlen];omega) ?_;intro g3 cap3 w3 hout3 hbel3)
    go_ret
    rw[HE.out];refine⟨some ⟨g3,0,none⟩,cap3,by simp[hlen],?_,?_⟩
    ·have:=hout3.rowZ xbZ (fun _ h=>h) (fun b hb=>hz b (by omega))
     simpa [hlen] using this
    ·exact (hbw.trans ((xaj _ _).mono hbw.size)).trans (((xaj _ _).mono (by have:=hbw.size;simp;omega)).trans (hbel3.mono (by omega)))
theorem xbT {P:Program}(w:World)(t ty e:TypeId)(i:TypeInfo)(ht:P.underlying t=some (.slice e))(hi:P.info? e=some i)(B:Nat)(ad:Option Addr)(cap:Nat) :
  (Builtin.append_ #[t,t] ty #[.slice (some ⟨B,0,none⟩) 0 0,.slice ad 0 cap]).run P w=.ok (.slice (some ⟨B,0,none⟩) 0 0) w:=by
 have hl:∀ (x:Addr),(loadCells x 0).run P w=.ok #[] w:=fun x=>by simpa using run_loadCells_list (P:=P) w x [] (by simp)
 cases ad<;>simp[Builtin.append_,run_underlying ht,sizeOf,typeInfo,hi,Builtin.lenOf,Builtin.firstCells,storeCells,hl]
theorem xa4 {ops:Array Oper}{rest:List Oper}{o:Oper}{a:Act}{w:World}{Q:Exit->Act->World->Prop}(hgd:o.guard=none)(s x:Operand)(T e:TypeId)(z:Value)(sz bytes:Nat)
  (hop:o.op=Op.call { callee:=Callee.builtin Builtin.append,args:=#[s,x],argTypes:=#[T,T] }) (hT:Tryz.prog.underlying T=some (.slice e)) (hI:(Tryz.prog.info? e).map (fun i=>(i.zero,i.size,i.bytes))=some (some z,sz,bytes)) (hzs:z.cells.size=sz) (hsz:0<sz) (hbz:0<bytes)
  (B:Nat) (hs:a.eval s=.slice (some ⟨B,0,none⟩) 0 0) (hB:w.heap[B]?=some (.cells #[] e (0,0)))
  (ad:Option Addr) (n cap:Nat) (hx:a.eval x=.slice ad n cap) (cs:List Value) (hlen:cs.length=n*sz) (hsrc:∀ j u,cs[j]?=some u->∃ b,ad=some b/\w.cell? (b.add j)=some u) (hn:n*bytes<=140737488351232)
  (hK:∀ g cap' w',w'.ownsRow B e sz (.slice (some ⟨g,0,none⟩) n cap') n cs->(g=B\/w.heap.size<=g)->g<w'.heap.size->Below w.heap.size w w'->wpList Tryz.prog ops Q rest (a.put o.dst (.slice (some ⟨g,0,none⟩) n cap')) w') :
  wpList Tryz.prog ops Q (o :: rest) a w:=by
 refine wpList_plain hgd fun K hKK=>?_
 obtain⟨i0,hi,hz0,hz1,hz2⟩:=xa3 hI;have hBl:=xaf hB
 by_cases h0:n=0
 ·subst h0;have hcs:cs=[]:=List.eq_nil_of_length_eq_zero (by simpa using hlen)
  have hrun:=xbT (P:=Tryz.prog) w T o.type e i0 hT hi B ad cap;unfold Oper.wp
  simp[execOp,hop,resolve,invoke,builtin,hs,hx,hrun,Result.andThen]
  refine hKK _ _ (hK B 0 w ?_ (Or.inl rfl) hBl (qzL _ _));rw[hcs]
  exact⟨by simp,.inr ⟨B,0,#[],rfl,qzC _,hB,qzC _,by unfold maxLen;omega,by simp,by simp⟩⟩
 ·obtain⟨b,rfl⟩:∃ b,ad=some b:=by
   have:0<cs.length:=by rw[hlen];exact Nat.mul_pos (by omega) hsz
   obtain⟨b,e,-⟩:=hsrc 0 cs[0] (by simp[this])
   exact⟨b,e⟩
  have hnb:n<=140737488351232:=qzD (Nat.le_mul_of_pos_right n hbz) hn;obtain⟨v',w',hrun,r1,r2⟩:=run_append_arg_grows (P:=Tryz.prog) w T o.type e i0 _ sz bytes hT hi hz0 hz1 hz2 hzs hsz ⟨B,0,none⟩ 0 0 [] (by simp) (fun j u hu=>by simp at hu) b n cap cs hlen (fun j u hu=>by obtain⟨b',e,h⟩:=hsrc j u hu;cases e;exact h) (by omega) (by unfold maxLen;omega) (by rw[Nat.zero_add];omega)
  simp only[Nat.zero_add,List.nil_append] at r1;obtain⟨g,cap',rfl,hg,hgl⟩:=r1.form (by omega)
  unfold Oper.wp
  simp[execOp,hop,resolve,invoke,builtin,hs,hx,hrun,Result.andThen]
  refine hKK _ _ (hK g cap' w' ?_ (Or.inr hg) hgl ((qzL _ _).grown r2 (qzC _) (fun k hk=>by cases hk)))
  obtain⟨q1,q2⟩:=r1;refine⟨q1,?_⟩
  rcases q2 with q2 | ⟨g',c',cur,e,h1,h2⟩
  ·exact .inl q2
  ·exact .inr ⟨g',c',cur,e,by omega,h2⟩
theorem xmO (a:Option Addr)(n c:Nat)(w:World):(binOp .eql 28 (.slice a n c) (.slice none 0 0)).run Tryz.prog w=.ok (.bool (a == none)) w:=by
 have u:=Tryz.underlying28
 cases a<;>go_simp<;>rfl
theorem xcR {P:Nat->Prop}(xs:List QV)(v:Value)(w:World)(h:xaB P w v xs):Calls Tryz.prog 118 #[v] w fun e w'=>∃ a c,e=.returned (.slice a xs.length c)/\xaB (fun b=>w.heap.size<=b/\b<w'.heap.size) w' (.slice a xs.length c) xs/\Below w.heap.size w w':=by
 obtain⟨ad,cap,rfl,hl,hcap,hby,hrow⟩:=h
 cases ad with
 | none=>
  have hx:xs=[]:=by
   cases xs with
   | nil=>rfl
   | cons x r=>obtain⟨b,o,e,-⟩:=hrow 0 x rfl;cases e
  subst hx;have hq:=xmO none 0 cap;go_enter Tryz.func118,Tryz.ntmps118;go_wp2
  go_ret
  exact⟨none,0,rfl,⟨none,0,rfl,by simp,by simp,by simp,fun i x hx=>by simp at hx⟩,qzL _ _⟩
 | some ad=>
  obtain⟨cs,hcs,hsrc⟩:=hrow.cells xaK;have hvc:=xco (E:=()) hcs;have hlen:=hcs.1;clear hrow;have hq:=xmO (some ad) xs.length cap;go_enter Tryz.func118,Tryz.ntmps118
  go_wp2_with (at_builtin;refine xa4 rfl (.tmp 5) (.tmp 6) 28 27 _ 2 16 rfl Tryz.underlying28 xbW rfl (by omega) (by omega) w.heap.size rfl (by first | exact qzJ _ _ | (simp;done)) (some ad) xs.length cap rfl cs hlen (fun j u hj=>by obtain⟨b,e,h⟩:=hsrc j u hj;exact⟨b,e,qzA (xaj _ _) h⟩) hby ?_;intro g cap' w' hown hg hgl hb)
  go_ret
  have hbw:Below w.heap.size w w':=xbz (qzL _ _) hb;refine⟨some ⟨g,0,none⟩,cap',rfl,?_,hbw⟩;obtain⟨q1,q2 | ⟨g',c',cur,e,h1,h2,h3,h4,h5,h6⟩⟩:=hown
  ·cases q2.1
  ·cases e
   have hg2:w.heap.size<=g:=by rcases hg with h | h<;>simp at*<;> omega
   exact Cells.row (E:=xmM) (sz:=2) (cs:=cs) ⟨hlen,fun i x hx=>hcs.2 i x hx⟩ xaK ⟨hg2,hgl⟩ h2 h6 h3 h4 hby
theorem ownsAt.tail {w:World}{g o cap:Nat}{xs:List QV}(h:ownsAt w 0 27 2 (.slice (some ⟨g,o,none⟩) xs.length cap) xs.length (xal xs)){k:Nat}(hk:k<=xs.length)(hb:xs.length<=1000000000):xaB (fun b=>b=g) w (.slice (some ⟨g,o+k*2,none⟩) (xs.drop k).length (cap-k)) (xs.drop k):=by
 have hv:=h.vals (by omega)
 obtain⟨a',c',e,h1,h2,h3,hr⟩:=hv
 cases e
 have hl:(xs.drop k).length=xs.length-k:=by simp
 refine⟨_,_,rfl,by omega,by unfold maxLen at *;omega,by omega,fun i x hx=>⟨g,o+k*2,rfl,rfl,?_⟩⟩
 rw[List.getElem?_drop] at hx;obtain⟨b,o',e,-,h0,h1⟩:=hr _ x hx
 cases e
 exact⟨by show w.cell? ⟨_,_,_⟩=_;rw[show o+k*2+i*2+0=o+(k+i)*2+0 by omega];exact h0,by show w.cell? ⟨_,_,_⟩=_;rw[show o+k*2+i*2+1=o+(k+i)*2+1 by omega];exact h1⟩
theorem xbY {T:Nat->Nat}{K:Nat}{w w1:World}{fb:Nat}{f:Fr}{cv av tv kv:Value}{a:Option Addr}{cap k:Nat}(h:FrAt T K w fb f cv av tv (.slice a f.stack.length cap) kv)(hk:k<=f.stack.length){av':Value}(hb:Below w.heap.size w w1)(hv:xaB (fun b=>w.heap.size<=b/\b<w1.heap.size) w1 av' (f.stack.drop k)) :
  ∃ T',Ext T T' w/\FrAt T' K (w1.setCell ⟨fb,10,none⟩ (.slice a k cap)) fb { f with stack:=f.stack.take k } cv av tv (.slice a k cap) kv/\xaB (Fx T' (w1.setCell ⟨fb,10,none⟩ (.slice a k cap))) (w1.setCell ⟨fb,10,none⟩ (.slice a k cap)) av' (f.stack.drop k)/\Kp (fun t=>t=K) T w (w1.setCell ⟨fb,10,none⟩ (.slice a k cap)):=by
 have hlt:=xaf h.box;have e:=xao T w 0;have kk:Kp (fun t=>t=K) T w (w1.setCell ⟨fb,10,none⟩ (.slice a k cap)):=(Kp.of_below hb).set (fun _=>h.tag) _ _
 have h':FrAt (xau T w 0) K w fb f cv av tv (.slice a f.stack.length cap) kv:=h.keep (S:=fun _=>False) e (Kp.refl _ _ _) id id id id
 refine⟨xau T w 0,e,h'.cut (m:=k) (kk.tags e) (xeP (xac h.box hb) _ _) hk,?_,kk⟩;refine hv.keep xaK (Keeps.of_setCell (fun hp=>?_) _) fun b hb'=>⟨by rw[xbg];exact hb'.2,xav hb'.1⟩
 have:=hp.1;simp only at this
 omega
theorem xii {T:Nat->Nat}{K:Nat}{w:World}{fb:Nat}{f:Fr}{cv av tv sv kv:Value}(h:FrAt T K w fb f cv av tv sv kv)(n:Int)(k:Nat)(hk:k=xbu f.stack n):Calls Tryz.prog 114 #[.pointer (some ⟨fb,0,none⟩),.int .i64 n] w fun e w'=>∃ a c T' sv',e=.returned (.slice a (f.stack.drop k).length c)/\Ext T T' w/\FrAt T' K w' fb { f with stack:=f.stack.take k } cv av tv sv' kv/\xaB (Fx T' w') w' (.slice a (f.stack.drop k).length c) (f.stack.drop k)/\Kp (fun t=>t=K) T w w':=by
 have hlt:=xaf h.box;have c0:w.cell? ⟨fb,10,none⟩=some sv:=by rw[qzB h.box];rfl
 have hfew:=h.few;have hkl:k<=f.stack.length:=by rw[hk];unfold xbu;omega
 have HL:=hid hkl;obtain⟨a,cap,rfl,hc1,hc2⟩:=h.stack.form;unfold maxLen at hc2;have hk2:k<=cap:=by omega
 have hk3:(k:Int)<=(cap:Int):=by omega
 have hk4:(k:Int)<=(f.stack.length:Int):=by omega
 have H0:=hid h;have HS:=hid h.stack;have HX:=hid h.box;clear h
 by_cases hn:n<0
 ·have hn':decide (n<0)=true:=by simpa using hn
  have hkL0:k=f.stack.length:=by rw[hk];unfold xbu;omega
  have hkw:IntKind.i64.wrap ((f.stack.length:Int)-0)=(k:Int):=by rw[xaE (by omega) (by omega)];omega
  have hkw2:IntKind.i64.wrap (f.stack.length:Int)=(k:Int):=by rw[xaE (by omega) (by omega)];omega
  by_cases hck:cap=k
  ·have hkL:f.stack.length=k:=by omega
   have HV:Hid (xaB (fun _=>False) w.drew (.slice a (f.stack.drop k).length 0) (f.stack.drop k)):=by
    have e0:f.stack.drop k=[]:=List.drop_eq_nil_of_le (by omega)
    rw[e0]
    exact⟨a,0,rfl,by simp,by simp,by simp,fun i x hx=>by simp at hx⟩
   have HDL:Hid ((f.stack.drop k).length=f.stack.length-k):=by show _=_;simp
   rw[HDL.out] at HV;have hck0:cap-k=0:=by omega
   clear hck hkL;clear hk hkL0;go_enter Tryz.func114,Tryz.ntmps114;go_wp2
   go_region
   go_wp2_with fail;refine (xcR (f.stack.drop k) _ _ HV.out).mono ?_;rintro e w1 ⟨a1,c1,rfl,hv1,hb1⟩;have hbw:Below w.heap.size w w1:=((qzL w.heap.size w).drew).trans hb1;have hbx:=xac HX.out hbw;have d0:w1.cell? ⟨fb,10,none⟩=some _:=(by rw[qzB hbx];rfl)
   have df:=xam hbx;have HV1:Hid (xaB (fun b=>w.heap.size<=b/\b<w1.heap.size) w1 _ (f.stack.drop k)):=hv1
   have HBW:=hid hbw;clear hv1 hb1 hbw hbx;go_wp2;obtain⟨T',q1,q2,q3,q4⟩:=xbY H0.out HL.out HBW.out HV1.out
   go_ret
   exact⟨a1,c1,T',_,(by rw[HDL.out];rfl),q1,q2,q3,q4⟩
  ·obtain⟨g,o,rfl⟩:∃ g o,a=some ⟨g,o,none⟩:=by
    obtain⟨-,⟨e,-⟩ | ⟨g,o,c,cur,e,-⟩⟩:=HS.out
    ·simp only[Value.slice.injEq] at e;omega
    ·cases e;exact⟨g,o,rfl⟩
   have HV:Hid (xaB (fun b=>b=g) w.drew (.slice (some ⟨g,o+k*2,none⟩) (f.stack.drop k).length (cap-k)) (f.stack.drop k)):=(ownsAt.tail HS.out HL.out hfew).later xaK (qzL _ _).drew
   have HDL:Hid ((f.stack.drop k).length=f.stack.length-k):=by show _=_;simp
   rw[HDL.out] at HV;have hck0:¬ (cap-k=0):=by omega
   clear hck;clear hk hkL0;go_enter Tryz.func114,Tryz.ntmps114;go_wp2
   go_region
   go_wp2_with fail;refine (xcR (f.stack.drop k) _ _ HV.out).mono ?_;rintro e w1 ⟨a1,c1,rfl,hv1,hb1⟩;have hbw:Below w.heap.size w w1:=((qzL w.heap.size w).drew).trans hb1;have hbx:=xac HX.out hbw;have d0:w1.cell? ⟨fb,10,none⟩=some _:=(by rw[qzB hbx];rfl)
   have df:=xam hbx;have HV1:Hid (xaB (fun b=>w.heap.size<=b/\b<w1.heap.size) w1 _ (f.stack.drop k)):=hv1
   have HBW:=hid hbw;clear hv1 hb1 hbw hbx;go_wp2;obtain⟨T',q1,q2,q3,q4⟩:=xbY H0.out HL.out HBW.out HV1.out
   go_ret
   exact⟨a1,c1,T',_,(by rw[HDL.out];rfl),q1,q2,q3,q4⟩
 ·obtain⟨m,rfl⟩:∃ m:Nat,n=(m:Int):=⟨n.toNat,by omega⟩
  by_cases hm:f.stack.length<m
  ·have hkw:IntKind.i64.wrap ((f.stack.length:Int)-(f.stack.length:Int))=(k:Int):=by rw[hk];unfold xbu;rw[xaE (by omega) (by omega)];omega
   have hm2:(f.stack.length:Int)<(m:Int):=by omega
   have hkw2:(0:Int)=(k:Int):=by rw[hk];unfold xbu;omega
   by_cases hck:cap=k
   ·have hkL:f.stack.length=k:=by omega
    have HV:Hid (xaB (fun _=>False) w.drew (.slice a (f.stack.drop k).length 0) (f.stack.drop k)):=by
     have e0:f.stack.drop k=[]:=List.drop_eq_nil_of_le (by omega)
     rw[e0]
     exact⟨a,0,rfl,by simp,by simp,by simp,fun i x hx=>by simp at hx⟩
    have HDL:Hid ((f.stack.drop k).length=f.stack.length-k):=by show _=_;simp
    rw[HDL.out] at HV;have hck0:cap-k=0:=by omega
    clear hck hkL;clear hk;go_enter Tryz.func114,Tryz.ntmps114;go_wp2
    go_region
    go_wp2_with fail;refine (xcR (f.stack.drop k) _ _ HV.out).mono ?_;rintro e w1 ⟨a1,c1,rfl,hv1,hb1⟩;have hbw:Below w.heap.size w w1:=((qzL w.heap.size w).drew).trans hb1;have hbx:=xac HX.out hbw;have d0:w1.cell? ⟨fb,10,none⟩=some _:=(by rw[qzB hbx];rfl)
    have df:=xam hbx;have HV1:Hid (xaB (fun b=>w.heap.size<=b/\b<w1.heap.size) w1 _ (f.stack.drop k)):=hv1
    have HBW:=hid hbw;clear hv1 hb1 hbw hbx;go_wp2;obtain⟨T',q1,q2,q3,q4⟩:=xbY H0.out HL.out HBW.out HV1.out
    go_ret
    exact⟨a1,c1,T',_,(by rw[HDL.out];rfl),q1,q2,q3,q4⟩
   ·obtain⟨g,o,rfl⟩:∃ g o,a=some ⟨g,o,none⟩:=by
     obtain⟨-,⟨e,-⟩ | ⟨g,o,c,cur,e,-⟩⟩:=HS.out
     ·simp only[Value.slice.injEq] at e;omega
     ·cases e;exact⟨g,o,rfl⟩
    have HV:Hid (xaB (fun b=>b=g) w.drew (.slice (some ⟨g,o+k*2,none⟩) (f.stack.drop k).length (cap-k)) (f.stack.drop k)):=(ownsAt.tail HS.out HL.out hfew).later xaK (qzL _ _).drew
    have HDL:Hid ((f.stack.drop k).length=f.stack.length-k):=by show _=_;simp
    rw[HDL.out] at HV;have hck0:¬ (cap-k=0):=by omega
    clear hck;clear hk;go_enter Tryz.func114,Tryz.ntmps114;go_wp2
    go_region
    go_wp2_with fail;refine (xcR (f.stack.drop k) _ _ HV.out).mono ?_;rintro e w1 ⟨a1,c1,rfl,hv1,hb1⟩;have hbw:Below w.heap.size w w1:=((qzL w.heap.size w).drew).trans hb1;have hbx:=xac HX.out hbw;have d0:w1.cell? ⟨fb,10,none⟩=some _:=(by rw[qzB hbx];rfl)
    have df:=xam hbx;have HV1:Hid (xaB (fun b=>w.heap.size<=b/\b<w1.heap.size) w1 _ (f.stack.drop k)):=hv1
    have HBW:=hid hbw;clear hv1 hb1 hbw hbx;go_wp2;obtain⟨T',q1,q2,q3,q4⟩:=xbY H0.out HL.out HBW.out HV1.out
    go_ret
    exact⟨a1,c1,T',_,(by rw[HDL.out];rfl),q1,q2,q3,q4⟩
  ·have hkw:IntKind.i64.wrap ((f.stack.length:Int)-(m:Int))=(k:Int):=by rw[hk];unfold xbu;rw[xaE (by omega) (by omega)];omega
   have hm2:¬ ((f.stack.length:Int)<(m:Int)):=by omega
   by_cases hck:cap=k
   ·have hkL:f.stack.length=k:=by omega
    have HV:Hid (xaB (fun _=>False) w.drew (.slice a (f.stack.drop k).length 0) (f.stack.drop k)):=by
     have e0:f.stack.drop k=[]:=List.drop_eq_nil_of_le (by omega)
     rw[e0]
     exact⟨a,0,rfl,by simp,by simp,by simp,fun i x hx=>by simp at hx⟩
    have HDL:Hid ((f.stack.drop k).length=f.stack.length-k):=by show _=_;simp
    rw[HDL.out] at HV;have hck0:cap-k=0:=by omega
    clear hck hkL;clear hk;go_enter Tryz.func114,Tryz.ntmps114;go_wp2
    go_region
    go_wp2_with fail;refine (xcR (f.stack.drop k) _ _ HV.out).mono ?_;rintro e w1 ⟨a1,c1,rfl,hv1,hb1⟩;have hbw:Below w.heap.size w w1:=((qzL w.heap.size w).drew).trans hb1;have hbx:=xac HX.out hbw;have d0:w1.cell? ⟨fb,10,none⟩=some _:=(by rw[qzB hbx];rfl)
    have df:=xam hbx;have HV1:Hid (xaB (fun b=>w.heap.size<=b/\b<w1.heap.size) w1 _ (f.stack.drop k)):=hv1
    have HBW:=hid hbw;clear hv1 hb1 hbw hbx;go_wp2;obtain⟨T',q1,q2,q3,q4⟩:=xbY H0.out HL.out HBW.out HV1.out
    go_ret
    exact⟨a1,c1,T',_,(by rw[HDL.out];rfl),q1,q2,q3,q4⟩
   ·obtain⟨g,o,rfl⟩:∃ g o,a=some ⟨g,o,none⟩:=by
     obtain⟨-,⟨e,-⟩ | ⟨g,o,c,cur,e,-⟩⟩:=HS.out
     ·simp only[Value.slice.injEq] at e;omega
     ·cases e;exact⟨g,o,rfl⟩
    have HV:Hid (xaB (fun b=>b=g) w.drew (.slice (some ⟨g,o+k*2,none⟩) (f.stack.drop k).length (cap-k)) (f.stack.drop k)):=(ownsAt.tail HS.out HL.out hfew).later xaK (qzL _ _).drew
    have HDL:Hid ((f.stack.drop k).length=f.stack.length-k):=by show _=_;simp
    rw[HDL.out] at HV;have hck0:¬ (cap-k=0):=by omega
    clear hck;clear hk;go_enter Tryz.func114,Tryz.ntmps114;go_wp2
    go_region
    go_wp2_with fail;refine (xcR (f.stack.drop k) _ _ HV.out).mono ?_;rintro e w1 ⟨a1,c1,rfl,hv1,hb1⟩;have hbw:Below w.heap.size w w1:=((qzL w.heap.size w).drew).trans hb1;have hbx:=xac HX.out hbw;have d0:w1.cell? ⟨fb,10,none⟩=some _:=(by rw[qzB hbx];rfl)
    have df:=xam hbx;have HV1:Hid (xaB (fun b=>w.heap.size<=b/\b<w1.heap.size) w1 _ (f.stack.drop k)):=hv1
    have HBW:=hid hbw;clear hv1 hb1 hbw hbx;go_wp2;obtain⟨T',q1,q2,q3,q4⟩:=xbY H0.out HL.out HBW.out HV1.out
    go_ret
    exact⟨a1,c1,T',_,(by rw[HDL.out];rfl),q1,q2,q3,q4⟩
section
variable {ops:Array Oper} {o:Oper} {a:Act} {w:World} {K:Act->World->Prop} {Q:Exit->Act->World->Prop} {F:Prop}
theorem xpo (hw:Region.wanted o (yielded ops a.tmps)=true)(s x:Operand)(hop:o.op=Op.call { callee:=Callee.builtin Builtin.append,args:=#[s,x],argTypes:=#[68,68] })
  (B0 B:Nat) (hs:a.eval s=.slice (some ⟨B,0,none⟩) 0 0) (hB:w.heap[B]?=some (.cells #[] 72 (0,0))) (hB0:B0<=B) (ad:Option Addr) (cap:Nat) (ls:List QL) (hx:a.eval x=.slice ad ls.length cap) {P:Nat->Prop} (hl:xbI P w (.slice ad ls.length cap) ls) (hn:ls.length<1000)
  (hK:∀ g cap' w',Out xda 2 72 B0 w' (.slice (some ⟨g,0,none⟩) ls.length cap') ls->Below w.heap.size w w'->K (a.put o.dst (.slice (some ⟨g,0,none⟩) ls.length cap')) w') :
  if Region.wanted o (yielded ops a.tmps)=true then Oper.wp Tryz.prog o a w K Q else F:=by
 rw[if_pos hw];obtain⟨i0,hi,hz0,hz1,hz2⟩:=xa3 xi4;have hBl:=xaf hB;obtain⟨ad',cap0,e0,-,-,-,hr⟩:=hl;simp only[Value.slice.injEq] at e0;obtain⟨rfl,-,rfl⟩:=e0;obtain⟨cs,hcs,hsrc⟩:=hr.cells xbq
 by_cases h0:ls.length=0
 ·obtain rfl:ls=[]:=List.eq_nil_of_length_eq_zero h0;have hrun:=xbT (P:=Tryz.prog) w 68 o.type 72 i0 Tryz.underlying68 hi B ad cap;simp only[List.length_nil] at hx hK;unfold Oper.wp
  simp[execOp,hop,resolve,invoke,builtin,hs,hx,hrun,Result.andThen]
  refine hK B 0 w ⟨[],⟨by simp,.inr ⟨B,0,#[],rfl,hB0,hB,qzC _,by unfold maxLen;omega,rfl,rfl⟩⟩,.nil⟩ (qzL _ _)
 ·obtain⟨b,rfl⟩:∃ b,ad=some b:=by
   have h1:=hcs.1;obtain⟨b,e,-⟩:=hsrc 0 (cs[0]'(by omega)) (by simp)
   exact⟨b,e⟩
  obtain⟨v',w',hrun,r1,r2⟩:=run_append_arg_grows (P:=Tryz.prog) w 68 o.type 72 i0 _ 2 16 Tryz.underlying68 hi hz0 hz1 hz2 rfl (by decide) ⟨B,0,none⟩ 0 0 [] rfl (fun j u hu=>by simp at hu) b ls.length cap cs hcs.1 (fun j u hu=>by obtain⟨b',e,h⟩:=hsrc j u hu;cases e;exact h) (by omega) (by unfold maxLen;omega) (by omega)
  simp only[Nat.zero_add,List.nil_append] at r1;obtain⟨g,cap',rfl,hg,hgl⟩:=r1.form (by omega)
  unfold Oper.wp
  simp[execOp,hop,resolve,invoke,builtin,hs,hx,hrun,Result.andThen]
  refine hK g cap' w' ⟨cs,?_,hcs.1,hcs.2⟩ ((qzL _ _).grown r2 (qzC _) (fun k hk=>by cases hk))
  obtain⟨q1,q2⟩:=r1;refine⟨q1,?_⟩
  rcases q2 with q2 | ⟨g',c',cur,e,h1,h2⟩
  ·exact .inl q2
  ·exact .inr ⟨g',c',cur,e,by omega,h2⟩
theorem xpp (hw:Region.wanted o (yielded ops a.tmps)=true)(s x:Operand)(hop:o.op=Op.call { callee:=Callee.builtin Builtin.append,args:=#[s,x],argTypes:=#[68,68] })
  (B0:Nat) (v:Value) (ls:List QL) (hs:a.eval s=v) (hout:Out xda 2 72 B0 w v ls) (hB0:B0<=w.heap.size) (B:Nat) (y:QL) (hx:a.eval x=.slice (some ⟨B,0,none⟩) 1 1) (hB:w.heap[B]?=some (.cells #[.int .i64 y.cls,.int .i64 y.found] 72 (0,0))) (hn:ls.length<1000)
  (hK:∀ g cap' w',Out xda 2 72 B0 w' (.slice (some ⟨g,0,none⟩) (ls.length+1) cap') (ls++[y])->Below B0 w w'->K (a.put o.dst (.slice (some ⟨g,0,none⟩) (ls.length+1) cap')) w') :
  if Region.wanted o (yielded ops a.tmps)=true then Oper.wp Tryz.prog o a w K Q else F:=by
 rw[if_pos hw];obtain⟨i0,hi,hz0,hz1,hz2⟩:=xa3 xi4;obtain⟨cs,hown,hcs⟩:=id hout;have hob:=hout.block;refine wp_append_lies w s x 68 hop B0 72 i0 _ 2 16 Tryz.underlying68 hi hz0 hz1 hz2 rfl (by decide) v ls.length cs hs hown ⟨B,0,none⟩ 1 1 [.int .i64 y.cls,.int .i64 y.found] hx rfl (fun j u hj=>World.news_of_block hB j u (by simpa using hj)) (by intro u hu;simp at hu;rcases hu with rfl | rfl<;>rfl) (by omega) (by unfold maxLen;omega) (by omega) hB0 w.heap.size rfl ?_
 intro g cap w' hown' hgr hor hlt;refine hK g cap w' ⟨cs++[.int .i64 y.cls,.int .i64 y.found],by simpa using hown',?_⟩ ((qzL _ _).grown hgr hB0 (fun k hk=>(hob k hk).1))
 refine Cells.append ⟨hcs.1,hcs.2⟩ xbq (Cells.one xbq rfl ⟨rfl,rfl⟩)
end
abbrev xrm (Z:Nat->Prop)(B:Nat):Nat->Prop:=fun b=>Z b/\(b<B\/B+6<=b)
structure PutR (Z:Nat->Prop)(B:Nat)(s:QS)(ep c fd:Int)(ov:Value)(pre:List QE)(d:Bool)(w:World):Prop where
 site:SiteAt w B s
 e:w.cell? ⟨B+1,0,none⟩=some (.int .i64 ep)
 c:w.cell? ⟨B+2,0,none⟩=some (.int .i64 c)
 f:w.cell? ⟨B+3,0,none⟩=some (.int .i64 fd)
 o:w.cell? ⟨B+4,0,none⟩=some ov
 d:w.cell? ⟨B+5,0,none⟩=some (.bool d)
 fo:w.frozen? ⟨B+4,0,none⟩=false
 fd:w.frozen? ⟨B+5,0,none⟩=false
 out:OutN (xrm Z B) xhq 6 70 (B+6) w ov pre
 sz:B+6<=w.heap.size
theorem PutR.later {Z:Nat->Prop}{B:Nat}{s:QS}{ep c fd:Int}{ov:Value}{pre:List QE}{d:Bool}{w w':World}(h:PutR Z B s ep c fd ov pre d w)(hb:Below w.heap.size w w'):PutR Z B s ep c fd ov pre d w':=
 ⟨h.site.later hb,qzA hb h.e,qzA hb h.c,qzA hb h.f,qzA hb h.o,qzA hb h.d,(hb.frozen (p:=⟨B+4,0,none⟩) (by have:=h.sz;simp;omega)).trans h.fo,(hb.frozen (p:=⟨B+5,0,none⟩) (by have:=h.sz;simp;omega)).trans h.fd,h.out.later xbw hb,qzD h.sz hb.size⟩
theorem PutR.next {Z:Nat->Prop}{B:Nat}{s:QS}{ep c fd:Int}{ov ov':Value}{pre pre':List QE}{d:Bool}{w w':World}(h:PutR Z B s ep c fd ov pre d w)(hb:Below (B+6) w w')(ho:OutN (xrm Z B) xhq 6 70 (B+6) w' ov' pre'):PutR Z B s ep c fd ov' pre' d (w'.setCell ⟨B+4,0,none⟩ ov'):=by
 have hz:=h.sz
 have hk:∀ b o v,b<B+6->b≠B+4->w.cell? ⟨b,o,none⟩=some v->(w'.setCell ⟨B+4,0,none⟩ ov').cell? ⟨b,o,none⟩=some v:=fun b o v h1 h2 h3=>by
  rw[qzM _ _ _ _ (by intro e;injection e with e1 _ _;omega),hb.cell (p:=⟨b,o,none⟩) h1]
  exact h3
 refine⟨⟨hk _ _ _ (by omega) (by omega) h.site.c0,hk _ _ _ (by omega) (by omega) h.site.c1,hk _ _ _ (by omega) (by omega) h.site.c2⟩,hk _ _ _ (by omega) (by omega) h.e,hk _ _ _ (by omega) (by omega) h.c,hk _ _ _ (by omega) (by omega) h.f,?_,hk _ _ _ (by omega) (by omega) h.d,?_,?_,ho.set xbw (by intro h;have:=h.2;omega) (by omega) _,by simpa using qzD hz hb.size⟩
 ·exact xcn (v:=ov) ((hb.cell (p:=⟨B+4,0,none⟩) (by simp)).trans h.o) _
 ·simpa using (hb.frozen (p:=⟨B+4,0,none⟩) (by simp)).trans h.fo
 ·simpa using (hb.frozen (p:=⟨B+5,0,none⟩) (by simp)).trans h.fd
theorem PutR.done {Z:Nat->Prop}{B:Nat}{s:QS}{ep c fd:Int}{ov:Value}{pre:List QE}{d:Bool}{w:World}(h:PutR Z B s ep c fd ov pre d w)(d':Bool):PutR Z B s ep c fd ov pre d' (w.setCell ⟨B+5,0,none⟩ (.bool d')):=by
 have hk:∀ b o v,b≠B+5->w.cell? ⟨b,o,none⟩=some v->(w.setCell ⟨B+5,0,none⟩ (.bool d')).cell? ⟨b,o,none⟩=some v:=fun b o v h2 h3=>by
  rw[qzM _ _ _ _ (by intro e;injection e with e1 _ _;omega)]
  exact h3
 exact⟨⟨hk _ _ _ (by omega) h.site.c0,hk _ _ _ (by omega) h.site.c1,hk _ _ _ (by omega) h.site.c2⟩,hk _ _ _ (by omega) h.e,hk _ _ _ (by omega) h.c,hk _ _ _ (by omega) h.f,hk _ _ _ (by omega) h.o,xcn h.d _,by simpa using h.fo,by simpa using h.fd,h.out.set xbw (by intro h;have:=h.2;omega) (by omega) _,by simpa using h.sz⟩
section
variable {P:Program} {md:Region.Mode} {ops:Array Oper} {Q:Exit->Act->World->Prop} {S:World->Prop}
def xdg (P:Program)(md:Region.Mode)(ops:Array Oper)(Q:Exit->Act->World->Prop)(S:World->Prop)(L:Nat):Nat->Array Bool->Act->World->Prop
 | 0,listed,a,w=>Region.ready md ops listed=[]/\Q .normal a w
 | fuel+1,listed,a,w=>
  (Region.ready md ops listed=[]->Q .normal a w)/\
  ∀ i∈Region.ready md ops listed,wpOp P ops Q i (fun a' w'=>(i≠L->S w')/\xdg P md ops Q S L fuel (listed.setIfInBounds i true) a' w') a w
theorem xdT {L:Nat}:∀ (fuel:Nat) (listed:Array Bool) (a:Act) (w:World),xdg P md ops Q S L fuel listed a w->wpAny P md ops Q fuel listed a w
 | 0,_,_,_,h=>h
 | fuel+1,_,_,_,h=>⟨h.1,fun i hi=>wpOp_mono (fun a' w' h'=>xdT fuel _ a' w' h'.2) (h.2 i hi)⟩
def xmo (md:Region.Mode)(ops:Array Oper)(L:Nat):Bool:=
 match ops[L]? with
 | none=>false
 | some o=>(List.range ops.size).all fun k=>k == L || o.after.any fun e=>Region.binds md e && e.on == k
theorem xhU {L i:Nat}{listed:Array Bool}(h:xmo md ops L=true)(hi:i∈Region.ready md ops listed)(hL:L∈Region.ready md ops listed):i=L:=by
 by_cases hne:i=L
 ·exact hne
 ·obtain⟨hjun,oj,hoj,hall⟩:=mem_ready.1 hL;obtain⟨hiun,oi,hoi,-⟩:=mem_ready.1 hi;unfold xmo at h;rw[hoj] at h;simp only[List.all_eq_true,List.mem_range] at h;have hlt:i<ops.size:=(Array.getElem?_eq_some_iff.1 hoi).1;have:=h i hlt;simp only[Bool.or_eq_true,beq_iff_eq,hne,false_or,Array.any_eq_true,Bool.and_eq_true] at this;obtain⟨x,hx,hb,ho⟩:=this;have h1:=hall _ (Array.getElem_mem hx) hb;rw[ho] at h1
  rcases Nat.lt_or_ge i listed.size with h' | h'
  ·simp[h'] at hiun h1
   rw[hiun] at h1
   cases h1
  ·simp[Array.getElem?_eq_none h'] at h1
theorem xhj {L i:Nat}{oi:Oper}{v:Value}(hlast:xmo md ops L=true)(hiL:i≠L)(hi:ops[i]?=some oi)(hsel:∀ (j:Nat) (o:Oper) cs b,ops[j]?=some o->o.op≠.select cs b)
  (hQ:∀ c a w,Q (.panic c) (a.put oi.dst v) w->Q (.panic c) a w) :
  ∀ (fuel:Nat) (listed:Array Bool) (a:Act) (w:World),
   (∀ j oj,ops[j]?=some oj->j≠i->listed.getD j true=false->(∀ e∈oj.after,Region.binds md e=true->e.on≠i)->oi.apart ops oj=true)->
   i∈Region.ready md ops listed->YieldsIf P ops S oi v a->S w->
   xdg P md ops Q S L fuel (listed.setIfInBounds i true) (a.put oi.dst v) w->xdg P md ops Q S L (fuel+1) listed a w:=by
 intro fuel
 induction fuel with
 | zero=>
  intro listed a w _ hr hy hS H;refine⟨fun h=>(by rw[h] at hr;cases hr),fun j hj=>?_⟩
  by_cases hji:j=i
  ·subst hji;exact hy.wpOp hi hS ⟨fun _=>hS,H⟩
  ·have:=ready_mono hj hji;rw[H.1] at this
   cases this
 | succ fuel ih=>
  intro listed a w hfree hr hy hS H;refine⟨fun h=>(by rw[h] at hr;cases hr),fun j hj=>?_⟩
  by_cases hji:j=i
  ·subst hji;exact hy.wpOp hi hS ⟨fun _=>hS,H⟩
  ·have hjL:j≠L:=fun e=>by subst e;exact hji (xhU hlast hr hj).symm
   have h1:=H.2 j (ready_mono hj hji);obtain⟨hjun,oj,hoj,hall⟩:=mem_ready.1 hj
   have hnot:∀ e∈oj.after,Region.binds md e=true->e.on≠i:=fun e he hb heq=>by
    have h1:=hall e he hb;have h0:=(mem_ready.1 hr).1;rw[heq] at h1
    rcases Nat.lt_or_ge i listed.size with h' | h'
    ·simp[h'] at h0 h1;rw[h0] at h1;cases h1
    ·simp[Array.getElem?_eq_none h'] at h1
   have h2:=wpOp_putIf hoj (hfree j oj hoj hji hjun hnot) (fun cs b=>hsel i oi cs b hi) (fun cs b=>hsel j oj cs b hoj) hQ hy h1
   have hfree':∀ k ok,ops[k]?=some ok->k≠i->(listed.setIfInBounds j true).getD k true=false->
     (∀ e∈ok.after,Region.binds md e=true->e.on≠i)->oi.apart ops ok=true:=fun k ok hk hki hun hno=>by
    refine hfree k ok hk hki ?_ hno
    by_cases hjk:j=k
    ·subst hjk;exact hjun
    ·rw[getD_set_ne true hjk] at hun;exact hun
   refine wpOp_mono (fun a' w' h3=>⟨fun _=>h3.2.1 hjL,ih (listed.setIfInBounds j true) a' w' hfree' (ready_mono hr (Ne.symm hji)) h3.1 (h3.2.1 hjL) ?_⟩) h2
   rw[Array.setIfInBounds_comm _ _ hji]
   exact h3.2.2
theorem xbs {L i:Nat}{oi:Oper}{v:Value}{fuel:Nat}{listed:Array Bool}{a:Act}{w:World}(hlast:xmo md ops L=true)(hiL:(i == L)=false)(hi:ops[i]?=some oi)
  (hs:Region.noSelect ops=true) (hf:Region.free md ops listed i=true) (hr:(Region.ready md ops listed).contains i=true)
  (hQ:∀ c a w,Q (.panic c) (a.put oi.dst v) w->Q (.panic c) a w) (hy:YieldsIf P ops S oi v a) (hS:S w)
  (h:xdg P md ops Q S L fuel (listed.setIfInBounds i true) (a.put oi.dst v) w):xdg P md ops Q S L (fuel+1) listed a w:=
 xhj hlast (by simpa using hiL) hi (Region.noSelect_spec hs) hQ fuel listed a w (Region.free_spec hi hf) (by simpa using hr) hy hS h
theorem xhV {L:Nat}{listed:Array Bool}{a:Act}{w:World}(hr:Region.ready md ops listed=[])(h:Q .normal a w):∀ fuel,xdg P md ops Q S L fuel listed a w
 | 0=>⟨hr,h⟩
 | _+1=>⟨fun _=>h,by rw[hr];simp⟩
theorem xcC {L:Nat}{rs:List Nat}{fuel:Nat}{listed:Array Bool}{a:Act}{w:World}(hr:Region.ready md ops listed=rs)(hne:rs≠[])
  (h:∀ i∈rs,wpOp P ops Q i (fun a' w'=>(i≠L->S w')/\xdg P md ops Q S L fuel (listed.setIfInBounds i true) a' w') a w):xdg P md ops Q S L (fuel+1) listed a w:=
 ⟨fun h0=>absurd (hr ▸ h0) hne,hr ▸ h⟩
theorem xmj {L i:Nat}{fuel:Nat}{listed:Array Bool}{a:Act}{w:World}{o:Oper}(ho:ops[i]?=some o)
  (h:∀ K':Act->World->Prop,(∀ a w,(i≠L->S w)->xdg P md ops Q S L fuel (listed.setIfInBounds i true) a w->K' a w)->if Region.wanted o (yielded ops a.tmps)=true then Oper.wp P o a w K' Q else K' (a.put o.dst undef) w) :
  wpOp P ops Q i (fun a' w'=>(i≠L->S w')/\xdg P md ops Q S L fuel (listed.setIfInBounds i true) a' w') a w:=
 wpOp_step ho (fun K' hK=>h K' (fun a w hS hW=>hK a w ⟨hS,hW⟩))
theorem xfz {id:Nat}{a:Act}{w:World}(L:Nat)(hm:P.follows .mixedOrders=true)
  (h:xdg P .any ops Q S L ops.size (Array.replicate ops.size false) a w.drew):(Code.region id ops true).wp P Q a w:=
 wp_region_any hm (xdT _ _ _ _ h)
end
end Go.Proofs.YtapbeiccodnniaaGreat
