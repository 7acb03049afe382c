/- A part. -/
import Derived.Test.YtdfbgpiikeheiaaQ16
import Derived.Test.YtdfbgpiikeheiaaQ21
namespace Go.Proofs.Ytdfbgpiikeheiaa
open Go.ChangeShapes Go.WideShapes Go.ChangeAt Go.RowKit
set_option linter.unusedSimpArgs false
set_option linter.unusedVariables false
set_option maxHeartbeats 8000000
set_option maxRecDepth 8000
theorem xsf {X:QW}(h:xaH X=0){j:Nat}{x:QC}(hx:X.cz[j]?=some x):x.mz.length<=8:=by
 have:=xjK h j;unfold xjc at this;rw[hx] at this
 exact this
theorem xsi {X:QW}(h:xaH X=0){j i:Nat}{x:QC}{m:QM}(hx:X.cz[j]?=some x)(hm:x.mz[i]?=some m):m.code.length<=60:=by
 refine xna h (c:=(j:Int)) (n:=(i:Int)) (m:=m) ?_;unfold xaI;rw[xeN,hx]
 simp[hm]
theorem bq2 {w:World}{z:Nat}{a b c d e:Value}{t:TypeId}(h:w.heap[z]?=some (.cells #[a,b,c,d,e] t (0,0))):w.cell? ⟨z,0,none⟩=some a/\w.cell? ⟨z,4,none⟩=some e:=
 ⟨by rw[qzB h];rfl,by rw[qzB h];rfl⟩
theorem xr3 {xs:List QC}{name:ByteArray}:∀ {l:List Int},xcJ xs name l=(-1,-1)\/∃ k∈l,0<=xcw (xbG xs k) name/\xcJ xs name l=(k,xcw (xbG xs k) name)
 | []=>Or.inl rfl
 | k :: r=>by
  unfold xcJ
  split
  ·rename_i hk
   exact Or.inr ⟨k,by simp,hk,rfl⟩
  ·rcases xr3 (xs:=xs) (name:=name) (l:=r) with h | ⟨q,hq,h1,h2⟩
   ·exact Or.inl h
   ·exact Or.inr ⟨q,by simp[hq],h1,h2⟩
theorem xso (cs:List QC)(c:Int)(nm:ByteArray)(h:¬ (xaB cs c nm).2<0):∃ (q jn:Nat) (x:QC) (m:QM),xaB cs c nm=((q:Int),(jn:Int))/\cs[q]?=some x/\x.mz[jn]?=some m:=by
 rw[xhw c] at h ⊢
 rcases xr3 (xs:=cs) (name:=nm) (l:=xdB cs (cs.length+1) c) with he | ⟨k,hk,h1,he⟩
 ·rw[he] at h;simp at h
 ·obtain⟨i,hi,hik⟩:=List.mem_iff_getElem.1 hk;obtain⟨q,x,e,hx⟩:=xfH _ _ i _ (by rw[List.getElem?_eq_getElem hi])
  rw[hik] at e;subst e;have hm:xbG cs (q:Int)=x.mz:=by unfold xbG;rw[xeN,hx];rfl
  rw[hm] at h1 he;have hl:=xsu h1
  exact⟨q,(xcw x.mz nm).toNat,x,_,by rw[he];simp;omega,hx,List.getElem?_eq_getElem hl⟩
theorem xsO {w w':World}{b0 o0:Nat}{v0:Value}{b1 o1:Nat}{v1:Value}{b2 o2:Nat}{v2:Value}{b3 o3:Nat}{v3:Value}{b4 o4:Nat}{v4:Value}{b5 o5:Nat}{v5:Value}(h:w.cell? ⟨b0,o0,none⟩=some v0/\w.cell? ⟨b1,o1,none⟩=some v1/\w.cell? ⟨b2,o2,none⟩=some v2/\w.cell? ⟨b3,o3,none⟩=some v3/\w.cell? ⟨b4,o4,none⟩=some v4/\w.cell? ⟨b5,o5,none⟩=some v5)(hb:Below w.heap.size w w'):w'.cell? ⟨b0,o0,none⟩=some v0/\w'.cell? ⟨b1,o1,none⟩=some v1/\w'.cell? ⟨b2,o2,none⟩=some v2/\w'.cell? ⟨b3,o3,none⟩=some v3/\w'.cell? ⟨b4,o4,none⟩=some v4/\w'.cell? ⟨b5,o5,none⟩=some v5:=
 ⟨qzA hb h.1,qzA hb h.2.1,qzA hb h.2.2.1,qzA hb h.2.2.2.1,qzA hb h.2.2.2.2.1,qzA hb h.2.2.2.2.2⟩
theorem xsw {P Q R S:Nat->Prop}(X:QW)(s:QV)(name:ByteArray)(args:List QV)(fuel:Int)(sts:List QS)(cls:List Int)(cv hv av tv kv:Value)(w:World)(hC:xai P w cv X.cz)(hH:xaD P w hv X.heap)(hA:xaO Q w av args)(hn:name.size<=140737488351232)(hT:xsg R w tv sts)(hK:IsRow xpr 1 0 S w kv cls) :
  Calls Try.prog 4 #[WV cv hv X.ez,ClV s name av,.int .i64 fuel,tv,kv] w fun e w'=>e=.returned (.bool true)/\Below w.heap.size w w':=by
 obtain⟨ac,cc,rfl,hlc,hcc,-,hrowC⟩:=id hC;obtain⟨ah,ch,rfl,-⟩:=id hH;obtain⟨aa,ca,rfl,-⟩:=id hA;obtain⟨at',kt,rfl,hlt',hkt,-,hrowT⟩:=id hT;obtain⟨ak,kk,rfl,hlk,hkk,-,hrowK⟩:=id hK;unfold maxLen at hcc hkt hkk;have hb0:=xbP w (.cells #[.slice ac X.cz.length cc,.slice ah X.heap.length ch,.int .i64 X.ez] 25) (.cells #[.int .i64 s.k,.int .i64 s.n,.string name,.slice aa args.length ca] 30);have hw0:((w.alloc (.cells #[.slice ac X.cz.length cc,.slice ah X.heap.length ch,.int .i64 X.ez] 25)).alloc (.cells #[.int .i64 s.k,.int .i64 s.n,.string name,.slice aa args.length ca] 30)).heap[w.heap.size]?=some (.cells #[.slice ac X.cz.length cc,.slice ah X.heap.length ch,.int .i64 X.ez] 25 (0,0)):=xad (qzJ w _) (xak _ _)
 have hc0:((w.alloc (.cells #[.slice ac X.cz.length cc,.slice ah X.heap.length ch,.int .i64 X.ez] 25)).alloc (.cells #[.int .i64 s.k,.int .i64 s.n,.string name,.slice aa args.length ca] 30)).heap[w.heap.size+1]?=some (.cells #[.int .i64 s.k,.int .i64 s.n,.string name,.slice aa args.length ca] 30 (0,0)):=by
  have:=qzJ (w.alloc (.cells #[.slice ac X.cz.length cc,.slice ah X.heap.length ch,.int .i64 X.ez] 25)) (.cells #[.int .i64 s.k,.int .i64 s.n,.string name,.slice aa args.length ca] 30)
  simpa using this
 go_enter Try.func4,Try.ntmps4;go_wp2_with fail;generalize ((w.alloc (.cells #[.slice ac X.cz.length cc,.slice ah X.heap.length ch,.int .i64 X.ez] 25)).alloc (.cells #[.int .i64 s.k,.int .i64 s.n,.string name,.slice aa args.length ca] 30))=W0 at *;refine (xr9 _).mono ?_;rintro e w1 ⟨rfl,hb1⟩;replace hb0:=xaf hb0 hb1;replace hw0:=xad hw0 hb1;replace hc0:=xad hc0 hb1;clear hb1;have a0:w1.cell? ⟨w.heap.size,0,none⟩=some (.slice ac X.cz.length cc):=by rw[qzB hw0];rfl
 have a1:w1.cell? ⟨w.heap.size,1,none⟩=some (.slice ah X.heap.length ch):=by rw[qzB hw0];rfl
 have a2:w1.cell? ⟨w.heap.size,2,none⟩=some (.int .i64 X.ez):=by rw[qzB hw0];rfl
 go_wp2_with fail;refine (xlK X _ _ _ (hC.later xaA hb0) (hH.later xaE hb0)).mono ?_;rintro e w2 ⟨rfl,hb2⟩;replace hb0:=xaf hb0 hb2;replace hw0:=xad hw0 hb2;replace hc0:=xad hc0 hb2;clear hb2 a0 a1 a2
 by_cases hX:xaH X=0
 ·rw[hX];have hR0:=xsr hb0 hw0 hc0;have HX:=hid hX;clear hX
  go_upto_region 6 with (fail)
  generalize (w2.alloc (.cells #[.slice none 0 0] 49))=W3 at *;generalize w2.heap.size=lb at *;clear hb0 hw0 hc0;obtain⟨⟨a0,a1,a2⟩,-,l0⟩:=hR0.al;have h12:=xnm HX.out;go_wp2;clear a0 a1 a2 l0
  go_loopg [38] X.cz.length (fun g iv wr=>∃ (j:Nat) (fs:List Fst) (lv:Value),j+g=X.cz.length/\iv=.int .i64 (j:Int)/\IsR X (.slice ac X.cz.length cc) (.slice ah X.heap.length ch) s name (.slice aa args.length ca) w lb fs lv wr/\fs.length<=8*j)
  case atStart=>exact⟨0,[],_,by omega,rfl,hR0,by simp⟩
  case round=>
   clear hR0;obtain⟨j,fs,lv,hj,rfl,hR,hfl⟩:=hrel
   by_cases hlt:j<X.cz.length
   ·obtain⟨x,hx⟩:∃ x,X.cz[j]?=some x:=⟨_,List.getElem?_eq_getElem hlt⟩;obtain⟨b2,o2,e3,-,u0,u1,u2,-,mv,u3,hms⟩:=hrowC j x hx;obtain rfl:=e3;obtain⟨am,cm,rfl,hlm,hcm,-,hrowM⟩:=id hms;have hm8:=xsf HX.out hx;have HXJ:=hid hx;simp only[Nat.add_zero] at u0;unfold maxLen at hcm;replace u0:=qzA hR.bel u0;replace u1:=qzA hR.bel u1;replace u2:=qzA hR.bel u2;replace u3:=qzA hR.bel u3;have hj1:(j:Int)<(X.cz.length:Int):=by omega
    have hj0:(0:Int)<=(j:Int):=by omega
    have hbx:=xak wr (.cells #[.string x.name,.int .i64 x.super,.int .i64 x.slots,.slice am x.mz.length cm] 52);have z3:(wr.alloc (.cells #[.string x.name,.int .i64 x.super,.int .i64 x.slots,.slice am x.mz.length cm] 52)).cell? ⟨wr.heap.size,3,none⟩=some (.slice am x.mz.length cm):=by rw[xaa _ _ _ _ rfl];rfl
    clear hx
    go_upto_region 9 with (fail)
    clear u0 u1 u2 u3;replace hR:=hR.later hbx;generalize (wr.alloc (.cells #[.string x.name,.int .i64 x.super,.int .i64 x.slots,.slice am x.mz.length cm] 52))=V at *;generalize wr.heap.size=xb at *;clear hbx;go_wp2;clear z3
    go_loopg [46] x.mz.length (fun g iv wr=>∃ (i:Nat) (fs:List Fst) (lv:Value),i+g=x.mz.length/\iv=.int .i64 (i:Int)/\IsR X (.slice (some ⟨b2,o2,none⟩) X.cz.length cc) (.slice ah X.heap.length ch) s name (.slice aa args.length ca) w lb fs lv wr/\fs.length<=8*j+i)
    case atStart=>exact⟨0,fs,_,by omega,rfl,hR,by omega⟩
    case round=>
     clear hR hfl;obtain⟨i,fs,lv,hi,rfl,hR,hfl⟩:=hrel
     by_cases hlt2:i<x.mz.length
     ·obtain⟨m,hm⟩:∃ m,x.mz[i]?=some m:=⟨_,List.getElem?_eq_getElem hlt2⟩;obtain⟨b3,o3,rfl,-,v0,v1,v2,v3,-,kv',v4,hk⟩:=hrowM i m hm;obtain⟨av',ck,rfl,hlk',hck,-,hrowI⟩:=id hk;have h60:=xsi HX.out HXJ.out hm;have HM:=hid hm;simp only[Nat.add_zero] at v0;unfold maxLen at hck;replace v0:=qzA hR.bel v0;replace v1:=qzA hR.bel v1;replace v2:=qzA hR.bel v2;replace v3:=qzA hR.bel v3;replace v4:=qzA hR.bel v4;have hi1:(i:Int)<(x.mz.length:Int):=by omega
      have hi0:(0:Int)<=(i:Int):=by omega
      have hbx:=xak wr (.cells #[.string m.name,.int .i64 m.args,.int .i64 m.temps,.int .i64 m.prim,.slice av' m.code.length ck] 55);have hmB:=qzJ wr (.cells #[.string m.name,.int .i64 m.args,.int .i64 m.temps,.int .i64 m.prim,.slice av' m.code.length ck] 55);clear hm
      go_upto_region 12 with (fail)
      clear v0 v1 v2 v3 v4;replace hR:=hR.later hbx;generalize (wr.alloc (.cells #[.string m.name,.int .i64 m.args,.int .i64 m.temps,.int .i64 m.prim,.slice av' m.code.length ck] 55))=V at *;generalize wr.heap.size=mb at *;clear hbx;obtain⟨m0,m4⟩:=bq2 hmB;have hmk:=xfY m.code.length (by omega)
      have hS0:StR V m.code.length (List.replicate m.code.length 0) (V.alloc (xfu (List.replicate m.code.length 0))):=⟨xak _ _,qzJ _ _,by simp⟩
      go_upto_region 13 with (fail)
      generalize (V.alloc (xfu (List.replicate m.code.length 0)))=V1 at *;clear hmk m0 m4;have hn64:(m.code.length:Int)<=60:=by omega
      go_wp2
      go_loopg [57] m.code.length (fun g iv wr=>∃ (q:Nat) (ss:List Int),q+g=m.code.length/\iv=.int .i64 (q:Int)/\StR V m.code.length ss wr)
      case atStart=>exact⟨0,_,by omega,rfl,hS0⟩
      case round=>
       clear hS0;obtain⟨q,ss,hq,rfl,hS⟩:=hrel
       by_cases hlt3:q<m.code.length
       ·have hq1:(q:Int)<(m.code.length:Int):=by omega
        have hq0:(0:Int)<=(q:Int):=by omega
        have hcq:=xer hS.row (k:=q) (by rw[hS.len];exact hlt3)
        have hfq:=xeH hS.row q;have hS2:=hS.set q (-1);clear hS
        go_upto_region 17 with (fail)
        generalize (wr.setCell ⟨V.heap.size,q,none⟩ (.int .i64 (-1)))=Wq at *;clear hcq hfq;generalize ss.set q (-1)=ss2 at *;go_wp2
        go_loopg [65] sts.length (fun g iv wr=>∃ (n:Nat) (ss:List Int),n+g=sts.length/\iv=.int .i64 (n:Int)/\StR V m.code.length ss wr)
        case atStart=>exact⟨0,_,by omega,rfl,hS2⟩
        case round=>
         clear hS2;obtain⟨n,ss,hn',rfl,hS⟩:=hrel
         by_cases hlt4:n<sts.length
         ·obtain⟨y,hy⟩:∃ y,sts[n]?=some y:=⟨_,List.getElem?_eq_getElem hlt4⟩;obtain⟨b5,o5,rfl,-,r0,r1,r2⟩:=hrowT n y hy;simp only[Nat.add_zero] at r0;have hbw:=xaf hR.bel hS.bel;replace r0:=qzA hbw r0;replace r1:=qzA hbw r1;replace r2:=qzA hbw r2;have hn1:(n:Int)<(sts.length:Int):=by omega
          have hn0:(0:Int)<=(n:Int):=by omega
          have hbx:=xak wr (.cells #[.int .i64 y.cls,.string y.name,.int .i64 y.at'] 42);have hsB:=xgt wr y 42;clear hy
          go_upto_region 20 with (fail)
          replace hS:=hS.later hbx;clear r0 r1 r2 hbw hbx;generalize (wr.alloc (.cells #[.int .i64 y.cls,.string y.name,.int .i64 y.at'] 42))=U at *;generalize wr.heap.size=yb at *;obtain⟨s0,s1,s2⟩:=id hsB;obtain⟨⟨a0,-,-⟩,-,-⟩:=(hR.later hS.bel).al;have m0:=(bq2 (xad hmB hS.bel)).1
          by_cases c1:n<cls.length
          ·obtain⟨v,hv⟩:∃ v,cls[n]?=some v:=⟨_,List.getElem?_eq_getElem c1⟩;obtain⟨b6,o6,rfl,-,t0⟩:=hrowK n v hv;unfold xpr at t0;simp only[Nat.mul_one,Nat.add_zero] at t0;replace t0:=qzA (xaf hR.bel hS.bel) t0;have c1':(n:Int)<(cls.length:Int):=by omega
           clear hv
           by_cases hall:(y.cls == (j:Int))=true/\(y.name.toList == m.name.toList)=true/\(y.at' == (q:Int))=true/\v<(X.cz.length:Int)
           ·obtain⟨g1,g2,g3,g4⟩:=hall;have g4':decide (v<(X.cz.length:Int))=true:=by simpa using g4
            go_quiet (fail)
            have hqd:=below_drewN (qzL U.heap.size U) nq;have hS3:=hS.later hqd;have t1:=qzA hqd t0;clear hqd hS hsB s0 s1 s2 a0 m0 t0 g1 g2 g3 g4 g4';generalize U.drewN nq=U2 at *;have hcq:=xer hS3.row (k:=q) (by rw[hS3.len];exact hlt3)
            have hfq:=xeH hS3.row q;go_wp2
            go_roundg (gk-1)
            case measure=>omega
            case rel=>exact⟨n+1,_,by omega,by go_num,hS3.set q v⟩
           ·have hth:(y.cls == (j:Int))=false\/((y.cls == (j:Int))=true/\(y.name.toList == m.name.toList)=false)\/((y.cls == (j:Int))=true/\(y.name.toList == m.name.toList)=true/\(y.at' == (q:Int))=false)\/((y.cls == (j:Int))=true/\(y.name.toList == m.name.toList)=true/\(y.at' == (q:Int))=true/\decide (v<(X.cz.length:Int))=false):=by
             cases h1:(y.cls == (j:Int))
             ·exact .inl rfl
             ·cases h2:(y.name.toList == m.name.toList)
              ·exact .inr (.inl ⟨rfl,rfl⟩)
              ·cases h3:(y.at' == (q:Int))
               ·exact .inr (.inr (.inl ⟨rfl,rfl,rfl⟩))
               ·refine .inr (.inr (.inr ⟨rfl,rfl,rfl,?_⟩));have:¬ v<(X.cz.length:Int):=fun h=>hall ⟨h1,h2,h3,h⟩
                simpa using this
            have HS:=hid hS;clear hall hsB
            rcases hth with g1 | ⟨g1,g2⟩ | ⟨g1,g2,g3⟩ | ⟨g1,g2,g3,g4⟩
            all_goals (
             go_quiet (fail)
             go_wp2
             go_roundg (gk-1)
             case measure=>omega
             case rel=>exact⟨n+1,_,by omega,by go_num,HS.out.later (below_drewN (qzL _ _) _)⟩)
          ·have c1':decide ((n:Int)<(cls.length:Int))=false:=by simpa using c1
           go_quiet (fail)
           go_wp2
           go_roundg (gk-1)
           case measure=>omega
           case rel=>exact⟨n+1,_,by omega,by go_num,hS.later (below_drewN (qzL _ _) _)⟩
         ·go_wp2
          go_roundg (m.code.length-(q+1))
          case measure=>omega
          case rel=>exact⟨q+1,_,by omega,by go_num,hS⟩
       ·obtain rfl:q=m.code.length:=by omega
        go_wp2
        go_loopg [114] m.code.length (fun g iv wr=>∃ (q:Nat) (ss:List Int),q+g=m.code.length/\iv=.int .i64 (q:Int)/\StR V m.code.length ss wr)
        case atStart=>exact⟨0,_,by omega,rfl,hS⟩
        case round=>
         clear hS;obtain⟨q,ss,hq,rfl,hS⟩:=hrel
         by_cases hlt3:q<m.code.length
         ·have hq1:(q:Int)<(m.code.length:Int):=by omega
          have hq0:(0:Int)<=(q:Int):=by omega
          have hcq:=xer hS.row (k:=q) (by rw[hS.len];exact hlt3)
          generalize ss.getD q 0=sv at *
          by_cases hneg:sv<0
          ·have hd:decide (sv<0)=true:=by simpa using hneg
           clear hneg;go_wp2
           go_roundg (gk-1)
           case measure=>omega
           case rel=>exact⟨q+1,_,by omega,by go_num,hS⟩
          ·have hd:decide (sv<0)=false:=by simpa using hneg
           clear hneg
           go_upto_region 28 with (fail)
           obtain⟨ins,hins⟩:∃ ins,m.code[q]?=some ins:=⟨_,List.getElem?_eq_getElem hlt3⟩;obtain⟨b7,o7,rfl,-,-,-,-,-,i4,-⟩:=hrowI q ins hins;replace i4:=qzA (xaf hR.bel hS.bel) i4;obtain⟨⟨a0,a1,a2⟩,-,-⟩:=(hR.later hS.bel).al;have m4:=(bq2 (xad hmB hS.bel)).2;have hbD:Below w.heap.size w wr.drew:=xaf (xaf hR.bel hS.bel) (qzL _ wr).drew;have hCd:=hC.later xaA hbD;have hHd:=hH.later xaE hbD;have hSd:=hid (hS.later (qzL _ wr).drew);have hS0:wr.drew.cell? ⟨w.heap.size,0,none⟩=some (.slice (some ⟨b2,o2,none⟩) X.cz.length cc)/\wr.drew.cell? ⟨w.heap.size,1,none⟩=some (.slice ah X.heap.length ch)/\wr.drew.cell? ⟨w.heap.size,2,none⟩=some (.int .i64 X.ez)/\wr.drew.cell? ⟨V.heap.size,q,none⟩=some (.int .i64 sv)/\wr.drew.cell? ⟨mb,4,none⟩=some (.slice (some ⟨b7,o7,none⟩) m.code.length ck)/\wr.drew.cell? ⟨b7,o7+q*5+4,none⟩=some (.string ins.name):=⟨a0,a1,a2,hcq,m4,i4⟩
           clear a0 a1 a2 hcq m4 i4 hins hS hd;have tokA:True:=trivial
           go_region_held3 (fun w'=>w'.cell? ⟨w.heap.size,0,none⟩=some (.slice (some ⟨b2,o2,none⟩) X.cz.length cc)/\w'.cell? ⟨w.heap.size,1,none⟩=some (.slice ah X.heap.length ch)/\w'.cell? ⟨w.heap.size,2,none⟩=some (.int .i64 X.ez)/\w'.cell? ⟨V.heap.size,q,none⟩=some (.int .i64 sv)/\w'.cell? ⟨mb,4,none⟩=some (.slice (some ⟨b7,o7,none⟩) m.code.length ck)/\w'.cell? ⟨b7,o7+q*5+4,none⟩=some (.string ins.name))
            (first | with_reducible exact hS0 | with_reducible exact hS1)
            (first | (have _t:=tokA;go_at_call 9;refine (xit X sv ins.name _ _ _ hCd hHd).mono ?_;rintro e w4 ⟨rfl,hb4⟩;have hS1:=xsO hS0 hb4;clear tokA))
           have hS:=hSd.out.later hb4;have HFA:=hid (xso X.cz sv ins.name);generalize xaB X.cz sv ins.name=fr at *;obtain⟨f1,f2⟩:=fr;dsimp only at *;clear hS0 hS1 hCd hHd hbD hb4 hSd;have hfq:=xeH hS.row q;have hcq:=xer hS.row (k:=q) (by rw[hS.len];exact hlt3)
           by_cases hf2:f2<0
           ·have hd2:decide (f2<0)=true:=by simpa using hf2
            clear hf2;go_wp2
            go_roundg (gk-1)
            case measure=>omega
            case rel=>exact⟨q+1,_,by omega,by go_num,hS.set q (-1)⟩
           ·have hd2:decide (f2<0)=false:=by simpa using hf2
            obtain⟨qc,jm,xc,mm,e1,e2,e4⟩:=HFA.out hf2;simp only[Prod.mk.injEq] at e1;obtain⟨rfl,rfl⟩:=e1;obtain⟨⟨a0,-,-⟩,-,-⟩:=(hR.later hS.bel).al;obtain⟨d1,k1,g1,-,-,-,hr1⟩:=hC.later xaA (xaf hR.bel hS.bel)
            cases g1
            obtain⟨bc,oc,g2,-,-,-,-,-,mv2,x3,hM2⟩:=hr1 qc xc e2
            cases g2
            obtain⟨am2,cm2,rfl,-,-,-,hr2⟩:=hM2;obtain⟨bm,om,rfl,-,n0,n1,n2,n3,-,kv2,n4,hK2⟩:=hr2 jm mm e4;obtain⟨ak2,ck2,rfl⟩:=hK2.get;simp only[Nat.add_zero] at n0;have l1:(qc:Int)<(X.cz.length:Int):=by have:=xae e2;omega
            have l2:(jm:Int)<(xc.mz.length:Int):=by have:=xae e4;omega
            have l3:(0:Int)<=(qc:Int):=by omega
            have l4:(0:Int)<=(jm:Int):=by omega
            clear hr1 hr2 e2 e4 hf2;go_wp2_with fail;refine (xsh mm _ w4 hK2).mono ?_;rintro e w5 ⟨⟨rb,rfl⟩,hb5⟩;have hS5:=hS.later hb5;clear hcq hfq a0 x3 n0 n1 n2 n3 n4 hb5 hS;have hcq:=xer hS5.row (k:=q) (by rw[hS5.len];exact hlt3)
            have hfq:=xeH hS5.row q
            cases rb with
            | true=>
             go_wp2
             go_roundg (gk-1)
             case measure=>omega
             case rel=>exact⟨q+1,_,by omega,by go_num,hS5⟩
            | false=>
             go_wp2
             go_roundg (gk-1)
             case measure=>omega
             case rel=>exact⟨q+1,_,by omega,by go_num,hS5.set q (-1)⟩
         ·obtain rfl:q=m.code.length:=by omega
          have hR5:=hR.later hS.bel;obtain⟨⟨a0,a1,a2⟩,-,-⟩:=hR5.al;go_wp2_with fail;refine (xej X HX.out (j:Int) (i:Int) ss _ _ _ wr (hC.later xaA hR5.bel) (hH.later xaE hR5.bel) (hS.ints (by omega))).mono ?_
          rintro e w5 ⟨af,cf,rfl,hKf,hbF⟩;have HMA:=hid (fun f h=>xig (X:=X) (c:=(j:Int)) (k:=(i:Int)) (sites:=ss) (f:=f) h)
          generalize xch X (j:Int) (i:Int) ss=fr at *;obtain⟨f,ok⟩:=fr;dsimp only at *
          have hlv:∀ g,lv.ownBlock=some g->g<wr.heap.size:=fun g hg=>by
           obtain⟨cs,h1,-⟩:=hR5.own
           exact (h1.lt g hg).2
          have hlw:lb+1<=wr.heap.size:=xal hR5.box;have hR6:=hR5.later hbF;have hbx:=xak w5 (.cells #[.int .i64 f.cls,.string f.name,.int .i64 f.ez,.int .i64 f.temps,.slice af f.code.length cf] 62);have hfB:=qzJ w5 (.cells #[.int .i64 f.cls,.string f.name,.int .i64 f.ez,.int .i64 f.temps,.slice af f.code.length cf] 62);clear a0 a1 a2 hS hR5 hbF hR hmB
          go_upto_region 33 with (fail)
          replace hR6:=hR6.later hbx;replace hKf:=hKf.later xa2 hbx;generalize (w5.alloc (.cells #[.int .i64 f.cls,.string f.name,.int .i64 f.ez,.int .i64 f.temps,.slice af f.code.length cf] 62))=W6 at *;generalize w5.heap.size=fb at *;clear hbx
          cases ok with
          | false=>
           go_wp2
           go_roundg (x.mz.length-(i+1))
           case measure=>omega
           case rel=>exact⟨i+1,fs,_,by omega,by go_num,hR6,by omega⟩
          | true=>
           have hmade:=hid (HMA.out f rfl);obtain⟨-,-,l0⟩:=hR6.al;have hbf:=xap hR6.box
           obtain⟨f0,f1,f2,f3,f4⟩:W6.cell? ⟨fb,0,none⟩=some (.int .i64 f.cls)/\W6.cell? ⟨fb,1,none⟩=some (.string f.name)/\W6.cell? ⟨fb,2,none⟩=some (.int .i64 f.ez)/\W6.cell? ⟨fb,3,none⟩=some (.int .i64 f.temps)/\W6.cell? ⟨fb,4,none⟩=some (.slice af f.code.length cf):=by
            refine⟨?_,?_,?_,?_,?_⟩<;>(rw[qzB hfB];rfl)
           obtain⟨cs,hF⟩:=hR6.fal;obtain⟨a,cap,rfl,hal,hac⟩:=hF.form;have hsz2:=hF.sz;have hlb:=xal hR6.box
           go_wp2_with (at_builtin;refine xbf rfl (.tmp 165) (.tmp 167) 49 62 _ 5 64 rfl Try.underlying49 xsK rfl (by omega) (lb+1) fs.length (.slice a fs.length cap) cs rfl (hF.own.alloc _) W6.heap.size rfl [.int .i64 f.cls,.string f.name,.int .i64 f.ez,.int .i64 f.temps,.slice af f.code.length cf] rfl (qzJ _ _) (by intro u hu;simp only[List.mem_cons,List.not_mem_nil,or_false] at hu;rcases hu with h | h | h | h | h<;>(subst h;rfl)) (by unfold maxLen;omega) (by omega) (qzD hsz2 (by simp)) ?_;intro a3 cap3 w3 s1 s2 s3 s4;have hN:=hid ((hF.later (xak W6 (.cells #[.int .i64 f.cls,.string f.name,.int .i64 f.ez,.int .i64 f.temps,.slice af f.code.length cf] 62))).add (f:=f) (kv:=.slice af f.code.length cf) (L:=wr.heap.size) (hKf.later xa2 (xak W6 _)) (fun b hb=>hb.1) hlw hlv s1 s2 s3 s4);have el:=(hN.out.bel.cell (p:=⟨lb,0,none⟩) (by simp)).trans l0;have fl:=(hN.out.bel.frozen (p:=⟨lb,0,none⟩) (by simp)).trans (hbf 0);clear s1 s2 s3 s4)
           have hR7:=hR6.add hmade.out hN.out
           go_roundg (x.mz.length-(i+1))
           case measure=>omega
           case rel=>exact⟨i+1,fs++[f],_,by omega,by go_num,by simpa using hR7,by simp;omega⟩
     ·obtain rfl:i=x.mz.length:=by omega
      go_wp2
      go_roundg (X.cz.length-(j+1))
      case measure=>omega
      case rel=>exact⟨j+1,fs,_,by omega,by go_num,hR,by omega⟩
   ·obtain rfl:j=X.cz.length:=by omega
    obtain⟨cs,hF⟩:=hR.fal;obtain⟨a,cap,rfl,hal,hac⟩:=hF.form;have hFs:=hF.fasts (by omega)
    obtain⟨⟨a0,a1,a2⟩,⟨p0,p1,p2,p3⟩,l0⟩:=hR.al;have hlb:=xal hR.box;have hlo:=hR.lo;have hwi:=xsv X HX.out s name args fuel (xr6 HX.out hR.made) (xdG X s name args fuel) (xsm HX.out hR.made s name args fuel) _ _ _ _ wr (hC.later xaA hR.bel) (hH.later xaE hR.bel) (hA.later xa1 hR.bel) hFs hn w.heap.size lb (by omega) a0 a1 a2 hlb l0
    have hrr:=fun (w':World) (hb:Below w.heap.size w w')=>xo5 X HX.out s name args fuel _ _ _ w' (hC.later xaA hb) (hH.later xaE hb) (hA.later xa1 hb) hn
    generalize xdG X s name args fuel=r at *;clear hrowC hrowT hrowK hF hFs hfl;go_wp2_with fail;refine hwi.mono ?_;rintro e w4 ⟨hb4,cv4,hv4,rfl,hC4,hH4⟩;clear hwi;obtain⟨b1,j1,rfl⟩:∃ a c,cv4=.slice a X.cz.length c:=hC4.get;obtain⟨b3,j3,rfl⟩:∃ a c,hv4=.slice a r.heap.length c:=hH4.get;dsimp only;have hby2:=xbP w4 (.cells #[.slice b1 X.cz.length j1,.slice b3 r.heap.length j3,.int .i64 X.ez] 25) (.cells #[.int .i64 r.v.k,.int .i64 r.v.n,.int .i64 r.err,.int .i64 r.sz_] 35);have hyA:((w4.alloc (.cells #[.slice b1 X.cz.length j1,.slice b3 r.heap.length j3,.int .i64 X.ez] 25)).alloc (.cells #[.int .i64 r.v.k,.int .i64 r.v.n,.int .i64 r.err,.int .i64 r.sz_] 35)).heap[w4.heap.size]?=some (.cells #[.slice b1 X.cz.length j1,.slice b3 r.heap.length j3,.int .i64 X.ez] 25 (0,0)):=xad (qzJ w4 _) (xak _ _)
    have hrA:((w4.alloc (.cells #[.slice b1 X.cz.length j1,.slice b3 r.heap.length j3,.int .i64 X.ez] 25)).alloc (.cells #[.int .i64 r.v.k,.int .i64 r.v.n,.int .i64 r.err,.int .i64 r.sz_] 35)).heap[w4.heap.size+1]?=some (.cells #[.int .i64 r.v.k,.int .i64 r.v.n,.int .i64 r.err,.int .i64 r.sz_] 35 (0,0)):=by
     have:=qzJ (w4.alloc (.cells #[.slice b1 X.cz.length j1,.slice b3 r.heap.length j3,.int .i64 X.ez] 25)) (.cells #[.int .i64 r.v.k,.int .i64 r.v.n,.int .i64 r.err,.int .i64 r.sz_] 35)
     simpa using this
    have hR4:=hR.later (xaf hb4 hby2);replace hC4:=hC4.later xaA hby2;replace hH4:=hH4.later xaE hby2;clear a0 a1 a2 p0 p1 p2 p3 l0 hb4 hby2 hR
    go_upto_region 38 with (fail)
    try simp only[Nat.add_assoc,Nat.reduceAdd]
    generalize ((w4.alloc (.cells #[.slice b1 X.cz.length j1,.slice b3 r.heap.length j3,.int .i64 X.ez] 25)).alloc (.cells #[.int .i64 r.v.k,.int .i64 r.v.n,.int .i64 r.err,.int .i64 r.sz_] 35))=Z at *;generalize w4.heap.size=ob at *;obtain⟨⟨a0,a1,a2⟩,⟨p0,p1,p2,p3⟩,-⟩:=hR4.al;go_wp2_with fail;refine (hrr Z hR4.bel).mono ?_;rintro e V ⟨hbV,cv5,hv5,T5,mm,deep,err,hv',sv,ov,rfl,hCB,hHB,-,-⟩;dsimp only;obtain⟨b5,j5,rfl⟩:∃ a c,cv5=.slice a X.cz.length c:=hCB.get;obtain⟨b6,j6,rfl⟩:∃ a c,hv5=.slice a r.heap.length c:=hHB.get;clear a0 a1 a2 p0 p1 p2 p3 hrr;have hby2:=xbP V (.cells #[.slice b5 X.cz.length j5,.slice b6 r.heap.length j6,.int .i64 X.ez] 25) (.cells #[.int .i64 r.v.k,.int .i64 r.v.n,.int .i64 r.err,.int .i64 r.sz_] 35)
    have hyB:((V.alloc (.cells #[.slice b5 X.cz.length j5,.slice b6 r.heap.length j6,.int .i64 X.ez] 25)).alloc (.cells #[.int .i64 r.v.k,.int .i64 r.v.n,.int .i64 r.err,.int .i64 r.sz_] 35)).heap[V.heap.size]?=some (.cells #[.slice b5 X.cz.length j5,.slice b6 r.heap.length j6,.int .i64 X.ez] 25 (0,0)):=xad (qzJ V _) (xak _ _)
    have hrB:((V.alloc (.cells #[.slice b5 X.cz.length j5,.slice b6 r.heap.length j6,.int .i64 X.ez] 25)).alloc (.cells #[.int .i64 r.v.k,.int .i64 r.v.n,.int .i64 r.err,.int .i64 r.sz_] 35)).heap[V.heap.size+1]?=some (.cells #[.int .i64 r.v.k,.int .i64 r.v.n,.int .i64 r.err,.int .i64 r.sz_] 35 (0,0)):=by
     have:=qzJ (V.alloc (.cells #[.slice b5 X.cz.length j5,.slice b6 r.heap.length j6,.int .i64 X.ez] 25)) (.cells #[.int .i64 r.v.k,.int .i64 r.v.n,.int .i64 r.err,.int .i64 r.sz_] 35)
     simpa using this
    have hbVy:=xaf hbV hby2;replace hyA:=xad hyA hbVy;replace hrA:=xad hrA hbVy;replace hC4:=hC4.later xaA hbVy;replace hH4:=hH4.later xaE hbVy;replace hCB:=hCB.later xaA hby2;replace hHB:=hHB.later xaE hby2;have hbel:=xaf hR4.bel hbVy;clear hbV hby2 hbVy hR4
    go_upto_region 39 with (fail)
    try simp only[Nat.add_assoc,Nat.reduceAdd]
    generalize ((V.alloc (.cells #[.slice b5 X.cz.length j5,.slice b6 r.heap.length j6,.int .i64 X.ez] 25)).alloc (.cells #[.int .i64 r.v.k,.int .i64 r.v.n,.int .i64 r.err,.int .i64 r.sz_] 35))=U at *;generalize V.heap.size=pb at *
    obtain⟨y0,y1,y2⟩:U.cell? ⟨ob,0,none⟩=some (.slice b1 X.cz.length j1)/\U.cell? ⟨ob,1,none⟩=some (.slice b3 r.heap.length j3)/\U.cell? ⟨ob,2,none⟩=some (.int .i64 X.ez):=by
     refine⟨?_,?_,?_⟩<;>(rw[qzB hyA];rfl)
    obtain⟨z0,z1,z2⟩:U.cell? ⟨pb,0,none⟩=some (.slice b5 X.cz.length j5)/\U.cell? ⟨pb,1,none⟩=some (.slice b6 r.heap.length j6)/\U.cell? ⟨pb,2,none⟩=some (.int .i64 X.ez):=by
     refine⟨?_,?_,?_⟩<;>(rw[qzB hyB];rfl)
    obtain⟨q0,q1,q2,q3⟩:U.cell? ⟨ob+1,0,none⟩=some (.int .i64 r.v.k)/\U.cell? ⟨ob+1,1,none⟩=some (.int .i64 r.v.n)/\U.cell? ⟨ob+1,2,none⟩=some (.int .i64 r.err)/\U.cell? ⟨ob+1,3,none⟩=some (.int .i64 r.sz_):=by
     refine⟨?_,?_,?_,?_⟩<;>(rw[qzB hrA];rfl)
    obtain⟨r0,r1,r2,r3⟩:U.cell? ⟨pb+1,0,none⟩=some (.int .i64 r.v.k)/\U.cell? ⟨pb+1,1,none⟩=some (.int .i64 r.v.n)/\U.cell? ⟨pb+1,2,none⟩=some (.int .i64 r.err)/\U.cell? ⟨pb+1,3,none⟩=some (.int .i64 r.sz_):=by
     refine⟨?_,?_,?_,?_⟩<;>(rw[qzB hrB];rfl)
    have hqr:∀ w,(binOp .eql 35 (RnV r) (RnV r)).run Try.prog w=.ok (.bool true) w:=fun w=>by rw[eqlR,xkv]
    go_wp2_with fail;refine (xon ⟨X.cz,r.heap,X.ez⟩ _ _ _ _ U hC4 hH4 hCB hHB).mono ?_;rintro e F ⟨rfl,hbF⟩;have hbE:=xaf hbel hbF;clear y0 y1 y2 z0 z1 z2 q0 q1 q2 q3 r0 r1 r2 r3 hC4 hH4 hCB hHB;go_wp2;refine qzK (v:=.bool true) ?_ rfl ⟨rfl,hbE⟩
    simp[results,Try.results4,go_sem]
 ·have hd:(xaH X != 0)=true:=by simpa using hX
  go_wp2;refine qzK (v:=.bool true) ?_ rfl ⟨rfl,hb0⟩
  simp[results,Try.results4,go_sem]
section
variable {H:Type} {enc:TypeId × Value->H} {w:World} {base:Nat} {spare:Nat->Bool} {held:Bool}
theorem xpF:Try.prog.cellsOf 30=4:=by kernel_rfl
theorem xmV {r:Reach}{b0:Nat}{v:Value}{d:DataW H}{p:List MemPlace}(hv:Value.okWide Try.prog w r b0 30 v)(h:DataW.Trod enc Try.prog w base spare held 30 v d p)(hw:∀ n∈d.weights Try.prog 30,n<=140737488351232):∃ (s:QV) (name:ByteArray) (av:Value) (args:List QV),v=ClV s name av/\name.size<=140737488351232/\xaO Tru w av args:=by
 obtain⟨cs,rfl,hsz⟩:=okWide_struct Try.underlying30 hv;obtain⟨c0,c1,c2,c3,rfl⟩:=Joins.array4 (hsz.trans xpF);obtain⟨fuel,hf0⟩:=h;obtain⟨xs,k,hk,hxy,_,hxl,hf⟩:=DataW.trod_struct Try.underlying30 hf0
 match xs,hxl with
 | [y0,y1,y2],_=>
  have g0:=hf 0 _ rfl;have g1:=hf 1 _ rfl;have g2:=hf 2 _ rfl
  simp[Value.cells,xmk,xh7,xmJ] at g0 g1 g2
  simp only[Prod.mk.injEq] at hxy;obtain⟨rfl,-⟩:=hxy;obtain⟨y,hy⟩:=xj8 rfl g0;obtain⟨z0,z1⟩:=hy
  simp at z0 z1
  subst z0 z1;obtain⟨s,e1,e2,-⟩:=DataW.trod_string Try.underlying9 g1
  simp at e1
  subst e1;obtain⟨l,hl⟩:=xiZ g2 (fun q hq=>hw q (xbC (j:=2) (xs:=[y0,y1,y2]) Try.underlying30 rfl rfl q hq))
  have hs:s.size<=140737488351232:=by
   have:=hw s.data.toList.length (xbC (j:=1) (xs:=[y0,y1,y2]) Try.underlying30 rfl rfl _ (by rw[e2];simp[DataW.weights]))
   simpa using this
  exact⟨y,s,_,l,rfl,hs,hl⟩
end
end Go.Proofs.Ytdfbgpiikeheiaa
