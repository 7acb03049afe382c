/- A part. -/
import Derived.Test.YtapbeiccodnniaaGreatM25
import Derived.Test.YtapbeiccodnniaaGreatM26
namespace Go.Proofs.YtapbeiccodnniaaGreat
open Go.ChangeShapes Go.WideShapes Go.ChangeAt Go.RowKit
set_option linter.unusedSimpArgs false
set_option linter.unusedVariables false
set_option maxHeartbeats 8000000
set_option maxRecDepth 8000
theorem xky (k n h:Int)(w:World):Calls Tryz.prog 18 #[.agg #[.int .i64 k,.int .i64 n],.int .i64 h] w fun e w'=>e=.returned (.int .i64 (xch k n h))/\Below w.heap.size w w':=by
 go_enter Tryz.func18,Tryz.ntmps18;go_wp2
 all_goals
  go_ret
  refine⟨xak ?_,(qzL _ _).alloc (qzC _) _⟩
  go_light
  try simp only[beq_iff_eq,bne_iff_ne,ne_eq,beq_eq_false_iff_ne,bne_eq_false_iff_eq] at *
  unfold xch
  (repeat' split)<;>omega
theorem xeg (v:QV)(h:Int)(w:World):Calls Tryz.prog 18 #[.agg #[.int .i64 v.k,.int .i64 v.n],.int .i64 h] w fun e w'=>e=.returned (.int .i64 (xas h v))/\Below w.heap.size w w':=xky v.k v.n h w
theorem xnk {xs:List QC}{k:Nat}{x:QC}(h:xbf x.name=false):rcE xs k x=7:=by unfold rcE;rw[if_pos h]
theorem xlA {xs:List QC}{k:Nat}{x y:QC}(h:xbf x.name=true)(hy:xgB[k]?=some y)(he:eqN x.name y.name=false):rcE xs k x=7:=by
 unfold rcE;rw[if_neg (by simp[h]),hy];simp only;rw[if_pos he]
theorem xoT {xs:List QC}{k:Nat}{x:QC}(h:xbf x.name=true)(hd:xlu xs k x.name=true):rcE xs k x=7:=by
 unfold rcE;rw[if_neg (by simp[h])]
 split
 ·split
  ·rfl
  ·first | rfl | rw[if_pos hd]
 ·first | rfl | rw[if_pos hd]
theorem xoI {xs:List QC}{k:Nat}{x y:QC}(h:xbf x.name=true)(hy:xgB[k]?=some y)(he:eqN x.name y.name=true)(hd:xlu xs k x.name=false):rcE xs k x=if x.super≠y.super then 3 else if x.slots<0\/0<x.slots then 3 else 0:=by
 unfold rcE;rw[if_neg (by simp[h]),hy];simp only;rw[if_neg (by simp[he]),if_neg (by simp[hd])]
theorem xmU {xs:List QC}{k:Nat}{x:QC}(h:xbf x.name=true)(hk:4<=k)(hd:xlu xs k x.name=false):rcE xs k x=if xbP k x.super=false then 3 else if x.slots<0\/6<x.slots then 3 else 0:=by
 have hy:xgB[k]?=none:=List.getElem?_eq_none (by simpa [xgB] using hk)
 unfold rcE;rw[if_neg (by simp[h]),hy];simp only;rw[if_neg (by simp[hd])]
structure RtS (w:World)(X:QW)(cv hv fv:Value)(B1:Nat)(w':World):Prop where
 bel:Below w.heap.size w w'
 a0:w'.cell? ⟨w.heap.size,0,none⟩=some cv
 a1:w'.cell? ⟨w.heap.size,1,none⟩=some hv
 a2:w'.cell? ⟨w.heap.size,2,none⟩=some (.int .i64 X.ez)
 f0:w'.cell? ⟨B1,0,none⟩=some fv
 fc:xai Tru w' fv xgB
theorem RtS.later {w:World}{X:QW}{cv hv fv:Value}{B1:Nat}{w' w1:World}(h:RtS w X cv hv fv B1 w')(hb:Below w'.heap.size w' w1):RtS w X cv hv fv B1 w1:=
 ⟨xah h.bel hb,qzA hb h.a0,qzA hb h.a1,qzA hb h.a2,qzA hb h.f0,h.fc.later xaz hb⟩
theorem RtS.first {w:World}{X:QW}{cv hv:Value}{bf og n c:Nat}{B1:Nat}{w':World}(h:RtS w X cv hv (.slice (some ⟨bf,og,none⟩) n c) B1 w'){k:Nat}{y:QC}(hy:xgB[k]?=some y):w'.cell? ⟨bf,og+k*4,none⟩=some (.string y.name)/\w'.cell? ⟨bf,og+k*4+1,none⟩=some (.int .i64 y.super)/\∃ mv,w'.cell? ⟨bf,og+k*4+3,none⟩=some mv/\xbd Tru w' mv y.mz:=by
 obtain⟨a,c',e,-,-,-,hr⟩:=h.fc;simp only[Value.slice.injEq] at e;obtain⟨rfl,-,-⟩:=e;obtain⟨b,o,e2,-,v0,v1,-,-,mv,v3,hm⟩:=hr k y hy
 cases e2
 exact⟨v0,v1,mv,v3,hm⟩
theorem xfX (s:ByteArray)(w:World)(hs:s.size<=140737488351232):Calls Tryz.prog 15 #[.string s] w fun e w'=>e=.returned (.bool (xbf s))/\w'=w:=by
 have HN0:Hid (okB s=false->xbf s=false):=fun h=>by simp[xbf,h]
 go_enter Tryz.func15,Tryz.ntmps15;go_wp2
 go_loopg [6] s.size (fun g c wr=>∃ j:Nat,j+g=s.size/\c=.int .i64 j/\wr=w/\∀ i (hi:i<s.size),i<j->33<=s[i].toNat/\s[i].toNat<=126)
 case atStart=>exact⟨0,by omega,rfl,rfl,fun i _ hi=>by omega⟩
 case round=>
  obtain⟨j,hj,rfl,hwr,hok⟩:=hrel;subst hwr;have HO:Hid (∀ i (hi:i<s.size),i<j->33<=s[i].toNat/\s[i].toNat<=126):=hok;clear hok
  by_cases hlt:j<s.size
  ·have hj0:(0:Int)<=(j:Int):=by omega
   have hj1:(j:Int)<(s.size:Int):=by omega
   by_cases c1:s[j].toNat<33
   ·have hn:Hid (okB s=false):=xfK hlt (by omega)
    have c1':((s[j].toNat:Nat):Int)<33:=by omega
    go_wp2
    go_ret
    exact⟨xb7 (by rw[HN0.out hn.out]),rfl⟩
   ·have c1':(33:Int)<=((s[j].toNat:Nat):Int):=by omega
    by_cases c2:126<s[j].toNat
    ·have hn:Hid (okB s=false):=xfK hlt (by omega)
     have c2':(126:Int)<((s[j].toNat:Nat):Int):=by omega
     go_wp2
     go_ret
     exact⟨xb7 (by rw[HN0.out hn.out]),rfl⟩
    ·have c2':((s[j].toNat:Nat):Int)<=126:=by omega
     have HT:Hid (33<=s[j].toNat/\s[j].toNat<=126):=by constructor<;>omega
     clear c1 c2;go_wp2
     go_roundg (gk-1)
     case measure=>omega
     case rel=>
      refine⟨j+1,by omega,by go_num,rfl,fun i hi hij=>?_⟩
      by_cases he:i=j
      ·subst he;exact HT.out
      ·exact HO.out i hi (by omega)
  ·have HK:Hid (okB s=true):=xib fun i hi=>HO.out i hi (by omega)
   by_cases h0:0<s.size
   ·have h0':(0:Int)<(s.size:Int):=by omega
    go_wp2
    go_ret
    exact⟨xb7 (by unfold xbf;rw[HK.out,Bool.and_true,Bool.eq_iff_iff];simp;omega),rfl⟩
   ·have h0':(s.size:Int)<=0:=by omega
    go_wp2
    go_ret
    exact⟨xb7 (by unfold xbf;rw[HK.out,Bool.and_true,Bool.eq_iff_iff];simp;omega),rfl⟩
theorem xgs {s:ByteArray}{b:Bool}(hb:xbf s=b)(w:World)(hs:s.size<=140737488351232):Calls Tryz.prog 15 #[.string s] w fun e w'=>e=.returned (.bool b)/\w'=w:=by
 have:=xfX s w hs;rw[hb] at this
 exact this
structure RtC (w:World)(X:QW)(cv hv fv:Value)(B1:Nat)(x:QC)(sv:Value)(Bc:Nat)(w':World):Prop where
 S:RtS w X cv hv fv B1 w'
 c0:w'.cell? ⟨Bc,0,none⟩=some (.string x.name)
 c1:w'.cell? ⟨Bc,1,none⟩=some (.int .i64 x.super)
 c2:w'.cell? ⟨Bc,2,none⟩=some (.int .i64 x.slots)
 c3:w'.cell? ⟨Bc,3,none⟩=some sv
theorem RtC.later {w:World}{X:QW}{cv hv fv:Value}{B1:Nat}{x:QC}{sv:Value}{Bc:Nat}{w' w1:World}(h:RtC w X cv hv fv B1 x sv Bc w')(hb:Below w'.heap.size w' w1):RtC w X cv hv fv B1 x sv Bc w1:=
 ⟨h.S.later hb,qzA hb h.c0,qzA hb h.c1,qzA hb h.c2,qzA hb h.c3⟩
structure RtO (w:World)(X:QW)(cv hv fv:Value)(B1:Nat)(x:QO)(sv:Value)(Bo:Nat)(w':World):Prop where
 S:RtS w X cv hv fv B1 w'
 o0:w'.cell? ⟨Bo,0,none⟩=some (.int .i64 x.cls)
 o1:w'.cell? ⟨Bo,1,none⟩=some sv
theorem RtO.later {w:World}{X:QW}{cv hv fv:Value}{B1:Nat}{x:QO}{sv:Value}{Bo:Nat}{w' w1:World}(h:RtO w X cv hv fv B1 x sv Bo w')(hb:Below w'.heap.size w' w1):RtO w X cv hv fv B1 x sv Bo w1:=
 ⟨h.S.later hb,qzA hb h.o0,qzA hb h.o1⟩
theorem roA {w:World}{X:QW}{cv hv fv:Value}{B1:Nat}{x:QO}{sv:Value}{Bo:Nat}{w':World}(h:RtO w X cv hv fv B1 x sv Bo w'):w'.cell? ⟨Bo,0,none⟩=some (.int .i64 x.cls)/\w'.cell? ⟨Bo,1,none⟩=some sv/\w'.cell? ⟨w.heap.size,0,none⟩=some cv/\w'.cell? ⟨w.heap.size,1,none⟩=some hv/\w'.cell? ⟨w.heap.size,2,none⟩=some (.int .i64 X.ez)/\RtO w X cv hv fv B1 x sv Bo w':=⟨h.o0,h.o1,h.S.a0,h.S.a1,h.S.a2,h⟩
theorem roB {w:World}{X:QW}{cv hv fv:Value}{B1:Nat}{x:QO}{sv:Value}{Bo:Nat}{w' w1:World}{p1 p2 p3 p4 p5:Prop}(h:p1/\p2/\p3/\p4/\p5/\RtO w X cv hv fv B1 x sv Bo w')(hb:Below w'.heap.size w' w1):w1.cell? ⟨Bo,0,none⟩=some (.int .i64 x.cls)/\w1.cell? ⟨Bo,1,none⟩=some sv/\w1.cell? ⟨w.heap.size,0,none⟩=some cv/\w1.cell? ⟨w.heap.size,1,none⟩=some hv/\w1.cell? ⟨w.heap.size,2,none⟩=some (.int .i64 X.ez)/\RtO w X cv hv fv B1 x sv Bo w1:=roA (h.2.2.2.2.2.later hb)
theorem xiW {P:Nat->Prop}(X:QW)(c:Int)(cv hv:Value)(w:World)(hh:xai P w cv X.cz)(hH:xaC P w hv X.heap)(ho:xbL X.cz)(hby:X.cz.length*56<=140737488351232)(S:Int)(hS:xa8 X.cz c=S):Calls Tryz.prog 16 #[WV cv hv X.ez,.int .i64 c] w fun e w'=>e=.returned (.int .i64 S)/\Below w.heap.size w w':=by
 have:=xcp X c cv hv w hh hH ho;rw[← xeH ho hby c,hS] at this
 exact this
structure RtM (w:World)(X:QW)(cv hv fv:Value)(B1:Nat)(x:QC)(sv:Value)(Bc:Nat)(m:QM)(mv:Value)(Bm:Nat)(w':World):Prop where
 C:RtC w X cv hv fv B1 x sv Bc w'
 q0:w'.cell? ⟨Bm,0,none⟩=some (.string m.name)
 q1:w'.cell? ⟨Bm,1,none⟩=some (.int .i64 m.args)
 q2:w'.cell? ⟨Bm,2,none⟩=some (.int .i64 m.temps)
 q3:w'.cell? ⟨Bm,3,none⟩=some (.int .i64 m.prim)
 q4:w'.cell? ⟨Bm,4,none⟩=some mv
theorem RtM.later {w:World}{X:QW}{cv hv fv:Value}{B1:Nat}{x:QC}{sv:Value}{Bc:Nat}{m:QM}{mv:Value}{Bm:Nat}{w' w1:World}(h:RtM w X cv hv fv B1 x sv Bc m mv Bm w')(hb:Below w'.heap.size w' w1):RtM w X cv hv fv B1 x sv Bc m mv Bm w1:=
 ⟨h.C.later hb,qzA hb h.q0,qzA hb h.q1,qzA hb h.q2,qzA hb h.q3,qzA hb h.q4⟩
theorem xlM {X:QW}{k i:Nat}{ms:List QM}{m:QM}(h:xdQ ms i m=false):rmE X k ms i m=7:=by unfold rmE;rw[if_pos h]
theorem xnf {X:QW}{k i:Nat}{ms:List QM}{m:QM}(h:xdQ ms i m=true)(hp:xgz k m=true):rmE X k ms i m=0:=by unfold rmE;rw[if_neg (by simp[h]),if_pos hp]
theorem xlR {X:QW}{k i:Nat}{ms:List QM}{m:QM}(h:xdQ ms i m=true)(hp:xgz k m=false):rmE X k ms i m=(xdY (xa8 X.cz k) X.cz.length k m).1:=by unfold rmE;rw[if_neg (by simp[h]),if_neg (by simp[hp])]
theorem xfa {ms:List QM}{t:Nat}{p m:QM}(h:ms[t]?=some p):xdQ ms (t+1) m=ltN p.name m.name:=by simp[xdQ,h]
def xfh (k:Nat)(m:QM)(p:QM):Bool:=decide (k=3) && eqN p.name m.name && decide (p.prim=m.prim) && decide (m.args=1) && decide (m.temps=0) && decide (m.code.length=0)
theorem xgg {α:Type}{f:α->Bool}{l:List α}{u:Nat}{p:α}(h:l[u]?=some p):(l.take (u+1)).any f=((l.take u).any f || f p):=by
 rw[List.take_add_one,h];simp
set_option maxRecDepth 100000 in
theorem xjO {P:Nat->Prop}(X:QW)(cv hv:Value)(w:World)(hh:xai P w cv X.cz)(hH:xaC P w hv X.heap):Calls Tryz.prog 5 #[WV cv hv X.ez] w fun e w'=>e=.returned (.int .i64 (xaJ X))/\Below w.heap.size w w':=by
 obtain⟨ad,cap,rfl,hl,hcap,hby,hrow⟩:=id hh;obtain⟨ah,ch,rfl,hlh,hcaph,hbyh,hrowH⟩:=id hH;unfold maxLen at hcap hcaph;obtain⟨R,HR⟩:∃ R,Hid (xaJ X=R):=⟨_,rfl⟩;rw[HR.out];go_enter Tryz.func5,Tryz.ntmps5;go_wp2_with fail;refine (xiH _).mono ?_;rintro e w1 ⟨fv,fh,rfl,hC1,hH1,hb⟩;obtain⟨x1,y1,rfl⟩:∃ a c,fv=.slice a 4 c:=hC1.get;obtain⟨x2,y2,rfl⟩:∃ a c,fh=.slice a 0 c:=hH1.get
 obtain⟨bf,og,rfl⟩:∃ b o,x1=some ⟨b,o,none⟩:=by
  obtain⟨a',c',e',-,-,-,hr'⟩:=id hC1;obtain⟨b,o,e2,-⟩:=hr' 0 _ rfl
  cases e'
  exact⟨b,o,e2⟩
 have hS0:RtS w X (.slice ad X.cz.length cap) (.slice ah X.heap.length ch) (.slice (some ⟨bf,og,none⟩) 4 y1) w1.heap.size (w1.alloc (Obj.cells #[Value.slice (some ⟨bf,og,none⟩) 4 y1,Value.slice x2 0 y2,Value.int .i64 0] 25)):=by
  have hb2:=xah hb (xaj w1 (Obj.cells #[Value.slice (some ⟨bf,og,none⟩) 4 y1,Value.slice x2 0 y2,Value.int .i64 0] 25));refine⟨xah (xaj _ _) hb2,?_,?_,?_,?_,(hC1.mono xaz fun _ _=>trivial).later xaz (xaj _ _)⟩
  ·exact qzA hb2 (by rw[xaa _ _ _ _ rfl];rfl)
  ·exact qzA hb2 (by rw[xaa _ _ _ _ rfl];rfl)
  ·exact qzA hb2 (by rw[xaa _ _ _ _ rfl];rfl)
  ·rw[xaa _ _ _ _ rfl];rfl
 have a0:=hS0.a0;have a1:=hS0.a1;have a2:=hS0.a2;clear hC1 hH1 hb
 by_cases k1:(X.cz.length:Int)<4
 ·go_wp2
  go_ret
  exact⟨xak (by rw[← HR.out];exact (xee (Or.inl (by omega))).symm),hS0.bel⟩
 have k1':decide ((X.cz.length:Int)<4)=false:=by simpa using k1
 by_cases k2:(12:Int)<(X.cz.length:Int)
 ·go_wp2
  go_ret
  exact⟨xak (by rw[← HR.out];exact (xee (Or.inr (Or.inl (by omega)))).symm),hS0.bel⟩
 have k2':decide ((12:Int)<(X.cz.length:Int))=false:=by simpa using k2
 by_cases k3:(60:Int)<(X.heap.length:Int)
 ·go_wp2
  go_ret
  exact⟨xak (by rw[← HR.out];exact (xee (Or.inr (Or.inr (by omega)))).symm),hS0.bel⟩
 have k3':decide ((60:Int)<(X.heap.length:Int))=false:=by simpa using k3
 by_cases k4:X.ez<0
 ·go_wp2
  go_ret
  exact⟨xak (by rw[← HR.out];exact (xe9 (by omega) (Or.inl k4)).symm),hS0.bel⟩
 have k4':decide (X.ez<0)=false:=by simpa using k4
 by_cases k5:1073741824<X.ez
 ·go_wp2
  go_ret
  exact⟨xak (by rw[← HR.out];exact (xe9 (by omega) (Or.inr k5)).symm),hS0.bel⟩
 have k5':decide (1073741824<X.ez)=false:=by simpa using k5
 have HZ:Hid (SizeOk X):=⟨by omega,by omega,by omega,by omega,by omega⟩
 have hn12:X.cz.length<=12:=by omega
 have hnh:X.heap.length<=60:=by omega
 go_wp2;clear k1 k1' k2 k2' k3 k3' k4 k4' k5 k5' a0 a1 a2;generalize (w1.alloc (Obj.cells #[Value.slice (some ⟨bf,og,none⟩) 4 y1,Value.slice x2 0 y2,Value.int .i64 0] 25))=W0 at *;generalize w1.heap.size=B1 at *
 go_loopg [51] X.cz.length (fun g i wr=>∃ j:Nat,j+g=X.cz.length/\i=.int .i64 j/\RtS w X (.slice ad X.cz.length cap) (.slice ah X.heap.length ch) (.slice (some ⟨bf,og,none⟩) 4 y1) B1 wr/\ClsOk X j)
 case atStart=>exact⟨0,by omega,rfl,hS0,fun i x h=>by omega⟩
 case round=>
  obtain⟨j,hg,rfl,hS,hD⟩:=hrel;have HD:Hid (ClsOk X j):=hD;clear hD hS0
  by_cases hj:j<X.cz.length
  ·as_aux_lemma=>
   have hj1:(j:Int)<(X.cz.length:Int):=by omega
   have hj0:(0:Int)<=(j:Int):=by omega
   obtain⟨x,hx⟩:∃ x,X.cz[j]?=some x:=⟨_,List.getElem?_eq_getElem hj⟩;obtain⟨b,o,rfl,-,v0,v1,v2,hxn,mv,v3,hMs⟩:=hrow j x hx;obtain⟨ad2,cap2,rfl⟩:=hMs.get;have HX:Hid (X.cz[j]?=some x):=hx;clear hx;simp only[Nat.add_zero] at v0;replace v0:=qzA hS.bel v0;replace v1:=qzA hS.bel v1;replace v2:=qzA hS.bel v2;replace v3:=qzA hS.bel v3
   have hC:RtC w X (.slice (some ⟨b,o,none⟩) X.cz.length cap) (.slice ah X.heap.length ch) (.slice (some ⟨bf,og,none⟩) 4 y1) B1 x (.slice ad2 x.mz.length cap2) wr.heap.size (wr.alloc (Obj.cells #[Value.string x.name,Value.int .i64 x.super,Value.int .i64 x.slots,Value.slice ad2 x.mz.length cap2] 54)):=
    ⟨hS.later (xaj _ _),by rw[xaa _ _ _ _ rfl];rfl,by rw[xaa _ _ _ _ rfl];rfl,by rw[xaa _ _ _ _ rfl];rfl,by rw[xaa _ _ _ _ rfl];rfl⟩
   go_upto_region 9 with (fail)
   clear v0 v1 v2 v3 hS;generalize wr.heap.size=Bc at *;generalize (wr.alloc (Obj.cells #[Value.string x.name,Value.int .i64 x.super,Value.int .i64 x.slots,Value.slice ad2 x.mz.length cap2] 54))=W2 at *;have c0:=hC.c0;have f0:=hC.S.f0
   cases hnb:xbf x.name
   ·go_quiet (first | (go_at_call 15;refine Calls.quiet_of_same (xgs hnb _ hxn)))
    go_wp2
    go_ret
    exact⟨xak (by rw[← HR.out];exact (xgu HZ.out HX.out HD.out (xnk hnb) (by decide)).symm),below_drewN hC.S.bel _⟩
   ·as_aux_lemma=>
    by_cases hnw:∃ y,xgB[j]?=some y/\eqN x.name y.name=false
    ·obtain⟨y,hy,hne⟩:=hnw;have j4:j<4:=xae hy;have j4':(j:Int)<4:=by omega
     obtain⟨u0,-,-⟩:=hC.S.first hy
     have hne':(x.name.toList == y.name.toList)=false:=hne
     go_quiet (first | (go_at_call 15;refine Calls.quiet_of_same (xgs hnb _ hxn)))
     go_wp2
     go_ret
     exact⟨xak (by rw[← HR.out];exact (xgu HZ.out HX.out HD.out (xlA hnb hy hne) (by decide)).symm),below_drewN hC.S.bel _⟩
    ·have HNW:Hid (∀ y,xgB[j]?=some y->eqN x.name y.name=true):=fun y hy=>by
      cases he:eqN x.name y.name
      ·exact absurd ⟨y,hy,he⟩ hnw
      ·rfl
     clear hnw
     go_cut [74] (fun s wx=>s=.bool false/\RtC w X (.slice (some ⟨b,o,none⟩) X.cz.length cap) (.slice ah X.heap.length ch) (.slice (some ⟨bf,og,none⟩) 4 y1) B1 x (.slice ad2 x.mz.length cap2) Bc wx)
     case first=>
      as_aux_lemma=>
      by_cases j4:j<4
      ·obtain⟨y,hy⟩:∃ y,xgB[j]?=some y:=⟨_,List.getElem?_eq_getElem (show j<xgB.length from j4)⟩
       have j4':(j:Int)<4:=by omega
       obtain⟨u0,-,-⟩:=hC.S.first hy
       have hne':(x.name.toList == y.name.toList)=true:=HNW.out y hy
       go_quiet (first | (go_at_call 15;refine Calls.quiet_of_same (xgs hnb _ hxn)))
       go_wp2_with fail
       go_meet
       case rel=>exact⟨rfl,hC.later (below_drewN (qzL _ _) _)⟩
      ·have j4':decide ((j:Int)<4)=false:=by simp;omega
       go_quiet (first | (go_at_call 15;refine Calls.quiet_of_same (xgs hnb _ hxn)))
       go_wp2_with fail
       go_meet
       case rel=>exact⟨rfl,hC.later (below_drewN (qzL _ _) _)⟩
     case rest=>
      as_aux_lemma=>
      clear hC c0 f0;obtain⟨rfl,hC⟩:=hcut;have a0:=hC.S.a0;have hjc:(j:Int)<=(cap:Int):=by omega
      go_wp2;clear a0;obtain⟨go,hgo⟩:∃ go,go=gk:=⟨_,rfl⟩
      go_loopg [80] j (fun g i wi=>∃ t:Nat,t+g=j/\i=.int .i64 t/\RtC w X (.slice (some ⟨b,o,none⟩) X.cz.length cap) (.slice ah X.heap.length ch) (.slice (some ⟨bf,og,none⟩) 4 y1) B1 x (.slice ad2 x.mz.length cap2) Bc wi/\∀ i d,i<t->X.cz[i]?=some d->eqN d.name x.name=false)
      case atStart=>exact⟨0,by omega,rfl,hC,fun i d h=>by omega⟩
      case round=>
       clear hC;obtain⟨t,ht,rfl,hC,hE⟩:=hrel;have HE:Hid (∀ i d,i<t->X.cz[i]?=some d->eqN d.name x.name=false):=hE;clear hE
       by_cases htl:t<j
       ·as_aux_lemma=>
        have ht1:(t:Int)<(j:Int):=by omega
        have ht0:(0:Int)<=(t:Int):=by omega
        obtain⟨d,hd⟩:∃ d,X.cz[t]?=some d:=⟨_,List.getElem?_eq_getElem (by omega)⟩
        obtain⟨b',o',e',-,v0,v1,v2,-,mv',v3,hMs'⟩:=hrow t d hd
        cases e'
        obtain⟨ad3,cap3,rfl⟩:=hMs'.get;simp only[Nat.add_zero] at v0;replace v0:=qzA hC.S.bel v0;replace v1:=qzA hC.S.bel v1;replace v2:=qzA hC.S.bel v2;replace v3:=qzA hC.S.bel v3;have HT:Hid (X.cz[t]?=some d):=hd;have hb1:=xaj wr (Obj.cells #[Value.string d.name,Value.int .i64 d.super,Value.int .i64 d.slots,Value.slice ad3 d.mz.length cap3] 54);have c0:=qzA hb1 hC.c0;clear hd
        cases he:eqN d.name x.name
        ·have he':(d.name.toList == x.name.toList)=false:=he;go_wp2
         go_roundg (gk-1)
         case measure=>omega
         case rel=>
          refine⟨t+1,by omega,by go_num,hC.later hb1,fun i z hi hz=>?_⟩
          by_cases hit:i=t
          ·subst hit;rw[HT.out] at hz;cases hz;exact he
          ·exact HE.out i z (by omega) hz
        ·have he':(d.name.toList == x.name.toList)=true:=he;go_wp2
         go_ret
         exact⟨xak (by rw[← HR.out];exact (xgu HZ.out HX.out HD.out (xoT hnb (xlV htl HT.out he)) (by decide)).symm),xah hC.S.bel hb1⟩
       ·obtain rfl:t=j:=by omega
        have HDU:Hid (xlu X.cz t x.name=false):=xn0 HE.out;clear HE;have c1:=hC.c1;have c2:=hC.c2;have f0:=hC.S.f0
        have HNX:Hid (rcE X.cz t x=0->ClsOk X (t+1)):=fun h i y hi hy=>by
         by_cases hit:i=t
         ·subst hit;rw[HX.out] at hy;cases hy;exact h
         ·exact HD.out i y (by omega) hy
        have HBD:Hid (∀ v:Int,rcE X.cz t x=v->v≠0->v=R):=fun v e hv=>by rw[← HR.out];exact (xgu HZ.out HX.out HD.out e hv).symm
        clear HX HD
        by_cases j4:t<4
        ·as_aux_lemma=>
         obtain⟨y,hy⟩:∃ y,xgB[t]?=some y:=⟨_,List.getElem?_eq_getElem (show t<xgB.length from j4)⟩
         have j4':(t:Int)<4:=by omega
         obtain⟨-,u1,-⟩:=hC.S.first hy
         have HE:Hid (rcE X.cz t x=if x.super≠y.super then 3 else if x.slots<0\/0<x.slots then 3 else 0):=xoI hnb hy (HNW.out y hy) HDU.out;clear hy HNW HDU
         by_cases s1:x.super=y.super
         ·have s1':(x.super != y.super)=false:=by simp[s1]
          by_cases s2:x.slots<0
          ·go_wp2
           go_quiet (fail)
           go_wp2
           go_ret
           exact⟨xak (HBD.out 3 (by rw[HE.out,if_neg (by simp[s1]),if_pos (Or.inl s2)]) (by decide)),below_drewN hC.S.bel _⟩
          have s2':decide (x.slots<0)=false:=by simpa using s2
          by_cases s3:0<x.slots
          ·go_wp2
           go_quiet (fail)
           go_wp2
           go_ret
           exact⟨xak (HBD.out 3 (by rw[HE.out,if_neg (by simp[s1]),if_pos (Or.inr s3)]) (by decide)),below_drewN hC.S.bel _⟩
          have s3':decide (0<x.slots)=false:=by simpa using s3
          have HE0:Hid (rcE X.cz t x=0):=by show _=_;rw[HE.out,if_neg (by simp[s1]),if_neg (by omega)]
          clear s1;go_wp2
          go_quiet (fail)
          go_wp2
          go_roundg (go-1)
          case measure=>omega
          case rel=>exact⟨t+1,by omega,by go_num,hC.S.later (below_drewN (qzL _ _) _),HNX.out HE0.out⟩
         ·have s1':(x.super != y.super)=true:=by simpa using s1
          go_wp2
          go_quiet (fail)
          go_wp2
          go_ret
          exact⟨xak (HBD.out 3 (by rw[HE.out,if_pos s1]) (by decide)),below_drewN hC.S.bel _⟩
        ·as_aux_lemma=>
         have j4':decide ((t:Int)<4)=false:=by simp;omega
         have HE:Hid (rcE X.cz t x=if xbP t x.super=false then 3 else if x.slots<0\/6<x.slots then 3 else 0):=xmU hnb (by omega) HDU.out
         have HBB:Hid (xbP t x.super=decide (x.super=0\/4<=x.super/\x.super<t)):=rfl;clear HNW HDU
         by_cases s1:x.super<0
         ·go_wp2
          go_ret
          exact⟨xak (HBD.out 3 (by rw[HE.out,if_pos (by rw[HBB.out];simp;omega)]) (by decide)),hC.S.bel⟩
         have s1':decide (x.super<0)=false:=by simpa using s1
         by_cases s2:(t:Int)<=x.super
         ·go_wp2
          go_ret
          exact⟨xak (HBD.out 3 (by rw[HE.out,if_pos (by rw[HBB.out];simp;omega)]) (by decide)),hC.S.bel⟩
         have s2':decide ((t:Int)<=x.super)=false:=by simpa using s2
         by_cases s3:0<x.super/\x.super<4
         ·obtain⟨s3a,s3b⟩:=s3;go_wp2
          go_ret
          exact⟨xak (HBD.out 3 (by rw[HE.out,if_pos (by rw[HBB.out];simp;omega)]) (by decide)),hC.S.bel⟩
         have HB1:Hid (¬ xbP t x.super=false):=by show ¬ _;rw[HBB.out];simp;omega
         by_cases s4:x.slots<0
         ·by_cases s5:0<x.super
          ·have s6:decide (x.super<4)=false:=by simp;omega
           go_wp2
           go_ret
           exact⟨xak (HBD.out 3 (by rw[HE.out,if_neg HB1.out,if_pos (Or.inl s4)]) (by decide)),hC.S.bel⟩
          ·have s5':decide (0<x.super)=false:=by simpa using s5
           go_wp2
           go_ret
           exact⟨xak (HBD.out 3 (by rw[HE.out,if_neg HB1.out,if_pos (Or.inl s4)]) (by decide)),hC.S.bel⟩
         have s4':decide (x.slots<0)=false:=by simpa using s4
         by_cases s7:6<x.slots
         ·by_cases s5:0<x.super
          ·have s6:decide (x.super<4)=false:=by simp;omega
           go_wp2
           go_ret
           exact⟨xak (HBD.out 3 (by rw[HE.out,if_neg HB1.out,if_pos (Or.inr s7)]) (by decide)),hC.S.bel⟩
          ·have s5':decide (0<x.super)=false:=by simpa using s5
           go_wp2
           go_ret
           exact⟨xak (HBD.out 3 (by rw[HE.out,if_neg HB1.out,if_pos (Or.inr s7)]) (by decide)),hC.S.bel⟩
         have s7':decide (6<x.slots)=false:=by simpa using s7
         have HE0:Hid (rcE X.cz t x=0):=by show _=_;rw[HE.out,if_neg HB1.out,if_neg (by omega)]
         by_cases s5:0<x.super
         ·have s6:decide (x.super<4)=false:=by simp;omega
          go_wp2
          go_roundg (go-1)
          case measure=>omega
          case rel=>exact⟨t+1,by omega,by go_num,hC.S,HNX.out HE0.out⟩
         ·have s5':decide (0<x.super)=false:=by simpa using s5
          go_wp2
          go_roundg (go-1)
          case measure=>omega
          case rel=>exact⟨t+1,by omega,by go_num,hC.S,HNX.out HE0.out⟩
  ·as_aux_lemma=>
   obtain rfl:j=X.cz.length:=by omega
   have ho:=HD.out.slots;have HSE:Hid (∀ c,xaP X.cz c=xa8 X.cz c):=fun c=>(xeH ho hby c).symm
   have HCK:Hid (ClsOk X X.cz.length):=HD.out;clear HD;have a0:=hS.a0;go_wp2;clear a0
   go_loopg [134] X.cz.length (fun g i wr=>∃ j:Nat,j+g=X.cz.length/\i=.int .i64 j/\RtS w X (.slice ad X.cz.length cap) (.slice ah X.heap.length ch) (.slice (some ⟨bf,og,none⟩) 4 y1) B1 wr/\xdd X j)
   case atStart=>exact⟨0,by omega,rfl,hS,fun i x h=>by omega⟩
   case round=>
    clear hS;obtain⟨j,hg2,rfl,hS,hD⟩:=hrel;have HD:Hid (xdd X j):=hD;clear hD
    by_cases hj:j<X.cz.length
    ·as_aux_lemma=>
     have hj1:(j:Int)<(X.cz.length:Int):=by omega
     have hj0:(0:Int)<=(j:Int):=by omega
     obtain⟨x,hx⟩:∃ x,X.cz[j]?=some x:=⟨_,List.getElem?_eq_getElem hj⟩;obtain⟨b,o,rfl,-,v0,v1,v2,hxn,mv,v3,hMs⟩:=hrow j x hx;obtain⟨ad2,cap2,rfl,hl2,hcap2,hby2,hrow2⟩:=id hMs;unfold maxLen at hcap2;have HX:Hid (X.cz[j]?=some x):=hx;clear hx;simp only[Nat.add_zero] at v0;replace v0:=qzA hS.bel v0;replace v1:=qzA hS.bel v1;replace v2:=qzA hS.bel v2;replace v3:=qzA hS.bel v3
     have hC:RtC w X (.slice (some ⟨b,o,none⟩) X.cz.length cap) (.slice ah X.heap.length ch) (.slice (some ⟨bf,og,none⟩) 4 y1) B1 x (.slice ad2 x.mz.length cap2) wr.heap.size (wr.alloc (Obj.cells #[Value.string x.name,Value.int .i64 x.super,Value.int .i64 x.slots,Value.slice ad2 x.mz.length cap2] 54)):=
      ⟨hS.later (xaj _ _),by rw[xaa _ _ _ _ rfl];rfl,by rw[xaa _ _ _ _ rfl];rfl,by rw[xaa _ _ _ _ rfl];rfl,by rw[xaa _ _ _ _ rfl];rfl⟩
     have a0:=hC.S.a0;have a1:=hC.S.a1;have a2:=hC.S.a2;go_wp2_with fail;clear v0 v1 v2 v3 hS a0 a1 a2;generalize wr.heap.size=Bc at *;generalize (wr.alloc (Obj.cells #[Value.string x.name,Value.int .i64 x.super,Value.int .i64 x.slots,Value.slice ad2 x.mz.length cap2] 54))=W2 at *;refine (xcp X j _ _ _ (hh.later xaz hC.S.bel) (hH.later xaD hC.S.bel) ho).mono ?_;rintro e w2 ⟨rfl,hb⟩;rw[HSE.out];replace hC:=hC.later hb;clear hb;have HBD:Hid (∀ v:Int,rkE X j x=v->v≠0->v=R):=fun v e hv=>by rw[← HR.out];exact (xkk HZ.out HCK.out HX.out HD.out e hv).symm
     obtain⟨S,hSl⟩:∃ S,S=xa8 X.cz j:=⟨_,rfl⟩;have HSl:Hid (S=xa8 X.cz j):=hSl;rw[← hSl];clear hSl;have c3:=hC.c3
     by_cases s6:6<S
     ·go_wp2
      go_ret
      exact⟨xak (HBD.out 3 (by unfold rkE;rw[if_pos (by rw[← HSl.out];exact s6)]) (by decide)),hC.S.bel⟩
     have s6':decide (6<S)=false:=by simpa using s6
     have HS6:Hid (¬ 6<xa8 X.cz j):=by show ¬ _;rw[← HSl.out];exact s6
     by_cases m8:(8:Int)<(x.mz.length:Int)
     ·go_wp2
      go_ret
      exact⟨xak (HBD.out 5 (by unfold rkE;rw[if_neg (by have:=HS6.out;omega),if_pos (by omega)]) (by decide)),hC.S.bel⟩
     have m8':decide ((8:Int)<(x.mz.length:Int))=false:=by simpa using m8
     have HBM:Hid (∀ (i:Nat) (m:QM),x.mz[i]?=some m->(∀ k y,k<i->x.mz[k]?=some y->rmE X j x.mz k y=0)->∀ v:Int,rmE X j x.mz i m=v->v≠0->v=R):=fun i m hm hi v e hv=>by
      rw[← HR.out]
      exact (xm0 HZ.out HCK.out HX.out HD.out (by have:=HS6.out;omega) (by omega) hm hi e hv).symm
     have HKO:Hid ((∀ k y,x.mz[k]?=some y->rmE X j x.mz k y=0)->xdd X (j+1)):=fun h i y hi hy=>by
      by_cases hij:i=j
      ·subst hij;rw[HX.out] at hy
       cases hy
       unfold rkE;rw[if_neg (by have:=HS6.out;omega),if_neg (by omega)]
       exact xb1 h
      ·exact HD.out i y (by omega) hy
     clear HX HD HBD HSl;go_wp2;clear c3 s6 s6' m8 m8';obtain⟨go,hgo⟩:∃ go,go=gk:=⟨_,rfl⟩
     go_loopg [150] x.mz.length (fun g i wi=>∃ t:Nat,t+g=x.mz.length/\i=.int .i64 t/\RtC w X (.slice (some ⟨b,o,none⟩) X.cz.length cap) (.slice ah X.heap.length ch) (.slice (some ⟨bf,og,none⟩) 4 y1) B1 x (.slice ad2 x.mz.length cap2) Bc wi/\∀ k y,k<t->x.mz[k]?=some y->rmE X j x.mz k y=0)
     case atStart=>exact⟨0,by omega,rfl,hC,fun k y h=>by omega⟩
     case round=>
      clear hC;obtain⟨t,ht,rfl,hC,hE⟩:=hrel;have HE:Hid (∀ k y,k<t->x.mz[k]?=some y->rmE X j x.mz k y=0):=hE;clear hE
      by_cases htl:t<x.mz.length
      ·as_aux_lemma=>
       have ht1:(t:Int)<(x.mz.length:Int):=by omega
       have ht0:(0:Int)<=(t:Int):=by omega
       obtain⟨m,hm⟩:∃ m,x.mz[t]?=some m:=⟨_,List.getElem?_eq_getElem htl⟩;obtain⟨b2,o2,rfl,-,p0,p1,p2,p3,hmn,cv4,p4,hcc⟩:=hrow2 t m hm;obtain⟨ad4,cap4,rfl,hl4,hcap4,hby4,-⟩:=id hcc;unfold maxLen at hcap4;simp only[Nat.add_zero] at p0;replace p0:=qzA hC.S.bel p0;replace p1:=qzA hC.S.bel p1;replace p2:=qzA hC.S.bel p2;replace p3:=qzA hC.S.bel p3;replace p4:=qzA hC.S.bel p4;have HBX:Hid (∀ v:Int,rmE X j x.mz t m=v->v≠0->v=R):=HBM.out t m hm HE.out
       have HNX:Hid (rmE X j x.mz t m=0->∀ k y,k<t+1->x.mz[k]?=some y->rmE X j x.mz k y=0):=fun h k y hk hy=>by
        by_cases hkt:k=t
        ·subst hkt;rw[hm] at hy;cases hy;exact h
        ·exact HE.out k y (by omega) hy
       clear HE hm
       have hQ:RtM w X (.slice (some ⟨b,o,none⟩) X.cz.length cap) (.slice ah X.heap.length ch) (.slice (some ⟨bf,og,none⟩) 4 y1) B1 x (.slice (some ⟨b2,o2,none⟩) x.mz.length cap2) Bc m (.slice ad4 m.code.length cap4) wr.heap.size (wr.alloc (Obj.cells #[Value.string m.name,Value.int .i64 m.args,Value.int .i64 m.temps,Value.int .i64 m.prim,Value.slice ad4 m.code.length cap4] 59)):=
        ⟨hC.later (xaj _ _),by rw[xaa _ _ _ _ rfl];rfl,by rw[xaa _ _ _ _ rfl];rfl,by rw[xaa _ _ _ _ rfl];rfl,by rw[xaa _ _ _ _ rfl];rfl,by rw[xaa _ _ _ _ rfl];rfl⟩
       go_upto_region 37 with (fail)
       clear p0 p1 p2 p3 p4 hC;generalize wr.heap.size=Bm at *;generalize (wr.alloc (Obj.cells #[Value.string m.name,Value.int .i64 m.args,Value.int .i64 m.temps,Value.int .i64 m.prim,Value.slice ad4 m.code.length cap4] 59))=W3 at *;have c3:=hQ.C.c3;have q0:=hQ.q0
       cases hah:xdQ x.mz t m
       ·as_aux_lemma=>
        cases t with
        | zero=>cases hah
        | succ t=>
         obtain⟨p,hp⟩:∃ p,x.mz[t]?=some p:=⟨_,List.getElem?_eq_getElem (by omega)⟩
         have hlt:Op.bytesLess p.name.toList m.name.toList=false:=by
          have:=hah;rw[xfa hp] at this;exact this
         obtain⟨b3,o3,e3,-,p0,-⟩:=hrow2 t p hp
         cases e3
         simp only[Nat.add_zero] at p0;replace p0:=qzA hQ.C.S.bel p0;have hpos:(0:Int)<((t+1:Nat):Int):=by omega
         have hsub:IntKind.i64.wrap (((t+1:Nat):Int)-1)=(t:Int):=by rw[IntKind.wrap_i64];omega
         have hkk:(t:Int)<(x.mz.length:Int):=by omega
         have HLF:Hid (rmE X j x.mz (t+1) m=7):=xlM hah;clear hp hah
         go_quiet (fail)
         go_wp2
         go_ret
         exact⟨xak (HBX.out 7 HLF.out (by decide)),below_drewN hQ.C.S.bel _⟩
       ·go_cut [168] (fun s wx=>s=.bool false/\RtM w X (.slice (some ⟨b,o,none⟩) X.cz.length cap) (.slice ah X.heap.length ch) (.slice (some ⟨bf,og,none⟩) 4 y1) B1 x (.slice (some ⟨b2,o2,none⟩) x.mz.length cap2) Bc m (.slice ad4 m.code.length cap4) Bm wx)
        case first=>
         as_aux_lemma=>
         cases t with
         | zero=>
          go_quiet (fail)
          go_wp2_with fail
          go_meet
          case rel=>exact⟨rfl,hQ.later (below_drewN (qzL _ _) _)⟩
         | succ t=>
          obtain⟨p,hp⟩:∃ p,x.mz[t]?=some p:=⟨_,List.getElem?_eq_getElem (by omega)⟩
          have hlt:Op.bytesLess p.name.toList m.name.toList=true:=by
           have:=hah;rw[xfa hp] at this;exact this
          obtain⟨b3,o3,e3,-,p0,-⟩:=hrow2 t p hp
          cases e3
          simp only[Nat.add_zero] at p0;replace p0:=qzA hQ.C.S.bel p0;have hpos:(0:Int)<((t+1:Nat):Int):=by omega
          have hsub:IntKind.i64.wrap (((t+1:Nat):Int)-1)=(t:Int):=by rw[IntKind.wrap_i64];omega
          have hkk:(t:Int)<(x.mz.length:Int):=by omega
          clear hp hah
          go_quiet (fail)
          go_wp2_with fail
          go_meet
          case rel=>exact⟨rfl,hQ.later (below_drewN (qzL _ _) _)⟩
        case rest=>
         as_aux_lemma=>
         clear hQ c3 q0;obtain⟨rfl,hQ⟩:=hcut;have f0:=hQ.C.S.f0;obtain⟨-,-,mv3,u3,hM3⟩:=hQ.C.S.first (k:=3) rfl
         obtain⟨ad3,cap3,rfl,hle3,hcap3,-,hrow3⟩:∃ a c,mv3=.slice a 5 c/\_:=hM3
         obtain⟨b3,o3,rfl⟩:∃ b o,ad3=some ⟨b,o,none⟩:=by
          obtain⟨b,o,e,-⟩:=hrow3 0 _ rfl
          exact⟨b,o,e⟩
         unfold maxLen at hcap3;have u3':=u3;simp only[Nat.reduceMul] at u3';go_wp2;clear u3 u3' f0;obtain⟨gm,hgm⟩:∃ gm,gm=gk:=⟨_,rfl⟩
         go_loopg [14,175] 5 (fun g gd i wi=>∃ u:Nat,u+g=5/\gd=.bool ((xfw.take u).any (xfh j m))/\i=.int .i64 u/\RtM w X (.slice (some ⟨b,o,none⟩) X.cz.length cap) (.slice ah X.heap.length ch) (.slice (some ⟨bf,og,none⟩) 4 y1) B1 x (.slice (some ⟨b2,o2,none⟩) x.mz.length cap2) Bc m (.slice ad4 m.code.length cap4) Bm wi/\xbd Tru wi (.slice (some ⟨b3,o3,none⟩) 5 cap3) xfw)
         case atStart=>exact⟨0,by omega,rfl,rfl,hQ,⟨_,_,rfl,hle3,by unfold maxLen;omega,by decide,hrow3⟩⟩
         case round=>
          clear hQ hrow3;obtain⟨u,hu,rfl,rfl,hQ,hM3⟩:=hrel
          by_cases hul:u<5
          ·as_aux_lemma=>
           have hu1:(u:Int)<5:=by omega
           have hu0:(0:Int)<=(u:Int):=by omega
           obtain⟨p,hp⟩:∃ p,xfw[u]?=some p:=⟨_,List.getElem?_eq_getElem (show u<xfw.length from hul)⟩
           obtain⟨a5,c5,e5,-,-,-,hrow3⟩:=hM3;obtain⟨b6,o6,e6,-,p0,p1,p2,p3,-,cv6,p4,hcc6⟩:=hrow3 u p hp;simp only[Value.slice.injEq] at e5;obtain⟨rfl,-,-⟩:=e5
           cases e6
           obtain⟨ad6,cap6,rfl⟩:=hcc6.get;simp only[Nat.add_zero] at p0;have hM3:Hid (∀ w',Below wr.heap.size wr w'->xbd Tru w' (.slice (some ⟨b3,o3,none⟩) 5 cap3) xfw):=fun w' hb=>IsRow.later ⟨_,_,rfl,hle3,by unfold maxLen;omega,by decide,hrow3⟩ xbi hb
           have HF:Hid ((xfw.take (u+1)).any (xfh j m)=((xfw.take u).any (xfh j m) || xfh j m p)):=xgg hp
           have HP:Hid (xfh j m p=(decide (j=3) && eqN p.name m.name && decide (p.prim=m.prim) && decide (m.args=1) && decide (m.temps=0) && decide (m.code.length=0))):=rfl;clear hrow3 hp hcc6;have hb1:=xaj wr (Obj.cells #[Value.string p.name,Value.int .i64 p.args,Value.int .i64 p.temps,Value.int .i64 p.prim,Value.slice ad6 p.code.length cap6] 59);have q0:=qzA hb1 hQ.q0;have q1:=qzA hb1 hQ.q1;have q2:=qzA hb1 hQ.q2;have q3:=qzA hb1 hQ.q3;have q4:=qzA hb1 hQ.q4;have HEND:Hid (∀ v:Bool,v=((xfw.take u).any (xfh j m) || xfh j m p)->∃ u':Nat,u'+(gk-1)=5/\Value.bool v=.bool ((xfw.take u').any (xfh j m))/\Value.int .i64 ((u:Int)+1)=.int .i64 u'/\RtM w X (.slice (some ⟨b,o,none⟩) X.cz.length cap) (.slice ah X.heap.length ch) (.slice (some ⟨bf,og,none⟩) 4 y1) B1 x (.slice (some ⟨b2,o2,none⟩) x.mz.length cap2) Bc m (.slice ad4 m.code.length cap4) Bm (wr.alloc (Obj.cells #[Value.string p.name,Value.int .i64 p.args,Value.int .i64 p.temps,Value.int .i64 p.prim,Value.slice ad6 p.code.length cap6] 59))/\xbd Tru (wr.alloc (Obj.cells #[Value.string p.name,Value.int .i64 p.args,Value.int .i64 p.temps,Value.int .i64 p.prim,Value.slice ad6 p.code.length cap6] 59)) (.slice (some ⟨b3,o3,none⟩) 5 cap3) xfw):=fun v hv=>⟨u+1,by omega,by rw[HF.out,hv],by go_num,hQ.later hb1,hM3.out _ hb1⟩
           clear HF hM3;generalize (xfw.take u).any (xfh j m)=gd at *;clear hQ
           by_cases gt:gd=true
           ·subst gt;go_wp2
            go_roundg (gk-1)
            case measure=>omega
            case rel=>exact HEND.out true (by simp)
           obtain rfl:gd=false:=by simpa using gt
           clear gt
           by_cases j3:(j:Int)=3
           case neg=>
            have j3':((j:Int) == 3)=false:=beq_eq_false_iff_ne.2 j3;go_wp2
            go_roundg (gk-1)
            case measure=>omega
            case rel=>exact HEND.out false (by rw[HP.out,decide_eq_false (by omega)];simp)
           have j3':((j:Int) == 3)=true:=beq_iff_eq.2 j3;have j3n:Hid (decide (j=3)=true):=decide_eq_true (by omega)
           clear j3
           cases hen:eqN p.name m.name
           case false=>
            have hen':(p.name.toList == m.name.toList)=false:=hen;go_wp2
            go_roundg (gk-1)
            case measure=>omega
            case rel=>exact HEND.out false (by rw[HP.out,hen];simp)
           have hen':(p.name.toList == m.name.toList)=true:=hen
           by_cases hpp:p.prim=m.prim
           case neg=>
            have hpp':(p.prim == m.prim)=false:=beq_eq_false_iff_ne.2 hpp;go_wp2
            go_roundg (gk-1)
            case measure=>omega
            case rel=>exact HEND.out false (by rw[HP.out,decide_eq_false hpp];simp)
           have hpp':(p.prim == m.prim)=true:=beq_iff_eq.2 hpp;have hppn:Hid (decide (p.prim=m.prim)=true):=decide_eq_true hpp;clear hpp
           by_cases ha1:m.args=1
           case neg=>
            have ha1':(m.args == 1)=false:=beq_eq_false_iff_ne.2 ha1;go_wp2
            go_roundg (gk-1)
            case measure=>omega
            case rel=>exact HEND.out false (by rw[HP.out,decide_eq_false ha1];simp)
           have ha1':(m.args == 1)=true:=beq_iff_eq.2 ha1;have ha1n:Hid (decide (m.args=1)=true):=decide_eq_true ha1;clear ha1
           by_cases ht0':m.temps=0
           case neg=>
            have ht1':(m.temps == 0)=false:=beq_eq_false_iff_ne.2 ht0';go_wp2
            go_roundg (gk-1)
            case measure=>omega
            case rel=>exact HEND.out false (by rw[HP.out,decide_eq_false ht0'];simp)
           have ht1':(m.temps == 0)=true:=beq_iff_eq.2 ht0';have ht0n:Hid (decide (m.temps=0)=true):=decide_eq_true ht0';clear ht0'
           by_cases hcl:m.code.length=0
           case neg=>
            have hcl':((m.code.length:Int) == 0)=false:=beq_eq_false_iff_ne.2 (by omega)
            go_wp2
            go_roundg (gk-1)
            case measure=>omega
            case rel=>exact HEND.out false (by rw[HP.out,decide_eq_false hcl];simp)
           have hcl':((m.code.length:Int) == 0)=true:=beq_iff_eq.2 (by omega)
           have hcln:Hid (decide (m.code.length=0)=true):=decide_eq_true hcl;clear hcl;go_wp2
           go_roundg (gk-1)
           case measure=>omega
           case rel=>exact HEND.out true (by rw[HP.out,j3n.out,hen,hppn.out,ha1n.out,ht0n.out,hcln.out];rfl)
          ·as_aux_lemma=>
           obtain rfl:u=5:=by omega
           have HPB:Hid ((xfw.take 5).any (xfh j m)=xgz j m):=rfl;generalize (xfw.take 5).any (xfh j m)=gd at *;clear hM3;have a0:=hQ.C.S.a0;have a1:=hQ.C.S.a1;have a2:=hQ.C.S.a2;have q0:=hQ.q0;have q1:=hQ.q1;have q2:=hQ.q2;have q3:=hQ.q3;have q4:=hQ.q4;go_wp2_with fail;refine (xja X j m _ _ _ _ (hh.later xaz hQ.C.S.bel) (hH.later xaD hQ.C.S.bel) (hcc.later xbl hQ.C.S.bel) hmn ho).mono ?_;rintro e w5 ⟨rfl,hb⟩;replace hQ:=hQ.later hb;clear hb a0 a1 a2 q0 q1 q2 q3 q4;have HRM:Hid (xgz j m=false->rmE X j x.mz t m=(xdY (xa8 X.cz j) X.cz.length j m).1):=fun h=>xlR hah h
           have HRP:Hid (xgz j m=true->rmE X j x.mz t m=0):=fun h=>xnf hah h
           generalize xdY (xa8 X.cz j) X.cz.length j m=F at *;obtain⟨f1,f2⟩:=F;have hb1:=xaj w5 (Obj.cells #[Value.int .i64 f1,Value.int .i64 f2] 61)
           cases gd
           ·by_cases f0:f1=0
            ·have f0':(f1 != 0)=false:=by simp[f0]
             have HZ0:Hid (rmE X j x.mz t m=0):=by show _=_;rw[HRM.out HPB.out.symm];exact f0
             clear f0;go_wp2
             go_roundg (gm-1)
             case measure=>omega
             case rel=>exact⟨t+1,by omega,by go_num,hQ.C.later hb1,HNX.out HZ0.out⟩
            ·have f0':(f1 != 0)=true:=by simpa using f0
             have HZ0:Hid (f1=R):=HBX.out f1 (HRM.out HPB.out.symm) f0;clear f0;go_wp2
             go_ret
             exact⟨xak HZ0.out,xah hQ.C.S.bel hb1⟩
           ·have HZ0:Hid (rmE X j x.mz t m=0):=HRP.out HPB.out.symm;go_wp2
            go_roundg (gm-1)
            case measure=>omega
            case rel=>exact⟨t+1,by omega,by go_num,hQ.C.later hb1,HNX.out HZ0.out⟩
      ·obtain rfl:t=x.mz.length:=by omega
       have HKK:Hid (xdd X (j+1)):=HKO.out fun k y hy=>HE.out k y (xae hy) hy
       go_wp2
       go_roundg (go-1)
       case measure=>omega
       case rel=>exact⟨j+1,by omega,by go_num,hC.S,HKK.out⟩
    ·as_aux_lemma=>
     obtain rfl:j=X.cz.length:=by omega
     have HMK:Hid (xdd X X.cz.length):=HD.out;clear HD hrow;have a1:=hS.a1;go_wp2;clear a1
     go_loopg [233] X.heap.length (fun g i wr=>∃ j:Nat,j+g=X.heap.length/\i=.int .i64 j/\RtS w X (.slice ad X.cz.length cap) (.slice ah X.heap.length ch) (.slice (some ⟨bf,og,none⟩) 4 y1) B1 wr/\xhb X j)
     case atStart=>exact⟨0,by omega,rfl,hS,fun i x h=>by omega⟩
     case round=>
      clear hS;obtain⟨j,hg3,rfl,hS,hD⟩:=hrel;have HD:Hid (xhb X j):=hD;clear hD
      by_cases hj:j<X.heap.length
      ·as_aux_lemma=>
       have hj1:(j:Int)<(X.heap.length:Int):=by omega
       have hj0:(0:Int)<=(j:Int):=by omega
       obtain⟨x,hx⟩:∃ x,X.heap[j]?=some x:=⟨_,List.getElem?_eq_getElem hj⟩;obtain⟨b,o,rfl,-,v0,sv,v1,hV⟩:=hrowH j x hx;obtain⟨ad2,cap2,rfl,hl2,hcap2,hby2,hrow2⟩:=id hV;unfold maxLen at hcap2;have HBD:Hid (∀ v:Int,roE X j x=v->v≠0->v=R):=fun v e hv=>by rw[← HR.out];exact (xkg HZ.out HCK.out HMK.out hx HD.out e hv).symm
       have HBV:Hid (¬ (xbP X.cz.length x.cls=false\/(x.slots.length:Int)≠xa8 X.cz x.cls)->∀ (i:Nat) (y:QV),x.slots[i]?=some y->(∀ k z,k<i->x.slots[k]?=some z->xas X.heap.length z=0)->xas X.heap.length y≠0->xas X.heap.length y=R):=fun f i y hy hi hv=>by rw[← HR.out];exact (xmW HZ.out HCK.out HMK.out hx HD.out f hy hi hv).symm
       have HKO:Hid (¬ (xbP X.cz.length x.cls=false\/(x.slots.length:Int)≠xa8 X.cz x.cls)->(∀ k z,x.slots[k]?=some z->xas X.heap.length z=0)->xhb X (j+1)):=fun f h i y hi hy=>by
        by_cases hij:i=j
        ·subst hij;rw[hx] at hy
         cases hy
         unfold roE;rw[if_neg f]
         exact xb1 h
        ·exact HD.out i y (by omega) hy
       clear HD hx;simp only[Nat.add_zero] at v0;replace v0:=qzA hS.bel v0;replace v1:=qzA hS.bel v1
       have hO:RtO w X (.slice ad X.cz.length cap) (.slice (some ⟨b,o,none⟩) X.heap.length ch) (.slice (some ⟨bf,og,none⟩) 4 y1) B1 x (.slice ad2 x.slots.length cap2) wr.heap.size (wr.alloc (Obj.cells #[Value.int .i64 x.cls,Value.slice ad2 x.slots.length cap2] 64)):=
        ⟨hS.later (xaj _ _),by rw[xaa _ _ _ _ rfl];rfl,by rw[xaa _ _ _ _ rfl];rfl⟩
       go_upto_region 53 with (fail)
       clear v0 v1 hS;generalize wr.heap.size=Bo at *;generalize (wr.alloc (Obj.cells #[Value.int .i64 x.cls,Value.slice ad2 x.slots.length cap2] 64))=W2 at *;have HB:Hid (xbP X.cz.length x.cls=decide (x.cls=0\/4<=x.cls/\x.cls<X.cz.length)):=rfl;have H8:Hid (xbP X.cz.length x.cls=false->8=R):=fun h=>HBD.out 8 (by unfold roE;rw[if_pos (Or.inl h)]) (by decide)
       have o0:=hO.o0;have o1:=hO.o1;have a0:=hO.S.a0;have a1:=hO.S.a1;have a2:=hO.S.a2;have hn4:=HZ.out.few
       by_cases c0:x.cls<0
       ·go_quiet (fail)
        go_wp2
        go_ret
        exact⟨xak (H8.out (by rw[HB.out];simp;omega)),below_drewN hO.S.bel _⟩
       have c0':decide (x.cls<0)=false:=by simpa using c0
       by_cases c1:0<x.cls/\x.cls<4
       ·obtain⟨c1a,c1b⟩:=c1
        go_quiet (fail)
        go_wp2
        go_ret
        exact⟨xak (H8.out (by rw[HB.out];simp;omega)),below_drewN hO.S.bel _⟩
       by_cases c2:(X.cz.length:Int)<=x.cls
       ·have c3:0<x.cls:=by omega
        have c4:decide (x.cls<4)=false:=by simp;omega
        go_quiet (fail)
        go_wp2
        go_ret
        exact⟨xak (H8.out (by rw[HB.out];simp;omega)),below_drewN hO.S.bel _⟩
       have c2':decide ((X.cz.length:Int)<=x.cls)=false:=by simpa using c2
       have HBT:Hid (xbP X.cz.length x.cls=true):=by show _=_;rw[HB.out];simp;omega
       obtain⟨S,hSl⟩:∃ S,xa8 X.cz x.cls=S:=⟨_,rfl⟩;obtain⟨bb,hbb⟩:∃ bb,bb=((x.slots.length:Int) != S):=⟨_,rfl⟩
       go_cut [267] (fun s wx=>s=.bool bb/\RtO w X (.slice ad X.cz.length cap) (.slice (some ⟨b,o,none⟩) X.heap.length ch) (.slice (some ⟨bf,og,none⟩) 4 y1) B1 x (.slice ad2 x.slots.length cap2) Bo wx)
       case first=>
        as_aux_lemma=>
        by_cases c3:0<x.cls
        ·as_aux_lemma=>
         have c4:decide (x.cls<4)=false:=by simp;omega
         have hSd:=roA (hO.later (qzL _ _).drew);clear o0 o1 a0 a1 a2 hO
         go_region_held3 (fun w'=>w'.cell? ⟨Bo,0,none⟩=some (.int .i64 x.cls)/\w'.cell? ⟨Bo,1,none⟩=some (.slice ad2 x.slots.length cap2)/\w'.cell? ⟨w.heap.size,0,none⟩=some (.slice ad X.cz.length cap)/\w'.cell? ⟨w.heap.size,1,none⟩=some (.slice (some ⟨b,o,none⟩) X.heap.length ch)/\w'.cell? ⟨w.heap.size,2,none⟩=some (.int .i64 X.ez)/\RtO w X (.slice ad X.cz.length cap) (.slice (some ⟨b,o,none⟩) X.heap.length ch) (.slice (some ⟨bf,og,none⟩) 4 y1) B1 x (.slice ad2 x.slots.length cap2) Bo w')
          (first | with_reducible exact hSd | with_reducible exact roB (‹_/\_/\_/\_/\_/\RtO _ _ _ _ _ _ _ _ _ _›) hb)
          (first | (go_at_call 16;refine (xiW X x.cls _ _ _ (hh.later xaz (‹_/\_/\_/\_/\_/\RtO _ _ _ _ _ _ _ _ _ _›).2.2.2.2.2.S.bel) (hH.later xaD (‹_/\_/\_/\_/\_/\RtO _ _ _ _ _ _ _ _ _ _›).2.2.2.2.2.S.bel) ho hby S hSl).mono ?_;rintro e w' ⟨rfl,hb⟩))
         go_wp2_with fail
         go_meet
         case rel=>exact⟨by rw[hbb],(‹_/\_/\_/\_/\_/\RtO _ _ _ _ _ _ _ _ _ _›).2.2.2.2.2⟩
        ·as_aux_lemma=>
         have c3':decide (0<x.cls)=false:=by simpa using c3
         have hOd:=hO.later (qzL _ _).drew;clear hO o0 o1 a0 a1 a2;have o0:=hOd.o0;have o1:=hOd.o1;have a0:=hOd.S.a0;have a1:=hOd.S.a1;have a2:=hOd.S.a2;have hSd:=roA hOd;clear o0 o1 a0 a1 a2;refine wp_region_held_drew (S:=fun w'=>w'.cell? ⟨Bo,0,none⟩=some (.int .i64 x.cls)/\w'.cell? ⟨Bo,1,none⟩=some (.slice ad2 x.slots.length cap2)/\w'.cell? ⟨w.heap.size,0,none⟩=some (.slice ad X.cz.length cap)/\w'.cell? ⟨w.heap.size,1,none⟩=some (.slice (some ⟨b,o,none⟩) X.heap.length ch)/\w'.cell? ⟨w.heap.size,2,none⟩=some (.int .i64 X.ez)/\RtO w X (.slice ad X.cz.length cap) (.slice (some ⟨b,o,none⟩) X.heap.length ch) (.slice (some ⟨bf,og,none⟩) 4 y1) B1 x (.slice ad2 x.slots.length cap2) Bo w') (by kernel_rfl) hSd (fun hHeld=>?_)
         refine wpAnyH_take (i:=0) (oi:=?oo0) (v:=?vv0) ?hi0 (by kernel_rfl) (by kernel_rfl) (by kernel_rfl) ?hq0 ?hy0 (by assumption) ?rest0
         case hi0=>simp only[List.getElem?_toArray,List.getElem?_cons_succ,List.getElem?_cons_zero];rfl
         case hq0=>exact fun _ _ _ h=>h
         case hy0=>(refine Or.inl ⟨by rfl,?_⟩;intro w hSw;(try dsimp only at hSw);go_simp;try with_reducible rfl)
         simp only[Act.put,List.setIfInBounds_toArray,List.set_cons_zero,List.set_cons_succ];refine wpAnyH_take (i:=1) (oi:=?oo1) (v:=?vv1) ?hi1 (by kernel_rfl) (by kernel_rfl) (by kernel_rfl) ?hq1 ?hy1 (by assumption) ?rest1
         case hi1=>simp only[List.getElem?_toArray,List.getElem?_cons_succ,List.getElem?_cons_zero];rfl
         case hq1=>exact fun _ _ _ h=>h
         case hy1=>(refine Or.inl ⟨by rfl,?_⟩;intro w hSw;(try dsimp only at hSw);go_simp;try with_reducible rfl)
         simp only[Act.put,List.setIfInBounds_toArray,List.set_cons_zero,List.set_cons_succ];refine wpAnyH_take (i:=2) (oi:=?oo2) (v:=?vv2) ?hi2 (by kernel_rfl) (by kernel_rfl) (by kernel_rfl) ?hq2 ?hy2 (by assumption) ?rest2
         case hi2=>simp only[List.getElem?_toArray,List.getElem?_cons_succ,List.getElem?_cons_zero];rfl
         case hq2=>exact fun _ _ _ h=>h
         case hy2=>(refine Or.inl ⟨by rfl,?_⟩;intro w hSw;(try dsimp only at hSw);go_simp;try with_reducible rfl)
         simp only[Act.put,List.setIfInBounds_toArray,List.set_cons_zero,List.set_cons_succ];refine wpAnyH_take (i:=3) (oi:=?oo3) (v:=?vv3) ?hi3 (by kernel_rfl) (by kernel_rfl) (by kernel_rfl) ?hq3 ?hy3 (by assumption) ?rest3
         case hi3=>simp only[List.getElem?_toArray,List.getElem?_cons_succ,List.getElem?_cons_zero];rfl
         case hq3=>exact fun _ _ _ h=>h
         case hy3=>(refine Or.inl ⟨by rfl,?_⟩;intro w hSw;(try dsimp only at hSw);go_simp;try with_reducible rfl)
         simp only[Act.put,List.setIfInBounds_toArray,List.set_cons_zero,List.set_cons_succ];refine wpAnyH_take (i:=4) (oi:=?oo4) (v:=?vv4) ?hi4 (by kernel_rfl) (by kernel_rfl) (by kernel_rfl) ?hq4 ?hy4 (by assumption) ?rest4
         case hi4=>simp only[List.getElem?_toArray,List.getElem?_cons_succ,List.getElem?_cons_zero];rfl
         case hq4=>exact fun _ _ _ h=>h
         case hy4=>(refine Or.inl ⟨by rfl,?_⟩;intro w hSw;(try dsimp only at hSw);go_simp;try with_reducible rfl)
         simp only[Act.put,List.setIfInBounds_toArray,List.set_cons_zero,List.set_cons_succ];refine wpAnyH_take (i:=5) (oi:=?oo5) (v:=?vv5) ?hi5 (by kernel_rfl) (by kernel_rfl) (by kernel_rfl) ?hq5 ?hy5 (by assumption) ?rest5
         case hi5=>simp only[List.getElem?_toArray,List.getElem?_cons_succ,List.getElem?_cons_zero];rfl
         case hq5=>exact fun _ _ _ h=>h
         case hy5=>(refine Or.inl ⟨by rfl,?_⟩;intro w hSw;(try dsimp only at hSw);go_simp;try with_reducible rfl)
         simp only[Act.put,List.setIfInBounds_toArray,List.set_cons_zero,List.set_cons_succ];refine wpAnyH_take (i:=6) (oi:=?oo6) (v:=?vv6) ?hi6 (by kernel_rfl) (by kernel_rfl) (by kernel_rfl) ?hq6 ?hy6 (by assumption) ?rest6
         case hi6=>simp only[List.getElem?_toArray,List.getElem?_cons_succ,List.getElem?_cons_zero];rfl
         case hq6=>exact fun _ _ _ h=>h
         case hy6=>(refine Or.inl ⟨by rfl,?_⟩;intro w hSw;(try dsimp only at hSw);go_simp;try with_reducible rfl)
         simp only[Act.put,List.setIfInBounds_toArray,List.set_cons_zero,List.set_cons_succ];refine wpAnyH_take (i:=7) (oi:=?oo7) (v:=?vv7) ?hi7 (by kernel_rfl) (by kernel_rfl) (by kernel_rfl) ?hq7 ?hy7 (by assumption) ?rest7
         case hi7=>simp only[List.getElem?_toArray,List.getElem?_cons_succ,List.getElem?_cons_zero];rfl
         case hq7=>exact fun _ _ _ h=>h
         case hy7=>(refine Or.inl ⟨by rfl,?_⟩;intro w hSw;(try dsimp only at hSw);go_simp;try with_reducible rfl)
         simp only[Act.put,List.setIfInBounds_toArray,List.set_cons_zero,List.set_cons_succ];refine wpAnyH_take (i:=8) (oi:=?oo8) (v:=undef) ?hi8 (by kernel_rfl) (by kernel_rfl) (by kernel_rfl) ?hq8 ?hy8 (by assumption) ?rest8
         case hi8=>simp only[List.getElem?_toArray,List.getElem?_cons_succ,List.getElem?_cons_zero];rfl
         case hq8=>exact fun _ _ _ h=>h
         case hy8=>exact Or.inr ⟨by rfl,rfl⟩
         simp only[Act.put,List.setIfInBounds_toArray,List.set_cons_zero,List.set_cons_succ];refine wpAnyH_take (i:=9) (oi:=?oo9) (v:=undef) ?hi9 (by kernel_rfl) (by kernel_rfl) (by kernel_rfl) ?hq9 ?hy9 (by assumption) ?rest9
         case hi9=>simp only[List.getElem?_toArray,List.getElem?_cons_succ,List.getElem?_cons_zero];rfl
         case hq9=>exact fun _ _ _ h=>h
         case hy9=>exact Or.inr ⟨by rfl,rfl⟩
         simp only[Act.put,List.setIfInBounds_toArray,List.set_cons_zero,List.set_cons_succ];refine wpAnyH_take (i:=10) (oi:=?oo10) (v:=undef) ?hi10 (by kernel_rfl) (by kernel_rfl) (by kernel_rfl) ?hq10 ?hy10 (by assumption) ?rest10
         case hi10=>simp only[List.getElem?_toArray,List.getElem?_cons_succ,List.getElem?_cons_zero];rfl
         case hq10=>exact fun _ _ _ h=>h
         case hy10=>exact Or.inr ⟨by rfl,rfl⟩
         simp only[Act.put,List.setIfInBounds_toArray,List.set_cons_zero,List.set_cons_succ];refine wpAnyH_take (i:=11) (oi:=?oo11) (v:=?vv11) ?hi11 (by kernel_rfl) (by kernel_rfl) (by kernel_rfl) ?hq11 ?hy11 (by assumption) ?rest11
         case hi11=>simp only[List.getElem?_toArray,List.getElem?_cons_succ,List.getElem?_cons_zero];rfl
         case hq11=>exact fun _ _ _ h=>h
         case hy11=>(refine Or.inl ⟨by rfl,?_⟩;intro w hSw;(try dsimp only at hSw);go_simp;try with_reducible rfl)
         simp only[Act.put,List.setIfInBounds_toArray,List.set_cons_zero,List.set_cons_succ];refine wpAnyH_take (i:=12) (oi:=?oo12) (v:=?vv12) ?hi12 (by kernel_rfl) (by kernel_rfl) (by kernel_rfl) ?hq12 ?hy12 (by assumption) ?rest12
         case hi12=>simp only[List.getElem?_toArray,List.getElem?_cons_succ,List.getElem?_cons_zero];rfl
         case hq12=>exact fun _ _ _ h=>h
         case hy12=>(refine Or.inl ⟨by rfl,?_⟩;intro w hSw;(try dsimp only at hSw);go_simp;try with_reducible rfl)
         simp only[Act.put,List.setIfInBounds_toArray,List.set_cons_zero,List.set_cons_succ];refine wpAnyH_take (i:=13) (oi:=?oo13) (v:=?vv13) ?hi13 (by kernel_rfl) (by kernel_rfl) (by kernel_rfl) ?hq13 ?hy13 (by assumption) ?rest13
         case hi13=>simp only[List.getElem?_toArray,List.getElem?_cons_succ,List.getElem?_cons_zero];rfl
         case hq13=>exact fun _ _ _ h=>h
         case hy13=>(refine Or.inl ⟨by rfl,?_⟩;intro w hSw;(try dsimp only at hSw);go_simp;try with_reducible rfl)
         simp only[Act.put,List.setIfInBounds_toArray,List.set_cons_zero,List.set_cons_succ];refine wpAnyH_take (i:=14) (oi:=?oo14) (v:=?vv14) ?hi14 (by kernel_rfl) (by kernel_rfl) (by kernel_rfl) ?hq14 ?hy14 (by assumption) ?rest14
         case hi14=>simp only[List.getElem?_toArray,List.getElem?_cons_succ,List.getElem?_cons_zero];rfl
         case hq14=>exact fun _ _ _ h=>h
         case hy14=>(refine Or.inl ⟨by rfl,?_⟩;intro w hSw;(try dsimp only at hSw);go_simp;try with_reducible rfl)
         simp only[Act.put,List.setIfInBounds_toArray,List.set_cons_zero,List.set_cons_succ];refine wpAnyH_take (i:=15) (oi:=?oo15) (v:=?vv15) ?hi15 (by kernel_rfl) (by kernel_rfl) (by kernel_rfl) ?hq15 ?hy15 (by assumption) ?rest15
         case hi15=>simp only[List.getElem?_toArray,List.getElem?_cons_succ,List.getElem?_cons_zero];rfl
         case hq15=>exact fun _ _ _ h=>h
         case hy15=>(refine Or.inl ⟨by rfl,?_⟩;intro w hSw;(try dsimp only at hSw);go_simp;try with_reducible rfl)
         simp only[Act.put,List.setIfInBounds_toArray,List.set_cons_zero,List.set_cons_succ];refine wpAnyH_take (i:=16) (oi:=?oo16) (v:=?vv16) ?hi16 (by kernel_rfl) (by kernel_rfl) (by kernel_rfl) ?hq16 ?hy16 (by assumption) ?rest16
         case hi16=>simp only[List.getElem?_toArray,List.getElem?_cons_succ,List.getElem?_cons_zero];rfl
         case hq16=>exact fun _ _ _ h=>h
         case hy16=>(refine Or.inl ⟨by rfl,?_⟩;intro w hSw;(try dsimp only at hSw);go_simp;try with_reducible rfl)
         simp only[Act.put,List.setIfInBounds_toArray,List.set_cons_zero,List.set_cons_succ];refine wpAnyH_take (i:=17) (oi:=?oo17) (v:=?vv17) ?hi17 (by kernel_rfl) (by kernel_rfl) (by kernel_rfl) ?hq17 ?hy17 (by assumption) ?rest17
         case hi17=>simp only[List.getElem?_toArray,List.getElem?_cons_succ,List.getElem?_cons_zero];rfl
         case hq17=>exact fun _ _ _ h=>h
         case hy17=>(refine Or.inl ⟨by rfl,?_⟩;intro w hSw;(try dsimp only at hSw);go_simp;try with_reducible rfl)
         simp only[Act.put,List.setIfInBounds_toArray,List.set_cons_zero,List.set_cons_succ];refine wpAnyH_take (i:=18) (oi:=?oo18) (v:=?vv18) ?hi18 (by kernel_rfl) (by kernel_rfl) (by kernel_rfl) ?hq18 ?hy18 (by assumption) ?rest18
         case hi18=>simp only[List.getElem?_toArray,List.getElem?_cons_succ,List.getElem?_cons_zero];rfl
         case hq18=>exact fun _ _ _ h=>h
         case hy18=>(refine Or.inl ⟨by rfl,?_⟩;intro w hSw;(try dsimp only at hSw);go_simp;try with_reducible rfl)
         simp only[Act.put,List.setIfInBounds_toArray,List.set_cons_zero,List.set_cons_succ];refine wpAnyH_take (i:=19) (oi:=?oo19) (v:=?vv19) ?hi19 (by kernel_rfl) (by kernel_rfl) (by kernel_rfl) ?hq19 ?hy19 (by assumption) ?rest19
         case hi19=>simp only[List.getElem?_toArray,List.getElem?_cons_succ,List.getElem?_cons_zero];rfl
         case hq19=>exact fun _ _ _ h=>h
         case hy19=>(refine Or.inl ⟨by rfl,?_⟩;intro w hSw;(try dsimp only at hSw);go_simp;try with_reducible rfl)
         simp only[Act.put,List.setIfInBounds_toArray,List.set_cons_zero,List.set_cons_succ];refine wpAnyH_take (i:=20) (oi:=?oo20) (v:=?vv20) ?hi20 (by kernel_rfl) (by kernel_rfl) (by kernel_rfl) ?hq20 ?hy20 (by assumption) ?rest20
         case hi20=>simp only[List.getElem?_toArray,List.getElem?_cons_succ,List.getElem?_cons_zero];rfl
         case hq20=>exact fun _ _ _ h=>h
         case hy20=>(refine Or.inl ⟨by rfl,?_⟩;intro w hSw;(try dsimp only at hSw);go_simp;try with_reducible rfl)
         simp only[Act.put,List.setIfInBounds_toArray,List.set_cons_zero,List.set_cons_succ];refine wpAnyH_take (i:=21) (oi:=?oo21) (v:=?vv21) ?hi21 (by kernel_rfl) (by kernel_rfl) (by kernel_rfl) ?hq21 ?hy21 (by assumption) ?rest21
         case hi21=>simp only[List.getElem?_toArray,List.getElem?_cons_succ,List.getElem?_cons_zero];rfl
         case hq21=>exact fun _ _ _ h=>h
         case hy21=>(refine Or.inl ⟨by rfl,?_⟩;intro w hSw;(try dsimp only at hSw);go_simp;try with_reducible rfl)
         simp only[Act.put,List.setIfInBounds_toArray,List.set_cons_zero,List.set_cons_succ];refine wpAnyH_take (i:=22) (oi:=?oo22) (v:=?vv22) ?hi22 (by kernel_rfl) (by kernel_rfl) (by kernel_rfl) ?hq22 ?hy22 (by assumption) ?rest22
         case hi22=>simp only[List.getElem?_toArray,List.getElem?_cons_succ,List.getElem?_cons_zero];rfl
         case hq22=>exact fun _ _ _ h=>h
         case hy22=>(refine Or.inl ⟨by rfl,?_⟩;intro w hSw;(try dsimp only at hSw);go_simp;try with_reducible rfl)
         simp only[Act.put,List.setIfInBounds_toArray,List.set_cons_zero,List.set_cons_succ];refine wpAnyH_take (i:=23) (oi:=?oo23) (v:=?vv23) ?hi23 (by kernel_rfl) (by kernel_rfl) (by kernel_rfl) ?hq23 ?hy23 (by assumption) ?rest23
         case hi23=>simp only[List.getElem?_toArray,List.getElem?_cons_succ,List.getElem?_cons_zero];rfl
         case hq23=>exact fun _ _ _ h=>h
         case hy23=>(refine Or.inl ⟨by rfl,?_⟩;intro w hSw;(try dsimp only at hSw);go_simp;try with_reducible rfl)
         simp only[Act.put,List.setIfInBounds_toArray,List.set_cons_zero,List.set_cons_succ];refine wpAnyH_take (i:=24) (oi:=?oo24) (v:=?vv24) ?hi24 (by kernel_rfl) (by kernel_rfl) (by kernel_rfl) ?hq24 ?hy24 (by assumption) ?rest24
         case hi24=>simp only[List.getElem?_toArray,List.getElem?_cons_succ,List.getElem?_cons_zero];rfl
         case hq24=>exact fun _ _ _ h=>h
         case hy24=>(refine Or.inl ⟨by rfl,?_⟩;intro w hSw;(try dsimp only at hSw);go_simp;try with_reducible rfl)
         simp only[Act.put,List.setIfInBounds_toArray,List.set_cons_zero,List.set_cons_succ];refine wpAnyH_take (i:=25) (oi:=?oo25) (v:=?vv25) ?hi25 (by kernel_rfl) (by kernel_rfl) (by kernel_rfl) ?hq25 ?hy25 (by assumption) ?rest25
         case hi25=>simp only[List.getElem?_toArray,List.getElem?_cons_succ,List.getElem?_cons_zero];rfl
         case hq25=>exact fun _ _ _ h=>h
         case hy25=>(refine Or.inl ⟨by rfl,?_⟩;intro w hSw;(try dsimp only at hSw);go_simp;try with_reducible rfl)
         simp only[Act.put,List.setIfInBounds_toArray,List.set_cons_zero,List.set_cons_succ];refine wpAnyH_take (i:=26) (oi:=?oo26) (v:=?vv26) ?hi26 (by kernel_rfl) (by kernel_rfl) (by kernel_rfl) ?hq26 ?hy26 (by assumption) ?rest26
         case hi26=>simp only[List.getElem?_toArray,List.getElem?_cons_succ,List.getElem?_cons_zero];rfl
         case hq26=>exact fun _ _ _ h=>h
         case hy26=>(refine Or.inl ⟨by rfl,?_⟩;intro w hSw;(try dsimp only at hSw);go_simp;try with_reducible rfl)
         simp only[Act.put,List.setIfInBounds_toArray,List.set_cons_zero,List.set_cons_succ];refine wpAnyH_take (i:=27) (oi:=?oo27) (v:=?vv27) ?hi27 (by kernel_rfl) (by kernel_rfl) (by kernel_rfl) ?hq27 ?hy27 (by assumption) ?rest27
         case hi27=>simp only[List.getElem?_toArray,List.getElem?_cons_succ,List.getElem?_cons_zero];rfl
         case hq27=>exact fun _ _ _ h=>h
         case hy27=>(refine Or.inl ⟨by rfl,?_⟩;intro w hSw;(try dsimp only at hSw);go_simp;try with_reducible rfl)
         simp only[Act.put,List.setIfInBounds_toArray,List.set_cons_zero,List.set_cons_succ];refine wpAnyH_ready (rs:=[28]) (by kernel_rfl) (by simp) ?_
         refine AllReadyH.cons (o:=?oc) ?hic (fun K hK=>?_) AllReadyH.nil
         case hic=>simp only[List.getElem?_toArray,List.getElem?_cons_succ,List.getElem?_cons_zero];rfl
         go_simp;refine (xiW X x.cls _ _ _ (hh.later xaz hOd.S.bel) (hH.later xaD hOd.S.bel) ho hby S hSl).mono ?_;rintro e w' ⟨rfl,hb⟩;have hSe:=roB hSd hb;go_wp2_with fail;refine hK.out _ _ hSe (fun hHeld=>?_)
         refine wpAnyH_take (i:=29) (oi:=?oo29) (v:=?vv29) ?hi29 (by kernel_rfl) (by kernel_rfl) (by kernel_rfl) ?hq29 ?hy29 (by assumption) ?rest29
         case hi29=>simp only[List.getElem?_toArray,List.getElem?_cons_succ,List.getElem?_cons_zero];rfl
         case hq29=>exact fun _ _ _ h=>h
         case hy29=>(refine Or.inl ⟨by rfl,?_⟩;intro w hSw;(try dsimp only at hSw);go_simp;try with_reducible rfl)
         simp only[Act.put,List.setIfInBounds_toArray,List.set_cons_zero,List.set_cons_succ];refine wpAnyH_take (i:=30) (oi:=?oo30) (v:=?vv30) ?hi30 (by kernel_rfl) (by kernel_rfl) (by kernel_rfl) ?hq30 ?hy30 (by assumption) ?rest30
         case hi30=>simp only[List.getElem?_toArray,List.getElem?_cons_succ,List.getElem?_cons_zero];rfl
         case hq30=>exact fun _ _ _ h=>h
         case hy30=>(refine Or.inl ⟨by rfl,?_⟩;intro w hSw;(try dsimp only at hSw);go_simp;try with_reducible rfl)
         simp only[Act.put,List.setIfInBounds_toArray,List.set_cons_zero,List.set_cons_succ];refine wpAnyH_done (by kernel_rfl) ?_ _
         go_wp2_with fail
         go_meet
         case rel=>exact⟨by rw[hbb],hSe.2.2.2.2.2⟩
       case rest=>
        as_aux_lemma=>
        clear hO o0 o1 a0 a1 a2;obtain⟨rfl,hO⟩:=hcut;have HSL:Hid (xa8 X.cz x.cls=S):=hSl;have HBBq:Hid (bb=((x.slots.length:Int) != S)):=hbb;clear hSl hbb
        cases bb
        ·have HF:Hid (¬ (xbP X.cz.length x.cls=false\/(x.slots.length:Int)≠xa8 X.cz x.cls)):=by
          have h1:=HBBq.out
          show ¬ _
          rw[HBT.out,HSL.out]
          simpa using h1
         have o1:=hO.o1;go_wp2;clear o1;obtain⟨go,hgo⟩:∃ go,go=gk:=⟨_,rfl⟩
         go_loopg [271] x.slots.length (fun g i wi=>∃ t:Nat,t+g=x.slots.length/\i=.int .i64 t/\RtO w X (.slice ad X.cz.length cap) (.slice (some ⟨b,o,none⟩) X.heap.length ch) (.slice (some ⟨bf,og,none⟩) 4 y1) B1 x (.slice ad2 x.slots.length cap2) Bo wi/\∀ k z,k<t->x.slots[k]?=some z->xas X.heap.length z=0)
         case atStart=>exact⟨0,by omega,rfl,hO,fun k z h=>by omega⟩
         case round=>
          clear hO;obtain⟨t,ht,rfl,hO,hE⟩:=hrel;have HE:Hid (∀ k z,k<t->x.slots[k]?=some z->xas X.heap.length z=0):=hE;clear hE
          by_cases htl:t<x.slots.length
          ·have ht1:(t:Int)<(x.slots.length:Int):=by omega
           have ht0:(0:Int)<=(t:Int):=by omega
           obtain⟨y,hy⟩:∃ y,x.slots[t]?=some y:=⟨_,List.getElem?_eq_getElem htl⟩;obtain⟨b2,o2,rfl,-,p0,p1⟩:=hrow2 t y hy;simp only[Nat.add_zero] at p0;replace p0:=qzA hO.S.bel p0;replace p1:=qzA hO.S.bel p1;have hb1:=xaj wr (Obj.cells #[Value.int .i64 y.k,Value.int .i64 y.n] 27);have a1:=qzA hb1 hO.S.a1;have HBX:Hid (xas X.heap.length y≠0->xas X.heap.length y=R):=fun h=>HBV.out HF.out t y hy HE.out h
           have HNX:Hid (xas X.heap.length y=0->∀ k z,k<t+1->x.slots[k]?=some z->xas X.heap.length z=0):=fun h k z hk hz=>by
            by_cases hkt:k=t
            ·subst hkt;rw[hy] at hz;cases hz;exact h
            ·exact HE.out k z (by omega) hz
           clear HE hy;go_wp2_with fail;refine (xeg y X.heap.length _).mono ?_;rintro e w5 ⟨rfl,hb⟩;replace hO:=hO.later (xah hb1 hb);clear hb hb1 a1 p0 p1;generalize xas X.heap.length y=wv at *
           by_cases wz:wv=0
           ·have wz':(wv != 0)=false:=by simp[wz]
            have HNY:Hid (∀ k z,k<t+1->x.slots[k]?=some z->xas X.heap.length z=0):=HNX.out wz;clear wz;go_wp2
            go_roundg (gk-1)
            case measure=>omega
            case rel=>exact⟨t+1,by omega,by go_num,hO,HNY.out⟩
           ·have wz':(wv != 0)=true:=by simpa using wz
            have HRW:Hid (wv=R):=HBX.out wz;clear wz;go_wp2
            go_ret
            exact⟨xak HRW.out,hO.S.bel⟩
          ·obtain rfl:t=x.slots.length:=by omega
           have HKK:Hid (xhb X (j+1)):=HKO.out HF.out fun k z hz=>HE.out k z (xae hz) hz
           go_wp2
           go_roundg (go-1)
           case measure=>omega
           case rel=>exact⟨j+1,by omega,by go_num,hO.S,HKK.out⟩
        ·have H8b:Hid (8=R):=HBD.out 8 (by
          have h1:=HBBq.out;unfold roE;rw[if_pos (Or.inr (by rw[HSL.out];simpa using h1.symm))]) (by decide)
         go_wp2
         go_ret
         exact⟨xak H8b.out,hO.S.bel⟩
      ·obtain rfl:j=X.heap.length:=by omega
       have HOK:Hid (0=R):=by show _=_;rw[← HR.out];exact (xix HZ.out HCK.out HMK.out HD.out).symm
       go_wp2
       go_ret
       exact⟨xak HOK.out,hS.bel⟩
end Go.Proofs.YtapbeiccodnniaaGreat
