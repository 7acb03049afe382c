import Derived.Test.YtbafokihegegiaaGreatDoorU31
import Derived.Test.YtbafokihegegiaaGreatDoorU34
namespace Go.Proofs.YtbafokihegegiaaGreatDoor
open ChangeShapes WideShapes ChangeAt RowKit
set_option linter.unusedSimpArgs false
set_option linter.unusedVariables false
set_option maxHeartbeats 8000000
set_option maxRecDepth 8000
theorem xyo (k n h:Int)(w:qW):Calls Tryz.prog 41 #[.agg #[J k,J n],J h] w λe w'=>e=.returned (J (HG k n h))/\qY w w':=by
 go_enter Tryz.func41,Tryz.ntmps41;go_wp2
 all_goals
  go_ret;refine⟨BT ?_,(Br _ _).alloc (Bq _) _⟩
  go_light
  try simp only[beq_iff_eq,bne_iff_ne,ne_eq,beq_eq_false_iff_ne,bne_eq_false_iff_eq] at *
  unfold HG
  (repeat' split)<;>omega
theorem xyn (v:QV)(h:Int)(w:qW):Calls Tryz.prog 41 #[.agg #[J v.k,J v.n],J h] w λe w'=>e=.returned (J (Cn h v))/\qY w w':=xyo v.k v.n h w
theorem xyG {xs:List QC}{k:Nat}{x:QC}(h:DC x.name=true)(a:Gh xs k x.name=true):CY xs k x=7:=by
 unfold CY;rw[if_neg (by simp[h])];split
 ·split
  ·rfl
  first | rfl | rw[if_pos a]
 first | rfl | rw[if_pos a]
structure RtS (w:qW)(X:QW)(cv hv fv:Value)(B1:Nat)(w':qW):Prop where
 bel:qY w w'
 a0:w'.cell? (O w.heap.size 0)=some cv
 a1:w'.cell? (O w.heap.size 1)=some hv
 a2:w'.cell? (O w.heap.size 2)=some (J X.ez)
 f0:w'.cell? (O B1 0)=some fv
 fc:BK KR w' fv xo1
theorem RtS.later {w:qW}{X:QW}{cv hv fv:Value}{B1:Nat}{w' w1:qW}(h:RtS w X cv hv fv B1 w')(a:qY w' w1):RtS w X cv hv fv B1 w1:=
 ⟨Bh h.bel a,Bf a h.a0,Bf a h.a1,Bf a h.a2,Bf a h.f0,h.fc.later Bw a⟩
theorem RtS.first {w:qW}{X:QW}{cv hv:Value}{bf og n c:Nat}{B1:Nat}{w':qW}(h:RtS w X cv hv (qS (some (O bf og)) n c) B1 w'){k:Nat}{y:QC}(g:xo1[k]?=some y):w'.cell? (O bf (og+k*4))=some (qZ y.name)/\w'.cell? (O bf (og+k*4+1))=some (J y.super)/\∃mv,w'.cell? (O bf (og+k*4+3))=some mv/\EC KR w' mv y.mz:=by
 obtain⟨a,c',e,-,-,-,f⟩:=h.fc;simp only[Value.slice.injEq] at e;obtain⟨rfl,-,-⟩:=e;obtain⟨b,o,e2,-,v0,v1,-,-,mv,v3,d⟩:=f k y g
 cases e2;exact⟨v0,v1,mv,v3,d⟩
theorem xyj (s:ByteArray)(w:qW)(u:s.size<=140737488351232):Calls Tryz.prog 38 #[qZ s] w λe w'=>e=.returned (.bool (DC s))/\w'=w:=by
 have f:Hid (LL s=false->DC s=false):=λh=>by simp[DC,h]
 go_enter Tryz.func38,Tryz.ntmps38;go_wp2
 go_loopg [6] s.size (λg c wr=>∃j:Nat,j+g=s.size/\c=J j/\wr=w/\∀i (d:i<s.size),i<j->33<=s[i].toNat/\s[i].toNat<=126)
 case atStart=>exact⟨0,by omega,rfl,rfl,λi _ d=>by omega⟩
 case round=>
  obtain⟨j,t,rfl,b,a⟩:=hrel;subst b;have n:Hid (∀i (d:i<s.size),i<j->33<=s[i].toNat/\s[i].toNat<=126):=a;clear a;by_cases hlt:j<s.size
  ·have q:(0:Int)<=(j:Int):=by omega
   have r:(j:Int)<(s.size:Int):=by omega
   by_cases c1:s[j].toNat<33
   ·have l:Hid (LL s=false):=xqh hlt Zo;have c1':((s[j].toNat:Nat):Int)<33:=by omega
    go_wp2;go_ret;exact⟨Cq (by rw[f.out l.out]),rfl⟩
   have c1':(33:Int)<=((s[j].toNat:Nat):Int):=by omega
   by_cases c2:126<s[j].toNat
   ·have l:Hid (LL s=false):=xqh hlt Zo;have c2':(126:Int)<((s[j].toNat:Nat):Int):=by omega
    go_wp2;go_ret;exact⟨Cq (by rw[f.out l.out]),rfl⟩
   have c2':((s[j].toNat:Nat):Int)<=126:=by omega
   have o:Hid (33<=s[j].toNat/\s[j].toNat<=126):=by constructor<;>omega
   clear c1 c2;go_wp2;go_roundg (gk-1)
   case measure=>omega
   case rel=>
    refine⟨j+1,by omega,by go_num,rfl,λi d p=>?_⟩;by_cases he:i=j
    ·subst he;exact o.out
    exact n.out i d Zo
  have m:Hid (LL s=true):=xqW λi d=>n.out i d Zo;by_cases h0:0<s.size
  ·have k:(0:Int)<(s.size:Int):=by omega
   go_wp2;go_ret;exact⟨Cq (by unfold DC;rw[m.out,Bool.and_true,Bool.eq_iff_iff];simp;omega),rfl⟩
  have k:(s.size:Int)<=0:=by omega
  go_wp2;go_ret;exact⟨Cq (by unfold DC;rw[m.out,Bool.and_true,Bool.eq_iff_iff];simp;omega),rfl⟩
theorem xx5 {s:ByteArray}{b:Bool}(a:DC s=b)(w:qW)(c:s.size<=140737488351232):Calls Tryz.prog 38 #[qZ s] w λe w'=>e=.returned (.bool b)/\w'=w:=by
 have:=xyj s w c;rw[a] at this;exact this
structure RtC (w:qW)(X:QW)(cv hv fv:Value)(B1:Nat)(x:QC)(sv:Value)(Bc:Nat)(w':qW):Prop where
 S:RtS w X cv hv fv B1 w'
 c0:w'.cell? (O Bc 0)=some (qZ x.name)
 c1:w'.cell? (O Bc 1)=some (J x.super)
 c2:w'.cell? (O Bc 2)=some (J x.slots)
 c3:w'.cell? (O Bc 3)=some sv
theorem RtC.later {w:qW}{X:QW}{cv hv fv:Value}{B1:Nat}{x:QC}{sv:Value}{Bc:Nat}{w' w1:qW}(h:RtC w X cv hv fv B1 x sv Bc w')(a:qY w' w1):RtC w X cv hv fv B1 x sv Bc w1:=
 ⟨h.S.later a,Bf a h.c0,Bf a h.c1,Bf a h.c2,Bf a h.c3⟩
structure RtO (w:qW)(X:QW)(cv hv fv:Value)(B1:Nat)(x:QO)(sv:Value)(Bo:Nat)(w':qW):Prop where
 S:RtS w X cv hv fv B1 w'
 o0:w'.cell? (O Bo 0)=some (J x.cls)
 o1:w'.cell? (O Bo 1)=some sv
theorem RtO.later {w:qW}{X:QW}{cv hv fv:Value}{B1:Nat}{x:QO}{sv:Value}{Bo:Nat}{w' w1:qW}(h:RtO w X cv hv fv B1 x sv Bo w')(a:qY w' w1):RtO w X cv hv fv B1 x sv Bo w1:=
 ⟨h.S.later a,Bf a h.o0,Bf a h.o1⟩
theorem roA {w:qW}{X:QW}{cv hv fv:Value}{B1:Nat}{x:QO}{sv:Value}{Bo:Nat}{w':qW}(h:RtO w X cv hv fv B1 x sv Bo w'):w'.cell? (O Bo 0)=some (J x.cls)/\w'.cell? (O Bo 1)=some sv/\w'.cell? (O w.heap.size 0)=some cv/\w'.cell? (O w.heap.size 1)=some hv/\w'.cell? (O w.heap.size 2)=some (J X.ez)/\RtO w X cv hv fv B1 x sv Bo w':=⟨h.o0,h.o1,h.S.a0,h.S.a1,h.S.a2,h⟩
theorem roB {w:qW}{X:QW}{cv hv fv:Value}{B1:Nat}{x:QO}{sv:Value}{Bo:Nat}{w' w1:qW}{p1 p2 p3 p4 p5:Prop}(h:p1/\p2/\p3/\p4/\p5/\RtO w X cv hv fv B1 x sv Bo w')(a:qY w' w1):w1.cell? (O Bo 0)=some (J x.cls)/\w1.cell? (O Bo 1)=some sv/\w1.cell? (O w.heap.size 0)=some cv/\w1.cell? (O w.heap.size 1)=some hv/\w1.cell? (O w.heap.size 2)=some (J X.ez)/\RtO w X cv hv fv B1 x sv Bo w1:=roA (h.2.2.2.2.2.later a)
theorem xyf {P:Nat->Prop}(X:QW)(c:Int)(cv hv:Value)(w:qW)(g:BK P w cv X.cz)(d:BP P w hv X.heap)(b:Hj X.cz)(a:X.cz.length*56<=140737488351232)(S:Int)(f:Cs X.cz c=S):Calls Tryz.prog 39 #[WV cv hv X.ez,J c] w λe w'=>e=.returned (J S)/\qY w w':=by
 have:=xxW X c cv hv w g d b;rw[← xpF b a c,f] at this;exact this
structure RtM (w:qW)(X:QW)(cv hv fv:Value)(B1:Nat)(x:QC)(sv:Value)(Bc:Nat)(m:QM)(mv:Value)(Bm:Nat)(w':qW):Prop where
 C:RtC w X cv hv fv B1 x sv Bc w'
 q0:w'.cell? (O Bm 0)=some (qZ m.name)
 q1:w'.cell? (O Bm 1)=some (J m.args)
 q2:w'.cell? (O Bm 2)=some (J m.temps)
 q3:w'.cell? (O Bm 3)=some (J m.prim)
 q4:w'.cell? (O Bm 4)=some mv
theorem RtM.later {w:qW}{X:QW}{cv hv fv:Value}{B1:Nat}{x:QC}{sv:Value}{Bc:Nat}{m:QM}{mv:Value}{Bm:Nat}{w' w1:qW}(h:RtM w X cv hv fv B1 x sv Bc m mv Bm w')(a:qY w' w1):RtM w X cv hv fv B1 x sv Bc m mv Bm w1:=
 ⟨h.C.later a,Bf a h.q0,Bf a h.q1,Bf a h.q2,Bf a h.q3,Bf a h.q4⟩
def xx1 (k:Nat)(m:QM)(p:QM):Bool:=decide (k=3) && CD p.name m.name && decide (p.prim=m.prim) && decide (m.args=1) && decide (m.temps=0) && decide (m.code.length=0)
theorem xx6 {α:Type}{f:α->Bool}{l:List α}{u:Nat}{p:α}(h:l[u]?=some p):(l.take (u+1)).any f=((l.take u).any f || f p):=by
 rw[List.take_add_one,h];simp
set_option maxRecDepth 100000 in
theorem xyi {P:Nat->Prop}(X:QW)(cv hv:Value)(w:qW)(hh:BK P w cv X.cz)(hH:BP P w hv X.heap):Calls Tryz.prog 20 #[WV cv hv X.ez] w λe w'=>e=.returned (J (BM X))/\qY w w':=by
 obtain⟨ad,cap,rfl,hl,aj,a8,Q⟩:=id hh;obtain⟨ah,ch,rfl,b5,ab,au,ae⟩:=id hH;unfold maxLen at aj ab;obtain⟨R,HR⟩:∃R,Hid (BM X=R):=⟨_,rfl⟩;rw[HR.out];go_enter Tryz.func20,Tryz.ntmps20;go_wp2_with fail;refine (xyx _).mono ?_;rintro e w1 ⟨fv,fh,rfl,W,af,hb⟩;obtain⟨x1,y1,rfl⟩:∃a c,fv=qS a 4 c:=W.get;obtain⟨x2,y2,rfl⟩:∃a c,fh=qS a 0 c:=af.get
 obtain⟨bf,og,rfl⟩:∃b o,x1=some (O b o):=by
  obtain⟨a',c',e',-,-,-,ap⟩:=id W;obtain⟨b,o,e2,-⟩:=ap 0 _ rfl
  cases e';exact⟨b,o,e2⟩
 have be:RtS w X (qS ad X.cz.length cap) (qS ah X.heap.length ch) (qS (some (O bf og)) 4 y1) w1.heap.size (w1.alloc (qC #[qS (some (O bf og)) 4 y1,qS x2 0 y2,J 0] 26)):=by
  have bt:=Bh hb (Bg w1 (qC #[qS (some (O bf og)) 4 y1,qS x2 0 y2,J 0] 26));refine⟨Bh (Bg _ _) bt,?_,?_,?_,?_,(W.mono Bw λ_ _=>trivial).later Bw (Bg _ _)⟩
  ·exact Bf bt (by rw[Bp _ _ _ _ rfl];rfl)
  ·exact Bf bt (by rw[Bp _ _ _ _ rfl];rfl)
  ·exact Bf bt (by rw[Bp _ _ _ _ rfl];rfl)
  rw[Bp _ _ _ _ rfl];rfl
 have a0:=be.a0;have a1:=be.a1;have a2:=be.a2;clear W af hb;by_cases k1:(X.cz.length:Int)<4
 ·go_wp2;go_ret;exact⟨BT (by rw[← HR.out];exact (xxX (Or.inl Zo)).symm),be.bel⟩
 have k1':decide ((X.cz.length:Int)<4)=false:=by simpa using k1
 by_cases k2:(12:Int)<(X.cz.length:Int)
 ·go_wp2;go_ret;exact⟨BT (by rw[← HR.out];exact (xxX (Or.inr (Or.inl Zo))).symm),be.bel⟩
 have k2':decide ((12:Int)<(X.cz.length:Int))=false:=by simpa using k2
 by_cases k3:(60:Int)<(X.heap.length:Int)
 ·go_wp2;go_ret;exact⟨BT (by rw[← HR.out];exact (xxX (Or.inr (Or.inr Zo))).symm),be.bel⟩
 have k3':decide ((60:Int)<(X.heap.length:Int))=false:=by simpa using k3
 by_cases k4:X.ez<0
 ·go_wp2;go_ret;exact⟨BT (by rw[← HR.out];exact (xxZ Zo (Or.inl k4)).symm),be.bel⟩
 have k4':decide (X.ez<0)=false:=by simpa using k4
 by_cases k5:1073741824<X.ez
 ·go_wp2;go_ret;exact⟨BT (by rw[← HR.out];exact (xxZ Zo (Or.inr k5)).symm),be.bel⟩
 have k5':decide (1073741824<X.ez)=false:=by simpa using k5
 have HZ:Hid (SizeOk X):=⟨by omega,by omega,by omega,by omega,by omega⟩
 have d9:X.cz.length<=12:=by omega
 have dc:X.heap.length<=60:=by omega
 go_wp2;clear k1 k1' k2 k2' k3 k3' k4 k4' k5 k5' a0 a1 a2;generalize (w1.alloc (qC #[qS (some (O bf og)) 4 y1,qS x2 0 y2,J 0] 26))=W0 at *;generalize w1.heap.size=B1 at *
 go_loopg [51] X.cz.length (λg i wr=>∃j:Nat,j+g=X.cz.length/\i=J j/\RtS w X (qS ad X.cz.length cap) (qS ah X.heap.length ch) (qS (some (O bf og)) 4 y1) B1 wr/\ClsOk X j)
 case atStart=>exact⟨0,by omega,rfl,be,λi x h=>by omega⟩
 case round=>
  obtain⟨j,hg,rfl,hS,hD⟩:=hrel;have HD:Hid (ClsOk X j):=hD;clear hD be;by_cases hj:j<X.cz.length
  ·as_aux_lemma=>
   have ck:(j:Int)<(X.cz.length:Int):=by omega
   have cj:(0:Int)<=(j:Int):=by omega
   obtain⟨x,hx⟩:∃x,X.cz[j]?=some x:=⟨_,List.getElem?_eq_getElem hj⟩;obtain⟨b,o,rfl,-,v0,v1,v2,V,mv,v3,a7⟩:=Q j x hx;obtain⟨r,q,rfl⟩:=a7.get;have HX:Hid (X.cz[j]?=some x):=hx;clear hx;simp only[Nat.add_zero] at v0;replace v0:=Bf hS.bel v0;replace v1:=Bf hS.bel v1;replace v2:=Bf hS.bel v2;replace v3:=Bf hS.bel v3
   have hC:RtC w X (qS (some (O b o)) X.cz.length cap) (qS ah X.heap.length ch) (qS (some (O bf og)) 4 y1) B1 x (qS r x.mz.length q) wr.heap.size (wr.alloc (qC #[qZ x.name,J x.super,J x.slots,qS r x.mz.length q] 80)):=
    ⟨hS.later (Bg _ _),by rw[Bp _ _ _ _ rfl];rfl,by rw[Bp _ _ _ _ rfl];rfl,by rw[Bp _ _ _ _ rfl];rfl,by rw[Bp _ _ _ _ rfl];rfl⟩
   go_upto_region 9 with (fail);clear v0 v1 v2 v3 hS;generalize wr.heap.size=Bc at *;generalize (wr.alloc (qC #[qZ x.name,J x.super,J x.slots,qS r x.mz.length q] 80))=W2 at *;have c0:=hC.c0;have f0:=hC.S.f0
   cases bg:DC x.name
   ·go_quiet (first | (go_at_call 38;refine Calls.quiet_of_same (xx5 bg _ V)));go_wp2;go_ret;exact⟨BT (by rw[← HR.out];exact (xx7 HZ.out HX.out HD.out (xxm bg) (by decide)).symm),below_drewN hC.S.bel _⟩
   as_aux_lemma=>
   by_cases hnw:∃y,xo1[j]?=some y/\CD x.name y.name=false
   ·obtain⟨y,hy,am⟩:=hnw;have j4:j<4:=Bz hy;have j4':(j:Int)<4:=by omega
    obtain⟨u0,-,-⟩:=hC.S.first hy;have cl:(x.name.toList == y.name.toList)=false:=am;go_quiet (first | (go_at_call 38;refine Calls.quiet_of_same (xx5 bg _ V)));go_wp2;go_ret;exact⟨BT (by rw[← HR.out];exact (xx7 HZ.out HX.out HD.out (xwI bg hy am) (by decide)).symm),below_drewN hC.S.bel _⟩
   have br:Hid (∀y,xo1[j]?=some y->CD x.name y.name=true):=λy hy=>by
    cases he:CD x.name y.name
    ·exact absurd ⟨y,hy,he⟩ hnw
    rfl
   clear hnw
   go_cut [74] (λs wx=>s=.bool false/\RtC w X (qS (some (O b o)) X.cz.length cap) (qS ah X.heap.length ch) (qS (some (O bf og)) 4 y1) B1 x (qS r x.mz.length q) Bc wx)
   case first=>
    as_aux_lemma=>
    by_cases j4:j<4
    ·obtain⟨y,hy⟩:∃y,xo1[j]?=some y:=⟨_,List.getElem?_eq_getElem (show j<xo1.length from j4)⟩
     have j4':(j:Int)<4:=by omega
     obtain⟨u0,-,-⟩:=hC.S.first hy;have cl:(x.name.toList == y.name.toList)=true:=br.out y hy;go_quiet (first | (go_at_call 38;refine Calls.quiet_of_same (xx5 bg _ V)));go_wp2_with fail;go_meet
     case rel=>exact⟨rfl,hC.later (below_drewN (Br _ _) _)⟩
    have j4':decide ((j:Int)<4)=false:=by simp;omega
    go_quiet (first | (go_at_call 38;refine Calls.quiet_of_same (xx5 bg _ V)));go_wp2_with fail;go_meet
    case rel=>exact⟨rfl,hC.later (below_drewN (Br _ _) _)⟩
   case rest=>
    as_aux_lemma=>
    clear hC c0 f0;obtain⟨rfl,hC⟩:=hcut;have a0:=hC.S.a0;have da:(j:Int)<=(cap:Int):=by omega
    go_wp2;clear a0;obtain⟨go,al⟩:∃go,go=gk:=⟨_,rfl⟩
    go_loopg [80] j (λg i wi=>∃t:Nat,t+g=j/\i=J t/\RtC w X (qS (some (O b o)) X.cz.length cap) (qS ah X.heap.length ch) (qS (some (O bf og)) 4 y1) B1 x (qS r x.mz.length q) Bc wi/\∀i d,i<t->X.cz[i]?=some d->CD d.name x.name=false)
    case atStart=>exact⟨0,by omega,rfl,hC,λi d h=>by omega⟩
    case round=>
     clear hC;obtain⟨t,ht,rfl,hC,hE⟩:=hrel;have HE:Hid (∀i d,i<t->X.cz[i]?=some d->CD d.name x.name=false):=hE;clear hE;by_cases htl:t<j
     ·as_aux_lemma=>
      have cs:(t:Int)<(j:Int):=by omega
      have cq:(0:Int)<=(t:Int):=by omega
      obtain⟨d,hd⟩:∃d,X.cz[t]?=some d:=⟨_,List.getElem?_eq_getElem Zo⟩
      obtain⟨b',o',e',-,v0,v1,v2,-,b7,v3,ag⟩:=Q t d hd
      cases e';obtain⟨a4,H,rfl⟩:=ag.get;simp only[Nat.add_zero] at v0;replace v0:=Bf hC.S.bel v0;replace v1:=Bf hC.S.bel v1;replace v2:=Bf hC.S.bel v2;replace v3:=Bf hC.S.bel v3;have HT:Hid (X.cz[t]?=some d):=hd;have ba:=Bg wr (qC #[qZ d.name,J d.super,J d.slots,qS a4 d.mz.length H] 80);have c0:=Bf ba hC.c0;clear hd
      cases he:CD d.name x.name
      ·have d6:(d.name.toList == x.name.toList)=false:=he;go_wp2;go_roundg (gk-1)
       case measure=>omega
       case rel=>
        refine⟨t+1,by omega,by go_num,hC.later ba,λi z hi hz=>?_⟩;by_cases hit:i=t
        ·subst hit;rw[HT.out] at hz;cases hz;exact he
        exact HE.out i z Zo hz
      have d6:(d.name.toList == x.name.toList)=true:=he;go_wp2;go_ret;exact⟨BT (by rw[← HR.out];exact (xx7 HZ.out HX.out HD.out (xyG bg (xyy htl HT.out he)) (by decide)).symm),Bh hC.S.bel ba⟩
     obtain rfl:t=j:=by omega
     have bp:Hid (Gh X.cz t x.name=false):=xro HE.out;clear HE;have c1:=hC.c1;have c2:=hC.c2;have f0:=hC.S.f0
     have bh:Hid (CY X.cz t x=0->ClsOk X (t+1)):=λh i y hi hy=>by
      by_cases hit:i=t
      ·subst hit;rw[HX.out] at hy;cases hy;exact h
      exact HD.out i y Zo hy
     have bc:Hid (∀v:Int,CY X.cz t x=v->v≠0->v=R):=λv e hv=>by rw[← HR.out];exact (xx7 HZ.out HX.out HD.out e hv).symm
     clear HX HD;by_cases j4:t<4
     ·as_aux_lemma=>
      obtain⟨y,hy⟩:∃y,xo1[t]?=some y:=⟨_,List.getElem?_eq_getElem (show t<xo1.length from j4)⟩
      have j4':(t:Int)<4:=by omega
      obtain⟨-,u1,-⟩:=hC.S.first hy;have HE:Hid (CY X.cz t x=if x.super≠y.super then 3 else if x.slots<0\/0<x.slots then 3 else 0):=xw8 bg hy (br.out y hy) bp.out;clear hy br bp;by_cases s1:x.super=y.super
      ·have s1':(x.super != y.super)=false:=by simp[s1]
       by_cases s2:x.slots<0
       ·go_wp2;go_quiet (fail);go_wp2;go_ret;exact⟨BT (bc.out 3 (by rw[HE.out,if_neg (by simp[s1]),if_pos (Or.inl s2)]) (by decide)),below_drewN hC.S.bel _⟩
       have s2':decide (x.slots<0)=false:=by simpa using s2
       by_cases s3:0<x.slots
       ·go_wp2;go_quiet (fail);go_wp2;go_ret;exact⟨BT (bc.out 3 (by rw[HE.out,if_neg (by simp[s1]),if_pos (Or.inr s3)]) (by decide)),below_drewN hC.S.bel _⟩
       have s3':decide (0<x.slots)=false:=by simpa using s3
       have bq:Hid (CY X.cz t x=0):=by show _=_;rw[HE.out,if_neg (by simp[s1]),if_neg Zo]
       clear s1;go_wp2;go_quiet (fail);go_wp2;go_roundg (go-1)
       case measure=>omega
       case rel=>exact⟨t+1,by omega,by go_num,hC.S.later (below_drewN (Br _ _) _),bh.out bq.out⟩
      have s1':(x.super != y.super)=true:=by simpa using s1
      go_wp2;go_quiet (fail);go_wp2;go_ret;exact⟨BT (bc.out 3 (by rw[HE.out,if_pos s1]) (by decide)),below_drewN hC.S.bel _⟩
     as_aux_lemma=>
     have j4':decide ((t:Int)<4)=false:=by simp;omega
     have HE:Hid (CY X.cz t x=if Dj t x.super=false then 3 else if x.slots<0\/6<x.slots then 3 else 0):=xxH bg Zo bp.out;have bn:Hid (Dj t x.super=decide (x.super=0\/4<=x.super/\x.super<t)):=rfl;clear br bp;by_cases s1:x.super<0
     ·go_wp2;go_ret;exact⟨BT (bc.out 3 (by rw[HE.out,if_pos (by rw[bn.out];simp;omega)]) (by decide)),hC.S.bel⟩
     have s1':decide (x.super<0)=false:=by simpa using s1
     by_cases s2:(t:Int)<=x.super
     ·go_wp2;go_ret;exact⟨BT (bc.out 3 (by rw[HE.out,if_pos (by rw[bn.out];simp;omega)]) (by decide)),hC.S.bel⟩
     have s2':decide ((t:Int)<=x.super)=false:=by simpa using s2
     by_cases s3:0<x.super/\x.super<4
     ·obtain⟨b8,b9⟩:=s3;go_wp2;go_ret;exact⟨BT (bc.out 3 (by rw[HE.out,if_pos (by rw[bn.out];simp;omega)]) (by decide)),hC.S.bel⟩
     have bk:Hid (¬ Dj t x.super=false):=by show ¬ _;rw[bn.out];simp;omega
     by_cases s4:x.slots<0
     ·by_cases s5:0<x.super
      ·have s6:decide (x.super<4)=false:=by simp;omega
       go_wp2;go_ret;exact⟨BT (bc.out 3 (by rw[HE.out,if_neg bk.out,if_pos (Or.inl s4)]) (by decide)),hC.S.bel⟩
      have s5':decide (0<x.super)=false:=by simpa using s5
      go_wp2;go_ret;exact⟨BT (bc.out 3 (by rw[HE.out,if_neg bk.out,if_pos (Or.inl s4)]) (by decide)),hC.S.bel⟩
     have s4':decide (x.slots<0)=false:=by simpa using s4
     by_cases s7:6<x.slots
     ·by_cases s5:0<x.super
      ·have s6:decide (x.super<4)=false:=by simp;omega
       go_wp2;go_ret;exact⟨BT (bc.out 3 (by rw[HE.out,if_neg bk.out,if_pos (Or.inr s7)]) (by decide)),hC.S.bel⟩
      have s5':decide (0<x.super)=false:=by simpa using s5
      go_wp2;go_ret;exact⟨BT (bc.out 3 (by rw[HE.out,if_neg bk.out,if_pos (Or.inr s7)]) (by decide)),hC.S.bel⟩
     have s7':decide (6<x.slots)=false:=by simpa using s7
     have bq:Hid (CY X.cz t x=0):=by show _=_;rw[HE.out,if_neg bk.out,if_neg Zo]
     by_cases s5:0<x.super
     ·have s6:decide (x.super<4)=false:=by simp;omega
      go_wp2;go_roundg (go-1)
      case measure=>omega
      case rel=>exact⟨t+1,by omega,by go_num,hC.S,bh.out bq.out⟩
     have s5':decide (0<x.super)=false:=by simpa using s5
     go_wp2;go_roundg (go-1)
     case measure=>omega
     case rel=>exact⟨t+1,by omega,by go_num,hC.S,bh.out bq.out⟩
  as_aux_lemma=>
  obtain rfl:j=X.cz.length:=by omega
  have ho:=HD.out.slots;have d5:Hid (∀c,DY X.cz c=Cs X.cz c):=λc=>(xpF ho a8 c).symm;have bl:Hid (ClsOk X X.cz.length):=HD.out;clear HD;have a0:=hS.a0;go_wp2;clear a0
  go_loopg [134] X.cz.length (λg i wr=>∃j:Nat,j+g=X.cz.length/\i=J j/\RtS w X (qS ad X.cz.length cap) (qS ah X.heap.length ch) (qS (some (O bf og)) 4 y1) B1 wr/\xnl X j)
  case atStart=>exact⟨0,by omega,rfl,hS,λi x h=>by omega⟩
  case round=>
   clear hS;obtain⟨j,az,rfl,hS,hD⟩:=hrel;have HD:Hid (xnl X j):=hD;clear hD;by_cases hj:j<X.cz.length
   ·as_aux_lemma=>
    have ck:(j:Int)<(X.cz.length:Int):=by omega
    have cj:(0:Int)<=(j:Int):=by omega
    obtain⟨x,hx⟩:∃x,X.cz[j]?=some x:=⟨_,List.getElem?_eq_getElem hj⟩;obtain⟨b,o,rfl,-,v0,v1,v2,V,mv,v3,a7⟩:=Q j x hx;obtain⟨r,q,rfl,an,N,ai,D⟩:=id a7;unfold maxLen at N;have HX:Hid (X.cz[j]?=some x):=hx;clear hx;simp only[Nat.add_zero] at v0;replace v0:=Bf hS.bel v0;replace v1:=Bf hS.bel v1;replace v2:=Bf hS.bel v2;replace v3:=Bf hS.bel v3
    have hC:RtC w X (qS (some (O b o)) X.cz.length cap) (qS ah X.heap.length ch) (qS (some (O bf og)) 4 y1) B1 x (qS r x.mz.length q) wr.heap.size (wr.alloc (qC #[qZ x.name,J x.super,J x.slots,qS r x.mz.length q] 80)):=
     ⟨hS.later (Bg _ _),by rw[Bp _ _ _ _ rfl];rfl,by rw[Bp _ _ _ _ rfl];rfl,by rw[Bp _ _ _ _ rfl];rfl,by rw[Bp _ _ _ _ rfl];rfl⟩
    have a0:=hC.S.a0;have a1:=hC.S.a1;have a2:=hC.S.a2;go_wp2_with fail;clear v0 v1 v2 v3 hS a0 a1 a2;generalize wr.heap.size=Bc at *;generalize (wr.alloc (qC #[qZ x.name,J x.super,J x.slots,qS r x.mz.length q] 80))=W2 at *;refine (xxW X j _ _ _ (hh.later Bw hC.S.bel) (hH.later BB hC.S.bel) ho).mono ?_;rintro e w2 ⟨rfl,hb⟩;rw[d5.out];replace hC:=hC.later hb;clear hb;have bc:Hid (∀v:Int,Dm X j x=v->v≠0->v=R):=λv e hv=>by rw[← HR.out];exact (xyr HZ.out bl.out HX.out HD.out e hv).symm
    obtain⟨S,L⟩:∃S,S=Cs X.cz j:=⟨_,rfl⟩;have c8:Hid (S=Cs X.cz j):=L;rw[← L];clear L;have c3:=hC.c3;by_cases s6:6<S
    ·go_wp2;go_ret;exact⟨BT (bc.out 3 (by unfold Dm;rw[if_pos (by rw[← c8.out];exact s6)]) (by decide)),hC.S.bel⟩
    have s6':decide (6<S)=false:=by simpa using s6
    have c7:Hid (¬ 6<Cs X.cz j):=by show ¬ _;rw[← c8.out];exact s6
    by_cases m8:(8:Int)<(x.mz.length:Int)
    ·go_wp2;go_ret;exact⟨BT (bc.out 5 (by unfold Dm;rw[if_neg (by have:=c7.out;omega),if_pos Zo]) (by decide)),hC.S.bel⟩
    have m8':decide ((8:Int)<(x.mz.length:Int))=false:=by simpa using m8
    have cw:Hid (∀(i:Nat) (m:QM),x.mz[i]?=some m->(∀k y,k<i->x.mz[k]?=some y->Dn X j x.mz k y=0)->∀v:Int,Dn X j x.mz i m=v->v≠0->v=R):=λi m hm hi v e hv=>by
     rw[← HR.out];exact (xyB HZ.out bl.out HX.out HD.out (by have:=c7.out;omega) Zo hm hi e hv).symm
    have bx:Hid ((∀k y,x.mz[k]?=some y->Dn X j x.mz k y=0)->xnl X (j+1)):=λh i y hi hy=>by
     by_cases hij:i=j
     ·subst hij;rw[HX.out] at hy
      cases hy;unfold Dm;rw[if_neg (by have:=c7.out;omega),if_neg Zo];exact KL h
     exact HD.out i y Zo hy
    clear HX HD bc c8;go_wp2;clear c3 s6 s6' m8 m8';obtain⟨go,al⟩:∃go,go=gk:=⟨_,rfl⟩
    go_loopg [150] x.mz.length (λg i wi=>∃t:Nat,t+g=x.mz.length/\i=J t/\RtC w X (qS (some (O b o)) X.cz.length cap) (qS ah X.heap.length ch) (qS (some (O bf og)) 4 y1) B1 x (qS r x.mz.length q) Bc wi/\∀k y,k<t->x.mz[k]?=some y->Dn X j x.mz k y=0)
    case atStart=>exact⟨0,by omega,rfl,hC,λk y h=>by omega⟩
    case round=>
     clear hC;obtain⟨t,ht,rfl,hC,hE⟩:=hrel;have HE:Hid (∀k y,k<t->x.mz[k]?=some y->Dn X j x.mz k y=0):=hE;clear hE;by_cases htl:t<x.mz.length
     ·as_aux_lemma=>
      have cs:(t:Int)<(x.mz.length:Int):=by omega
      have cq:(0:Int)<=(t:Int):=by omega
      obtain⟨m,hm⟩:∃m,x.mz[t]?=some m:=⟨_,List.getElem?_eq_getElem htl⟩;obtain⟨b2,o2,rfl,-,p0,p1,p2,p3,ao,ax,p4,ak⟩:=D t m hm;obtain⟨T,G,rfl,b4,aa,ar,-⟩:=id ak;unfold maxLen at aa;simp only[Nat.add_zero] at p0;replace p0:=Bf hC.S.bel p0;replace p1:=Bf hC.S.bel p1;replace p2:=Bf hC.S.bel p2;replace p3:=Bf hC.S.bel p3;replace p4:=Bf hC.S.bel p4;have bo:Hid (∀v:Int,Dn X j x.mz t m=v->v≠0->v=R):=cw.out t m hm HE.out
      have bh:Hid (Dn X j x.mz t m=0->∀k y,k<t+1->x.mz[k]?=some y->Dn X j x.mz k y=0):=λh k y hk hy=>by
       by_cases hkt:k=t
       ·subst hkt;rw[hm] at hy;cases hy;exact h
       exact HE.out k y Zo hy
      clear HE hm
      have hQ:RtM w X (qS (some (O b o)) X.cz.length cap) (qS ah X.heap.length ch) (qS (some (O bf og)) 4 y1) B1 x (qS (some (O b2 o2)) x.mz.length q) Bc m (qS T m.code.length G) wr.heap.size (wr.alloc (qD m T G)):=
       ⟨hC.later (Bg _ _),by rw[Bp _ _ _ _ rfl];rfl,by rw[Bp _ _ _ _ rfl];rfl,by rw[Bp _ _ _ _ rfl];rfl,by rw[Bp _ _ _ _ rfl];rfl,by rw[Bp _ _ _ _ rfl];rfl⟩
      go_upto_region 37 with (fail);clear p0 p1 p2 p3 p4 hC;generalize wr.heap.size=Bm at *;generalize (wr.alloc (qD m T G))=W3 at *;have c3:=hQ.C.c3;have q0:=hQ.q0
      cases bj:GW x.mz t m
      ·as_aux_lemma=>
       cases t with
       | zero=>cases bj
       | succ t=>
        obtain⟨p,hp⟩:∃p,x.mz[t]?=some p:=⟨_,List.getElem?_eq_getElem Zo⟩
        have d8:Op.bytesLess p.name.toList m.name.toList=false:=by
         have:=bj;rw[xuJ hp] at this;exact this
        obtain⟨b3,o3,e3,-,p0,-⟩:=D t p hp
        cases e3;simp only[Nat.add_zero] at p0;replace p0:=Bf hQ.C.S.bel p0;have cm:(0:Int)<((t+1:Nat):Int):=by omega
        have cp:IntKind.i64.wrap (((t+1:Nat):Int)-1)=(t:Int):=by rw[IntKind.wrap_i64];omega
        have d7:(t:Int)<(x.mz.length:Int):=by omega
        have d0:Hid (Dn X j x.mz (t+1) m=7):=xwQ bj;clear hp bj;go_quiet (fail);go_wp2;go_ret;exact⟨BT (bo.out 7 d0.out (by decide)),below_drewN hQ.C.S.bel _⟩
      go_cut [168] (λs wx=>s=.bool false/\RtM w X (qS (some (O b o)) X.cz.length cap) (qS ah X.heap.length ch) (qS (some (O bf og)) 4 y1) B1 x (qS (some (O b2 o2)) x.mz.length q) Bc m (qS T m.code.length G) Bm wx)
      case first=>
       as_aux_lemma=>
       cases t with
       | zero=>
        go_quiet (fail);go_wp2_with fail;go_meet
        case rel=>exact⟨rfl,hQ.later (below_drewN (Br _ _) _)⟩
       | succ t=>
        obtain⟨p,hp⟩:∃p,x.mz[t]?=some p:=⟨_,List.getElem?_eq_getElem Zo⟩
        have d8:Op.bytesLess p.name.toList m.name.toList=true:=by
         have:=bj;rw[xuJ hp] at this;exact this
        obtain⟨b3,o3,e3,-,p0,-⟩:=D t p hp
        cases e3;simp only[Nat.add_zero] at p0;replace p0:=Bf hQ.C.S.bel p0;have cm:(0:Int)<((t+1:Nat):Int):=by omega
        have cp:IntKind.i64.wrap (((t+1:Nat):Int)-1)=(t:Int):=by rw[IntKind.wrap_i64];omega
        have d7:(t:Int)<(x.mz.length:Int):=by omega
        clear hp bj;go_quiet (fail);go_wp2_with fail;go_meet
        case rel=>exact⟨rfl,hQ.later (below_drewN (Br _ _) _)⟩
      case rest=>
       as_aux_lemma=>
       clear hQ c3 q0;obtain⟨rfl,hQ⟩:=hcut;have f0:=hQ.C.S.f0;obtain⟨-,-,aq,u3,M⟩:=hQ.C.S.first (k:=3) rfl;obtain⟨a4,H,rfl,a3,a9,-,B⟩:∃a c,aq=qS a 5 c/\_:=M
       obtain⟨b3,o3,rfl⟩:∃b o,a4=some (O b o):=by
        obtain⟨b,o,e,-⟩:=B 0 _ rfl;exact⟨b,o,e⟩
       unfold maxLen at a9;have u3':=u3;simp only[Nat.reduceMul] at u3';go_wp2;clear u3 u3' f0;obtain⟨gm,b1⟩:∃gm,gm=gk:=⟨_,rfl⟩
       go_loopg [14,175] 5 (λg gd i wi=>∃u:Nat,u+g=5/\gd=.bool ((xrh.take u).any (xx1 j m))/\i=J u/\RtM w X (qS (some (O b o)) X.cz.length cap) (qS ah X.heap.length ch) (qS (some (O bf og)) 4 y1) B1 x (qS (some (O b2 o2)) x.mz.length q) Bc m (qS T m.code.length G) Bm wi/\EC KR wi (qS (some (O b3 o3)) 5 H) xrh)
       case atStart=>exact⟨0,by omega,rfl,rfl,hQ,⟨_,_,rfl,a3,by unfold maxLen;omega,by decide,B⟩⟩
       case round=>
        clear hQ B;obtain⟨u,hu,rfl,rfl,hQ,M⟩:=hrel;by_cases hul:u<5
        ·as_aux_lemma=>
         have de:(u:Int)<5:=by omega
         have dd:(0:Int)<=(u:Int):=by omega
         obtain⟨p,hp⟩:∃p,xrh[u]?=some p:=⟨_,List.getElem?_eq_getElem (show u<xrh.length from hul)⟩
         obtain⟨a5,c5,e5,-,-,-,B⟩:=M;obtain⟨b6,o6,e6,-,p0,p1,p2,p3,-,ay,p4,Z⟩:=B u p hp;simp only[Value.slice.injEq] at e5;obtain⟨rfl,-,-⟩:=e5
         cases e6;obtain⟨a6,U,rfl⟩:=Z.get;simp only[Nat.add_zero] at p0;have M:Hid (∀w',qY wr w'->EC KR w' (qS (some (O b3 o3)) 5 H) xrh):=λw' hb=>IsRow.later ⟨_,_,rfl,a3,by unfold maxLen;omega,by decide,B⟩ xbj hb;have HF:Hid ((xrh.take (u+1)).any (xx1 j m)=((xrh.take u).any (xx1 j m) || xx1 j m p)):=xx6 hp;have HP:Hid (xx1 j m p=(decide (j=3) && CD p.name m.name && decide (p.prim=m.prim) && decide (m.args=1) && decide (m.temps=0) && decide (m.code.length=0))):=rfl;clear B hp Z;have ba:=Bg wr (qD p a6 U);have q0:=Bf ba hQ.q0;have q1:=Bf ba hQ.q1;have q2:=Bf ba hQ.q2;have q3:=Bf ba hQ.q3;have q4:=Bf ba hQ.q4;have bd:Hid (∀v:Bool,v=((xrh.take u).any (xx1 j m) || xx1 j m p)->∃u':Nat,u'+(gk-1)=5/\Value.bool v=.bool ((xrh.take u').any (xx1 j m))/\J ((u:Int)+1)=J u'/\RtM w X (qS (some (O b o)) X.cz.length cap) (qS ah X.heap.length ch) (qS (some (O bf og)) 4 y1) B1 x (qS (some (O b2 o2)) x.mz.length q) Bc m (qS T m.code.length G) Bm (wr.alloc (qD p a6 U))/\EC KR (wr.alloc (qD p a6 U)) (qS (some (O b3 o3)) 5 H) xrh):=λv hv=>⟨u+1,by omega,by rw[HF.out,hv],by go_num,hQ.later ba,M.out _ ba⟩
         clear HF M;generalize (xrh.take u).any (xx1 j m)=gd at *;clear hQ;by_cases gt:gd=true
         ·subst gt;go_wp2;go_roundg (gk-1)
          case measure=>omega
          case rel=>exact bd.out true (by simp)
         obtain rfl:gd=false:=by simpa using gt
         clear gt;by_cases j3:(j:Int)=3
         case neg=>
          have j3':((j:Int) == 3)=false:=beq_eq_false_iff_ne.2 j3;go_wp2;go_roundg (gk-1)
          case measure=>omega
          case rel=>exact bd.out false (by rw[HP.out,decide_eq_false Zo];simp)
         have j3':((j:Int) == 3)=true:=beq_iff_eq.2 j3;have j3n:Hid (decide (j=3)=true):=decide_eq_true Zo;clear j3
         cases bu:CD p.name m.name
         case false=>
          have ci:(p.name.toList == m.name.toList)=false:=bu;go_wp2;go_roundg (gk-1)
          case measure=>omega
          case rel=>exact bd.out false (by rw[HP.out,bu];simp)
         have ci:(p.name.toList == m.name.toList)=true:=bu;by_cases hpp:p.prim=m.prim
         case neg=>
          have cn:(p.prim == m.prim)=false:=beq_eq_false_iff_ne.2 hpp;go_wp2;go_roundg (gk-1)
          case measure=>omega
          case rel=>exact bd.out false (by rw[HP.out,decide_eq_false hpp];simp)
         have cn:(p.prim == m.prim)=true:=beq_iff_eq.2 hpp;have co:Hid (decide (p.prim=m.prim)=true):=decide_eq_true hpp;clear hpp;by_cases ha1:m.args=1
         case neg=>
          have cd:(m.args == 1)=false:=beq_eq_false_iff_ne.2 ha1;go_wp2;go_roundg (gk-1)
          case measure=>omega
          case rel=>exact bd.out false (by rw[HP.out,decide_eq_false ha1];simp)
         have cd:(m.args == 1)=true:=beq_iff_eq.2 ha1;have ce:Hid (decide (m.args=1)=true):=decide_eq_true ha1;clear ha1;by_cases ht0':m.temps=0
         case neg=>
          have ct:(m.temps == 0)=false:=beq_eq_false_iff_ne.2 ht0';go_wp2;go_roundg (gk-1)
          case measure=>omega
          case rel=>exact bd.out false (by rw[HP.out,decide_eq_false ht0'];simp)
         have ct:(m.temps == 0)=true:=beq_iff_eq.2 ht0';have cr:Hid (decide (m.temps=0)=true):=decide_eq_true ht0';clear ht0';by_cases hcl:m.code.length=0
         case neg=>
          have cf:((m.code.length:Int) == 0)=false:=beq_eq_false_iff_ne.2 Zo;go_wp2;go_roundg (gk-1)
          case measure=>omega
          case rel=>exact bd.out false (by rw[HP.out,decide_eq_false hcl];simp)
         have cf:((m.code.length:Int) == 0)=true:=beq_iff_eq.2 Zo;have cg:Hid (decide (m.code.length=0)=true):=decide_eq_true hcl;clear hcl;go_wp2;go_roundg (gk-1)
         case measure=>omega
         case rel=>exact bd.out true (by rw[HP.out,j3n.out,bu,co.out,ce.out,cr.out,cg.out];rfl)
        as_aux_lemma=>
        obtain rfl:u=5:=by omega
        have c6:Hid ((xrh.take 5).any (xx1 j m)=Ft j m):=rfl;generalize (xrh.take 5).any (xx1 j m)=gd at *;clear M;have a0:=hQ.C.S.a0;have a1:=hQ.C.S.a1;have a2:=hQ.C.S.a2;have q0:=hQ.q0;have q1:=hQ.q1;have q2:=hQ.q2;have q3:=hQ.q3;have q4:=hQ.q4;go_wp2_with fail;refine (xyl X j m _ _ _ _ (hh.later Bw hQ.C.S.bel) (hH.later BB hQ.C.S.bel) (ak.later BR hQ.C.S.bel) ao ho).mono ?_;rintro e w5 ⟨rfl,hb⟩;replace hQ:=hQ.later hb;clear hb a0 a1 a2 q0 q1 q2 q3 q4;have ca:Hid (Ft j m=false->Dn X j x.mz t m=(Em (Cs X.cz j) X.cz.length j m).1):=λh=>xwX bj h;have d3:Hid (Ft j m=true->Dn X j x.mz t m=0):=λh=>xxp bj h;generalize Em (Cs X.cz j) X.cz.length j m=F at *;obtain⟨f1,f2⟩:=F;have ba:=Bg w5 (qC #[J f1,J f2] 90)
        cases gd
        ·by_cases f0:f1=0
         ·have f0':(f1 != 0)=false:=by simp[f0]
          have bm:Hid (Dn X j x.mz t m=0):=by show _=_;rw[ca.out c6.out.symm];exact f0
          clear f0;go_wp2;go_roundg (gm-1)
          case measure=>omega
          case rel=>exact⟨t+1,by omega,by go_num,hQ.C.later ba,bh.out bm.out⟩
         have f0':(f1 != 0)=true:=by simpa using f0
         have bm:Hid (f1=R):=bo.out f1 (ca.out c6.out.symm) f0;clear f0;go_wp2;go_ret;exact⟨BT bm.out,Bh hQ.C.S.bel ba⟩
        have bm:Hid (Dn X j x.mz t m=0):=d3.out c6.out.symm;go_wp2;go_roundg (gm-1)
        case measure=>omega
        case rel=>exact⟨t+1,by omega,by go_num,hQ.C.later ba,bh.out bm.out⟩
     obtain rfl:t=x.mz.length:=by omega
     have bw:Hid (xnl X (j+1)):=bx.out λk y hy=>HE.out k y (Bz hy) hy;go_wp2;go_roundg (go-1)
     case measure=>omega
     case rel=>exact⟨j+1,by omega,by go_num,hC.S,bw.out⟩
   as_aux_lemma=>
   obtain rfl:j=X.cz.length:=by omega
   have bz:Hid (xnl X X.cz.length):=HD.out;clear HD Q;have a1:=hS.a1;go_wp2;clear a1
   go_loopg [233] X.heap.length (λg i wr=>∃j:Nat,j+g=X.heap.length/\i=J j/\RtS w X (qS ad X.cz.length cap) (qS ah X.heap.length ch) (qS (some (O bf og)) 4 y1) B1 wr/\xsh X j)
   case atStart=>exact⟨0,by omega,rfl,hS,λi x h=>by omega⟩
   case round=>
    clear hS;obtain⟨j,b0,rfl,hS,hD⟩:=hrel;have HD:Hid (xsh X j):=hD;clear hD;by_cases hj:j<X.heap.length
    ·as_aux_lemma=>
     have ck:(j:Int)<(X.heap.length:Int):=by omega
     have cj:(0:Int)<=(j:Int):=by omega
     obtain⟨x,hx⟩:∃x,X.heap[j]?=some x:=⟨_,List.getElem?_eq_getElem hj⟩;obtain⟨b,o,rfl,-,v0,sv,v1,hV⟩:=ae j x hx;obtain⟨r,q,rfl,an,N,ai,D⟩:=id hV;unfold maxLen at N;have bc:Hid (∀v:Int,Ev X j x=v->v≠0->v=R):=λv e hv=>by rw[← HR.out];exact (xyp HZ.out bl.out bz.out hx HD.out e hv).symm
     have cy:Hid (¬ (Dj X.cz.length x.cls=false\/(x.slots.length:Int)≠Cs X.cz x.cls)->∀(i:Nat) (y:QV),x.slots[i]?=some y->(∀k z,k<i->x.slots[k]?=some z->Cn X.heap.length z=0)->Cn X.heap.length y≠0->Cn X.heap.length y=R):=λf i y hy hi hv=>by rw[← HR.out];exact (xyE HZ.out bl.out bz.out hx HD.out f hy hi hv).symm
     have bx:Hid (¬ (Dj X.cz.length x.cls=false\/(x.slots.length:Int)≠Cs X.cz x.cls)->(∀k z,x.slots[k]?=some z->Cn X.heap.length z=0)->xsh X (j+1)):=λf h i y hi hy=>by
      by_cases hij:i=j
      ·subst hij;rw[hx] at hy
       cases hy;unfold Ev;rw[if_neg f];exact KL h
      exact HD.out i y Zo hy
     clear HD hx;simp only[Nat.add_zero] at v0;replace v0:=Bf hS.bel v0;replace v1:=Bf hS.bel v1
     have hO:RtO w X (qS ad X.cz.length cap) (qS (some (O b o)) X.heap.length ch) (qS (some (O bf og)) 4 y1) B1 x (qS r x.slots.length q) wr.heap.size (wr.alloc (qC #[J x.cls,qS r x.slots.length q] 84)):=
      ⟨hS.later (Bg _ _),by rw[Bp _ _ _ _ rfl];rfl,by rw[Bp _ _ _ _ rfl];rfl⟩
     go_upto_region 53 with (fail);clear v0 v1 hS;generalize wr.heap.size=Bo at *;generalize (wr.alloc (qC #[J x.cls,qS r x.slots.length q] 84))=W2 at *;have HB:Hid (Dj X.cz.length x.cls=decide (x.cls=0\/4<=x.cls/\x.cls<X.cz.length)):=rfl;have H8:Hid (Dj X.cz.length x.cls=false->8=R):=λh=>bc.out 8 (by unfold Ev;rw[if_pos (Or.inl h)]) (by decide);have o0:=hO.o0;have o1:=hO.o1;have a0:=hO.S.a0;have a1:=hO.S.a1;have a2:=hO.S.a2;have db:=HZ.out.few;by_cases c0:x.cls<0
     ·go_quiet (fail);go_wp2;go_ret;exact⟨BT (H8.out (by rw[HB.out];simp;omega)),below_drewN hO.S.bel _⟩
     have c0':decide (x.cls<0)=false:=by simpa using c0
     by_cases c1:0<x.cls/\x.cls<4
     ·obtain⟨av,aw⟩:=c1;go_quiet (fail);go_wp2;go_ret;exact⟨BT (H8.out (by rw[HB.out];simp;omega)),below_drewN hO.S.bel _⟩
     by_cases c2:(X.cz.length:Int)<=x.cls
     ·have c3:0<x.cls:=by omega
      have c4:decide (x.cls<4)=false:=by simp;omega
      go_quiet (fail);go_wp2;go_ret;exact⟨BT (H8.out (by rw[HB.out];simp;omega)),below_drewN hO.S.bel _⟩
     have c2':decide ((X.cz.length:Int)<=x.cls)=false:=by simpa using c2
     have cx:Hid (Dj X.cz.length x.cls=true):=by show _=_;rw[HB.out];simp;omega
     obtain⟨S,L⟩:∃S,Cs X.cz x.cls=S:=⟨_,rfl⟩;obtain⟨bb,Y⟩:∃bb,bb=((x.slots.length:Int) != S):=⟨_,rfl⟩
     go_cut [267] (λs wx=>s=.bool bb/\RtO w X (qS ad X.cz.length cap) (qS (some (O b o)) X.heap.length ch) (qS (some (O bf og)) 4 y1) B1 x (qS r x.slots.length q) Bo wx)
     case first=>
      as_aux_lemma=>
      by_cases c3:0<x.cls
      ·as_aux_lemma=>
       have c4:decide (x.cls<4)=false:=by simp;omega
       have bs:=roA (hO.later (Br _ _).drew);clear o0 o1 a0 a1 a2 hO
       go_region_held3 (λw'=>w'.cell? (O Bo 0)=some (J x.cls)/\w'.cell? (O Bo 1)=some (qS r x.slots.length q)/\w'.cell? (O w.heap.size 0)=some (qS ad X.cz.length cap)/\w'.cell? (O w.heap.size 1)=some (qS (some (O b o)) X.heap.length ch)/\w'.cell? (O w.heap.size 2)=some (J X.ez)/\RtO w X (qS ad X.cz.length cap) (qS (some (O b o)) X.heap.length ch) (qS (some (O bf og)) 4 y1) B1 x (qS r x.slots.length q) Bo w')
        (first | with_reducible exact bs | with_reducible exact roB (‹_/\_/\_/\_/\_/\RtO _ _ _ _ _ _ _ _ _ _›) hb)
        (first | (go_at_call 39;refine (xyf X x.cls _ _ _ (hh.later Bw (‹_/\_/\_/\_/\_/\RtO _ _ _ _ _ _ _ _ _ _›).2.2.2.2.2.S.bel) (hH.later BB (‹_/\_/\_/\_/\_/\RtO _ _ _ _ _ _ _ _ _ _›).2.2.2.2.2.S.bel) ho a8 S L).mono ?_;rintro e w' ⟨rfl,hb⟩))
       go_wp2_with fail;go_meet
       case rel=>exact⟨by rw[Y],(‹_/\_/\_/\_/\_/\RtO _ _ _ _ _ _ _ _ _ _›).2.2.2.2.2⟩
      as_aux_lemma=>
      have c3':decide (0<x.cls)=false:=by simpa using c3
      have bi:=hO.later (Br _ _).drew;clear hO o0 o1 a0 a1 a2;have o0:=bi.o0;have o1:=bi.o1;have a0:=bi.S.a0;have a1:=bi.S.a1;have a2:=bi.S.a2;have bs:=roA bi;clear o0 o1 a0 a1 a2;refine wp_region_held_drew (S:=λw'=>w'.cell? (O Bo 0)=some (J x.cls)/\w'.cell? (O Bo 1)=some (qS r x.slots.length q)/\w'.cell? (O w.heap.size 0)=some (qS ad X.cz.length cap)/\w'.cell? (O w.heap.size 1)=some (qS (some (O b o)) X.heap.length ch)/\w'.cell? (O w.heap.size 2)=some (J X.ez)/\RtO w X (qS ad X.cz.length cap) (qS (some (O b o)) X.heap.length ch) (qS (some (O bf og)) 4 y1) B1 x (qS r x.slots.length q) Bo w') (by kernel_rfl) bs (λc9=>?_);refine wpAnyH_take (i:=0) (oi:=?oo0) (v:=?vv0) ?hi0 (by kernel_rfl) (by kernel_rfl) (by kernel_rfl) ?hq0 ?hy0 (by assumption) ?rest0
      case hi0=>simp only[Zt,Zu,Zv];rfl
      case hq0=>exact λ_ _ _ h=>h
      case hy0=>(refine Or.inl ⟨by rfl,?_⟩;intro w l;(try dsimp only at l);go_simp;try with_reducible rfl)
      simp only[Act.put,Bj,Bl,Bk];refine wpAnyH_take (i:=1) (oi:=?oo1) (v:=?vv1) ?hi1 (by kernel_rfl) (by kernel_rfl) (by kernel_rfl) ?hq1 ?hy1 (by assumption) ?rest1
      case hi1=>simp only[Zt,Zu,Zv];rfl
      case hq1=>exact λ_ _ _ h=>h
      case hy1=>(refine Or.inl ⟨by rfl,?_⟩;intro w l;(try dsimp only at l);go_simp;try with_reducible rfl)
      simp only[Act.put,Bj,Bl,Bk];refine wpAnyH_take (i:=2) (oi:=?oo2) (v:=?vv2) ?hi2 (by kernel_rfl) (by kernel_rfl) (by kernel_rfl) ?hq2 ?hy2 (by assumption) ?rest2
      case hi2=>simp only[Zt,Zu,Zv];rfl
      case hq2=>exact λ_ _ _ h=>h
      case hy2=>(refine Or.inl ⟨by rfl,?_⟩;intro w l;(try dsimp only at l);go_simp;try with_reducible rfl)
      simp only[Act.put,Bj,Bl,Bk];refine wpAnyH_take (i:=3) (oi:=?oo3) (v:=?vv3) ?hi3 (by kernel_rfl) (by kernel_rfl) (by kernel_rfl) ?hq3 ?hy3 (by assumption) ?rest3
      case hi3=>simp only[Zt,Zu,Zv];rfl
      case hq3=>exact λ_ _ _ h=>h
      case hy3=>(refine Or.inl ⟨by rfl,?_⟩;intro w l;(try dsimp only at l);go_simp;try with_reducible rfl)
      simp only[Act.put,Bj,Bl,Bk];refine wpAnyH_take (i:=4) (oi:=?oo4) (v:=?vv4) ?hi4 (by kernel_rfl) (by kernel_rfl) (by kernel_rfl) ?hq4 ?hy4 (by assumption) ?rest4
      case hi4=>simp only[Zt,Zu,Zv];rfl
      case hq4=>exact λ_ _ _ h=>h
      case hy4=>(refine Or.inl ⟨by rfl,?_⟩;intro w l;(try dsimp only at l);go_simp;try with_reducible rfl)
      simp only[Act.put,Bj,Bl,Bk];refine wpAnyH_take (i:=5) (oi:=?oo5) (v:=?vv5) ?hi5 (by kernel_rfl) (by kernel_rfl) (by kernel_rfl) ?hq5 ?hy5 (by assumption) ?rest5
      case hi5=>simp only[Zt,Zu,Zv];rfl
      case hq5=>exact λ_ _ _ h=>h
      case hy5=>(refine Or.inl ⟨by rfl,?_⟩;intro w l;(try dsimp only at l);go_simp;try with_reducible rfl)
      simp only[Act.put,Bj,Bl,Bk];refine wpAnyH_take (i:=6) (oi:=?oo6) (v:=?vv6) ?hi6 (by kernel_rfl) (by kernel_rfl) (by kernel_rfl) ?hq6 ?hy6 (by assumption) ?rest6
      case hi6=>simp only[Zt,Zu,Zv];rfl
      case hq6=>exact λ_ _ _ h=>h
      case hy6=>(refine Or.inl ⟨by rfl,?_⟩;intro w l;(try dsimp only at l);go_simp;try with_reducible rfl)
      simp only[Act.put,Bj,Bl,Bk];refine wpAnyH_take (i:=7) (oi:=?oo7) (v:=?vv7) ?hi7 (by kernel_rfl) (by kernel_rfl) (by kernel_rfl) ?hq7 ?hy7 (by assumption) ?rest7
      case hi7=>simp only[Zt,Zu,Zv];rfl
      case hq7=>exact λ_ _ _ h=>h
      case hy7=>(refine Or.inl ⟨by rfl,?_⟩;intro w l;(try dsimp only at l);go_simp;try with_reducible rfl)
      simp only[Act.put,Bj,Bl,Bk];refine wpAnyH_take (i:=8) (oi:=?oo8) (v:=undef) ?hi8 (by kernel_rfl) (by kernel_rfl) (by kernel_rfl) ?hq8 ?hy8 (by assumption) ?rest8
      case hi8=>simp only[Zt,Zu,Zv];rfl
      case hq8=>exact λ_ _ _ h=>h
      case hy8=>exact Or.inr ⟨by rfl,rfl⟩
      simp only[Act.put,Bj,Bl,Bk];refine wpAnyH_take (i:=9) (oi:=?oo9) (v:=undef) ?hi9 (by kernel_rfl) (by kernel_rfl) (by kernel_rfl) ?hq9 ?hy9 (by assumption) ?rest9
      case hi9=>simp only[Zt,Zu,Zv];rfl
      case hq9=>exact λ_ _ _ h=>h
      case hy9=>exact Or.inr ⟨by rfl,rfl⟩
      simp only[Act.put,Bj,Bl,Bk];refine wpAnyH_take (i:=10) (oi:=?oo10) (v:=undef) ?hi10 (by kernel_rfl) (by kernel_rfl) (by kernel_rfl) ?hq10 ?hy10 (by assumption) ?rest10
      case hi10=>simp only[Zt,Zu,Zv];rfl
      case hq10=>exact λ_ _ _ h=>h
      case hy10=>exact Or.inr ⟨by rfl,rfl⟩
      simp only[Act.put,Bj,Bl,Bk];refine wpAnyH_take (i:=11) (oi:=?oo11) (v:=?vv11) ?hi11 (by kernel_rfl) (by kernel_rfl) (by kernel_rfl) ?hq11 ?hy11 (by assumption) ?rest11
      case hi11=>simp only[Zt,Zu,Zv];rfl
      case hq11=>exact λ_ _ _ h=>h
      case hy11=>(refine Or.inl ⟨by rfl,?_⟩;intro w l;(try dsimp only at l);go_simp;try with_reducible rfl)
      simp only[Act.put,Bj,Bl,Bk];refine wpAnyH_take (i:=12) (oi:=?oo12) (v:=?vv12) ?hi12 (by kernel_rfl) (by kernel_rfl) (by kernel_rfl) ?hq12 ?hy12 (by assumption) ?rest12
      case hi12=>simp only[Zt,Zu,Zv];rfl
      case hq12=>exact λ_ _ _ h=>h
      case hy12=>(refine Or.inl ⟨by rfl,?_⟩;intro w l;(try dsimp only at l);go_simp;try with_reducible rfl)
      simp only[Act.put,Bj,Bl,Bk];refine wpAnyH_take (i:=13) (oi:=?oo13) (v:=?vv13) ?hi13 (by kernel_rfl) (by kernel_rfl) (by kernel_rfl) ?hq13 ?hy13 (by assumption) ?rest13
      case hi13=>simp only[Zt,Zu,Zv];rfl
      case hq13=>exact λ_ _ _ h=>h
      case hy13=>(refine Or.inl ⟨by rfl,?_⟩;intro w l;(try dsimp only at l);go_simp;try with_reducible rfl)
      simp only[Act.put,Bj,Bl,Bk];refine wpAnyH_take (i:=14) (oi:=?oo14) (v:=?vv14) ?hi14 (by kernel_rfl) (by kernel_rfl) (by kernel_rfl) ?hq14 ?hy14 (by assumption) ?rest14
      case hi14=>simp only[Zt,Zu,Zv];rfl
      case hq14=>exact λ_ _ _ h=>h
      case hy14=>(refine Or.inl ⟨by rfl,?_⟩;intro w l;(try dsimp only at l);go_simp;try with_reducible rfl)
      simp only[Act.put,Bj,Bl,Bk];refine wpAnyH_take (i:=15) (oi:=?oo15) (v:=?vv15) ?hi15 (by kernel_rfl) (by kernel_rfl) (by kernel_rfl) ?hq15 ?hy15 (by assumption) ?rest15
      case hi15=>simp only[Zt,Zu,Zv];rfl
      case hq15=>exact λ_ _ _ h=>h
      case hy15=>(refine Or.inl ⟨by rfl,?_⟩;intro w l;(try dsimp only at l);go_simp;try with_reducible rfl)
      simp only[Act.put,Bj,Bl,Bk];refine wpAnyH_take (i:=16) (oi:=?oo16) (v:=?vv16) ?hi16 (by kernel_rfl) (by kernel_rfl) (by kernel_rfl) ?hq16 ?hy16 (by assumption) ?rest16
      case hi16=>simp only[Zt,Zu,Zv];rfl
      case hq16=>exact λ_ _ _ h=>h
      case hy16=>(refine Or.inl ⟨by rfl,?_⟩;intro w l;(try dsimp only at l);go_simp;try with_reducible rfl)
      simp only[Act.put,Bj,Bl,Bk];refine wpAnyH_take (i:=17) (oi:=?oo17) (v:=?vv17) ?hi17 (by kernel_rfl) (by kernel_rfl) (by kernel_rfl) ?hq17 ?hy17 (by assumption) ?rest17
      case hi17=>simp only[Zt,Zu,Zv];rfl
      case hq17=>exact λ_ _ _ h=>h
      case hy17=>(refine Or.inl ⟨by rfl,?_⟩;intro w l;(try dsimp only at l);go_simp;try with_reducible rfl)
      simp only[Act.put,Bj,Bl,Bk];refine wpAnyH_take (i:=18) (oi:=?oo18) (v:=?vv18) ?hi18 (by kernel_rfl) (by kernel_rfl) (by kernel_rfl) ?hq18 ?hy18 (by assumption) ?rest18
      case hi18=>simp only[Zt,Zu,Zv];rfl
      case hq18=>exact λ_ _ _ h=>h
      case hy18=>(refine Or.inl ⟨by rfl,?_⟩;intro w l;(try dsimp only at l);go_simp;try with_reducible rfl)
      simp only[Act.put,Bj,Bl,Bk];refine wpAnyH_take (i:=19) (oi:=?oo19) (v:=?vv19) ?hi19 (by kernel_rfl) (by kernel_rfl) (by kernel_rfl) ?hq19 ?hy19 (by assumption) ?rest19
      case hi19=>simp only[Zt,Zu,Zv];rfl
      case hq19=>exact λ_ _ _ h=>h
      case hy19=>(refine Or.inl ⟨by rfl,?_⟩;intro w l;(try dsimp only at l);go_simp;try with_reducible rfl)
      simp only[Act.put,Bj,Bl,Bk];refine wpAnyH_take (i:=20) (oi:=?oo20) (v:=?vv20) ?hi20 (by kernel_rfl) (by kernel_rfl) (by kernel_rfl) ?hq20 ?hy20 (by assumption) ?rest20
      case hi20=>simp only[Zt,Zu,Zv];rfl
      case hq20=>exact λ_ _ _ h=>h
      case hy20=>(refine Or.inl ⟨by rfl,?_⟩;intro w l;(try dsimp only at l);go_simp;try with_reducible rfl)
      simp only[Act.put,Bj,Bl,Bk];refine wpAnyH_take (i:=21) (oi:=?oo21) (v:=?vv21) ?hi21 (by kernel_rfl) (by kernel_rfl) (by kernel_rfl) ?hq21 ?hy21 (by assumption) ?rest21
      case hi21=>simp only[Zt,Zu,Zv];rfl
      case hq21=>exact λ_ _ _ h=>h
      case hy21=>(refine Or.inl ⟨by rfl,?_⟩;intro w l;(try dsimp only at l);go_simp;try with_reducible rfl)
      simp only[Act.put,Bj,Bl,Bk];refine wpAnyH_take (i:=22) (oi:=?oo22) (v:=?vv22) ?hi22 (by kernel_rfl) (by kernel_rfl) (by kernel_rfl) ?hq22 ?hy22 (by assumption) ?rest22
      case hi22=>simp only[Zt,Zu,Zv];rfl
      case hq22=>exact λ_ _ _ h=>h
      case hy22=>(refine Or.inl ⟨by rfl,?_⟩;intro w l;(try dsimp only at l);go_simp;try with_reducible rfl)
      simp only[Act.put,Bj,Bl,Bk];refine wpAnyH_take (i:=23) (oi:=?oo23) (v:=?vv23) ?hi23 (by kernel_rfl) (by kernel_rfl) (by kernel_rfl) ?hq23 ?hy23 (by assumption) ?rest23
      case hi23=>simp only[Zt,Zu,Zv];rfl
      case hq23=>exact λ_ _ _ h=>h
      case hy23=>(refine Or.inl ⟨by rfl,?_⟩;intro w l;(try dsimp only at l);go_simp;try with_reducible rfl)
      simp only[Act.put,Bj,Bl,Bk];refine wpAnyH_take (i:=24) (oi:=?oo24) (v:=?vv24) ?hi24 (by kernel_rfl) (by kernel_rfl) (by kernel_rfl) ?hq24 ?hy24 (by assumption) ?rest24
      case hi24=>simp only[Zt,Zu,Zv];rfl
      case hq24=>exact λ_ _ _ h=>h
      case hy24=>(refine Or.inl ⟨by rfl,?_⟩;intro w l;(try dsimp only at l);go_simp;try with_reducible rfl)
      simp only[Act.put,Bj,Bl,Bk];refine wpAnyH_take (i:=25) (oi:=?oo25) (v:=?vv25) ?hi25 (by kernel_rfl) (by kernel_rfl) (by kernel_rfl) ?hq25 ?hy25 (by assumption) ?rest25
      case hi25=>simp only[Zt,Zu,Zv];rfl
      case hq25=>exact λ_ _ _ h=>h
      case hy25=>(refine Or.inl ⟨by rfl,?_⟩;intro w l;(try dsimp only at l);go_simp;try with_reducible rfl)
      simp only[Act.put,Bj,Bl,Bk];refine wpAnyH_take (i:=26) (oi:=?oo26) (v:=?vv26) ?hi26 (by kernel_rfl) (by kernel_rfl) (by kernel_rfl) ?hq26 ?hy26 (by assumption) ?rest26
      case hi26=>simp only[Zt,Zu,Zv];rfl
      case hq26=>exact λ_ _ _ h=>h
      case hy26=>(refine Or.inl ⟨by rfl,?_⟩;intro w l;(try dsimp only at l);go_simp;try with_reducible rfl)
      simp only[Act.put,Bj,Bl,Bk];refine wpAnyH_take (i:=27) (oi:=?oo27) (v:=?vv27) ?hi27 (by kernel_rfl) (by kernel_rfl) (by kernel_rfl) ?hq27 ?hy27 (by assumption) ?rest27
      case hi27=>simp only[Zt,Zu,Zv];rfl
      case hq27=>exact λ_ _ _ h=>h
      case hy27=>(refine Or.inl ⟨by rfl,?_⟩;intro w l;(try dsimp only at l);go_simp;try with_reducible rfl)
      simp only[Act.put,Bj,Bl,Bk];refine wpAnyH_ready (rs:=[28]) (by kernel_rfl) (by simp) ?_;refine AllReadyH.cons (o:=?oc) ?hic (λK hK=>?_) AllReadyH.nil
      case hic=>simp only[Zt,Zu,Zv];rfl
      go_simp;refine (xyf X x.cls _ _ _ (hh.later Bw bi.S.bel) (hH.later BB bi.S.bel) ho a8 S L).mono ?_;rintro e w' ⟨rfl,hb⟩;have cc:=roB bs hb;go_wp2_with fail;refine hK.out _ _ cc (λc9=>?_);refine wpAnyH_take (i:=29) (oi:=?oo29) (v:=?vv29) ?hi29 (by kernel_rfl) (by kernel_rfl) (by kernel_rfl) ?hq29 ?hy29 (by assumption) ?rest29
      case hi29=>simp only[Zt,Zu,Zv];rfl
      case hq29=>exact λ_ _ _ h=>h
      case hy29=>(refine Or.inl ⟨by rfl,?_⟩;intro w l;(try dsimp only at l);go_simp;try with_reducible rfl)
      simp only[Act.put,Bj,Bl,Bk];refine wpAnyH_take (i:=30) (oi:=?oo30) (v:=?vv30) ?hi30 (by kernel_rfl) (by kernel_rfl) (by kernel_rfl) ?hq30 ?hy30 (by assumption) ?rest30
      case hi30=>simp only[Zt,Zu,Zv];rfl
      case hq30=>exact λ_ _ _ h=>h
      case hy30=>(refine Or.inl ⟨by rfl,?_⟩;intro w l;(try dsimp only at l);go_simp;try with_reducible rfl)
      simp only[Act.put,Bj,Bl,Bk];refine wpAnyH_done (by kernel_rfl) ?_ _;go_wp2_with fail;go_meet
      case rel=>exact⟨by rw[Y],cc.2.2.2.2.2⟩
     case rest=>
      as_aux_lemma=>
      clear hO o0 o1 a0 a1 a2;obtain⟨rfl,hO⟩:=hcut;have cb:Hid (Cs X.cz x.cls=S):=L;have bv:Hid (bb=((x.slots.length:Int) != S)):=Y;clear L Y
      cases bb
      ·have HF:Hid (¬ (Dj X.cz.length x.cls=false\/(x.slots.length:Int)≠Cs X.cz x.cls)):=by
        have h1:=bv.out;show ¬ _;rw[cx.out,cb.out];simpa using h1
       have o1:=hO.o1;go_wp2;clear o1;obtain⟨go,al⟩:∃go,go=gk:=⟨_,rfl⟩
       go_loopg [271] x.slots.length (λg i wi=>∃t:Nat,t+g=x.slots.length/\i=J t/\RtO w X (qS ad X.cz.length cap) (qS (some (O b o)) X.heap.length ch) (qS (some (O bf og)) 4 y1) B1 x (qS r x.slots.length q) Bo wi/\∀k z,k<t->x.slots[k]?=some z->Cn X.heap.length z=0)
       case atStart=>exact⟨0,by omega,rfl,hO,λk z h=>by omega⟩
       case round=>
        clear hO;obtain⟨t,ht,rfl,hO,hE⟩:=hrel;have HE:Hid (∀k z,k<t->x.slots[k]?=some z->Cn X.heap.length z=0):=hE;clear hE;by_cases htl:t<x.slots.length
        ·have cs:(t:Int)<(x.slots.length:Int):=by omega
         have cq:(0:Int)<=(t:Int):=by omega
         obtain⟨y,hy⟩:∃y,x.slots[t]?=some y:=⟨_,List.getElem?_eq_getElem htl⟩;obtain⟨b2,o2,rfl,-,p0,p1⟩:=D t y hy;simp only[Nat.add_zero] at p0;replace p0:=Bf hO.S.bel p0;replace p1:=Bf hO.S.bel p1;have ba:=Bg wr (qH y);have a1:=Bf ba hO.S.a1;have bo:Hid (Cn X.heap.length y≠0->Cn X.heap.length y=R):=λh=>cy.out HF.out t y hy HE.out h
         have bh:Hid (Cn X.heap.length y=0->∀k z,k<t+1->x.slots[k]?=some z->Cn X.heap.length z=0):=λh k z hk hz=>by
          by_cases hkt:k=t
          ·subst hkt;rw[hy] at hz;cases hz;exact h
          exact HE.out k z Zo hz
         clear HE hy;go_wp2_with fail;refine (xyn y X.heap.length _).mono ?_;rintro e w5 ⟨rfl,hb⟩;replace hO:=hO.later (Bh ba hb);clear hb ba a1 p0 p1;generalize Cn X.heap.length y=wv at *;by_cases wz:wv=0
         ·have wz':(wv != 0)=false:=by simp[wz]
          have d1:Hid (∀k z,k<t+1->x.slots[k]?=some z->Cn X.heap.length z=0):=bh.out wz;clear wz;go_wp2;go_roundg (gk-1)
          case measure=>omega
          case rel=>exact⟨t+1,by omega,by go_num,hO,d1.out⟩
         have wz':(wv != 0)=true:=by simpa using wz
         have d4:Hid (wv=R):=bo.out wz;clear wz;go_wp2;go_ret;exact⟨BT d4.out,hO.S.bel⟩
        obtain rfl:t=x.slots.length:=by omega
        have bw:Hid (xsh X (j+1)):=bx.out HF.out λk z hz=>HE.out k z (Bz hz) hz;go_wp2;go_roundg (go-1)
        case measure=>omega
        case rel=>exact⟨j+1,by omega,by go_num,hO.S,bw.out⟩
      have cu:Hid (8=R):=bc.out 8 (by
       have h1:=bv.out;unfold Ev;rw[if_pos (Or.inr (by rw[cb.out];simpa using h1.symm))]) (by decide)
      go_wp2;go_ret;exact⟨BT cu.out,hO.S.bel⟩
    obtain rfl:j=X.heap.length:=by omega
    have d2:Hid (0=R):=by show _=_;rw[← HR.out];exact (xiv HZ.out bl.out bz.out HD.out).symm
    go_wp2;go_ret;exact⟨BT d2.out,hS.bel⟩
end Go.Proofs.YtbafokihegegiaaGreatDoor
