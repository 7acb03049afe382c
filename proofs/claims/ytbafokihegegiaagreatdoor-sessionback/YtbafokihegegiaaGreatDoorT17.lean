/- A part. -/
import Derived.Test.YtbafokihegegiaaGreatDoorT16
namespace Go.Proofs.YtbafokihegegiaaGreatDoor
open Go.ChangeShapes Go.WideShapes Go.ChangeAt Go.RowKit
set_option linter.unusedSimpArgs false
set_option linter.unusedVariables false
set_option maxHeartbeats 8000000
set_option maxRecDepth 8000
def Hw (X:QW)(c k:Int)(sites:List Int):Fst × Bool:=match Cp X.cz c k with
 | none=>(Kh,false)
 | some m=>En X c m sites
theorem xkz {P Q:Nat->Prop}(X:QW)(c k:Int)(j:Cp X.cz c k=none)(sites:List Int)(cv hv sv:Value)(w:qW)(h:BK P w cv X.cz)(i:BP P w hv X.heap)(m:LH Q w sv sites) :
  Calls Tryz.prog 114 #[WV cv hv X.ez,J c,J k,sv] w λe w'=>Qk w (Kh,false) e w':=by
 obtain⟨ac,cc,rfl,-,b,-,-⟩:=id h;obtain⟨ah,ch,rfl,-⟩:=id i;have f:=BG w (qA ac cc ah ch X) (qI);go_enter Tryz.func114,Tryz.ntmps114;go_wp2_with fail;refine (xls X c k _ _ _ (h.later Bw f) (i.later BB f)).mono ?_;rintro e w1 ⟨rfl,a⟩;rw[show KD X.cz c k=none from j];dsimp only;have g:=Bh f a;have zz:=xow w (qS ac X.cz.length cc) (qS ah X.heap.length ch) X.ez;replace zz:=zz.later a;obtain⟨k0,k1,k2,q0,q1,q2,q3,q4,qf,d⟩:=id zz;have l:=CH (xnS (U:=w1) g);go_wp2;refine Bt (v:=.tuple #[FW Kh (qN),.bool false]) ?_ rfl l.out;simp[results,Tryz.results114,go_sem,q0,q1,q2,q3,q4,Kh]
theorem xeB {P Q:Nat->Prop}(X:QW)(g:BM X=0)(c k:Int)(sites:List Int)(cv hv sv:Value)(w:qW)(d:BK P w cv X.cz)(f:BP P w hv X.heap)(a:LH Q w sv sites) :
  Calls Tryz.prog 114 #[WV cv hv X.ez,J c,J k,sv] w λe w'=>Qk w (Hw X c k sites) e w':=by
 unfold Hw
 cases b:Cp X.cz c k with
 | none=>exact xkz X c k b sites cv hv sv w d f a
 | some m=>exact xlc X g c k m b sites cv hv sv w d f a
def Mf (xs:List QC)(c k:Int):Option QM:=(Cy xs c).bind λx=>if 0<=k then x.mz[k.toNat]? else none
theorem xhR {xs:List QC}{c k:Int}{m:QM}(h:Mf xs c k=some m):∃(q t:Nat) (x:QC),c=(q:Int)/\k=(t:Int)/\xs[q]?=some x/\x.mz[t]?=some m:=by
 unfold Mf at h
 cases a:Cy xs c with
 | none=>rw[a] at h;cases h
 | some x=>
  rw[a] at h;obtain⟨q,rfl,b⟩:=Gl a;simp only[Option.bind_some] at h;split at h
  ·rename_i d;exact⟨q,k.toNat,x,rfl,by omega,b,h⟩
  cases h
theorem xpa {xs:List QC}{c k:Int}(h:Mf xs c k=none):c<0\/(xs.length:Int)<=c\/∃(q:Nat) (x:QC),c=(q:Int)/\xs[q]?=some x/\(k<0\/(x.mz.length:Int)<=k):=by
 unfold Mf at h
 cases a:Cy xs c with
 | none=>
  have:=PQ (xs:=xs) (c:=c);rw[a] at this;simp[Dg] at this;omega
 | some x=>
  rw[a] at h;obtain⟨q,rfl,b⟩:=Gl a;simp only[Option.bind_some] at h;right;right;refine⟨q,x,rfl,b,?_⟩;by_cases hk:0<=k
  ·rw[if_pos hk] at h;have:=List.getElem?_eq_none_iff.1 h;omega
  omega
def xqp (X:QW)(t:List QT)(c:Int)(m:QM)(j:Nat)(i:QI):Int:=if i.op == 14 then Ld X t ⟨c,m.name,j⟩ i.name i.a else -1
def Ed (X:QW)(t:List QT)(c k:Int):List Int:=match Mf X.cz c k with
 | some m=>m.code.mapIdx (xqp X t c m)
 | none=>[]
theorem xpc {P:Nat->Prop}(X:QW)(c k:Int)(cv hv:Value)(w:qW)(B:BK P w cv X.cz)(C:BP P w hv X.heap):Calls Tryz.prog 155 #[WV cv hv X.ez,J c,J k] w λe w'=>e=.returned (.bool (Mf X.cz c k).isSome)/\qY w w':=by
 obtain⟨ad,cap,rfl,D,g,-,a⟩:=B;obtain⟨ah,ch,rfl,-⟩:=C
 cases j:Mf X.cz c k with
 | none=>
  rcases xpa j with h | h | ⟨q,x,rfl,i,h⟩
  ·have p:decide (0<=c)=false:=by simpa using h
   clear a;go_enter Tryz.func155,Tryz.ntmps155;go_wp2;go_ret;exact⟨rfl,Bg _ _⟩
  ·have p:decide (c<(X.cz.length:Int))=false:=by simpa using h
   have r:decide (0<=c)=true:=by simp;omega
   clear a;go_enter Tryz.func155,Tryz.ntmps155;go_wp2;go_ret;exact⟨rfl,Bg _ _⟩
  have v:=Bz i;have n:(0:Int)<=(q:Int):=by omega
  have l:(q:Int)<(X.cz.length:Int):=by omega
  obtain⟨b,o,rfl,-,-,-,-,-,mv,f,d⟩:=a q x i;obtain⟨am,cm,rfl,-⟩:=d;have k3:=λy=>Bf (Bg w y) f;clear a i j;by_cases h0:k<0
  ·have p:decide (0<=k)=false:=by simpa using h0
   go_enter Tryz.func155,Tryz.ntmps155;go_wp2;go_ret;exact⟨rfl,Bg _ _⟩
  have r:decide (0<=k)=true:=by simp;omega
  have p:decide (k<(x.mz.length:Int))=false:=by simp;omega
  go_enter Tryz.func155,Tryz.ntmps155;go_wp2;go_ret;exact⟨rfl,Bg _ _⟩
 | some m=>
  obtain⟨q,t,x,rfl,rfl,i,s⟩:=xhR j;have v:=Bz i;have F:=Bz s;have n:(0:Int)<=(q:Int):=by omega
  have l:(q:Int)<(X.cz.length:Int):=by omega
  have u:(0:Int)<=(t:Int):=by omega
  have z:(t:Int)<(x.mz.length:Int):=by omega
  obtain⟨b,o,rfl,-,-,-,-,-,mv,f,d⟩:=a q x i;obtain⟨am,cm,rfl,-⟩:=d;have k3:=λy=>Bf (Bg w y) f;clear a i j s;go_enter Tryz.func155,Tryz.ntmps155;go_wp2;go_ret;exact⟨rfl,Bg _ _⟩
theorem xo8 {P:Nat->Prop}(p4 p5 p6 p9:Value)(f:Nat->QI->Int)(xs:List QI)(v:Value)(w:qW)(hh:Cm P w v xs)
  (hF:∀(j:Nat) (x:QI) (w':qW),qY w w'->Calls Tryz.prog 157 #[.int .i64 j,IV x,p4,p5,p6,p9] w' λe w''=>e=.returned (.int .i64 (f j x))/\qY w' w'') :
  Calls Tryz.prog 156 #[v,.func (.func 157) #[] #[p4,p5,p6,p9]] w λe w'=>e=.returned (qG w.heap.size xs.length xs.length)/\w'.heap[w.heap.size]?=some (xew (xs.mapIdx λj x=>if x.op == 14 then f j x else -1))/\qY w w':=by
 obtain⟨ad,cap,rfl,hl,z,C,m⟩:=hh;have a4:=xgW xs.length (by omega);have R:=Bg w (xew (List.replicate xs.length 0));have Q:=BH w (xew (List.replicate xs.length 0));go_enter Tryz.func156,Tryz.ntmps156;go_wp2
 go_loopg [13] xs.length (λg c wr=>∃(j:Nat) (h:List Int),j+g=xs.length/\c=.int .i64 j/\h.length=xs.length/\(∀i y,i<j->xs[i]?=some y->h[i]?=some (if y.op == 14 then f i y else -1))/\wr.heap[w.heap.size]?=some (xew h)/\qY w wr)
 case atStart=>exact⟨0,List.replicate xs.length 0,by omega,rfl,by simp,λi y S=>by omega,Q,R⟩
 case round=>
  obtain⟨j,h,hj,rfl,l,s,N,d⟩:=hrel;have T:Hid (∀i y,i<j->xs[i]?=some y->h[i]?=some (if y.op == 14 then f i y else -1)):=s;clear s Q R;by_cases hlt:j<xs.length
  ·obtain⟨b,o,rfl,-,n,u,q,r,t,B⟩:=m j xs[j] (by simp[hlt]);have Z:Hid (xs[j]?=some xs[j]):=by show _=_;simp[hlt]
   generalize xs[j]=x at *;simp only[Nat.add_zero] at n;have u0:=Bf d n;have u1:=Bf d u;have u2:=Bf d q;have u3:=Bf d r;have u4:=Bf d t;clear n u q r t m;have a1:(j:Int)<(xs.length:Int):=by omega
   have a2:(0:Int)<=(j:Int):=by omega
   have L:=Bg wr (qE x);have F:(wr.alloc (qE x)).heap[w.heap.size]?=some (xew h):=by rw[L.block _ (By N)];exact N
   have a3:=By N;have gc:=xfj F (k:=j) (by omega);have gf:=xe2 F j;have n0:(wr.alloc (qE x)).cell? ⟨wr.heap.size,0,none⟩=some (.int .i64 x.op):=by rw[Bp _ _ _ _ rfl];rfl
   have n1:(wr.alloc (qE x)).cell? ⟨wr.heap.size,1,none⟩=some (.int .i64 x.a):=by rw[Bp _ _ _ _ rfl];rfl
   have n2:(wr.alloc (qE x)).cell? ⟨wr.heap.size,2,none⟩=some (.int .i64 x.b):=by rw[Bp _ _ _ _ rfl];rfl
   have n3:(wr.alloc (qE x)).cell? ⟨wr.heap.size,3,none⟩=some (.int .i64 x.c):=by rw[Bp _ _ _ _ rfl];rfl
   have n4:(wr.alloc (qE x)).cell? ⟨wr.heap.size,4,none⟩=some (.string x.name):=by rw[Bp _ _ _ _ rfl];rfl
   have M:=Bh d L;go_upto_region 5 with (fail);generalize V:wr.heap.size=bi at *;generalize (wr.alloc (qE x))=W1 at *;have D:bi≠w.heap.size:=by omega
   clear L u0 u1 u2 u3 u4 N d V;have G:=Ql F j (-1);have m0:=(DX W1 ⟨w.heap.size,j,none⟩ ⟨bi,0,none⟩ (.int .i64 (-1)) (by simp[D])).trans n0;have m1:=(DX W1 ⟨w.heap.size,j,none⟩ ⟨bi,1,none⟩ (.int .i64 (-1)) (by simp[D])).trans n1;have m2:=(DX W1 ⟨w.heap.size,j,none⟩ ⟨bi,2,none⟩ (.int .i64 (-1)) (by simp[D])).trans n2;have m3:=(DX W1 ⟨w.heap.size,j,none⟩ ⟨bi,3,none⟩ (.int .i64 (-1)) (by simp[D])).trans n3;have m4:=(DX W1 ⟨w.heap.size,j,none⟩ ⟨bi,4,none⟩ (.int .i64 (-1)) (by simp[D])).trans n4;have K:qY w (W1.setCell ⟨w.heap.size,j,none⟩ (.int .i64 (-1))):=M.setCell (Bq _) _;go_upto_region 6 with (fail);generalize (W1.setCell { block:=w.heap.size,off:=j } (.int .i64 (-1)))=W2 at *;clear n0 n1 n2 n3 n4 F gc gf M
   have U:Hid (∀v:Int,v=(if x.op == 14 then f j x else -1)->∀i y,i<j+1->xs[i]?=some y->((h.set j (-1)).set j v)[i]?=some (if y.op == 14 then f i y else -1)):=λv hv i y S hy=>by
    by_cases hij:i=j
    ·subst hij;rw[Z.out] at hy;cases hy;rw[hv];simp[l,hlt]
    rw[List.getElem?_set_ne (by omega),List.getElem?_set_ne (by omega)];exact T.out i y (by omega) hy
   by_cases h14:x.op=14
   ·have Y:(x.op == 14)=true:=by simpa using h14
    have X:Hid (∀i y,i<j+1->xs[i]?=some y->((h.set j (-1)).set j (f j x))[i]?=some (if y.op == 14 then f i y else -1)):=U.out _ (by rw[Y];simp);clear h14 U T;go_wp2_with fail;refine (hF j x _ K).mono ?_;rintro e w3 ⟨rfl,p⟩;have H:w3.heap[w.heap.size]?=some (xew (h.set j (-1))):=by rw[p.block _ (By G)];exact G
    have gc:=xfj H (k:=j) (by simp;omega);have gf:=xe2 H j;have W:=Ql H j (f j x);have a0:qY w (w3.setCell ⟨w.heap.size,j,none⟩ (.int .i64 (f j x))):=(Bh K p).setCell (Bq _) _;clear G m0 m1 m2 m3 m4 p;go_wp2;go_roundg (gk-1)
    case measure=>omega
    case rel=>exact⟨j+1,_,by omega,by go_num,by simp;exact l,X.out,W,a0⟩
   have Y:(x.op == 14)=false:=by simpa using h14
   have X:Hid (∀i y,i<j+1->xs[i]?=some y->(h.set j (-1))[i]?=some (if y.op == 14 then f i y else -1)):=by
    have:=U.out (-1) (by rw[Y];simp);rw[List.set_set] at this;exact this
   clear h14 U T;go_wp2;go_roundg (gk-1)
   case measure=>omega
   case rel=>exact⟨j+1,_,by omega,by go_num,by simp;exact l,X.out,G,K⟩
  obtain rfl:j=xs.length:=by omega
  go_wp2;go_ret;refine⟨rfl,?_,d⟩;rw[N]
  congr 3
  refine List.ext_getElem? λi=>?_;by_cases S:i<xs.length
  ·have hx:xs[i]?=some xs[i]:=by simp[S]
   rw[T.out i _ S hx];simp[S]
  rw[List.getElem?_eq_none (by omega),List.getElem?_eq_none (by simp;omega)]
theorem xmR {P P2:Nat->Prop}(X:QW)(t:List QT)(c:Int)(m:QM)(j:Nat)(x:QI)(b0 b1 b2 b3:Nat)(cv hv tv:Value)(w:qW)(d:BK P w cv X.cz)(f:BP P w hv X.heap)(b:Ep P2 w tv t)
  (k0:w.cell? (O b0 0)=some cv) (k1:w.cell? (O b0 1)=some hv) (k2:w.cell? (O b0 2)=some (J X.ez)) (k3:w.cell? (O b1 0)=some tv) (k4:w.cell? (O b2 0)=some (J c)) (k5:w.cell? (O b3 0)=some (qZ m.name)) :
  Calls Tryz.prog 157 #[J j,IV x,qP b0,qP b1,qP b2,qP b3] w λe w'=>e=.returned (J (Ld X t ⟨c,m.name,j⟩ x.name x.a))/\qY w w':=by
 obtain⟨ad,cap,rfl,-⟩:=id d;obtain⟨ah,ch,rfl,-⟩:=id f;obtain⟨at',ct,rfl,-⟩:=id b;have k0':=λy=>Bf (Bg w y) k0;have k1':=λy=>Bf (Bg w y) k1;have k2':=λy=>Bf (Bg w y) k2;have k3':=λy=>Bf (Bg w y) k3;have k4':=λy=>Bf (Bg w y) k4;have k5':=λy=>Bf (Bg w y) k5;clear k0 k1 k2 k3 k4 k5;go_enter Tryz.func157,Tryz.ntmps157;go_wp2_with fail;refine (xm7 X t ⟨c,m.name,j⟩ x.name x.a _ _ _ _ (d.later Bw (Bg _ _)) (f.later BB (Bg _ _)) (b.later xbD (Bg _ _))).mono ?_;rintro e w1 ⟨rfl,g⟩;go_wp2;go_ret;exact⟨rfl,EB (Br _ _) g⟩
structure SitB (w:qW)(cv hv tv:Value)(ep c:Int)(w':qW):Prop where
 k0:w'.cell? (O w.heap.size 0)=some cv
 k1:w'.cell? (O w.heap.size 1)=some hv
 k2:w'.cell? (O w.heap.size 2)=some (J ep)
 k3:w'.cell? (O (w.heap.size+1) 0)=some tv
 k4:w'.cell? (O (w.heap.size+1+1) 0)=some (J c)
 bel:qY w w'
theorem SitB.later {w:qW}{cv hv tv:Value}{ep c:Int}{w' w'':qW}(h:SitB w cv hv tv ep c w')(a:qY w' w''):SitB w cv hv tv ep c w'':=
 ⟨Bf a h.k0,Bf a h.k1,Bf a h.k2,Bf a h.k3,Bf a h.k4,Bh h.bel a⟩
theorem xpd (w:qW)(cv hv tv:Value)(ep c:Int):SitB w cv hv tv ep c (((w.alloc (qC #[cv,hv,J ep] 26)).alloc (qC #[tv] 28)).alloc (qC #[J c] 3)):=by
 refine⟨?_,?_,?_,?_,?_,DW _ _ _ _⟩
 ·exact Bf (BG _ _ _) (by rw[Bp _ _ _ _ rfl];rfl)
 ·exact Bf (BG _ _ _) (by rw[Bp _ _ _ _ rfl];rfl)
 ·exact Bf (BG _ _ _) (by rw[Bp _ _ _ _ rfl];rfl)
 ·exact Bf (Bg _ _) (by rw[Bp _ _ _ _ (by simp)];rfl)
 rw[Bp _ _ _ _ (by simp)];rfl
theorem xjQ {P P2:Nat->Prop}(X:QW)(t:List QT)(c k:Int)(cv hv tv:Value)(w:qW)(S:BK P w cv X.cz)(R:BP P w hv X.heap)(Y:Ep P2 w tv t) :
  Calls Tryz.prog 115 #[WV cv hv X.ez,tv,J c,J k] w λe w'=>∃a cap,e=.returned (qS a (Ed X t c k).length cap)/\LH (λb=>w.heap.size<=b) w' (qS a (Ed X t c k).length cap) (Ed X t c k)/\qY w w':=by
 have hm:=Gm;obtain⟨ad,cap,rfl,hl,l,-,f⟩:=id S;obtain⟨ah,ch,rfl,-⟩:=id R;obtain⟨at',ct,rfl,-⟩:=id Y;have B:=xpd w (qS ad X.cz.length cap) (qS ah X.heap.length ch) (qS at' t.length ct) X.ez c;go_enter Tryz.func115,Tryz.ntmps115;go_upto_region 1 with (fail);generalize ((w.alloc (qA ad cap ah ch X)).alloc (qC #[qS at' t.length ct] 28)).alloc (qC #[J c] 3)=W0 at *;have F:=S.later Bw B.bel;have G:=R.later BB B.bel;obtain⟨k0,k1,k2,k3,k4,d⟩:=id B;go_wp2_with fail;refine (xpc X c k _ _ _ F G).mono ?_;rintro e w1 ⟨rfl,n⟩;replace B:=B.later n;clear n k0 k1 k2 k3 k4 F G d
 cases C:Mf X.cz c k with
 | none=>
  have H:Hid (Ed X t c k=[]):=by show _=_;simp[Ed,C]
  go_wp2;go_ret;refine⟨none,0,?_,?_,B.bel⟩
  ·rw[H.out];rfl
  rw[H.out];exact GZ
 | some m=>
  have H:Hid (Ed X t c k=m.code.mapIdx (xqp X t c m)):=by show _=_;simp[Ed,C]
  obtain⟨q,t',x,rfl,rfl,M,T⟩:=xhR C;clear C;have hq:=Bz M;have ht:=Bz T;obtain⟨b,o,rfl,-,-,-,-,-,mv,h,p⟩:=f q x M;obtain⟨am,cm,rfl,y,r,-,g⟩:=p;obtain⟨b2,o2,rfl,-,y0,y1,y2,y3,-,sv,y4,i⟩:=g t' m T;obtain⟨ac,cc,rfl,z,v,u,-⟩:=id i;simp only[Nat.add_zero] at y0;have u3:=Bf B.bel h;have z0:=Bf B.bel y0;have z1:=Bf B.bel y1;have z2:=Bf B.bel y2;have z3:=Bf B.bel y3;have z4:=Bf B.bel y4;unfold maxLen at l r;have a0:(q:Int)<(X.cz.length:Int):=by omega
  have a2:(0:Int)<=(q:Int):=by omega
  have a3:(t':Int)<(x.mz.length:Int):=by omega
  have a1:(0:Int)<=(t':Int):=by omega
  obtain⟨k0,k1,k2,k3,k4,d⟩:=id B;have L:=Bg w1 (qD m ac cc);have n0:(w1.alloc (qD m ac cc)).cell? (O w1.heap.size 0)=some (qZ m.name):=by rw[Bp _ _ _ _ rfl];rfl
  have n4:(w1.alloc (qD m ac cc)).cell? (O w1.heap.size 4)=some (qS ac m.code.length cc):=by rw[Bp _ _ _ _ rfl];rfl
  go_upto_region 4 with (fail);replace B:=B.later L;generalize (w1.alloc (qD m ac cc))=W2 at *;generalize w1.heap.size=bm at *;have Q:=i.later BR B.bel;have N:=S.later Bw B.bel;have V:=R.later BB B.bel;have U:=Y.later xbD B.bel;clear k0 k1 k2 k3 k4 L u3 z0 z1 z2 z3 z4 f g M T h y0 y1 y2 y3 y4 d;go_wp2_with fail;refine (xo8 _ _ _ _ (λj x=>Ld X t ⟨(q:Int),m.name,j⟩ x.name x.a) m.code _ _ Q λj x w' D=>xmR X t (q:Int) m j x _ _ _ _ _ _ _ w' (N.later Bw D) (V.later BB D) (U.later xbD D) (Bf D B.k0) (Bf D B.k1) (Bf D B.k2) (Bf D B.k3) (Bf D B.k4) (Bf D n0)).mono ?_;rintro e w3 ⟨rfl,W,s⟩;have Z:Hid ((m.code.mapIdx λj x=>if x.op == 14 then Ld X t ⟨(q:Int),m.name,j⟩ x.name x.a else -1)=Ed X t (q:Int) (t':Int)):=by show _=_;rw[H.out];rfl
  rw[Z.out] at W;have K:m.code.length=(Ed X t (q:Int) (t':Int)).length:=by rw[H.out];simp
  go_wp2;go_ret;refine⟨some (O W2.heap.size 0),m.code.length,by rw[K];rfl,?_,Bh B.bel s⟩;have:=B.bel.size;have:=(xp7 (P:=λb=>w.heap.size<=b) (w:=w3) (Ed X t (q:Int) (t':Int))).row (bytes:=8) (cap:=m.code.length) xrH (by omega) W (by rw[List.take_of_length_le (by simp[NG])];simp[NG]) (by omega) (by omega) (by omega);exact this
def ED (y:QI):Prop:=y.op=15\/y.op=16
theorem xiE (a:Int):∀(n:Nat),∀y∈Fq a n,y.op=11
 | 0,y,h=>by cases h
 | n+1,y,h=>by
  unfold Fq at h;rcases List.mem_cons.1 h with rfl | h
  ·rfl
  exact xiE a n y h
theorem xkS (a:Int)(n:Nat):∀y∈Ex a n,y.op=6\/y.op=11:=by
 intro y h;unfold Ex at h;rw[List.mem_flatMap] at h;obtain⟨k,-,h⟩:=h;simp only[List.mem_cons,List.not_mem_nil,or_false] at h;rcases h with rfl | rfl
 ·exact Or.inl rfl
 exact Or.inr rfl
theorem xmW {e:QM}(f:Sml e)(self d c first b:Int)(j:0<=first)(k:b=first+e.code.length){x:QI}(g:x∈e.code):(Cc self d c first b x).op≠18/\(ED (Cc self d c first b x)->0<=(Cc self d c first b x).a/\(Cc self d c first b x).a<=b):=by
 obtain⟨p1,p2,-⟩:=f.plain x g;have i:=f.jump x g;unfold ED Cc;split
 ·exact⟨by simp,λh=>by simp at h⟩
 split
 ·exact⟨by simp,λh=>by simp at h⟩
 split
 ·rename_i h;exact⟨by simp;omega,λh'=>by simp at h';omega⟩
 split
 ·exact⟨by simp,λh=>by simp at h⟩
 split
 ·exact⟨by simp,λh=>by simp at h⟩
 split
 ·rename_i h;have:=i h;exact⟨by simp;omega,λ_=>by simp;omega⟩
 split
 ·exact⟨by simp,λ_=>by simp;omega⟩
 exact⟨by omega,λh'=>by omega⟩
theorem xhS {b:QM}(c:Sml b)(guard:QI)(self n:Int)(i:0<=n):∀y∈Eh b guard self n,y=guard\/(y.op≠18/\(ED y->0<=y.a/\y.a<=n+(Eh b guard self n).length)):=by
 intro y d;rw[KB];have j:=c.args;have g:=c.temps;unfold Eh at d;rcases List.mem_append.1 d with h | h
 ·unfold Kc at h;simp only[List.mem_append,List.mem_cons,List.not_mem_nil,or_false] at h;rcases h with ((((h | h) | h) | h) | h)
  ·exact Or.inl h
  ·subst h;exact Or.inr ⟨by simp,λh=>by simp[ED] at h⟩
  ·have:=xiE _ _ y h;exact Or.inr ⟨by omega,λh=>by simp only[ED] at h;omega⟩
  ·subst h;exact Or.inr ⟨by simp,λh=>by simp[ED] at h⟩
  have:=xkS _ _ y h;exact Or.inr ⟨by omega,λh=>by simp only[ED] at h;omega⟩
 obtain⟨x,f,rfl⟩:=List.mem_map.1 h;obtain⟨g1,g2⟩:=xmW c self (self+1) (self+1+b.args) (Fh b n) (Fh b n+b.code.length) (by unfold Fh;omega) rfl f;refine Or.inr ⟨g1,λe=>?_⟩;have:=g2 e;unfold Fh at *;omega
theorem xpM (a:QM)(guard:QI)(self n:Int):guard∈Eh a guard self n:=by
 unfold Eh Kc;simp
structure BGood (sites:List Int)(m:QM)(k:Nat)(s:Bd):Prop where
 len:k<=s.code.length
 jump:∀y∈s.code,ED y->0<=y.a/\(y.a<=s.code.length\/y.a<=m.code.length)
 guard:∀y∈s.code,y.op=18->∃j:Nat,j<k/\y.c=j/\sites[j]?=some y.a
 one:0<s.pieces->∃y∈s.code,y.op=18
 stay:∀j x,m.code[j]?=some x->j<k->x.op≠14->∃b:Nat,s.begins[j]?=Option.some (b:Int)/\s.code[b]?=Option.some x
theorem xrw {sites:List Int}{k:Nat}(h:0<=sites.getD k (-1)):sites[k]?=some (sites.getD k (-1)):=by
 rw[List.getD_eq_getElem?_getD] at h ⊢
 cases a:sites[k]? with
 | none=>rw[a] at h;simp at h
 | some v=>rfl
theorem xhU {X:QW}(h:BM X=0){sites:List Int}{m:QM}(C:Sml m):∀ {k:Nat},k<=m.code.length->BGood sites m k (Bv X.cz sites m k)
 | 0,_=>⟨Nat.zero_le _,λy d=>by simp[Bv] at d,λy d=>by simp[Bv] at d,λh=>by simp[Bv] at h,λj x _ f=>by omega⟩
 | k+1,hk=>by
  have ih:=xhU h C (sites:=sites) (k:=k) (by omega);have F:=Ml (xs:=X.cz) (sites:=sites) (m:=m) (k:=k) (by omega);have z:m.code[k]?=some m.code[k]:=List.getElem?_eq_getElem (by omega);have t:m.code[k]∈m.code:=List.getElem_mem _;rw[Kb z];generalize Bv X.cz sites m k=s at *;generalize m.code[k]=x at *
  have p:∀j y,m.code[j]?=some y->j<k->y.op≠14->∀(e:List QI),∃b:Nat,(s.begins++[(s.code.length:Int)])[j]?=some (b:Int)/\(s.code++e)[b]?=some y:=by
   intro j y d f g e;obtain⟨b,v,i⟩:=ih.stay j y d f g;exact⟨b,by rw[List.getElem?_append_left (by omega)];exact v,by rw[List.getElem?_append_left (Bz i)];exact i⟩
  obtain⟨p1,p2,-⟩:=C.plain x t;unfold FJ
  cases q:DK X.cz sites m.code.length s.code.length s.temps k x with
  | none=>
   dsimp only;have u:(CS x (k:Int)).op=x.op:=by unfold CS;split<;>rfl
   refine⟨by simp;exact ih.len,λy d f=>?_,λy d g=>?_,λK=>?_,λj y d f g=>?_⟩
   ·rcases List.mem_append.1 d with h' | h'
    ·have:=ih.jump y h' f;rw[List.length_append];simp;omega
    rw[List.mem_singleton] at h';subst h';have D:x.op=15\/x.op=16:=by unfold ED at f;rw[u] at f;exact f
    have e:CS x (k:Int)=x:=by unfold CS;rw[if_neg (by omega)]
    rw[e];have:=C.jump x t D;omega
   ·rcases List.mem_append.1 d with h' | h'
    ·obtain⟨j,v,i⟩:=ih.guard y h' g;exact⟨j,by omega,i⟩
    rw[List.mem_singleton] at h';subst h';rw[u] at g;omega
   ·obtain⟨y,v,i⟩:=ih.one K;exact⟨y,List.mem_append_left _ v,i⟩
   by_cases hjk:j<k
   ·exact p j y d hjk g _
   have n:j=k:=by omega
   subst n;rw[z] at d;cases d;have e:CS x (j:Int)=x:=by unfold CS;rw[if_neg g]
   refine⟨s.code.length,?_,?_⟩
   ·rw[List.getElem?_append_right (by omega),F];simp
   rw[e,List.getElem?_append_right (Bq _)];simp
  | some leaf=>
   have o:Et X.cz sites k x=some leaf:=by
    unfold DK at q;split at q
    ·cases q
    rename_i l G;split at q
    ·cases q;exact G
    cases q
   obtain⟨c,-,-,a⟩:=LQ h o
   have B:0<=sites.getD k (-1):=by
    unfold Et at o;split at o
    ·rename_i H;exact H.2
    cases o
   dsimp only;have r:=xhS c (BQ 18 (sites.getD k (-1)) leaf.args k) s.temps s.code.length (by omega);refine⟨by rw[List.length_append,KB];have:=ih.len;omega,λy d f=>?_,λy d g=>?_,λ_=>⟨_,List.mem_append_right _ (xpM leaf _ _ _),rfl⟩,λj y d f g=>?_⟩
   ·rw[List.length_append];rcases List.mem_append.1 d with h' | h'
    ·have:=ih.jump y h' f;omega
    rcases r y h' with rfl | ⟨-,i⟩
    ·simp[ED] at f
    have:=i f;omega
   ·rcases List.mem_append.1 d with h' | h'
    ·obtain⟨j,v,i⟩:=ih.guard y h' g;exact⟨j,by omega,i⟩
    rcases r y h' with rfl | ⟨i,-⟩
    ·exact⟨k,by omega,rfl,xrw B⟩
    exact absurd g i
   by_cases hjk:j<k
   ·exact p j y d hjk g _
   have n:j=k:=by omega
   subst n;rw[z] at d;cases d;exact absurd a g
theorem xh3 {l:List QI}{i:Nat}{f:QI->QI}{y:QI}(h:y∈l.modify i f):y∈l\/∃z,l[i]?=some z/\y=f z:=by
 obtain⟨j,a⟩:=List.mem_iff_getElem?.1 h;rw[List.getElem?_modify] at a;by_cases e:i=j
 ·subst e
  cases b:l[i]? with
  | none=>rw[b] at a;simp at a
  | some z=>rw[b] at a;simp at a;exact Or.inr ⟨z,rfl,a.symm⟩
 simp[e] at a;exact Or.inl (List.mem_iff_getElem?.2 ⟨j,a⟩)
theorem xoG {begins:List Int}{plain code:List QI}:∀k,(Dx begins plain code k).map (·.op)=code.map (·.op)
 | 0=>rfl
 | k+1=>by
  unfold Dx;have ih:=xoG (begins:=begins) (plain:=plain) (code:=code) k;split
  ·split
   ·rename_i t _;rw[← ih]
    apply List.ext_getElem?
    intro i;simp only[List.getElem?_map,List.getElem?_modify]
    cases (Dx begins plain code k)[i]? with
    | none=>rfl
    | some z=>simp;split<;>rfl
   ·exact ih
  exact ih
theorem xl3 {sites:List Int}{m:QM}{n:Nat}{s:Bd}(h:BGood sites m n s)(u:n=m.code.length)(d:∀b∈s.begins,0<=b/\b<(s.code.length:Int)):∀k,k<=n->∀y∈Dx s.begins m.code s.code k,(ED y->0<=y.a/\y.a<=s.code.length)/\(y.op=18->∃j:Nat,j<n/\y.c=j/\sites[j]?=some y.a)
 | 0,_,y,f=>by
  have F:=h.len;refine⟨λr=>?_,h.guard y f⟩;have:=h.jump y f r;omega
 | k+1,hk,y,f=>by
  have ih:=xl3 h u d k (by omega);unfold Dx at f;split at f
  ·rename_i x b D C;split at f
   ·rename_i t i;rcases xh3 f with h' | ⟨z,q,rfl⟩
    ·exact ih y h'
    unfold GL at i;split at i
    ·rename_i r;have p:=d t (List.mem_of_getElem? i);obtain⟨b',e,v⟩:=h.stay k x D (by omega) (by omega);rw[C] at e;cases e;have B:=xoG (begins:=s.begins) (plain:=m.code) (code:=s.code) k;have g:=congrArg (λl=>l[b']?) B;simp only[List.getElem?_map] at g;simp only[Int.toNat_natCast] at q;rw[q,v] at g;simp at g;refine⟨λ_=>⟨p.1,by dsimp only;omega⟩,λo=>?_⟩;dsimp only at o;omega
    cases i
   exact ih y f
  exact ih y f
theorem xnK {X:QW}(h:BM X=0){sites:List Int}{m:QM}(d:Sml m){c:Int}(b:(En X c m sites).2=true) :
  (En X c m sites).1.code.length<=240/\(En X c m sites).1.temps<=40/\(∀y∈(En X c m sites).1.code,(ED y->0<=y.a/\y.a<=(En X c m sites).1.code.length)/\(y.op=18->∃j:Nat,j<m.code.length/\y.c=j/\sites[j]?=some y.a))/\∃y∈(En X c m sites).1.code,y.op=18:=by
 have f:=xhU h d (sites:=sites) (Bq m.code.length);have l:=NN h d (sites:=sites) (Bq m.code.length);have k:=xi2 (xs:=X.cz) (sites:=sites) (m:=m) m.code.length;unfold En at b ⊢;dsimp only at b ⊢;generalize Bv X.cz sites m m.code.length=s at *;split at b
 ·cases b
 rename_i i;rw[if_neg i];dsimp only;rw[Mt];refine⟨by omega,l.2.2.1,xl3 f rfl k _ (Bq _),?_⟩;obtain⟨y,o,n⟩:=f.one (by omega);have:y.op∈(Dx s.begins m.code s.code m.code.length).map (·.op):=by rw[xoG];exact List.mem_map_of_mem o
 obtain⟨z,g,e⟩:=List.mem_map.1 this;exact⟨z,g,by rw[← n];exact e⟩
def Lm (n:Int)(y:QI):QI:=if y.op=15\/y.op=16 then { y with a:=y.a+n } else y
theorem LT {n:Int}{y:QI}(h:¬ ED y):Lm n y=y:=by unfold Lm;exact if_neg h
theorem xk1 (self c b first a n:Int)(x:QI):Lm n (Cc self c b first a x)=Cc self c b (first+n) (a+n) x:=by
 unfold Cc;split
 ·exact LT (by simp[ED])
 split
 ·exact LT (by simp[ED])
 split
 ·rename_i h;exact LT (by simp only[ED];omega)
 split
 ·exact LT (by simp[ED])
 split
 ·exact LT (by simp[ED])
 split
 ·rename_i h;unfold Lm;rw[if_pos (by simpa using h)];simp only[BQ,QI.mk.injEq,true_and,and_true];omega
 split
 ·rfl
 rename_i h _;exact LT h
theorem xl8 (a:QM)(g:QI)(d:g.op=18)(self n:Int):(Kc a g self).map (Lm n)=Kc a g self:=by
 refine (List.map_congr_left (g:=id) λy b=>?_).trans (List.map_id _);refine LT λc=>?_;unfold Kc at b;simp only[List.mem_append,List.mem_cons,List.not_mem_nil,or_false] at b;unfold ED at c;rcases b with ((((h | h) | h) | h) | h)
 ·subst h;omega
 ·subst h;simp at c
 ·have:=xiE _ _ y h;omega
 ·subst h;simp at c
 have:=xkS _ _ y h;omega
theorem xgB (a:QM)(g:QI)(b:g.op=18)(self n:Int):(Eh a g self 0).map (Lm n)=Eh a g self n:=by
 unfold Eh;rw[List.map_append,xl8 a g b,List.map_map]
 congr 1
 apply List.map_congr_left
 intro x _;simp only[Function.comp];rw[xk1];unfold Fh
 congr 1<;>omega
theorem xlg (o:List QI)(y:QI)(rest:List QI)(f:QI->QI):(o++([y]++rest)).modify o.length f=o++([f y]++rest):=by
 induction o with
 | nil=>simp
 | cons a o ih=>exact (List.modify_succ_cons f a _ _).trans (congrArg (a :: ·) ih)
def EN (B:List Int)(y:QI):QI:=if y.op=15\/y.op=16 then { y with a:=B.getD y.a.toNat 0 } else y
def ET (xs:List QC)(sites:List Int)(m:QM)(B:List Int):Nat->List QI
 | 0=>[]
 | k+1=>match m.code[k]? with
  | none=>ET xs sites m B k
  | some x=>ET xs sites m B k++match DK xs sites m.code.length (Bv xs sites m k).code.length (Bv xs sites m k).temps k x with
   | none=>[EN B (CS x k)]
   | some leaf=>(Eh leaf (BQ 18 (sites.getD k (-1)) leaf.args k) (Bv xs sites m k).temps 0).map (Lm (Bv xs sites m k).code.length)
theorem xnW {X:QW}(h:BM X=0){sites:List Int}{m:QM}(u:Sml m){B:List Int}(i:B.length=m.code.length):∀ {k:Nat},k<=m.code.length->(∀j,j<k->B[j]?=some ((Bv X.cz sites m j).code.length:Int))->∀rest,Dx B m.code ((Bv X.cz sites m k).code++rest) k=ET X.cz sites m B k++rest
 | 0,_,_,rest=>rfl
 | k+1,hk,hB,rest=>by
  have ih:=xnW h u i (sites:=sites) (k:=k) (by omega) (λj d=>hB j (by omega));have t:m.code[k]?=some m.code[k]:=List.getElem?_eq_getElem (by omega);have p:m.code[k]∈m.code:=List.getElem_mem _;have y:=hB k (by omega)
  have g:(ET X.cz sites m B k).length=(Bv X.cz sites m k).code.length:=by
   have:=congrArg List.length (ih []);rw[Mt] at this;simpa using this.symm
  rw[Kb t];unfold Dx ET;rw[t,y];generalize m.code[k]=x at *;generalize Bv X.cz sites m k=s at *;generalize ET X.cz sites m B k=o at *;unfold FJ;simp only
  cases f:DK X.cz sites m.code.length s.code.length s.temps k x with
  | none=>
   simp only[List.append_assoc];rw[ih];by_cases d:x.op=15\/x.op=16
   ·have n:=u.jump x p d
    have v:B[x.a.toNat]?=some (B.getD x.a.toNat 0):=by
     rw[List.getD_eq_getElem?_getD,List.getElem?_eq_getElem (by omega)];rfl
    have e:CS x (k:Int)=x:=by unfold CS;rw[if_neg (by omega)]
    have c:GL B x=some (B.getD x.a.toNat 0):=by unfold GL;rw[if_pos ⟨d,n.1⟩,v]
    rw[c,e];unfold EN;rw[if_pos d];simp only[Int.toNat_natCast];rw[← g,xlg]
   have c:GL B x=none:=by unfold GL;rw[if_neg (λh=>d h.1)]
   rw[c];unfold EN;have r:(CS x (k:Int)).op=x.op:=by unfold CS;split<;>rfl
   rw[if_neg (by rw[r];exact d)]
  | some leaf=>
   have q:Et X.cz sites k x=some leaf:=by
    unfold DK at f;split at f
    ·cases f
    rename_i l i;split at f
    ·cases f;exact i
    cases f
   obtain⟨-,-,-,b⟩:=LQ h q;have c:GL B x=none:=by unfold GL;rw[if_neg (by omega)]
   simp only[List.append_assoc];rw[c,ih,xgB _ _ rfl]
theorem xhc {xs:List QC}{sites:List Int}{m:QM}:∀ {k:Nat},k<=m.code.length->∀j,j<k->(Bv xs sites m k).begins[j]?=some ((Bv xs sites m j).code.length:Int)
 | 0,_,j,hj=>by omega
 | k+1,hk,j,hj=>by
  have a:=Ml (xs:=xs) (sites:=sites) (m:=m) (k:=k) (by omega);rw[Kb (List.getElem?_eq_getElem (by omega)),xeN];by_cases hjk:j<k
  ·rw[List.getElem?_append_left (by omega)];exact xhc (by omega) j hjk
  have:j=k:=by omega
  subst this;rw[List.getElem?_append_right (by omega),a];simp
theorem xpC {X:QW}(h:BM X=0){sites:List Int}{m:QM}(a:Sml m):Dx (Bv X.cz sites m m.code.length).begins m.code (Bv X.cz sites m m.code.length).code m.code.length=ET X.cz sites m (Bv X.cz sites m m.code.length).begins m.code.length:=by
 have:=xnW h a (sites:=sites) (B:=(Bv X.cz sites m m.code.length).begins) (Ml (Bq _)) (Bq _) (xhc (Bq _)) [];simpa using this
section
variable (xs:List QC) (sites:List Int) (m:QM)
def Fg (k:Nat):Option QM:=match m.code[k]? with
 | none=>none
 | some x=>DK xs sites m.code.length (Bv xs sites m k).code.length (Bv xs sites m k).temps k x
def KV (k:Nat):List QI:=match m.code[k]? with
 | none=>[]
 | some x=>match DK xs sites m.code.length (Bv xs sites m k).code.length (Bv xs sites m k).temps k x with
  | none=>[CS x k]
  | some leaf=>Eh leaf (BQ 18 (sites.getD k (-1)) leaf.args k) (Bv xs sites m k).temps 0
def MP (B:List Int)(k:Nat)(y:QI):QI:=if (Fg xs sites m k).isSome=true then Lm (Bv xs sites m k).code.length y else EN B y
end
section
variable {xs:List QC} {sites:List Int} {m:QM}
theorem xi5 {B:List Int}{k:Nat}(c:k<m.code.length):ET xs sites m B (k+1)=ET xs sites m B k++(KV xs sites m k).map (MP xs sites m B k):=by
 have a:m.code[k]?=some m.code[k]:=List.getElem?_eq_getElem c;rw[ET,a];unfold KV MP Fg;rw[a];obtain⟨o,b⟩:∃o,DK xs sites m.code.length (Bv xs sites m k).code.length (Bv xs sites m k).temps k m.code[k]=o:=⟨_,rfl⟩;simp only[b]
 cases o with
 | none=>simp
 | some leaf=>simp
theorem xgm {k:Nat}{x:QI}(a:m.code[k]?=some x)(h:DK xs sites m.code.length (Bv xs sites m k).code.length (Bv xs sites m k).temps k x=none):Fg xs sites m k=none/\KV xs sites m k=[CS x k]/\(Bv xs sites m (k+1)).temps=(Bv xs sites m k).temps/\(Bv xs sites m (k+1)).code.length=(Bv xs sites m k).code.length+1/\(Bv xs sites m (k+1)).begins=(Bv xs sites m k).begins++[((Bv xs sites m k).code.length:Int)]/\(Bv xs sites m (k+1)).pieces=(Bv xs sites m k).pieces:=by
 rw[Kb a];unfold Fg KV FJ;simp only[a,h];simp
theorem xiG {k:Nat}{x:QI}{a:QM}(b:m.code[k]?=some x)(h:DK xs sites m.code.length (Bv xs sites m k).code.length (Bv xs sites m k).temps k x=some a):Fg xs sites m k=some a/\KV xs sites m k=Eh a (BQ 18 (sites.getD k (-1)) a.args k) (Bv xs sites m k).temps 0/\(Bv xs sites m (k+1)).temps=(Bv xs sites m k).temps+1+a.args+a.temps/\(Bv xs sites m (k+1)).code.length=(Bv xs sites m k).code.length+(Eh a (BQ 18 (sites.getD k (-1)) a.args k) (Bv xs sites m k).temps 0).length/\(Bv xs sites m (k+1)).begins=(Bv xs sites m k).begins++[((Bv xs sites m k).code.length:Int)]/\(Bv xs sites m (k+1)).pieces=(Bv xs sites m k).pieces+1:=by
 rw[Kb b];unfold Fg KV FJ;simp only[b,h];simp[KB]
theorem xqe {k:Nat}(b:k<m.code.length):(Bv xs sites m (k+1)).code.length=(Bv xs sites m k).code.length+(KV xs sites m k).length:=by
 have a:m.code[k]?=some m.code[k]:=List.getElem?_eq_getElem b
 cases h:DK xs sites m.code.length (Bv xs sites m k).code.length (Bv xs sites m k).temps k m.code[k] with
 | none=>obtain⟨-,e1,-,e2,-⟩:=xgm a h;rw[e1,e2];rfl
 | some leaf=>obtain⟨-,e1,-,e2,-⟩:=xiG a h;rw[e1,e2]
end
theorem xj9 {P:Nat->Prop}{w:qW}{v:Value}{xs:List QI}(h:Cm P w v xs):Cm (λb=>P b/\b<w.heap.size) w v xs:=by
 obtain⟨ad,cap,a,e,g,c,d⟩:=h;refine⟨ad,cap,a,e,g,c,λi x f=>?_⟩;obtain⟨b,o,e1,e2,e3⟩:=d i x f;exact⟨b,o,e1,⟨e2,World.block_lt_of_cell? _ _ e3.1⟩,e3⟩
def QG:CT Fst:=λP w f x=>f 0=some (J x.cls)/\f 1=some (qZ x.name)/\f 2=some (J x.ez)/\f 3=some (J x.temps)/\∃v,f 4=some v/\Cm P w v x.code
abbrev MF:=IsRow QG 5 64
theorem Ly:Good QG 5 where
 move h hl hk hf:=by
  obtain⟨d,b,e,f,v,j,i⟩:=h;exact⟨hf 0 (by omega) _ d,hf 1 (by omega) _ b,hf 2 (by omega) _ e,hf 3 (by omega) _ f,v,hf 4 (by omega) _ j,i.keep BR hk hl⟩
 there h k hk:=by
  obtain⟨d,b,e,f,v,g,⟨a,c,rfl,-⟩⟩:=h
  match k,hk with
  | 0,_=>exact⟨_,d,rfl⟩
  | 1,_=>exact⟨_,b,rfl⟩
  | 2,_=>exact⟨_,e,rfl⟩
  | 3,_=>exact⟨_,f,rfl⟩
  | 4,_=>exact⟨_,g,rfl⟩
 pos:=by omega
theorem xqP:(Tryz.prog.info? 187).map (λi=>(i.zero,i.size,i.bytes))=some (some (.agg #[J 0,qZ ⟨#[]⟩,J 0,J 0,qN]),5,64):=by kernel_rfl
def LM (X:QW)(t:List QT)(c:Nat)(k:Nat):List Fst:=if (Hw X (c:Int) (k:Int) (Ed X t (c:Int) (k:Int))).2=true then [(Hw X (c:Int) (k:Int) (Ed X t (c:Int) (k:Int))).1] else []
def GG (X:QW)(t:List QT)(c n:Nat):List Fst:=(List.range n).flatMap (LM X t c)
def Mr (X:QW)(c:Nat):Nat:=match X.cz[c]? with
 | some x=>x.mz.length
 | none=>0
def ES (X:QW)(t:List QT)(n:Nat):List Fst:=(List.range n).flatMap λc=>GG X t c (Mr X c)
section
variable {X:QW} {t:List QT}
theorem xg3 (c n:Nat):GG X t c (n+1)=GG X t c n++LM X t c n:=by
 unfold GG;rw[List.range_succ,List.flatMap_append];simp
theorem xkg (n:Nat):ES X t (n+1)=ES X t n++GG X t n (Mr X n):=by
 unfold ES;rw[List.range_succ,List.flatMap_append];simp
theorem xpT (c k:Nat):(LM X t c k).length<=1:=by unfold LM;split<;>simp
theorem xiQ (c:Nat):∀n,(GG X t c n).length<=n
 | 0=>by simp[GG]
 | n+1=>by rw[xg3,List.length_append];have:=xiQ c n;have:=xpT (X:=X) (t:=t) c n;omega
theorem xiM (h:∀c,Mr X c<=8):∀n,(ES X t n).length<=n*8
 | 0=>by simp[ES]
 | n+1=>by rw[xkg,List.length_append];have:=xiM h n;have:=xiQ (X:=X) (t:=t) n (Mr X n);have:=h n;omega
theorem xpA {c k:Nat}{f:Fst}(h:Hw X (c:Int) (k:Int) (Ed X t (c:Int) (k:Int))=(f,true)):LM X t c k=[f]:=by unfold LM;rw[h];rfl
theorem xrl {c k:Nat}{f:Fst}(h:Hw X (c:Int) (k:Int) (Ed X t (c:Int) (k:Int))=(f,false)):LM X t c k=[]:=by unfold LM;rw[h];rfl
end
theorem xkH {X:QW}(h:BM X=0)(c:Nat):Mr X c<=8:=by
 unfold Mr
 cases b:X.cz[c]? with
 | none=>simp
 | some x=>
  simp only;obtain⟨-,-,d,-⟩:=Gx h;have a:=d c x (Bz b) b;unfold Dm at a;split at a
  ·cases a
  split at a
  ·cases a
  omega
theorem xjU {X:QW}(h:BM X=0):X.cz.length<=12:=by
 unfold BM at h;split at h
 ·cases h
 omega
structure FaL (Z:qW)(B:Nat)(fs:List Fst)(cs:List Value)(v:Value)(wr:qW):Prop where
 bel:Below B Z wr
 sz:B<=wr.heap.size
 own:ownsAt wr B 187 5 v fs.length cs
 row:Cells QG 5 (λb=>B<=b/\v.ownBlock≠some b) wr cs fs
theorem xhI {P Q:Nat->Prop}{wr w':qW}{cs:List Value}{fs:List Fst}(h:Cells QG 5 P wr cs fs)(e:∀b,P b->b<wr.heap.size->w'.heap[b]?=wr.heap[b]?)(d:∀b,P b->b<wr.heap.size->Q b):Cells QG 5 Q w' cs fs:=
 ⟨h.1,λi x g=>by
  obtain⟨a0,a1,a2,a3,v,a4,f⟩:=h.2 i x g;exact⟨a0,a1,a2,a3,v,a4,(xj9 f).keep BR (Keeps.of_block λb a c=>e b a.1 c) λb a=>d b a.1 a.2⟩⟩
section
variable {Z:World} {B:Nat} {fs:List Fst} {cs:List Value} {v:Value} {wr w':World}
theorem xrr (w:qW)(o:Obj):FaL (w.alloc o) (w.heap.size+1) [] [] (qN) (w.alloc o):=⟨Br _ _,by simp,⟨rfl,Or.inl ⟨rfl,rfl⟩⟩,Cells.nil⟩
theorem FaL.later (h:FaL Z B fs cs v wr)(a:qY wr w'):FaL Z B fs cs v w':=
 ⟨h.bel.trans ⟨a.os,a.tape,a.output,a.size,λb c=>a.block b (by have:=h.sz;omega)⟩,BX h.sz a.size,h.own.keep λg d=>a.block g (h.own.lt g d).2,h.row.later Ly a⟩
theorem FaL.add (h:FaL Z B fs cs v wr){f:Fst}{kv v':Value}{L:Nat}{P:Nat->Prop}(a:Cm P wr kv f.code)(j:∀b,P b->L<=b)(l:B<=L)(hv:∀g,v.ownBlock=some g->g<L)(r1:ownsAt w' B 187 5 v' (fs.length+1) (cs++[J f.cls,qZ f.name,J f.ez,J f.temps,kv]))(r2:v'.ownBlock=v.ownBlock\/∃g,v'.ownBlock=some g/\wr.heap.size<=g)(r3:Below B wr w')(r4:∀b,b<wr.heap.size->some b≠v.ownBlock->w'.heap[b]?=wr.heap[b]?):FaL Z B (fs++[f]) (cs++[J f.cls,qZ f.name,J f.ez,J f.temps,kv]) v' w':=by
 have d:∀b,b<wr.heap.size->v.ownBlock≠some b->v'.ownBlock≠some b:=λb c k=>by
  rcases r2 with r2 | ⟨g',e,i⟩
  ·rw[r2];exact k
  rw[e];intro e';cases e';exact absurd c (by omega)
 refine⟨h.bel.trans r3,BX h.sz r3.size,by simpa using r1,?_⟩;refine (xhI h.row (λb c i=>r4 b i λe=>c.2 e.symm) λb c i=>⟨c.1,d b i c.2⟩).append Ly (Cells.one Ly rfl ?_);refine⟨rfl,rfl,rfl,rfl,kv,rfl,(xj9 a).keep BR (Keeps.of_block λb c i=>r4 b i λe=>by have:=hv b e.symm;have:=j b c.1;omega) λb c=>⟨by have:=j b c.1;omega,d b c.2 λe=>by have:=hv b e;have:=j b c.1;omega⟩⟩
theorem FaL.fasts (h:FaL Z B fs cs v wr)(d:fs.length<=1000):MF (λb=>B<=b) wr v fs:=
 xj6 Ly h.own (xhI h.row (λ_ _ _=>rfl) λb c _=>c.1) rfl (λb a _=>a) (by omega)
theorem FaL.form (h:FaL Z B fs cs v wr):∃a cap,v=qS a fs.length cap/\fs.length<=cap/\cap<=9223372036854775807:=by
 obtain⟨a,cap,e,b,c⟩:=h.own.form;unfold maxLen at c;exact⟨a,cap,e,b,by omega⟩
end
section
variable {σ:Type}
def EK (f:Fr):Option QI:=if f.pc<0 then none else f.code[f.pc.toNat]?
theorem xfM {f:Fr}{x:QI}(h:EK f=some x):0<=f.pc/\f.pc.toNat<f.code.length/\f.code[f.pc.toNat]?=some x:=by
 unfold EK at h;split at h
 ·cases h
 exact⟨by omega,Bz h,h⟩
theorem MS {ent:CC σ}{E:Env σ}{d:Nat}{m:Mc σ}{f:Fr}(h:EK f=none):∀g,CX ent E d g m f=(m,BC,9)
 | 0=>rfl
 | g+1=>by
  have h':(if f.pc<0 then none else f.code[f.pc.toNat]?)=none:=h;rw[CX,h']
theorem NQ {ent:CC σ}{E:Env σ}{d:Nat}{m:Mc σ}{f:Fr}{x:QI}(h:EK f=some x)(a:x.op=17)(g:Nat):CX ent E d (g+1) m f=(m,f.top,0):=by
 have h':(if f.pc<0 then none else f.code[f.pc.toNat]?)=some x:=h;rw[CX,h'];simp[a]
theorem Nb {ent:CC σ}{E:Env σ}{d:Nat}{m:Mc σ}{f:Fr}{x:QI}(h:EK f=some x)(a:x.op≠17)(g:Nat):CX ent E d (g+1) m f=if (BD ent E d m { f with pc:=f.pc+1 } f.pc x).2.2≠0 then ((BD ent E d m { f with pc:=f.pc+1 } f.pc x).1,BC,(BD ent E d m { f with pc:=f.pc+1 } f.pc x).2.2) else CX ent E d g (BD ent E d m { f with pc:=f.pc+1 } f.pc x).1 (BD ent E d m { f with pc:=f.pc+1 } f.pc x).2.1:=by
 have h':(if f.pc<0 then none else f.code[f.pc.toNat]?)=some x:=h;rw[CX,h'];simp only[if_neg a]
theorem Qf {m:Mc σ}{f:Fr}{x:QI}(h:EK f=some x):1<=Cz m f:=by
 obtain⟨a,b,-⟩:=xfM h;unfold Cz;omega
theorem xqz {m:Mc σ}{f:Fr}(h:Cz m f=0):EK f=none:=by
 cases e:EK f with
 | none=>rfl
 | some x=>have:=Qf (m:=m) e;omega
theorem xnE {ent:CC σ}(c:Gn ent)(E:Env σ)(d:Nat):∀(n:Nat) (m:Mc σ) (f:Fr),0<=m.tz->Cz m f<=n->∀g,Cz m f<=g->CX ent E d g m f=CX ent E d n m f
 | 0,m,f,h0,hn,g,hg=>by
  have h:=xqz (show Cz m f=0 by omega);rw[MS h,MS h]
 | n+1,m,f,h0,hn,g,hg=>by
  cases a:EK f with
  | none=>rw[MS a,MS a]
  | some x=>
   have i:=Qf (m:=m) a;obtain⟨g',rfl⟩:∃g',g=g'+1:=⟨g-1,by omega⟩
   by_cases h17:x.op=17
   ·rw[NQ a h17,NQ a h17]
   obtain⟨p0,p1,-⟩:=xfM a;rw[Nb a h17,Nb a h17];have e:=xej c E d m { f with pc:=f.pc+1 } f.pc x;have b:=xi1 c (E:=E) (d:=d) h0 p0 p1 (x:=x);generalize BD ent E d m { f with pc:=f.pc+1 } f.pc x=r at e b ⊢;by_cases he:r.2.2≠0
   ·rw[if_pos he,if_pos he]
   rw[if_neg he,if_neg he];have:=b (by omega);exact xnE c E d n r.1 r.2.1 (by omega) (by omega) g' (by omega)
def Dp (ent:CC σ)(E:Env σ)(d:Nat)(m:Mc σ)(f:Fr):Mc σ × QV × Int:=CX ent E d (Cz m f) m f
theorem xly {ent:CC σ}(b:Gn ent)(E:Env σ)(d:Nat){m:Mc σ}{f:Fr}(a:0<=m.tz){g:Nat}(c:Cz m f<=g):CX ent E d g m f=Dp ent E d m f:=xnE b E d _ m f a (Bq _) g c
theorem xkG {ent:CC σ}{E:Env σ}{d:Nat}{m:Mc σ}{f:Fr}{x:QI}(h:EK f=some x)(a:x.op=17):Dp ent E d m f=(m,f.top,0):=by
 have c:=Qf (m:=m) h;unfold Dp;obtain⟨g,b⟩:∃g,Cz m f=g+1:=⟨Cz m f-1,by omega⟩
 rw[b];exact NQ h a g
theorem MM {ent:CC σ}{E:Env σ}{d:Nat}{m:Mc σ}{f:Fr}{x:QI}(h:EK f=some x)(a:x.op≠17)(c:(BD ent E d m { f with pc:=f.pc+1 } f.pc x).2.2≠0):Dp ent E d m f=((BD ent E d m { f with pc:=f.pc+1 } f.pc x).1,BC,(BD ent E d m { f with pc:=f.pc+1 } f.pc x).2.2):=by
 have e:=Qf (m:=m) h;unfold Dp;obtain⟨g,b⟩:∃g,Cz m f=g+1:=⟨Cz m f-1,by omega⟩
 rw[b,Nb h a,if_pos c]
theorem Lx {ent:CC σ}(b:Gn ent){E:Env σ}{d:Nat}{m:Mc σ}{f:Fr}(e:0<=m.tz){x:QI}(h:EK f=some x)(a:x.op≠17)(i:(BD ent E d m { f with pc:=f.pc+1 } f.pc x).2.2=0):Dp ent E d m f=Dp ent E d (BD ent E d m { f with pc:=f.pc+1 } f.pc x).1 (BD ent E d m { f with pc:=f.pc+1 } f.pc x).2.1/\Cz (BD ent E d m { f with pc:=f.pc+1 } f.pc x).1 (BD ent E d m { f with pc:=f.pc+1 } f.pc x).2.1<Cz m f/\0<=(BD ent E d m { f with pc:=f.pc+1 } f.pc x).1.tz:=by
 have l:=Qf (m:=m) h;obtain⟨p0,p1,-⟩:=xfM h;have c:=xi1 b (E:=E) (d:=d) e p0 p1 (x:=x) i;have k:=xej b E d m { f with pc:=f.pc+1 } f.pc x;refine⟨?_,c,by omega⟩;show CX ent E d (Cz m f) m f=_;obtain⟨g,j⟩:∃g,Cz m f=g+1:=⟨Cz m f-1,by omega⟩
 rw[j,Nb h a,if_neg (by omega)];exact xly b E d (by omega) (by omega)
end
section
variable {σ:Type} {ent:CC σ} {E:Env σ} {d:Nat} {m:Mc σ} {f:Fr} {at':Int} {x:QI}
theorem LN {v:QV}(e:Cl m.heap f x=some v):BD ent E d m f at' x=(m,f.push v,0):=by
 unfold BD;rw[e]
theorem LB (h:x.op<1\/8<x.op):Cl m.heap f x=none:=by
 unfold Cl;simp[show ¬ x.op=1 by omega,show ¬ x.op=2 by omega,show ¬ x.op=3 by omega,show ¬ x.op=4 by omega,show ¬ x.op=5 by omega,show ¬ x.op=6 by omega,show ¬ x.op=7 by omega,show ¬ x.op=8 by omega]
theorem Np (h:x.op=9):BD ent E d m f at' x=(m,f.pop,0):=by
 unfold BD;rw[LB (by omega)];simp[h]
theorem Nr (h:x.op=10):BD ent E d m f at' x=(m,f.push f.top,0):=by
 unfold BD;rw[LB (by omega)];simp[h]
theorem MN (h:x.op=11):BD ent E d m f at' x=(m,{ f.pop with temps:=EQ f.temps x.a f.top },0):=by
 unfold BD;rw[LB (by omega)];simp[h]
theorem Pk (h:x.op=12):BD ent E d m f at' x=({ m with heap:=FF m.heap f.self x.a f.top },f.pop,0):=by
 unfold BD;rw[LB (by omega)];simp[h]
theorem xoW (h:x.op=13):BD ent E d m f at' x=DT E m f x.a:=by
 unfold BD;rw[LB (by omega)];simp[h]
theorem xiF (h:x.op=14):BD ent E d m f at' x=Dv ent E m f at' x:=by
 unfold BD;rw[LB (by omega)];simp[h]
theorem MW (h:x.op=15):BD ent E d m f at' x=Cr m f at' x.a:=by
 unfold BD;rw[LB (by omega)];simp[h]
theorem NT (h:x.op=16):BD ent E d m f at' x=Dt m f at' x.a:=by
 unfold BD;rw[LB (by omega)];simp[h]
theorem PF (h:18<=x.op):BD ent E d m f at' x=DB E d m f x:=by
 unfold BD;rw[LB (by omega)];simp[show ¬ x.op=9 by omega,show ¬ x.op=10 by omega,show ¬ x.op=11 by omega,show ¬ x.op=12 by omega,show ¬ x.op=13 by omega,show ¬ x.op=14 by omega,show ¬ x.op=15 by omega,show ¬ x.op=16 by omega]
def DV (m:Mc σ):Prop:=0<=m.tz/\m.tz<=300
def LS (ent:CC σ):Prop:=∀m c n s a,DV m->(ent m c n s a).2.2=0->DV (ent m c n s a).1
theorem Lv (m:Mc σ)(f:Fr)(a b:Int)(h:DV m):(b<=a/\m.tz=300/\Cr m f a b=({ m with tz:=m.tz+1 },f,16))\/(b<=a/\m.tz<300/\Cr m f a b=({ m with tz:=m.tz+1 },{ f with pc:=b },0))\/(a<b/\Cr m f a b=(m,{ f with pc:=b },0)):=by
 obtain⟨c,d⟩:=h;unfold Cr;by_cases hb:b<=a
 ·simp only[hb,if_true];by_cases h3:m.tz=300
  ·left;refine⟨trivial,h3,?_⟩;rw[if_pos (by omega)]
  right;left;refine⟨trivial,by omega,?_⟩;rw[if_neg (by omega)]
 right;right;simp only[hb,if_false];exact⟨by omega,by rw[if_neg (by omega)]⟩
theorem xlr {a b:Int}(h:DV m)(c:(Cr m f a b).2.2=0):DV (Cr m f a b).1:=by
 have h':=h;obtain⟨t0,t1⟩:=h;rcases Lv m f a b h' with ⟨-,-,e⟩ | ⟨-,d,e⟩ | ⟨-,e⟩
 ·rw[e] at c;simp at c
 ·rw[e];exact⟨by simp;omega,by simp;omega⟩
 rw[e];exact h'
theorem Nk (h:DV m):DV (BY E d m).1:=by
 have:=xeH E d m;unfold DV at h ⊢;omega
theorem xgo (q:LS ent)(h:DV m)(n:(BD ent E d m f at' x).2.2=0):DV (BD ent E d m f at' x).1:=by
 unfold BD at n ⊢;split
 ·exact h
 rename_i p;rw[p] at n;simp only at n;split
 ·exact h
 split
 ·exact h
 split
 ·exact h
 split
 ·exact h
 rename_i n9 i g k;rw[if_neg n9,if_neg i,if_neg g,if_neg k] at n;split
 ·unfold DT;split<;>exact h
 ·rename_i e;rw[if_neg e] at n;split
  ·rename_i c;rw[if_pos c] at n;unfold Dv at n ⊢;simp only at n ⊢;generalize s:E.look m.st (f.site at' x) (Ch m.heap (CL (f.stack.take (Dq f.stack x.a)) 0)) x.name=l at n ⊢;have o:=q { m with st:=l.1 } l.2.1 l.2.2 (CL (f.stack.take (Dq f.stack x.a)) 0) (f.stack.drop (Dq f.stack x.a)) h;generalize ent { m with st:=l.1 } l.2.1 l.2.2 (CL (f.stack.take (Dq f.stack x.a)) 0) (f.stack.drop (Dq f.stack x.a))=r at o n ⊢;by_cases hz:r.2.2≠0
   ·rw[if_pos hz] at n;exact absurd n hz
   rw[if_neg hz];exact o (by omega)
  rename_i c;rw[if_neg c] at n;split
  ·rename_i b;rw[if_pos b] at n;exact xlr h n
  rename_i b;rw[if_neg b] at n;split
  ·rename_i j;rw[if_pos j] at n;unfold Dt at n ⊢;split
   ·exact h
   rename_i k2;rw[if_neg k2] at n;split
   ·rename_i k1;rw[if_pos k1] at n;exact xlr h n
   exact h
  unfold DB;split
  ·exact h
  split
  ·exact h
  split
  ·exact h
  split
  ·exact h
  split
  ·exact Nk h
  exact h
theorem xoy (c:LS ent)(E:Env σ)(d:Nat):∀(g:Nat) (m:Mc σ) (f:Fr),DV m->(CX ent E d g m f).2.2=0->DV (CX ent E d g m f).1
 | 0,m,f,h,h0=>h
 | g+1,m,f,h,h0=>by
  cases a:EK f with
  | none=>rw[MS a];exact h
  | some x=>
   by_cases h17:x.op=17
   ·rw[NQ a h17];exact h
   rw[Nb a h17] at h0 ⊢;have b:=xgo (E:=E) (d:=d) (f:={ f with pc:=f.pc+1 }) (at':=f.pc) (x:=x) c h;generalize BD ent E d m { f with pc:=f.pc+1 } f.pc x=r at b h0 ⊢;by_cases hz:r.2.2≠0
   ·rw[if_pos hz] at h0;exact absurd h0 hz
   rw[if_neg hz] at h0 ⊢;exact xoy c E d g r.1 r.2.1 (b (by omega)) h0
theorem xjT (E:Env σ)(d:Nat){b:Mc σ->Fr->Mc σ × QV × Int}(i:∀m f,DV m->(b m f).2.2=0->DV (b m f).1):LS (El E d b):=by
 intro m c n s a h e;unfold El at e ⊢;split
 ·exact h
 rename_i mt g;rw[g] at e;simp only at e;split
 ·exact h
 rename_i k1;rw[if_neg k1] at e;split
 ·split<;>exact h
 ·rename_i k2;rw[if_neg k2] at e;split
  ·exact h
  rename_i k3;rw[if_neg k3] at e;exact i _ _ (Nk h) e
theorem Qv (E:Env σ):∀d:Nat,LS (BL E d)
 | 0=>xjT E 0 λm f h a=>h
 | d+1=>xjT E (d+1) λm f h a=>xoy (Qv E d) E d _ m f h a
end
theorem LP (l:List QV)(n:Nat):CR l (n:Int)=l[n]?.getD BC:=by unfold CR;rw[if_neg (by omega)];simp
theorem xgw {l:List QV}{n:Int}{k:Nat}{v:QV}(a:n=(k:Int))(h:l[k]?=some v):CR l n=v:=by subst a;rw[LP,h];rfl
theorem Qp (base s:List QV)(a:s≠[]):CL (base++s) 0=CL s 0:=by
 have b:0<s.length:=List.length_pos_iff.2 a;unfold CL;rw[show (((base++s).length:Int)-1-0)=((base.length+(s.length-1):Nat):Int) by rw[List.length_append];omega,show ((s.length:Int)-1-0)=((s.length-1:Nat):Int) by omega,LP,LP,List.getElem?_append_right (by omega)]
 congr 2;omega
theorem QH (base s:List QV)(a:s≠[]):(base++s).dropLast=base++s.dropLast:=List.dropLast_append_of_ne_nil a
theorem Mz (l:List QV)(n:Nat)(v:QV):EQ l (n:Int) v=l.set n v:=by unfold EQ;rw[if_neg (by omega)];simp
theorem xp1 {l:List QV}{n t:Nat}(h:t<=n)(v:QV):(l.set n v).take t=l.take t:=by
 apply List.ext_getElem?
 intro i;rw[List.getElem?_take,List.getElem?_take];split
 ·rw[List.getElem?_set_ne (by omega)]
 rfl
structure LfP (LC FC:List QI)(T0 A first:Nat)(base:List QV)(f0 ff lf:Fr):Prop where
 fast:ff.fast=true
 code:ff.code=FC
 cls:ff.cls=f0.cls
 meth:ff.meth=f0.meth
 self:ff.self=f0.self
 args:ff.args=f0.args
 len:ff.temps.length=f0.temps.length
 take:ff.temps.take T0=f0.temps.take T0
 pl:PlOk lf
 lcode:lf.code=LC
 alen:lf.args.length=A
 pc:ff.pc=(first:Int)+lf.pc
 stack:ff.stack=base++lf.stack
 tself:ff.temps[T0]?=some lf.self
 targs:∀(i:Nat) v,lf.args[i]?=some v->ff.temps[T0+1+i]?=some v
 ttemps:∀(i:Nat) v,lf.temps[i]?=some v->ff.temps[T0+1+A+i]?=some v
section
variable {LC FC:List QI} {T0 A first:Nat} {base:List QV} {f0 ff lf:Fr}
theorem LfP.to (h:LfP LC FC T0 A first base f0 ff lf){a lf':Fr}(pl:PlOk lf')(e0:lf'.code=lf.code)(e1:lf'.self=lf.self)(e2:lf'.args=lf.args)(e3:lf'.temps=lf.temps)(d1:a.fast=ff.fast)(d2:a.code=ff.code)(d3:a.cls=ff.cls)(d4:a.meth=ff.meth)(d5:a.self=ff.self)(d6:a.args=ff.args)(d7:a.temps=ff.temps)(c:a.pc=(first:Int)+lf'.pc)(b:a.stack=base++lf'.stack):LfP LC FC T0 A first base f0 a lf':=
 ⟨d1.trans h.fast,d2.trans h.code,d3.trans h.cls,d4.trans h.meth,d5.trans h.self,d6.trans h.args,by rw[d7];exact h.len,by rw[d7];exact h.take,pl,e0.trans h.lcode,by rw[e2];exact h.alen,c,b,by rw[d7,e1];exact h.tself,by rw[d7,e2];exact h.targs,by rw[d7,e3];exact h.ttemps⟩
variable {σ:Type} {ent ent':CC σ} {E E':Env σ} {d d':Nat} {m:Mc σ}
def xsp (LC FC:List QI)(T0 A first:Nat)(base:List QV)(f0:Fr)(r2 r:Mc σ × Fr × Int):Prop:=r2.1=r.1/\r2.2.2=r.2.2/\(r.2.2=0->LfP LC FC T0 A first base f0 r2.2.1 r.2.1)
theorem xjG (h:LfP LC FC T0 A first base f0 ff lf)(d:DV m){b c:Fr}{a:Int}(e0:c.code=lf.code)(e1:c.self=lf.self)(e2:c.args=lf.args)(e3:c.temps=lf.temps)(d1:b.fast=ff.fast)(d2:b.code=ff.code)(d3:b.cls=ff.cls)(d4:b.meth=ff.meth)(d5:b.self=ff.self)(d6:b.args=ff.args)(d7:b.temps=ff.temps)(e:b.stack=base++c.stack)(PL:(Cr m c lf.pc a).2.2=0->PlOk (Cr m c lf.pc a).2.1) :
  xsp LC FC T0 A first base f0 (Cr m b ff.pc ((first:Int)+a)) (Cr m c lf.pc a):=by
 have f:=h.pc;rcases Lv m c lf.pc a d with ⟨k1,k2,k3⟩ | ⟨k1,k2,k3⟩ | ⟨k1,k3⟩
 ·rcases Lv m b ff.pc ((first:Int)+a) d with ⟨j1,j2,j3⟩ | ⟨j1,j2,j3⟩ | ⟨j1,j3⟩
  ·rw[k3,j3];exact⟨rfl,rfl,λh=>by simp at h⟩
  ·omega
  omega
 ·rcases Lv m b ff.pc ((first:Int)+a) d with ⟨j1,j2,j3⟩ | ⟨j1,j2,j3⟩ | ⟨j1,j3⟩
  ·omega
  ·rw[k3] at PL;rw[k3,j3];exact⟨rfl,rfl,λ_=>h.to (PL rfl) e0 e1 e2 e3 d1 d2 d3 d4 d5 d6 d7 rfl e⟩
  omega
 rcases Lv m b ff.pc ((first:Int)+a) d with ⟨j1,j2,j3⟩ | ⟨j1,j2,j3⟩ | ⟨j1,j3⟩
 ·omega
 ·omega
 rw[k3] at PL;rw[k3,j3];exact⟨rfl,rfl,λ_=>h.to (PL rfl) e0 e1 e2 e3 d1 d2 d3 d4 d5 d6 d7 rfl e⟩
theorem xnZ (h:LfP LC FC T0 A first base f0 ff lf)(z:DV m){j:Nat}{x:QI}(u:NxOk lf j x)(c:x.op≠17)(f:x.op≠13)(g:x.op≠14)(b:Int) :
  xsp LC FC T0 A first base f0 (BD ent E d m { ff with pc:=ff.pc+1 } ff.pc (Cc T0 (T0+1) (T0+1+A) first b x)) (BD ent' E' d' m { lf with pc:=lf.pc+1 } lf.pc x):=by
 have B:=h.alen;have PL:=xk6 (ent:=ent') (E:=E') (d:=d') (m:=m) h.pl u c;have t:=u.kind;have l:=u.need;have q:ff.pc+1=(first:Int)+(lf.pc+1):=by have:=h.pc;omega
 have push:∀(v:QV),Cl m.heap { lf with pc:=lf.pc+1 } x=some v->Cl m.heap { ff with pc:=ff.pc+1 } (Cc T0 (T0+1) (T0+1+A) first b x)=some v->xsp LC FC T0 A first base f0 (BD ent E d m { ff with pc:=ff.pc+1 } ff.pc (Cc T0 (T0+1) (T0+1+A) first b x)) (BD ent' E' d' m { lf with pc:=lf.pc+1 } lf.pc x):=λv e1 e2=>by
  rw[LN e1] at PL;rw[LN e1,LN e2];exact⟨rfl,rfl,λ_=>h.to (PL rfl) rfl rfl rfl rfl rfl rfl rfl rfl rfl rfl rfl q (by simp[Fr.push,h.stack])⟩
 have r:CR ff.temps (T0:Int)=lf.self:=xgw rfl h.tself;rcases (by omega:x.op=1\/x.op=2\/x.op=3\/x.op=4\/x.op=5\/x.op=6\/x.op=7\/x.op=8\/x.op=9\/x.op=10\/x.op=11\/x.op=12\/x.op=15\/x.op=16) with o | o | o | o | o | o | o | o | o | o | o | o | o | o
 ·refine push lf.self (by simp[Cl,o]) ?_;simp[Cc,o,Cl,r]
 ·obtain⟨a0,a1⟩:=u.arg o;obtain⟨k,t⟩:∃k:Nat,x.a=(k:Int):=⟨x.a.toNat,by omega⟩
  have hv:lf.args[k]?=some lf.args[k]:=List.getElem?_eq_getElem (by omega);refine push (lf.args[k]) ?_ ?_
  ·simp only[Cl,o,t];simp[LP,hv]
  have:=xgw (n:=(T0:Int)+1+x.a) (k:=T0+1+k) (by omega) (h.targs k _ hv);simp[Cc,o,Cl,this]
 ·obtain⟨a0,a1⟩:=u.temp (Or.inl o);obtain⟨k,t⟩:∃k:Nat,x.a=(k:Int):=⟨x.a.toNat,by omega⟩
  have hv:lf.temps[k]?=some lf.temps[k]:=List.getElem?_eq_getElem (by omega);refine push (lf.temps[k]) ?_ ?_
  ·simp only[Cl,o,t];simp[LP,hv]
  have:=xgw (n:=(T0:Int)+1+A+x.a) (k:=T0+1+A+k) (by omega) (h.ttemps k _ hv);simp[Cc,o,Cl,this]
 ·have e1:Cl m.heap { lf with pc:=lf.pc+1 } x=some (Gt m.heap lf.self x.a):=by simp[Cl,o]
  rw[LN e1] at PL;rw[LN e1];have e2:Cc T0 (T0+1) (T0+1+A) first b x=BQ 19 T0 x.a 0:=by simp[Cc,o]
  rw[e2,PF (by simp)];refine⟨?_,?_,λ_=>?_⟩
  ·simp[DB,h.fast]
  ·simp[DB,h.fast]
  have e3:(DB E d m { ff with pc:=ff.pc+1 } (BQ 19 (T0:Int) x.a 0)).2.1=Fr.push { ff with pc:=ff.pc+1 } (Gt m.heap lf.self x.a):=by simp[DB,h.fast,r]
  rw[e3];exact h.to (PL rfl) rfl rfl rfl rfl rfl rfl rfl rfl rfl rfl rfl q (by simp[Fr.push,h.stack])
 ·exact push ⟨3,x.a⟩ (by simp[Cl,o]) (by simp[Cc,o,Cl])
 ·exact push BC (by simp[Cl,o]) (by simp[Cc,o,Cl])
 ·exact push ⟨1,0⟩ (by simp[Cl,o]) (by simp[Cc,o,Cl])
 ·exact push ⟨2,0⟩ (by simp[Cl,o]) (by simp[Cc,o,Cl])
 ·have p:lf.stack≠[]:=by intro e;rw[e] at l;simp[Cb,o] at l
  have e2:Cc T0 (T0+1) (T0+1+A) first b x=x:=by simp[Cc,o]
  rw[Np o] at PL;rw[e2,Np o,Np o];exact⟨rfl,rfl,λ_=>h.to (PL rfl) rfl rfl rfl rfl rfl rfl rfl rfl rfl rfl rfl q (by simp only[Fr.pop,h.stack];exact QH _ _ p)⟩
 ·have p:lf.stack≠[]:=by intro e;rw[e] at l;simp[Cb,o] at l
  have e2:Cc T0 (T0+1) (T0+1+A) first b x=x:=by simp[Cc,o]
  rw[Nr o] at PL;rw[e2,Nr o,Nr o];exact⟨rfl,rfl,λ_=>h.to (PL rfl) rfl rfl rfl rfl rfl rfl rfl rfl rfl rfl rfl q (by simp only[Fr.push,Fr.top,h.stack,Qp _ _ p,List.append_assoc])⟩
 ·have p:lf.stack≠[]:=by intro e;rw[e] at l;simp[Cb,o] at l
  obtain⟨a0,a1⟩:=u.temp (Or.inr o);obtain⟨k,t⟩:∃k:Nat,x.a=(k:Int):=⟨x.a.toNat,by omega⟩
  have e2:Cc T0 (T0+1) (T0+1+A) first b x=BQ 11 ((T0:Int)+1+A+x.a) 0 0:=by simp[Cc,o]
  have e4:((T0:Int)+1+A+x.a)=((T0+1+A+k:Nat):Int):=by omega
  rw[MN o] at PL;rw[e2,MN o,MN (by rfl)];refine⟨rfl,rfl,λ_=>?_⟩;have s:Fr.top { ff with pc:=ff.pc+1 }=Fr.top { lf with pc:=lf.pc+1 }:=by simp only[Fr.top,h.stack,Qp _ _ p]
  have y:T0+1+A+k<ff.temps.length:=Bz (h.ttemps k _ (List.getElem?_eq_getElem (by omega)));refine⟨h.fast,h.code,h.cls,h.meth,h.self,h.args,?_,?_,PL rfl,h.lcode,h.alen,q,?_,?_,?_,?_⟩
  ·simp only[Mj];exact h.len
  ·simp only[BQ,e4,Mz,s];rw[xp1 (by omega)];exact h.take
  ·simp only[Fr.pop,h.stack];exact QH _ _ p
  ·simp only[BQ,e4,Mz];rw[List.getElem?_set_ne (by omega)];exact h.tself
  ·intro i v hv;have:=Bz hv;simp only[BQ,e4,Mz];rw[List.getElem?_set_ne (by have:i<lf.args.length:=this;omega)];exact h.targs i v hv
  intro i v hv;simp only[t,Mz] at hv;simp only[BQ,e4,Mz,s];by_cases hi:i=k
  ·subst hi;rw[List.getElem?_set_self (by omega)] at hv;rw[List.getElem?_set_self y];exact hv
  rw[List.getElem?_set_ne (by omega)] at hv;rw[List.getElem?_set_ne (by omega)];exact h.ttemps i v hv
 ·have p:lf.stack≠[]:=by intro e;rw[e] at l;simp[Cb,o] at l
  have e2:Cc T0 (T0+1) (T0+1+A) first b x=BQ 20 T0 x.a 0:=by simp[Cc,o]
  rw[Pk o] at PL;rw[e2,Pk o,PF (by simp)];have e3:DB E d m { ff with pc:=ff.pc+1 } (BQ 20 (T0:Int) x.a 0)=({ m with heap:=FF m.heap lf.self x.a (CL lf.stack 0) },Fr.pop { ff with pc:=ff.pc+1 },0):=by simp[DB,h.fast,r,Fr.top,h.stack,Qp _ _ p]
  rw[e3];exact⟨rfl,rfl,λ_=>h.to (PL rfl) rfl rfl rfl rfl rfl rfl rfl rfl rfl rfl rfl q (by simp only[Fr.pop,h.stack];exact QH _ _ p)⟩
 ·have e2:Cc T0 (T0+1) (T0+1+A) first b x=BQ 15 ((first:Int)+x.a) 0 0:=by simp[Cc,o]
  rw[MW o] at PL;rw[e2,MW o,MW (by rfl)];exact xjG h z (by rfl) (by rfl) (by rfl) (by rfl) (by rfl) (by rfl) (by rfl) (by rfl) (by rfl) (by rfl) (by rfl) (by simp[h.stack]) PL
 have p:lf.stack≠[]:=by intro e;rw[e] at l;simp[Cb,o] at l
 have e2:Cc T0 (T0+1) (T0+1+A) first b x=BQ 16 ((first:Int)+x.a) 0 0:=by simp[Cc,o]
 rw[NT o] at PL;rw[e2,NT o,NT (by rfl)];have s:Fr.top { ff with pc:=ff.pc+1 }=Fr.top { lf with pc:=lf.pc+1 }:=by simp only[Fr.top,h.stack,Qp _ _ p]
 unfold Dt at PL ⊢;rw[s];by_cases k2:(Fr.top { lf with pc:=lf.pc+1 }).k=2
 ·rw[if_pos k2] at PL;rw[if_pos k2,if_pos k2];exact⟨rfl,rfl,λ_=>h.to (PL rfl) rfl rfl rfl rfl rfl rfl rfl rfl rfl rfl rfl q (by simp only[Fr.pop,h.stack];exact QH _ _ p)⟩
 rw[if_neg k2] at PL;rw[if_neg k2,if_neg k2];by_cases k1:(Fr.top { lf with pc:=lf.pc+1 }).k=1
 ·rw[if_pos k1] at PL;rw[if_pos k1,if_pos k1];exact xjG h z (by rfl) (by rfl) (by rfl) (by rfl) (by rfl) (by rfl) (by rfl) (by rfl) (by rfl) (by rfl) (by rfl) (by simp only[Fr.pop,h.stack];exact QH _ _ p) PL
 rw[if_neg k1,if_neg k1];exact⟨rfl,rfl,λh=>by simp at h⟩
end
end Go.Proofs.YtbafokihegegiaaGreatDoor
