import Derived.Test.YtbafokihegegiaaGreatDoorU14
namespace Go.Proofs.YtbafokihegegiaaGreatDoor
open ChangeShapes WideShapes ChangeAt RowKit
set_option linter.unusedSimpArgs false
set_option linter.unusedVariables false
set_option maxHeartbeats 8000000
set_option maxRecDepth 8000
def Hw (X:QW)(c k:Int)(sites:List Int):Fst × Bool:=match Cp X.cz c k with
 | none=>(Kh,false)
 | some m=>En X c m sites
theorem xkz {P Q:Nat->Prop}(X:QW)(c k:Int)(j:Cp X.cz c k=none)(sites:List Int)(cv hv sv:Value)(w:qW)(h:BK P w cv X.cz)(i:BP P w hv X.heap)(m:LH Q w sv sites) :
  Calls Tryz.prog 114 #[WV cv hv X.ez,J c,J k,sv] w λe w'=>Qk w (Kh,false) e w':=by
 obtain⟨ac,cc,rfl,-,b,-,-⟩:=id h;obtain⟨ah,ch,rfl,-⟩:=id i;have f:=BG w (qA ac cc ah ch X) (qI);go_enter Tryz.func114,Tryz.ntmps114;go_wp2_with fail;refine (xls X c k _ _ _ (h.later Bw f) (i.later BB f)).mono ?_;rintro e w1 ⟨rfl,a⟩;rw[show KD X.cz c k=none from j];dsimp only;have g:=Bh f a;have zz:=xow w (qS ac X.cz.length cc) (qS ah X.heap.length ch) X.ez;replace zz:=zz.later a;obtain⟨k0,k1,k2,q0,q1,q2,q3,q4,qf,d⟩:=id zz;have l:=CH (xnS (U:=w1) g);go_wp2;refine Bt (v:=.tuple #[FW Kh (qN),.bool false]) ?_ rfl l.out;simp[results,Tryz.results114,go_sem,q0,q1,q2,q3,q4,Kh]
theorem xeB {P Q:Nat->Prop}(X:QW)(g:BM X=0)(c k:Int)(sites:List Int)(cv hv sv:Value)(w:qW)(d:BK P w cv X.cz)(f:BP P w hv X.heap)(a:LH Q w sv sites) :
  Calls Tryz.prog 114 #[WV cv hv X.ez,J c,J k,sv] w λe w'=>Qk w (Hw X c k sites) e w':=by
 unfold Hw
 cases b:Cp X.cz c k with
 | none=>exact xkz X c k b sites cv hv sv w d f a
 | some m=>exact xlc X g c k m b sites cv hv sv w d f a
def Mf (xs:List QC)(c k:Int):Option QM:=(Cy xs c).bind λx=>if 0<=k then x.mz[k.toNat]? else none
theorem xhR {xs:List QC}{c k:Int}{m:QM}(h:Mf xs c k=some m):∃(q t:Nat) (x:QC),c=(q:Int)/\k=(t:Int)/\xs[q]?=some x/\x.mz[t]?=some m:=by
 unfold Mf at h
 cases a:Cy xs c with
 | none=>rw[a] at h;cases h
 | some x=>
  rw[a] at h;obtain⟨q,rfl,b⟩:=Gl a;simp only[Option.bind_some] at h;split at h
  ·rename_i d;exact⟨q,k.toNat,x,rfl,by omega,b,h⟩
  cases h
theorem xpa {xs:List QC}{c k:Int}(h:Mf xs c k=none):c<0\/(xs.length:Int)<=c\/∃(q:Nat) (x:QC),c=(q:Int)/\xs[q]?=some x/\(k<0\/(x.mz.length:Int)<=k):=by
 unfold Mf at h
 cases a:Cy xs c with
 | none=>
  have:=PQ (xs:=xs) (c:=c);rw[a] at this;simp[Dg] at this;omega
 | some x=>
  rw[a] at h;obtain⟨q,rfl,b⟩:=Gl a;simp only[Option.bind_some] at h;right;right;refine⟨q,x,rfl,b,?_⟩;by_cases hk:0<=k
  ·rw[if_pos hk] at h;have:=List.getElem?_eq_none_iff.1 h;omega
  omega
def xqp (X:QW)(t:List QT)(c:Int)(m:QM)(j:Nat)(i:QI):Int:=if i.op == 14 then Ld X t ⟨c,m.name,j⟩ i.name i.a else -1
def Ed (X:QW)(t:List QT)(c k:Int):List Int:=match Mf X.cz c k with
 | some m=>m.code.mapIdx (xqp X t c m)
 | none=>[]
theorem xpc {P:Nat->Prop}(X:QW)(c k:Int)(cv hv:Value)(w:qW)(B:BK P w cv X.cz)(C:BP P w hv X.heap):Calls Tryz.prog 155 #[WV cv hv X.ez,J c,J k] w λe w'=>e=.returned (.bool (Mf X.cz c k).isSome)/\qY w w':=by
 obtain⟨ad,cap,rfl,D,g,-,a⟩:=B;obtain⟨ah,ch,rfl,-⟩:=C
 cases j:Mf X.cz c k with
 | none=>
  rcases xpa j with h | h | ⟨q,x,rfl,i,h⟩
  ·have p:decide (0<=c)=false:=by simpa using h
   clear a;go_enter Tryz.func155,Tryz.ntmps155;go_wp2;go_ret;exact⟨rfl,Bg _ _⟩
  ·have p:decide (c<(X.cz.length:Int))=false:=by simpa using h
   have r:decide (0<=c)=true:=by simp;omega
   clear a;go_enter Tryz.func155,Tryz.ntmps155;go_wp2;go_ret;exact⟨rfl,Bg _ _⟩
  have v:=Bz i;have n:(0:Int)<=(q:Int):=by omega
  have l:(q:Int)<(X.cz.length:Int):=by omega
  obtain⟨b,o,rfl,-,-,-,-,-,mv,f,d⟩:=a q x i;obtain⟨am,cm,rfl,-⟩:=d;have k3:=λy=>Bf (Bg w y) f;clear a i j;by_cases h0:k<0
  ·have p:decide (0<=k)=false:=by simpa using h0
   go_enter Tryz.func155,Tryz.ntmps155;go_wp2;go_ret;exact⟨rfl,Bg _ _⟩
  have r:decide (0<=k)=true:=by simp;omega
  have p:decide (k<(x.mz.length:Int))=false:=by simp;omega
  go_enter Tryz.func155,Tryz.ntmps155;go_wp2;go_ret;exact⟨rfl,Bg _ _⟩
 | some m=>
  obtain⟨q,t,x,rfl,rfl,i,s⟩:=xhR j;have v:=Bz i;have F:=Bz s;have n:(0:Int)<=(q:Int):=by omega
  have l:(q:Int)<(X.cz.length:Int):=by omega
  have u:(0:Int)<=(t:Int):=by omega
  have z:(t:Int)<(x.mz.length:Int):=by omega
  obtain⟨b,o,rfl,-,-,-,-,-,mv,f,d⟩:=a q x i;obtain⟨am,cm,rfl,-⟩:=d;have k3:=λy=>Bf (Bg w y) f;clear a i j s;go_enter Tryz.func155,Tryz.ntmps155;go_wp2;go_ret;exact⟨rfl,Bg _ _⟩
theorem xo8 {P:Nat->Prop}(p4 p5 p6 p9:Value)(f:Nat->QI->Int)(xs:List QI)(v:Value)(w:qW)(hh:Cm P w v xs)
  (hF:∀(j:Nat) (x:QI) (w':qW),qY w w'->Calls Tryz.prog 157 #[.int .i64 j,IV x,p4,p5,p6,p9] w' λe w''=>e=.returned (.int .i64 (f j x))/\qY w' w'') :
  Calls Tryz.prog 156 #[v,.func (.func 157) #[] #[p4,p5,p6,p9]] w λe w'=>e=.returned (qG w.heap.size xs.length xs.length)/\w'.heap[w.heap.size]?=some (xew (xs.mapIdx λj x=>if x.op == 14 then f j x else -1))/\qY w w':=by
 obtain⟨ad,cap,rfl,hl,z,C,m⟩:=hh;have a4:=xgW xs.length Zo;have R:=Bg w (xew (List.replicate xs.length 0));have Q:=BH w (xew (List.replicate xs.length 0));go_enter Tryz.func156,Tryz.ntmps156;go_wp2
 go_loopg [13] xs.length (λg c wr=>∃(j:Nat) (h:List Int),j+g=xs.length/\c=.int .i64 j/\h.length=xs.length/\(∀i y,i<j->xs[i]?=some y->h[i]?=some (if y.op == 14 then f i y else -1))/\wr.heap[w.heap.size]?=some (xew h)/\qY w wr)
 case atStart=>exact⟨0,List.replicate xs.length 0,by omega,rfl,by simp,λi y S=>by omega,Q,R⟩
 case round=>
  obtain⟨j,h,hj,rfl,l,s,N,d⟩:=hrel;have T:Hid (∀i y,i<j->xs[i]?=some y->h[i]?=some (if y.op == 14 then f i y else -1)):=s;clear s Q R;by_cases hlt:j<xs.length
  ·obtain⟨b,o,rfl,-,n,u,q,r,t,B⟩:=m j xs[j] (by simp[hlt]);have Z:Hid (xs[j]?=some xs[j]):=by show _=_;simp[hlt]
   generalize xs[j]=x at *;simp only[Nat.add_zero] at n;have u0:=Bf d n;have u1:=Bf d u;have u2:=Bf d q;have u3:=Bf d r;have u4:=Bf d t;clear n u q r t m;have a1:(j:Int)<(xs.length:Int):=by omega
   have a2:(0:Int)<=(j:Int):=by omega
   have L:=Bg wr (qE x);have F:(wr.alloc (qE x)).heap[w.heap.size]?=some (xew h):=by rw[L.block _ (By N)];exact N
   have a3:=By N;have gc:=xfj F (k:=j) Zo;have gf:=xe2 F j;have n0:(wr.alloc (qE x)).cell? ⟨wr.heap.size,0,none⟩=some (.int .i64 x.op):=by rw[Bp _ _ _ _ rfl];rfl
   have n1:(wr.alloc (qE x)).cell? ⟨wr.heap.size,1,none⟩=some (.int .i64 x.a):=by rw[Bp _ _ _ _ rfl];rfl
   have n2:(wr.alloc (qE x)).cell? ⟨wr.heap.size,2,none⟩=some (.int .i64 x.b):=by rw[Bp _ _ _ _ rfl];rfl
   have n3:(wr.alloc (qE x)).cell? ⟨wr.heap.size,3,none⟩=some (.int .i64 x.c):=by rw[Bp _ _ _ _ rfl];rfl
   have n4:(wr.alloc (qE x)).cell? ⟨wr.heap.size,4,none⟩=some (.string x.name):=by rw[Bp _ _ _ _ rfl];rfl
   have M:=Bh d L;go_upto_region 5 with (fail);generalize V:wr.heap.size=bi at *;generalize (wr.alloc (qE x))=W1 at *;have D:bi≠w.heap.size:=by omega
   clear L u0 u1 u2 u3 u4 N d V;have G:=Ql F j (-1);have m0:=(DX W1 ⟨w.heap.size,j,none⟩ ⟨bi,0,none⟩ (.int .i64 (-1)) (by simp[D])).trans n0;have m1:=(DX W1 ⟨w.heap.size,j,none⟩ ⟨bi,1,none⟩ (.int .i64 (-1)) (by simp[D])).trans n1;have m2:=(DX W1 ⟨w.heap.size,j,none⟩ ⟨bi,2,none⟩ (.int .i64 (-1)) (by simp[D])).trans n2;have m3:=(DX W1 ⟨w.heap.size,j,none⟩ ⟨bi,3,none⟩ (.int .i64 (-1)) (by simp[D])).trans n3;have m4:=(DX W1 ⟨w.heap.size,j,none⟩ ⟨bi,4,none⟩ (.int .i64 (-1)) (by simp[D])).trans n4;have K:qY w (W1.setCell ⟨w.heap.size,j,none⟩ (.int .i64 (-1))):=M.setCell (Bq _) _;go_upto_region 6 with (fail);generalize (W1.setCell { block:=w.heap.size,off:=j } (.int .i64 (-1)))=W2 at *;clear n0 n1 n2 n3 n4 F gc gf M
   have U:Hid (∀v:Int,v=(if x.op == 14 then f j x else -1)->∀i y,i<j+1->xs[i]?=some y->((h.set j (-1)).set j v)[i]?=some (if y.op == 14 then f i y else -1)):=λv hv i y S hy=>by
    by_cases hij:i=j
    ·subst hij;rw[Z.out] at hy;cases hy;rw[hv];simp[l,hlt]
    rw[List.getElem?_set_ne Zo,List.getElem?_set_ne Zo];exact T.out i y Zo hy
   by_cases h14:x.op=14
   ·have Y:(x.op == 14)=true:=by simpa using h14
    have X:Hid (∀i y,i<j+1->xs[i]?=some y->((h.set j (-1)).set j (f j x))[i]?=some (if y.op == 14 then f i y else -1)):=U.out _ (by rw[Y];simp);clear h14 U T;go_wp2_with fail;refine (hF j x _ K).mono ?_;rintro e w3 ⟨rfl,p⟩;have H:w3.heap[w.heap.size]?=some (xew (h.set j (-1))):=by rw[p.block _ (By G)];exact G
    have gc:=xfj H (k:=j) (by simp;omega);have gf:=xe2 H j;have W:=Ql H j (f j x);have a0:qY w (w3.setCell ⟨w.heap.size,j,none⟩ (.int .i64 (f j x))):=(Bh K p).setCell (Bq _) _;clear G m0 m1 m2 m3 m4 p;go_wp2;go_roundg (gk-1)
    case measure=>omega
    case rel=>exact⟨j+1,_,by omega,by go_num,by simp;exact l,X.out,W,a0⟩
   have Y:(x.op == 14)=false:=by simpa using h14
   have X:Hid (∀i y,i<j+1->xs[i]?=some y->(h.set j (-1))[i]?=some (if y.op == 14 then f i y else -1)):=by
    have:=U.out (-1) (by rw[Y];simp);rw[List.set_set] at this;exact this
   clear h14 U T;go_wp2;go_roundg (gk-1)
   case measure=>omega
   case rel=>exact⟨j+1,_,by omega,by go_num,by simp;exact l,X.out,G,K⟩
  obtain rfl:j=xs.length:=by omega
  go_wp2;go_ret;refine⟨rfl,?_,d⟩;rw[N]
  congr 3
  refine List.ext_getElem? λi=>?_;by_cases S:i<xs.length
  ·have hx:xs[i]?=some xs[i]:=by simp[S]
   rw[T.out i _ S hx];simp[S]
  rw[List.getElem?_eq_none Zo,List.getElem?_eq_none (by simp;omega)]
theorem xmR {P P2:Nat->Prop}(X:QW)(t:List QT)(c:Int)(m:QM)(j:Nat)(x:QI)(b0 b1 b2 b3:Nat)(cv hv tv:Value)(w:qW)(d:BK P w cv X.cz)(f:BP P w hv X.heap)(b:Ep P2 w tv t)
  (k0:w.cell? (O b0 0)=some cv) (k1:w.cell? (O b0 1)=some hv) (k2:w.cell? (O b0 2)=some (J X.ez)) (k3:w.cell? (O b1 0)=some tv) (k4:w.cell? (O b2 0)=some (J c)) (k5:w.cell? (O b3 0)=some (qZ m.name)) :
  Calls Tryz.prog 157 #[J j,IV x,qP b0,qP b1,qP b2,qP b3] w λe w'=>e=.returned (J (Ld X t ⟨c,m.name,j⟩ x.name x.a))/\qY w w':=by
 obtain⟨ad,cap,rfl,-⟩:=id d;obtain⟨ah,ch,rfl,-⟩:=id f;obtain⟨at',ct,rfl,-⟩:=id b;have k0':=λy=>Bf (Bg w y) k0;have k1':=λy=>Bf (Bg w y) k1;have k2':=λy=>Bf (Bg w y) k2;have k3':=λy=>Bf (Bg w y) k3;have k4':=λy=>Bf (Bg w y) k4;have k5':=λy=>Bf (Bg w y) k5;clear k0 k1 k2 k3 k4 k5;go_enter Tryz.func157,Tryz.ntmps157;go_wp2_with fail;refine (xm7 X t ⟨c,m.name,j⟩ x.name x.a _ _ _ _ (d.later Bw (Bg _ _)) (f.later BB (Bg _ _)) (b.later xbD (Bg _ _))).mono ?_;rintro e w1 ⟨rfl,g⟩;go_wp2;go_ret;exact⟨rfl,EB (Br _ _) g⟩
structure SitB (w:qW)(cv hv tv:Value)(ep c:Int)(w':qW):Prop where
 k0:w'.cell? (O w.heap.size 0)=some cv
 k1:w'.cell? (O w.heap.size 1)=some hv
 k2:w'.cell? (O w.heap.size 2)=some (J ep)
 k3:w'.cell? (O (w.heap.size+1) 0)=some tv
 k4:w'.cell? (O (w.heap.size+1+1) 0)=some (J c)
 bel:qY w w'
theorem SitB.later {w:qW}{cv hv tv:Value}{ep c:Int}{w' w'':qW}(h:SitB w cv hv tv ep c w')(a:qY w' w''):SitB w cv hv tv ep c w'':=
 ⟨Bf a h.k0,Bf a h.k1,Bf a h.k2,Bf a h.k3,Bf a h.k4,Bh h.bel a⟩
theorem xpd (w:qW)(cv hv tv:Value)(ep c:Int):SitB w cv hv tv ep c (((w.alloc (qC #[cv,hv,J ep] 26)).alloc (qC #[tv] 28)).alloc (qC #[J c] 3)):=by
 refine⟨?_,?_,?_,?_,?_,DW _ _ _ _⟩
 ·exact Bf (BG _ _ _) (by rw[Bp _ _ _ _ rfl];rfl)
 ·exact Bf (BG _ _ _) (by rw[Bp _ _ _ _ rfl];rfl)
 ·exact Bf (BG _ _ _) (by rw[Bp _ _ _ _ rfl];rfl)
 ·exact Bf (Bg _ _) (by rw[Bp _ _ _ _ (by simp)];rfl)
 rw[Bp _ _ _ _ (by simp)];rfl
theorem xjQ {P P2:Nat->Prop}(X:QW)(t:List QT)(c k:Int)(cv hv tv:Value)(w:qW)(S:BK P w cv X.cz)(R:BP P w hv X.heap)(Y:Ep P2 w tv t) :
  Calls Tryz.prog 115 #[WV cv hv X.ez,tv,J c,J k] w λe w'=>∃a cap,e=.returned (qS a (Ed X t c k).length cap)/\LH (λb=>w.heap.size<=b) w' (qS a (Ed X t c k).length cap) (Ed X t c k)/\qY w w':=by
 have hm:=Gm;obtain⟨ad,cap,rfl,hl,l,-,f⟩:=id S;obtain⟨ah,ch,rfl,-⟩:=id R;obtain⟨at',ct,rfl,-⟩:=id Y;have B:=xpd w (qS ad X.cz.length cap) (qS ah X.heap.length ch) (qS at' t.length ct) X.ez c;go_enter Tryz.func115,Tryz.ntmps115;go_upto_region 1 with (fail);generalize ((w.alloc (qA ad cap ah ch X)).alloc (qC #[qS at' t.length ct] 28)).alloc (qC #[J c] 3)=W0 at *;have F:=S.later Bw B.bel;have G:=R.later BB B.bel;obtain⟨k0,k1,k2,k3,k4,d⟩:=id B;go_wp2_with fail;refine (xpc X c k _ _ _ F G).mono ?_;rintro e w1 ⟨rfl,n⟩;replace B:=B.later n;clear n k0 k1 k2 k3 k4 F G d
 cases C:Mf X.cz c k with
 | none=>
  have H:Hid (Ed X t c k=[]):=by show _=_;simp[Ed,C]
  go_wp2;go_ret;refine⟨none,0,?_,?_,B.bel⟩
  ·rw[H.out];rfl
  rw[H.out];exact GZ
 | some m=>
  have H:Hid (Ed X t c k=m.code.mapIdx (xqp X t c m)):=by show _=_;simp[Ed,C]
  obtain⟨q,t',x,rfl,rfl,M,T⟩:=xhR C;clear C;have hq:=Bz M;have ht:=Bz T;obtain⟨b,o,rfl,-,-,-,-,-,mv,h,p⟩:=f q x M;obtain⟨am,cm,rfl,y,r,-,g⟩:=p;obtain⟨b2,o2,rfl,-,y0,y1,y2,y3,-,sv,y4,i⟩:=g t' m T;obtain⟨ac,cc,rfl,z,v,u,-⟩:=id i;simp only[Nat.add_zero] at y0;have u3:=Bf B.bel h;have z0:=Bf B.bel y0;have z1:=Bf B.bel y1;have z2:=Bf B.bel y2;have z3:=Bf B.bel y3;have z4:=Bf B.bel y4;unfold maxLen at l r;have a0:(q:Int)<(X.cz.length:Int):=by omega
  have a2:(0:Int)<=(q:Int):=by omega
  have a3:(t':Int)<(x.mz.length:Int):=by omega
  have a1:(0:Int)<=(t':Int):=by omega
  obtain⟨k0,k1,k2,k3,k4,d⟩:=id B;have L:=Bg w1 (qD m ac cc);have n0:(w1.alloc (qD m ac cc)).cell? (O w1.heap.size 0)=some (qZ m.name):=by rw[Bp _ _ _ _ rfl];rfl
  have n4:(w1.alloc (qD m ac cc)).cell? (O w1.heap.size 4)=some (qS ac m.code.length cc):=by rw[Bp _ _ _ _ rfl];rfl
  go_upto_region 4 with (fail);replace B:=B.later L;generalize (w1.alloc (qD m ac cc))=W2 at *;generalize w1.heap.size=bm at *;have Q:=i.later BR B.bel;have N:=S.later Bw B.bel;have V:=R.later BB B.bel;have U:=Y.later xbD B.bel;clear k0 k1 k2 k3 k4 L u3 z0 z1 z2 z3 z4 f g M T h y0 y1 y2 y3 y4 d;go_wp2_with fail;refine (xo8 _ _ _ _ (λj x=>Ld X t ⟨(q:Int),m.name,j⟩ x.name x.a) m.code _ _ Q λj x w' D=>xmR X t (q:Int) m j x _ _ _ _ _ _ _ w' (N.later Bw D) (V.later BB D) (U.later xbD D) (Bf D B.k0) (Bf D B.k1) (Bf D B.k2) (Bf D B.k3) (Bf D B.k4) (Bf D n0)).mono ?_;rintro e w3 ⟨rfl,W,s⟩;have Z:Hid ((m.code.mapIdx λj x=>if x.op == 14 then Ld X t ⟨(q:Int),m.name,j⟩ x.name x.a else -1)=Ed X t (q:Int) (t':Int)):=by show _=_;rw[H.out];rfl
  rw[Z.out] at W;have K:m.code.length=(Ed X t (q:Int) (t':Int)).length:=by rw[H.out];simp
  go_wp2;go_ret;refine⟨some (O W2.heap.size 0),m.code.length,by rw[K];rfl,?_,Bh B.bel s⟩;have:=B.bel.size;have:=(xp7 (P:=λb=>w.heap.size<=b) (w:=w3) (Ed X t (q:Int) (t':Int))).row (bytes:=8) (cap:=m.code.length) xrH Zo W (by rw[List.take_of_length_le (by simp[NG])];simp[NG]) Zo Zo Zo;exact this
def ED (y:QI):Prop:=y.op=15\/y.op=16
theorem xiE (a:Int):∀(n:Nat),∀y∈Fq a n,y.op=11
 | 0,y,h=>by cases h
 | n+1,y,h=>by
  unfold Fq at h;rcases List.mem_cons.1 h with rfl | h
  ·rfl
  exact xiE a n y h
theorem xkS (a:Int)(n:Nat):∀y∈Ex a n,y.op=6\/y.op=11:=by
 intro y h;unfold Ex at h;rw[List.mem_flatMap] at h;obtain⟨k,-,h⟩:=h;simp only[Zm,Zn,or_false] at h;rcases h with rfl | rfl
 ·exact Or.inl rfl
 exact Or.inr rfl
theorem xmW {e:QM}(f:Sml e)(self d c first b:Int)(j:0<=first)(k:b=first+e.code.length){x:QI}(g:x∈e.code):(Cc self d c first b x).op≠18/\(ED (Cc self d c first b x)->0<=(Cc self d c first b x).a/\(Cc self d c first b x).a<=b):=by
 obtain⟨p1,p2,-⟩:=f.plain x g;have i:=f.jump x g;unfold ED Cc;split
 ·exact⟨by simp,λh=>by simp at h⟩
 split
 ·exact⟨by simp,λh=>by simp at h⟩
 split
 ·rename_i h;exact⟨by simp;omega,λh'=>by simp at h';omega⟩
 split
 ·exact⟨by simp,λh=>by simp at h⟩
 split
 ·exact⟨by simp,λh=>by simp at h⟩
 split
 ·rename_i h;have:=i h;exact⟨by simp;omega,λ_=>by simp;omega⟩
 split
 ·exact⟨by simp,λ_=>by simp;omega⟩
 exact⟨by omega,λh'=>by omega⟩
theorem xhS {b:QM}(c:Sml b)(guard:QI)(self n:Int)(i:0<=n):∀y∈Eh b guard self n,y=guard\/(y.op≠18/\(ED y->0<=y.a/\y.a<=n+(Eh b guard self n).length)):=by
 intro y d;rw[KB];have j:=c.args;have g:=c.temps;unfold Eh at d;rcases List.mem_append.1 d with h | h
 ·unfold Kc at h;simp only[List.mem_append,Zm,Zn,or_false] at h;rcases h with ((((h | h) | h) | h) | h)
  ·exact Or.inl h
  ·subst h;exact Or.inr ⟨by simp,λh=>by simp[ED] at h⟩
  ·have:=xiE _ _ y h;exact Or.inr ⟨by omega,λh=>by simp only[ED] at h;omega⟩
  ·subst h;exact Or.inr ⟨by simp,λh=>by simp[ED] at h⟩
  have:=xkS _ _ y h;exact Or.inr ⟨by omega,λh=>by simp only[ED] at h;omega⟩
 obtain⟨x,f,rfl⟩:=List.mem_map.1 h;obtain⟨g1,g2⟩:=xmW c self (self+1) (self+1+b.args) (Fh b n) (Fh b n+b.code.length) (by unfold Fh;omega) rfl f;refine Or.inr ⟨g1,λe=>?_⟩;have:=g2 e;unfold Fh at *;omega
theorem xpM (a:QM)(guard:QI)(self n:Int):guard∈Eh a guard self n:=by
 unfold Eh Kc;simp
structure BGood (sites:List Int)(m:QM)(k:Nat)(s:Bd):Prop where
 len:k<=s.code.length
 jump:∀y∈s.code,ED y->0<=y.a/\(y.a<=s.code.length\/y.a<=m.code.length)
 guard:∀y∈s.code,y.op=18->∃j:Nat,j<k/\y.c=j/\sites[j]?=some y.a
 one:0<s.pieces->∃y∈s.code,y.op=18
 stay:∀j x,m.code[j]?=some x->j<k->x.op≠14->∃b:Nat,s.begins[j]?=Option.some (b:Int)/\s.code[b]?=Option.some x
theorem xrw {sites:List Int}{k:Nat}(h:0<=sites.getD k (-1)):sites[k]?=some (sites.getD k (-1)):=by
 rw[List.getD_eq_getElem?_getD] at h ⊢
 cases a:sites[k]? with
 | none=>rw[a] at h;simp at h
 | some v=>rfl
theorem xhU {X:QW}(h:BM X=0){sites:List Int}{m:QM}(C:Sml m):∀ {k:Nat},k<=m.code.length->BGood sites m k (Bv X.cz sites m k)
 | 0,_=>⟨Nat.zero_le _,λy d=>by simp[Bv] at d,λy d=>by simp[Bv] at d,λh=>by simp[Bv] at h,λj x _ f=>by omega⟩
 | k+1,hk=>by
  have ih:=xhU h C (sites:=sites) (k:=k) Zo;have F:=Ml (xs:=X.cz) (sites:=sites) (m:=m) (k:=k) Zo;have z:m.code[k]?=some m.code[k]:=List.getElem?_eq_getElem Zo;have t:m.code[k]∈m.code:=List.getElem_mem _;rw[Kb z];generalize Bv X.cz sites m k=s at *;generalize m.code[k]=x at *
  have p:∀j y,m.code[j]?=some y->j<k->y.op≠14->∀(e:List QI),∃b:Nat,(s.begins++[(s.code.length:Int)])[j]?=some (b:Int)/\(s.code++e)[b]?=some y:=by
   intro j y d f g e;obtain⟨b,v,i⟩:=ih.stay j y d f g;exact⟨b,by rw[List.getElem?_append_left Zo];exact v,by rw[List.getElem?_append_left (Bz i)];exact i⟩
  obtain⟨p1,p2,-⟩:=C.plain x t;unfold FJ
  cases q:DK X.cz sites m.code.length s.code.length s.temps k x with
  | none=>
   dsimp only;have u:(CS x (k:Int)).op=x.op:=by unfold CS;split<;>rfl
   refine⟨by simp;exact ih.len,λy d f=>?_,λy d g=>?_,λK=>?_,λj y d f g=>?_⟩
   ·rcases List.mem_append.1 d with h' | h'
    ·have:=ih.jump y h' f;rw[List.length_append];simp;omega
    rw[List.mem_singleton] at h';subst h';have D:x.op=15\/x.op=16:=by unfold ED at f;rw[u] at f;exact f
    have e:CS x (k:Int)=x:=by unfold CS;rw[if_neg Zo]
    rw[e];have:=C.jump x t D;omega
   ·rcases List.mem_append.1 d with h' | h'
    ·obtain⟨j,v,i⟩:=ih.guard y h' g;exact⟨j,by omega,i⟩
    rw[List.mem_singleton] at h';subst h';rw[u] at g;omega
   ·obtain⟨y,v,i⟩:=ih.one K;exact⟨y,List.mem_append_left _ v,i⟩
   by_cases hjk:j<k
   ·exact p j y d hjk g _
   have n:j=k:=by omega
   subst n;rw[z] at d;cases d;have e:CS x (j:Int)=x:=by unfold CS;rw[if_neg g]
   refine⟨s.code.length,?_,?_⟩
   ·rw[List.getElem?_append_right Zo,F];simp
   rw[e,List.getElem?_append_right (Bq _)];simp
  | some leaf=>
   have o:Et X.cz sites k x=some leaf:=by
    unfold DK at q;split at q
    ·cases q
    rename_i l G;split at q
    ·cases q;exact G
    cases q
   obtain⟨c,-,-,a⟩:=LQ h o
   have B:0<=sites.getD k (-1):=by
    unfold Et at o;split at o
    ·rename_i H;exact H.2
    cases o
   dsimp only;have r:=xhS c (BQ 18 (sites.getD k (-1)) leaf.args k) s.temps s.code.length Zo;refine⟨by rw[List.length_append,KB];have:=ih.len;omega,λy d f=>?_,λy d g=>?_,λ_=>⟨_,List.mem_append_right _ (xpM leaf _ _ _),rfl⟩,λj y d f g=>?_⟩
   ·rw[List.length_append];rcases List.mem_append.1 d with h' | h'
    ·have:=ih.jump y h' f;omega
    rcases r y h' with rfl | ⟨-,i⟩
    ·simp[ED] at f
    have:=i f;omega
   ·rcases List.mem_append.1 d with h' | h'
    ·obtain⟨j,v,i⟩:=ih.guard y h' g;exact⟨j,by omega,i⟩
    rcases r y h' with rfl | ⟨i,-⟩
    ·exact⟨k,by omega,rfl,xrw B⟩
    exact absurd g i
   by_cases hjk:j<k
   ·exact p j y d hjk g _
   have n:j=k:=by omega
   subst n;rw[z] at d;cases d;exact absurd a g
theorem xh3 {l:List QI}{i:Nat}{f:QI->QI}{y:QI}(h:y∈l.modify i f):y∈l\/∃z,l[i]?=some z/\y=f z:=by
 obtain⟨j,a⟩:=List.mem_iff_getElem?.1 h;rw[List.getElem?_modify] at a;by_cases e:i=j
 ·subst e
  cases b:l[i]? with
  | none=>rw[b] at a;simp at a
  | some z=>rw[b] at a;simp at a;exact Or.inr ⟨z,rfl,a.symm⟩
 simp[e] at a;exact Or.inl (List.mem_iff_getElem?.2 ⟨j,a⟩)
theorem xoG {begins:List Int}{plain code:List QI}:∀k,(Dx begins plain code k).map (·.op)=code.map (·.op)
 | 0=>rfl
 | k+1=>by
  unfold Dx;have ih:=xoG (begins:=begins) (plain:=plain) (code:=code) k;split
  ·split
   ·rename_i t _;rw[← ih]
    apply List.ext_getElem?
    intro i;simp only[List.getElem?_map,List.getElem?_modify]
    cases (Dx begins plain code k)[i]? with
    | none=>rfl
    | some z=>simp;split<;>rfl
   ·exact ih
  exact ih
theorem xl3 {sites:List Int}{m:QM}{n:Nat}{s:Bd}(h:BGood sites m n s)(u:n=m.code.length)(d:∀b∈s.begins,0<=b/\b<(s.code.length:Int)):∀k,k<=n->∀y∈Dx s.begins m.code s.code k,(ED y->0<=y.a/\y.a<=s.code.length)/\(y.op=18->∃j:Nat,j<n/\y.c=j/\sites[j]?=some y.a)
 | 0,_,y,f=>by
  have F:=h.len;refine⟨λr=>?_,h.guard y f⟩;have:=h.jump y f r;omega
 | k+1,hk,y,f=>by
  have ih:=xl3 h u d k (by omega);unfold Dx at f;split at f
  ·rename_i x b D C;split at f
   ·rename_i t i;rcases xh3 f with h' | ⟨z,q,rfl⟩
    ·exact ih y h'
    unfold GL at i;split at i
    ·rename_i r;have p:=d t (List.mem_of_getElem? i);obtain⟨b',e,v⟩:=h.stay k x D (by omega) (by omega);rw[C] at e;cases e;have B:=xoG (begins:=s.begins) (plain:=m.code) (code:=s.code) k;have g:=congrArg (λl=>l[b']?) B;simp only[List.getElem?_map] at g;simp only[Int.toNat_natCast] at q;rw[q,v] at g;simp at g;refine⟨λ_=>⟨p.1,by dsimp only;omega⟩,λo=>?_⟩;dsimp only at o;omega
    cases i
   exact ih y f
  exact ih y f
theorem xnK {X:QW}(h:BM X=0){sites:List Int}{m:QM}(d:Sml m){c:Int}(b:(En X c m sites).2=true) :
  (En X c m sites).1.code.length<=240/\(En X c m sites).1.temps<=40/\(∀y∈(En X c m sites).1.code,(ED y->0<=y.a/\y.a<=(En X c m sites).1.code.length)/\(y.op=18->∃j:Nat,j<m.code.length/\y.c=j/\sites[j]?=some y.a))/\∃y∈(En X c m sites).1.code,y.op=18:=by
 have f:=xhU h d (sites:=sites) (Bq m.code.length);have l:=NN h d (sites:=sites) (Bq m.code.length);have k:=xi2 (xs:=X.cz) (sites:=sites) (m:=m) m.code.length;unfold En at b ⊢;dsimp only at b ⊢;generalize Bv X.cz sites m m.code.length=s at *;split at b
 ·cases b
 rename_i i;rw[if_neg i];dsimp only;rw[Mt];refine⟨by omega,l.2.2.1,xl3 f rfl k _ (Bq _),?_⟩;obtain⟨y,o,n⟩:=f.one (by omega);have:y.op∈(Dx s.begins m.code s.code m.code.length).map (·.op):=by rw[xoG];exact List.mem_map_of_mem o
 obtain⟨z,g,e⟩:=List.mem_map.1 this;exact⟨z,g,by rw[← n];exact e⟩
def Lm (n:Int)(y:QI):QI:=if y.op=15\/y.op=16 then { y with a:=y.a+n } else y
theorem LT {n:Int}{y:QI}(h:¬ ED y):Lm n y=y:=by unfold Lm;exact if_neg h
theorem xk1 (self c b first a n:Int)(x:QI):Lm n (Cc self c b first a x)=Cc self c b (first+n) (a+n) x:=by
 unfold Cc;split
 ·exact LT (by simp[ED])
 split
 ·exact LT (by simp[ED])
 split
 ·rename_i h;exact LT (by simp only[ED];omega)
 split
 ·exact LT (by simp[ED])
 split
 ·exact LT (by simp[ED])
 split
 ·rename_i h;unfold Lm;rw[if_pos (by simpa using h)];simp only[BQ,QI.mk.injEq,true_and,and_true];omega
 split
 ·rfl
 rename_i h _;exact LT h
theorem xl8 (a:QM)(g:QI)(d:g.op=18)(self n:Int):(Kc a g self).map (Lm n)=Kc a g self:=by
 refine (List.map_congr_left (g:=id) λy b=>?_).trans (List.map_id _);refine LT λc=>?_;unfold Kc at b;simp only[List.mem_append,Zm,Zn,or_false] at b;unfold ED at c;rcases b with ((((h | h) | h) | h) | h)
 ·subst h;omega
 ·subst h;simp at c
 ·have:=xiE _ _ y h;omega
 ·subst h;simp at c
 have:=xkS _ _ y h;omega
theorem xgB (a:QM)(g:QI)(b:g.op=18)(self n:Int):(Eh a g self 0).map (Lm n)=Eh a g self n:=by
 unfold Eh;rw[List.map_append,xl8 a g b,List.map_map]
 congr 1
 apply List.map_congr_left
 intro x _;simp only[Function.comp];rw[xk1];unfold Fh
 congr 1<;>omega
theorem xlg (o:List QI)(y:QI)(rest:List QI)(f:QI->QI):(o++([y]++rest)).modify o.length f=o++([f y]++rest):=by
 induction o with
 | nil=>simp
 | cons a o ih=>exact (List.modify_succ_cons f a _ _).trans (congrArg (a :: ·) ih)
def EN (B:List Int)(y:QI):QI:=if y.op=15\/y.op=16 then { y with a:=B.getD y.a.toNat 0 } else y
def ET (xs:List QC)(sites:List Int)(m:QM)(B:List Int):Nat->List QI
 | 0=>[]
 | k+1=>match m.code[k]? with
  | none=>ET xs sites m B k
  | some x=>ET xs sites m B k++match DK xs sites m.code.length (Bv xs sites m k).code.length (Bv xs sites m k).temps k x with
   | none=>[EN B (CS x k)]
   | some leaf=>(Eh leaf (BQ 18 (sites.getD k (-1)) leaf.args k) (Bv xs sites m k).temps 0).map (Lm (Bv xs sites m k).code.length)
theorem xnW {X:QW}(h:BM X=0){sites:List Int}{m:QM}(u:Sml m){B:List Int}(i:B.length=m.code.length):∀ {k:Nat},k<=m.code.length->(∀j,j<k->B[j]?=some ((Bv X.cz sites m j).code.length:Int))->∀rest,Dx B m.code ((Bv X.cz sites m k).code++rest) k=ET X.cz sites m B k++rest
 | 0,_,_,rest=>rfl
 | k+1,hk,hB,rest=>by
  have ih:=xnW h u i (sites:=sites) (k:=k) Zo (λj d=>hB j Zo);have t:m.code[k]?=some m.code[k]:=List.getElem?_eq_getElem Zo;have p:m.code[k]∈m.code:=List.getElem_mem _;have y:=hB k Zo
  have g:(ET X.cz sites m B k).length=(Bv X.cz sites m k).code.length:=by
   have:=congrArg List.length (ih []);rw[Mt] at this;simpa using this.symm
  rw[Kb t];unfold Dx ET;rw[t,y];generalize m.code[k]=x at *;generalize Bv X.cz sites m k=s at *;generalize ET X.cz sites m B k=o at *;unfold FJ;simp only
  cases f:DK X.cz sites m.code.length s.code.length s.temps k x with
  | none=>
   simp only[List.append_assoc];rw[ih];by_cases d:x.op=15\/x.op=16
   ·have n:=u.jump x p d
    have v:B[x.a.toNat]?=some (B.getD x.a.toNat 0):=by
     rw[List.getD_eq_getElem?_getD,List.getElem?_eq_getElem Zo];rfl
    have e:CS x (k:Int)=x:=by unfold CS;rw[if_neg Zo]
    have c:GL B x=some (B.getD x.a.toNat 0):=by unfold GL;rw[if_pos ⟨d,n.1⟩,v]
    rw[c,e];unfold EN;rw[if_pos d];simp only[Int.toNat_natCast];rw[← g,xlg]
   have c:GL B x=none:=by unfold GL;rw[if_neg (λh=>d h.1)]
   rw[c];unfold EN;have r:(CS x (k:Int)).op=x.op:=by unfold CS;split<;>rfl
   rw[if_neg (by rw[r];exact d)]
  | some leaf=>
   have q:Et X.cz sites k x=some leaf:=by
    unfold DK at f;split at f
    ·cases f
    rename_i l i;split at f
    ·cases f;exact i
    cases f
   obtain⟨-,-,-,b⟩:=LQ h q;have c:GL B x=none:=by unfold GL;rw[if_neg Zo]
   simp only[List.append_assoc];rw[c,ih,xgB _ _ rfl]
theorem xhc {xs:List QC}{sites:List Int}{m:QM}:∀ {k:Nat},k<=m.code.length->∀j,j<k->(Bv xs sites m k).begins[j]?=some ((Bv xs sites m j).code.length:Int)
 | 0,_,j,hj=>by omega
 | k+1,hk,j,hj=>by
  have a:=Ml (xs:=xs) (sites:=sites) (m:=m) (k:=k) Zo;rw[Kb (List.getElem?_eq_getElem Zo),xeN];by_cases hjk:j<k
  ·rw[List.getElem?_append_left Zo];exact xhc Zo j hjk
  have:j=k:=by omega
  subst this;rw[List.getElem?_append_right Zo,a];simp
theorem xpC {X:QW}(h:BM X=0){sites:List Int}{m:QM}(a:Sml m):Dx (Bv X.cz sites m m.code.length).begins m.code (Bv X.cz sites m m.code.length).code m.code.length=ET X.cz sites m (Bv X.cz sites m m.code.length).begins m.code.length:=by
 have:=xnW h a (sites:=sites) (B:=(Bv X.cz sites m m.code.length).begins) (Ml (Bq _)) (Bq _) (xhc (Bq _)) [];simpa using this
theorem xj9 {P:Nat->Prop}{w:qW}{v:Value}{xs:List QI}(h:Cm P w v xs):Cm (λb=>P b/\b<w.heap.size) w v xs:=by
 obtain⟨ad,cap,a,e,g,c,d⟩:=h;refine⟨ad,cap,a,e,g,c,λi x f=>?_⟩;obtain⟨b,o,e1,e2,e3⟩:=d i x f;exact⟨b,o,e1,⟨e2,World.block_lt_of_cell? _ _ e3.1⟩,e3⟩
def QG:CT Fst:=λP w f x=>f 0=some (J x.cls)/\f 1=some (qZ x.name)/\f 2=some (J x.ez)/\f 3=some (J x.temps)/\∃v,f 4=some v/\Cm P w v x.code
abbrev MF:=IsRow QG 5 64
theorem Ly:Good QG 5 where
 move h hl hk hf:=by
  obtain⟨d,b,e,f,v,j,i⟩:=h;exact⟨hf 0 Zo _ d,hf 1 Zo _ b,hf 2 Zo _ e,hf 3 Zo _ f,v,hf 4 Zo _ j,i.keep BR hk hl⟩
 there h k hk:=by
  obtain⟨d,b,e,f,v,g,⟨a,c,rfl,-⟩⟩:=h
  match k,hk with
  | 0,_=>exact⟨_,d,rfl⟩
  | 1,_=>exact⟨_,b,rfl⟩
  | 2,_=>exact⟨_,e,rfl⟩
  | 3,_=>exact⟨_,f,rfl⟩
  | 4,_=>exact⟨_,g,rfl⟩
 pos:=by omega
theorem xqP:(Tryz.prog.info? 187).map (λi=>(i.zero,i.size,i.bytes))=some (some (.agg #[J 0,qZ ⟨#[]⟩,J 0,J 0,qN]),5,64):=by kernel_rfl
def LM (X:QW)(t:List QT)(c:Nat)(k:Nat):List Fst:=if (Hw X (c:Int) (k:Int) (Ed X t (c:Int) (k:Int))).2=true then [(Hw X (c:Int) (k:Int) (Ed X t (c:Int) (k:Int))).1] else []
def GG (X:QW)(t:List QT)(c n:Nat):List Fst:=(List.range n).flatMap (LM X t c)
def Mr (X:QW)(c:Nat):Nat:=match X.cz[c]? with
 | some x=>x.mz.length
 | none=>0
def ES (X:QW)(t:List QT)(n:Nat):List Fst:=(List.range n).flatMap λc=>GG X t c (Mr X c)
section
variable {X:QW} {t:List QT}
theorem xg3 (c n:Nat):GG X t c (n+1)=GG X t c n++LM X t c n:=by
 unfold GG;rw[List.range_succ,List.flatMap_append];simp
theorem xkg (n:Nat):ES X t (n+1)=ES X t n++GG X t n (Mr X n):=by
 unfold ES;rw[List.range_succ,List.flatMap_append];simp
theorem xpT (c k:Nat):(LM X t c k).length<=1:=by unfold LM;split<;>simp
theorem xiQ (c:Nat):∀n,(GG X t c n).length<=n
 | 0=>by simp[GG]
 | n+1=>by rw[xg3,List.length_append];have:=xiQ c n;have:=xpT (X:=X) (t:=t) c n;omega
theorem xiM (h:∀c,Mr X c<=8):∀n,(ES X t n).length<=n*8
 | 0=>by simp[ES]
 | n+1=>by rw[xkg,List.length_append];have:=xiM h n;have:=xiQ (X:=X) (t:=t) n (Mr X n);have:=h n;omega
theorem xpA {c k:Nat}{f:Fst}(h:Hw X (c:Int) (k:Int) (Ed X t (c:Int) (k:Int))=(f,true)):LM X t c k=[f]:=by unfold LM;rw[h];rfl
theorem xrl {c k:Nat}{f:Fst}(h:Hw X (c:Int) (k:Int) (Ed X t (c:Int) (k:Int))=(f,false)):LM X t c k=[]:=by unfold LM;rw[h];rfl
end
theorem xkH {X:QW}(h:BM X=0)(c:Nat):Mr X c<=8:=by
 unfold Mr
 cases b:X.cz[c]? with
 | none=>simp
 | some x=>
  simp only;obtain⟨-,-,d,-⟩:=Gx h;have a:=d c x (Bz b) b;unfold Dm at a;split at a
  ·cases a
  split at a
  ·cases a
  omega
theorem xjU {X:QW}(h:BM X=0):X.cz.length<=12:=by
 unfold BM at h;split at h
 ·cases h
 omega
structure FaL (Z:qW)(B:Nat)(fs:List Fst)(cs:List Value)(v:Value)(wr:qW):Prop where
 bel:Below B Z wr
 sz:B<=wr.heap.size
 own:ownsAt wr B 187 5 v fs.length cs
 row:Cells QG 5 (λb=>B<=b/\v.ownBlock≠some b) wr cs fs
theorem xhI {P Q:Nat->Prop}{wr w':qW}{cs:List Value}{fs:List Fst}(h:Cells QG 5 P wr cs fs)(e:∀b,P b->b<wr.heap.size->w'.heap[b]?=wr.heap[b]?)(d:∀b,P b->b<wr.heap.size->Q b):Cells QG 5 Q w' cs fs:=
 ⟨h.1,λi x g=>by
  obtain⟨a0,a1,a2,a3,v,a4,f⟩:=h.2 i x g;exact⟨a0,a1,a2,a3,v,a4,(xj9 f).keep BR (Keeps.of_block λb a c=>e b a.1 c) λb a=>d b a.1 a.2⟩⟩
section
variable {Z:World} {B:Nat} {fs:List Fst} {cs:List Value} {v:Value} {wr w':World}
theorem xrr (w:qW)(o:Obj):FaL (w.alloc o) (w.heap.size+1) [] [] (qN) (w.alloc o):=⟨Br _ _,by simp,⟨rfl,Or.inl ⟨rfl,rfl⟩⟩,Cells.nil⟩
theorem FaL.later (h:FaL Z B fs cs v wr)(a:qY wr w'):FaL Z B fs cs v w':=
 ⟨h.bel.trans ⟨a.os,a.tape,a.output,a.size,λb c=>a.block b (by have:=h.sz;omega)⟩,BX h.sz a.size,h.own.keep λg d=>a.block g (h.own.lt g d).2,h.row.later Ly a⟩
theorem FaL.add (h:FaL Z B fs cs v wr){f:Fst}{kv v':Value}{L:Nat}{P:Nat->Prop}(a:Cm P wr kv f.code)(j:∀b,P b->L<=b)(l:B<=L)(hv:∀g,v.ownBlock=some g->g<L)(r1:ownsAt w' B 187 5 v' (fs.length+1) (cs++[J f.cls,qZ f.name,J f.ez,J f.temps,kv]))(r2:v'.ownBlock=v.ownBlock\/∃g,v'.ownBlock=some g/\wr.heap.size<=g)(r3:Below B wr w')(r4:∀b,b<wr.heap.size->some b≠v.ownBlock->w'.heap[b]?=wr.heap[b]?):FaL Z B (fs++[f]) (cs++[J f.cls,qZ f.name,J f.ez,J f.temps,kv]) v' w':=by
 have d:∀b,b<wr.heap.size->v.ownBlock≠some b->v'.ownBlock≠some b:=λb c k=>by
  rcases r2 with r2 | ⟨g',e,i⟩
  ·rw[r2];exact k
  rw[e];intro e';cases e';exact absurd c (by omega)
 refine⟨h.bel.trans r3,BX h.sz r3.size,by simpa using r1,?_⟩;refine (xhI h.row (λb c i=>r4 b i λe=>c.2 e.symm) λb c i=>⟨c.1,d b i c.2⟩).append Ly (Cells.one Ly rfl ?_);refine⟨rfl,rfl,rfl,rfl,kv,rfl,(xj9 a).keep BR (Keeps.of_block λb c i=>r4 b i λe=>by have:=hv b e.symm;have:=j b c.1;omega) λb c=>⟨by have:=j b c.1;omega,d b c.2 λe=>by have:=hv b e;have:=j b c.1;omega⟩⟩
theorem FaL.fasts (h:FaL Z B fs cs v wr)(d:fs.length<=1000):MF (λb=>B<=b) wr v fs:=
 xj6 Ly h.own (xhI h.row (λ_ _ _=>rfl) λb c _=>c.1) rfl (λb a _=>a) (by omega)
theorem FaL.form (h:FaL Z B fs cs v wr):∃a cap,v=qS a fs.length cap/\fs.length<=cap/\cap<=9223372036854775807:=by
 obtain⟨a,cap,e,b,c⟩:=h.own.form;unfold maxLen at c;exact⟨a,cap,e,b,by omega⟩
end
theorem xhL {X:QW}{c:Int}{mt:QM}{sites:List Int}(b:BM X=0)(a:Sml mt)(h:(En X c mt sites).2=true):(En X c mt sites).1.code=ET X.cz sites mt (Bv X.cz sites mt mt.code.length).begins mt.code.length/\(En X c mt sites).1.temps=(Bv X.cz sites mt mt.code.length).temps:=by
 rw[← xpC b a];unfold En at h ⊢;simp only at h ⊢;split
 ·rename_i d;rw[if_pos d] at h;cases h
 exact⟨rfl,rfl⟩
theorem xl6 {a:QM}(h:FH a=true):a.prim=0/\∀x∈a.code,x.op≠13/\x.op≠14:=by
 unfold FH GM at h;simp at h;exact⟨h.1,λx b=>⟨(h.2 x b).2,(h.2 x b).1⟩⟩
def KQ (X:QW)(f:Fst):Prop:=∃c k mt sites,Cp X.cz c k=some mt/\En X c mt sites=(f,true)
theorem xjm {X:QW}{c k:Int}{sites:List Int}{f:Fst}(h:Hw X c k sites=(f,true)):KQ X f:=by
 unfold Hw at h
 cases a:Cp X.cz c k with
 | none=>rw[a] at h;cases h
 | some mt=>rw[a] at h;exact⟨c,k,mt,sites,a,h⟩
def Lc (X:QW)(fuel:Int)(qk:Int->Int->Option (List QI × Int)):Env Unit:=⟨X.cz,fuel,λ_ _ c name=>((),BF X.cz c name),qk⟩
theorem xjs {cs:List QC}{a:QM}(j:CodeOk cs a.code)(e:∀x∈a.code,x.op≠13)(self d c first b:Int):CodeOk cs (a.code.map (Cc self d c first b)):=by
 intro y i;obtain⟨x,g,rfl⟩:=List.mem_map.1 i;have f:=j x g;have h:=e x g;unfold Cc;split
 ·simp
 split
 ·simp
 split
 ·rename_i o;simp;omega
 split
 ·simp
 split
 ·simp
 split
 ·rename_i o;simp;omega
 split
 ·simp
 exact f
theorem CodeOk.append {cs:List QC}{a b:List QI}(d:CodeOk cs a)(e:CodeOk cs b):CodeOk cs (a++b):=λx c=>by
 rcases List.mem_append.1 c with h | h
 ·exact d x h
 exact e x h
theorem xnA {cs:List QC}{l:List QI}(h:∀x∈l,x.op≠5/\x.op≠13):CodeOk cs l:=λx a=>⟨λe=>absurd e (h x a).1,λe=>absurd e (h x a).2⟩
theorem xjR {cs:List QC}{a:QM}(d:CodeOk cs a.code)(b:∀x∈a.code,x.op≠13){g:QI}(e:g.op=18)(self n:Int):CodeOk cs (Eh a g self n):=by
 unfold Eh Kc;refine (xnA λy c=>?_).append (xjs d b _ _ _ _ _);simp only[List.mem_append,Zm,Zn,or_false] at c;rcases c with ((((h | h) | h) | h) | h)
 ·subst h;omega
 ·subst h;simp
 ·have:=xiE _ _ y h;omega
 ·subst h;simp
 have:=xkS _ _ y h;omega
theorem xid {cs:List QC}{l:List QI}(h:CodeOk cs l){f:QI->QI}(c:∀y,¬ (y.op=15\/y.op=16)->f y=y)(a:∀y,(f y).op=y.op):CodeOk cs (l.map f):=λz b=>by
 obtain⟨y,d,rfl⟩:=List.mem_map.1 b;by_cases hj:y.op=15\/y.op=16
 ·exact⟨λe=>by rw[a] at e;omega,λe=>by rw[a] at e;omega⟩
 rw[c y hj];exact h y d
theorem xpe (n:Int)(y:QI):(Lm n y).op=y.op:=by unfold Lm;split<;>rfl
theorem xrF (B:List Int)(y:QI):(EN B y).op=y.op:=by unfold EN;split<;>rfl
theorem xia {X:QW}(m:BM X=0){mt:QM}(p:CodeOk X.cz mt.code){sites:List Int}(B:List Int):∀k:Nat,CodeOk X.cz (ET X.cz sites mt B k)
 | 0=>λx i=>by simp[ET] at i
 | k+1=>by
  have ih:=xia m p (sites:=sites) B k;unfold ET
  cases i:mt.code[k]? with
  | none=>exact ih
  | some x=>
   simp only
   cases h:DK X.cz sites mt.code.length (Bv X.cz sites mt k).code.length (Bv X.cz sites mt k).temps k x with
   | none=>
    simp only;refine ih.append λy g=>?_;simp only[Zm,Zn,or_false] at g;subst g
    have q:CodeOk X.cz [CS x (k:Int)]:=λz n=>by
     simp only[Zm,Zn,or_false] at n;subst n;have:=p x (List.mem_of_getElem? i);unfold CS;split
     ·rename_i o;simp;omega
     exact this
    exact xid q (f:=EN B) (λy g=>by unfold EN;exact if_neg g) (xrF B) _ (by simp)
   | some leaf=>
    simp only
    have e:Et X.cz sites k x=some leaf:=by
     unfold DK at h;split at h
     ·cases h
     rename_i l c;split at h
     ·cases h;exact c
     cases h
    obtain⟨r,d,b,s⟩:=LQ m e;obtain⟨-,a⟩:=xl6 b
    have j:Lh X.cz (sites.getD k (-1)) x.name=some leaf:=by
     unfold Et at e;split at e
     ·split at e
      ·cases e
      rename_i y g;split at e
      ·cases e;exact g
      cases e
     cases e
    exact ih.append (xid (xjR (xec m (xeS j)) (λx i=>(a x i).1) rfl _ _) (λy g=>LT g) (xpe _))
theorem xmu {X:QW}(a:BM X=0){fuel:Int}{qk:Int->Int->Option (List QI × Int)}(e:∀c n q,qk c n=some q->∃c' k' mt sites,Cp X.cz c' k'=some mt/\(En X c' mt sites).2=true/\q=((En X c' mt sites).1.code,(En X c' mt sites).1.temps)):EOk (Lc X fuel qk):=by
 refine⟨λc n m b=>xec a b,λc n q f=>?_,xdt a⟩;obtain⟨c',k',mt,sites,b,d,rfl⟩:=e c n q f;obtain⟨p1,-⟩:=xhL a (Qh a b) d;show CodeOk X.cz (En X c' mt sites).1.code;rw[p1];exact xia a (xec a b) _ _
def Gw (X:QW)(p:Fst->Bool)(l:List Fst)(c n:Int):Option (List QI × Int):=match Cp X.cz c n with
 | none=>none
 | some mt=>(l.find? λf=>decide (f.cls=c) && CD f.name mt.name && p f).map λf=>(f.code,f.temps)
theorem xgE {X:QW}{p:Fst->Bool}{l:List Fst}{c n:Int}{q:List QI × Int}(h:Gw X p l c n=some q):∃f∈l,f.cls=c/\(∀mt,Cp X.cz c n=some mt->f.name=mt.name)/\p f=true/\q=(f.code,f.temps):=by
 unfold Gw at h
 cases b:Cp X.cz c n with
 | none=>rw[b] at h;cases h
 | some mt=>
  rw[b] at h;simp only[Option.map_eq_some_iff] at h;obtain⟨f,d,rfl⟩:=h;have g:=List.mem_of_find?_eq_some d;have a:=List.find?_some d;simp only[Bool.and_eq_true,decide_eq_true_eq] at a;refine⟨f,g,a.1.1,λmt' e=>?_,a.2,rfl⟩
  cases e;exact (xm9 _ _).1 a.1.2
theorem xo3 {X:QW}(g:BM X=0)(p:Fst->Bool){l:List Fst}(e:∀f∈l,p f=true->KQ X f)(fuel:Int):EOk (Lc X fuel (Gw X p l)):=xmu g λc n q h=>by
 obtain⟨f,b,-,-,d,rfl⟩:=xgE h;obtain⟨c',k',mt,sites,i,a⟩:=e f b d;exact⟨c',k',mt,sites,i,by rw[a],by rw[a]⟩
structure StE where
 kind:Int
 cls:Int
 slots:Int
 name:ByteArray
 meth:QM
 sf:QV
 cname:ByteArray
 args:List QV
structure ReE where
 err:Int
 n:Int
 v:QV
abbrev Ct (e n:Int):ReE:=⟨e,n,BC⟩
def Es (r:Ran):ReE:=⟨r.err,r.sz_,r.v⟩
abbrev FY (X:QW)(f:Fst):Bool:=decide (f.ez=X.ez)
theorem xlD {X:QW}{t:List QT}{n:Nat}:∀f∈ES X t n,KQ X f:=by
 intro f b;unfold ES at b;obtain⟨c,-,b⟩:=List.mem_flatMap.1 b;unfold GG at b;obtain⟨k,-,b⟩:=List.mem_flatMap.1 b;unfold LM at b;split at b
 ·rename_i a;rw[List.mem_singleton] at b;subst b;exact xjm (c:=(c:Int)) (k:=(k:Int)) (sites:=Ed X t c k) (by rw[← a])
 cases b
def xyz (s:Sn)(v:QV)(name:ByteArray)(args:List QV):Ran:=(DQ (Lc s.X 400 (Gw s.X (FY s.X) (ES s.X s.ts s.X.cz.length))) s.X () v name args 400).1
def Cg (s:Sn)(x:StE):Sn × ReE:=
 if x.kind=1 then
  if EF s.X.cz x.name x.cls x.slots≠0 then (s,Ct (EF s.X.cz x.name x.cls x.slots) 0) else (⟨DZ s.X x.name x.cls x.slots,s.cells,s.ts,s.saved⟩,Ct 0 s.X.cz.length)
 else if x.kind=2 then
  if (Em (Cs s.X.cz x.cls) s.X.cz.length x.cls x.meth).1≠0 then (s,Ct (Em (Cs s.X.cz x.cls) s.X.cz.length x.cls x.meth).1 (Em (Cs s.X.cz x.cls) s.X.cz.length x.cls x.meth).2)
  else match Cy s.X.cz x.cls with
   | none=>(s,Ct 6 0)
   | some y=>if CZ y.mz x.meth.name<0/\8<=y.mz.length then (s,Ct 5 0) else (⟨Fs s.X x.cls.toNat y x.meth,s.cells,s.ts,s.saved⟩,Ct 0 0)
 else if x.kind=3 then
  if Dj s.X.cz.length x.cls=false then (s,Ct 6 0)
  else if 60<=s.X.heap.length then (s,Ct 15 0)
  else (⟨⟨s.X.cz,s.X.heap++[⟨x.cls,List.replicate (DY s.X.cz x.cls).toNat BC⟩],s.X.ez⟩,s.cells,s.ts,s.saved⟩,⟨0,s.X.heap.length,⟨4,s.X.heap.length⟩⟩)
 else if x.kind=4 then
  (⟨⟨s.X.cz,(Dz s.X x.sf x.cname x.args 400).heap,s.X.ez⟩,s.cells,s.ts,s.saved⟩,Es (Dz s.X x.sf x.cname x.args 400))
 else if x.kind=5 then
  (⟨⟨s.X.cz,(DQ (Ds s.X 400) s.X ⟨s.cells,s.ts,0,0⟩ x.sf x.cname x.args 400).1.heap,s.X.ez⟩,(DQ (Ds s.X 400) s.X ⟨s.cells,s.ts,0,0⟩ x.sf x.cname x.args 400).2.cells,(DQ (Ds s.X 400) s.X ⟨s.cells,s.ts,0,0⟩ x.sf x.cname x.args 400).2.ts,s.saved⟩,Es (DQ (Ds s.X 400) s.X ⟨s.cells,s.ts,0,0⟩ x.sf x.cname x.args 400).1)
 else if x.kind=6 then
  (⟨⟨s.X.cz,(xyz s x.sf x.cname x.args).heap,s.X.ez⟩,s.cells,s.ts,s.saved⟩,Es (xyz s x.sf x.cname x.args))
 else if x.kind=7 then (⟨s.X,s.cells,s.ts,Ef s.X⟩,Ct 0 (Ef s.X).length)
 else if x.kind=8 then
  if s.saved=[] then (s,Ct 6 0)
  else if (Ez s.saved).2≠0 then (s,Ct (Ez s.saved).2 0)
  else (⟨⟨(Ez s.saved).1.cz,(Ez s.saved).1.heap,max (Ez s.saved).1.ez s.X.ez+1⟩,s.cells,s.ts,s.saved⟩,Ct 0 0)
 else (s,Ct 1 0)
structure DoOk (i:Nat)(s:Sn)(r:Sn × ReE):Prop where
 inv:SInv (i+1) r.1
 ep:s.X.ez<=r.1.X.ez
 same:r.2.err≠0->r.1.X=s.X
theorem SInv.stays {i:Nat}{s:Sn}(h:SInv i s)(e:ReE):DoOk i s (s,e):=⟨h.later (Nat.le_succ i),Int.le_refl _,λ_=>rfl⟩
theorem xib {X:QW}{v:QV}{name:ByteArray}{a:List QV}{fuel:Int}(h:(Dz X v name a fuel).err≠0):(⟨X.cz,(Dz X v name a fuel).heap,X.ez⟩:QW)=X:=by rw[(xkM h).1]
theorem Nd {i:Nat}{s:Sn}(h:SInv i s)(c:i<1000)(x:StE):DoOk i s (Cg s x):=by
 unfold Cg;split
 ·split
  ·exact h.stays _
  rename_i p;exact⟨(show SInv i ⟨DZ s.X x.name x.cls x.slots,s.cells,s.ts,s.saved⟩ from ⟨xmY h.right (by simpa using p),h.ep0,h.ep1,h.saved⟩).later (Nat.le_succ i),Int.le_refl _,λe=>absurd rfl e⟩
 split
 ·split
  ·exact h.stays _
  rename_i b
  cases r:Cy s.X.cz x.cls with
  | none=>exact h.stays _
  | some y=>
   simp only;split
   ·exact h.stays _
   rename_i a;obtain⟨k,n,q⟩:=Gl r;rw[n] at b ⊢;simp only[Int.toNat_natCast];have e0:=h.ep0;have e1:=h.ep1;refine⟨h.inst c q (by simpa using b) (by omega),?_,λe=>absurd rfl e⟩;have:(Fs s.X k y x.meth).ez=s.X.ez+1:=xfW e0 (by omega);simp only;omega
 split
 ·split
  ·exact h.stays _
  split
  ·exact h.stays _
  rename_i m u;exact⟨(h.heap (xoH h.right (by simpa using m) (by omega)) _ _).later (Nat.le_succ i),Int.le_refl _,λe=>absurd rfl e⟩
 split
 ·exact⟨(h.heap (xgU h.right _ _ _ _).1 _ _).later (Nat.le_succ i),Int.le_refl _,λe=>xib e⟩
 split
 ·obtain⟨k1,k2⟩:=xx4 (E:=Ds s.X 400) h.right (xiV h.right 400 _) rfl ⟨s.cells,s.ts,0,0⟩ x.sf x.cname x.args 400;exact⟨(h.heap k1 _ _).later (Nat.le_succ i),Int.le_refl _,λe=>by simp only;rw[k2 e]⟩
 split
 ·obtain⟨k1,k2⟩:=xx4 h.right (xo3 h.right (FY s.X) (λf h _=>xlD f h) 400) rfl () x.sf x.cname x.args 400;exact⟨(h.heap k1 _ _).later (Nat.le_succ i),Int.le_refl _,λe=>by simp only;rw[show (xyz s x.sf x.cname x.args).heap=_ from k2 e]⟩
 split
 ·exact⟨h.save.later (Nat.le_succ i),Int.le_refl _,λe=>absurd rfl e⟩
 split
 ·split
  ·exact h.stays _
  rename_i o;obtain⟨Y,d,t,g,j,l⟩:=h.parse o;rw[g];simp only[ne_eq,not_true_eq_false,if_false];have e0:=h.ep0;exact⟨h.load c d j l,by simp only;omega,λe=>absurd rfl e⟩
 exact h.stays _
theorem xlE (s:Sn){x:StE}(a:x.kind≠7):(Cg s x).1.saved=s.saved:=by
 unfold Cg;split
 ·split<;>rfl
 split
 ·split
  ·rfl
  split
  ·rfl
  split<;>rfl
 split
 ·split
  ·rfl
  split<;>rfl
 split
 ·rfl
 split
 ·rfl
 split
 ·rfl
 split
 ·split
  ·rfl
  split<;>rfl
 ·rfl
def Ek (s:Sn)(l:List StE):Sn:=l.foldl (λs x=>(Cg s x).1) s
def GR:Sn->List StE->List ReE
 | _,[]=>[]
 | s,x :: l=>(Cg s x).2 :: GR (Cg s x).1 l
abbrev Ej (r:ReE):Value:=.agg #[J r.err,J r.n,J r.v.k,J r.v.n]
abbrev DR (cv hv:Value)(ep:Int)(lv tv sv:Value):Obj:=qC #[cv,hv,J ep,lv,tv,sv] 31 (0,0)
structure SesAt (P:Nat->Prop)(w:qW)(cv hv lv tv:Value)(s:Sn):Prop where
 c:BK P w cv s.X.cz
 h:BP P w hv s.X.heap
 l:Fj P w lv s.cells
 t:Ep P w tv s.ts
theorem SesAt.keep {P Q:Nat->Prop}{w w':qW}{cv hv lv tv:Value}{s:Sn}(h:SesAt P w cv hv lv tv s)(d:Keeps P w w')(a:∀b,P b->Q b):SesAt Q w' cv hv lv tv s:=⟨h.c.keep Bw d a,h.h.keep BB d a,h.l.keep Dc d a,h.t.keep xbD d a⟩
def ArPost (P:Nat->Prop)(w:qW)(sb:Nat)(sv:Value)(s':Sn)(r:ReE)(e:Ending)(w':qW):Prop:=
 e=.returned (Ej r)/\(∃cv hv lv tv,w'.heap[sb]?=some (DR cv hv s'.X.ez lv tv sv)/\SesAt (λb=>P b\/w.heap.size<=b) w' cv hv lv tv s')/\Kp (λt=>t=3) (Gd sb) w w'
theorem NW (er:Int)(w:qW):Calls Tryz.prog 60 #[J er] w λe w'=>e=.returned (Ej (Ct er 0))/\qY w w':=by
 go_enter Tryz.func60,Tryz.ntmps60;go_wp2;refine Bt (v:=Ej (Ct er 0)) ?_ rfl ⟨rfl,Bg _ _⟩;simp[results,Tryz.results60,go_sem]
theorem xeI (r:Ran)(w:qW):Calls Tryz.prog 85 #[Hh r] w λe w'=>e=.returned (Ej (Es r))/\qY w w':=by
 go_enter Tryz.func85,Tryz.ntmps85;go_wp2;refine Bt (v:=Ej (Es r)) ?_ rfl ⟨rfl,BG _ _ _⟩;simp[results,Tryz.results85,go_sem,Es]
structure Chg (b:Nat)(w U:qW):Prop where
 os:U.os=w.os
 tape:U.tape=w.tape
 output:U.output=w.output
 size:U.heap.size=w.heap.size
 blk:∀b',b'≠b->U.heap[b']?=w.heap[b']?
theorem Chg.refl (b:Nat)(w:qW):Chg b w w:=⟨rfl,rfl,rfl,rfl,λ_ _=>rfl⟩
theorem Chg.set {b:Nat}{w U:qW}(h:Chg b w U)(o:Nat)(u:Value):Chg b w (U.setCell (O b o) u):=by
 have k:Below b U (U.setCell (O b o) u):=(Br _ _).setCell (by simp) _;exact⟨k.os.trans h.os,k.tape.trans h.tape,k.output.trans h.output,(by simp:(U.setCell (O b o) u).heap.size=U.heap.size).trans h.size,λb' a=>(BS a _).trans (h.blk b' a)⟩
theorem Chg.below {b n:Nat}{w U:qW}(h:Chg b w U)(a:n<=b):Below n w U:=⟨h.os,h.tape,h.output,Nat.le_of_eq h.size.symm,λb' c=>h.blk b' (by omega)⟩
theorem Chg.keeps {b:Nat}{w U:qW}(h:Chg b w U){P:Nat->Prop}(a:¬ P b):Keeps P w U:=Keeps.of_block λb' c _=>h.blk b' (by intro e;subst e;exact a c)
theorem Chg.held {b:Nat}{w U:qW}(h:Chg b w U){b':Nat}{o:Obj}(a:w.heap[b']?=some o)(c:b'≠b):U.heap[b']?=some o:=by rw[h.blk b' c];exact a
theorem xsq {w:qW}{b:Nat}{x y z:Value}{t:TypeId}(h:w.heap[b]?=some (qC #[x,y,z] t (0,0)))(u0 u1 u2:Value):(((w.setCell (O b 0) u0).setCell (O b 1) u1).setCell (O b 2) u2).heap[b]?=some (qC #[u0,u1,u2] t (0,0))/\Chg b w (((w.setCell (O b 0) u0).setCell (O b 1) u1).setCell (O b 2) u2):=
 ⟨by rw[BW (BW (BW h _) _) _];rfl,(((Chg.refl _ _).set _ _).set _ _).set _ _⟩
theorem Fz {w:qW}{b:Nat}{x y z a:Value}{t:TypeId}(h:w.heap[b]?=some (qC #[x,y,z,a] t (0,0)))(u0 u1 u2 u3:Value):((((w.setCell (O b 0) u0).setCell (O b 1) u1).setCell (O b 2) u2).setCell (O b 3) u3).heap[b]?=some (qC #[u0,u1,u2,u3] t (0,0))/\Chg b w ((((w.setCell (O b 0) u0).setCell (O b 1) u1).setCell (O b 2) u2).setCell (O b 3) u3):=
 ⟨by rw[BW (BW (BW (BW h _) _) _) _];rfl,((((Chg.refl _ _).set _ _).set _ _).set _ _).set _ _⟩
theorem Kk {w:qW}{b:Nat}{x y z:Value}{t:TypeId}(h:w.heap[b]?=some (qC #[x,y,z] t (0,0))):(∀o,w.frozen? (O b o)=false)/\w.cell? (O b 0)=some x/\w.cell? (O b 1)=some y/\w.cell? (O b 2)=some z:=by
 refine⟨BN h,?_,?_,?_⟩<;>(rw[Bn h];rfl)
theorem Ec {w:qW}{b:Nat}{x y z a:Value}{t:TypeId}(h:w.heap[b]?=some (qC #[x,y,z,a] t (0,0))):(∀o,w.frozen? (O b o)=false)/\w.cell? (O b 0)=some x/\w.cell? (O b 1)=some y/\w.cell? (O b 2)=some z/\w.cell? (O b 3)=some a:=by
 refine⟨BN h,?_,?_,?_,?_⟩<;>(rw[Bn h];rfl)
structure BxR (sb:Nat)(cv hv:Value)(ep:Int)(lv tv sv:Value)(n:Nat)(v:QV)(name:ByteArray)(av:Value)(w':qW):Prop where
 box:w'.heap[sb]?=some (DR cv hv ep lv tv sv)
 cl:w'.heap[n]?=some (qC #[J v.k,J v.n,qZ name,av] 54 (0,0))
 re:w'.heap[n+1]?=some (qR)
theorem BxR.later {sb:Nat}{cv hv:Value}{ep:Int}{lv tv sv:Value}{n:Nat}{v:QV}{name:ByteArray}{av:Value}{w' w'':qW}(h:BxR sb cv hv ep lv tv sv n v name av w')(a:qY w' w''):BxR sb cv hv ep lv tv sv n v name av w'':=⟨Bs h.box a,Bs h.cl a,Bs h.re a⟩
abbrev FZ (sb:Nat)(cv hv:Value)(ep:Int)(lv tv sv:Value)(w':qW):Prop:=w'.cell? (O sb 0)=some cv/\w'.cell? (O sb 1)=some hv/\w'.cell? (O sb 2)=some (J ep)/\w'.cell? (O sb 3)=some lv/\w'.cell? (O sb 4)=some tv/\w'.cell? (O sb 5)=some sv
theorem Fc {sb:Nat}{cv hv:Value}{ep:Int}{lv tv sv:Value}{w':qW}(h:w'.heap[sb]?=some (DR cv hv ep lv tv sv)):FZ sb cv hv ep lv tv sv w':=by
 refine⟨?_,?_,?_,?_,?_,?_⟩<;>(rw[Bn h];rfl)
theorem xsI {n:Nat}{v:QV}{name:ByteArray}{av:Value}{w':qW}(h:w'.heap[n]?=some (qC #[J v.k,J v.n,qZ name,av] 54 (0,0))):w'.cell? (O n 0)=some (J v.k)/\w'.cell? (O n 1)=some (J v.n)/\w'.cell? (O n 2)=some (qZ name)/\w'.cell? (O n 3)=some av:=by
 refine⟨?_,?_,?_,?_⟩<;>(rw[Bn h];rfl)
theorem BxR.al {sb:Nat}{cv hv:Value}{ep:Int}{lv tv sv:Value}{n:Nat}{v:QV}{name:ByteArray}{av:Value}{w':qW}(h:BxR sb cv hv ep lv tv sv n v name av w'):FZ sb cv hv ep lv tv sv w'/\w'.cell? (O n 0)=some (J v.k)/\w'.cell? (O n 1)=some (J v.n)/\w'.cell? (O n 2)=some (qZ name)/\w'.cell? (O n 3)=some av:=⟨Fc h.box,xsI h.cl⟩
theorem PP {w:qW}{sb:Nat}{cv hv:Value}{ep:Int}{lv tv sv:Value}(h:w.heap[sb]?=some (DR cv hv ep lv tv sv))(u0 u1:Value)(a:Int):(((w.setCell (O sb 0) u0).setCell (O sb 1) u1).setCell (O sb 2) (J a)).heap[sb]?=some (DR u0 u1 a lv tv sv)/\Chg sb w (((w.setCell (O sb 0) u0).setCell (O sb 1) u1).setCell (O sb 2) (J a)):=
 ⟨by rw[BW (BW (BW h _) _) _];rfl,(((Chg.refl _ _).set _ _).set _ _).set _ _⟩
structure ArF (sb rb:Nat)(w wc F:qW):Prop where
 kp:Kp (λt=>t=3) (Gd sb) w F
 keeps:∀P:Nat->Prop,(∀b,P b->b≠sb/\b≠rb)->Keeps P wc F
theorem NK {sb rb:Nat}{w wc Y Z F:qW}(c:qY w wc)(a:Chg sb wc Y)(f:qY Y Z)(d:Chg rb Z F)(k:w.heap.size<=rb):ArF sb rb w wc F where
 kp:=⟨d.os.trans (f.os.trans (a.os.trans c.os)),d.tape.trans (f.tape.trans (a.tape.trans c.tape)),d.output.trans (f.output.trans (a.output.trans c.output)),by have a1:=c.size;have a2:=a.size;have a3:=f.size;have a4:=d.size;omega,λb g h=>by
  have i:b≠sb:=λe=>h (by rw[e];exact xgK sb);have a1:=c.size;have a2:=a.size;rw[d.blk b (by omega),f.block b (by omega),a.blk b i,c.block b g]⟩
 keeps P hP:=Keeps.of_block λb g j=>by
  have a2:=a.size;rw[d.blk b (hP b g).2,f.block b (by omega),a.blk b (hP b g).1]
abbrev StV (x:StE)(mv av:Value):Value:=.agg #[J x.kind,qZ x.name,J x.cls,J x.slots,qZ x.meth.name,J x.meth.args,J x.meth.temps,J x.meth.prim,mv,J x.sf.k,J x.sf.n,qZ x.cname,av]
abbrev Hf (cv hv:Value)(ep:Int)(lv tv sv:Value):Value:=.agg #[cv,hv,J ep,lv,tv,sv]
structure NamesOk (x:StE):Prop where
 n:x.name.size<=140737488351232
 m:x.meth.name.size<=140737488351232
 c:x.cname.size<=140737488351232
def xrV:CT StE:=λP w f x=>f 0=some (J x.kind)/\f 1=some (qZ x.name)/\f 2=some (J x.cls)/\f 3=some (J x.slots)/\f 4=some (qZ x.meth.name)/\f 5=some (J x.meth.args)/\f 6=some (J x.meth.temps)/\f 7=some (J x.meth.prim)/\f 9=some (J x.sf.k)/\f 10=some (J x.sf.n)/\f 11=some (qZ x.cname)/\NamesOk x/\∃v u,f 8=some v/\Cm P w v x.meth.code/\f 12=some u/\CG P w u x.args
theorem MG:Good xrV 13 where
 move h hl hk hf:=by
  obtain⟨f,d,l,o,e,i,g,n,j,c,a,q,v,u,m,hv,b,p⟩:=h;exact⟨hf 0 Zo _ f,hf 1 Zo _ d,hf 2 Zo _ l,hf 3 Zo _ o,hf 4 Zo _ e,hf 5 Zo _ i,hf 6 Zo _ g,hf 7 Zo _ n,hf 9 Zo _ j,hf 10 Zo _ c,hf 11 Zo _ a,q,v,u,hf 8 Zo _ m,hv.keep BR hk hl,hf 12 Zo _ b,p.keep BZ hk hl⟩
 there h k hk:=by
  obtain⟨f,d,l,o,e,i,g,n,j,c,a,q,v,u,m,hv,b,p⟩:=h
  match k,hk with
  | 0,_=>exact⟨_,f,rfl⟩
  | 1,_=>exact⟨_,d,rfl⟩
  | 2,_=>exact⟨_,l,rfl⟩
  | 3,_=>exact⟨_,o,rfl⟩
  | 4,_=>exact⟨_,e,rfl⟩
  | 5,_=>exact⟨_,i,rfl⟩
  | 6,_=>exact⟨_,g,rfl⟩
  | 7,_=>exact⟨_,n,rfl⟩
  | 8,_=>exact⟨_,m,Mx hv⟩
  | 9,_=>exact⟨_,j,rfl⟩
  | 10,_=>exact⟨_,c,rfl⟩
  | 11,_=>exact⟨_,a,rfl⟩
  | 12,_=>exact⟨_,b,Mx p⟩
 pos:=by omega
abbrev Ps:=IsRow xrV 13 160
def Nc:CT ReE:=λ_ _ f x=>f 0=some (J x.err)/\f 1=some (J x.n)/\f 2=some (J x.v.k)/\f 3=some (J x.v.n)
theorem Nt:Good Nc 4 where
 move h _ _ hf:=⟨hf 0 Zo _ h.1,hf 1 Zo _ h.2.1,hf 2 Zo _ h.2.2.1,hf 3 Zo _ h.2.2.2⟩
 there h k hk:=by
  obtain⟨a,b,c,d⟩:=h
  match k,hk with
  | 0,_=>exact⟨_,a,rfl⟩
  | 1,_=>exact⟨_,b,rfl⟩
  | 2,_=>exact⟨_,c,rfl⟩
  | 3,_=>exact⟨_,d,rfl⟩
 pos:=by omega
abbrev xhg:=IsRow Nc 4 32
end Go.Proofs.YtbafokihegegiaaGreatDoor
