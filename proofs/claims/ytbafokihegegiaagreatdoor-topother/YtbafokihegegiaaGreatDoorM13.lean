/- A part. -/
import Derived.Test.YtbafokihegegiaaGreatDoorM12
namespace Go.Proofs.YtbafokihegegiaaGreatDoor
open Go.ChangeShapes Go.WideShapes Go.ChangeAt Go.RowKit
set_option linter.unusedSimpArgs false
set_option linter.unusedVariables false
set_option maxHeartbeats 8000000
set_option maxRecDepth 8000
def xcA (X:QW)(c k:Int)(sites:List Int):Fst × Bool:=match xaz X.cz c k with
 | none=>(xdK,false)
 | some m=>xcr X c m sites
theorem xkz {P Q:Nat->Prop}(X:QW)(c k:Int)(hm:xaz X.cz c k=none)(sites:List Int)(cv hv sv:Value)(w:World)(hC:xag P w cv X.cz)(hH:xav P w hv X.heap)(hS:xfp Q w sv sites) :
  Calls Tryz.prog 114 #[WV cv hv X.ez,.int .i64 c,.int .i64 k,sv] w fun e w'=>xki w (xdK,false) e w':=by
 obtain⟨ac,cc,rfl,-,hcc,-,-⟩:=id hC;obtain⟨ah,ch,rfl,-⟩:=id hH;have hbW:=xbp w (.cells #[.slice ac X.cz.length cc,.slice ah X.heap.length ch,.int .i64 X.ez] 26) (.cells #[.int .i64 0,.string ⟨#[]⟩,.int .i64 0,.int .i64 0,.slice none 0 0] 187);go_enter Tryz.func114,Tryz.ntmps114;go_wp2_with fail;refine (xls X c k _ _ _ (hC.later xax hbW) (hH.later xaB hbW)).mono ?_;rintro e w1 ⟨rfl,hb1⟩;rw[show xg1 X.cz c k=none from hm]
 dsimp only;have hB1:=xaf hbW hb1;have zz:=xow w (.slice ac X.cz.length cc) (.slice ah X.heap.length ch) X.ez;replace zz:=zz.later hb1;obtain⟨k0,k1,k2,q0,q1,q2,q3,q4,qf,hzz⟩:=id zz;have HQ:=xcE (xnS (U:=w1) hB1);go_wp2;refine bodyPost_ret (v:=.tuple #[FsV xdK (.slice none 0 0),.bool false]) ?_ rfl HQ.out
 simp[results,Tryz.results114,go_sem,q0,q1,q2,q3,q4,xdK]
theorem xeB {P Q:Nat->Prop}(X:QW)(hX:xau X=0)(c k:Int)(sites:List Int)(cv hv sv:Value)(w:World)(hC:xag P w cv X.cz)(hH:xav P w hv X.heap)(hS:xfp Q w sv sites) :
  Calls Tryz.prog 114 #[WV cv hv X.ez,.int .i64 c,.int .i64 k,sv] w fun e w'=>xki w (xcA X c k sites) e w':=by
 unfold xcA
 cases hm:xaz X.cz c k with
 | none=>exact xkz X c k hm sites cv hv sv w hC hH hS
 | some m=>exact xlc X hX c k m hm sites cv hv sv w hC hH hS
def xj0 (xs:List QC)(c k:Int):Option QM:=(xa8 xs c).bind fun x=>if 0<=k then x.mz[k.toNat]? else none
theorem xhR {xs:List QC}{c k:Int}{m:QM}(h:xj0 xs c k=some m):∃ (q t:Nat) (x:QC),c=(q:Int)/\k=(t:Int)/\xs[q]?=some x/\x.mz[t]?=some m:=by
 unfold xj0 at h
 cases hx:xa8 xs c with
 | none=>rw[hx] at h;cases h
 | some x=>
  rw[hx] at h;obtain⟨q,rfl,hq⟩:=xa5 hx;simp only[Option.bind_some] at h
  split at h
  ·rename_i hk
   exact⟨q,k.toNat,x,rfl,by omega,hq,h⟩
  ·cases h
theorem xpa {xs:List QC}{c k:Int}(h:xj0 xs c k=none):c<0\/(xs.length:Int)<=c\/∃ (q:Nat) (x:QC),c=(q:Int)/\xs[q]?=some x/\(k<0\/(x.mz.length:Int)<=k):=by
 unfold xj0 at h
 cases hx:xa8 xs c with
 | none=>
  have:=xd3 (xs:=xs) (c:=c);rw[hx] at this
  simp[xc3] at this
  omega
 | some x=>
  rw[hx] at h;obtain⟨q,rfl,hq⟩:=xa5 hx;simp only[Option.bind_some] at h
  right;right
  refine⟨q,x,rfl,hq,?_⟩
  by_cases hk:0<=k
  ·rw[if_pos hk] at h;have:=List.getElem?_eq_none_iff.1 h
   omega
  ·omega
def xqp (X:QW)(t:List QT)(c:Int)(m:QM)(j:Nat)(i:QI):Int:=if i.op == 14 then xhz X t ⟨c,m.name,j⟩ i.name i.a else -1
def xbz (X:QW)(t:List QT)(c k:Int):List Int:=match xj0 X.cz c k with
 | some m=>m.code.mapIdx (xqp X t c m)
 | none=>[]
theorem xpc {P:Nat->Prop}(X:QW)(c k:Int)(cv hv:Value)(w:World)(hC:xag P w cv X.cz)(hH:xav P w hv X.heap):Calls Tryz.prog 155 #[WV cv hv X.ez,.int .i64 c,.int .i64 k] w fun e w'=>e=.returned (.bool (xj0 X.cz c k).isSome)/\Below w.heap.size w w':=by
 obtain⟨ad,cap,rfl,hl,hcap,-,hrow⟩:=hC;obtain⟨ah,ch,rfl,-⟩:=hH
 cases hm:xj0 X.cz c k with
 | none=>
  rcases xpa hm with h | h | ⟨q,x,rfl,hx,h⟩
  ·have hd:decide (0<=c)=false:=by simpa using h
   clear hrow;go_enter Tryz.func155,Tryz.ntmps155;go_wp2
   go_ret
   exact⟨rfl,xai _ _⟩
  ·have hd:decide (c<(X.cz.length:Int))=false:=by simpa using h
   have hd0:decide (0<=c)=true:=by simp;omega
   clear hrow;go_enter Tryz.func155,Tryz.ntmps155;go_wp2
   go_ret
   exact⟨rfl,xai _ _⟩
  ·have hq:=xad hx;have hq0:(0:Int)<=(q:Int):=by omega
   have hq1:(q:Int)<(X.cz.length:Int):=by omega
   obtain⟨b,o,rfl,-,-,-,-,-,mv,hv3,hms⟩:=hrow q x hx;obtain⟨am,cm,rfl,-⟩:=hms;have k3:=fun y=>qzA (xai w y) hv3
   clear hrow hx hm
   by_cases h0:k<0
   ·have hd:decide (0<=k)=false:=by simpa using h0
    go_enter Tryz.func155,Tryz.ntmps155;go_wp2
    go_ret
    exact⟨rfl,xai _ _⟩
   ·have hd0:decide (0<=k)=true:=by simp;omega
    have hd:decide (k<(x.mz.length:Int))=false:=by simp;omega
    go_enter Tryz.func155,Tryz.ntmps155;go_wp2
    go_ret
    exact⟨rfl,xai _ _⟩
 | some m=>
  obtain⟨q,t,x,rfl,rfl,hx,hy⟩:=xhR hm;have hq:=xad hx;have ht:=xad hy;have hq0:(0:Int)<=(q:Int):=by omega
  have hq1:(q:Int)<(X.cz.length:Int):=by omega
  have ht0:(0:Int)<=(t:Int):=by omega
  have ht1:(t:Int)<(x.mz.length:Int):=by omega
  obtain⟨b,o,rfl,-,-,-,-,-,mv,hv3,hms⟩:=hrow q x hx;obtain⟨am,cm,rfl,-⟩:=hms;have k3:=fun y=>qzA (xai w y) hv3
  clear hrow hx hm hy;go_enter Tryz.func155,Tryz.ntmps155;go_wp2
  go_ret
  exact⟨rfl,xai _ _⟩
theorem xo8 {P:Nat->Prop}(p4 p5 p6 p9:Value)(f:Nat->QI->Int)(xs:List QI)(v:Value)(w:World)(hh:xaG P w v xs)
  (hF:∀ (j:Nat) (x:QI) (w':World),Below w.heap.size w w'->Calls Tryz.prog 157 #[.int .i64 j,IV x,p4,p5,p6,p9] w' fun e w''=>e=.returned (.int .i64 (f j x))/\Below w'.heap.size w' w'') :
  Calls Tryz.prog 156 #[v,.func (.func 157) #[] #[p4,p5,p6,p9]] w fun e w'=>e=.returned (.slice (some ⟨w.heap.size,0,none⟩) xs.length xs.length)/\w'.heap[w.heap.size]?=some (xew (xs.mapIdx fun j x=>if x.op == 14 then f j x else -1))/\Below w.heap.size w w':=by
 obtain⟨ad,cap,rfl,hl,hcap,hby,hrow⟩:=hh;have hmk:=xgW xs.length (by omega)
 have hb0:=xai w (xew (List.replicate xs.length 0));have hg0:=heap_alloc_new w (xew (List.replicate xs.length 0));go_enter Tryz.func156,Tryz.ntmps156;go_wp2
 go_loopg [13] xs.length (fun g c wr=>∃ (j:Nat) (h:List Int),j+g=xs.length/\c=.int .i64 j/\h.length=xs.length/\(∀ i y,i<j->xs[i]?=some y->h[i]?=some (if y.op == 14 then f i y else -1))/\wr.heap[w.heap.size]?=some (xew h)/\Below w.heap.size w wr)
 case atStart=>exact⟨0,List.replicate xs.length 0,by omega,rfl,by simp,fun i y hi=>by omega,hg0,hb0⟩
 case round=>
  obtain⟨j,h,hj,rfl,hlen,hno,hg,hbel⟩:=hrel;have HN:Hid (∀ i y,i<j->xs[i]?=some y->h[i]?=some (if y.op == 14 then f i y else -1)):=hno;clear hno hg0 hb0
  by_cases hlt:j<xs.length
  ·obtain⟨b,o,rfl,-,hv0,hv1,hv2,hv3,hv4,hsz⟩:=hrow j xs[j] (by simp[hlt])
   have hxj:Hid (xs[j]?=some xs[j]):=by show _=_;simp[hlt]
   generalize xs[j]=x at *;simp only[Nat.add_zero] at hv0;have u0:=qzA hbel hv0;have u1:=qzA hbel hv1;have u2:=qzA hbel hv2;have u3:=qzA hbel hv3;have u4:=qzA hbel hv4;clear hv0 hv1 hv2 hv3 hv4 hrow;have hj1:(j:Int)<(xs.length:Int):=by omega
   have hj0:(0:Int)<=(j:Int):=by omega
   have hbx:=xai wr (Obj.cells #[Value.int .i64 x.op,Value.int .i64 x.a,Value.int .i64 x.b,Value.int .i64 x.c,Value.string x.name] 69);have hg1:(wr.alloc (Obj.cells #[Value.int .i64 x.op,Value.int .i64 x.a,Value.int .i64 x.b,Value.int .i64 x.c,Value.string x.name] 69)).heap[w.heap.size]?=some (xew h):=by rw[hbx.block _ (xam hg)];exact hg
   have hgl:=xam hg;have gc:=xfj hg1 (k:=j) (by omega)
   have gf:=xe2 hg1 j;have n0:(wr.alloc (Obj.cells #[Value.int .i64 x.op,Value.int .i64 x.a,Value.int .i64 x.b,Value.int .i64 x.c,Value.string x.name] 69)).cell? ⟨wr.heap.size,0,none⟩=some (.int .i64 x.op):=by rw[xab _ _ _ _ rfl];rfl
   have n1:(wr.alloc (Obj.cells #[Value.int .i64 x.op,Value.int .i64 x.a,Value.int .i64 x.b,Value.int .i64 x.c,Value.string x.name] 69)).cell? ⟨wr.heap.size,1,none⟩=some (.int .i64 x.a):=by rw[xab _ _ _ _ rfl];rfl
   have n2:(wr.alloc (Obj.cells #[Value.int .i64 x.op,Value.int .i64 x.a,Value.int .i64 x.b,Value.int .i64 x.c,Value.string x.name] 69)).cell? ⟨wr.heap.size,2,none⟩=some (.int .i64 x.b):=by rw[xab _ _ _ _ rfl];rfl
   have n3:(wr.alloc (Obj.cells #[Value.int .i64 x.op,Value.int .i64 x.a,Value.int .i64 x.b,Value.int .i64 x.c,Value.string x.name] 69)).cell? ⟨wr.heap.size,3,none⟩=some (.int .i64 x.c):=by rw[xab _ _ _ _ rfl];rfl
   have n4:(wr.alloc (Obj.cells #[Value.int .i64 x.op,Value.int .i64 x.a,Value.int .i64 x.b,Value.int .i64 x.c,Value.string x.name] 69)).cell? ⟨wr.heap.size,4,none⟩=some (.string x.name):=by rw[xab _ _ _ _ rfl];rfl
   have hbw:=xaf hbel hbx
   go_upto_region 5 with (fail)
   generalize hbb:wr.heap.size=bi at *;generalize (wr.alloc (Obj.cells #[Value.int .i64 x.op,Value.int .i64 x.a,Value.int .i64 x.b,Value.int .i64 x.c,Value.string x.name] 69))=W1 at *;have hne:bi≠w.heap.size:=by omega
   clear hbx u0 u1 u2 u3 u4 hg hbel hbb;have hg2:=xfi hg1 j (-1);have m0:=(World.cell?_setCell_other W1 ⟨w.heap.size,j,none⟩ ⟨bi,0,none⟩ (.int .i64 (-1)) (by simp[hne])).trans n0
   have m1:=(World.cell?_setCell_other W1 ⟨w.heap.size,j,none⟩ ⟨bi,1,none⟩ (.int .i64 (-1)) (by simp[hne])).trans n1
   have m2:=(World.cell?_setCell_other W1 ⟨w.heap.size,j,none⟩ ⟨bi,2,none⟩ (.int .i64 (-1)) (by simp[hne])).trans n2
   have m3:=(World.cell?_setCell_other W1 ⟨w.heap.size,j,none⟩ ⟨bi,3,none⟩ (.int .i64 (-1)) (by simp[hne])).trans n3
   have m4:=(World.cell?_setCell_other W1 ⟨w.heap.size,j,none⟩ ⟨bi,4,none⟩ (.int .i64 (-1)) (by simp[hne])).trans n4
   have hb2:Below w.heap.size w (W1.setCell ⟨w.heap.size,j,none⟩ (.int .i64 (-1))):=hbw.setCell (qzC _) _
   go_upto_region 6 with (fail)
   generalize (W1.setCell { block:=w.heap.size,off:=j } (Value.int .i64 (-1)))=W2 at *;clear n0 n1 n2 n3 n4 hg1 gc gf hbw
   have HQ:Hid (∀ v:Int,v=(if x.op == 14 then f j x else -1)->∀ i y,i<j+1->xs[i]?=some y->((h.set j (-1)).set j v)[i]?=some (if y.op == 14 then f i y else -1)):=fun v hv i y hi hy=>by
    by_cases hij:i=j
    ·subst hij;rw[hxj.out] at hy;cases hy;rw[hv]
     simp[hlen,hlt]
    ·rw[List.getElem?_set_ne (by omega),List.getElem?_set_ne (by omega)]
     exact HN.out i y (by omega) hy
   by_cases h14:x.op=14
   ·have hd:(x.op == 14)=true:=by simpa using h14
    have HV:Hid (∀ i y,i<j+1->xs[i]?=some y->((h.set j (-1)).set j (f j x))[i]?=some (if y.op == 14 then f i y else -1)):=HQ.out _ (by rw[hd];simp)
    clear h14 HQ HN;go_wp2_with fail;refine (hF j x _ hb2).mono ?_;rintro e w3 ⟨rfl,hb3⟩;have hg3:w3.heap[w.heap.size]?=some (xew (h.set j (-1))):=by rw[hb3.block _ (xam hg2)];exact hg2
    have gc:=xfj hg3 (k:=j) (by simp;omega)
    have gf:=xe2 hg3 j;have hg4:=xfi hg3 j (f j x);have hb4:Below w.heap.size w (w3.setCell ⟨w.heap.size,j,none⟩ (.int .i64 (f j x))):=(xaf hb2 hb3).setCell (qzC _) _;clear hg2 m0 m1 m2 m3 m4 hb3;go_wp2
    go_roundg (gk-1)
    case measure=>omega
    case rel=>exact⟨j+1,_,by omega,by go_num,by simp;exact hlen,HV.out,hg4,hb4⟩
   ·have hd:(x.op == 14)=false:=by simpa using h14
    have HV:Hid (∀ i y,i<j+1->xs[i]?=some y->(h.set j (-1))[i]?=some (if y.op == 14 then f i y else -1)):=by
     have:=HQ.out (-1) (by rw[hd];simp)
     rw[List.set_set] at this
     exact this
    clear h14 HQ HN;go_wp2
    go_roundg (gk-1)
    case measure=>omega
    case rel=>exact⟨j+1,_,by omega,by go_num,by simp;exact hlen,HV.out,hg2,hb2⟩
  ·obtain rfl:j=xs.length:=by omega
   go_wp2
   go_ret
   refine⟨rfl,?_,hbel⟩;rw[hg]
   congr 3
   refine List.ext_getElem? fun i=>?_
   by_cases hi:i<xs.length
   ·have hx:xs[i]?=some xs[i]:=by simp[hi]
    rw[HN.out i _ hi hx]
    simp[hi]
   ·rw[List.getElem?_eq_none (by omega),List.getElem?_eq_none (by simp;omega)]
theorem xmR {P P2:Nat->Prop}(X:QW)(t:List QT)(c:Int)(m:QM)(j:Nat)(x:QI)(b0 b1 b2 b3:Nat)(cv hv tv:Value)(w:World)(hC:xag P w cv X.cz)(hH:xav P w hv X.heap)(hT:xaI P2 w tv t)
  (k0:w.cell? ⟨b0,0,none⟩=some cv) (k1:w.cell? ⟨b0,1,none⟩=some hv) (k2:w.cell? ⟨b0,2,none⟩=some (.int .i64 X.ez)) (k3:w.cell? ⟨b1,0,none⟩=some tv) (k4:w.cell? ⟨b2,0,none⟩=some (.int .i64 c)) (k5:w.cell? ⟨b3,0,none⟩=some (.string m.name)) :
  Calls Tryz.prog 157 #[.int .i64 j,IV x,.pointer (some ⟨b0,0,none⟩),.pointer (some ⟨b1,0,none⟩),.pointer (some ⟨b2,0,none⟩),.pointer (some ⟨b3,0,none⟩)] w fun e w'=>e=.returned (.int .i64 (xhz X t ⟨c,m.name,j⟩ x.name x.a))/\Below w.heap.size w w':=by
 obtain⟨ad,cap,rfl,-⟩:=id hC;obtain⟨ah,ch,rfl,-⟩:=id hH;obtain⟨at',ct,rfl,-⟩:=id hT;have k0':=fun y=>qzA (xai w y) k0
 have k1':=fun y=>qzA (xai w y) k1
 have k2':=fun y=>qzA (xai w y) k2
 have k3':=fun y=>qzA (xai w y) k3
 have k4':=fun y=>qzA (xai w y) k4
 have k5':=fun y=>qzA (xai w y) k5
 clear k0 k1 k2 k3 k4 k5;go_enter Tryz.func157,Tryz.ntmps157;go_wp2_with fail;refine (xm7 X t ⟨c,m.name,j⟩ x.name x.a _ _ _ _ (hC.later xax (xai _ _)) (hH.later xaB (xai _ _)) (hT.later xbD (xai _ _))).mono ?_;rintro e w1 ⟨rfl,hb⟩;go_wp2
 go_ret
 exact⟨rfl,xbo (Below.refl _ _) hb⟩
structure SitB (w:World)(cv hv tv:Value)(ep c:Int)(w':World):Prop where
 k0:w'.cell? ⟨w.heap.size,0,none⟩=some cv
 k1:w'.cell? ⟨w.heap.size,1,none⟩=some hv
 k2:w'.cell? ⟨w.heap.size,2,none⟩=some (.int .i64 ep)
 k3:w'.cell? ⟨w.heap.size+1,0,none⟩=some tv
 k4:w'.cell? ⟨w.heap.size+1+1,0,none⟩=some (.int .i64 c)
 bel:Below w.heap.size w w'
theorem SitB.later {w:World}{cv hv tv:Value}{ep c:Int}{w' w'':World}(h:SitB w cv hv tv ep c w')(hb:Below w'.heap.size w' w''):SitB w cv hv tv ep c w'':=
 ⟨qzA hb h.k0,qzA hb h.k1,qzA hb h.k2,qzA hb h.k3,qzA hb h.k4,xaf h.bel hb⟩
theorem xpd (w:World)(cv hv tv:Value)(ep c:Int):SitB w cv hv tv ep c (((w.alloc (.cells #[cv,hv,.int .i64 ep] 26)).alloc (.cells #[tv] 28)).alloc (.cells #[.int .i64 c] 3)):=by
 refine⟨?_,?_,?_,?_,?_,xeQ _ _ _ _⟩
 ·exact qzA (xbp _ _ _) (by rw[xab _ _ _ _ rfl];rfl)
 ·exact qzA (xbp _ _ _) (by rw[xab _ _ _ _ rfl];rfl)
 ·exact qzA (xbp _ _ _) (by rw[xab _ _ _ _ rfl];rfl)
 ·exact qzA (xai _ _) (by rw[xab _ _ _ _ (by simp)];rfl)
 ·rw[xab _ _ _ _ (by simp)];rfl
theorem xjQ {P P2:Nat->Prop}(X:QW)(t:List QT)(c k:Int)(cv hv tv:Value)(w:World)(hC:xag P w cv X.cz)(hH:xav P w hv X.heap)(hT:xaI P2 w tv t) :
  Calls Tryz.prog 115 #[WV cv hv X.ez,tv,.int .i64 c,.int .i64 k] w fun e w'=>∃ a cap,e=.returned (.slice a (xbz X t c k).length cap)/\xfp (fun b=>w.heap.size<=b) w' (.slice a (xbz X t c k).length cap) (xbz X t c k)/\Below w.heap.size w w':=by
 have hm:=hmf;obtain⟨ad,cap,rfl,hl,hcap,-,hrow⟩:=id hC;obtain⟨ah,ch,rfl,-⟩:=id hH;obtain⟨at',ct,rfl,-⟩:=id hT;have hB:=xpd w (.slice ad X.cz.length cap) (.slice ah X.heap.length ch) (.slice at' t.length ct) X.ez c;go_enter Tryz.func115,Tryz.ntmps115
 go_upto_region 1 with (fail)
 generalize ((w.alloc (.cells #[.slice ad X.cz.length cap,.slice ah X.heap.length ch,.int .i64 X.ez] 26)).alloc (.cells #[.slice at' t.length ct] 28)).alloc (.cells #[.int .i64 c] 3)=W0 at *;have hC0:=hC.later xax hB.bel;have hH0:=hH.later xaB hB.bel;obtain⟨k0,k1,k2,k3,k4,hbel⟩:=id hB;go_wp2_with fail;refine (xpc X c k _ _ _ hC0 hH0).mono ?_;rintro e w1 ⟨rfl,hb1⟩;replace hB:=hB.later hb1;clear hb1 k0 k1 k2 k3 k4 hC0 hH0 hbel
 cases hmo:xj0 X.cz c k with
 | none=>
  have HS:Hid (xbz X t c k=[]):=by show _=_;simp[xbz,hmo]
  go_wp2
  go_ret
  refine⟨none,0,?_,?_,hB.bel⟩
  ·rw[HS.out];rfl
  ·rw[HS.out];exact xb9
 | some m=>
  have HS:Hid (xbz X t c k=m.code.mapIdx (xqp X t c m)):=by show _=_;simp[xbz,hmo]
  obtain⟨q,t',x,rfl,rfl,hx,hy⟩:=xhR hmo;clear hmo;have hq:=xad hx;have ht:=xad hy;obtain⟨b,o,rfl,-,-,-,-,-,mv,hv3,hms⟩:=hrow q x hx;obtain⟨am,cm,rfl,hlm,hcm,-,hrm⟩:=hms;obtain⟨b2,o2,rfl,-,y0,y1,y2,y3,-,sv,y4,hco⟩:=hrm t' m hy;obtain⟨ac,cc,rfl,hlc,hcc,hbyc,-⟩:=id hco;simp only[Nat.add_zero] at y0;have u3:=qzA hB.bel hv3;have z0:=qzA hB.bel y0;have z1:=qzA hB.bel y1;have z2:=qzA hB.bel y2;have z3:=qzA hB.bel y3;have z4:=qzA hB.bel y4;unfold maxLen at hcap hcm;have hq1:(q:Int)<(X.cz.length:Int):=by omega
  have hq0:(0:Int)<=(q:Int):=by omega
  have ht1:(t':Int)<(x.mz.length:Int):=by omega
  have ht0:(0:Int)<=(t':Int):=by omega
  obtain⟨k0,k1,k2,k3,k4,hbel⟩:=id hB;have hbx:=xai w1 (Obj.cells #[.string m.name,.int .i64 m.args,.int .i64 m.temps,.int .i64 m.prim,.slice ac m.code.length cc] 51);have n0:(w1.alloc (Obj.cells #[.string m.name,.int .i64 m.args,.int .i64 m.temps,.int .i64 m.prim,.slice ac m.code.length cc] 51)).cell? ⟨w1.heap.size,0,none⟩=some (.string m.name):=by rw[xab _ _ _ _ rfl];rfl
  have n4:(w1.alloc (Obj.cells #[.string m.name,.int .i64 m.args,.int .i64 m.temps,.int .i64 m.prim,.slice ac m.code.length cc] 51)).cell? ⟨w1.heap.size,4,none⟩=some (.slice ac m.code.length cc):=by rw[xab _ _ _ _ rfl];rfl
  go_upto_region 4 with (fail)
  replace hB:=hB.later hbx;generalize (w1.alloc (Obj.cells #[.string m.name,.int .i64 m.args,.int .i64 m.temps,.int .i64 m.prim,.slice ac m.code.length cc] 51))=W2 at *;generalize w1.heap.size=bm at *;have hcl:=hco.later xaU hB.bel;have hC2:=hC.later xax hB.bel;have hH2:=hH.later xaB hB.bel;have hT2:=hT.later xbD hB.bel;clear k0 k1 k2 k3 k4 hbx u3 z0 z1 z2 z3 z4 hrow hrm hx hy hv3 y0 y1 y2 y3 y4 hbel;go_wp2_with fail;refine (xo8 _ _ _ _ (fun j x=>xhz X t ⟨(q:Int),m.name,j⟩ x.name x.a) m.code _ _ hcl fun j x w' hb=>xmR X t (q:Int) m j x _ _ _ _ _ _ _ w' (hC2.later xax hb) (hH2.later xaB hb) (hT2.later xbD hb) (qzA hb hB.k0) (qzA hb hB.k1) (qzA hb hB.k2) (qzA hb hB.k3) (qzA hb hB.k4) (qzA hb n0)).mono ?_
  rintro e w3 ⟨rfl,hg,hb3⟩;have HL:Hid ((m.code.mapIdx fun j x=>if x.op == 14 then xhz X t ⟨(q:Int),m.name,j⟩ x.name x.a else -1)=xbz X t (q:Int) (t':Int)):=by show _=_;rw[HS.out];rfl
  rw[HL.out] at hg;have hlen:m.code.length=(xbz X t (q:Int) (t':Int)).length:=by rw[HS.out];simp
  go_wp2
  go_ret
  refine⟨some ⟨W2.heap.size,0,none⟩,m.code.length,by rw[hlen];rfl,?_,xaf hB.bel hb3⟩
  have:=hB.bel.size;have:=(xp7 (P:=fun b=>w.heap.size<=b) (w:=w3) (xbz X t (q:Int) (t':Int))).row (bytes:=8) (cap:=m.code.length) xrH (by omega) hg (by rw[List.take_of_length_le (by simp[xhW])];simp[xhW]) (by omega) (by omega) (by omega)
  exact this
def jmp (y:QI):Prop:=y.op=15\/y.op=16
theorem xiE (a:Int):∀ (n:Nat),∀ y∈xdh a n,y.op=11
 | 0,y,h=>by cases h
 | n+1,y,h=>by
  unfold xdh at h
  rcases List.mem_cons.1 h with rfl | h
  ·rfl
  ·exact xiE a n y h
theorem xkS (a:Int)(n:Nat):∀ y∈xcF a n,y.op=6\/y.op=11:=by
 intro y h;unfold xcF at h;rw[List.mem_flatMap] at h;obtain⟨k,-,h⟩:=h;simp only[List.mem_cons,List.not_mem_nil,or_false] at h
 rcases h with rfl | rfl
 ·exact Or.inl rfl
 ·exact Or.inr rfl
theorem xmW {leaf:QM}(hs:Sml leaf)(self args temps first behind:Int)(hf:0<=first)(hb:behind=first+leaf.code.length){x:QI}(hx:x∈leaf.code):(xaw self args temps first behind x).op≠18/\(jmp (xaw self args temps first behind x)->0<=(xaw self args temps first behind x).a/\(xaw self args temps first behind x).a<=behind):=by
 obtain⟨p1,p2,-⟩:=hs.plain x hx;have hj:=hs.jump x hx;unfold jmp xaw
 split
 ·exact⟨by simp,fun h=>by simp at h⟩
 ·split
  ·exact⟨by simp,fun h=>by simp at h⟩
  ·split
   ·rename_i h;exact⟨by simp;omega,fun h'=>by simp at h';omega⟩
   ·split
    ·exact⟨by simp,fun h=>by simp at h⟩
    ·split
     ·exact⟨by simp,fun h=>by simp at h⟩
     ·split
      ·rename_i h;have:=hj h;exact⟨by simp;omega,fun _=>by simp;omega⟩
      ·split
       ·exact⟨by simp,fun _=>by simp;omega⟩
       ·exact⟨by omega,fun h'=>by omega⟩
theorem xhS {leaf:QM}(hs:Sml leaf)(guard:QI)(self n:Int)(hn:0<=n):∀ y∈xbC leaf guard self n,y=guard\/(y.op≠18/\(jmp y->0<=y.a/\y.a<=n+(xbC leaf guard self n).length)):=by
 intro y hy;rw[xbK];have ha:=hs.args;have ht:=hs.temps;unfold xbC at hy
 rcases List.mem_append.1 hy with h | h
 ·unfold xf7 at h;simp only[List.mem_append,List.mem_cons,List.not_mem_nil,or_false] at h
  rcases h with ((((h | h) | h) | h) | h)
  ·exact Or.inl h
  ·subst h;exact Or.inr ⟨by simp,fun h=>by simp[jmp] at h⟩
  ·have:=xiE _ _ y h;exact Or.inr ⟨by omega,fun h=>by simp only[jmp] at h;omega⟩
  ·subst h;exact Or.inr ⟨by simp,fun h=>by simp[jmp] at h⟩
  ·have:=xkS _ _ y h;exact Or.inr ⟨by omega,fun h=>by simp only[jmp] at h;omega⟩
 ·obtain⟨x,hx,rfl⟩:=List.mem_map.1 h;obtain⟨g1,g2⟩:=xmW hs self (self+1) (self+1+leaf.args) (xbE leaf n) (xbE leaf n+leaf.code.length) (by unfold xbE;omega) rfl hx
  refine Or.inr ⟨g1,fun hj=>?_⟩
  have:=g2 hj;unfold xbE at *
  omega
theorem xpM (leaf:QM)(guard:QI)(self n:Int):guard∈xbC leaf guard self n:=by
 unfold xbC xf7;simp
structure BGood (sites:List Int)(m:QM)(k:Nat)(s:Bd):Prop where
 len:k<=s.code.length
 jump:∀ y∈s.code,jmp y->0<=y.a/\(y.a<=s.code.length\/y.a<=m.code.length)
 guard:∀ y∈s.code,y.op=18->∃ j:Nat,j<k/\y.c=j/\sites[j]?=some y.a
 one:0<s.pieces->∃ y∈s.code,y.op=18
 stay:∀ j x,m.code[j]?=some x->j<k->x.op≠14->∃ b:Nat,s.begins[j]?=Option.some (b:Int)/\s.code[b]?=Option.some x
theorem xrw {sites:List Int}{k:Nat}(h:0<=sites.getD k (-1)):sites[k]?=some (sites.getD k (-1)):=by
 rw[List.getD_eq_getElem?_getD] at h ⊢
 cases hs:sites[k]? with
 | none=>rw[hs] at h;simp at h
 | some v=>rfl
theorem xhU {X:QW}(h:xau X=0){sites:List Int}{m:QM}(hm:Sml m):∀ {k:Nat},k<=m.code.length->BGood sites m k (xah X.cz sites m k)
 | 0,_=>⟨Nat.zero_le _,fun y hy=>by simp[xah] at hy,fun y hy=>by simp[xah] at hy,fun h=>by simp[xah] at h,fun j x _ hj=>by omega⟩
 | k+1,hk=>by
  have ih:=xhU h hm (sites:=sites) (k:=k) (by omega)
  have hbl:=xbM (xs:=X.cz) (sites:=sites) (m:=m) (k:=k) (by omega)
  have hx:m.code[k]?=some m.code[k]:=List.getElem?_eq_getElem (by omega)
  have hxm:m.code[k]∈m.code:=List.getElem_mem _;rw[xbm hx];generalize xah X.cz sites m k=s at *;generalize m.code[k]=x at *
  have hold:∀ j y,m.code[j]?=some y->j<k->y.op≠14->∀ (e:List QI),∃ b:Nat,(s.begins++[(s.code.length:Int)])[j]?=some (b:Int)/\(s.code++e)[b]?=some y:=by
   intro j y hy hj ho e;obtain⟨b,h1,h2⟩:=ih.stay j y hy hj ho
   exact⟨b,by rw[List.getElem?_append_left (by omega)];exact h1,by rw[List.getElem?_append_left (xad h2)];exact h2⟩
  obtain⟨p1,p2,-⟩:=hm.plain x hxm;unfold xdP
  cases hw:xee X.cz sites m.code.length s.code.length s.temps k x with
  | none=>
   dsimp only;have hso:(xbn x (k:Int)).op=x.op:=by unfold xbn;split<;>rfl
   refine⟨by simp;exact ih.len,fun y hy hj=>?_,fun y hy ho=>?_,fun hp=>?_,fun j y hy hj ho=>?_⟩
   ·rcases List.mem_append.1 hy with h' | h'
    ·have:=ih.jump y h' hj;rw[List.length_append];simp;omega
    ·rw[List.mem_singleton] at h';subst h';have hj':x.op=15\/x.op=16:=by unfold jmp at hj;rw[hso] at hj;exact hj
     have e:xbn x (k:Int)=x:=by unfold xbn;rw[if_neg (by omega)]
     rw[e];have:=hm.jump x hxm hj'
     omega
   ·rcases List.mem_append.1 hy with h' | h'
    ·obtain⟨j,h1,h2⟩:=ih.guard y h' ho;exact⟨j,by omega,h2⟩
    ·rw[List.mem_singleton] at h';subst h';rw[hso] at ho;omega
   ·obtain⟨y,h1,h2⟩:=ih.one hp;exact⟨y,List.mem_append_left _ h1,h2⟩
   ·by_cases hjk:j<k
    ·exact hold j y hy hjk ho _
    ·have hjk':j=k:=by omega
     subst hjk';rw[hx] at hy;cases hy;have e:xbn x (j:Int)=x:=by unfold xbn;rw[if_neg ho]
     refine⟨s.code.length,?_,?_⟩
     ·rw[List.getElem?_append_right (by omega),hbl];simp
     ·rw[e,List.getElem?_append_right (qzC _)];simp
  | some leaf=>
   have hst:xaY X.cz sites k x=some leaf:=by
    unfold xee at hw
    split at hw
    ·cases hw
    ·rename_i l hl
     split at hw
     ·cases hw;exact hl
     ·cases hw
   obtain⟨hsm,-,-,ho14⟩:=xbA h hst
   have hsi:0<=sites.getD k (-1):=by
    unfold xaY at hst
    split at hst
    ·rename_i hh;exact hh.2
    ·cases hst
   dsimp only;have hpg:=xhS hsm (ins 18 (sites.getD k (-1)) leaf.args k) s.temps s.code.length (by omega)
   refine⟨by rw[List.length_append,xbK];have:=ih.len;omega,fun y hy hj=>?_,fun y hy ho=>?_,fun _=>⟨_,List.mem_append_right _ (xpM leaf _ _ _),rfl⟩,fun j y hy hj ho=>?_⟩
   ·rw[List.length_append]
    rcases List.mem_append.1 hy with h' | h'
    ·have:=ih.jump y h' hj;omega
    ·rcases hpg y h' with rfl | ⟨-,h2⟩
     ·simp[jmp] at hj
     ·have:=h2 hj;omega
   ·rcases List.mem_append.1 hy with h' | h'
    ·obtain⟨j,h1,h2⟩:=ih.guard y h' ho;exact⟨j,by omega,h2⟩
    ·rcases hpg y h' with rfl | ⟨h2,-⟩
     ·exact⟨k,by omega,rfl,xrw hsi⟩
     ·exact absurd ho h2
   ·by_cases hjk:j<k
    ·exact hold j y hy hjk ho _
    ·have hjk':j=k:=by omega
     subst hjk';rw[hx] at hy;cases hy
     exact absurd ho14 ho
theorem xh3 {l:List QI}{i:Nat}{f:QI->QI}{y:QI}(h:y∈l.modify i f):y∈l\/∃ z,l[i]?=some z/\y=f z:=by
 obtain⟨j,hj⟩:=List.mem_iff_getElem?.1 h;rw[List.getElem?_modify] at hj
 by_cases e:i=j
 ·subst e
  cases hz:l[i]? with
  | none=>rw[hz] at hj;simp at hj
  | some z=>rw[hz] at hj;simp at hj;exact Or.inr ⟨z,rfl,hj.symm⟩
 ·simp[e] at hj
  exact Or.inl (List.mem_iff_getElem?.2 ⟨j,hj⟩)
theorem xoG {begins:List Int}{plain code:List QI}:∀ k,(xdQ begins plain code k).map (·.op)=code.map (·.op)
 | 0=>rfl
 | k+1=>by
  unfold xdQ;have ih:=xoG (begins:=begins) (plain:=plain) (code:=code) k
  split
  ·split
   ·rename_i t _;rw[← ih]
    apply List.ext_getElem?
    intro i;simp only[List.getElem?_map,List.getElem?_modify]
    cases (xdQ begins plain code k)[i]? with
    | none=>rfl
    | some z=>simp;split<;>rfl
   ·exact ih
  ·exact ih
theorem xl3 {sites:List Int}{m:QM}{n:Nat}{s:Bd}(hs:BGood sites m n s)(hn:n=m.code.length)(hin:∀ b∈s.begins,0<=b/\b<(s.code.length:Int)):∀ k,k<=n->∀ y∈xdQ s.begins m.code s.code k,(jmp y->0<=y.a/\y.a<=s.code.length)/\(y.op=18->∃ j:Nat,j<n/\y.c=j/\sites[j]?=some y.a)
 | 0,_,y,hy=>by
  have hl:=hs.len;refine⟨fun hj=>?_,hs.guard y hy⟩
  have:=hs.jump y hy hj
  omega
 | k+1,hk,y,hy=>by
  have ih:=xl3 hs hn hin k (by omega)
  unfold xdQ at hy
  split at hy
  ·rename_i x b hx hb
   split at hy
   ·rename_i t ht
    rcases xh3 hy with h' | ⟨z,hz,rfl⟩
    ·exact ih y h'
    ·unfold xeO at ht
     split at ht
     ·rename_i hj;have hti:=hin t (List.mem_of_getElem? ht);obtain⟨b',hb',hc⟩:=hs.stay k x hx (by omega) (by omega)
      rw[hb] at hb';cases hb';have ho:=xoG (begins:=s.begins) (plain:=m.code) (code:=s.code) k;have ho':=congrArg (fun l=>l[b']?) ho
      simp only[List.getElem?_map] at ho';simp only[Int.toNat_natCast] at hz;rw[hz,hc] at ho'
      simp at ho'
      refine⟨fun _=>⟨hti.1,by dsimp only;omega⟩,fun h18=>?_⟩
      dsimp only at h18
      omega
     ·cases ht
   ·exact ih y hy
  ·exact ih y hy
theorem xnK {X:QW}(h:xau X=0){sites:List Int}{m:QM}(hm:Sml m){c:Int}(hok:(xcr X c m sites).2=true) :
  (xcr X c m sites).1.code.length<=240/\(xcr X c m sites).1.temps<=40/\(∀ y∈(xcr X c m sites).1.code,(jmp y->0<=y.a/\y.a<=(xcr X c m sites).1.code.length)/\(y.op=18->∃ j:Nat,j<m.code.length/\y.c=j/\sites[j]?=some y.a))/\∃ y∈(xcr X c m sites).1.code,y.op=18:=by
 have hg:=xhU h hm (sites:=sites) (qzC m.code.length);have hb:=xcv h hm (sites:=sites) (qzC m.code.length);have hi:=xi2 (xs:=X.cz) (sites:=sites) (m:=m) m.code.length;unfold xcr at hok ⊢;dsimp only at hok ⊢;generalize xah X.cz sites m m.code.length=s at *
 split at hok
 ·cases hok
 ·rename_i hp;rw[if_neg hp];dsimp only;rw[xdE];refine⟨by omega,hb.2.2.1,xl3 hg rfl hi _ (qzC _),?_⟩
  obtain⟨y,hy,ho⟩:=hg.one (by omega)
  have:y.op∈(xdQ s.begins m.code s.code m.code.length).map (·.op):=by rw[xoG];exact List.mem_map_of_mem hy
  obtain⟨z,hz,e⟩:=List.mem_map.1 this
  exact⟨z,hz,by rw[← ho];exact e⟩
def xeu (n:Int)(y:QI):QI:=if y.op=15\/y.op=16 then { y with a:=y.a+n } else y
theorem xc5 {n:Int}{y:QI}(h:¬ jmp y):xeu n y=y:=by unfold xeu;exact if_neg h
theorem xk1 (self args temps first behind n:Int)(x:QI):xeu n (xaw self args temps first behind x)=xaw self args temps (first+n) (behind+n) x:=by
 unfold xaw
 split
 ·exact xc5 (by simp[jmp])
 ·split
  ·exact xc5 (by simp[jmp])
  ·split
   ·rename_i h;exact xc5 (by simp only[jmp];omega)
   ·split
    ·exact xc5 (by simp[jmp])
    ·split
     ·exact xc5 (by simp[jmp])
     ·split
      ·rename_i h;unfold xeu;rw[if_pos (by simpa using h)]
       simp only[ins,QI.mk.injEq,true_and,and_true]
       omega
      ·split
       ·rfl
       ·rename_i h _;exact xc5 h
theorem xl8 (leaf:QM)(g:QI)(hg:g.op=18)(self n:Int):(xf7 leaf g self).map (xeu n)=xf7 leaf g self:=by
 refine (List.map_congr_left (g:=id) fun y hy=>?_).trans (List.map_id _)
 refine xc5 fun hj=>?_
 unfold xf7 at hy;simp only[List.mem_append,List.mem_cons,List.not_mem_nil,or_false] at hy;unfold jmp at hj
 rcases hy with ((((h | h) | h) | h) | h)
 ·subst h;omega
 ·subst h;simp at hj
 ·have:=xiE _ _ y h;omega
 ·subst h;simp at hj
 ·have:=xkS _ _ y h;omega
theorem xgB (leaf:QM)(g:QI)(hg:g.op=18)(self n:Int):(xbC leaf g self 0).map (xeu n)=xbC leaf g self n:=by
 unfold xbC;rw[List.map_append,xl8 leaf g hg,List.map_map]
 congr 1
 apply List.map_congr_left
 intro x _;simp only[Function.comp];rw[xk1];unfold xbE
 congr 1<;>omega
theorem xlg (o:List QI)(y:QI)(rest:List QI)(f:QI->QI):(o++([y]++rest)).modify o.length f=o++([f y]++rest):=by
 induction o with
 | nil=>simp
 | cons a o ih=>exact (List.modify_succ_cons f a _ _).trans (congrArg (a :: ·) ih)
def xcW (B:List Int)(y:QI):QI:=if y.op=15\/y.op=16 then { y with a:=B.getD y.a.toNat 0 } else y
def xhk (xs:List QC)(sites:List Int)(m:QM)(B:List Int):Nat->List QI
 | 0=>[]
 | k+1=>match m.code[k]? with
  | none=>xhk xs sites m B k
  | some x=>xhk xs sites m B k++match xee xs sites m.code.length (xah xs sites m k).code.length (xah xs sites m k).temps k x with
   | none=>[xcW B (xbn x k)]
   | some leaf=>(xbC leaf (ins 18 (sites.getD k (-1)) leaf.args k) (xah xs sites m k).temps 0).map (xeu (xah xs sites m k).code.length)
theorem xnW {X:QW}(h:xau X=0){sites:List Int}{m:QM}(hm:Sml m){B:List Int}(hl:B.length=m.code.length):∀ {k:Nat},k<=m.code.length->(∀ j,j<k->B[j]?=some ((xah X.cz sites m j).code.length:Int))->∀ rest,xdQ B m.code ((xah X.cz sites m k).code++rest) k=xhk X.cz sites m B k++rest
 | 0,_,_,rest=>rfl
 | k+1,hk,hB,rest=>by
  have ih:=xnW h hm hl (sites:=sites) (k:=k) (by omega) (fun j hj=>hB j (by omega))
  have hx:m.code[k]?=some m.code[k]:=List.getElem?_eq_getElem (by omega)
  have hxm:m.code[k]∈m.code:=List.getElem_mem _;have hb:=hB k (by omega)
  have hlen:(xhk X.cz sites m B k).length=(xah X.cz sites m k).code.length:=by
   have:=congrArg List.length (ih []);rw[xdE] at this
   simpa using this.symm
  rw[xbm hx];unfold xdQ xhk;rw[hx,hb];generalize m.code[k]=x at *;generalize xah X.cz sites m k=s at *;generalize xhk X.cz sites m B k=o at *;unfold xdP;simp only
  cases hw:xee X.cz sites m.code.length s.code.length s.temps k x with
  | none=>
   simp only[List.append_assoc];rw[ih]
   by_cases hj:x.op=15\/x.op=16
   ·have hjr:=hm.jump x hxm hj
    have ht:B[x.a.toNat]?=some (B.getD x.a.toNat 0):=by
     rw[List.getD_eq_getElem?_getD,List.getElem?_eq_getElem (by omega)];rfl
    have e:xbn x (k:Int)=x:=by unfold xbn;rw[if_neg (by omega)]
    have hle:xeO B x=some (B.getD x.a.toNat 0):=by unfold xeO;rw[if_pos ⟨hj,hjr.1⟩,ht]
    rw[hle,e];unfold xcW;rw[if_pos hj];simp only[Int.toNat_natCast];rw[← hlen,xlg]
   ·have hle:xeO B x=none:=by unfold xeO;rw[if_neg (fun h=>hj h.1)]
    rw[hle];unfold xcW;have hso:(xbn x (k:Int)).op=x.op:=by unfold xbn;split<;>rfl
    rw[if_neg (by rw[hso];exact hj)]
  | some leaf=>
   have hst:xaY X.cz sites k x=some leaf:=by
    unfold xee at hw
    split at hw
    ·cases hw
    ·rename_i l hl
     split at hw
     ·cases hw;exact hl
     ·cases hw
   obtain⟨-,-,-,ho14⟩:=xbA h hst;have hle:xeO B x=none:=by unfold xeO;rw[if_neg (by omega)]
   simp only[List.append_assoc];rw[hle,ih,xgB _ _ rfl]
theorem xhc {xs:List QC}{sites:List Int}{m:QM}:∀ {k:Nat},k<=m.code.length->∀ j,j<k->(xah xs sites m k).begins[j]?=some ((xah xs sites m j).code.length:Int)
 | 0,_,j,hj=>by omega
 | k+1,hk,j,hj=>by
  have hl:=xbM (xs:=xs) (sites:=sites) (m:=m) (k:=k) (by omega)
  rw[xbm (List.getElem?_eq_getElem (by omega)),xeN]
  by_cases hjk:j<k
  ·rw[List.getElem?_append_left (by omega)];exact xhc (by omega) j hjk
  ·have:j=k:=by omega
   subst this;rw[List.getElem?_append_right (by omega),hl];simp
theorem xpC {X:QW}(h:xau X=0){sites:List Int}{m:QM}(hm:Sml m):xdQ (xah X.cz sites m m.code.length).begins m.code (xah X.cz sites m m.code.length).code m.code.length=xhk X.cz sites m (xah X.cz sites m m.code.length).begins m.code.length:=by
 have:=xnW h hm (sites:=sites) (B:=(xah X.cz sites m m.code.length).begins) (xbM (qzC _)) (qzC _) (xhc (qzC _)) []
 simpa using this
section
variable (xs:List QC) (sites:List Int) (m:QM)
def xc9 (k:Nat):Option QM:=match m.code[k]? with
 | none=>none
 | some x=>xee xs sites m.code.length (xah xs sites m k).code.length (xah xs sites m k).temps k x
def pcK (k:Nat):List QI:=match m.code[k]? with
 | none=>[]
 | some x=>match xee xs sites m.code.length (xah xs sites m k).code.length (xah xs sites m k).temps k x with
  | none=>[xbn x k]
  | some leaf=>xbC leaf (ins 18 (sites.getD k (-1)) leaf.args k) (xah xs sites m k).temps 0
def xrv (B:List Int)(k:Nat)(y:QI):QI:=if (xc9 xs sites m k).isSome=true then xeu (xah xs sites m k).code.length y else xcW B y
end
section
variable {xs:List QC} {sites:List Int} {m:QM}
theorem xi5 {B:List Int}{k:Nat}(hk:k<m.code.length):xhk xs sites m B (k+1)=xhk xs sites m B k++(pcK xs sites m k).map (xrv xs sites m B k):=by
 have hx:m.code[k]?=some m.code[k]:=List.getElem?_eq_getElem hk;rw[xhk,hx];unfold pcK xrv xc9;rw[hx];obtain⟨o,ho⟩:∃ o,xee xs sites m.code.length (xah xs sites m k).code.length (xah xs sites m k).temps k m.code[k]=o:=⟨_,rfl⟩;simp only[ho]
 cases o with
 | none=>simp
 | some leaf=>simp
theorem xgm {k:Nat}{x:QI}(hx:m.code[k]?=some x)(h:xee xs sites m.code.length (xah xs sites m k).code.length (xah xs sites m k).temps k x=none):xc9 xs sites m k=none/\pcK xs sites m k=[xbn x k]/\(xah xs sites m (k+1)).temps=(xah xs sites m k).temps/\(xah xs sites m (k+1)).code.length=(xah xs sites m k).code.length+1/\(xah xs sites m (k+1)).begins=(xah xs sites m k).begins++[((xah xs sites m k).code.length:Int)]/\(xah xs sites m (k+1)).pieces=(xah xs sites m k).pieces:=by
 rw[xbm hx];unfold xc9 pcK xdP;simp only[hx,h]
 simp
theorem xiG {k:Nat}{x:QI}{leaf:QM}(hx:m.code[k]?=some x)(h:xee xs sites m.code.length (xah xs sites m k).code.length (xah xs sites m k).temps k x=some leaf):xc9 xs sites m k=some leaf/\pcK xs sites m k=xbC leaf (ins 18 (sites.getD k (-1)) leaf.args k) (xah xs sites m k).temps 0/\(xah xs sites m (k+1)).temps=(xah xs sites m k).temps+1+leaf.args+leaf.temps/\(xah xs sites m (k+1)).code.length=(xah xs sites m k).code.length+(xbC leaf (ins 18 (sites.getD k (-1)) leaf.args k) (xah xs sites m k).temps 0).length/\(xah xs sites m (k+1)).begins=(xah xs sites m k).begins++[((xah xs sites m k).code.length:Int)]/\(xah xs sites m (k+1)).pieces=(xah xs sites m k).pieces+1:=by
 rw[xbm hx];unfold xc9 pcK xdP;simp only[hx,h]
 simp[xbK]
theorem xqe {k:Nat}(hk:k<m.code.length):(xah xs sites m (k+1)).code.length=(xah xs sites m k).code.length+(pcK xs sites m k).length:=by
 have hx:m.code[k]?=some m.code[k]:=List.getElem?_eq_getElem hk
 cases h:xee xs sites m.code.length (xah xs sites m k).code.length (xah xs sites m k).temps k m.code[k] with
 | none=>obtain⟨-,e1,-,e2,-⟩:=xgm hx h;rw[e1,e2];rfl
 | some leaf=>obtain⟨-,e1,-,e2,-⟩:=xiG hx h;rw[e1,e2]
end
theorem xj9 {P:Nat->Prop}{w:World}{v:Value}{xs:List QI}(h:xaG P w v xs):xaG (fun b=>P b/\b<w.heap.size) w v xs:=by
 obtain⟨ad,cap,h1,h2,h3,h4,h5⟩:=h;refine⟨ad,cap,h1,h2,h3,h4,fun i x hx=>?_⟩
 obtain⟨b,o,e1,e2,e3⟩:=h5 i x hx
 exact⟨b,o,e1,⟨e2,World.block_lt_of_cell? _ _ e3.1⟩,e3⟩
def xn3:Lay Fst:=fun P w f x=>f 0=some (.int .i64 x.cls)/\f 1=some (.string x.name)/\f 2=some (.int .i64 x.ez)/\f 3=some (.int .i64 x.temps)/\∃ v,f 4=some v/\xaG P w v x.code
abbrev xeF:=IsRow xn3 5 64
theorem xiC:Good xn3 5 where
 move h hl hk hf:=by
  obtain⟨h0,h1,h2,h3,v,h5,h6⟩:=h
  exact⟨hf 0 (by omega) _ h0,hf 1 (by omega) _ h1,hf 2 (by omega) _ h2,hf 3 (by omega) _ h3,v,hf 4 (by omega) _ h5,h6.keep xaU hk hl⟩
 there h k hk:=by
  obtain⟨h0,h1,h2,h3,v,h4,⟨a,c,rfl,-⟩⟩:=h
  match k,hk with
  | 0,_=>exact⟨_,h0,rfl⟩
  | 1,_=>exact⟨_,h1,rfl⟩
  | 2,_=>exact⟨_,h2,rfl⟩
  | 3,_=>exact⟨_,h3,rfl⟩
  | 4,_=>exact⟨_,h4,rfl⟩
 pos:=by omega
theorem xqP:(Tryz.prog.info? 187).map (fun i=>(i.zero,i.size,i.bytes))=some (some (.agg #[.int .i64 0,.string ⟨#[]⟩,.int .i64 0,.int .i64 0,.slice none 0 0]),5,64):=by kernel_rfl
def xpn (X:QW)(t:List QT)(c:Nat)(k:Nat):List Fst:=if (xcA X (c:Int) (k:Int) (xbz X t (c:Int) (k:Int))).2=true then [(xcA X (c:Int) (k:Int) (xbz X t (c:Int) (k:Int))).1] else []
def xkP (X:QW)(t:List QT)(c n:Nat):List Fst:=(List.range n).flatMap (xpn X t c)
def xjC (X:QW)(c:Nat):Nat:=match X.cz[c]? with
 | some x=>x.mz.length
 | none=>0
def xgT (X:QW)(t:List QT)(n:Nat):List Fst:=(List.range n).flatMap fun c=>xkP X t c (xjC X c)
section
variable {X:QW} {t:List QT}
theorem xg3 (c n:Nat):xkP X t c (n+1)=xkP X t c n++xpn X t c n:=by
 unfold xkP;rw[List.range_succ,List.flatMap_append];simp
theorem xkg (n:Nat):xgT X t (n+1)=xgT X t n++xkP X t n (xjC X n):=by
 unfold xgT;rw[List.range_succ,List.flatMap_append];simp
theorem xpT (c k:Nat):(xpn X t c k).length<=1:=by unfold xpn;split<;>simp
theorem xiQ (c:Nat):∀ n,(xkP X t c n).length<=n
 | 0=>by simp[xkP]
 | n+1=>by rw[xg3,List.length_append];have:=xiQ c n;have:=xpT (X:=X) (t:=t) c n;omega
theorem xiM (h:∀ c,xjC X c<=8):∀ n,(xgT X t n).length<=n*8
 | 0=>by simp[xgT]
 | n+1=>by rw[xkg,List.length_append];have:=xiM h n;have:=xiQ (X:=X) (t:=t) n (xjC X n);have:=h n;omega
theorem xpA {c k:Nat}{f:Fst}(h:xcA X (c:Int) (k:Int) (xbz X t (c:Int) (k:Int))=(f,true)):xpn X t c k=[f]:=by unfold xpn;rw[h];rfl
theorem xrl {c k:Nat}{f:Fst}(h:xcA X (c:Int) (k:Int) (xbz X t (c:Int) (k:Int))=(f,false)):xpn X t c k=[]:=by unfold xpn;rw[h];rfl
end
theorem xkH {X:QW}(h:xau X=0)(c:Nat):xjC X c<=8:=by
 unfold xjC
 cases hx:X.cz[c]? with
 | none=>simp
 | some x=>
  simp only;obtain⟨-,-,hM,-⟩:=xbX h;have h1:=hM c x (xad hx) hx;unfold rkE at h1
  split at h1
  ·cases h1
  ·split at h1
   ·cases h1
   ·omega
theorem xjU {X:QW}(h:xau X=0):X.cz.length<=12:=by
 unfold xau at h
 split at h
 ·cases h
 ·omega
structure FaL (Z:World)(B:Nat)(fs:List Fst)(cs:List Value)(v:Value)(wr:World):Prop where
 bel:Below B Z wr
 sz:B<=wr.heap.size
 own:ownsAt wr B 187 5 v fs.length cs
 row:Cells xn3 5 (fun b=>B<=b/\v.ownBlock≠some b) wr cs fs
theorem xhI {P Q:Nat->Prop}{wr w':World}{cs:List Value}{fs:List Fst}(h:Cells xn3 5 P wr cs fs)(hk:∀ b,P b->b<wr.heap.size->w'.heap[b]?=wr.heap[b]?)(hl:∀ b,P b->b<wr.heap.size->Q b):Cells xn3 5 Q w' cs fs:=
 ⟨h.1,fun i x hx=>by
  obtain⟨a0,a1,a2,a3,v,a4,hc⟩:=h.2 i x hx
  exact⟨a0,a1,a2,a3,v,a4,(xj9 hc).keep xaU (Keeps.of_block fun b hb hl'=>hk b hb.1 hl') fun b hb=>hl b hb.1 hb.2⟩⟩
section
variable {Z:World} {B:Nat} {fs:List Fst} {cs:List Value} {v:Value} {wr w':World}
theorem xrr (w:World)(o:Obj):FaL (w.alloc o) (w.heap.size+1) [] [] (.slice none 0 0) (w.alloc o):=⟨Below.refl _ _,by simp,⟨rfl,Or.inl ⟨rfl,rfl⟩⟩,Cells.nil⟩
theorem FaL.later (h:FaL Z B fs cs v wr)(hb:Below wr.heap.size wr w'):FaL Z B fs cs v w':=
 ⟨h.bel.trans ⟨hb.os,hb.tape,hb.output,hb.size,fun b hb'=>hb.block b (by have:=h.sz;omega)⟩,qzD h.sz hb.size,h.own.keep fun g hg=>hb.block g (h.own.lt g hg).2,h.row.later xiC hb⟩
theorem FaL.add (h:FaL Z B fs cs v wr){f:Fst}{kv v':Value}{L:Nat}{P:Nat->Prop}(hkv:xaG P wr kv f.code)(hP:∀ b,P b->L<=b)(hL:B<=L)(hv:∀ g,v.ownBlock=some g->g<L)(r1:ownsAt w' B 187 5 v' (fs.length+1) (cs++[.int .i64 f.cls,.string f.name,.int .i64 f.ez,.int .i64 f.temps,kv]))(r2:v'.ownBlock=v.ownBlock\/∃ g,v'.ownBlock=some g/\wr.heap.size<=g)(r3:Below B wr w')(r4:∀ b,b<wr.heap.size->some b≠v.ownBlock->w'.heap[b]?=wr.heap[b]?):FaL Z B (fs++[f]) (cs++[.int .i64 f.cls,.string f.name,.int .i64 f.ez,.int .i64 f.temps,kv]) v' w':=by
 have hnew:∀ b,b<wr.heap.size->v.ownBlock≠some b->v'.ownBlock≠some b:=fun b hb hne=>by
  rcases r2 with r2 | ⟨g',e,hl⟩
  ·rw[r2];exact hne
  ·rw[e];intro e';cases e';exact absurd hb (by omega)
 refine⟨h.bel.trans r3,qzD h.sz r3.size,by simpa using r1,?_⟩
 refine (xhI h.row (fun b hb hl=>r4 b hl fun e=>hb.2 e.symm) fun b hb hl=>⟨hb.1,hnew b hl hb.2⟩).append xiC (Cells.one xiC rfl ?_)
 refine⟨rfl,rfl,rfl,rfl,kv,rfl,(xj9 hkv).keep xaU (Keeps.of_block fun b hb hl=>r4 b hl fun e=>by have:=hv b e.symm;have:=hP b hb.1;omega) fun b hb=>⟨by have:=hP b hb.1;omega,hnew b hb.2 fun e=>by have:=hv b e;have:=hP b hb.1;omega⟩⟩
theorem FaL.fasts (h:FaL Z B fs cs v wr)(hl:fs.length<=1000):xeF (fun b=>B<=b) wr v fs:=
 xj6 xiC h.own (xhI h.row (fun _ _ _=>rfl) fun b hb _=>hb.1) rfl (fun b h1 _=>h1) (by omega)
theorem FaL.form (h:FaL Z B fs cs v wr):∃ a cap,v=.slice a fs.length cap/\fs.length<=cap/\cap<=9223372036854775807:=by
 obtain⟨a,cap,e,h1,h2⟩:=h.own.form;unfold maxLen at h2
 exact⟨a,cap,e,h1,by omega⟩
end
section
variable {σ:Type}
def xbW (f:Fr):Option QI:=if f.pc<0 then none else f.code[f.pc.toNat]?
theorem xfM {f:Fr}{x:QI}(h:xbW f=some x):0<=f.pc/\f.pc.toNat<f.code.length/\f.code[f.pc.toNat]?=some x:=by
 unfold xbW at h
 split at h
 ·cases h
 ·exact⟨by omega,xad h,h⟩
theorem xdC {ent:Ent σ}{E:Env σ}{d:Nat}{m:Mc σ}{f:Fr}(h:xbW f=none):∀ g,xck ent E d g m f=(m,xa4,9)
 | 0=>rfl
 | g+1=>by
  have h':(if f.pc<0 then none else f.code[f.pc.toNat]?)=none:=h;rw[xck,h']
theorem xei {ent:Ent σ}{E:Env σ}{d:Nat}{m:Mc σ}{f:Fr}{x:QI}(h:xbW f=some x)(h17:x.op=17)(g:Nat):xck ent E d (g+1) m f=(m,f.top,0):=by
 have h':(if f.pc<0 then none else f.code[f.pc.toNat]?)=some x:=h;rw[xck,h']
 simp[h17]
theorem xdG {ent:Ent σ}{E:Env σ}{d:Nat}{m:Mc σ}{f:Fr}{x:QI}(h:xbW f=some x)(h17:x.op≠17)(g:Nat):xck ent E d (g+1) m f=if (xaj ent E d m { f with pc:=f.pc+1 } f.pc x).2.2≠0 then ((xaj ent E d m { f with pc:=f.pc+1 } f.pc x).1,xa4,(xaj ent E d m { f with pc:=f.pc+1 } f.pc x).2.2) else xck ent E d g (xaj ent E d m { f with pc:=f.pc+1 } f.pc x).1 (xaj ent E d m { f with pc:=f.pc+1 } f.pc x).2.1:=by
 have h':(if f.pc<0 then none else f.code[f.pc.toNat]?)=some x:=h;rw[xck,h'];simp only[if_neg h17]
theorem xi8 {m:Mc σ}{f:Fr}{x:QI}(h:xbW f=some x):1<=muE m f:=by
 obtain⟨h0,h1,-⟩:=xfM h;unfold muE;omega
theorem xqz {m:Mc σ}{f:Fr}(h:muE m f=0):xbW f=none:=by
 cases e:xbW f with
 | none=>rfl
 | some x=>have:=xi8 (m:=m) e;omega
theorem xnE {ent:Ent σ}(ht:xby ent)(E:Env σ)(d:Nat):∀ (n:Nat) (m:Mc σ) (f:Fr),0<=m.tz->muE m f<=n->∀ g,muE m f<=g->xck ent E d g m f=xck ent E d n m f
 | 0,m,f,h0,hn,g,hg=>by
  have hz:=xqz (show muE m f=0 by omega)
  rw[xdC hz,xdC hz]
 | n+1,m,f,h0,hn,g,hg=>by
  cases hf:xbW f with
  | none=>rw[xdC hf,xdC hf]
  | some x=>
   have hp:=xi8 (m:=m) hf;obtain⟨g',rfl⟩:∃ g',g=g'+1:=⟨g-1,by omega⟩
   by_cases h17:x.op=17
   ·rw[xei hf h17,xei hf h17]
   ·obtain⟨p0,p1,-⟩:=xfM hf;rw[xdG hf h17,xdG hf h17];have hst:=xej ht E d m { f with pc:=f.pc+1 } f.pc x
    have hmu:=xi1 ht (E:=E) (d:=d) h0 p0 p1 (x:=x);generalize xaj ent E d m { f with pc:=f.pc+1 } f.pc x=r at hst hmu ⊢
    by_cases he:r.2.2≠0
    ·rw[if_pos he,if_pos he]
    ·rw[if_neg he,if_neg he];have:=hmu (by omega)
     exact xnE ht E d n r.1 r.2.1 (by omega) (by omega) g' (by omega)
def goE (ent:Ent σ)(E:Env σ)(d:Nat)(m:Mc σ)(f:Fr):Mc σ × QV × Int:=xck ent E d (muE m f) m f
theorem xly {ent:Ent σ}(ht:xby ent)(E:Env σ)(d:Nat){m:Mc σ}{f:Fr}(h0:0<=m.tz){g:Nat}(hg:muE m f<=g):xck ent E d g m f=goE ent E d m f:=xnE ht E d _ m f h0 (qzC _) g hg
theorem xkG {ent:Ent σ}{E:Env σ}{d:Nat}{m:Mc σ}{f:Fr}{x:QI}(h:xbW f=some x)(h17:x.op=17):goE ent E d m f=(m,f.top,0):=by
 have hp:=xi8 (m:=m) h;unfold goE;obtain⟨g,hg⟩:∃ g,muE m f=g+1:=⟨muE m f-1,by omega⟩
 rw[hg]
 exact xei h h17 g
theorem xgr {ent:Ent σ}{E:Env σ}{d:Nat}{m:Mc σ}{f:Fr}{x:QI}(h:xbW f=some x)(h17:x.op≠17)(he:(xaj ent E d m { f with pc:=f.pc+1 } f.pc x).2.2≠0):goE ent E d m f=((xaj ent E d m { f with pc:=f.pc+1 } f.pc x).1,xa4,(xaj ent E d m { f with pc:=f.pc+1 } f.pc x).2.2):=by
 have hp:=xi8 (m:=m) h;unfold goE;obtain⟨g,hg⟩:∃ g,muE m f=g+1:=⟨muE m f-1,by omega⟩
 rw[hg,xdG h h17,if_pos he]
theorem xiA {ent:Ent σ}(ht:xby ent){E:Env σ}{d:Nat}{m:Mc σ}{f:Fr}(h0:0<=m.tz){x:QI}(h:xbW f=some x)(h17:x.op≠17)(he:(xaj ent E d m { f with pc:=f.pc+1 } f.pc x).2.2=0):goE ent E d m f=goE ent E d (xaj ent E d m { f with pc:=f.pc+1 } f.pc x).1 (xaj ent E d m { f with pc:=f.pc+1 } f.pc x).2.1/\muE (xaj ent E d m { f with pc:=f.pc+1 } f.pc x).1 (xaj ent E d m { f with pc:=f.pc+1 } f.pc x).2.1<muE m f/\0<=(xaj ent E d m { f with pc:=f.pc+1 } f.pc x).1.tz:=by
 have hp:=xi8 (m:=m) h;obtain⟨p0,p1,-⟩:=xfM h;have hmu:=xi1 ht (E:=E) (d:=d) h0 p0 p1 (x:=x) he;have hst:=xej ht E d m { f with pc:=f.pc+1 } f.pc x
 refine⟨?_,hmu,by omega⟩
 show xck ent E d (muE m f) m f=_
 obtain⟨g,hg⟩:∃ g,muE m f=g+1:=⟨muE m f-1,by omega⟩
 rw[hg,xdG h h17,if_neg (by omega)]
 exact xly ht E d (by omega) (by omega)
end
section
variable {σ:Type} {ent:Ent σ} {E:Env σ} {d:Nat} {m:Mc σ} {f:Fr} {at':Int} {x:QI}
theorem xdH {v:QV}(e:xan m.heap f x=some v):xaj ent E d m f at' x=(m,f.push v,0):=by
 unfold xaj;rw[e]
theorem xcm (h:x.op<1\/8<x.op):xan m.heap f x=none:=by
 unfold xan
 simp[show ¬ x.op=1 by omega,show ¬ x.op=2 by omega,show ¬ x.op=3 by omega,show ¬ x.op=4 by omega,show ¬ x.op=5 by omega,show ¬ x.op=6 by omega,show ¬ x.op=7 by omega,show ¬ x.op=8 by omega]
theorem xij (h:x.op=9):xaj ent E d m f at' x=(m,f.pop,0):=by
 unfold xaj;rw[xcm (by omega)];simp[h]
theorem xhP (h:x.op=10):xaj ent E d m f at' x=(m,f.push f.top,0):=by
 unfold xaj;rw[xcm (by omega)];simp[h]
theorem xho (h:x.op=11):xaj ent E d m f at' x=(m,{ f.pop with temps:=xaP f.temps x.a f.top },0):=by
 unfold xaj;rw[xcm (by omega)];simp[h]
theorem xjW (h:x.op=12):xaj ent E d m f at' x=({ m with heap:=xbr m.heap f.self x.a f.top },f.pop,0):=by
 unfold xaj;rw[xcm (by omega)];simp[h]
theorem xoW (h:x.op=13):xaj ent E d m f at' x=xci E m f x.a:=by
 unfold xaj;rw[xcm (by omega)];simp[h]
theorem xiF (h:x.op=14):xaj ent E d m f at' x=xbO ent E m f at' x:=by
 unfold xaj;rw[xcm (by omega)];simp[h]
theorem xeG (h:x.op=15):xaj ent E d m f at' x=xa3 m f at' x.a:=by
 unfold xaj;rw[xcm (by omega)];simp[h]
theorem xfv (h:x.op=16):xaj ent E d m f at' x=xbQ m f at' x.a:=by
 unfold xaj;rw[xcm (by omega)];simp[h]
theorem xhs (h:18<=x.op):xaj ent E d m f at' x=xb7 E d m f x:=by
 unfold xaj;rw[xcm (by omega)]
 simp[show ¬ x.op=9 by omega,show ¬ x.op=10 by omega,show ¬ x.op=11 by omega,show ¬ x.op=12 by omega,show ¬ x.op=13 by omega,show ¬ x.op=14 by omega,show ¬ x.op=15 by omega,show ¬ x.op=16 by omega]
def TOk (m:Mc σ):Prop:=0<=m.tz/\m.tz<=300
def xkh (ent:Ent σ):Prop:=∀ m c n s a,TOk m->(ent m c n s a).2.2=0->TOk (ent m c n s a).1
theorem xbT (m:Mc σ)(f:Fr)(a b:Int)(h:TOk m):(b<=a/\m.tz=300/\xa3 m f a b=({ m with tz:=m.tz+1 },f,16))\/(b<=a/\m.tz<300/\xa3 m f a b=({ m with tz:=m.tz+1 },{ f with pc:=b },0))\/(a<b/\xa3 m f a b=(m,{ f with pc:=b },0)):=by
 obtain⟨h0,h1⟩:=h;unfold xa3
 by_cases hb:b<=a
 ·simp only[hb,if_true]
  by_cases h3:m.tz=300
  ·left;refine⟨trivial,h3,?_⟩;rw[if_pos (by omega)]
  ·right;left;refine⟨trivial,by omega,?_⟩;rw[if_neg (by omega)]
 ·right;right
  simp only[hb,if_false]
  exact⟨by omega,by rw[if_neg (by omega)]⟩
theorem xlr {a b:Int}(h:TOk m)(h0:(xa3 m f a b).2.2=0):TOk (xa3 m f a b).1:=by
 have h':=h;obtain⟨t0,t1⟩:=h
 rcases xbT m f a b h' with ⟨-,-,e⟩ | ⟨-,ht,e⟩ | ⟨-,e⟩
 ·rw[e] at h0;simp at h0
 ·rw[e];exact⟨by simp;omega,by simp;omega⟩
 ·rw[e];exact h'
theorem xdo (h:TOk m):TOk (xar E d m).1:=by
 have:=xeH E d m;unfold TOk at h ⊢
 omega
theorem xgo (he:xkh ent)(h:TOk m)(h0:(xaj ent E d m f at' x).2.2=0):TOk (xaj ent E d m f at' x).1:=by
 unfold xaj at h0 ⊢
 split
 ·exact h
 ·rename_i hp;rw[hp] at h0;simp only at h0
  split
  ·exact h
  ·split
   ·exact h
   ·split
    ·exact h
    ·split
     ·exact h
     ·rename_i n9 n10 n11 n12;rw[if_neg n9,if_neg n10,if_neg n11,if_neg n12] at h0
      split
      ·unfold xci;split<;>exact h
      ·rename_i n13;rw[if_neg n13] at h0
       split
       ·rename_i n14;rw[if_pos n14] at h0;unfold xbO at h0 ⊢;simp only at h0 ⊢;generalize hl:E.look m.st (f.site at' x) (xap m.heap (xaL (f.stack.take (xbI f.stack x.a)) 0)) x.name=l at h0 ⊢;have hr:=he { m with st:=l.1 } l.2.1 l.2.2 (xaL (f.stack.take (xbI f.stack x.a)) 0) (f.stack.drop (xbI f.stack x.a)) h
        generalize ent { m with st:=l.1 } l.2.1 l.2.2 (xaL (f.stack.take (xbI f.stack x.a)) 0) (f.stack.drop (xbI f.stack x.a))=r at hr h0 ⊢
        by_cases hz:r.2.2≠0
        ·rw[if_pos hz] at h0;exact absurd h0 hz
        ·rw[if_neg hz];exact hr (by omega)
       ·rename_i n14;rw[if_neg n14] at h0
        split
        ·rename_i n15;rw[if_pos n15] at h0
         exact xlr h h0
        ·rename_i n15;rw[if_neg n15] at h0
         split
         ·rename_i n16;rw[if_pos n16] at h0;unfold xbQ at h0 ⊢
          split
          ·exact h
          ·rename_i k2;rw[if_neg k2] at h0
           split
           ·rename_i k1;rw[if_pos k1] at h0
            exact xlr h h0
           ·exact h
         ·unfold xb7
          split
          ·exact h
          ·split
           ·exact h
           ·split
            ·exact h
            ·split
             ·exact h
             ·split
              ·exact xdo h
              ·exact h
theorem xoy (he:xkh ent)(E:Env σ)(d:Nat):∀ (g:Nat) (m:Mc σ) (f:Fr),TOk m->(xck ent E d g m f).2.2=0->TOk (xck ent E d g m f).1
 | 0,m,f,h,h0=>h
 | g+1,m,f,h,h0=>by
  cases hf:xbW f with
  | none=>rw[xdC hf];exact h
  | some x=>
   by_cases h17:x.op=17
   ·rw[xei hf h17];exact h
   ·rw[xdG hf h17] at h0 ⊢;have hs:=xgo (E:=E) (d:=d) (f:={ f with pc:=f.pc+1 }) (at':=f.pc) (x:=x) he h
    generalize xaj ent E d m { f with pc:=f.pc+1 } f.pc x=r at hs h0 ⊢
    by_cases hz:r.2.2≠0
    ·rw[if_pos hz] at h0;exact absurd h0 hz
    ·rw[if_neg hz] at h0 ⊢
     exact xoy he E d g r.1 r.2.1 (hs (by omega)) h0
theorem xjT (E:Env σ)(d:Nat){body:Mc σ->Fr->Mc σ × QV × Int}(hb:∀ m f,TOk m->(body m f).2.2=0->TOk (body m f).1):xkh (xbs E d body):=by
 intro m c n s a h h0;unfold xbs at h0 ⊢
 split
 ·exact h
 ·rename_i mt hm;rw[hm] at h0;simp only at h0
  split
  ·exact h
  ·rename_i k1;rw[if_neg k1] at h0
   split
   ·split<;>exact h
   ·rename_i k2;rw[if_neg k2] at h0
    split
    ·exact h
    ·rename_i k3;rw[if_neg k3] at h0
     exact hb _ _ (xdo h) h0
theorem xgS (E:Env σ):∀ d:Nat,xkh (xbh E d)
 | 0=>xjT E 0 fun m f h h0=>h
 | d+1=>xjT E (d+1) fun m f h h0=>xoy (xgS E d) E d _ m f h h0
end
theorem xco (l:List QV)(n:Nat):xaK l (n:Int)=l[n]?.getD xa4:=by unfold xaK;rw[if_neg (by omega)];simp
theorem xgw {l:List QV}{n:Int}{k:Nat}{v:QV}(hn:n=(k:Int))(h:l[k]?=some v):xaK l n=v:=by subst hn;rw[xco,h];rfl
theorem xgX (base s:List QV)(hs:s≠[]):xaL (base++s) 0=xaL s 0:=by
 have hl:0<s.length:=List.length_pos_iff.2 hs;unfold xaL;rw[show (((base++s).length:Int)-1-0)=((base.length+(s.length-1):Nat):Int) by rw[List.length_append];omega,show ((s.length:Int)-1-0)=((s.length-1:Nat):Int) by omega,xco,xco,List.getElem?_append_right (by omega)]
 congr 2;omega
theorem xfm (base s:List QV)(hs:s≠[]):(base++s).dropLast=base++s.dropLast:=List.dropLast_append_of_ne_nil hs
theorem xbZ (l:List QV)(n:Nat)(v:QV):xaP l (n:Int) v=l.set n v:=by unfold xaP;rw[if_neg (by omega)];simp
theorem xp1 {l:List QV}{n t:Nat}(h:t<=n)(v:QV):(l.set n v).take t=l.take t:=by
 apply List.ext_getElem?
 intro i;rw[List.getElem?_take,List.getElem?_take]
 split
 ·rw[List.getElem?_set_ne (by omega)]
 ·rfl
structure LfP (LC FC:List QI)(T0 A first:Nat)(base:List QV)(f0 ff lf:Fr):Prop where
 fast:ff.fast=true
 code:ff.code=FC
 cls:ff.cls=f0.cls
 meth:ff.meth=f0.meth
 self:ff.self=f0.self
 args:ff.args=f0.args
 len:ff.temps.length=f0.temps.length
 take:ff.temps.take T0=f0.temps.take T0
 pl:PlOk lf
 lcode:lf.code=LC
 alen:lf.args.length=A
 pc:ff.pc=(first:Int)+lf.pc
 stack:ff.stack=base++lf.stack
 tself:ff.temps[T0]?=some lf.self
 targs:∀ (i:Nat) v,lf.args[i]?=some v->ff.temps[T0+1+i]?=some v
 ttemps:∀ (i:Nat) v,lf.temps[i]?=some v->ff.temps[T0+1+A+i]?=some v
section
variable {LC FC:List QI} {T0 A first:Nat} {base:List QV} {f0 ff lf:Fr}
theorem LfP.to (h:LfP LC FC T0 A first base f0 ff lf){ff' lf':Fr}(pl:PlOk lf')(e0:lf'.code=lf.code)(e1:lf'.self=lf.self)(e2:lf'.args=lf.args)(e3:lf'.temps=lf.temps)(d1:ff'.fast=ff.fast)(d2:ff'.code=ff.code)(d3:ff'.cls=ff.cls)(d4:ff'.meth=ff.meth)(d5:ff'.self=ff.self)(d6:ff'.args=ff.args)(d7:ff'.temps=ff.temps)(hp:ff'.pc=(first:Int)+lf'.pc)(hs:ff'.stack=base++lf'.stack):LfP LC FC T0 A first base f0 ff' lf':=
 ⟨d1.trans h.fast,d2.trans h.code,d3.trans h.cls,d4.trans h.meth,d5.trans h.self,d6.trans h.args,by rw[d7];exact h.len,by rw[d7];exact h.take,pl,e0.trans h.lcode,by rw[e2];exact h.alen,hp,hs,by rw[d7,e1];exact h.tself,by rw[d7,e2];exact h.targs,by rw[d7,e3];exact h.ttemps⟩
variable {σ:Type} {ent ent':Ent σ} {E E':Env σ} {d d':Nat} {m:Mc σ}
def xsp (LC FC:List QI)(T0 A first:Nat)(base:List QV)(f0:Fr)(r2 r:Mc σ × Fr × Int):Prop:=r2.1=r.1/\r2.2.2=r.2.2/\(r.2.2=0->LfP LC FC T0 A first base f0 r2.2.1 r.2.1)
theorem xjG (h:LfP LC FC T0 A first base f0 ff lf)(ht:TOk m){ff1 lf1:Fr}{a:Int}(e0:lf1.code=lf.code)(e1:lf1.self=lf.self)(e2:lf1.args=lf.args)(e3:lf1.temps=lf.temps)(d1:ff1.fast=ff.fast)(d2:ff1.code=ff.code)(d3:ff1.cls=ff.cls)(d4:ff1.meth=ff.meth)(d5:ff1.self=ff.self)(d6:ff1.args=ff.args)(d7:ff1.temps=ff.temps)(hs:ff1.stack=base++lf1.stack)(PL:(xa3 m lf1 lf.pc a).2.2=0->PlOk (xa3 m lf1 lf.pc a).2.1) :
  xsp LC FC T0 A first base f0 (xa3 m ff1 ff.pc ((first:Int)+a)) (xa3 m lf1 lf.pc a):=by
 have hp:=h.pc
 rcases xbT m lf1 lf.pc a ht with ⟨k1,k2,k3⟩ | ⟨k1,k2,k3⟩ | ⟨k1,k3⟩
 ·rcases xbT m ff1 ff.pc ((first:Int)+a) ht with ⟨j1,j2,j3⟩ | ⟨j1,j2,j3⟩ | ⟨j1,j3⟩
  ·rw[k3,j3];exact⟨rfl,rfl,fun h=>by simp at h⟩
  ·omega
  ·omega
 ·rcases xbT m ff1 ff.pc ((first:Int)+a) ht with ⟨j1,j2,j3⟩ | ⟨j1,j2,j3⟩ | ⟨j1,j3⟩
  ·omega
  ·rw[k3] at PL;rw[k3,j3]
   exact⟨rfl,rfl,fun _=>h.to (PL rfl) e0 e1 e2 e3 d1 d2 d3 d4 d5 d6 d7 rfl hs⟩
  ·omega
 ·rcases xbT m ff1 ff.pc ((first:Int)+a) ht with ⟨j1,j2,j3⟩ | ⟨j1,j2,j3⟩ | ⟨j1,j3⟩
  ·omega
  ·omega
  ·rw[k3] at PL;rw[k3,j3]
   exact⟨rfl,rfl,fun _=>h.to (PL rfl) e0 e1 e2 e3 d1 d2 d3 d4 d5 d6 d7 rfl hs⟩
theorem xnZ (h:LfP LC FC T0 A first base f0 ff lf)(ht:TOk m){j:Nat}{x:QI}(hx:NxOk lf j x)(h17:x.op≠17)(h13:x.op≠13)(h14:x.op≠14)(behind:Int) :
  xsp LC FC T0 A first base f0 (xaj ent E d m { ff with pc:=ff.pc+1 } ff.pc (xaw T0 (T0+1) (T0+1+A) first behind x)) (xaj ent' E' d' m { lf with pc:=lf.pc+1 } lf.pc x):=by
 have hA:=h.alen;have PL:=xk6 (ent:=ent') (E:=E') (d:=d') (m:=m) h.pl hx h17;have hk:=hx.kind;have hneed:=hx.need;have hpc1:ff.pc+1=(first:Int)+(lf.pc+1):=by have:=h.pc;omega
 have push:∀ (v:QV),xan m.heap { lf with pc:=lf.pc+1 } x=some v->xan m.heap { ff with pc:=ff.pc+1 } (xaw T0 (T0+1) (T0+1+A) first behind x)=some v->xsp LC FC T0 A first base f0 (xaj ent E d m { ff with pc:=ff.pc+1 } ff.pc (xaw T0 (T0+1) (T0+1+A) first behind x)) (xaj ent' E' d' m { lf with pc:=lf.pc+1 } lf.pc x):=fun v e1 e2=>by
  rw[xdH e1] at PL;rw[xdH e1,xdH e2]
  exact⟨rfl,rfl,fun _=>h.to (PL rfl) rfl rfl rfl rfl rfl rfl rfl rfl rfl rfl rfl hpc1 (by simp[Fr.push,h.stack])⟩
 have hself:xaK ff.temps (T0:Int)=lf.self:=xgw rfl h.tself
 rcases (by omega:x.op=1\/x.op=2\/x.op=3\/x.op=4\/x.op=5\/x.op=6\/x.op=7\/x.op=8\/x.op=9\/x.op=10\/x.op=11\/x.op=12\/x.op=15\/x.op=16) with o | o | o | o | o | o | o | o | o | o | o | o | o | o
 ·refine push lf.self (by simp[xan,o]) ?_
  simp[xaw,o,xan,hself]
 ·obtain⟨a0,a1⟩:=hx.arg o;obtain⟨k,hk⟩:∃ k:Nat,x.a=(k:Int):=⟨x.a.toNat,by omega⟩
  have hv:lf.args[k]?=some lf.args[k]:=List.getElem?_eq_getElem (by omega)
  refine push (lf.args[k]) ?_ ?_
  ·simp only[xan,o,hk]
   simp[xco,hv]
  ·have:=xgw (n:=(T0:Int)+1+x.a) (k:=T0+1+k) (by omega) (h.targs k _ hv)
   simp[xaw,o,xan,this]
 ·obtain⟨a0,a1⟩:=hx.temp (Or.inl o);obtain⟨k,hk⟩:∃ k:Nat,x.a=(k:Int):=⟨x.a.toNat,by omega⟩
  have hv:lf.temps[k]?=some lf.temps[k]:=List.getElem?_eq_getElem (by omega)
  refine push (lf.temps[k]) ?_ ?_
  ·simp only[xan,o,hk]
   simp[xco,hv]
  ·have:=xgw (n:=(T0:Int)+1+A+x.a) (k:=T0+1+A+k) (by omega) (h.ttemps k _ hv)
   simp[xaw,o,xan,this]
 ·have e1:xan m.heap { lf with pc:=lf.pc+1 } x=some (xep m.heap lf.self x.a):=by simp[xan,o]
  rw[xdH e1] at PL;rw[xdH e1];have e2:xaw T0 (T0+1) (T0+1+A) first behind x=ins 19 T0 x.a 0:=by simp[xaw,o]
  rw[e2,xhs (by simp)]
  refine⟨?_,?_,fun _=>?_⟩
  ·simp[xb7,h.fast]
  ·simp[xb7,h.fast]
  ·have e3:(xb7 E d m { ff with pc:=ff.pc+1 } (ins 19 (T0:Int) x.a 0)).2.1=Fr.push { ff with pc:=ff.pc+1 } (xep m.heap lf.self x.a):=by simp[xb7,h.fast,hself]
   rw[e3]
   exact h.to (PL rfl) rfl rfl rfl rfl rfl rfl rfl rfl rfl rfl rfl hpc1 (by simp[Fr.push,h.stack])
 ·exact push ⟨3,x.a⟩ (by simp[xan,o]) (by simp[xaw,o,xan])
 ·exact push xa4 (by simp[xan,o]) (by simp[xaw,o,xan])
 ·exact push ⟨1,0⟩ (by simp[xan,o]) (by simp[xaw,o,xan])
 ·exact push ⟨2,0⟩ (by simp[xan,o]) (by simp[xaw,o,xan])
 ·have hne:lf.stack≠[]:=by intro e;rw[e] at hneed;simp[xaO,o] at hneed
  have e2:xaw T0 (T0+1) (T0+1+A) first behind x=x:=by simp[xaw,o]
  rw[xij o] at PL;rw[e2,xij o,xij o]
  exact⟨rfl,rfl,fun _=>h.to (PL rfl) rfl rfl rfl rfl rfl rfl rfl rfl rfl rfl rfl hpc1 (by simp only[Fr.pop,h.stack];exact xfm _ _ hne)⟩
 ·have hne:lf.stack≠[]:=by intro e;rw[e] at hneed;simp[xaO,o] at hneed
  have e2:xaw T0 (T0+1) (T0+1+A) first behind x=x:=by simp[xaw,o]
  rw[xhP o] at PL;rw[e2,xhP o,xhP o]
  exact⟨rfl,rfl,fun _=>h.to (PL rfl) rfl rfl rfl rfl rfl rfl rfl rfl rfl rfl rfl hpc1 (by simp only[Fr.push,Fr.top,h.stack,xgX _ _ hne,List.append_assoc])⟩
 ·have hne:lf.stack≠[]:=by intro e;rw[e] at hneed;simp[xaO,o] at hneed
  obtain⟨a0,a1⟩:=hx.temp (Or.inr o);obtain⟨k,hk⟩:∃ k:Nat,x.a=(k:Int):=⟨x.a.toNat,by omega⟩
  have e2:xaw T0 (T0+1) (T0+1+A) first behind x=ins 11 ((T0:Int)+1+A+x.a) 0 0:=by simp[xaw,o]
  have e4:((T0:Int)+1+A+x.a)=((T0+1+A+k:Nat):Int):=by omega
  rw[xho o] at PL;rw[e2,xho o,xho (by rfl)]
  refine⟨rfl,rfl,fun _=>?_⟩
  have htop:Fr.top { ff with pc:=ff.pc+1 }=Fr.top { lf with pc:=lf.pc+1 }:=by simp only[Fr.top,h.stack,xgX _ _ hne]
  have hlt:T0+1+A+k<ff.temps.length:=xad (h.ttemps k _ (List.getElem?_eq_getElem (by omega)))
  refine⟨h.fast,h.code,h.cls,h.meth,h.self,h.args,?_,?_,PL rfl,h.lcode,h.alen,hpc1,?_,?_,?_,?_⟩
  ·simp only[xbN];exact h.len
  ·simp only[ins,e4,xbZ,htop];rw[xp1 (by omega)];exact h.take
  ·simp only[Fr.pop,h.stack];exact xfm _ _ hne
  ·simp only[ins,e4,xbZ];rw[List.getElem?_set_ne (by omega)];exact h.tself
  ·intro i v hv;have:=xad hv;simp only[ins,e4,xbZ];rw[List.getElem?_set_ne (by have:i<lf.args.length:=this;omega)]
   exact h.targs i v hv
  ·intro i v hv;simp only[hk,xbZ] at hv;simp only[ins,e4,xbZ,htop]
   by_cases hi:i=k
   ·subst hi;rw[List.getElem?_set_self (by omega)] at hv
    rw[List.getElem?_set_self hlt]
    exact hv
   ·rw[List.getElem?_set_ne (by omega)] at hv
    rw[List.getElem?_set_ne (by omega)]
    exact h.ttemps i v hv
 ·have hne:lf.stack≠[]:=by intro e;rw[e] at hneed;simp[xaO,o] at hneed
  have e2:xaw T0 (T0+1) (T0+1+A) first behind x=ins 20 T0 x.a 0:=by simp[xaw,o]
  rw[xjW o] at PL;rw[e2,xjW o,xhs (by simp)]
  have e3:xb7 E d m { ff with pc:=ff.pc+1 } (ins 20 (T0:Int) x.a 0)=({ m with heap:=xbr m.heap lf.self x.a (xaL lf.stack 0) },Fr.pop { ff with pc:=ff.pc+1 },0):=by simp[xb7,h.fast,hself,Fr.top,h.stack,xgX _ _ hne]
  rw[e3]
  exact⟨rfl,rfl,fun _=>h.to (PL rfl) rfl rfl rfl rfl rfl rfl rfl rfl rfl rfl rfl hpc1 (by simp only[Fr.pop,h.stack];exact xfm _ _ hne)⟩
 ·have e2:xaw T0 (T0+1) (T0+1+A) first behind x=ins 15 ((first:Int)+x.a) 0 0:=by simp[xaw,o]
  rw[xeG o] at PL;rw[e2,xeG o,xeG (by rfl)]
  exact xjG h ht (by rfl) (by rfl) (by rfl) (by rfl) (by rfl) (by rfl) (by rfl) (by rfl) (by rfl) (by rfl) (by rfl) (by simp[h.stack]) PL
 ·have hne:lf.stack≠[]:=by intro e;rw[e] at hneed;simp[xaO,o] at hneed
  have e2:xaw T0 (T0+1) (T0+1+A) first behind x=ins 16 ((first:Int)+x.a) 0 0:=by simp[xaw,o]
  rw[xfv o] at PL;rw[e2,xfv o,xfv (by rfl)]
  have htop:Fr.top { ff with pc:=ff.pc+1 }=Fr.top { lf with pc:=lf.pc+1 }:=by simp only[Fr.top,h.stack,xgX _ _ hne]
  unfold xbQ at PL ⊢;rw[htop]
  by_cases k2:(Fr.top { lf with pc:=lf.pc+1 }).k=2
  ·rw[if_pos k2] at PL;rw[if_pos k2,if_pos k2]
   exact⟨rfl,rfl,fun _=>h.to (PL rfl) rfl rfl rfl rfl rfl rfl rfl rfl rfl rfl rfl hpc1 (by simp only[Fr.pop,h.stack];exact xfm _ _ hne)⟩
  ·rw[if_neg k2] at PL;rw[if_neg k2,if_neg k2]
   by_cases k1:(Fr.top { lf with pc:=lf.pc+1 }).k=1
   ·rw[if_pos k1] at PL;rw[if_pos k1,if_pos k1]
    exact xjG h ht (by rfl) (by rfl) (by rfl) (by rfl) (by rfl) (by rfl) (by rfl) (by rfl) (by rfl) (by rfl) (by rfl) (by simp only[Fr.pop,h.stack];exact xfm _ _ hne) PL
   ·rw[if_neg k1,if_neg k1]
    exact⟨rfl,rfl,fun h=>by simp at h⟩
end
structure LfQ (FC:List QI)(T0:Nat)(behind:Int)(base:List QV)(f0:Fr)(v:QV)(ff:Fr):Prop where
 fast:ff.fast=true
 code:ff.code=FC
 cls:ff.cls=f0.cls
 meth:ff.meth=f0.meth
 self:ff.self=f0.self
 args:ff.args=f0.args
 len:ff.temps.length=f0.temps.length
 take:ff.temps.take T0=f0.temps.take T0
 pc:ff.pc=behind
 stack:ff.stack=base++[v]
section
variable {σ:Type} {ent ent':Ent σ} {E E':Env σ} {d d':Nat}
theorem xlB (ht:xby ent)(ht':xby ent')(he':xkh ent'){LC FC:List QI}{T0 A first:Nat}{base:List QV}{f0:Fr}(hleaf:∀ x∈LC,x.op≠13/\x.op≠14)(hcode:∀ (j:Nat) x,LC[j]?=some x->FC[first+j]?=some (xaw T0 (T0+1) (T0+1+A) first ((first:Int)+LC.length) x)) :
  ∀ (N:Nat) (m:Mc σ) (ff lf:Fr),LfP LC FC T0 A first base f0 ff lf->TOk m->muE m ff<=N->
   ((goE ent' E' d' m lf).2.2≠0/\goE ent E d m ff=((goE ent' E' d' m lf).1,xa4,(goE ent' E' d' m lf).2.2))\/
   ((goE ent' E' d' m lf).2.2=0/\TOk (goE ent' E' d' m lf).1/\∃ ff',LfQ FC T0 ((first:Int)+LC.length) base f0 (goE ent' E' d' m lf).2.1 ff'/\goE ent E d m ff=goE ent E d (goE ent' E' d' m lf).1 ff'/\muE (goE ent' E' d' m lf).1 ff'<muE m ff):=by
  intro N;induction N using Nat.strongRecOn;rename_i N iH;intro m ff lf h hT hN
  obtain⟨j,x,hx⟩:=h.pl.nx;have hxj:LC[j]?=some x:=by rw[← h.lcode];exact hx.here
  have hjl:=xad hxj;have hfl:xbW lf=some x:=by unfold xbW;rw[hx.pc,if_neg (by omega)];simpa using hx.here
  have hpc:ff.pc=((first+j:Nat):Int):=by rw[h.pc,hx.pc];omega
  have hff:xbW ff=some (xaw T0 (T0+1) (T0+1+A) first ((first:Int)+LC.length) x):=by
   unfold xbW;rw[hpc,if_neg (by omega),h.code,Int.toNat_natCast]
   exact hcode j x hxj
  obtain⟨n13,n14⟩:=hleaf x (List.mem_of_getElem? hxj);have hk:=hx.kind
  by_cases h17:x.op=17
  ·right
   have e1:goE ent' E' d' m lf=(m,lf.top,0):=xkG hfl h17;rw[e1];have e2:xaw T0 (T0+1) (T0+1+A) first ((first:Int)+LC.length) x=ins 15 ((first:Int)+LC.length) 0 0:=by simp[xaw,h17]
   rw[e2] at hff
   have e3:xaj ent E d m { ff with pc:=ff.pc+1 } ff.pc (ins 15 ((first:Int)+LC.length) 0 0)=(m,{ ff with pc:=(first:Int)+LC.length },0):=by
    rw[xeG (by rfl)]
    rcases xbT m { ff with pc:=ff.pc+1 } ff.pc ((first:Int)+LC.length) hT with ⟨k,-⟩ | ⟨k,-⟩ | ⟨-,k⟩
    ·omega
    ·omega
    ·exact k
   obtain⟨g1,g2,g3⟩:=xiA ht (E:=E) (d:=d) hT.1 hff (by simp) (by rw[e3])
   rw[e3] at g1 g2;refine⟨rfl,hT,{ ff with pc:=(first:Int)+LC.length },⟨h.fast,h.code,h.cls,h.meth,h.self,h.args,h.len,h.take,rfl,?_⟩,g1,g2⟩
   have hl1:=hx.back h17
   obtain⟨v,hv⟩:∃ v,lf.stack=[v]:=by
    match hs:lf.stack,hl1 with
    | [v],_=>exact⟨v,rfl⟩
   show ff.stack=base++[xaL lf.stack 0]
   rw[h.stack,hv]
   simp[xaL,xaK]
  ·have y17:(xaw T0 (T0+1) (T0+1+A) first ((first:Int)+LC.length) x).op≠17:=by
    unfold xaw
    split
    ·simp
    ·split
     ·simp
     ·split
      ·rename_i hh;simp;omega
      ·split
       ·simp
       ·split
        ·simp
        ·split
         ·rename_i hh;simp;omega
         ·exact h17
   obtain⟨b1,b2,b3⟩:=xnZ (ent:=ent) (ent':=ent') (E:=E) (E':=E') (d:=d) (d':=d') h hT hx h17 n13 n14 ((first:Int)+LC.length)
   by_cases hz:(xaj ent' E' d' m { lf with pc:=lf.pc+1 } lf.pc x).2.2=0
   ·obtain⟨g1,g2,g3⟩:=xiA ht (E:=E) (d:=d) hT.1 hff y17 (by rw[b2];exact hz)
    obtain⟨l1,l2,l3⟩:=xiA ht' (E:=E') (d:=d') hT.1 hfl h17 hz;have hT':=xgo (E:=E') (d:=d') (f:={ lf with pc:=lf.pc+1 }) (at':=lf.pc) (x:=x) he' hT hz
    have hP:=b3 hz;rw[b1] at g1 g2;rw[g1,l1];have ih:=iH (N-1) (by omega) _ _ _ hP hT' (by omega)
    rcases ih with ih | ⟨i1,i2,ff',i3,i4,i5⟩
    ·exact Or.inl ih
    ·exact Or.inr ⟨i1,i2,ff',i3,i4,by omega⟩
   ·left
    rw[xgr hff y17 (by rw[b2];exact hz),xgr hfl h17 hz,b1,b2]
    exact⟨hz,rfl⟩
end
structure Nx (f f':Fr):Prop where
 fast:f'.fast=f.fast
 code:f'.code=f.code
 cls:f'.cls=f.cls
 meth:f'.meth=f.meth
 self:f'.self=f.self
 args:f'.args=f.args
 len:f'.temps.length=f.temps.length
theorem Nx.refl (f:Fr):Nx f f:=⟨rfl,rfl,rfl,rfl,rfl,rfl,rfl⟩
theorem Nx.trans {a b c:Fr}(h:Nx a b)(k:Nx b c):Nx a c:=⟨k.fast.trans h.fast,k.code.trans h.code,k.cls.trans h.cls,k.meth.trans h.meth,k.self.trans h.self,k.args.trans h.args,k.len.trans h.len⟩
section
variable {σ:Type}
def Goes (ent:Ent σ)(E:Env σ)(d:Nat)(m:Mc σ)(f f':Fr):Prop:=goE ent E d m f=goE ent E d m f'/\muE m f'<=muE m f
theorem Goes.refl (ent:Ent σ)(E:Env σ)(d:Nat)(m:Mc σ)(f:Fr):Goes ent E d m f f:=⟨rfl,qzC _⟩
theorem Goes.trans {ent:Ent σ}{E:Env σ}{d:Nat}{m:Mc σ}{a b c:Fr}(h:Goes ent E d m a b)(k:Goes ent E d m b c):Goes ent E d m a c:=⟨h.1.trans k.1,qzD k.2 h.2⟩
variable {ent:Ent σ} {E:Env σ} {d:Nat} {m:Mc σ}
theorem xfn {f:Fr}{p:Nat}{x:QI}(hp:f.pc=(p:Int))(hx:f.code[p]?=some x):xbW f=some x:=by
 unfold xbW;rw[hp,if_neg (by omega),Int.toNat_natCast];exact hx
theorem xhn (ht:xby ent)(h0:0<=m.tz){f f':Fr}{p:Nat}{x:QI}(hp:f.pc=(p:Int))(hx:f.code[p]?=some x)(h17:x.op≠17)(hs:xaj ent E d m { f with pc:=f.pc+1 } f.pc x=(m,f',0)):Goes ent E d m f f':=by
 obtain⟨g1,g2,-⟩:=xiA ht (E:=E) (d:=d) h0 (xfn hp hx) h17 (by rw[hs])
 rw[hs] at g1 g2
 exact⟨g1,Nat.le_of_lt g2⟩
theorem xgL (l:List QV)(v:QV):xaL (l++[v]) 0=v:=by
 rw[xgX _ _ (by simp)];simp[xaL,xaK]
theorem xiO (ht:xby ent)(h0:0<=m.tz){f:Fr}{p n:Nat}{base:List QV}{v:QV}{a:Int}(hp:f.pc=(p:Int))(hx:f.code[p]?=some (ins 11 a 0 0))(ha:a=(n:Int))(hs:f.stack=base++[v])(hn:n<f.temps.length):∃ f',Nx f f'/\f'.pc=((p+1:Nat):Int)/\f'.stack=base/\f'.temps[n]?=some v/\(∀ i,i≠n->f'.temps[i]?=f.temps[i]?)/\Goes ent E d m f f':=by
 subst ha;refine⟨{ f with pc:=f.pc+1,stack:=base,temps:=f.temps.set n v },⟨rfl,rfl,rfl,rfl,rfl,rfl,by simp⟩,by simp only[hp];omega,rfl,by simp[hn],fun i hi=>by simp only;rw[List.getElem?_set_ne (by omega)],?_⟩
 refine xhn ht h0 hp hx (by simp) ?_
 rw[xho (by rfl)]
 simp only[Fr.pop,Fr.top,hs,xgL,xbZ,List.dropLast_concat]
theorem xnU (ht:xby ent)(h0:0<=m.tz)(T1:Nat):∀ (n:Nat) (f:Fr) (p:Nat) (base as':List QV),f.pc=(p:Int)->(∀ (j:Nat) y,(xdh (T1:Int) n)[j]?=some y->f.code[p+j]?=some y)->f.stack=base++as'->as'.length=n->T1+n<=f.temps.length->
  ∃ f',Nx f f'/\f'.pc=((p+n:Nat):Int)/\f'.stack=base/\(∀ (i:Nat) v,as'[i]?=some v->f'.temps[T1+i]?=some v)/\(∀ i,i<T1\/T1+n<=i->f'.temps[i]?=f.temps[i]?)/\Goes ent E d m f f'
 | 0,f,p,base,as',hp,hc,hs,hl,hn=>by
  obtain rfl:=List.eq_nil_of_length_eq_zero hl
  exact⟨f,.refl f,hp,by simpa using hs,fun i v hv=>by simp at hv,fun i _=>rfl,.refl _ _ _ _ _⟩
 | n+1,f,p,base,as',hp,hc,hs,hl,hn=>by
  obtain⟨bs,v,rfl⟩:∃ bs v,as'=bs++[v]:=⟨as'.dropLast,as'.getLast (by intro e;subst e;simp at hl),(List.dropLast_concat_getLast _).symm⟩
  have hbl:bs.length=n:=by simpa using hl
  obtain⟨f1,n1,n2,n3,n4,n5,n6⟩:=xiO (E:=E) (d:=d) ht h0 (n:=T1+n) (base:=base++bs) (v:=v) (a:=(T1:Int)+n) hp (by simpa using hc 0 (ins 11 ((T1:Int)+n) 0 0) rfl) (by omega) (by rw[hs,List.append_assoc]) (by omega)
  obtain⟨f2,k1,k2,k3,k4,k5,k6⟩:=xnU ht h0 T1 n f1 (p+1) base bs n2 (fun j y hy=>by rw[n1.code,show p+1+j=p+(j+1) by omega];exact hc (j+1) y hy) n3 hbl (by rw[n1.len];omega)
  refine⟨f2,n1.trans k1,by rw[k2];omega,k3,fun i w hw=>?_,fun i hi=>?_,n6.trans k6⟩
  ·by_cases hi:i<n
   ·rw[List.getElem?_append_left (by omega)] at hw
    exact k4 i w hw
   ·rw[List.getElem?_append_right (by omega)] at hw
    have:i=n:=by
     have:=xad hw
     simp at this;omega
    subst this;rw[k5 _ (Or.inr (qzC _)),n4]
    simpa [hbl] using hw
  ·rw[k5 i (by omega),n5 i (by omega)]
theorem xlL (tm:Int):∀ (n i:Nat),i<n->(xcF tm n)[2*i]?=some (ins 6 0 0 0)/\(xcF tm n)[2*i+1]?=some (ins 11 (tm+(i:Nat)) 0 0)
 | 0,i,h=>by omega
 | n+1,i,h=>by
  rw[xel];have hl:=xdT tm n
  by_cases hi:i<n
  ·obtain⟨a,b⟩:=xlL tm n i hi;rw[List.getElem?_append_left (by omega),List.getElem?_append_left (by omega)]
   exact⟨a,b⟩
  ·have:i=n:=by omega
   subst this;rw[List.getElem?_append_right (by omega),List.getElem?_append_right (by omega),hl]
   simp
theorem xoU (ht:xby ent)(h0:0<=m.tz)(tm n p:Nat):∀ (r i:Nat) (f:Fr),i+r=n->f.pc=((p+2*i:Nat):Int)->(∀ (j:Nat) y,(xcF (tm:Int) n)[j]?=some y->f.code[p+j]?=some y)->tm+n<=f.temps.length->(∀ q,q<i->f.temps[tm+q]?=some xa4)->
  ∃ f',Nx f f'/\f'.pc=((p+2*n:Nat):Int)/\f'.stack=f.stack/\(∀ q,q<n->f'.temps[tm+q]?=some xa4)/\(∀ q,q<tm\/tm+n<=q->f'.temps[q]?=f.temps[q]?)/\Goes ent E d m f f'
 | 0,i,f,hr,hp,hc,hn,hd=>by
  obtain rfl:i=n:=by omega
  exact⟨f,.refl f,hp,rfl,hd,fun _ _=>rfl,.refl _ _ _ _ _⟩
 | r+1,i,f,hr,hp,hc,hn,hd=>by
  obtain⟨c6,c11⟩:=xlL (tm:Int) n i (by omega)
  have g1:Goes ent E d m f (Fr.push { f with pc:=f.pc+1 } xa4):=xhn ht h0 hp (hc _ _ c6) (by simp) (xdH (by simp[xan]))
  obtain⟨f1,n1,n2,n3,n4,n5,n6⟩:=xiO (E:=E) (d:=d) (f:=Fr.push { f with pc:=f.pc+1 } xa4) ht h0 (p:=p+2*i+1) (n:=tm+i) (base:=f.stack) (v:=xa4) (a:=(tm:Int)+(i:Nat)) (by simp only[Fr.push,hp];omega) (by have:=hc _ _ c11;simpa [Fr.push,Nat.add_assoc] using this) (by omega) rfl (by simp only[Fr.push];omega)
  obtain⟨f2,k1,k2,k3,k4,k5,k6⟩:=xoU ht h0 tm n p r (i+1) f1 (by omega) (by rw[n2];omega) (fun j y hy=>by rw[n1.code];exact hc j y hy) (by rw[n1.len];exact hn) (fun q hq=>by
   by_cases hqi:q=i
   ·subst hqi;exact n4
   ·rw[n5 _ (by omega)];exact hd q (by omega))
  have nx:Nx f (Fr.push { f with pc:=f.pc+1 } xa4):=⟨rfl,rfl,rfl,rfl,rfl,rfl,rfl⟩
  refine⟨f2,nx.trans (n1.trans k1),k2,k3.trans n3,k4,fun q hq=>?_,g1.trans (n6.trans k6)⟩
  rw[k5 q hq,n5 q (by omega)]
  rfl
end
section
variable {xs:List QC} {sites:List Int} {m:QM}
def bgn (xs:List QC)(sites:List Int)(m:QM)(k:Nat):Nat:=(xah xs sites m k).code.length
theorem xl4 (B:List Int):∀ {k:Nat},k<=m.code.length->(xhk xs sites m B k).length=bgn xs sites m k
 | 0,_=>rfl
 | k+1,h=>by
  rw[xi5 (by omega),List.length_append,List.length_map,xl4 B (k:=k) (by omega)]
  exact (xqe (by omega)).symm
theorem xrW {k:Nat}(hk:k<m.code.length):0<(pcK xs sites m k).length:=by
 have hx:m.code[k]?=some m.code[k]:=List.getElem?_eq_getElem hk
 cases h:xee xs sites m.code.length (xah xs sites m k).code.length (xah xs sites m k).temps k m.code[k] with
 | none=>obtain⟨-,e1,-⟩:=xgm hx h;rw[e1];simp
 | some leaf=>obtain⟨-,e1,-⟩:=xiG hx h;rw[e1,xbK];omega
theorem xiY {k:Nat}(hk:k<m.code.length):bgn xs sites m (k+1)=bgn xs sites m k+(pcK xs sites m k).length:=xqe hk
theorem xnY:∀ {j i:Nat},i<j->j<=m.code.length->bgn xs sites m i<bgn xs sites m j
 | 0,i,h,_=>by omega
 | j+1,i,h,hj=>by
  have h1:=xiY (xs:=xs) (sites:=sites) (m:=m) (k:=j) (by omega)
  have h2:=xrW (xs:=xs) (sites:=sites) (m:=m) (k:=j) (by omega)
  by_cases hij:i=j
  ·subst hij;omega
  ·have:=xnY (j:=j) (i:=i) (by omega) (by omega)
   omega
theorem xr8 {i j:Nat}(hi:i<m.code.length)(hj:j<m.code.length):(bgn xs sites m i:Int)<=bgn xs sites m j ↔ (i:Int)<=j:=by
 constructor
 ·intro h
  rcases Nat.lt_or_ge j i with h' | h'
  ·have:=xnY (xs:=xs) (sites:=sites) (m:=m) h' (by omega);omega
  ·omega
 ·intro h
  rcases Nat.lt_or_ge i j with h' | h'
  ·have:=xnY (xs:=xs) (sites:=sites) (m:=m) h' (by omega);omega
  ·have:i=j:=by omega
   subst this;omega
theorem xlO (B:List Int):∀ {n k:Nat},k<=n->n<=m.code.length->∃ rest,xhk xs sites m B n=xhk xs sites m B k++rest
 | 0,k,h,_=>⟨[],by obtain rfl:k=0:=(by omega);simp⟩
 | n+1,k,h,hn=>by
  by_cases hk:k=n+1
  ·subst hk;exact⟨[],by simp⟩
  ·obtain⟨rest,e⟩:=xlO B (n:=n) (k:=k) (by omega) (by omega)
   exact⟨rest++(pcK xs sites m n).map (xrv xs sites m B n),by rw[xi5 (by omega),e,List.append_assoc]⟩
theorem xn2 (B:List Int){k j:Nat}{y:QI}(hk:k<m.code.length)(hy:(pcK xs sites m k)[j]?=some y):(xhk xs sites m B m.code.length)[bgn xs sites m k+j]?=some (xrv xs sites m B k y):=by
 obtain⟨rest,e⟩:=xlO (xs:=xs) (sites:=sites) (m:=m) B (n:=m.code.length) (k:=k+1) (by omega) (qzC _)
 have hl:=xl4 (xs:=xs) (sites:=sites) (m:=m) B (k:=k) (by omega)
 have hj:=xad hy;rw[e,xi5 hk,List.append_assoc,List.getElem?_append_right (by omega),hl,Nat.add_sub_cancel_left,List.getElem?_append_left (by simpa using hj),List.getElem?_map,hy]
 rfl
theorem xpv (B:List Int){k:Nat}{x:QI}(hx:m.code[k]?=some x)(hw:xc9 xs sites m k=none):(xhk xs sites m B m.code.length)[bgn xs sites m k]?=some (xcW B (xbn x k))/\bgn xs sites m (k+1)=bgn xs sites m k+1:=by
 have hk:=xad hx;have hw':xee xs sites m.code.length (xah xs sites m k).code.length (xah xs sites m k).temps k x=none:=by unfold xc9 at hw;rw[hx] at hw;exact hw
 obtain⟨-,e1,-⟩:=xgm hx hw';have h1:=xn2 (xs:=xs) (sites:=sites) (m:=m) B (k:=k) (j:=0) (y:=xbn x k) hk (by rw[e1];rfl)
 refine⟨?_,by rw[xiY hk,e1];rfl⟩
 have e2:xrv xs sites m B k (xbn x k)=xcW B (xbn x k):=by unfold xrv;rw[hw];simp
 rw[← e2]
 exact h1
theorem xjN (B:List Int){k:Nat}{x:QI}{leaf:QM}(hx:m.code[k]?=some x)(hw:xc9 xs sites m k=some leaf):(∀ (j:Nat) y,(xbC leaf (ins 18 (sites.getD k (-1)) leaf.args k) (xah xs sites m k).temps (bgn xs sites m k))[j]?=some y->(xhk xs sites m B m.code.length)[bgn xs sites m k+j]?=some y)/\bgn xs sites m (k+1)=bgn xs sites m k+(xbC leaf (ins 18 (sites.getD k (-1)) leaf.args k) (xah xs sites m k).temps (bgn xs sites m k)).length/\(xah xs sites m (k+1)).temps=(xah xs sites m k).temps+1+leaf.args+leaf.temps:=by
 have hk:=xad hx;have hw':xee xs sites m.code.length (xah xs sites m k).code.length (xah xs sites m k).temps k x=some leaf:=by unfold xc9 at hw;rw[hx] at hw;exact hw
 obtain⟨-,e1,e2,-⟩:=xiG hx hw';refine⟨fun j y hy=>?_,?_,e2⟩
 ·rw[← xgB leaf _ rfl,List.getElem?_map] at hy;obtain⟨z,hz,rfl⟩:=Option.map_eq_some_iff.1 hy;have h1:=xn2 (xs:=xs) (sites:=sites) (m:=m) B (k:=k) (j:=j) (y:=z) hk (by rw[e1];exact hz)
  rw[h1];unfold xrv;rw[hw]
  rfl
 ·rw[xiY hk,e1,xbK,xbK]
theorem xeh (h:∀ (k:Nat) leaf,xc9 xs sites m k=some leaf->0<=leaf.args/\0<=leaf.temps):∀ {n k:Nat},k<=n->n<=m.code.length->(xah xs sites m k).temps<=(xah xs sites m n).temps
 | 0,k,hk,_=>by obtain rfl:k=0:=(by omega);exact Int.le_refl _
 | n+1,k,hk,hn=>by
  by_cases e:k=n+1
  ·subst e;exact Int.le_refl _
  ·have ih:=xeh h (n:=n) (k:=k) (by omega) (by omega)
   have hx:m.code[n]?=some m.code[n]:=List.getElem?_eq_getElem (by omega)
   cases hw:xc9 xs sites m n with
   | none=>
    have hw':xee xs sites m.code.length (xah xs sites m n).code.length (xah xs sites m n).temps n m.code[n]=none:=by unfold xc9 at hw;rw[hx] at hw;exact hw
    obtain⟨-,-,e2,-⟩:=xgm hx hw';rw[e2];exact ih
   | some leaf=>
    obtain⟨-,-,e2⟩:=xjN (xs:=xs) (sites:=sites) [] hx hw;have:=h n leaf hw;rw[e2];omega
end
end Go.Proofs.YtbafokihegegiaaGreatDoor
