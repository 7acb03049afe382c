/- A part. -/
import Derived.Test.YtapbeiccodnniaaGreatM3
namespace Go.Proofs.YtapbeiccodnniaaGreat
open Go.ChangeShapes Go.WideShapes Go.ChangeAt Go.RowKit
set_option linter.unusedSimpArgs false
set_option linter.unusedVariables false
set_option maxHeartbeats 8000000
set_option maxRecDepth 8000
def nbE (S n:Int)(m:QM)(x:QI):Option (Int × Int):=
 if x.op=1\/x.op=6\/x.op=7\/x.op=8\/x.op=9\/x.op=10\/x.op=17 then some (0,0)
 else if x.op=2 then some (0,m.args-1)
 else if x.op=3\/x.op=11 then some (0,m.temps-1)
 else if x.op=4\/x.op=12 then some (0,S-1)
 else if x.op=5 then some (-1073741824,1073741824)
 else if x.op=13 then some (0,n-1)
 else if x.op=14 then some (0,4)
 else if x.op=15\/x.op=16 then some (0,(m.code.length:Int)-1)
 else none
def xoo (S n:Int)(m:QM)(x:QI):Int:=
 match nbE S n m x with
 | none=>1
 | some b=>if x.op=13/\0<x.a/\x.a<4 then 3 else if x.a<b.1\/b.2<x.a then 3 else if rnB x=false\/x.b≠0\/x.c≠0 then 2 else 0
theorem xnt {S n:Int}{m:QM}{x:QI}(hn:1<=n)(hS:IntKind.i64.wrap (S-1)=S-1):xoo S n m x=xgk S n m x:=by
 unfold xoo xgk nbE raE inR;rw[hS];obtain⟨op,a,b,c,nm⟩:=x;simp only;generalize rnB ⟨op,a,b,c,nm⟩=rn
 by_cases h0:1<=op/\op<=17
 ·obtain⟨h1,h2⟩:=h0;have:op=1\/op=2\/op=3\/op=4\/op=5\/op=6\/op=7\/op=8\/op=9\/op=10\/op=11\/op=12\/op=13\/op=14\/op=15\/op=16\/op=17:=by omega
  rcases this with rfl | rfl | rfl | rfl | rfl | rfl | rfl | rfl | rfl | rfl | rfl | rfl | rfl | rfl | rfl | rfl | rfl
  all_goals simp
  all_goals (repeat' split)<;>first | rfl | omega
 ·have h1:¬ (op=1\/op=6\/op=7\/op=8\/op=9\/op=10\/op=17):=by omega
  have h2:¬ op=2:=by omega
  have h3:¬ (op=3\/op=11):=by omega
  have h4:¬ (op=4\/op=12):=by omega
  have h5:¬ op=5:=by omega
  have h6:¬ op=13:=by omega
  have h7:¬ op=14:=by omega
  have h8:¬ (op=15\/op=16):=by omega
  rw[if_neg h1,if_neg h2,if_neg h3,if_neg h4,if_neg h5,if_neg h6,if_neg h7,if_neg h8,show decide (1<=op/\op<=17)=false from by simpa using h0]
  simp
theorem xir {P:Nat->Prop}(X:QW)(c:Int)(m:QM)(x:QI)(cv hv mv:Value)(w:World)(hh:xai P w cv X.cz)(hH:xaC P w hv X.heap)(hM:xa5 P w mv m.code)(ho:xbL X.cz)(ha:0<=m.args/\m.args<=4)(ht:0<=m.temps/\m.temps<=6)(hn:x.name.size<=140737488351232):Calls Tryz.prog 37 #[WV cv hv X.ez,.int .i64 c,MV m mv,IV x] w fun e w'=>e=.returned (.int .i64 (xoo (xaP X.cz c) X.cz.length m x))/\Below w.heap.size w w':=by
 obtain⟨ad,cap,rfl,-,-,hby,-⟩:=id hh;obtain⟨ah,ch,rfl⟩:=hH.get;obtain⟨am,cm,rfl,-,-,hcb,-⟩:=id hM;have hsl:=xcv ho (X.cz.length+1) c 0 (by omega)
 have hsl1:0<=xaP X.cz c:=hsl.1;have hsl2:xaP X.cz c<=0+6*((X.cz.length+1:Nat):Int):=hsl.2;have hw1:IntKind.i64.wrap (m.args-1)=m.args-1:=xaE (by omega) (by omega)
 have hw2:IntKind.i64.wrap (m.temps-1)=m.temps-1:=xaE (by omega) (by omega)
 have hw3:IntKind.i64.wrap ((m.code.length:Int)-1)=(m.code.length:Int)-1:=xaE (by omega) (by omega)
 have hw4:IntKind.i64.wrap ((X.cz.length:Int)-1)=(X.cz.length:Int)-1:=xaE (by omega) (by omega)
 have hw5:IntKind.i64.wrap (xaP X.cz c-1)=xaP X.cz c-1:=xaE (by omega) (by omega)
 have hb3:=xfv w (Obj.cells #[Value.slice ad X.cz.length cap,Value.slice ah X.heap.length ch,Value.int .i64 X.ez] 25) (Obj.cells #[Value.string m.name,Value.int .i64 m.args,Value.int .i64 m.temps,Value.int .i64 m.prim,Value.slice am m.code.length cm] 59) (Obj.cells #[Value.int .i64 x.op,Value.int .i64 x.a,Value.int .i64 x.b,Value.int .i64 x.c,Value.string x.name] 76);have xb:(((w.alloc (Obj.cells #[Value.slice ad X.cz.length cap,Value.slice ah X.heap.length ch,Value.int .i64 X.ez] 25)).alloc (Obj.cells #[Value.string m.name,Value.int .i64 m.args,Value.int .i64 m.temps,Value.int .i64 m.prim,Value.slice am m.code.length cm] 59)).alloc (Obj.cells #[Value.int .i64 x.op,Value.int .i64 x.a,Value.int .i64 x.b,Value.int .i64 x.c,Value.string x.name] 76)).heap[w.heap.size+1+1]?=some (.cells #[Value.int .i64 x.op,Value.int .i64 x.a,Value.int .i64 x.b,Value.int .i64 x.c,Value.string x.name] 76 (0,0)):=xba _ _ _ (by simp)
 have mb:(((w.alloc (Obj.cells #[Value.slice ad X.cz.length cap,Value.slice ah X.heap.length ch,Value.int .i64 X.ez] 25)).alloc (Obj.cells #[Value.string m.name,Value.int .i64 m.args,Value.int .i64 m.temps,Value.int .i64 m.prim,Value.slice am m.code.length cm] 59)).alloc (Obj.cells #[Value.int .i64 x.op,Value.int .i64 x.a,Value.int .i64 x.b,Value.int .i64 x.c,Value.string x.name] 76)).heap[w.heap.size+1]?=some (.cells #[Value.string m.name,Value.int .i64 m.args,Value.int .i64 m.temps,Value.int .i64 m.prim,Value.slice am m.code.length cm] 59 (0,0)):=((xaj _ _).block _ (by simp)).trans (xba _ _ _ (by simp))
 have wb:(((w.alloc (Obj.cells #[Value.slice ad X.cz.length cap,Value.slice ah X.heap.length ch,Value.int .i64 X.ez] 25)).alloc (Obj.cells #[Value.string m.name,Value.int .i64 m.args,Value.int .i64 m.temps,Value.int .i64 m.prim,Value.slice am m.code.length cm] 59)).alloc (Obj.cells #[Value.int .i64 x.op,Value.int .i64 x.a,Value.int .i64 x.b,Value.int .i64 x.c,Value.string x.name] 76)).heap[w.heap.size]?=some (.cells #[Value.slice ad X.cz.length cap,Value.slice ah X.heap.length ch,Value.int .i64 X.ez] 25 (0,0)):=((xca _ _ _).block _ (by simp)).trans (xba _ _ _ rfl)
 have HE:Hid (xoo (xaP X.cz c) X.cz.length m x=match nbE (xaP X.cz c) X.cz.length m x with | none=>1 | some b=>if x.op=13/\0<x.a/\x.a<4 then 3 else if x.a<b.1\/b.2<x.a then 3 else if rnB x=false\/x.b≠0\/x.c≠0 then 2 else 0):=rfl
 generalize xoo (xaP X.cz c) X.cz.length m x=R at *;have HRN:Hid (rnB x=if x.op=14 then xbf x.name else xmH x.name):=rfl;go_enter Tryz.func37,Tryz.ntmps37
 cases hnb:nbE (xaP X.cz c) X.cz.length m x with
 | none=>
  have hR:Hid (R=1):=by show _=_;rw[HE.out,hnb]
  obtain⟨op,xa,xbb,xc,nm⟩:=x;unfold nbE at hnb;simp only at hnb
  (repeat' split at hnb)<;>first | cases hnb | skip
  rename_i h1 h2 h3 h4 h5 h6 h7 h8;have n1:¬ op=1:=by omega
  have n2:¬ op=6:=by omega
  have n3:¬ op=7:=by omega
  have n4:¬ op=8:=by omega
  have n5:¬ op=9:=by omega
  have n6:¬ op=10:=by omega
  have n7:¬ op=17:=by omega
  have n8:¬ op=3:=by omega
  have n9:¬ op=11:=by omega
  have n10:¬ op=4:=by omega
  have n11:¬ op=12:=by omega
  have n12:¬ op=15:=by omega
  have n13:¬ op=16:=by omega
  go_wp2
  go_ret
  exact⟨xak hR.out.symm,hb3⟩
 | some b=>
  obtain⟨b1,b2⟩:=b;have HE2:Hid (R=if x.op=13/\0<x.a/\x.a<4 then 3 else if x.a<b1\/b2<x.a then 3 else if rnB x=false\/x.b≠0\/x.c≠0 then 2 else 0):=by show _=_;rw[HE.out,hnb]
  obtain⟨op,xa,xbb,xc,nm⟩:=x;simp only at HE2 HRN;unfold nbE at hnb;simp only at hnb
  have hops:op=1\/op=2\/op=3\/op=4\/op=5\/op=6\/op=7\/op=8\/op=9\/op=10\/op=11\/op=12\/op=13\/op=14\/op=15\/op=16\/op=17:=by
   (repeat' split at hnb)<;>first | omega | cases hnb
  rcases hops with rfl | rfl | rfl | rfl | rfl | rfl | rfl | rfl | rfl | rfl | rfl | rfl | rfl | rfl | rfl | rfl | rfl
  ·simp at hnb
   obtain⟨rfl,rfl⟩:=hnb;have HNO:Hid (¬ ((1:Int)=13/\0<xa/\xa<4)):=fun h=>absurd h.1 (by decide)
   by_cases c1:xa<(0:Int)
   ·go_wp2
    go_ret
    exact⟨xak (by rw[HE2.out,if_neg HNO.out,if_pos (Or.inl c1)]),hb3⟩
   ·have c1':decide (xa<(0:Int))=false:=by simpa using c1
    by_cases c2:(0:Int)<xa
    ·go_wp2
     go_ret
     exact⟨xak (by rw[HE2.out,if_neg HNO.out,if_pos (Or.inr c2)]),hb3⟩
    ·have c2':decide ((0:Int)<xa)=false:=by simpa using c2
     have HE3:Hid (R=if rnB ⟨1,xa,xbb,xc,nm⟩=false\/xbb≠0\/xc≠0 then 2 else 0):=by show _=_;rw[HE2.out,if_neg HNO.out,if_neg (by omega)]
     have HRE:Hid (rnB ⟨1,xa,xbb,xc,nm⟩=nm.toList.isEmpty):=rfl
     cases e1:nm.toList.isEmpty
     ·go_wp2
      go_ret
      exact⟨xak (by rw[HE3.out,if_pos (Or.inl (HRE.out.trans e1))]),hb3⟩
     ·by_cases c3:xbb=0
      ·by_cases c4:xc=0
       ·subst c3 c4;go_wp2
        go_ret
        exact⟨xak (by rw[HE3.out,if_neg (by rw[HRE.out,e1];simp)]),hb3⟩
       ·have c4':(xc != 0)=true:=by simpa using c4
        subst c3;go_wp2
        go_ret
        exact⟨xak (by rw[HE3.out,if_pos (Or.inr (Or.inr c4))]),hb3⟩
      ·have c3':(xbb != 0)=true:=by simpa using c3
       go_wp2
       go_ret
       exact⟨xak (by rw[HE3.out,if_pos (Or.inr (Or.inl c3))]),hb3⟩
  ·simp at hnb
   obtain⟨rfl,rfl⟩:=hnb;have HNO:Hid (¬ ((2:Int)=13/\0<xa/\xa<4)):=fun h=>absurd h.1 (by decide)
   by_cases c1:xa<(0:Int)
   ·go_wp2
    go_ret
    exact⟨xak (by rw[HE2.out,if_neg HNO.out,if_pos (Or.inl c1)]),hb3⟩
   ·have c1':decide (xa<(0:Int))=false:=by simpa using c1
    by_cases c2:m.args-1<xa
    ·go_wp2
     go_ret
     exact⟨xak (by rw[HE2.out,if_neg HNO.out,if_pos (Or.inr c2)]),hb3⟩
    ·have c2':decide (m.args-1<xa)=false:=by simpa using c2
     have HE3:Hid (R=if rnB ⟨2,xa,xbb,xc,nm⟩=false\/xbb≠0\/xc≠0 then 2 else 0):=by show _=_;rw[HE2.out,if_neg HNO.out,if_neg (by omega)]
     have HRE:Hid (rnB ⟨2,xa,xbb,xc,nm⟩=nm.toList.isEmpty):=rfl
     cases e1:nm.toList.isEmpty
     ·go_wp2
      go_ret
      exact⟨xak (by rw[HE3.out,if_pos (Or.inl (HRE.out.trans e1))]),hb3⟩
     ·by_cases c3:xbb=0
      ·by_cases c4:xc=0
       ·subst c3 c4;go_wp2
        go_ret
        exact⟨xak (by rw[HE3.out,if_neg (by rw[HRE.out,e1];simp)]),hb3⟩
       ·have c4':(xc != 0)=true:=by simpa using c4
        subst c3;go_wp2
        go_ret
        exact⟨xak (by rw[HE3.out,if_pos (Or.inr (Or.inr c4))]),hb3⟩
      ·have c3':(xbb != 0)=true:=by simpa using c3
       go_wp2
       go_ret
       exact⟨xak (by rw[HE3.out,if_pos (Or.inr (Or.inl c3))]),hb3⟩
  ·simp at hnb
   obtain⟨rfl,rfl⟩:=hnb;have HNO:Hid (¬ ((3:Int)=13/\0<xa/\xa<4)):=fun h=>absurd h.1 (by decide)
   by_cases c1:xa<(0:Int)
   ·go_wp2
    go_ret
    exact⟨xak (by rw[HE2.out,if_neg HNO.out,if_pos (Or.inl c1)]),hb3⟩
   ·have c1':decide (xa<(0:Int))=false:=by simpa using c1
    by_cases c2:m.temps-1<xa
    ·go_wp2
     go_ret
     exact⟨xak (by rw[HE2.out,if_neg HNO.out,if_pos (Or.inr c2)]),hb3⟩
    ·have c2':decide (m.temps-1<xa)=false:=by simpa using c2
     have HE3:Hid (R=if rnB ⟨3,xa,xbb,xc,nm⟩=false\/xbb≠0\/xc≠0 then 2 else 0):=by show _=_;rw[HE2.out,if_neg HNO.out,if_neg (by omega)]
     have HRE:Hid (rnB ⟨3,xa,xbb,xc,nm⟩=nm.toList.isEmpty):=rfl
     cases e1:nm.toList.isEmpty
     ·go_wp2
      go_ret
      exact⟨xak (by rw[HE3.out,if_pos (Or.inl (HRE.out.trans e1))]),hb3⟩
     ·by_cases c3:xbb=0
      ·by_cases c4:xc=0
       ·subst c3 c4;go_wp2
        go_ret
        exact⟨xak (by rw[HE3.out,if_neg (by rw[HRE.out,e1];simp)]),hb3⟩
       ·have c4':(xc != 0)=true:=by simpa using c4
        subst c3;go_wp2
        go_ret
        exact⟨xak (by rw[HE3.out,if_pos (Or.inr (Or.inr c4))]),hb3⟩
      ·have c3':(xbb != 0)=true:=by simpa using c3
       go_wp2
       go_ret
       exact⟨xak (by rw[HE3.out,if_pos (Or.inr (Or.inl c3))]),hb3⟩
  ·simp at hnb
   obtain⟨rfl,rfl⟩:=hnb;have HNO:Hid (¬ ((4:Int)=13/\0<xa/\xa<4)):=fun h=>absurd h.1 (by decide)
   go_wp2_with fail;refine (xcp X c _ _ _ (hh.later xaz hb3) (hH.later xaD hb3) ho).mono ?_;rintro e w0 ⟨rfl,hb0⟩;replace hb3:=xah hb3 hb0;replace xb:=xac xb hb0;have xcc:∀ q,w0.cell? ⟨w.heap.size+1+1,q,none⟩=(#[Value.int .i64 4,Value.int .i64 xa,Value.int .i64 xbb,Value.int .i64 xc,Value.string nm]:Array Value)[q]?:=fun q=>by rw[qzB xb]
   clear hb0
   by_cases c1:xa<(0:Int)
   ·go_wp2
    go_ret
    exact⟨xak (by rw[HE2.out,if_neg HNO.out,if_pos (Or.inl c1)]),hb3⟩
   ·have c1':decide (xa<(0:Int))=false:=by simpa using c1
    by_cases c2:xaP X.cz c-1<xa
    ·go_wp2
     go_ret
     exact⟨xak (by rw[HE2.out,if_neg HNO.out,if_pos (Or.inr c2)]),hb3⟩
    ·have c2':decide (xaP X.cz c-1<xa)=false:=by simpa using c2
     have HE3:Hid (R=if rnB ⟨4,xa,xbb,xc,nm⟩=false\/xbb≠0\/xc≠0 then 2 else 0):=by show _=_;rw[HE2.out,if_neg HNO.out,if_neg (by omega)]
     have HRE:Hid (rnB ⟨4,xa,xbb,xc,nm⟩=nm.toList.isEmpty):=rfl
     cases e1:nm.toList.isEmpty
     ·go_wp2
      go_ret
      exact⟨xak (by rw[HE3.out,if_pos (Or.inl (HRE.out.trans e1))]),hb3⟩
     ·by_cases c3:xbb=0
      ·by_cases c4:xc=0
       ·subst c3 c4;go_wp2
        go_ret
        exact⟨xak (by rw[HE3.out,if_neg (by rw[HRE.out,e1];simp)]),hb3⟩
       ·have c4':(xc != 0)=true:=by simpa using c4
        subst c3;go_wp2
        go_ret
        exact⟨xak (by rw[HE3.out,if_pos (Or.inr (Or.inr c4))]),hb3⟩
      ·have c3':(xbb != 0)=true:=by simpa using c3
       go_wp2
       go_ret
       exact⟨xak (by rw[HE3.out,if_pos (Or.inr (Or.inl c3))]),hb3⟩
  ·simp at hnb
   obtain⟨rfl,rfl⟩:=hnb;have HNO:Hid (¬ ((5:Int)=13/\0<xa/\xa<4)):=fun h=>absurd h.1 (by decide)
   by_cases c1:xa<(-1073741824:Int)
   ·go_wp2
    go_ret
    exact⟨xak (by rw[HE2.out,if_neg HNO.out,if_pos (Or.inl c1)]),hb3⟩
   ·have c1':decide (xa<(-1073741824:Int))=false:=by simpa using c1
    by_cases c2:(1073741824:Int)<xa
    ·go_wp2
     go_ret
     exact⟨xak (by rw[HE2.out,if_neg HNO.out,if_pos (Or.inr c2)]),hb3⟩
    ·have c2':decide ((1073741824:Int)<xa)=false:=by simpa using c2
     have HE3:Hid (R=if rnB ⟨5,xa,xbb,xc,nm⟩=false\/xbb≠0\/xc≠0 then 2 else 0):=by show _=_;rw[HE2.out,if_neg HNO.out,if_neg (by omega)]
     have HRE:Hid (rnB ⟨5,xa,xbb,xc,nm⟩=nm.toList.isEmpty):=rfl
     cases e1:nm.toList.isEmpty
     ·go_wp2
      go_ret
      exact⟨xak (by rw[HE3.out,if_pos (Or.inl (HRE.out.trans e1))]),hb3⟩
     ·by_cases c3:xbb=0
      ·by_cases c4:xc=0
       ·subst c3 c4;go_wp2
        go_ret
        exact⟨xak (by rw[HE3.out,if_neg (by rw[HRE.out,e1];simp)]),hb3⟩
       ·have c4':(xc != 0)=true:=by simpa using c4
        subst c3;go_wp2
        go_ret
        exact⟨xak (by rw[HE3.out,if_pos (Or.inr (Or.inr c4))]),hb3⟩
      ·have c3':(xbb != 0)=true:=by simpa using c3
       go_wp2
       go_ret
       exact⟨xak (by rw[HE3.out,if_pos (Or.inr (Or.inl c3))]),hb3⟩
  ·simp at hnb
   obtain⟨rfl,rfl⟩:=hnb;have HNO:Hid (¬ ((6:Int)=13/\0<xa/\xa<4)):=fun h=>absurd h.1 (by decide)
   by_cases c1:xa<(0:Int)
   ·go_wp2
    go_ret
    exact⟨xak (by rw[HE2.out,if_neg HNO.out,if_pos (Or.inl c1)]),hb3⟩
   ·have c1':decide (xa<(0:Int))=false:=by simpa using c1
    by_cases c2:(0:Int)<xa
    ·go_wp2
     go_ret
     exact⟨xak (by rw[HE2.out,if_neg HNO.out,if_pos (Or.inr c2)]),hb3⟩
    ·have c2':decide ((0:Int)<xa)=false:=by simpa using c2
     have HE3:Hid (R=if rnB ⟨6,xa,xbb,xc,nm⟩=false\/xbb≠0\/xc≠0 then 2 else 0):=by show _=_;rw[HE2.out,if_neg HNO.out,if_neg (by omega)]
     have HRE:Hid (rnB ⟨6,xa,xbb,xc,nm⟩=nm.toList.isEmpty):=rfl
     cases e1:nm.toList.isEmpty
     ·go_wp2
      go_ret
      exact⟨xak (by rw[HE3.out,if_pos (Or.inl (HRE.out.trans e1))]),hb3⟩
     ·by_cases c3:xbb=0
      ·by_cases c4:xc=0
       ·subst c3 c4;go_wp2
        go_ret
        exact⟨xak (by rw[HE3.out,if_neg (by rw[HRE.out,e1];simp)]),hb3⟩
       ·have c4':(xc != 0)=true:=by simpa using c4
        subst c3;go_wp2
        go_ret
        exact⟨xak (by rw[HE3.out,if_pos (Or.inr (Or.inr c4))]),hb3⟩
      ·have c3':(xbb != 0)=true:=by simpa using c3
       go_wp2
       go_ret
       exact⟨xak (by rw[HE3.out,if_pos (Or.inr (Or.inl c3))]),hb3⟩
  ·simp at hnb
   obtain⟨rfl,rfl⟩:=hnb;have HNO:Hid (¬ ((7:Int)=13/\0<xa/\xa<4)):=fun h=>absurd h.1 (by decide)
   by_cases c1:xa<(0:Int)
   ·go_wp2
    go_ret
    exact⟨xak (by rw[HE2.out,if_neg HNO.out,if_pos (Or.inl c1)]),hb3⟩
   ·have c1':decide (xa<(0:Int))=false:=by simpa using c1
    by_cases c2:(0:Int)<xa
    ·go_wp2
     go_ret
     exact⟨xak (by rw[HE2.out,if_neg HNO.out,if_pos (Or.inr c2)]),hb3⟩
    ·have c2':decide ((0:Int)<xa)=false:=by simpa using c2
     have HE3:Hid (R=if rnB ⟨7,xa,xbb,xc,nm⟩=false\/xbb≠0\/xc≠0 then 2 else 0):=by show _=_;rw[HE2.out,if_neg HNO.out,if_neg (by omega)]
     have HRE:Hid (rnB ⟨7,xa,xbb,xc,nm⟩=nm.toList.isEmpty):=rfl
     cases e1:nm.toList.isEmpty
     ·go_wp2
      go_ret
      exact⟨xak (by rw[HE3.out,if_pos (Or.inl (HRE.out.trans e1))]),hb3⟩
     ·by_cases c3:xbb=0
      ·by_cases c4:xc=0
       ·subst c3 c4;go_wp2
        go_ret
        exact⟨xak (by rw[HE3.out,if_neg (by rw[HRE.out,e1];simp)]),hb3⟩
       ·have c4':(xc != 0)=true:=by simpa using c4
        subst c3;go_wp2
        go_ret
        exact⟨xak (by rw[HE3.out,if_pos (Or.inr (Or.inr c4))]),hb3⟩
      ·have c3':(xbb != 0)=true:=by simpa using c3
       go_wp2
       go_ret
       exact⟨xak (by rw[HE3.out,if_pos (Or.inr (Or.inl c3))]),hb3⟩
  ·simp at hnb
   obtain⟨rfl,rfl⟩:=hnb;have HNO:Hid (¬ ((8:Int)=13/\0<xa/\xa<4)):=fun h=>absurd h.1 (by decide)
   by_cases c1:xa<(0:Int)
   ·go_wp2
    go_ret
    exact⟨xak (by rw[HE2.out,if_neg HNO.out,if_pos (Or.inl c1)]),hb3⟩
   ·have c1':decide (xa<(0:Int))=false:=by simpa using c1
    by_cases c2:(0:Int)<xa
    ·go_wp2
     go_ret
     exact⟨xak (by rw[HE2.out,if_neg HNO.out,if_pos (Or.inr c2)]),hb3⟩
    ·have c2':decide ((0:Int)<xa)=false:=by simpa using c2
     have HE3:Hid (R=if rnB ⟨8,xa,xbb,xc,nm⟩=false\/xbb≠0\/xc≠0 then 2 else 0):=by show _=_;rw[HE2.out,if_neg HNO.out,if_neg (by omega)]
     have HRE:Hid (rnB ⟨8,xa,xbb,xc,nm⟩=nm.toList.isEmpty):=rfl
     cases e1:nm.toList.isEmpty
     ·go_wp2
      go_ret
      exact⟨xak (by rw[HE3.out,if_pos (Or.inl (HRE.out.trans e1))]),hb3⟩
     ·by_cases c3:xbb=0
      ·by_cases c4:xc=0
       ·subst c3 c4;go_wp2
        go_ret
        exact⟨xak (by rw[HE3.out,if_neg (by rw[HRE.out,e1];simp)]),hb3⟩
       ·have c4':(xc != 0)=true:=by simpa using c4
        subst c3;go_wp2
        go_ret
        exact⟨xak (by rw[HE3.out,if_pos (Or.inr (Or.inr c4))]),hb3⟩
      ·have c3':(xbb != 0)=true:=by simpa using c3
       go_wp2
       go_ret
       exact⟨xak (by rw[HE3.out,if_pos (Or.inr (Or.inl c3))]),hb3⟩
  ·simp at hnb
   obtain⟨rfl,rfl⟩:=hnb;have HNO:Hid (¬ ((9:Int)=13/\0<xa/\xa<4)):=fun h=>absurd h.1 (by decide)
   by_cases c1:xa<(0:Int)
   ·go_wp2
    go_ret
    exact⟨xak (by rw[HE2.out,if_neg HNO.out,if_pos (Or.inl c1)]),hb3⟩
   ·have c1':decide (xa<(0:Int))=false:=by simpa using c1
    by_cases c2:(0:Int)<xa
    ·go_wp2
     go_ret
     exact⟨xak (by rw[HE2.out,if_neg HNO.out,if_pos (Or.inr c2)]),hb3⟩
    ·have c2':decide ((0:Int)<xa)=false:=by simpa using c2
     have HE3:Hid (R=if rnB ⟨9,xa,xbb,xc,nm⟩=false\/xbb≠0\/xc≠0 then 2 else 0):=by show _=_;rw[HE2.out,if_neg HNO.out,if_neg (by omega)]
     have HRE:Hid (rnB ⟨9,xa,xbb,xc,nm⟩=nm.toList.isEmpty):=rfl
     cases e1:nm.toList.isEmpty
     ·go_wp2
      go_ret
      exact⟨xak (by rw[HE3.out,if_pos (Or.inl (HRE.out.trans e1))]),hb3⟩
     ·by_cases c3:xbb=0
      ·by_cases c4:xc=0
       ·subst c3 c4;go_wp2
        go_ret
        exact⟨xak (by rw[HE3.out,if_neg (by rw[HRE.out,e1];simp)]),hb3⟩
       ·have c4':(xc != 0)=true:=by simpa using c4
        subst c3;go_wp2
        go_ret
        exact⟨xak (by rw[HE3.out,if_pos (Or.inr (Or.inr c4))]),hb3⟩
      ·have c3':(xbb != 0)=true:=by simpa using c3
       go_wp2
       go_ret
       exact⟨xak (by rw[HE3.out,if_pos (Or.inr (Or.inl c3))]),hb3⟩
  ·simp at hnb
   obtain⟨rfl,rfl⟩:=hnb;have HNO:Hid (¬ ((10:Int)=13/\0<xa/\xa<4)):=fun h=>absurd h.1 (by decide)
   by_cases c1:xa<(0:Int)
   ·go_wp2
    go_ret
    exact⟨xak (by rw[HE2.out,if_neg HNO.out,if_pos (Or.inl c1)]),hb3⟩
   ·have c1':decide (xa<(0:Int))=false:=by simpa using c1
    by_cases c2:(0:Int)<xa
    ·go_wp2
     go_ret
     exact⟨xak (by rw[HE2.out,if_neg HNO.out,if_pos (Or.inr c2)]),hb3⟩
    ·have c2':decide ((0:Int)<xa)=false:=by simpa using c2
     have HE3:Hid (R=if rnB ⟨10,xa,xbb,xc,nm⟩=false\/xbb≠0\/xc≠0 then 2 else 0):=by show _=_;rw[HE2.out,if_neg HNO.out,if_neg (by omega)]
     have HRE:Hid (rnB ⟨10,xa,xbb,xc,nm⟩=nm.toList.isEmpty):=rfl
     cases e1:nm.toList.isEmpty
     ·go_wp2
      go_ret
      exact⟨xak (by rw[HE3.out,if_pos (Or.inl (HRE.out.trans e1))]),hb3⟩
     ·by_cases c3:xbb=0
      ·by_cases c4:xc=0
       ·subst c3 c4;go_wp2
        go_ret
        exact⟨xak (by rw[HE3.out,if_neg (by rw[HRE.out,e1];simp)]),hb3⟩
       ·have c4':(xc != 0)=true:=by simpa using c4
        subst c3;go_wp2
        go_ret
        exact⟨xak (by rw[HE3.out,if_pos (Or.inr (Or.inr c4))]),hb3⟩
      ·have c3':(xbb != 0)=true:=by simpa using c3
       go_wp2
       go_ret
       exact⟨xak (by rw[HE3.out,if_pos (Or.inr (Or.inl c3))]),hb3⟩
  ·simp at hnb
   obtain⟨rfl,rfl⟩:=hnb;have HNO:Hid (¬ ((11:Int)=13/\0<xa/\xa<4)):=fun h=>absurd h.1 (by decide)
   by_cases c1:xa<(0:Int)
   ·go_wp2
    go_ret
    exact⟨xak (by rw[HE2.out,if_neg HNO.out,if_pos (Or.inl c1)]),hb3⟩
   ·have c1':decide (xa<(0:Int))=false:=by simpa using c1
    by_cases c2:m.temps-1<xa
    ·go_wp2
     go_ret
     exact⟨xak (by rw[HE2.out,if_neg HNO.out,if_pos (Or.inr c2)]),hb3⟩
    ·have c2':decide (m.temps-1<xa)=false:=by simpa using c2
     have HE3:Hid (R=if rnB ⟨11,xa,xbb,xc,nm⟩=false\/xbb≠0\/xc≠0 then 2 else 0):=by show _=_;rw[HE2.out,if_neg HNO.out,if_neg (by omega)]
     have HRE:Hid (rnB ⟨11,xa,xbb,xc,nm⟩=nm.toList.isEmpty):=rfl
     cases e1:nm.toList.isEmpty
     ·go_wp2
      go_ret
      exact⟨xak (by rw[HE3.out,if_pos (Or.inl (HRE.out.trans e1))]),hb3⟩
     ·by_cases c3:xbb=0
      ·by_cases c4:xc=0
       ·subst c3 c4;go_wp2
        go_ret
        exact⟨xak (by rw[HE3.out,if_neg (by rw[HRE.out,e1];simp)]),hb3⟩
       ·have c4':(xc != 0)=true:=by simpa using c4
        subst c3;go_wp2
        go_ret
        exact⟨xak (by rw[HE3.out,if_pos (Or.inr (Or.inr c4))]),hb3⟩
      ·have c3':(xbb != 0)=true:=by simpa using c3
       go_wp2
       go_ret
       exact⟨xak (by rw[HE3.out,if_pos (Or.inr (Or.inl c3))]),hb3⟩
  ·simp at hnb
   obtain⟨rfl,rfl⟩:=hnb;have HNO:Hid (¬ ((12:Int)=13/\0<xa/\xa<4)):=fun h=>absurd h.1 (by decide)
   go_wp2_with fail;refine (xcp X c _ _ _ (hh.later xaz hb3) (hH.later xaD hb3) ho).mono ?_;rintro e w0 ⟨rfl,hb0⟩;replace hb3:=xah hb3 hb0;replace xb:=xac xb hb0;have xcc:∀ q,w0.cell? ⟨w.heap.size+1+1,q,none⟩=(#[Value.int .i64 12,Value.int .i64 xa,Value.int .i64 xbb,Value.int .i64 xc,Value.string nm]:Array Value)[q]?:=fun q=>by rw[qzB xb]
   clear hb0
   by_cases c1:xa<(0:Int)
   ·go_wp2
    go_ret
    exact⟨xak (by rw[HE2.out,if_neg HNO.out,if_pos (Or.inl c1)]),hb3⟩
   ·have c1':decide (xa<(0:Int))=false:=by simpa using c1
    by_cases c2:xaP X.cz c-1<xa
    ·go_wp2
     go_ret
     exact⟨xak (by rw[HE2.out,if_neg HNO.out,if_pos (Or.inr c2)]),hb3⟩
    ·have c2':decide (xaP X.cz c-1<xa)=false:=by simpa using c2
     have HE3:Hid (R=if rnB ⟨12,xa,xbb,xc,nm⟩=false\/xbb≠0\/xc≠0 then 2 else 0):=by show _=_;rw[HE2.out,if_neg HNO.out,if_neg (by omega)]
     have HRE:Hid (rnB ⟨12,xa,xbb,xc,nm⟩=nm.toList.isEmpty):=rfl
     cases e1:nm.toList.isEmpty
     ·go_wp2
      go_ret
      exact⟨xak (by rw[HE3.out,if_pos (Or.inl (HRE.out.trans e1))]),hb3⟩
     ·by_cases c3:xbb=0
      ·by_cases c4:xc=0
       ·subst c3 c4;go_wp2
        go_ret
        exact⟨xak (by rw[HE3.out,if_neg (by rw[HRE.out,e1];simp)]),hb3⟩
       ·have c4':(xc != 0)=true:=by simpa using c4
        subst c3;go_wp2
        go_ret
        exact⟨xak (by rw[HE3.out,if_pos (Or.inr (Or.inr c4))]),hb3⟩
      ·have c3':(xbb != 0)=true:=by simpa using c3
       go_wp2
       go_ret
       exact⟨xak (by rw[HE3.out,if_pos (Or.inr (Or.inl c3))]),hb3⟩
  ·simp at hnb
   obtain⟨rfl,rfl⟩:=hnb
   by_cases c0:0<xa/\xa<4
   ·have c01:=c0.1;have c02:=c0.2;have HR3:Hid (R=3):=by show _=_;rw[HE2.out,if_pos ⟨rfl,c0⟩]
    clear c0;go_wp2
    go_ret
    exact⟨xak HR3.out.symm,hb3⟩
   ·have HNO:Hid (¬ ((13:Int)=13/\0<xa/\xa<4)):=fun h=>c0 h.2
    by_cases c01:0<xa
    ·have c02:decide (xa<4)=false:=by simp;omega
     by_cases c1:xa<(0:Int)
     ·exact absurd c1 (by omega)
     ·have c1':decide (xa<(0:Int))=false:=by simpa using c1
      by_cases c2:(X.cz.length:Int)-1<xa
      ·go_wp2
       go_ret
       exact⟨xak (by rw[HE2.out,if_neg HNO.out,if_pos (Or.inr c2)]),hb3⟩
      ·have c2':decide ((X.cz.length:Int)-1<xa)=false:=by simpa using c2
       have HE3:Hid (R=if rnB ⟨13,xa,xbb,xc,nm⟩=false\/xbb≠0\/xc≠0 then 2 else 0):=by show _=_;rw[HE2.out,if_neg HNO.out,if_neg (by omega)]
       have HRE:Hid (rnB ⟨13,xa,xbb,xc,nm⟩=nm.toList.isEmpty):=rfl
       cases e1:nm.toList.isEmpty
       ·go_wp2
        go_ret
        exact⟨xak (by rw[HE3.out,if_pos (Or.inl (HRE.out.trans e1))]),hb3⟩
       ·by_cases c3:xbb=0
        ·by_cases c4:xc=0
         ·subst c3 c4;go_wp2
          go_ret
          exact⟨xak (by rw[HE3.out,if_neg (by rw[HRE.out,e1];simp)]),hb3⟩
         ·have c4':(xc != 0)=true:=by simpa using c4
          subst c3;go_wp2
          go_ret
          exact⟨xak (by rw[HE3.out,if_pos (Or.inr (Or.inr c4))]),hb3⟩
        ·have c3':(xbb != 0)=true:=by simpa using c3
         go_wp2
         go_ret
         exact⟨xak (by rw[HE3.out,if_pos (Or.inr (Or.inl c3))]),hb3⟩
    ·have c01':decide (0<xa)=false:=by simpa using c01
     by_cases c1:xa<(0:Int)
     ·go_wp2
      go_ret
      exact⟨xak (by rw[HE2.out,if_neg HNO.out,if_pos (Or.inl c1)]),hb3⟩
     ·have c1':decide (xa<(0:Int))=false:=by simpa using c1
      by_cases c2:(X.cz.length:Int)-1<xa
      ·go_wp2
       go_ret
       exact⟨xak (by rw[HE2.out,if_neg HNO.out,if_pos (Or.inr c2)]),hb3⟩
      ·have c2':decide ((X.cz.length:Int)-1<xa)=false:=by simpa using c2
       have HE3:Hid (R=if rnB ⟨13,xa,xbb,xc,nm⟩=false\/xbb≠0\/xc≠0 then 2 else 0):=by show _=_;rw[HE2.out,if_neg HNO.out,if_neg (by omega)]
       have HRE:Hid (rnB ⟨13,xa,xbb,xc,nm⟩=nm.toList.isEmpty):=rfl
       cases e1:nm.toList.isEmpty
       ·go_wp2
        go_ret
        exact⟨xak (by rw[HE3.out,if_pos (Or.inl (HRE.out.trans e1))]),hb3⟩
       ·by_cases c3:xbb=0
        ·by_cases c4:xc=0
         ·subst c3 c4;go_wp2
          go_ret
          exact⟨xak (by rw[HE3.out,if_neg (by rw[HRE.out,e1];simp)]),hb3⟩
         ·have c4':(xc != 0)=true:=by simpa using c4
          subst c3;go_wp2
          go_ret
          exact⟨xak (by rw[HE3.out,if_pos (Or.inr (Or.inr c4))]),hb3⟩
        ·have c3':(xbb != 0)=true:=by simpa using c3
         go_wp2
         go_ret
         exact⟨xak (by rw[HE3.out,if_pos (Or.inr (Or.inl c3))]),hb3⟩
  ·simp at hnb
   obtain⟨rfl,rfl⟩:=hnb;have HNO:Hid (¬ ((14:Int)=13/\0<xa/\xa<4)):=fun h=>absurd h.1 (by decide)
   by_cases c1:xa<(0:Int)
   ·go_wp2
    go_ret
    exact⟨xak (by rw[HE2.out,if_neg HNO.out,if_pos (Or.inl c1)]),hb3⟩
   ·have c1':decide (xa<(0:Int))=false:=by simpa using c1
    by_cases c2:(4:Int)<xa
    ·go_wp2
     go_ret
     exact⟨xak (by rw[HE2.out,if_neg HNO.out,if_pos (Or.inr c2)]),hb3⟩
    ·have c2':decide ((4:Int)<xa)=false:=by simpa using c2
     have HE3:Hid (R=if rnB ⟨14,xa,xbb,xc,nm⟩=false\/xbb≠0\/xc≠0 then 2 else 0):=by show _=_;rw[HE2.out,if_neg HNO.out,if_neg (by omega)]
     have HRE:Hid (rnB ⟨14,xa,xbb,xc,nm⟩=xbf nm):=rfl;go_wp2_with fail;refine (xeb nm _ hn).mono ?_;rintro e w1 ⟨rfl,hb1⟩;replace hb3:=xah hb3 hb1;replace xb:=xac xb hb1;have xcc:∀ q,w1.cell? ⟨w.heap.size+1+1,q,none⟩=(#[Value.int .i64 14,Value.int .i64 xa,Value.int .i64 xbb,Value.int .i64 xc,Value.string nm]:Array Value)[q]?:=fun q=>by rw[qzB xb]
     clear hb1
     cases e1:xbf nm
     ·go_wp2
      go_ret
      exact⟨xak (by rw[HE3.out,if_pos (Or.inl (HRE.out.trans e1))]),hb3⟩
     ·by_cases c3:xbb=0
      ·by_cases c4:xc=0
       ·subst c3 c4;go_wp2
        go_ret
        exact⟨xak (by rw[HE3.out,if_neg (by rw[HRE.out,e1];simp)]),hb3⟩
       ·have c4':(xc != 0)=true:=by simpa using c4
        subst c3;go_wp2
        go_ret
        exact⟨xak (by rw[HE3.out,if_pos (Or.inr (Or.inr c4))]),hb3⟩
      ·have c3':(xbb != 0)=true:=by simpa using c3
       go_wp2
       go_ret
       exact⟨xak (by rw[HE3.out,if_pos (Or.inr (Or.inl c3))]),hb3⟩
  ·simp at hnb
   obtain⟨rfl,rfl⟩:=hnb;have HNO:Hid (¬ ((15:Int)=13/\0<xa/\xa<4)):=fun h=>absurd h.1 (by decide)
   by_cases c1:xa<(0:Int)
   ·go_wp2
    go_ret
    exact⟨xak (by rw[HE2.out,if_neg HNO.out,if_pos (Or.inl c1)]),hb3⟩
   ·have c1':decide (xa<(0:Int))=false:=by simpa using c1
    by_cases c2:(m.code.length:Int)-1<xa
    ·go_wp2
     go_ret
     exact⟨xak (by rw[HE2.out,if_neg HNO.out,if_pos (Or.inr c2)]),hb3⟩
    ·have c2':decide ((m.code.length:Int)-1<xa)=false:=by simpa using c2
     have HE3:Hid (R=if rnB ⟨15,xa,xbb,xc,nm⟩=false\/xbb≠0\/xc≠0 then 2 else 0):=by show _=_;rw[HE2.out,if_neg HNO.out,if_neg (by omega)]
     have HRE:Hid (rnB ⟨15,xa,xbb,xc,nm⟩=nm.toList.isEmpty):=rfl
     cases e1:nm.toList.isEmpty
     ·go_wp2
      go_ret
      exact⟨xak (by rw[HE3.out,if_pos (Or.inl (HRE.out.trans e1))]),hb3⟩
     ·by_cases c3:xbb=0
      ·by_cases c4:xc=0
       ·subst c3 c4;go_wp2
        go_ret
        exact⟨xak (by rw[HE3.out,if_neg (by rw[HRE.out,e1];simp)]),hb3⟩
       ·have c4':(xc != 0)=true:=by simpa using c4
        subst c3;go_wp2
        go_ret
        exact⟨xak (by rw[HE3.out,if_pos (Or.inr (Or.inr c4))]),hb3⟩
      ·have c3':(xbb != 0)=true:=by simpa using c3
       go_wp2
       go_ret
       exact⟨xak (by rw[HE3.out,if_pos (Or.inr (Or.inl c3))]),hb3⟩
  ·simp at hnb
   obtain⟨rfl,rfl⟩:=hnb;have HNO:Hid (¬ ((16:Int)=13/\0<xa/\xa<4)):=fun h=>absurd h.1 (by decide)
   by_cases c1:xa<(0:Int)
   ·go_wp2
    go_ret
    exact⟨xak (by rw[HE2.out,if_neg HNO.out,if_pos (Or.inl c1)]),hb3⟩
   ·have c1':decide (xa<(0:Int))=false:=by simpa using c1
    by_cases c2:(m.code.length:Int)-1<xa
    ·go_wp2
     go_ret
     exact⟨xak (by rw[HE2.out,if_neg HNO.out,if_pos (Or.inr c2)]),hb3⟩
    ·have c2':decide ((m.code.length:Int)-1<xa)=false:=by simpa using c2
     have HE3:Hid (R=if rnB ⟨16,xa,xbb,xc,nm⟩=false\/xbb≠0\/xc≠0 then 2 else 0):=by show _=_;rw[HE2.out,if_neg HNO.out,if_neg (by omega)]
     have HRE:Hid (rnB ⟨16,xa,xbb,xc,nm⟩=nm.toList.isEmpty):=rfl
     cases e1:nm.toList.isEmpty
     ·go_wp2
      go_ret
      exact⟨xak (by rw[HE3.out,if_pos (Or.inl (HRE.out.trans e1))]),hb3⟩
     ·by_cases c3:xbb=0
      ·by_cases c4:xc=0
       ·subst c3 c4;go_wp2
        go_ret
        exact⟨xak (by rw[HE3.out,if_neg (by rw[HRE.out,e1];simp)]),hb3⟩
       ·have c4':(xc != 0)=true:=by simpa using c4
        subst c3;go_wp2
        go_ret
        exact⟨xak (by rw[HE3.out,if_pos (Or.inr (Or.inr c4))]),hb3⟩
      ·have c3':(xbb != 0)=true:=by simpa using c3
       go_wp2
       go_ret
       exact⟨xak (by rw[HE3.out,if_pos (Or.inr (Or.inl c3))]),hb3⟩
  ·simp at hnb
   obtain⟨rfl,rfl⟩:=hnb;have HNO:Hid (¬ ((17:Int)=13/\0<xa/\xa<4)):=fun h=>absurd h.1 (by decide)
   by_cases c1:xa<(0:Int)
   ·go_wp2
    go_ret
    exact⟨xak (by rw[HE2.out,if_neg HNO.out,if_pos (Or.inl c1)]),hb3⟩
   ·have c1':decide (xa<(0:Int))=false:=by simpa using c1
    by_cases c2:(0:Int)<xa
    ·go_wp2
     go_ret
     exact⟨xak (by rw[HE2.out,if_neg HNO.out,if_pos (Or.inr c2)]),hb3⟩
    ·have c2':decide ((0:Int)<xa)=false:=by simpa using c2
     have HE3:Hid (R=if rnB ⟨17,xa,xbb,xc,nm⟩=false\/xbb≠0\/xc≠0 then 2 else 0):=by show _=_;rw[HE2.out,if_neg HNO.out,if_neg (by omega)]
     have HRE:Hid (rnB ⟨17,xa,xbb,xc,nm⟩=nm.toList.isEmpty):=rfl
     cases e1:nm.toList.isEmpty
     ·go_wp2
      go_ret
      exact⟨xak (by rw[HE3.out,if_pos (Or.inl (HRE.out.trans e1))]),hb3⟩
     ·by_cases c3:xbb=0
      ·by_cases c4:xc=0
       ·subst c3 c4;go_wp2
        go_ret
        exact⟨xak (by rw[HE3.out,if_neg (by rw[HRE.out,e1];simp)]),hb3⟩
       ·have c4':(xc != 0)=true:=by simpa using c4
        subst c3;go_wp2
        go_ret
        exact⟨xak (by rw[HE3.out,if_pos (Or.inr (Or.inr c4))]),hb3⟩
      ·have c3':(xbb != 0)=true:=by simpa using c3
       go_wp2
       go_ret
       exact⟨xak (by rw[HE3.out,if_pos (Or.inr (Or.inl c3))]),hb3⟩
end Go.Proofs.YtapbeiccodnniaaGreat
