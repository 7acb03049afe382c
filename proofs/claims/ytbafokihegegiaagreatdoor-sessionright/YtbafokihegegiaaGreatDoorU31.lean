import Derived.Test.YtbafokihegegiaaGreatDoorU30
import Derived.BigRegion
import Derived.Deep.RegionLaw
namespace Go.Proofs.YtbafokihegegiaaGreatDoor
open ChangeShapes WideShapes ChangeAt RowKit
set_option linter.unusedSimpArgs false
set_option linter.unusedVariables false
set_option maxHeartbeats 8000000
set_option maxRecDepth 8000
def nbE (S n:Int)(m:QM)(x:QI):Option (Int × Int):=
 if x.op=1\/x.op=6\/x.op=7\/x.op=8\/x.op=9\/x.op=10\/x.op=17 then some (0,0)
 else if x.op=2 then some (0,m.args-1)
 else if x.op=3\/x.op=11 then some (0,m.temps-1)
 else if x.op=4\/x.op=12 then some (0,S-1)
 else if x.op=5 then some (-1073741824,1073741824)
 else if x.op=13 then some (0,n-1)
 else if x.op=14 then some (0,4)
 else if x.op=15\/x.op=16 then some (0,(m.code.length:Int)-1)
 else none
def xyF (S n:Int)(m:QM)(x:QI):Int:=
 match nbE S n m x with
 | none=>1
 | some b=>if x.op=13/\0<x.a/\x.a<4 then 3 else if x.a<b.1\/b.2<x.a then 3 else if Kf x=false\/x.b≠0\/x.c≠0 then 2 else 0
theorem xyD {S n:Int}{m:QM}{x:QI}(o:1<=n)(l:IntKind.i64.wrap (S-1)=S-1):xyF S n m x=DD S n m x:=by
 unfold xyF DD nbE Ew Cj;rw[l];obtain⟨op,a,b,c,nm⟩:=x;simp only;generalize Kf ⟨op,a,b,c,nm⟩=rn;by_cases h0:1<=op/\op<=17
 ·obtain⟨d,e⟩:=h0;have:op=1\/op=2\/op=3\/op=4\/op=5\/op=6\/op=7\/op=8\/op=9\/op=10\/op=11\/op=12\/op=13\/op=14\/op=15\/op=16\/op=17:=by omega
  rcases this with rfl | rfl | rfl | rfl | rfl | rfl | rfl | rfl | rfl | rfl | rfl | rfl | rfl | rfl | rfl | rfl | rfl
  all_goals simp
  all_goals (repeat' split)<;>first | rfl | omega
 ·have d:¬ (op=1\/op=6\/op=7\/op=8\/op=9\/op=10\/op=17):=by omega
  have e:¬ op=2:=by omega
  have f:¬ (op=3\/op=11):=by omega
  have g:¬ (op=4\/op=12):=by omega
  have h:¬ op=5:=by omega
  have i:¬ op=13:=by omega
  have j:¬ op=14:=by omega
  have k:¬ (op=15\/op=16):=by omega
  rw[if_neg d,if_neg e,if_neg f,if_neg g,if_neg h,if_neg i,if_neg j,if_neg k,show decide (1<=op/\op<=17)=false from by simpa using h0];simp
theorem xya {P:Nat->Prop}(X:QW)(c:Int)(m:QM)(x:QI)(cv hv mv:Value)(w:qW)(y:BK P w cv X.cz)(v:BP P w hv X.heap)(F:Cm P w mv m.code)(z:Hj X.cz)(ha:0<=m.args/\m.args<=4)(ht:0<=m.temps/\m.temps<=6)(H:x.name.size<=140737488351232):Calls Tryz.prog 62 #[WV cv hv X.ez,J c,MV m mv,IV x] w λe w'=>e=.returned (J (xyF (DY X.cz c) X.cz.length m x))/\qY w w':=by
 obtain⟨ad,cap,rfl,-,-,g,-⟩:=id y;obtain⟨ah,ch,rfl⟩:=v.get;obtain⟨am,cm,rfl,-,-,i,-⟩:=id F;have s:=PD z (X.cz.length+1) c 0 Zo;have C:0<=DY X.cz c:=s.1;have D:DY X.cz c<=0+6*((X.cz.length+1:Nat):Int):=s.2;have K:IntKind.i64.wrap (m.args-1)=m.args-1:=CM Zo Zo;have L:IntKind.i64.wrap (m.temps-1)=m.temps-1:=CM Zo Zo;have M:IntKind.i64.wrap ((m.code.length:Int)-1)=(m.code.length:Int)-1:=CM Zo Zo;have N:IntKind.i64.wrap ((X.cz.length:Int)-1)=(X.cz.length:Int)-1:=CM Zo Zo;have Q:IntKind.i64.wrap (DY X.cz c-1)=DY X.cz c-1:=CM Zo Zo;have j:=DW w (qA ad cap ah ch X) (qD m am cm) (qE x);have xb:(((w.alloc (qA ad cap ah ch X)).alloc (qD m am cm)).alloc (qE x)).heap[w.heap.size+1+1]?=some (qE x):=Dh _ _ _ (by simp);have mb:(((w.alloc (qA ad cap ah ch X)).alloc (qD m am cm)).alloc (qE x)).heap[w.heap.size+1]?=some (qD m am cm):=((Bg _ _).block _ (by simp)).trans (Dh _ _ _ (by simp));have wb:(((w.alloc (qA ad cap ah ch X)).alloc (qD m am cm)).alloc (qE x)).heap[w.heap.size]?=some (qA ad cap ah ch X):=((BG _ _ _).block _ (by simp)).trans (Dh _ _ _ rfl)
 have B:Hid (xyF (DY X.cz c) X.cz.length m x=match nbE (DY X.cz c) X.cz.length m x with | none=>1 | some b=>if x.op=13/\0<x.a/\x.a<4 then 3 else if x.a<b.1\/b.2<x.a then 3 else if Kf x=false\/x.b≠0\/x.c≠0 then 2 else 0):=rfl;generalize xyF (DY X.cz c) X.cz.length m x=R at *;have u:Hid (Kf x=if x.op=14 then DC x.name else PW x.name):=rfl;go_enter Tryz.func62,Tryz.ntmps62
 cases p:nbE (DY X.cz c) X.cz.length m x with
 | none=>
  have G:Hid (R=1):=by show _=_;rw[B.out,p]
  obtain⟨op,xa,Dr,xc,nm⟩:=x;unfold nbE at p;simp only at p
  (repeat' split at p)<;>first | cases p | skip
  rename_i S T U V W Y Z h8;have n1:¬ op=1:=by omega
  have n2:¬ op=6:=by omega
  have n3:¬ op=7:=by omega
  have n4:¬ op=8:=by omega
  have n5:¬ op=9:=by omega
  have n6:¬ op=10:=by omega
  have n7:¬ op=17:=by omega
  have n8:¬ op=3:=by omega
  have n9:¬ op=11:=by omega
  have n10:¬ op=4:=by omega
  have n11:¬ op=12:=by omega
  have n12:¬ op=15:=by omega
  have n13:¬ op=16:=by omega
  go_wp2;go_ret;exact⟨BT G.out.symm,j⟩
 | some b=>
  obtain⟨b1,b2⟩:=b;have n:Hid (R=if x.op=13/\0<x.a/\x.a<4 then 3 else if x.a<b1\/b2<x.a then 3 else if Kf x=false\/x.b≠0\/x.c≠0 then 2 else 0):=by show _=_;rw[B.out,p]
  obtain⟨op,xa,Dr,xc,nm⟩:=x;simp only at n u;unfold nbE at p;simp only at p
  have r:op=1\/op=2\/op=3\/op=4\/op=5\/op=6\/op=7\/op=8\/op=9\/op=10\/op=11\/op=12\/op=13\/op=14\/op=15\/op=16\/op=17:=by
   (repeat' split at p)<;>first | omega | cases p
  rcases r with rfl | rfl | rfl | rfl | rfl | rfl | rfl | rfl | rfl | rfl | rfl | rfl | rfl | rfl | rfl | rfl | rfl
  ·simp at p;obtain⟨rfl,rfl⟩:=p;have l:Hid (¬ ((1:Int)=13/\0<xa/\xa<4)):=λh=>absurd h.1 (by decide);by_cases c1:xa<(0:Int)
   ·go_wp2;go_ret;exact⟨BT (by rw[n.out,if_neg l.out,if_pos (Or.inl c1)]),j⟩
   have c1':decide (xa<(0:Int))=false:=by simpa using c1
   by_cases c2:(0:Int)<xa
   ·go_wp2;go_ret;exact⟨BT (by rw[n.out,if_neg l.out,if_pos (Or.inr c2)]),j⟩
   have c2':decide ((0:Int)<xa)=false:=by simpa using c2
   have k:Hid (R=if Kf ⟨1,xa,Dr,xc,nm⟩=false\/Dr≠0\/xc≠0 then 2 else 0):=by show _=_;rw[n.out,if_neg l.out,if_neg Zo]
   have o:Hid (Kf ⟨1,xa,Dr,xc,nm⟩=nm.toList.isEmpty):=rfl
   cases e1:nm.toList.isEmpty
   ·go_wp2;go_ret;exact⟨BT (by rw[k.out,if_pos (Or.inl (o.out.trans e1))]),j⟩
   by_cases c3:Dr=0
   ·by_cases c4:xc=0
    ·subst c3 c4;go_wp2;go_ret;exact⟨BT (by rw[k.out,if_neg (by rw[o.out,e1];simp)]),j⟩
    have c4':(xc != 0)=true:=by simpa using c4
    subst c3;go_wp2;go_ret;exact⟨BT (by rw[k.out,if_pos (Or.inr (Or.inr c4))]),j⟩
   have c3':(Dr != 0)=true:=by simpa using c3
   go_wp2;go_ret;exact⟨BT (by rw[k.out,if_pos (Or.inr (Or.inl c3))]),j⟩
  ·simp at p;obtain⟨rfl,rfl⟩:=p;have l:Hid (¬ ((2:Int)=13/\0<xa/\xa<4)):=λh=>absurd h.1 (by decide);by_cases c1:xa<(0:Int)
   ·go_wp2;go_ret;exact⟨BT (by rw[n.out,if_neg l.out,if_pos (Or.inl c1)]),j⟩
   have c1':decide (xa<(0:Int))=false:=by simpa using c1
   by_cases c2:m.args-1<xa
   ·go_wp2;go_ret;exact⟨BT (by rw[n.out,if_neg l.out,if_pos (Or.inr c2)]),j⟩
   have c2':decide (m.args-1<xa)=false:=by simpa using c2
   have k:Hid (R=if Kf ⟨2,xa,Dr,xc,nm⟩=false\/Dr≠0\/xc≠0 then 2 else 0):=by show _=_;rw[n.out,if_neg l.out,if_neg Zo]
   have o:Hid (Kf ⟨2,xa,Dr,xc,nm⟩=nm.toList.isEmpty):=rfl
   cases e1:nm.toList.isEmpty
   ·go_wp2;go_ret;exact⟨BT (by rw[k.out,if_pos (Or.inl (o.out.trans e1))]),j⟩
   by_cases c3:Dr=0
   ·by_cases c4:xc=0
    ·subst c3 c4;go_wp2;go_ret;exact⟨BT (by rw[k.out,if_neg (by rw[o.out,e1];simp)]),j⟩
    have c4':(xc != 0)=true:=by simpa using c4
    subst c3;go_wp2;go_ret;exact⟨BT (by rw[k.out,if_pos (Or.inr (Or.inr c4))]),j⟩
   have c3':(Dr != 0)=true:=by simpa using c3
   go_wp2;go_ret;exact⟨BT (by rw[k.out,if_pos (Or.inr (Or.inl c3))]),j⟩
  ·simp at p;obtain⟨rfl,rfl⟩:=p;have l:Hid (¬ ((3:Int)=13/\0<xa/\xa<4)):=λh=>absurd h.1 (by decide);by_cases c1:xa<(0:Int)
   ·go_wp2;go_ret;exact⟨BT (by rw[n.out,if_neg l.out,if_pos (Or.inl c1)]),j⟩
   have c1':decide (xa<(0:Int))=false:=by simpa using c1
   by_cases c2:m.temps-1<xa
   ·go_wp2;go_ret;exact⟨BT (by rw[n.out,if_neg l.out,if_pos (Or.inr c2)]),j⟩
   have c2':decide (m.temps-1<xa)=false:=by simpa using c2
   have k:Hid (R=if Kf ⟨3,xa,Dr,xc,nm⟩=false\/Dr≠0\/xc≠0 then 2 else 0):=by show _=_;rw[n.out,if_neg l.out,if_neg Zo]
   have o:Hid (Kf ⟨3,xa,Dr,xc,nm⟩=nm.toList.isEmpty):=rfl
   cases e1:nm.toList.isEmpty
   ·go_wp2;go_ret;exact⟨BT (by rw[k.out,if_pos (Or.inl (o.out.trans e1))]),j⟩
   by_cases c3:Dr=0
   ·by_cases c4:xc=0
    ·subst c3 c4;go_wp2;go_ret;exact⟨BT (by rw[k.out,if_neg (by rw[o.out,e1];simp)]),j⟩
    have c4':(xc != 0)=true:=by simpa using c4
    subst c3;go_wp2;go_ret;exact⟨BT (by rw[k.out,if_pos (Or.inr (Or.inr c4))]),j⟩
   have c3':(Dr != 0)=true:=by simpa using c3
   go_wp2;go_ret;exact⟨BT (by rw[k.out,if_pos (Or.inr (Or.inl c3))]),j⟩
  ·simp at p;obtain⟨rfl,rfl⟩:=p;have l:Hid (¬ ((4:Int)=13/\0<xa/\xa<4)):=λh=>absurd h.1 (by decide);go_wp2_with fail;refine (xxW X c _ _ _ (y.later Bw j) (v.later BB j) z).mono ?_;rintro e w0 ⟨rfl,d⟩;replace j:=Bh j d;replace xb:=Bs xb d;have NF:∀q,w0.cell? (O (w.heap.size+1+1) q)=(#[J 4,J xa,J Dr,J xc,qZ nm]:Array Value)[q]?:=λq=>by rw[Bn xb]
   clear d;by_cases c1:xa<(0:Int)
   ·go_wp2;go_ret;exact⟨BT (by rw[n.out,if_neg l.out,if_pos (Or.inl c1)]),j⟩
   have c1':decide (xa<(0:Int))=false:=by simpa using c1
   by_cases c2:DY X.cz c-1<xa
   ·go_wp2;go_ret;exact⟨BT (by rw[n.out,if_neg l.out,if_pos (Or.inr c2)]),j⟩
   have c2':decide (DY X.cz c-1<xa)=false:=by simpa using c2
   have k:Hid (R=if Kf ⟨4,xa,Dr,xc,nm⟩=false\/Dr≠0\/xc≠0 then 2 else 0):=by show _=_;rw[n.out,if_neg l.out,if_neg Zo]
   have o:Hid (Kf ⟨4,xa,Dr,xc,nm⟩=nm.toList.isEmpty):=rfl
   cases e1:nm.toList.isEmpty
   ·go_wp2;go_ret;exact⟨BT (by rw[k.out,if_pos (Or.inl (o.out.trans e1))]),j⟩
   by_cases c3:Dr=0
   ·by_cases c4:xc=0
    ·subst c3 c4;go_wp2;go_ret;exact⟨BT (by rw[k.out,if_neg (by rw[o.out,e1];simp)]),j⟩
    have c4':(xc != 0)=true:=by simpa using c4
    subst c3;go_wp2;go_ret;exact⟨BT (by rw[k.out,if_pos (Or.inr (Or.inr c4))]),j⟩
   have c3':(Dr != 0)=true:=by simpa using c3
   go_wp2;go_ret;exact⟨BT (by rw[k.out,if_pos (Or.inr (Or.inl c3))]),j⟩
  ·simp at p;obtain⟨rfl,rfl⟩:=p;have l:Hid (¬ ((5:Int)=13/\0<xa/\xa<4)):=λh=>absurd h.1 (by decide);by_cases c1:xa<(-1073741824:Int)
   ·go_wp2;go_ret;exact⟨BT (by rw[n.out,if_neg l.out,if_pos (Or.inl c1)]),j⟩
   have c1':decide (xa<(-1073741824:Int))=false:=by simpa using c1
   by_cases c2:(1073741824:Int)<xa
   ·go_wp2;go_ret;exact⟨BT (by rw[n.out,if_neg l.out,if_pos (Or.inr c2)]),j⟩
   have c2':decide ((1073741824:Int)<xa)=false:=by simpa using c2
   have k:Hid (R=if Kf ⟨5,xa,Dr,xc,nm⟩=false\/Dr≠0\/xc≠0 then 2 else 0):=by show _=_;rw[n.out,if_neg l.out,if_neg Zo]
   have o:Hid (Kf ⟨5,xa,Dr,xc,nm⟩=nm.toList.isEmpty):=rfl
   cases e1:nm.toList.isEmpty
   ·go_wp2;go_ret;exact⟨BT (by rw[k.out,if_pos (Or.inl (o.out.trans e1))]),j⟩
   by_cases c3:Dr=0
   ·by_cases c4:xc=0
    ·subst c3 c4;go_wp2;go_ret;exact⟨BT (by rw[k.out,if_neg (by rw[o.out,e1];simp)]),j⟩
    have c4':(xc != 0)=true:=by simpa using c4
    subst c3;go_wp2;go_ret;exact⟨BT (by rw[k.out,if_pos (Or.inr (Or.inr c4))]),j⟩
   have c3':(Dr != 0)=true:=by simpa using c3
   go_wp2;go_ret;exact⟨BT (by rw[k.out,if_pos (Or.inr (Or.inl c3))]),j⟩
  ·simp at p;obtain⟨rfl,rfl⟩:=p;have l:Hid (¬ ((6:Int)=13/\0<xa/\xa<4)):=λh=>absurd h.1 (by decide);by_cases c1:xa<(0:Int)
   ·go_wp2;go_ret;exact⟨BT (by rw[n.out,if_neg l.out,if_pos (Or.inl c1)]),j⟩
   have c1':decide (xa<(0:Int))=false:=by simpa using c1
   by_cases c2:(0:Int)<xa
   ·go_wp2;go_ret;exact⟨BT (by rw[n.out,if_neg l.out,if_pos (Or.inr c2)]),j⟩
   have c2':decide ((0:Int)<xa)=false:=by simpa using c2
   have k:Hid (R=if Kf ⟨6,xa,Dr,xc,nm⟩=false\/Dr≠0\/xc≠0 then 2 else 0):=by show _=_;rw[n.out,if_neg l.out,if_neg Zo]
   have o:Hid (Kf ⟨6,xa,Dr,xc,nm⟩=nm.toList.isEmpty):=rfl
   cases e1:nm.toList.isEmpty
   ·go_wp2;go_ret;exact⟨BT (by rw[k.out,if_pos (Or.inl (o.out.trans e1))]),j⟩
   by_cases c3:Dr=0
   ·by_cases c4:xc=0
    ·subst c3 c4;go_wp2;go_ret;exact⟨BT (by rw[k.out,if_neg (by rw[o.out,e1];simp)]),j⟩
    have c4':(xc != 0)=true:=by simpa using c4
    subst c3;go_wp2;go_ret;exact⟨BT (by rw[k.out,if_pos (Or.inr (Or.inr c4))]),j⟩
   have c3':(Dr != 0)=true:=by simpa using c3
   go_wp2;go_ret;exact⟨BT (by rw[k.out,if_pos (Or.inr (Or.inl c3))]),j⟩
  ·simp at p;obtain⟨rfl,rfl⟩:=p;have l:Hid (¬ ((7:Int)=13/\0<xa/\xa<4)):=λh=>absurd h.1 (by decide);by_cases c1:xa<(0:Int)
   ·go_wp2;go_ret;exact⟨BT (by rw[n.out,if_neg l.out,if_pos (Or.inl c1)]),j⟩
   have c1':decide (xa<(0:Int))=false:=by simpa using c1
   by_cases c2:(0:Int)<xa
   ·go_wp2;go_ret;exact⟨BT (by rw[n.out,if_neg l.out,if_pos (Or.inr c2)]),j⟩
   have c2':decide ((0:Int)<xa)=false:=by simpa using c2
   have k:Hid (R=if Kf ⟨7,xa,Dr,xc,nm⟩=false\/Dr≠0\/xc≠0 then 2 else 0):=by show _=_;rw[n.out,if_neg l.out,if_neg Zo]
   have o:Hid (Kf ⟨7,xa,Dr,xc,nm⟩=nm.toList.isEmpty):=rfl
   cases e1:nm.toList.isEmpty
   ·go_wp2;go_ret;exact⟨BT (by rw[k.out,if_pos (Or.inl (o.out.trans e1))]),j⟩
   by_cases c3:Dr=0
   ·by_cases c4:xc=0
    ·subst c3 c4;go_wp2;go_ret;exact⟨BT (by rw[k.out,if_neg (by rw[o.out,e1];simp)]),j⟩
    have c4':(xc != 0)=true:=by simpa using c4
    subst c3;go_wp2;go_ret;exact⟨BT (by rw[k.out,if_pos (Or.inr (Or.inr c4))]),j⟩
   have c3':(Dr != 0)=true:=by simpa using c3
   go_wp2;go_ret;exact⟨BT (by rw[k.out,if_pos (Or.inr (Or.inl c3))]),j⟩
  ·simp at p;obtain⟨rfl,rfl⟩:=p;have l:Hid (¬ ((8:Int)=13/\0<xa/\xa<4)):=λh=>absurd h.1 (by decide);by_cases c1:xa<(0:Int)
   ·go_wp2;go_ret;exact⟨BT (by rw[n.out,if_neg l.out,if_pos (Or.inl c1)]),j⟩
   have c1':decide (xa<(0:Int))=false:=by simpa using c1
   by_cases c2:(0:Int)<xa
   ·go_wp2;go_ret;exact⟨BT (by rw[n.out,if_neg l.out,if_pos (Or.inr c2)]),j⟩
   have c2':decide ((0:Int)<xa)=false:=by simpa using c2
   have k:Hid (R=if Kf ⟨8,xa,Dr,xc,nm⟩=false\/Dr≠0\/xc≠0 then 2 else 0):=by show _=_;rw[n.out,if_neg l.out,if_neg Zo]
   have o:Hid (Kf ⟨8,xa,Dr,xc,nm⟩=nm.toList.isEmpty):=rfl
   cases e1:nm.toList.isEmpty
   ·go_wp2;go_ret;exact⟨BT (by rw[k.out,if_pos (Or.inl (o.out.trans e1))]),j⟩
   by_cases c3:Dr=0
   ·by_cases c4:xc=0
    ·subst c3 c4;go_wp2;go_ret;exact⟨BT (by rw[k.out,if_neg (by rw[o.out,e1];simp)]),j⟩
    have c4':(xc != 0)=true:=by simpa using c4
    subst c3;go_wp2;go_ret;exact⟨BT (by rw[k.out,if_pos (Or.inr (Or.inr c4))]),j⟩
   have c3':(Dr != 0)=true:=by simpa using c3
   go_wp2;go_ret;exact⟨BT (by rw[k.out,if_pos (Or.inr (Or.inl c3))]),j⟩
  ·simp at p;obtain⟨rfl,rfl⟩:=p;have l:Hid (¬ ((9:Int)=13/\0<xa/\xa<4)):=λh=>absurd h.1 (by decide);by_cases c1:xa<(0:Int)
   ·go_wp2;go_ret;exact⟨BT (by rw[n.out,if_neg l.out,if_pos (Or.inl c1)]),j⟩
   have c1':decide (xa<(0:Int))=false:=by simpa using c1
   by_cases c2:(0:Int)<xa
   ·go_wp2;go_ret;exact⟨BT (by rw[n.out,if_neg l.out,if_pos (Or.inr c2)]),j⟩
   have c2':decide ((0:Int)<xa)=false:=by simpa using c2
   have k:Hid (R=if Kf ⟨9,xa,Dr,xc,nm⟩=false\/Dr≠0\/xc≠0 then 2 else 0):=by show _=_;rw[n.out,if_neg l.out,if_neg Zo]
   have o:Hid (Kf ⟨9,xa,Dr,xc,nm⟩=nm.toList.isEmpty):=rfl
   cases e1:nm.toList.isEmpty
   ·go_wp2;go_ret;exact⟨BT (by rw[k.out,if_pos (Or.inl (o.out.trans e1))]),j⟩
   by_cases c3:Dr=0
   ·by_cases c4:xc=0
    ·subst c3 c4;go_wp2;go_ret;exact⟨BT (by rw[k.out,if_neg (by rw[o.out,e1];simp)]),j⟩
    have c4':(xc != 0)=true:=by simpa using c4
    subst c3;go_wp2;go_ret;exact⟨BT (by rw[k.out,if_pos (Or.inr (Or.inr c4))]),j⟩
   have c3':(Dr != 0)=true:=by simpa using c3
   go_wp2;go_ret;exact⟨BT (by rw[k.out,if_pos (Or.inr (Or.inl c3))]),j⟩
  ·simp at p;obtain⟨rfl,rfl⟩:=p;have l:Hid (¬ ((10:Int)=13/\0<xa/\xa<4)):=λh=>absurd h.1 (by decide);by_cases c1:xa<(0:Int)
   ·go_wp2;go_ret;exact⟨BT (by rw[n.out,if_neg l.out,if_pos (Or.inl c1)]),j⟩
   have c1':decide (xa<(0:Int))=false:=by simpa using c1
   by_cases c2:(0:Int)<xa
   ·go_wp2;go_ret;exact⟨BT (by rw[n.out,if_neg l.out,if_pos (Or.inr c2)]),j⟩
   have c2':decide ((0:Int)<xa)=false:=by simpa using c2
   have k:Hid (R=if Kf ⟨10,xa,Dr,xc,nm⟩=false\/Dr≠0\/xc≠0 then 2 else 0):=by show _=_;rw[n.out,if_neg l.out,if_neg Zo]
   have o:Hid (Kf ⟨10,xa,Dr,xc,nm⟩=nm.toList.isEmpty):=rfl
   cases e1:nm.toList.isEmpty
   ·go_wp2;go_ret;exact⟨BT (by rw[k.out,if_pos (Or.inl (o.out.trans e1))]),j⟩
   by_cases c3:Dr=0
   ·by_cases c4:xc=0
    ·subst c3 c4;go_wp2;go_ret;exact⟨BT (by rw[k.out,if_neg (by rw[o.out,e1];simp)]),j⟩
    have c4':(xc != 0)=true:=by simpa using c4
    subst c3;go_wp2;go_ret;exact⟨BT (by rw[k.out,if_pos (Or.inr (Or.inr c4))]),j⟩
   have c3':(Dr != 0)=true:=by simpa using c3
   go_wp2;go_ret;exact⟨BT (by rw[k.out,if_pos (Or.inr (Or.inl c3))]),j⟩
  ·simp at p;obtain⟨rfl,rfl⟩:=p;have l:Hid (¬ ((11:Int)=13/\0<xa/\xa<4)):=λh=>absurd h.1 (by decide);by_cases c1:xa<(0:Int)
   ·go_wp2;go_ret;exact⟨BT (by rw[n.out,if_neg l.out,if_pos (Or.inl c1)]),j⟩
   have c1':decide (xa<(0:Int))=false:=by simpa using c1
   by_cases c2:m.temps-1<xa
   ·go_wp2;go_ret;exact⟨BT (by rw[n.out,if_neg l.out,if_pos (Or.inr c2)]),j⟩
   have c2':decide (m.temps-1<xa)=false:=by simpa using c2
   have k:Hid (R=if Kf ⟨11,xa,Dr,xc,nm⟩=false\/Dr≠0\/xc≠0 then 2 else 0):=by show _=_;rw[n.out,if_neg l.out,if_neg Zo]
   have o:Hid (Kf ⟨11,xa,Dr,xc,nm⟩=nm.toList.isEmpty):=rfl
   cases e1:nm.toList.isEmpty
   ·go_wp2;go_ret;exact⟨BT (by rw[k.out,if_pos (Or.inl (o.out.trans e1))]),j⟩
   by_cases c3:Dr=0
   ·by_cases c4:xc=0
    ·subst c3 c4;go_wp2;go_ret;exact⟨BT (by rw[k.out,if_neg (by rw[o.out,e1];simp)]),j⟩
    have c4':(xc != 0)=true:=by simpa using c4
    subst c3;go_wp2;go_ret;exact⟨BT (by rw[k.out,if_pos (Or.inr (Or.inr c4))]),j⟩
   have c3':(Dr != 0)=true:=by simpa using c3
   go_wp2;go_ret;exact⟨BT (by rw[k.out,if_pos (Or.inr (Or.inl c3))]),j⟩
  ·simp at p;obtain⟨rfl,rfl⟩:=p;have l:Hid (¬ ((12:Int)=13/\0<xa/\xa<4)):=λh=>absurd h.1 (by decide);go_wp2_with fail;refine (xxW X c _ _ _ (y.later Bw j) (v.later BB j) z).mono ?_;rintro e w0 ⟨rfl,d⟩;replace j:=Bh j d;replace xb:=Bs xb d;have NF:∀q,w0.cell? (O (w.heap.size+1+1) q)=(#[J 12,J xa,J Dr,J xc,qZ nm]:Array Value)[q]?:=λq=>by rw[Bn xb]
   clear d;by_cases c1:xa<(0:Int)
   ·go_wp2;go_ret;exact⟨BT (by rw[n.out,if_neg l.out,if_pos (Or.inl c1)]),j⟩
   have c1':decide (xa<(0:Int))=false:=by simpa using c1
   by_cases c2:DY X.cz c-1<xa
   ·go_wp2;go_ret;exact⟨BT (by rw[n.out,if_neg l.out,if_pos (Or.inr c2)]),j⟩
   have c2':decide (DY X.cz c-1<xa)=false:=by simpa using c2
   have k:Hid (R=if Kf ⟨12,xa,Dr,xc,nm⟩=false\/Dr≠0\/xc≠0 then 2 else 0):=by show _=_;rw[n.out,if_neg l.out,if_neg Zo]
   have o:Hid (Kf ⟨12,xa,Dr,xc,nm⟩=nm.toList.isEmpty):=rfl
   cases e1:nm.toList.isEmpty
   ·go_wp2;go_ret;exact⟨BT (by rw[k.out,if_pos (Or.inl (o.out.trans e1))]),j⟩
   by_cases c3:Dr=0
   ·by_cases c4:xc=0
    ·subst c3 c4;go_wp2;go_ret;exact⟨BT (by rw[k.out,if_neg (by rw[o.out,e1];simp)]),j⟩
    have c4':(xc != 0)=true:=by simpa using c4
    subst c3;go_wp2;go_ret;exact⟨BT (by rw[k.out,if_pos (Or.inr (Or.inr c4))]),j⟩
   have c3':(Dr != 0)=true:=by simpa using c3
   go_wp2;go_ret;exact⟨BT (by rw[k.out,if_pos (Or.inr (Or.inl c3))]),j⟩
  ·simp at p;obtain⟨rfl,rfl⟩:=p;by_cases c0:0<xa/\xa<4
   ·have c01:=c0.1;have c02:=c0.2;have t:Hid (R=3):=by show _=_;rw[n.out,if_pos ⟨rfl,c0⟩]
    clear c0;go_wp2;go_ret;exact⟨BT t.out.symm,j⟩
   have l:Hid (¬ ((13:Int)=13/\0<xa/\xa<4)):=λh=>c0 h.2;by_cases c01:0<xa
   ·have c02:decide (xa<4)=false:=by simp;omega
    by_cases c1:xa<(0:Int)
    ·exact absurd c1 Zo
    have c1':decide (xa<(0:Int))=false:=by simpa using c1
    by_cases c2:(X.cz.length:Int)-1<xa
    ·go_wp2;go_ret;exact⟨BT (by rw[n.out,if_neg l.out,if_pos (Or.inr c2)]),j⟩
    have c2':decide ((X.cz.length:Int)-1<xa)=false:=by simpa using c2
    have k:Hid (R=if Kf ⟨13,xa,Dr,xc,nm⟩=false\/Dr≠0\/xc≠0 then 2 else 0):=by show _=_;rw[n.out,if_neg l.out,if_neg Zo]
    have o:Hid (Kf ⟨13,xa,Dr,xc,nm⟩=nm.toList.isEmpty):=rfl
    cases e1:nm.toList.isEmpty
    ·go_wp2;go_ret;exact⟨BT (by rw[k.out,if_pos (Or.inl (o.out.trans e1))]),j⟩
    by_cases c3:Dr=0
    ·by_cases c4:xc=0
     ·subst c3 c4;go_wp2;go_ret;exact⟨BT (by rw[k.out,if_neg (by rw[o.out,e1];simp)]),j⟩
     have c4':(xc != 0)=true:=by simpa using c4
     subst c3;go_wp2;go_ret;exact⟨BT (by rw[k.out,if_pos (Or.inr (Or.inr c4))]),j⟩
    have c3':(Dr != 0)=true:=by simpa using c3
    go_wp2;go_ret;exact⟨BT (by rw[k.out,if_pos (Or.inr (Or.inl c3))]),j⟩
   have c01':decide (0<xa)=false:=by simpa using c01
   by_cases c1:xa<(0:Int)
   ·go_wp2;go_ret;exact⟨BT (by rw[n.out,if_neg l.out,if_pos (Or.inl c1)]),j⟩
   have c1':decide (xa<(0:Int))=false:=by simpa using c1
   by_cases c2:(X.cz.length:Int)-1<xa
   ·go_wp2;go_ret;exact⟨BT (by rw[n.out,if_neg l.out,if_pos (Or.inr c2)]),j⟩
   have c2':decide ((X.cz.length:Int)-1<xa)=false:=by simpa using c2
   have k:Hid (R=if Kf ⟨13,xa,Dr,xc,nm⟩=false\/Dr≠0\/xc≠0 then 2 else 0):=by show _=_;rw[n.out,if_neg l.out,if_neg Zo]
   have o:Hid (Kf ⟨13,xa,Dr,xc,nm⟩=nm.toList.isEmpty):=rfl
   cases e1:nm.toList.isEmpty
   ·go_wp2;go_ret;exact⟨BT (by rw[k.out,if_pos (Or.inl (o.out.trans e1))]),j⟩
   by_cases c3:Dr=0
   ·by_cases c4:xc=0
    ·subst c3 c4;go_wp2;go_ret;exact⟨BT (by rw[k.out,if_neg (by rw[o.out,e1];simp)]),j⟩
    have c4':(xc != 0)=true:=by simpa using c4
    subst c3;go_wp2;go_ret;exact⟨BT (by rw[k.out,if_pos (Or.inr (Or.inr c4))]),j⟩
   have c3':(Dr != 0)=true:=by simpa using c3
   go_wp2;go_ret;exact⟨BT (by rw[k.out,if_pos (Or.inr (Or.inl c3))]),j⟩
  ·simp at p;obtain⟨rfl,rfl⟩:=p;have l:Hid (¬ ((14:Int)=13/\0<xa/\xa<4)):=λh=>absurd h.1 (by decide);by_cases c1:xa<(0:Int)
   ·go_wp2;go_ret;exact⟨BT (by rw[n.out,if_neg l.out,if_pos (Or.inl c1)]),j⟩
   have c1':decide (xa<(0:Int))=false:=by simpa using c1
   by_cases c2:(4:Int)<xa
   ·go_wp2;go_ret;exact⟨BT (by rw[n.out,if_neg l.out,if_pos (Or.inr c2)]),j⟩
   have c2':decide ((4:Int)<xa)=false:=by simpa using c2
   have k:Hid (R=if Kf ⟨14,xa,Dr,xc,nm⟩=false\/Dr≠0\/xc≠0 then 2 else 0):=by show _=_;rw[n.out,if_neg l.out,if_neg Zo]
   have o:Hid (Kf ⟨14,xa,Dr,xc,nm⟩=DC nm):=rfl;go_wp2_with fail;refine (xxY nm _ H).mono ?_;rintro e w1 ⟨rfl,f⟩;replace j:=Bh j f;replace xb:=Bs xb f;have NF:∀q,w1.cell? (O (w.heap.size+1+1) q)=(#[J 14,J xa,J Dr,J xc,qZ nm]:Array Value)[q]?:=λq=>by rw[Bn xb]
   clear f
   cases e1:DC nm
   ·go_wp2;go_ret;exact⟨BT (by rw[k.out,if_pos (Or.inl (o.out.trans e1))]),j⟩
   by_cases c3:Dr=0
   ·by_cases c4:xc=0
    ·subst c3 c4;go_wp2;go_ret;exact⟨BT (by rw[k.out,if_neg (by rw[o.out,e1];simp)]),j⟩
    have c4':(xc != 0)=true:=by simpa using c4
    subst c3;go_wp2;go_ret;exact⟨BT (by rw[k.out,if_pos (Or.inr (Or.inr c4))]),j⟩
   have c3':(Dr != 0)=true:=by simpa using c3
   go_wp2;go_ret;exact⟨BT (by rw[k.out,if_pos (Or.inr (Or.inl c3))]),j⟩
  ·simp at p;obtain⟨rfl,rfl⟩:=p;have l:Hid (¬ ((15:Int)=13/\0<xa/\xa<4)):=λh=>absurd h.1 (by decide);by_cases c1:xa<(0:Int)
   ·go_wp2;go_ret;exact⟨BT (by rw[n.out,if_neg l.out,if_pos (Or.inl c1)]),j⟩
   have c1':decide (xa<(0:Int))=false:=by simpa using c1
   by_cases c2:(m.code.length:Int)-1<xa
   ·go_wp2;go_ret;exact⟨BT (by rw[n.out,if_neg l.out,if_pos (Or.inr c2)]),j⟩
   have c2':decide ((m.code.length:Int)-1<xa)=false:=by simpa using c2
   have k:Hid (R=if Kf ⟨15,xa,Dr,xc,nm⟩=false\/Dr≠0\/xc≠0 then 2 else 0):=by show _=_;rw[n.out,if_neg l.out,if_neg Zo]
   have o:Hid (Kf ⟨15,xa,Dr,xc,nm⟩=nm.toList.isEmpty):=rfl
   cases e1:nm.toList.isEmpty
   ·go_wp2;go_ret;exact⟨BT (by rw[k.out,if_pos (Or.inl (o.out.trans e1))]),j⟩
   by_cases c3:Dr=0
   ·by_cases c4:xc=0
    ·subst c3 c4;go_wp2;go_ret;exact⟨BT (by rw[k.out,if_neg (by rw[o.out,e1];simp)]),j⟩
    have c4':(xc != 0)=true:=by simpa using c4
    subst c3;go_wp2;go_ret;exact⟨BT (by rw[k.out,if_pos (Or.inr (Or.inr c4))]),j⟩
   have c3':(Dr != 0)=true:=by simpa using c3
   go_wp2;go_ret;exact⟨BT (by rw[k.out,if_pos (Or.inr (Or.inl c3))]),j⟩
  ·simp at p;obtain⟨rfl,rfl⟩:=p;have l:Hid (¬ ((16:Int)=13/\0<xa/\xa<4)):=λh=>absurd h.1 (by decide);by_cases c1:xa<(0:Int)
   ·go_wp2;go_ret;exact⟨BT (by rw[n.out,if_neg l.out,if_pos (Or.inl c1)]),j⟩
   have c1':decide (xa<(0:Int))=false:=by simpa using c1
   by_cases c2:(m.code.length:Int)-1<xa
   ·go_wp2;go_ret;exact⟨BT (by rw[n.out,if_neg l.out,if_pos (Or.inr c2)]),j⟩
   have c2':decide ((m.code.length:Int)-1<xa)=false:=by simpa using c2
   have k:Hid (R=if Kf ⟨16,xa,Dr,xc,nm⟩=false\/Dr≠0\/xc≠0 then 2 else 0):=by show _=_;rw[n.out,if_neg l.out,if_neg Zo]
   have o:Hid (Kf ⟨16,xa,Dr,xc,nm⟩=nm.toList.isEmpty):=rfl
   cases e1:nm.toList.isEmpty
   ·go_wp2;go_ret;exact⟨BT (by rw[k.out,if_pos (Or.inl (o.out.trans e1))]),j⟩
   by_cases c3:Dr=0
   ·by_cases c4:xc=0
    ·subst c3 c4;go_wp2;go_ret;exact⟨BT (by rw[k.out,if_neg (by rw[o.out,e1];simp)]),j⟩
    have c4':(xc != 0)=true:=by simpa using c4
    subst c3;go_wp2;go_ret;exact⟨BT (by rw[k.out,if_pos (Or.inr (Or.inr c4))]),j⟩
   have c3':(Dr != 0)=true:=by simpa using c3
   go_wp2;go_ret;exact⟨BT (by rw[k.out,if_pos (Or.inr (Or.inl c3))]),j⟩
  simp at p;obtain⟨rfl,rfl⟩:=p;have l:Hid (¬ ((17:Int)=13/\0<xa/\xa<4)):=λh=>absurd h.1 (by decide);by_cases c1:xa<(0:Int)
  ·go_wp2;go_ret;exact⟨BT (by rw[n.out,if_neg l.out,if_pos (Or.inl c1)]),j⟩
  have c1':decide (xa<(0:Int))=false:=by simpa using c1
  by_cases c2:(0:Int)<xa
  ·go_wp2;go_ret;exact⟨BT (by rw[n.out,if_neg l.out,if_pos (Or.inr c2)]),j⟩
  have c2':decide ((0:Int)<xa)=false:=by simpa using c2
  have k:Hid (R=if Kf ⟨17,xa,Dr,xc,nm⟩=false\/Dr≠0\/xc≠0 then 2 else 0):=by show _=_;rw[n.out,if_neg l.out,if_neg Zo]
  have o:Hid (Kf ⟨17,xa,Dr,xc,nm⟩=nm.toList.isEmpty):=rfl
  cases e1:nm.toList.isEmpty
  ·go_wp2;go_ret;exact⟨BT (by rw[k.out,if_pos (Or.inl (o.out.trans e1))]),j⟩
  by_cases c3:Dr=0
  ·by_cases c4:xc=0
   ·subst c3 c4;go_wp2;go_ret;exact⟨BT (by rw[k.out,if_neg (by rw[o.out,e1];simp)]),j⟩
   have c4':(xc != 0)=true:=by simpa using c4
   subst c3;go_wp2;go_ret;exact⟨BT (by rw[k.out,if_pos (Or.inr (Or.inr c4))]),j⟩
  have c3':(Dr != 0)=true:=by simpa using c3
  go_wp2;go_ret;exact⟨BT (by rw[k.out,if_pos (Or.inr (Or.inl c3))]),j⟩
theorem xx3 {P:Nat->Prop}(m:QM)(mv:Value)(w:qW)(d:Cm P w mv m.code)(f:Lr m.code):Calls Tryz.prog 63 #[MV m mv] w λe w'=>∃a n k,e=.returned (.tuple #[qS a n k,FV (DN m.code).2])/\qY w w':=by
 refine (xx9 m mv w d f).mono ?_;rintro e w' ⟨c,⟨b,g,rfl,-,-⟩ | ⟨b,rfl⟩⟩
 ·have:=xjA _ _ _ b;exact⟨_,_,_,by unfold DN at *;rw[this],c⟩
 exact⟨_,_,_,rfl,c⟩
structure RkS (w:qW)(X:QW)(cv hv:Value)(m:QM)(mv:Value)(w':qW):Prop where
 bel:qY w w'
 a0:w'.cell? (O w.heap.size 0)=some cv
 a1:w'.cell? (O w.heap.size 1)=some hv
 a2:w'.cell? (O w.heap.size 2)=some (J X.ez)
 m0:w'.cell? (O (w.heap.size+1) 0)=some (qZ m.name)
 m1:w'.cell? (O (w.heap.size+1) 1)=some (J m.args)
 m2:w'.cell? (O (w.heap.size+1) 2)=some (J m.temps)
 m3:w'.cell? (O (w.heap.size+1) 3)=some (J m.prim)
 m4:w'.cell? (O (w.heap.size+1) 4)=some mv
 rb:w'.heap[w.heap.size+1+1]?=some (qC #[J 0,J 0] 90 (0,0))
theorem RkS.later {w:qW}{X:QW}{cv hv:Value}{m:QM}{mv:Value}{w' w1:qW}(h:RkS w X cv hv m mv w')(a:qY w' w1):RkS w X cv hv m mv w1:=
 ⟨Bh h.bel a,Bf a h.a0,Bf a h.a1,Bf a h.a2,Bf a h.m0,Bf a h.m1,Bf a h.m2,Bf a h.m3,Bf a h.m4,Bs h.rb a⟩
theorem xye (w:qW)(X:QW)(cv hv:Value)(m:QM)(mv:Value):RkS w X cv hv m mv (((w.alloc (qC #[cv,hv,J X.ez] 26)).alloc (qC #[qZ m.name,J m.args,J m.temps,J m.prim,mv] 51)).alloc (qC #[J 0,J 0] 90)):=by
 refine⟨DW _ _ _ _,?_,?_,?_,?_,?_,?_,?_,?_,Dh _ _ _ (by simp)⟩
 ·exact Bf (BG _ _ _) (by rw[Bp _ _ _ _ rfl];rfl)
 ·exact Bf (BG _ _ _) (by rw[Bp _ _ _ _ rfl];rfl)
 ·exact Bf (BG _ _ _) (by rw[Bp _ _ _ _ rfl];rfl)
 all_goals exact Bf (Bg _ _) (by rw[Bp _ _ _ _ (by simp)];rfl)
theorem xx8 (X:QW)(c:Int)(m:QM)(ad ah am:Option Addr)(cap ch cm:Nat)(w:qW)(b:X.cz.length<=9000000000000000000)(d:m.code.length<=9000000000000000000)(a:m.name.size<=140737488351232)(v:Int)(hv:DF X.cz.length c m=v)(y:v≠0):Calls Tryz.prog 40 #[qV ad cap ah ch X,J c,MV m (qS am m.code.length cm)] w λe w'=>e=.returned (FV (v,0))/\qY w w':=by
 have i:Hid (DF X.cz.length c m=v):=hv;have B:Hid (v≠0):=y;clear hv y;go_enter Tryz.func40,Tryz.ntmps40;go_upto_region 1 with (fail);have f:=xye w X (qS ad X.cz.length cap) (qS ah X.heap.length ch) m (qS am m.code.length cm);generalize (((w.alloc (qA ad cap ah ch X)).alloc (qD m am cm)).alloc (qC #[J 0,J 0] 90))=W0 at *;have a0:=f.a0;have m0:=f.m0;obtain⟨rc,rf⟩:=xsF f.rb;by_cases l:c<0
 ·have g:Hid (c<0):=l;go_wp2;refine Bt (v:=FV (6,0)) ?_ rfl ⟨by rw[← i.out,xyH (Or.inl g.out)],?_⟩
  ·simp[results,Tryz.results40,go_sem,rc,rf]
  first
   | exact ((f.bel).setCell (by simp;omega) _).setCell (by simp;omega) _
   | exact f.bel
 have r:decide (c<0)=false:=by simpa using l
 by_cases n:(X.cz.length:Int)<=c
 ·have g:Hid ((X.cz.length:Int)<=c):=n;go_wp2;refine Bt (v:=FV (6,0)) ?_ rfl ⟨by rw[← i.out,xyH (Or.inr g.out)],?_⟩
  ·simp[results,Tryz.results40,go_sem,rc,rf]
  first
   | exact ((f.bel).setCell (by simp;omega) _).setCell (by simp;omega) _
   | exact f.bel
 have s:decide ((X.cz.length:Int)<=c)=false:=by simpa using n
 have j:Hid (¬ (c<0\/(X.cz.length:Int)<=c)):=λh=>h.elim l n;go_wp2_with fail;refine (xxY m.name _ a).mono ?_;rintro e w1 ⟨rfl,z⟩;replace f:=f.later z;clear z a0 m0 rc rf l n r s;obtain⟨rc,rf⟩:=xsF f.rb;have m1:=f.m1;have m2:=f.m2;have m3:=f.m3;have m4:=f.m4
 cases t:DC m.name
 ·have g:Hid (DC m.name=false):=t;go_wp2;refine Bt (v:=FV (7,0)) ?_ rfl ⟨by rw[← i.out,xxo (by have:=j.out;omega) g.out],?_⟩
  ·simp[results,Tryz.results40,go_sem,rc,rf]
  first
   | exact ((f.bel).setCell (by simp;omega) _).setCell (by simp;omega) _
   | exact f.bel
 have k:Hid (DC m.name=true):=t;by_cases p:m.args<0
 ·have g:Hid (m.args<0):=p;go_wp2;refine Bt (v:=FV (3,0)) ?_ rfl ⟨by rw[← i.out,xwS (by have:=j.out;omega) k.out (Or.inl g.out)],?_⟩
  ·simp[results,Tryz.results40,go_sem,rc,rf]
  first
   | exact ((f.bel).setCell (by simp;omega) _).setCell (by simp;omega) _
   | exact f.bel
 have C:decide (m.args<0)=false:=by simpa using p
 by_cases h5:4<m.args
 ·have g:Hid (4<m.args):=h5;go_wp2;refine Bt (v:=FV (3,0)) ?_ rfl ⟨by rw[← i.out,xwS (by have:=j.out;omega) k.out (Or.inr (Or.inl g.out))],?_⟩
  ·simp[results,Tryz.results40,go_sem,rc,rf]
  first
   | exact ((f.bel).setCell (by simp;omega) _).setCell (by simp;omega) _
   | exact f.bel
 have D:decide (4<m.args)=false:=by simpa using h5
 by_cases h6:m.temps<0
 ·have g:Hid (m.temps<0):=h6;go_wp2;refine Bt (v:=FV (3,0)) ?_ rfl ⟨by rw[← i.out,xwS (by have:=j.out;omega) k.out (Or.inr (Or.inr (Or.inl g.out)))],?_⟩
  ·simp[results,Tryz.results40,go_sem,rc,rf]
  first
   | exact ((f.bel).setCell (by simp;omega) _).setCell (by simp;omega) _
   | exact f.bel
 have F:decide (m.temps<0)=false:=by simpa using h6
 by_cases h7:6<m.temps
 ·have g:Hid (6<m.temps):=h7;go_wp2;refine Bt (v:=FV (3,0)) ?_ rfl ⟨by rw[← i.out,xwS (by have:=j.out;omega) k.out (Or.inr (Or.inr (Or.inr g.out)))],?_⟩
  ·simp[results,Tryz.results40,go_sem,rc,rf]
  first
   | exact ((f.bel).setCell (by simp;omega) _).setCell (by simp;omega) _
   | exact f.bel
 have G:decide (6<m.temps)=false:=by simpa using h7
 have q:Hid (¬ (m.args<0\/4<m.args\/m.temps<0\/6<m.temps)):=by show ¬ _;omega
 by_cases h8:m.prim=0
 ·by_cases h9:m.code.length=0
  ·have g:Hid (m.prim=0/\m.code.length=0):=⟨h8,h9⟩;have u:((m.code.length:Int) == 0)=true:=by simp[h9]
   have o:(m.prim != 0)=false:=by simp[h8]
   clear h9 h8;go_wp2;refine Bt (v:=FV (5,0)) ?_ rfl ⟨by rw[← i.out,xxg (by have:=j.out;omega) k.out (by have:=q.out;omega) g.out.1 (Or.inl g.out.2)],?_⟩
   ·simp[results,Tryz.results40,go_sem,rc,rf]
   first
    | exact ((f.bel).setCell (by simp;omega) _).setCell (by simp;omega) _
    | exact f.bel
  by_cases h10:(60:Int)<(m.code.length:Int)
  ·have g:Hid (m.prim=0/\60<m.code.length):=⟨h8,by omega⟩
   have u:((m.code.length:Int) == 0)=false:=beq_eq_false_iff_ne.2 (by omega);have o:(m.prim != 0)=false:=by simp[h8]
   clear h9 h8;go_wp2;refine Bt (v:=FV (5,0)) ?_ rfl ⟨by rw[← i.out,xxg (by have:=j.out;omega) k.out (by have:=q.out;omega) g.out.1 (Or.inr g.out.2)],?_⟩
   ·simp[results,Tryz.results40,go_sem,rc,rf]
   first
    | exact ((f.bel).setCell (by simp;omega) _).setCell (by simp;omega) _
    | exact f.bel
  exfalso;have l:=B.out;have n:=i.out;have t:=j.out;have p:=k.out
  have:DF X.cz.length c m=0:=by
   unfold DF;rw[if_neg (by simp[Cj];omega),if_neg (by simp[p]),if_neg (by simp[Cj];omega),if_neg (by simp[h8]),if_neg (by simp[Cj];omega)]
  omega
 have g:Hid (m.prim≠0):=h8;have o:(m.prim != 0)=true:=by simpa using h8
 go_wp2;refine Bt (v:=FV (1,0)) ?_ rfl ⟨by rw[← i.out,xxi (by have:=j.out;omega) k.out (by have:=q.out;omega) (by have:=g.out;exact this)],?_⟩
 ·simp[results,Tryz.results40,go_sem,rc,rf]
 first
  | exact ((f.bel).setCell (by simp;omega) _).setCell (by simp;omega) _
  | exact f.bel
theorem xyb {P:Nat->Prop}(X:QW)(c:Int)(m:QM)(cv hv mv:Value)(w:qW)(hh:BK P w cv X.cz)(hH:BP P w hv X.heap)(hM:Cm P w mv m.code)(D:m.name.size<=140737488351232)(ho:Hj X.cz)(h0:DF X.cz.length c m=0)(R:Int × Int)(hR:(match FX (DD (Cs X.cz c) X.cz.length m) 0 m.code with | some f=>f | none=>(DN m.code).2)=R):Calls Tryz.prog 40 #[WV cv hv X.ez,J c,MV m mv] w λe w'=>e=.returned (FV R)/\qY w w':=by
 obtain⟨ad,cap,rfl,hl,l,t,-⟩:=id hh;obtain⟨ah,ch,rfl⟩:=hH.get;obtain⟨am,cm,rfl,Q,C,N,d⟩:=id hM;unfold maxLen at l C;obtain⟨u,p,s,r,B⟩:=xxJ h0
 have HB:Hid (∀(j:Nat) x,m.code[j]?=some x->(∀i y,i<j->m.code[i]?=some y->DD (Cs X.cz c) X.cz.length m y=0)->DD (Cs X.cz c) X.cz.length m x≠0->R=(DD (Cs X.cz c) X.cz.length m x,(j:Int))):=λj x Y hi h=>by
  rw[← hR,xoT (k:=0) Y h hi];simp
 have HG:Hid ((∀(i:Nat) y,m.code[i]?=some y->DD (Cs X.cz c) X.cz.length m y=0)->R=(DN m.code).2):=λh=>by rw[← hR,xgs h]
 have V:Hid (∀x:QI,xyF (DY X.cz c) X.cz.length m x=DD (Cs X.cz c) X.cz.length m x):=λx=>by
  have a7:=PD ho (X.cz.length+1) c 0 Zo;have ap:0<=DY X.cz c:=a7.1;have aq:DY X.cz c<=0+6*((X.cz.length+1:Nat):Int):=a7.2;rw[xpF ho t c];exact xyD Zo (CM Zo Zo)
 have ha:0<=m.args/\m.args<=4:=by omega
 have ht:0<=m.temps/\m.temps<=6:=by omega
 have a9:decide (c<0)=false:=by simp;omega
 have a4:decide ((X.cz.length:Int)<=c)=false:=by simp;omega
 have aa:decide (m.args<0)=false:=by simp;omega
 have ab:decide (4<m.args)=false:=by simp;omega
 have ae:decide (m.temps<0)=false:=by simp;omega
 have af:decide (6<m.temps)=false:=by simp;omega
 have ag:(m.prim != 0)=false:=by simp[r]
 have ai:((m.code.length:Int) == 0)=false:=beq_eq_false_iff_ne.2 Zo;have a3:decide ((60:Int)<(m.code.length:Int))=false:=by simp;omega
 clear hR h0 r B s u;go_enter Tryz.func40,Tryz.ntmps40;go_upto_region 1 with (fail);have S:=xye w X (qS ad X.cz.length cap) (qS ah X.heap.length ch) m (qS am m.code.length cm);generalize (((w.alloc (qA ad cap ah ch X)).alloc (qD m am cm)).alloc (qC #[J 0,J 0] 90))=W0 at *;have a0:=S.a0;have m0:=S.m0;go_wp2_with fail;refine (xxY m.name _ D).mono ?_;rw[p];rintro e w1 ⟨rfl,U⟩;replace S:=S.later U;clear U a0 m0 p;have m1:=S.m1;have m2:=S.m2;have m3:=S.m3;have m4:=S.m4;go_wp2;clear m1 m2 m3 m4 a9 a4 aa ab ae af ag ai a3;generalize ak:DD (Cs X.cz c) X.cz.length m=NE at *
 go_loopg [64] m.code.length (λg i wr=>∃j:Nat,j+g=m.code.length/\i=J j/\RkS w X (qS ad X.cz.length cap) (qS ah X.heap.length ch) m (qS am m.code.length cm) wr/\(∀i x,i<j->m.code[i]?=some x->NE x=0))
 case atStart=>exact⟨0,by omega,rfl,S,λi x h=>by omega⟩
 case round=>
  clear S;obtain⟨j,hg,rfl,S,hD⟩:=hrel;have Z:Hid (∀i x,i<j->m.code[i]?=some x->NE x=0):=hD;clear hD;by_cases hj:j<m.code.length
  ·have aj:(j:Int)<(m.code.length:Int):=by omega
   have ao:(0:Int)<=(j:Int):=by omega
   obtain⟨x,Y⟩:∃x,m.code[j]?=some x:=⟨_,List.getElem?_eq_getElem hj⟩;obtain⟨b,o,rfl,-,v0,v1,v2,v3,v4,G⟩:=d j x Y;simp only[Nat.add_zero] at v0;replace v0:=Bf S.bel v0;replace v1:=Bf S.bel v1;replace v2:=Bf S.bel v2;replace v3:=Bf S.bel v3;replace v4:=Bf S.bel v4;have HX:Hid (m.code[j]?=some x):=Y;clear Y;have a5:=Bg wr (qE x);have T:=S.later a5;have a0:=T.a0;have a1:=T.a1;have a2:=T.a2;have m0:=T.m0;have m1:=T.m1;have m2:=T.m2;have m3:=T.m3;have m4:=T.m4;go_wp2_with fail;refine (xya X c m x _ _ _ _ (hh.later Bw T.bel) (hH.later BB T.bel) (hM.later BR T.bel) ho ha ht G).mono ?_;rintro e w2 ⟨rfl,U⟩;rw[V.out];replace S:=T.later U;clear T U a5 a0 a1 a2 m0 m1 m2 m3 m4 v0 v1 v2 v3 v4;by_cases h2:NE x=0
   ·have a8:Hid (∀i y,i<j+1->m.code[i]?=some y->NE y=0):=λi y h hy=>by
     by_cases hij:i=j
     ·subst hij;rw[HX.out] at hy
      cases hy;exact h2
     exact Z.out i y Zo hy
    rw[h2];clear h2;go_wp2;go_roundg (gk-1)
    case measure=>omega
    case rel=>exact⟨j+1,by omega,by go_num,S,a8.out⟩
   have W:Hid (R=(NE x,(j:Int))):=HB.out j x HX.out Z.out h2;clear HB HG V Z;obtain⟨rc,rf⟩:=xsF S.rb;generalize NE x=nx at *;have a4:(nx != 0)=true:=by simpa using h2
   go_wp2;refine Bt (v:=FV (nx,(j:Int))) ?_ rfl ⟨by rw[W.out],?_⟩
   ·simp[results,Tryz.results40,go_sem,rc,rf]
   exact ((S.bel).setCell (by simp;omega) _).setCell (by simp;omega) _
  obtain rfl:j=m.code.length:=by omega
  have W:Hid (R=(DN m.code).2):=HG.out λi y hy=>Z.out i y (Bz hy) hy
  have an:Lr m.code:=λx Y=>by
   obtain⟨i,hi,rfl⟩:=List.mem_iff_getElem.1 Y;have:=Z.out i _ hi (List.getElem?_eq_getElem hi);rw[← ak] at this;exact xeU this
  clear HB HG V Z d;have m0:=S.m0;have m1:=S.m1;have m2:=S.m2;have m3:=S.m3;have m4:=S.m4;have aj:(m.code.length:Int)<=(m.code.length:Int):=by omega
  go_wp2_with fail;refine (xx3 m _ _ (hM.later BR S.bel) an).mono ?_;rintro e w2 ⟨a,n,k,rfl,U⟩;replace S:=S.later U;clear U m0 m1 m2 m3 m4;have hz:w.heap.size+1+1<w2.heap.size:=By S.rb;have rc:∀z q,(w2.alloc z).cell? (O (w.heap.size+1+1) q)=(#[J 0,J 0]:Array Value)[q]?:=λz q=>by rw[Bn (Bs S.rb (Bg w2 z))]
  have rf:∀z q,(w2.alloc z).frozen? (O (w.heap.size+1+1) q)=false:=λz q=>by unfold World.frozen?;simp[Bs S.rb (Bg w2 z)]
  generalize (DN m.code).2=F at *;obtain⟨f1,f2⟩:=F;obtain⟨H,K⟩:=xsF S.rb;obtain⟨L,M⟩:=xmL S.rb (J f1) (J f2) (qC #[J f1,J f2] 90);have al:¬ w2.heap.size=w.heap.size+1+1:=by omega
  have a6:¬ w.heap.size+1+1=w2.heap.size:=by omega
  go_wp2;refine Bt (v:=FV (f1,f2)) ?_ rfl ⟨by rw[W.out],?_⟩
  ·simp[results,Tryz.results40,go_sem,rc,rf,H,K,al,a6,L,M]
  first
   | exact ((Bh S.bel (Bg _ _)).setCell (by simp;omega) _).setCell (by simp;omega) _
   | exact (((S.bel).setCell (by simp;omega) _).setCell (by simp;omega) _).alloc (by rw[GT,GT];omega) _
theorem xyl {P:Nat->Prop}(X:QW)(c:Int)(m:QM)(cv hv mv:Value)(w:qW)(k:BK P w cv X.cz)(i:BP P w hv X.heap)(j:Cm P w mv m.code)(a:m.name.size<=140737488351232)(l:Hj X.cz):Calls Tryz.prog 40 #[WV cv hv X.ez,J c,MV m mv] w λe w'=>e=.returned (FV (Em (Cs X.cz c) X.cz.length c m))/\qY w w':=by
 unfold Em;by_cases h0:DF X.cz.length c m=0
 ·rw[if_neg (by simp[h0])];exact xyb X c m cv hv mv w k i j a l h0 _ rfl
 rw[if_pos h0];obtain⟨ad,cap,rfl,n,b,d,-⟩:=id k;obtain⟨ah,ch,rfl⟩:=i.get;obtain⟨am,cm,rfl,h,g,f,-⟩:=id j;exact xx8 X c m ad ah am cap ch cm w (by omega) (by omega) a _ rfl h0
end Go.Proofs.YtbafokihegegiaaGreatDoor
