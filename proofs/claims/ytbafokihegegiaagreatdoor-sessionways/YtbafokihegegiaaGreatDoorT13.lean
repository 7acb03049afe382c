/- A part. -/
import Derived.Test.YtbafokihegegiaaGreatDoorT12
namespace Go.Proofs.YtbafokihegegiaaGreatDoor
open Go.ChangeShapes Go.WideShapes Go.ChangeAt Go.RowKit
set_option linter.unusedSimpArgs false
set_option linter.unusedVariables false
set_option maxHeartbeats 8000000
abbrev qF(s:Sn)(a:Option Addr)(b:Nat)(c:Option Addr)(d:Nat)(e:Option Addr)(f:Nat)(g:Option Addr)(h:Nat)(v:Value):Obj:=.cells #[.slice a s.X.cz.length b,.slice c s.X.heap.length d,.int .i64 s.X.ez,.slice e s.cells.length f,.slice g s.ts.length h,v] 31
structure StE where
 kind:Int
 cls:Int
 slots:Int
 name:ByteArray
 meth:QM
 sf:QV
 cname:ByteArray
 args:List QV
structure ReE where
 err:Int
 n:Int
 v:QV
abbrev Ct (e n:Int):ReE:=⟨e,n,BC⟩
def Es (r:Ran):ReE:=⟨r.err,r.sz_,r.v⟩
def Cg (s:Sn)(x:StE):Sn × ReE:=
 if x.kind=1 then
  if EF s.X.cz x.name x.cls x.slots≠0 then (s,Ct (EF s.X.cz x.name x.cls x.slots) 0) else (⟨DZ s.X x.name x.cls x.slots,s.cells,s.ts,s.saved⟩,Ct 0 s.X.cz.length)
 else if x.kind=2 then
  if (Em (Cs s.X.cz x.cls) s.X.cz.length x.cls x.meth).1≠0 then (s,Ct (Em (Cs s.X.cz x.cls) s.X.cz.length x.cls x.meth).1 (Em (Cs s.X.cz x.cls) s.X.cz.length x.cls x.meth).2)
  else match Cy s.X.cz x.cls with
   | none=>(s,Ct 6 0)
   | some y=>if CZ y.mz x.meth.name<0/\8<=y.mz.length then (s,Ct 5 0) else (⟨Fs s.X x.cls.toNat y x.meth,s.cells,s.ts,s.saved⟩,Ct 0 0)
 else if x.kind=3 then
  if Dj s.X.cz.length x.cls=false then (s,Ct 6 0)
  else if 60<=s.X.heap.length then (s,Ct 15 0)
  else (⟨⟨s.X.cz,s.X.heap++[⟨x.cls,List.replicate (DY s.X.cz x.cls).toNat BC⟩],s.X.ez⟩,s.cells,s.ts,s.saved⟩,⟨0,s.X.heap.length,⟨4,s.X.heap.length⟩⟩)
 else if x.kind=4\/x.kind=6 then
  (⟨⟨s.X.cz,(Dz s.X x.sf x.cname x.args 400).heap,s.X.ez⟩,s.cells,s.ts,s.saved⟩,Es (Dz s.X x.sf x.cname x.args 400))
 else if x.kind=5 then
  (⟨⟨s.X.cz,(DQ (Ds s.X 400) s.X ⟨s.cells,s.ts,0,0⟩ x.sf x.cname x.args 400).1.heap,s.X.ez⟩,(DQ (Ds s.X 400) s.X ⟨s.cells,s.ts,0,0⟩ x.sf x.cname x.args 400).2.cells,(DQ (Ds s.X 400) s.X ⟨s.cells,s.ts,0,0⟩ x.sf x.cname x.args 400).2.ts,s.saved⟩,Es (DQ (Ds s.X 400) s.X ⟨s.cells,s.ts,0,0⟩ x.sf x.cname x.args 400).1)
 else if x.kind=7 then (⟨s.X,s.cells,s.ts,Ef s.X⟩,Ct 0 (Ef s.X).length)
 else if x.kind=8 then
  if s.saved=[] then (s,Ct 6 0)
  else if (Ez s.saved).2≠0 then (s,Ct (Ez s.saved).2 0)
  else (⟨⟨(Ez s.saved).1.cz,(Ez s.saved).1.heap,max (Ez s.saved).1.ez s.X.ez+1⟩,s.cells,s.ts,s.saved⟩,Ct 0 0)
 else (s,Ct 1 0)
structure DoOk (i:Nat)(s:Sn)(r:Sn × ReE):Prop where
 inv:SInv (i+1) r.1
 ep:s.X.ez<=r.1.X.ez
 same:r.2.err≠0->r.1.X=s.X
theorem SInv.stays {i:Nat}{s:Sn}(h:SInv i s)(e:ReE):DoOk i s (s,e):=⟨h.later (Nat.le_succ i),Int.le_refl _,λ_=>rfl⟩
theorem xib {X:QW}{v:QV}{name:ByteArray}{a:List QV}{fuel:Int}(h:(Dz X v name a fuel).err≠0):(⟨X.cz,(Dz X v name a fuel).heap,X.ez⟩:QW)=X:=by rw[(xkM h).1]
theorem Nd {i:Nat}{s:Sn}(h:SInv i s)(b:i<1000)(x:StE):DoOk i s (Cg s x):=by
 unfold Cg;split
 ·split
  ·exact h.stays _
  rename_i p;exact⟨(h.made (by simpa using p)).later (Nat.le_succ i),Int.le_refl _,λe=>absurd rfl e⟩
 split
 ·split
  ·exact h.stays _
  rename_i c
  cases n:Cy s.X.cz x.cls with
  | none=>exact h.stays _
  | some y=>
   simp only;split
   ·exact h.stays _
   rename_i a;obtain⟨k,l,m⟩:=Gl n;rw[l] at c ⊢;simp only[Int.toNat_natCast];have e0:=h.ep0;have e1:=h.ep1;refine⟨h.inst b m (by simpa using c) (by omega),?_,λe=>absurd rfl e⟩;have:(Fs s.X k y x.meth).ez=s.X.ez+1:=xfW e0 (by omega);simp only;omega
 split
 ·split
  ·exact h.stays _
  split
  ·exact h.stays _
  rename_i o r;exact⟨(h.object (by simpa using o) (by omega)).later (Nat.le_succ i),Int.le_refl _,λe=>absurd rfl e⟩
 split
 ·exact⟨(h.plain _ _ _ _).later (Nat.le_succ i),Int.le_refl _,λe=>xib e⟩
 split
 ·obtain⟨k1,k2⟩:=h.cached x.sf x.cname x.args 400 0 0;refine⟨k2.later (Nat.le_succ i),Int.le_refl _,λe=>?_⟩;simp only[Es] at e ⊢;rw[k1] at e ⊢;exact xib e
 split
 ·exact⟨h.save.later (Nat.le_succ i),Int.le_refl _,λe=>absurd rfl e⟩
 split
 ·split
  ·exact h.stays _
  rename_i d;obtain⟨Y,f,t,q,g,j⟩:=h.parse d;rw[q];simp only[ne_eq,not_true_eq_false,if_false];have e0:=h.ep0;exact⟨h.load b f g j,by simp only;omega,λe=>absurd rfl e⟩
 exact h.stays _
theorem xlE (s:Sn){x:StE}(a:x.kind≠7):(Cg s x).1.saved=s.saved:=by
 unfold Cg;split
 ·split<;>rfl
 split
 ·split
  ·rfl
  split
  ·rfl
  split<;>rfl
 split
 ·split
  ·rfl
  split<;>rfl
 split
 ·rfl
 split
 ·rfl
 split
 ·split
  ·rfl
  split<;>rfl
 ·rfl
def Ek (s:Sn)(l:List StE):Sn:=l.foldl (λs x=>(Cg s x).1) s
def GR:Sn->List StE->List ReE
 | _,[]=>[]
 | s,x :: l=>(Cg s x).2 :: GR (Cg s x).1 l
theorem xgJ:∀(l:List StE) (i:Nat) (s:Sn),SInv i s->i+l.length<=1000->SInv (i+l.length) (Ek s l)
 | [],i,s,h,_=>h
 | x :: l,i,s,h,hl=>by
  simp only[List.length_cons] at hl ⊢;have:=xgJ l (i+1) _ (Nd h (by omega) x).inv (by omega);rw[show i+(l.length+1)=i+1+l.length by omega];exact this
theorem xuH:∀(l:List StE) (s:Sn),(∀x∈l,x.kind≠7)->(Ek s l).saved=s.saved
 | [],_,_=>rfl
 | x :: l,s,h=>(xuH l _ λy a=>h y (by simp[a])).trans (xlE s (h x (by simp)))
theorem xuB:∀(l:List StE) (i:Nat) (s:Sn),SInv i s->i+l.length<=1000->s.X.ez<=(Ek s l).X.ez
 | [],_,_,_,_=>Int.le_refl _
 | x :: l,i,s,h,hl=>by
  simp only[List.length_cons] at hl;have d:=Nd h (by omega) x;exact Int.le_trans d.ep (xuB l (i+1) _ d.inv (by omega))
theorem xwp {i:Nat}{s:Sn}(h:SInv i s)(m:List StE)(g:∀x∈m,x.kind≠7)(l:i+m.length<=900)(x y:StE)(k:x.kind=7)(j:y.kind=8) :
  (Cg s x).2.err=0/\(Cg (Ek (Cg s x).1 m) y).2.err=0/\(Cg (Ek (Cg s x).1 m) y).1.X.cz=s.X.cz/\(Cg (Ek (Cg s x).1 m) y).1.X.heap=s.X.heap/\s.X.ez<(Cg (Ek (Cg s x).1 m) y).1.X.ez:=by
 have e1:Cg s x=(⟨s.X,s.cells,s.ts,Ef s.X⟩,Ct 0 (Ef s.X).length):=by unfold Cg;rw[k];simp
 have f:=(Nd h (by omega) x).inv;have n:=xgJ m (i+1) _ f (by omega);have a:=xuH m (Cg s x).1 g;have b:=xuB m (i+1) _ f (by omega);generalize Ek (Cg s x).1 m=t at *;rw[e1] at a b ⊢;simp only at a b;have c:Ez t.saved=(s.X,0):=by rw[a];exact xuI (xup h.right) h.right
 have d:t.saved≠[]:=by
  rw[a];intro e;rw[a,e] at c;have e2:=(xvY c).1;have:Ez []=(⟨[],[],0⟩,2):=by rfl
  rw[this] at c;have e3:(2:Int)=0:=congrArg Prod.snd c;omega
 have e2:Cg t y=(⟨⟨s.X.cz,s.X.heap,max s.X.ez t.X.ez+1⟩,t.cells,t.ts,t.saved⟩,Ct 0 0):=by
  unfold Cg;rw[j,c];simp[d]
 rw[e2];exact⟨rfl,rfl,rfl,rfl,by simp only;omega⟩
def Dl (xs:List QT)(s:QS):List QL:=(xs.filter λt=>Cw t.site s).flatMap (·.lz)
theorem xjH (xs:List QT)(s:QS)(x:QT):Dl (xs++[x]) s=Dl xs s++if Cw x.site s then x.lz else []:=by
 unfold Dl;rw[List.filter_append,List.flatMap_append];by_cases h:Cw x.site s<;>simp[List.filter_cons,h]
theorem xfX {xs:List QT}{j:Nat}{x:QT}(a:xs[j]?=some x)(s:QS):Dl (xs.take (j+1)) s=Dl (xs.take j) s++if Cw x.site s then x.lz else []:=by
 have b:=Bz a;rw[List.take_succ_eq_append_getElem b,xjH];rw[List.getElem?_eq_getElem b] at a
 cases a;rfl
theorem xjr {α:Type}{xs:List α}{j:Nat}{x:α}(a:xs[j]?=some x):xs.take (j+1)=xs.take j++[x]:=by
 have b:=Bz a;rw[List.take_succ_eq_append_getElem b];rw[List.getElem?_eq_getElem b] at a
 cases a;rfl
theorem xoF {P:Nat->Prop}{w:qW}{v:Value}{ls:List QL}(h:Fw P w v ls):Fw (λb=>b<w.heap.size) w v ls:=by
 obtain⟨ad,cap,c,g,k,d,f⟩:=h;refine⟨ad,cap,c,g,k,d,λi x j=>?_⟩;obtain⟨b,o,e,-,a⟩:=f i x j;exact⟨b,o,e,World.block_lt_of_cell? _ _ a.1,a⟩
theorem xgV {P:Nat->Prop}{w:qW}{v:Value}{xs:List QT}(h:Ep P w v xs):Ep (λb=>b<w.heap.size) w v xs:=by
 obtain⟨ad,cap,a,f,j,c,d⟩:=h;refine⟨ad,cap,a,f,j,c,λi x g=>?_⟩;obtain⟨b,o,e,-,k0,k1,k2,lv,k3,kl⟩:=d i x g;exact⟨b,o,e,World.block_lt_of_cell? _ _ k0,k0,k1,k2,lv,k3,xoF kl⟩
theorem xmU {P:Nat->Prop}(I:List QL->World->Prop)(m:Nat)(cap':Value)(xs:List QT)(s:QS)(v:Value)(w:qW)(hI:I [] w)(hm:m<w.heap.size)(K:∀b,P b->b≠m)
  (hX:∀l w',I l w'->Ep P w' v xs) (hL:∀l w' w'',I l w'->qY w' w''->I l w'')
  (hF:∀l x w',I l w'->Calls Tryz.prog 241 #[LV x,cap'] w' λe w''=>e=.returned (.tuple #[])/\I (l++[x]) w''/\Keeps (λb=>b≠m) w' w''/\w'.heap.size<=w''.heap.size) :
  Calls Tryz.prog 240 #[v,SV s,.func (.func 241) #[] #[cap']] w λe w'=>e=.returned (.tuple #[])/\I (Dl xs s) w':=by
 obtain⟨ad,cap,rfl,hl,B,-,-⟩:=id (hX _ _ hI);unfold maxLen at B;have a3:=Lf w s 105;have a1:=hL _ _ _ hI (Bg w (qJ s));have V:w.heap.size<(w.alloc (qJ s)).heap.size:=by simp
 clear hI;go_enter Tryz.func240,Tryz.ntmps240;go_wp2
 go_loopg [12] xs.length (λg c wr=>∃j:Nat,j+g=xs.length/\c=.int .i64 j/\I (Dl (xs.take j) s) wr/\SiteAt wr w.heap.size s/\w.heap.size<wr.heap.size)
 case atStart=>exact⟨0,by omega,rfl,a1,a3,V⟩
 case round=>
  obtain⟨j,hj,rfl,d,n,N⟩:=hrel;clear a1 a3 V;by_cases hlt:j<xs.length
  ·obtain⟨M,D,e',-,-,-,p⟩:=hX _ _ d;simp only[Value.slice.injEq] at e';obtain⟨rfl,-,-⟩:=e';obtain⟨b,o,rfl,-,v0,v1,v2,sv,v3,u⟩:=p j xs[j] (by simp[hlt]);have a6:Hid (xs[j]?=some xs[j]):=by show _=_;simp[hlt]
   generalize xs[j]=x at *;have HT:Hid (Dl (xs.take (j+1)) s=Dl (xs.take j) s++if Cw x.site s then x.lz else []):=xfX a6.out s;simp only[Nat.add_zero] at v0;obtain⟨i,a,rfl,R,t,-,-⟩:=id u;unfold maxLen at t;obtain⟨s0,s1,s2⟩:=id n;have s0':=λy=>Bf (Bg wr y) s0;have s1':=λy=>Bf (Bg wr y) s1;have s2':=λy=>Bf (Bg wr y) s2;have he:=λw=>neqS x.site s w;clear p s0 s1 s2;have a9:(j:Int)<(xs.length:Int):=by omega
   have aa:(0:Int)<=(j:Int):=by omega
   have T:=Bg wr (.cells #[.int .i64 x.site.cls,.string x.site.name,.int .i64 x.site.at',.slice i x.lz.length a] 111);have ab:(wr.alloc (.cells #[.int .i64 x.site.cls,.string x.site.name,.int .i64 x.site.at',.slice i x.lz.length a] 111)).heap.size=wr.heap.size+1:=by simp
   by_cases hp:Cw x.site s=true
   ·have S:(!Cw x.site s)=false:=by simp[hp]
    have W:Hid (Dl (xs.take (j+1)) s=Dl (xs.take j) s++x.lz):=by show _=_;rw[HT.out,if_pos hp]
    rw[S] at he;clear hp S;have a2:=hL _ _ _ d T;have a4:=n.later T;have U:=u.later Db T;go_wp2;generalize (wr.alloc (.cells #[.int .i64 x.site.cls,.string x.site.name,.int .i64 x.site.at',.slice i x.lz.length a] 111))=W1 at *;clear he s0' s1' s2' v0 v1 v2 v3 d n u
    go_loopg [23] x.lz.length (λg c ws=>∃q:Nat,q+g=x.lz.length/\c=.int .i64 q/\I (Dl (xs.take j) s++x.lz.take q) ws/\SiteAt ws w.heap.size s/\Fw P ws (.slice i x.lz.length a) x.lz/\w.heap.size<ws.heap.size)
    case atStart=>exact⟨0,by omega,rfl,by simpa using a2,a4,U,by omega⟩
    case round=>
     obtain⟨q,hq,rfl,r,z,C,F⟩:=hrel;clear a2 a4 U;by_cases hltq:q<x.lz.length
     ·obtain⟨Q,L,e3,-,-,-,f⟩:=id C;simp only[Value.slice.injEq] at e3;obtain⟨rfl,-,-⟩:=e3;obtain⟨b3,o3,rfl,-,y0,y1⟩:=f q x.lz[q] (by simp[hltq]);have a5:Hid (x.lz[q]?=some x.lz[q]):=by show _=_;simp[hltq]
      generalize x.lz[q]=y at *;simp only[Nat.add_zero] at y0;have ae:(q:Int)<(x.lz.length:Int):=by omega
      have af:(0:Int)<=(q:Int):=by omega
      have Y:=Bg wr (.cells #[.int .i64 y.cls,.int .i64 y.found] 147);have a7:=hL _ _ _ r Y;have a0:=z.later Y;clear f;go_wp2_with fail;refine (hF _ y _ a7).mono ?_;rintro e w1 ⟨rfl,H,k,G⟩;have a8:wr.heap.size+1<=w1.heap.size:=by simpa using G
      go_wp2;go_roundg (gk-1)
      case measure=>omega
      case rel=>
       have X:w.heap.size≠m:=by omega
       refine⟨q+1,by omega,by go_num,?_,?_,?_,by omega⟩
       ·rw[xjr a5.out,← List.append_assoc];exact H
       ·exact⟨k _ _ _ X a0.c0,k _ _ _ X a0.c1,k _ _ _ X a0.c2⟩
       exact (C.later Db Y).keep Db (k.mono K) λ_ h=>h
     obtain rfl:q=x.lz.length:=by omega
     go_wp2;go_roundg (xs.length-(j+1))
     case measure=>omega
     case rel=>
      rw[List.take_of_length_le (Bq _)] at r;exact⟨j+1,by omega,by go_num,by rw[W.out];exact r,z,F⟩
   have Z:Cw x.site s=false:=by simpa using hp
   have S:(!Cw x.site s)=true:=by simp[Z]
   have W:Hid (Dl (xs.take (j+1)) s=Dl (xs.take j) s):=by show _=_;rw[HT.out,if_neg (by simp[Z])];simp
   rw[S] at he;clear hp S Z;go_wp2;go_roundg (gk-1)
   case measure=>omega
   case rel=>exact⟨j+1,by omega,by go_num,by rw[W.out];exact hL _ _ _ d T,n.later T,by omega⟩
  obtain rfl:j=xs.length:=by omega
  go_wp2;refine bodyPost_end (v:=.tuple #[]) (by simp[results,Tryz.results240,go_sem]) rfl ⟨rfl,?_⟩;rw[List.take_of_length_le (Bq _)] at d;exact d
theorem xmP {P:Nat->Prop}(I:List QL->World->Prop)(m:Nat)(cap':Value)(xs:List QT)(s:QS)(v:Value)(w:qW)(hI:I [] w)(hm:m<w.heap.size)(K:∀b,P b->b≠m)
  (hX:∀l w',I l w'->Ep P w' v xs) (hL:∀l w' w'',I l w'->qY w' w''->I l w'')
  (hF:∀l x w',I l w'->Calls Tryz.prog 242 #[LV x,cap'] w' λe w''=>e=.returned (.tuple #[])/\I (l++[x]) w''/\Keeps (λb=>b≠m) w' w''/\w'.heap.size<=w''.heap.size) :
  Calls Tryz.prog 240 #[v,SV s,.func (.func 242) #[] #[cap']] w λe w'=>e=.returned (.tuple #[])/\I (Dl xs s) w':=by
 obtain⟨ad,cap,rfl,hl,B,-,-⟩:=id (hX _ _ hI);unfold maxLen at B;have a3:=Lf w s 105;have a1:=hL _ _ _ hI (Bg w (qJ s));have V:w.heap.size<(w.alloc (qJ s)).heap.size:=by simp
 clear hI;go_enter Tryz.func240,Tryz.ntmps240;go_wp2
 go_loopg [12] xs.length (λg c wr=>∃j:Nat,j+g=xs.length/\c=.int .i64 j/\I (Dl (xs.take j) s) wr/\SiteAt wr w.heap.size s/\w.heap.size<wr.heap.size)
 case atStart=>exact⟨0,by omega,rfl,a1,a3,V⟩
 case round=>
  obtain⟨j,hj,rfl,d,n,N⟩:=hrel;clear a1 a3 V;by_cases hlt:j<xs.length
  ·obtain⟨M,D,e',-,-,-,p⟩:=hX _ _ d;simp only[Value.slice.injEq] at e';obtain⟨rfl,-,-⟩:=e';obtain⟨b,o,rfl,-,v0,v1,v2,sv,v3,u⟩:=p j xs[j] (by simp[hlt]);have a6:Hid (xs[j]?=some xs[j]):=by show _=_;simp[hlt]
   generalize xs[j]=x at *;have HT:Hid (Dl (xs.take (j+1)) s=Dl (xs.take j) s++if Cw x.site s then x.lz else []):=xfX a6.out s;simp only[Nat.add_zero] at v0;obtain⟨i,a,rfl,R,t,-,-⟩:=id u;unfold maxLen at t;obtain⟨s0,s1,s2⟩:=id n;have s0':=λy=>Bf (Bg wr y) s0;have s1':=λy=>Bf (Bg wr y) s1;have s2':=λy=>Bf (Bg wr y) s2;have he:=λw=>neqS x.site s w;clear p s0 s1 s2;have a9:(j:Int)<(xs.length:Int):=by omega
   have aa:(0:Int)<=(j:Int):=by omega
   have T:=Bg wr (.cells #[.int .i64 x.site.cls,.string x.site.name,.int .i64 x.site.at',.slice i x.lz.length a] 111);have ab:(wr.alloc (.cells #[.int .i64 x.site.cls,.string x.site.name,.int .i64 x.site.at',.slice i x.lz.length a] 111)).heap.size=wr.heap.size+1:=by simp
   by_cases hp:Cw x.site s=true
   ·have S:(!Cw x.site s)=false:=by simp[hp]
    have W:Hid (Dl (xs.take (j+1)) s=Dl (xs.take j) s++x.lz):=by show _=_;rw[HT.out,if_pos hp]
    rw[S] at he;clear hp S;have a2:=hL _ _ _ d T;have a4:=n.later T;have U:=u.later Db T;go_wp2;generalize (wr.alloc (.cells #[.int .i64 x.site.cls,.string x.site.name,.int .i64 x.site.at',.slice i x.lz.length a] 111))=W1 at *;clear he s0' s1' s2' v0 v1 v2 v3 d n u
    go_loopg [23] x.lz.length (λg c ws=>∃q:Nat,q+g=x.lz.length/\c=.int .i64 q/\I (Dl (xs.take j) s++x.lz.take q) ws/\SiteAt ws w.heap.size s/\Fw P ws (.slice i x.lz.length a) x.lz/\w.heap.size<ws.heap.size)
    case atStart=>exact⟨0,by omega,rfl,by simpa using a2,a4,U,by omega⟩
    case round=>
     obtain⟨q,hq,rfl,r,z,C,F⟩:=hrel;clear a2 a4 U;by_cases hltq:q<x.lz.length
     ·obtain⟨Q,L,e3,-,-,-,f⟩:=id C;simp only[Value.slice.injEq] at e3;obtain⟨rfl,-,-⟩:=e3;obtain⟨b3,o3,rfl,-,y0,y1⟩:=f q x.lz[q] (by simp[hltq]);have a5:Hid (x.lz[q]?=some x.lz[q]):=by show _=_;simp[hltq]
      generalize x.lz[q]=y at *;simp only[Nat.add_zero] at y0;have ae:(q:Int)<(x.lz.length:Int):=by omega
      have af:(0:Int)<=(q:Int):=by omega
      have Y:=Bg wr (.cells #[.int .i64 y.cls,.int .i64 y.found] 147);have a7:=hL _ _ _ r Y;have a0:=z.later Y;clear f;go_wp2_with fail;refine (hF _ y _ a7).mono ?_;rintro e w1 ⟨rfl,H,k,G⟩;have a8:wr.heap.size+1<=w1.heap.size:=by simpa using G
      go_wp2;go_roundg (gk-1)
      case measure=>omega
      case rel=>
       have X:w.heap.size≠m:=by omega
       refine⟨q+1,by omega,by go_num,?_,?_,?_,by omega⟩
       ·rw[xjr a5.out,← List.append_assoc];exact H
       ·exact⟨k _ _ _ X a0.c0,k _ _ _ X a0.c1,k _ _ _ X a0.c2⟩
       exact (C.later Db Y).keep Db (k.mono K) λ_ h=>h
     obtain rfl:q=x.lz.length:=by omega
     go_wp2;go_roundg (xs.length-(j+1))
     case measure=>omega
     case rel=>
      rw[List.take_of_length_le (Bq _)] at r;exact⟨j+1,by omega,by go_num,by rw[W.out];exact r,z,F⟩
   have Z:Cw x.site s=false:=by simpa using hp
   have S:(!Cw x.site s)=true:=by simp[Z]
   have W:Hid (Dl (xs.take (j+1)) s=Dl (xs.take j) s):=by show _=_;rw[HT.out,if_neg (by simp[Z])];simp
   rw[S] at he;clear hp S Z;go_wp2;go_roundg (gk-1)
   case measure=>omega
   case rel=>exact⟨j+1,by omega,by go_num,by rw[W.out];exact hL _ _ _ d T,n.later T,by omega⟩
  obtain rfl:j=xs.length:=by omega
  go_wp2;refine bodyPost_end (v:=.tuple #[]) (by simp[results,Tryz.results240,go_sem]) rfl ⟨rfl,?_⟩;rw[List.take_of_length_le (Bq _)] at d;exact d
theorem xht (w:qW)(cs:Array Value)(t:TypeId)(n j:Nat)(a:w.heap.size=n):(w.alloc (.cells cs t)).frozen? (O n j)=false:=by
 subst a;unfold World.frozen?;rw[show (w.alloc (.cells cs t)).heap[((O w.heap.size j):Addr).block]?=some (.cells cs t) from BH w _];simp
def GD (ls:List QL):Int:=ls.foldl (λn x=>wrap64 (n+x.found)) 0
theorem xju (l:List QL)(x:QL):GD (l++[x])=wrap64 (GD l+x.found):=by simp[GD]
theorem xoA (x:QL)(b:Nat)(n:Int)(w:qW)(c:w.cell? (O b 0)=some (J n))(d:w.frozen? (O b 0)=false):Calls Tryz.prog 241 #[LV x,qP b] w λe w'=>e=.returned (.tuple #[])/\Below w.heap.size (w.setCell (O b 0) (J (wrap64 (n+x.found)))) w':=by
 have a:=World.block_lt_of_cell? _ _ c;have k:=λy=>Bf (Bg w y) c;have kf:=λy=>((Bg w y).frozen (p:=(O b 0)) a).trans d;go_enter Tryz.func241,Tryz.ntmps241;go_wp2;refine bodyPost_end (v:=.tuple #[]) (by simp[results,Tryz.results241,go_sem]) rfl ⟨rfl,by simpa using Bg (w.setCell (O b 0) (J (wrap64 (n+x.found)))) _⟩
structure AllI (w:qW)(v:Value)(xs:List QT)(m:Nat)(val:List QL->Int)(l:List QL)(w':qW):Prop where
 bel:qY w w'
 there:m<w'.heap.size
 tal:Ep (λb=>b<w.heap.size) w' v xs
 cell:w'.cell? (O m 0)=some (J (val l))
 fz:w'.frozen? (O m 0)=false
theorem AllI.later {w:qW}{v:Value}{xs:List QT}{m:Nat}{val:List QL->Int}{l:List QL}{w' w'':qW}(h:AllI w v xs m val l w')(a:qY w' w''):AllI w v xs m val l w'':=
 ⟨Bh h.bel a,Cd h.there a.size,h.tal.later xbD a,Bf a h.cell,(a.frozen (p:=(O m 0)) h.there).trans h.fz⟩
theorem xqY {P:Nat->Prop}(xs:List QT)(s:QS)(v:Value)(w:qW)(g:Ep P w v xs):Calls Tryz.prog 201 #[v,SV s] w λe w'=>e=.returned (J (GD (Dl xs s)))/\qY w w':=by
 have n:=Gm;have m:=xgV g;obtain⟨ad,cap,rfl,-,-,-,-⟩:=id g;have c:=BG w (qJ s) (qC #[J 0] 3)
 have j:AllI w (qS ad xs.length cap) xs (w.heap.size+1) GD [] ((w.alloc (qJ s)).alloc (qC #[J 0] 3)):=
  ⟨c,by simp,m.later xbD c,by rw[Bp _ _ _ _ (by simp)];rfl,xht _ _ _ _ _ (by simp)⟩
 have i:=(Lf w s 105).later (Bg _ (qC #[J 0] 3));obtain⟨s0,s1,s2⟩:=i;go_enter Tryz.func201,Tryz.ntmps201;go_wp2_with fail;refine (xmU (P:=λb=>b<w.heap.size) (AllI w (qS ad xs.length cap) xs (w.heap.size+1) GD) (w.heap.size+1) _ xs s _ _ j (by simp) (λb f=>by omega) (λl w' h=>h.tal) (λl w' w'' h f=>h.later f) λl x w' h=>?_).mono ?_
 ·refine (xoA x _ _ w' h.cell h.fz).mono ?_;rintro e w'' ⟨rfl,f⟩;have d:Below (w'.setCell (O (w.heap.size+1) 0) (J (wrap64 (GD l+x.found)))).heap.size (w'.setCell (O (w.heap.size+1) 0) (J (wrap64 (GD l+x.found)))) w'':=by simpa using f
  refine⟨rfl,AllI.later ⟨h.bel.setCell (by simp) _,by simpa using h.there,h.tal.keep xbD (Keeps.of_setCell (by simp) _) (λ_ h=>h),?_,?_⟩ d,?_,?_⟩
  ·rw[xju];exact Kw h.cell _
  ·simpa using h.fz
  ·exact (Keeps.of_setCell (by simp) _).trans (Keeps.of_below d)
  simpa using f.size
 rintro e w1 ⟨rfl,a⟩;have k:=a.cell;go_wp2;go_ret;exact⟨rfl,a.bel⟩
def GN (p:QL)(x:QL):QL:=if x.found>p.found\/(x.found>0/\x.found=p.found/\x.cls<p.cls) then x else p
def Gc (ls:List QL):QL:=ls.foldl GN ⟨-1,0⟩
theorem xhM (l:List QL)(x:QL):Gc (l++[x])=GN (Gc l) x:=by simp[Gc]
structure MostP (w:qW)(b:Nat)(q:QL)(w':qW):Prop where
 bel:Below b w w'
 keep:Keeps (λk=>k≠b) w w'
 c0:w'.cell? (O b 0)=some (J q.cls)
 c1:w'.cell? (O b 1)=some (J q.found)
 fz:∀o,w'.frozen? (O b o)=false
theorem MostP.same {w:qW}{b:Nat}{p:QL}(d:w.cell? (O b 0)=some (J p.cls))(f:w.cell? (O b 1)=some (J p.found))(g:∀o,w.frozen? (O b o)=false){w':qW}(c:qY w w'):MostP w b p w':=by
 have a:=World.block_lt_of_cell? _ _ d;have e:b<w.heap.size:=a;exact⟨c.mono (by omega),.of_below c,Bf c d,Bf c f,λo=>(c.frozen (p:=(O b o)) a).trans (g o)⟩
theorem MostP.set {w:qW}{b:Nat}{p x:QL}(c:w.cell? (O b 0)=some (J p.cls))(f:w.cell? (O b 1)=some (J p.found))(g:∀o,w.frozen? (O b o)=false){w':qW}(h:Below w.heap.size ((w.setCell (O b 0) (J x.cls)).setCell (O b 1) (J x.found)) w'):MostP w b x w':=by
 have d:b<w.heap.size:=World.block_lt_of_cell? _ _ c;have a:Below ((w.setCell (O b 0) (J x.cls)).setCell (O b 1) (J x.found)).heap.size ((w.setCell (O b 0) (J x.cls)).setCell (O b 1) (J x.found)) w':=by simpa using h
 have c0:((w.setCell (O b 0) (J x.cls)).setCell (O b 1) (J x.found)).cell? (O b 0)=some (J x.cls):=by
  rw[DX _ _ _ _ (by intro e;injection e with _ e2 _;omega)];exact Kw c _
 have c1:((w.setCell (O b 0) (J x.cls)).setCell (O b 1) (J x.found)).cell? (O b 1)=some (J x.found):=by
  refine Kw (v:=J p.found) ?_ _;rw[DX _ _ _ _ (by intro e;injection e with _ e2 _;omega)];exact f
 have fz:∀o,((w.setCell (O b 0) (J x.cls)).setCell (O b 1) (J x.found)).frozen? (O b o)=false:=λo=>by simpa using g o
 have:=MostP.same c0 c1 fz a;exact⟨(((Br b w).setCell (Bq _) _).setCell (Bq _) _).trans this.bel,((Keeps.of_setCell (by simp) _).trans (Keeps.of_setCell (by simp) _)).trans this.keep,this.c0,this.c1,this.fz⟩
theorem xmE (x p:QL)(b:Nat)(w:qW)(c:w.cell? (O b 0)=some (J p.cls))(d:w.cell? (O b 1)=some (J p.found))(f:∀o,w.frozen? (O b o)=false):Calls Tryz.prog 242 #[LV x,qP b] w λe w'=>e=.returned (.tuple #[])/\MostP w b (GN p x) w':=by
 have i:b<w.heap.size:=World.block_lt_of_cell? _ _ c;have k0:=λy=>Bf (Bg w y) c;have k1:=λy=>Bf (Bg w y) d;have kf:=λy o=>((Bg w y).frozen (p:=(O b o)) i).trans (f o);by_cases hA:p.found<x.found
 ·have a:Hid (GN p x=x):=by show _=_;unfold GN;rw[if_pos (Or.inl hA)]
  have l:decide (p.found<x.found)=true:=by simpa using hA
  go_enter Tryz.func242,Tryz.ntmps242;go_wp2;refine bodyPost_end (v:=.tuple #[]) (by simp[results,Tryz.results242,go_sem]) rfl ⟨rfl,?_⟩;rw[a.out];exact MostP.set c d f (by simpa using Bg ((w.setCell (O b 0) (J x.cls)).setCell (O b 1) (J x.found)) _)
 have k:decide (p.found<x.found)=false:=by simpa using hA
 by_cases hB:0<x.found
 ·have h:decide (0<x.found)=true:=by simpa using hB
  by_cases hC:x.found=p.found
  ·by_cases hD:x.cls<p.cls
   ·have a:Hid (GN p x=x):=by show _=_;unfold GN;rw[if_pos (Or.inr ⟨hB,hC,hD⟩)]
    have j:decide (x.cls<p.cls)=true:=by simpa using hD
    have g:(x.found == p.found)=true:=by simpa using hC
    go_enter Tryz.func242,Tryz.ntmps242;go_wp2;refine bodyPost_end (v:=.tuple #[]) (by simp[results,Tryz.results242,go_sem]) rfl ⟨rfl,?_⟩;rw[a.out]
    first
    | exact MostP.set c d f (by simpa using Bg ((w.setCell (O b 0) (J x.cls)).setCell (O b 1) (J x.found)) _)
    | exact MostP.set c d f (by simpa [hC] using Bg ((w.setCell (O b 0) (J x.cls)).setCell (O b 1) (J x.found)) _)
   have a:Hid (GN p x=p):=by show _=_;unfold GN;rw[if_neg (by omega)]
   have j:decide (x.cls<p.cls)=false:=by simpa using hD
   have g:(x.found == p.found)=true:=by simpa using hC
   go_enter Tryz.func242,Tryz.ntmps242;go_wp2;refine bodyPost_end (v:=.tuple #[]) (by simp[results,Tryz.results242,go_sem]) rfl ⟨rfl,?_⟩;rw[a.out];exact MostP.same c d f (Bg _ _)
  have a:Hid (GN p x=p):=by show _=_;unfold GN;rw[if_neg (by omega)]
  have g:(x.found == p.found)=false:=by simpa using hC
  go_enter Tryz.func242,Tryz.ntmps242;go_wp2;refine bodyPost_end (v:=.tuple #[]) (by simp[results,Tryz.results242,go_sem]) rfl ⟨rfl,?_⟩;rw[a.out];exact MostP.same c d f (Bg _ _)
 have a:Hid (GN p x=p):=by show _=_;unfold GN;rw[if_neg (by omega)]
 have h:decide (0<x.found)=false:=by simpa using hB
 go_enter Tryz.func242,Tryz.ntmps242;go_wp2;refine bodyPost_end (v:=.tuple #[]) (by simp[results,Tryz.results242,go_sem]) rfl ⟨rfl,?_⟩;rw[a.out];exact MostP.same c d f (Bg _ _)
structure MostI (w:qW)(v:Value)(xs:List QT)(m:Nat)(l:List QL)(w':qW):Prop where
 bel:qY w w'
 there:m<w'.heap.size
 tal:Ep (λb=>b<w.heap.size) w' v xs
 c0:w'.cell? (O m 0)=some (J (Gc l).cls)
 c1:w'.cell? (O m 1)=some (J (Gc l).found)
 fz:∀o,w'.frozen? (O m o)=false
theorem MostI.later {w:qW}{v:Value}{xs:List QT}{m:Nat}{l:List QL}{w' w'':qW}(h:MostI w v xs m l w')(a:qY w' w''):MostI w v xs m l w'':=
 ⟨Bh h.bel a,Cd h.there a.size,h.tal.later xbD a,Bf a h.c0,Bf a h.c1,λo=>(a.frozen (p:=(O m o)) h.there).trans (h.fz o)⟩
theorem xo4 {P:Nat->Prop}(xs:List QT)(s:QS)(v:Value)(w:qW)(g:Ep P w v xs):Calls Tryz.prog 202 #[v,SV s] w λe w'=>e=.returned (.tuple #[J (Gc (Dl xs s)).cls,J (Gc (Dl xs s)).found])/\qY w w':=by
 have m:=Gm;have k:=xgV g;obtain⟨ad,cap,rfl,-,-,-,-⟩:=id g;have d:=BG w (qJ s) (qC #[J (-1),J 0] 147)
 have j:MostI w (qS ad xs.length cap) xs (w.heap.size+1) [] ((w.alloc (qJ s)).alloc (qC #[J (-1),J 0] 147)):=
  ⟨d,by simp,k.later xbD d,by rw[Bp _ _ _ _ (by simp)];rfl,by rw[Bp _ _ _ _ (by simp)];rfl,λo=>xht _ _ _ _ _ (by simp)⟩
 have i:=(Lf w s 105).later (Bg _ (qC #[J (-1),J 0] 147));obtain⟨s0,s1,s2⟩:=i;go_enter Tryz.func202,Tryz.ntmps202;go_wp2_with fail;refine (xmP (P:=λb=>b<w.heap.size) (MostI w (qS ad xs.length cap) xs (w.heap.size+1)) (w.heap.size+1) _ xs s _ _ j (by simp) (λb f=>by omega) (λl w' h=>h.tal) (λl w' w'' h f=>h.later f) λl x w' h=>?_).mono ?_
 ·refine (xmE x (Gc l) _ w' h.c0 h.c1 h.fz).mono ?_;rintro e w'' ⟨rfl,c⟩;refine⟨rfl,⟨h.bel.trans (c.bel.mono (by omega)),Cd h.there c.bel.size,h.tal.keep xbD (c.keep.mono (λb f=>by omega)) (λ_ h=>h),?_,?_,c.fz⟩,c.keep,c.bel.size⟩
  ·rw[xhM];exact c.c0
  rw[xhM];exact c.c1
 rintro e w1 ⟨rfl,a⟩;have k0:=a.c0;have k1:=a.c1;go_wp2;go_quiet (fail);go_wp2
 go_ret2
 exact⟨rfl,below_drewN a.bel _⟩
def GM (i:QI):Bool:=i.op == 14 || i.op == 13
def FH (m:QM):Bool:=m.prim == 0 && !m.code.any GM
theorem xmn (x:QI)(w:qW):Calls Tryz.prog 239 #[IV x] w λe w'=>e=.returned (.bool (GM x))/\qY w w':=by
 by_cases h:x.op=14
 ·have b:(x.op == 14)=true:=by simpa using h
  have a:Hid (GM x=true):=by show _=_;simp[GM,h]
  clear h;go_enter Tryz.func239,Tryz.ntmps239;go_wp2;go_ret;exact⟨Cq a.out.symm,Bg _ _⟩
 have b:(x.op == 14)=false:=by simpa using h
 have a:Hid (GM x=(x.op == 13)):=by show _=_;simp[GM,h]
 clear h;go_enter Tryz.func239,Tryz.ntmps239;go_wp2;go_ret;exact⟨Cq a.out.symm,Bg _ _⟩
theorem xmp {P:Nat->Prop}(xs:List QI)(v:Value)(w:qW)(G:Cm P w v xs) :
  Calls Tryz.prog 262 #[v,.func (.func 239) #[] #[]] w λe w'=>e=.returned (J (CB GM xs))/\qY w w':=by
 obtain⟨ad,cap,rfl,H,p,r,d⟩:=G;go_enter Tryz.func262,Tryz.ntmps262;go_wp2
 go_loopg [8] xs.length (λg c wr=>∃j:Nat,j+g=xs.length/\c=J j/\qY w wr/\∀i y,i<j->xs[i]?=some y->GM y=false)
 case atStart=>exact⟨0,by omega,rfl,Br _ _,λi y F=>by omega⟩
 case round=>
  obtain⟨j,K,rfl,a,l⟩:=hrel;have u:Hid (∀i y,i<j->xs[i]?=some y->GM y=false):=l;clear l;by_cases hlt:j<xs.length
  ·obtain⟨b,o,rfl,-,f,n,h,k,m,q⟩:=d j xs[j] (by simp[hlt]);have t:Hid (xs[j]?=some xs[j]):=by show _=_;simp[hlt]
   generalize xs[j]=x at *;simp only[Nat.add_zero] at f;have u0:=Bf a f;have u1:=Bf a n;have u2:=Bf a h;have u3:=Bf a k;have u4:=Bf a m;clear f n h k m d;have C:(j:Int)<(xs.length:Int):=by omega
   have D:(0:Int)<=(j:Int):=by omega
   go_wp2_with fail;refine (xmn x _).mono ?_;rintro e w1 ⟨rfl,B⟩;by_cases hp:GM x=true
   ·go_wp2;go_ret;exact⟨BT (Kq t.out hp u.out).symm,Bh a B⟩
   have z:GM x=false:=by simpa using hp
   clear hp;go_wp2;go_roundg (gk-1)
   case measure=>omega
   case rel=>
    refine⟨j+1,by omega,by go_num,Bh a B,λi y F s=>?_⟩;by_cases hij:i=j
    ·subst hij;rw[t.out] at s;cases s;exact z
    exact u.out i y (by omega) s
  obtain rfl:j=xs.length:=by omega
  go_wp2;go_ret;exact⟨BT (Lq λi y s=>u.out i y (Bz s) s).symm,a⟩
theorem xn8 {α:Type}(p:α->Bool)(xs:List α):decide (0<=CB p xs)=xs.any p:=by
 unfold CB
 cases h:xs.findIdx? p with
 | none=>
  rw[List.findIdx?_eq_none_iff] at h
  have:xs.any p=false:=by
   rw[List.any_eq_false];intro x c;simp[h x c]
  simp[this]
 | some j=>
  rw[List.findIdx?_eq_some_iff_getElem] at h;obtain⟨a,b,-⟩:=h
  have:xs.any p=true:=by
   rw[List.any_eq_true];exact⟨_,List.getElem_mem a,b⟩
  rw[this];simp
theorem xjy {P:Nat->Prop}(xs:List QI)(v:Value)(w:qW)(b:Cm P w v xs) :
  Calls Tryz.prog 238 #[v,.func (.func 239) #[] #[]] w λe w'=>e=.returned (.bool (xs.any GM))/\qY w w':=by
 go_enter Tryz.func238,Tryz.ntmps238;go_wp2_with fail;refine (xmp xs v _ b).mono ?_;rintro e w1 ⟨rfl,a⟩;go_wp2;go_ret;exact⟨Cq (xn8 GM xs),a⟩
theorem xlq {P:Nat->Prop}(x:QM)(v:Value)(w:qW)(b:Cm P w v x.code):Calls Tryz.prog 198 #[MV x v] w λe w'=>e=.returned (.bool (FH x))/\qY w w':=by
 obtain⟨ad,cap,rfl,-⟩:=id b;by_cases h:x.prim=0
 ·have c:(x.prim == 0)=true:=by simpa using h
  have a:Hid (FH x=!x.code.any GM):=by show _=_;simp[FH,h]
  clear h;go_enter Tryz.func198,Tryz.ntmps198;go_wp2_with fail;refine (xjy x.code _ _ (b.later BR (Bg _ _))).mono ?_;rintro e w1 ⟨rfl,d⟩;go_wp2;go_ret;exact⟨Cq a.out.symm,EB (Br _ _) d⟩
 have c:(x.prim == 0)=false:=by simpa using h
 have a:Hid (FH x=false):=by show _=_;simp[FH,h]
 clear h;go_enter Tryz.func198,Tryz.ntmps198;go_wp2;go_ret;exact⟨Cq a.out.symm,Bg _ _⟩
theorem xlp {xs:List QC}{name:ByteArray}:∀(l:List Int),0<=(Fl xs name l).2->(Fl xs name l).2=CZ (Km xs (Fl xs name l).1) name
 | [],h=>by simp[Fl] at h
 | k :: r,h=>by
  unfold Fl at h ⊢;by_cases hk:0<=CZ (Km xs k) name
  ·rw[if_pos hk]
  rw[if_neg hk] at h ⊢;exact xlp r h
theorem xjD {xs:List QC}{k:Int}{name:ByteArray}(h:0<=CZ (Km xs k) name):∃(q:Nat) (x:QC),k=(q:Int)/\xs[q]?=some x/\Km xs k=x.mz:=by
 unfold Km at h ⊢
 cases a:Cy xs k with
 | none=>rw[a] at h;simp[CZ,CB] at h
 | some x=>
  obtain⟨q,rfl,b⟩:=Gl a;exact⟨q,x,rfl,b,rfl⟩
theorem xih {xs:List QC}{name:ByteArray}:∀ {l:List Int},(∀k∈l,0<=k)->((Fl xs name l).1<0/\(Fl xs name l).2<0)\/(0<=(Fl xs name l).1/\0<=(Fl xs name l).2)
 | [],_=>Or.inl (by simp[Fl])
 | k :: r,h=>by
  unfold Fl;split
  ·rename_i a;exact Or.inr ⟨h k (by simp),a⟩
  exact xih λq b=>h q (by simp[b])
theorem xmA (xs:List QC)(c:Int)(name:ByteArray):((BF xs c name).1<0/\(BF xs c name).2<0)\/(0<=(BF xs c name).1/\0<=(BF xs c name).2):=by
 rw[NP];refine xih λk b=>?_;obtain⟨i,a,rfl⟩:=List.mem_iff_getElem.1 b;obtain⟨q,x,e,-⟩:=xgf _ _ i _ (by rw[List.getElem?_eq_getElem a]);rw[e];omega
theorem xmB {xs:List QC}{k:Int}{name:ByteArray}(h:0<=(BF xs k name).2):∃(q:Nat) (x:QC) (t:Nat) (y:QM),BF xs k name=((q:Int),(t:Int))/\xs[q]?=some x/\x.mz[t]?=some y:=by
 rw[NP] at h ⊢;generalize KX xs (xs.length+1) k=l at *;have a:=xlp l h;have c:0<=CZ (Km xs (Fl xs name l).1) name:=by omega
 obtain⟨q,x,d,f,e⟩:=xjD c;rw[e] at a c;rcases MT (λm:QM=>CD m.name name) x.mz with h3 | ⟨t,y,ht,hy,hp,-⟩
 ·have:CZ x.mz name=-1:=h3;omega
 have b:CZ x.mz name=(t:Int):=ht;refine⟨q,x,t,y,?_,f,hy⟩;rw[b] at a;exact Prod.ext d a
theorem xfs (xs:List QC)(k:Int)(name:ByteArray):((BF xs k name).1<0/\(BF xs k name).2<0)\/∃(q:Nat) (x:QC) (t:Nat) (y:QM),BF xs k name=((q:Int),(t:Int))/\xs[q]?=some x/\x.mz[t]?=some y:=by
 rcases xmA xs k name with h | h
 ·exact Or.inl h
 exact Or.inr (xmB h.2)
def Hb (xs:List QC)(c:Int)(name:ByteArray)(args:Int):Bool:=
 if (BF xs c name).2<0 then false else
 match (xs[(BF xs c name).1.toNat]?).bind λx=>x.mz[(BF xs c name).2.toNat]? with
 | some m=>m.args == args && FH m
 | none=>false
theorem xob {xs:List QC}{c:Int}{name:ByteArray}(a:Int)(h:(BF xs c name).2<0):Hb xs c name a=false:=by simp[Hb,h]
theorem xmt {xs:List QC}{c:Int}{name:ByteArray}(a:Int){q t:Nat}{x:QC}{m:QM}(h:BF xs c name=((q:Int),(t:Int)))(d:xs[q]?=some x)(b:x.mz[t]?=some m):Hb xs c name a=(m.args == a && FH m):=by
 unfold Hb;rw[h];simp[d,b]
theorem xe7 {P:Nat->Prop}(X:QW)(c:Int)(name:ByteArray)(a:Int)(cv hv:Value)(w:qW)(H:BK P w cv X.cz)(F:BP P w hv X.heap) :
  Calls Tryz.prog 203 #[WV cv hv X.ez,J c,qZ name,J a] w λe w'=>e=.returned (.bool (Hb X.cz c name a))/\qY w w':=by
 obtain⟨ad,cap,rfl,U,j,p,d⟩:=id H;obtain⟨ah,ch,rfl,-,-,-,-⟩:=id F;have y:=Bg w (qA ad cap ah ch X);have k0:(w.alloc (qA ad cap ah ch X)).cell? (O w.heap.size 0)=some (qS ad X.cz.length cap):=by rw[Bp _ _ _ _ rfl];rfl
 go_enter Tryz.func203,Tryz.ntmps203;go_wp2_with fail;refine (Mb X c name _ _ _ (H.later Bw (Bg _ _)) (F.later BB (Bg _ _))).mono ?_;rintro e w1 ⟨rfl,K⟩;replace k0:=Bf K k0;have s:=Bh y K;clear y K;rcases xfs X.cz c name with ⟨N,T⟩ | ⟨q,x,t,m,G,z,B⟩
 ·have u:Hid (Hb X.cz c name a=false):=xob a T;have v:decide ((BF X.cz c name).1<0)=true:=by simpa using N
  generalize BF X.cz c name=f at *;obtain⟨f1,f2⟩:=f;go_wp2;go_ret;exact⟨Cq u.out.symm,s⟩
 have u:Hid (Hb X.cz c name a=(m.args == a && FH m)):=xmt a G z B;rw[G];have V:=Bz z;have W:=Bz B;obtain⟨b,o,rfl,-,-,-,-,-,mv,i,k⟩:=d q x z;obtain⟨am,cm,rfl,r,n,-,h⟩:=k;obtain⟨b2,o2,rfl,-,y0,y1,y2,y3,-,sv,y4,g⟩:=h t m B;obtain⟨ac,cc,rfl,-,-,-,-⟩:=id g;simp only[Nat.add_zero] at y0;have u3:=Bf s i;have z0:=Bf s y0;have z1:=Bf s y1;have z2:=Bf s y2;have z3:=Bf s y3;have z4:=Bf s y4;have D:=g.later BR s;unfold maxLen at j n;have L:(q:Int)<(X.cz.length:Int):=by omega
 have R:(0:Int)<=(q:Int):=by omega
 have S:(t:Int)<(x.mz.length:Int):=by omega
 have Q:(0:Int)<=(t:Int):=by omega
 have M:decide ((q:Int)<0)=false:=by simp
 clear d h z B G i y0 y1 y2 y3 y4 g H F;by_cases ha:m.args=a
 ·have v:(m.args == a)=true:=by simpa using ha
  have C:Hid (Hb X.cz c name a=FH m):=by show _=_;rw[u.out,v];simp
  subst ha;clear v u;go_wp2_with fail;refine (xlq m _ _ (D.later BR (Bg _ _))).mono ?_;rintro e w2 ⟨rfl,l⟩;go_wp2;go_ret;exact⟨Cq C.out.symm,Bh s (EB (Br _ _) l)⟩
 have v:(m.args == a)=false:=by simpa using ha
 have C:Hid (Hb X.cz c name a=false):=by show _=_;rw[u.out,v];simp
 clear u ha;go_wp2;go_ret;exact⟨Cq C.out.symm,Bh s (Bg _ _)⟩
theorem xoV (ls:List QL):0<=(Gc ls).found:=by
 have:∀(l:List QL) (p:QL),0<=p.found->0<=(l.foldl GN p).found:=by
  intro l
  induction l with
  | nil=>exact λp h=>h
  | cons x r ih=>
   intro p h;refine ih _ ?_;unfold GN;split<;>omega
 exact this ls _ (by simp)
theorem xmV (ls:List QL):-9223372036854775808<=GD ls/\GD ls<9223372036854775808:=by
 rcases List.eq_nil_or_concat ls with rfl | ⟨r,x,rfl⟩
 ·simp[GD]
 rw[List.concat_eq_append,xju];unfold wrap64;omega
theorem xnc {a n:Int}(b:¬ a<2)(c:a<9223372036854775808):n<=wrap64 (a.tdiv 2) ↔ n+n<=a:=by
 rw[Int.tdiv_eq_ediv_of_nonneg (by omega)];unfold wrap64;omega
def Ld (X:QW)(t:List QT)(s:QS)(name:ByteArray)(args:Int):Int:=
 if GD (Dl t s)<2\/(Gc (Dl t s)).found+(Gc (Dl t s)).found<=GD (Dl t s)\/Hb X.cz (Gc (Dl t s)).cls name args=false then -1 else (Gc (Dl t s)).cls
structure SiteB (w:qW)(ad:Option Addr)(n cap:Nat)(ah:Option Addr)(nh ch:Nat)(ep:Int)(b:Nat)(s:QS)(w':qW):Prop where
 k0:w'.cell? (O b 0)=some (qS ad n cap)
 k1:w'.cell? (O b 1)=some (qS ah nh ch)
 k2:w'.cell? (O b 2)=some (J ep)
 s:SiteAt w' (b+1) s
 bel:qY w w'
theorem SiteB.later {w:qW}{ad:Option Addr}{n cap:Nat}{ah:Option Addr}{nh ch:Nat}{ep:Int}{b:Nat}{s:QS}{w' w'':qW}(h:SiteB w ad n cap ah nh ch ep b s w')(a:qY w' w''):SiteB w ad n cap ah nh ch ep b s w'':=
 ⟨Bf a h.k0,Bf a h.k1,Bf a h.k2,h.s.later a,Bh h.bel a⟩
theorem xoB (w:qW)(ad:Option Addr)(n cap:Nat)(ah:Option Addr)(nh ch:Nat)(ep:Int)(s:QS):SiteB w ad n cap ah nh ch ep w.heap.size s ((w.alloc (qC #[qS ad n cap,qS ah nh ch,J ep] 26)).alloc (qJ s)):=by
 refine⟨?_,?_,?_,?_,BG _ _ _⟩
 ·exact Bf (Bg _ _) (by rw[Bp _ _ _ _ rfl];rfl)
 ·exact Bf (Bg _ _) (by rw[Bp _ _ _ _ rfl];rfl)
 ·exact Bf (Bg _ _) (by rw[Bp _ _ _ _ rfl];rfl)
 have:=Lf (w.alloc (qC #[qS ad n cap,qS ah nh ch,J ep] 26)) s 105;simpa using this
theorem xm7 {P P2:Nat->Prop}(X:QW)(t:List QT)(s:QS)(name:ByteArray)(b:Int)(cv hv tv:Value)(w:qW)(y:BK P w cv X.cz)(B:BP P w hv X.heap)(C:Ep P2 w tv t) :
  Calls Tryz.prog 158 #[WV cv hv X.ez,tv,SV s,qZ name,J b] w λe w'=>e=.returned (J (Ld X t s name b))/\qY w w':=by
 obtain⟨ad,cap,rfl,-⟩:=id y;obtain⟨ah,ch,rfl,-⟩:=id B;have j:=xoB w ad X.cz.length cap ah X.heap.length ch X.ez s;go_enter Tryz.func158,Tryz.ntmps158;go_upto_region 1 with (fail);generalize (w.alloc (qA ad cap ah ch X)).alloc (qJ s)=W0 at *;have k:=C.later xbD j.bel;have u:=y.later Bw j.bel;have v:=B.later BB j.bel;obtain⟨s0,s1,s2⟩:=j.s;go_wp2_with fail;refine (xqY t s _ _ k).mono ?_;rintro e w1 ⟨rfl,f⟩;replace j:=j.later f;replace k:=k.later xbD f;clear f s0 s1 s2;obtain⟨s0,s1,s2⟩:=j.s;go_wp2_with fail;refine (xo4 t s _ _ k).mono ?_;rintro e w2 ⟨rfl,g⟩;replace j:=j.later g;clear g s0 s1 s2 k;have l:Hid (Ld X t s name b=if GD (Dl t s)<2\/(Gc (Dl t s)).found+(Gc (Dl t s)).found<=GD (Dl t s)\/Hb X.cz (Gc (Dl t s)).cls name b=false then -1 else (Gc (Dl t s)).cls):=rfl;have o:=(xmV (Dl t s)).2;have D:=xoV (Dl t s);generalize GD (Dl t s)=a at *;generalize Gc (Dl t s)=p at *;obtain⟨pc,pn⟩:=p;simp only at *;have n:=y.later Bw j.bel;have q:=B.later BB j.bel;clear C u v;obtain⟨k0,k1,k2,-,c⟩:=j;by_cases h1:a<2
 ·have F:decide (a<2)=true:=by simpa using h1
  have m:Hid (Ld X t s name b=-1):=by show _=_;rw[l.out,if_pos (Or.inl h1)]
  clear l;go_wp2;go_ret;exact⟨BT m.out.symm,c⟩
 have F:decide (a<2)=false:=by simpa using h1
 by_cases h2:pn+pn<=a
 ·have r:decide (pn<=wrap64 (a.tdiv 2))=true:=by simpa using (xnc h1 o).2 h2
  have m:Hid (Ld X t s name b=-1):=by show _=_;rw[l.out,if_pos (Or.inr (Or.inl h2))]
  clear l h1 h2;go_wp2;go_ret;exact⟨BT m.out.symm,c⟩
 have r:decide (pn<=wrap64 (a.tdiv 2))=false:=by
  have:=λh=>h2 ((xnc h1 o).1 h);simpa using this
 cases i:Hb X.cz pc name b
 ·have m:Hid (Ld X t s name b=-1):=by show _=_;rw[l.out,if_pos (Or.inr (Or.inr i))]
  have z:Hid (Hb X.cz pc name b=false):=i;clear l h1 h2 i;go_wp2_with fail;refine (xe7 X pc name b _ _ _ n q).mono ?_;rintro e w3 ⟨rfl,d⟩;rw[z.out];go_wp2;go_ret;exact⟨BT m.out.symm,Bh c d⟩
 have m:Hid (Ld X t s name b=pc):=by show _=_;rw[l.out,if_neg (by simp[h1,h2,i])]
 have z:Hid (Hb X.cz pc name b=true):=i;clear l h1 h2 i;go_wp2_with fail;refine (xe7 X pc name b _ _ _ n q).mono ?_;rintro e w3 ⟨rfl,d⟩;rw[z.out];go_wp2;go_ret;exact⟨BT m.out.symm,Bh c d⟩
abbrev BQ (op a b c:Int):QI:=⟨op,a,b,c,⟨#[]⟩⟩
def Cc (self args temps first behind:Int)(x:QI):QI:=
 if x.op=1 then BQ 3 self 0 0
 else if x.op=2 then BQ 3 (args+x.a) 0 0
 else if x.op=3\/x.op=11 then BQ x.op (temps+x.a) 0 0
 else if x.op=4 then BQ 19 self x.a 0
 else if x.op=12 then BQ 20 self x.a 0
 else if x.op=15\/x.op=16 then BQ x.op (first+x.a) 0 0
 else if x.op=17 then BQ 15 behind 0 0
 else x
def Fq (args:Int):Nat->List QI
 | 0=>[]
 | n+1=>BQ 11 (args+n) 0 0 :: Fq args n
def Ex (temps:Int)(n:Nat):List QI:=(List.range n).flatMap λk=>[BQ 6 0 0 0,BQ 11 (temps+(k:Nat)) 0 0]
theorem xel (a:Int)(n:Nat):Ex a (n+1)=Ex a n++[BQ 6 0 0 0,BQ 11 (a+(n:Nat)) 0 0]:=by
 unfold Ex;rw[List.range_succ,List.flatMap_append];simp
theorem Qw (a:Int):∀n,(Ex a n).length=2*n
 | 0=>rfl
 | n+1=>by rw[xel,List.length_append,Qw a n];simp;omega
theorem xgM (a:Int):∀n,(Fq a n).length=n
 | 0=>rfl
 | n+1=>by simp[Fq,xgM a n]
def Kc (leaf:QM)(guard:QI)(self:Int):List QI:=[guard,BQ 21 0 0 0]++Fq (self+1) leaf.args.toNat++[BQ 11 self 0 0]++Ex (self+1+leaf.args) leaf.temps.toNat
def Fh (leaf:QM)(n:Int):Int:=n+3+leaf.args+2*leaf.temps
def Eh (leaf:QM)(guard:QI)(self n:Int):List QI:=Kc leaf guard self++leaf.code.map (Cc self (self+1) (self+1+leaf.args) (Fh leaf n) (Fh leaf n+leaf.code.length))
theorem xnM (a:QM)(guard:QI)(self:Int):(Kc a guard self).length=3+a.args.toNat+2*a.temps.toNat:=by
 unfold Kc;simp[xgM,Qw];omega
theorem KB (a:QM)(guard:QI)(self n:Int):(Eh a guard self n).length=3+a.args.toNat+2*a.temps.toNat+a.code.length:=by
 unfold Eh;rw[List.length_append,xnM];simp
def Lh (xs:List QC)(k:Int)(name:ByteArray):Option QM:=if (BF xs k name).2<0 then none else (xs[(BF xs k name).1.toNat]?).bind λx=>x.mz[(BF xs k name).2.toNat]?
def Et (xs:List QC)(sites:List Int)(at':Nat)(x:QI):Option QM:=
 if x.op=14/\0<=sites.getD at' (-1) then
  match Lh xs (sites.getD at' (-1)) x.name with
  | none=>none
  | some m=>if m.args=x.a/\FH m=true then some m else none
 else none
def Kz (n temps:Int)(leaf:QM)(left:Int):Bool:=decide (n+3+leaf.args+2*leaf.temps+leaf.code.length+left<=240/\temps+1+leaf.args+leaf.temps<=40)
def CS (x:QI)(at':Int):QI:=if x.op=14 then { x with c:=at' } else x
def DK (xs:List QC)(sites:List Int)(len:Nat)(n temps:Int)(at':Nat)(x:QI):Option QM:=
 match Et xs sites at' x with
 | none=>none
 | some leaf=>if Kz n temps leaf ((len:Int)-at')=true then some leaf else none
structure Bd where
 code:List QI
 temps:Int
 begins:List Int
 pieces:Nat
def FJ (xs:List QC)(sites:List Int)(len:Nat)(s:Bd)(at':Nat)(x:QI):Bd:=
 match DK xs sites len s.code.length s.temps at' x with
 | none=>⟨s.code++[CS x at'],s.temps,s.begins++[(s.code.length:Int)],s.pieces⟩
 | some leaf=>⟨s.code++Eh leaf (BQ 18 (sites.getD at' (-1)) leaf.args at') s.temps s.code.length,s.temps+1+leaf.args+leaf.temps,s.begins++[(s.code.length:Int)],s.pieces+1⟩
def Bv (xs:List QC)(sites:List Int)(m:QM):Nat->Bd
 | 0=>⟨[],m.temps,[],0⟩
 | k+1=>match m.code[k]? with
  | none=>Bv xs sites m k
  | some x=>FJ xs sites m.code.length (Bv xs sites m k) k x
theorem Kb {xs:List QC}{sites:List Int}{m:QM}{k:Nat}{x:QI}(h:m.code[k]?=some x):Bv xs sites m (k+1)=FJ xs sites m.code.length (Bv xs sites m k) k x:=by
 rw[Bv,h]
theorem xeN (xs:List QC)(sites:List Int)(a:Nat)(s:Bd)(k:Nat)(x:QI):(FJ xs sites a s k x).begins=s.begins++[(s.code.length:Int)]:=by
 unfold FJ;split<;>rfl
theorem Ml {xs:List QC}{sites:List Int}{m:QM}:∀ {k:Nat},k<=m.code.length->(Bv xs sites m k).begins.length=k
 | 0,_=>rfl
 | k+1,h=>by
  rw[Kb (List.getElem?_eq_getElem (by omega)),xeN,List.length_append,Ml (by omega)];rfl
def GL (begins:List Int)(x:QI):Option Int:=if (x.op=15\/x.op=16)/\0<=x.a then begins[x.a.toNat]? else none
def Dx (begins:List Int)(plain:List QI)(code:List QI):Nat->List QI
 | 0=>code
 | k+1=>match plain[k]?,begins[k]? with
  | some x,some b=>match GL begins x with
   | some t=>(Dx begins plain code k).modify b.toNat λy=>{ y with a:=t }
   | none=>Dx begins plain code k
  | _,_=>Dx begins plain code k
theorem Mt (begins:List Int)(plain code:List QI):∀k,(Dx begins plain code k).length=code.length
 | 0=>rfl
 | k+1=>by
  unfold Dx;split
  ·split
   ·rw[List.length_modify,Mt begins plain code k]
   exact Mt begins plain code k
  exact Mt begins plain code k
structure Fst where
 cls:Int
 name:ByteArray
 ez:Int
 temps:Int
 code:List QI
def Kh:Fst:=⟨0,⟨#[]⟩,0,0,[]⟩
def En (X:QW)(c:Int)(m:QM)(sites:List Int):Fst × Bool:=
 let s:=Bv X.cz sites m m.code.length
 if s.pieces=0 then (Kh,false) else (⟨c,m.name,X.ez,s.temps,Dx s.begins m.code s.code m.code.length⟩,true)
set_option maxRecDepth 8000
theorem CH {p:Prop}(h:p):Hid p:=h
def Fy:Int->List Int->Bool
 | _,[]=>true
 | m,n :: r=>if n<0\/m<n then false else Fy (m-n) r
theorem xpS {α:Type}{xs:List α}{j:Nat}{x:α}(h:xs[j]?=some x):xs.drop j=x :: xs.drop (j+1):=by
 obtain⟨a,rfl⟩:=List.getElem?_eq_some_iff.1 h;exact List.drop_eq_getElem_cons a
theorem xlC {P:Nat->Prop}(ps:List Int)(v:Value)(m:Int)(w:qW)(z:0<=m/\m<=1000)(h:LH P w v ps):Calls Tryz.prog 199 #[J m,v] w λe w'=>e=.returned (.bool (Fy m ps))/\w'=w:=by
 obtain⟨ad,cap,rfl,C,d,i,a⟩:=h;go_enter Tryz.func199,Tryz.ntmps199;go_wp2
 go_loopg [0,9] ps.length (λg mv c wr=>∃(j:Nat) (mm:Int),j+g=ps.length/\c=J j/\mv=J mm/\(0<=mm/\mm<=1000)/\Hid (Fy m ps=Fy mm (ps.drop j))/\wr=w)
 case atStart=>exact⟨0,m,by omega,rfl,rfl,z,rfl,rfl⟩
 case round=>
  obtain⟨j,mm,D,rfl,rfl,⟨f,k⟩,r,rfl⟩:=hrel;by_cases hlt:j<ps.length
  ·have p:ps[j]?=some ps[j]:=by simp[hlt]
   have s:=CH p;obtain⟨b,o,rfl,-,y0⟩:=a j ps[j] p;generalize ps[j]=x at *;have t:(j:Int)<(ps.length:Int):=by omega
   have B:(0:Int)<=(j:Int):=by omega
   replace y0:wr.cell? (O b (o+j))=some (J x):=by simpa [Md] using y0
   clear a p;have q:Hid (Fy m ps=if x<0\/mm<x then false else Fy (mm-x) (ps.drop (j+1))):=by show _=_;rw[r.out,xpS s.out];rfl
   by_cases h0:x<0
   ·have y:decide (x<0)=true:=by simpa using h0
    have l:Hid (Fy m ps=false):=by show _=_;rw[q.out,if_pos (Or.inl h0)]
    clear h0;go_wp2;go_ret;exact⟨Cq l.out.symm,rfl⟩
   have y:decide (x<0)=false:=by simpa using h0
   by_cases h1:mm<x
   ·have n:decide (mm<x)=true:=by simpa using h1
    have l:Hid (Fy m ps=false):=by show _=_;rw[q.out,if_pos (Or.inr h1)]
    clear h0 h1;go_wp2;go_ret;exact⟨Cq l.out.symm,rfl⟩
   have n:decide (mm<x)=false:=by simpa using h1
   have l:Hid (Fy m ps=Fy (mm-x) (ps.drop (j+1))):=by show _=_;rw[q.out,if_neg (by omega)]
   have F:IntKind.i64.wrap (mm-x)=mm-x:=CM (by omega) (by omega);have u:Hid (0<=mm-x/\mm-x<=1000):=by show _/\_;omega
   clear h0 h1;go_wp2;go_roundg (gk-1)
   case measure=>omega
   case rel=>exact⟨j+1,mm-x,by omega,by go_num,rfl,u.out,l.out,rfl⟩
  obtain rfl:j=ps.length:=by omega
  have l:Hid (Fy m ps=true):=by show _=_;rw[r.out,List.drop_length];rfl
  go_wp2;go_ret;exact⟨Cq l.out.symm,rfl⟩
theorem xgZ (x:QI)(n:Int)(w:qW):Calls Tryz.prog 151 #[IV x,J n] w λe w'=>e=.returned (IV (CS x n))/\qY w w':=by
 have g:=BG w (qE x) (qC #[J 0,J 0,J 0,J 0,qZ ⟨#[]⟩] 69);by_cases h:x.op=14
 ·have f:(x.op == 14)=true:=by simpa using h
  have d:Hid (CS x n={ x with c:=n }):=by show _=_;unfold CS;rw[if_pos h]
  clear h;go_enter Tryz.func151,Tryz.ntmps151;go_wp2;refine Bt (v:=IV { x with c:=n }) ?_ rfl ⟨by rw[d.out],?_⟩
  ·simp[results,Tryz.results151,go_sem]
  exact BG _ _ _
 have f:(x.op == 14)=false:=by simpa using h
 have d:Hid (CS x n=x):=by show _=_;unfold CS;rw[if_neg h]
 clear h;go_enter Tryz.func151,Tryz.ntmps151;go_wp2;refine Bt (v:=IV x) ?_ rfl ⟨by rw[d.out],?_⟩
 ·simp[results,Tryz.results151,go_sem]
 exact BG _ _ _
abbrev MH (self args temps first behind:Int):Value:=.agg #[J self,J args,J temps,J first,J behind]
abbrev FW (f:Fst)(kv:Value):Value:=.agg #[J f.cls,qZ f.name,J f.ez,J f.temps,kv]
theorem xll (self g d first f:Int)(x:QI)(w:qW)(m:0<=g/\g<=1000)(n:0<=d/\d<=1000)(p:0<=first/\first<=1000)(j:(x.op=2\/x.op=3\/x.op=11\/x.op=15\/x.op=16)->0<=x.a/\x.a<=1000) :
  Calls Tryz.prog 200 #[MH self g d first f,IV x] w λe w'=>e=.returned (IV (Cc self g d first f x))/\qY w w':=by
 obtain⟨y,o⟩:∃y,Hid (Cc self g d first f x=y):=⟨_,rfl⟩
 have h:=λ(u:Array Value)=>DW w (qC #[J self,J g,J d,J first,J f] 228) (qE x) (.cells u 69);go_enter Tryz.func200,Tryz.ntmps200;by_cases g1:x.op=1
 ·have k:(x.op == 1)=true:=by simpa using g1
  have i:Hid (Cc self g d first f x=BQ 3 self 0 0):=by show _=_;unfold Cc;rw[if_pos g1]
  clear g1 j;go_wp2;refine Bt (v:=IV (BQ 3 self 0 0)) ?_ rfl ⟨by rw[i.out],h _⟩;simp[results,Tryz.results200,go_sem]
 have d1:(x.op == 1)=false:=by simpa using g1
 by_cases g2:x.op=2
 ·have k:(x.op == 2)=true:=by simpa using g2
  have i:Hid (Cc self g d first f x=BQ 3 (g+x.a) 0 0):=by show _=_;unfold Cc;rw[if_neg g1,if_pos g2]
  have l:IntKind.i64.wrap (g+x.a)=g+x.a:=by have:=j (Or.inl g2);exact CM (by omega) (by omega)
  clear g1 g2 j;go_wp2;refine Bt (v:=IV (BQ 3 (g+x.a) 0 0)) ?_ rfl ⟨by rw[i.out],h _⟩;simp[results,Tryz.results200,go_sem]
 have d2:(x.op == 2)=false:=by simpa using g2
 by_cases g3:x.op=3
 ·have k:(x.op == 3)=true:=by simpa using g3
  have i:Hid (Cc self g d first f x=BQ x.op (d+x.a) 0 0):=by show _=_;unfold Cc;rw[if_neg g1,if_neg g2,if_pos (Or.inl g3)]
  have l:IntKind.i64.wrap (d+x.a)=d+x.a:=by have:=j (Or.inr (Or.inl g3));exact CM (by omega) (by omega)
  clear g1 g2 g3 j;go_wp2;refine Bt (v:=IV (BQ x.op (d+x.a) 0 0)) ?_ rfl ⟨by rw[i.out],h _⟩;simp[results,Tryz.results200,go_sem]
 have d3:(x.op == 3)=false:=by simpa using g3
 by_cases g11:x.op=11
 ·have k:(x.op == 11)=true:=by simpa using g11
  have i:Hid (Cc self g d first f x=BQ x.op (d+x.a) 0 0):=by show _=_;unfold Cc;rw[if_neg g1,if_neg g2,if_pos (Or.inr g11)]
  have l:IntKind.i64.wrap (d+x.a)=d+x.a:=by have:=j (Or.inr (Or.inr (Or.inl g11)));exact CM (by omega) (by omega)
  clear g1 g2 g3 g11 j;go_wp2;refine Bt (v:=IV (BQ x.op (d+x.a) 0 0)) ?_ rfl ⟨by rw[i.out],h _⟩;simp[results,Tryz.results200,go_sem]
 have d11:(x.op == 11)=false:=by simpa using g11
 by_cases g4:x.op=4
 ·have k:(x.op == 4)=true:=by simpa using g4
  have i:Hid (Cc self g d first f x=BQ 19 self x.a 0):=by show _=_;unfold Cc;rw[if_neg g1,if_neg g2,if_neg (by omega),if_pos g4]
  clear g1 g2 g3 g11 g4 j;go_wp2;refine Bt (v:=IV (BQ 19 self x.a 0)) ?_ rfl ⟨by rw[i.out],h _⟩;simp[results,Tryz.results200,go_sem]
 have d4:(x.op == 4)=false:=by simpa using g4
 by_cases g12:x.op=12
 ·have k:(x.op == 12)=true:=by simpa using g12
  have i:Hid (Cc self g d first f x=BQ 20 self x.a 0):=by show _=_;unfold Cc;rw[if_neg g1,if_neg g2,if_neg (by omega),if_neg g4,if_pos g12]
  clear g1 g2 g3 g11 g4 g12 j;go_wp2;refine Bt (v:=IV (BQ 20 self x.a 0)) ?_ rfl ⟨by rw[i.out],h _⟩;simp[results,Tryz.results200,go_sem]
 have d12:(x.op == 12)=false:=by simpa using g12
 by_cases g15:x.op=15
 ·have k:(x.op == 15)=true:=by simpa using g15
  have i:Hid (Cc self g d first f x=BQ x.op (first+x.a) 0 0):=by show _=_;unfold Cc;rw[if_neg g1,if_neg g2,if_neg (by omega),if_neg g4,if_neg g12,if_pos (Or.inl g15)]
  have l:IntKind.i64.wrap (first+x.a)=first+x.a:=by have:=j (Or.inr (Or.inr (Or.inr (Or.inl g15))));exact CM (by omega) (by omega)
  clear g1 g2 g3 g11 g4 g12 g15 j;go_wp2;refine Bt (v:=IV (BQ x.op (first+x.a) 0 0)) ?_ rfl ⟨by rw[i.out],h _⟩;simp[results,Tryz.results200,go_sem]
 have d15:(x.op == 15)=false:=by simpa using g15
 by_cases g16:x.op=16
 ·have k:(x.op == 16)=true:=by simpa using g16
  have i:Hid (Cc self g d first f x=BQ x.op (first+x.a) 0 0):=by show _=_;unfold Cc;rw[if_neg g1,if_neg g2,if_neg (by omega),if_neg g4,if_neg g12,if_pos (Or.inr g16)]
  have l:IntKind.i64.wrap (first+x.a)=first+x.a:=by have:=j (Or.inr (Or.inr (Or.inr (Or.inr g16))));exact CM (by omega) (by omega)
  clear g1 g2 g3 g11 g4 g12 g15 g16 j;go_wp2;refine Bt (v:=IV (BQ x.op (first+x.a) 0 0)) ?_ rfl ⟨by rw[i.out],h _⟩;simp[results,Tryz.results200,go_sem]
 have d16:(x.op == 16)=false:=by simpa using g16
 by_cases g17:x.op=17
 ·have k:(x.op == 17)=true:=by simpa using g17
  have i:Hid (Cc self g d first f x=BQ 15 f 0 0):=by show _=_;unfold Cc;rw[if_neg g1,if_neg g2,if_neg (by omega),if_neg g4,if_neg g12,if_neg (by omega),if_pos g17]
  clear g1 g2 g3 g11 g4 g12 g15 g16 g17 j;go_wp2;refine Bt (v:=IV (BQ 15 f 0 0)) ?_ rfl ⟨by rw[i.out],h _⟩;simp[results,Tryz.results200,go_sem]
 have d17:(x.op == 17)=false:=by simpa using g17
 have i:Hid (Cc self g d first f x=x):=by show _=_;unfold Cc;rw[if_neg g1,if_neg g2,if_neg (by omega),if_neg g4,if_neg g12,if_neg (by omega),if_neg g17]
 clear g1 g2 g3 g11 g4 g12 g15 g16 g17 j;go_wp2;refine Bt (v:=IV x) ?_ rfl ⟨by rw[i.out],h _⟩;simp[results,Tryz.results200,go_sem]
end Go.Proofs.YtbafokihegegiaaGreatDoor
