import Derived.Test.YtbafokihegegiaaGreatDoorU11
namespace Go.Proofs.YtbafokihegegiaaGreatDoor
open ChangeShapes WideShapes ChangeAt RowKit
set_option linter.unusedSimpArgs false
set_option linter.unusedVariables false
set_option maxHeartbeats 8000000
abbrev qF(s:Sn)(a:Option Addr)(b:Nat)(c:Option Addr)(d:Nat)(e:Option Addr)(f:Nat)(g:Option Addr)(h:Nat)(v:Value):Obj:=.cells #[.slice a s.X.cz.length b,.slice c s.X.heap.length d,.int .i64 s.X.ez,.slice e s.cells.length f,.slice g s.ts.length h,v] 31
abbrev BQ (op a b c:Int):QI:=⟨op,a,b,c,⟨#[]⟩⟩
def Cc (self args temps first behind:Int)(x:QI):QI:=
 if x.op=1 then BQ 3 self 0 0
 else if x.op=2 then BQ 3 (args+x.a) 0 0
 else if x.op=3\/x.op=11 then BQ x.op (temps+x.a) 0 0
 else if x.op=4 then BQ 19 self x.a 0
 else if x.op=12 then BQ 20 self x.a 0
 else if x.op=15\/x.op=16 then BQ x.op (first+x.a) 0 0
 else if x.op=17 then BQ 15 behind 0 0
 else x
def Fq (args:Int):Nat->List QI
 | 0=>[]
 | n+1=>BQ 11 (args+n) 0 0 :: Fq args n
def Ex (temps:Int)(n:Nat):List QI:=(List.range n).flatMap λk=>[BQ 6 0 0 0,BQ 11 (temps+(k:Nat)) 0 0]
theorem xel (a:Int)(n:Nat):Ex a (n+1)=Ex a n++[BQ 6 0 0 0,BQ 11 (a+(n:Nat)) 0 0]:=by
 unfold Ex;rw[List.range_succ,List.flatMap_append];simp
theorem Qw (a:Int):∀n,(Ex a n).length=2*n
 | 0=>rfl
 | n+1=>by rw[xel,List.length_append,Qw a n];simp;omega
theorem xgM (a:Int):∀n,(Fq a n).length=n
 | 0=>rfl
 | n+1=>by simp[Fq,xgM a n]
def Kc (leaf:QM)(guard:QI)(self:Int):List QI:=[guard,BQ 21 0 0 0]++Fq (self+1) leaf.args.toNat++[BQ 11 self 0 0]++Ex (self+1+leaf.args) leaf.temps.toNat
def Fh (leaf:QM)(n:Int):Int:=n+3+leaf.args+2*leaf.temps
def Eh (leaf:QM)(guard:QI)(self n:Int):List QI:=Kc leaf guard self++leaf.code.map (Cc self (self+1) (self+1+leaf.args) (Fh leaf n) (Fh leaf n+leaf.code.length))
theorem xnM (a:QM)(guard:QI)(self:Int):(Kc a guard self).length=3+a.args.toNat+2*a.temps.toNat:=by
 unfold Kc;simp[xgM,Qw];omega
theorem KB (a:QM)(guard:QI)(self n:Int):(Eh a guard self n).length=3+a.args.toNat+2*a.temps.toNat+a.code.length:=by
 unfold Eh;rw[List.length_append,xnM];simp
def Lh (xs:List QC)(k:Int)(name:ByteArray):Option QM:=if (BF xs k name).2<0 then none else (xs[(BF xs k name).1.toNat]?).bind λx=>x.mz[(BF xs k name).2.toNat]?
def Et (xs:List QC)(sites:List Int)(at':Nat)(x:QI):Option QM:=
 if x.op=14/\0<=sites.getD at' (-1) then
  match Lh xs (sites.getD at' (-1)) x.name with
  | none=>none
  | some m=>if m.args=x.a/\FH m=true then some m else none
 else none
def Kz (n temps:Int)(leaf:QM)(left:Int):Bool:=decide (n+3+leaf.args+2*leaf.temps+leaf.code.length+left<=240/\temps+1+leaf.args+leaf.temps<=40)
def CS (x:QI)(at':Int):QI:=if x.op=14 then { x with c:=at' } else x
def DK (xs:List QC)(sites:List Int)(len:Nat)(n temps:Int)(at':Nat)(x:QI):Option QM:=
 match Et xs sites at' x with
 | none=>none
 | some leaf=>if Kz n temps leaf ((len:Int)-at')=true then some leaf else none
structure Bd where
 code:List QI
 temps:Int
 begins:List Int
 pieces:Nat
def FJ (xs:List QC)(sites:List Int)(len:Nat)(s:Bd)(at':Nat)(x:QI):Bd:=
 match DK xs sites len s.code.length s.temps at' x with
 | none=>⟨s.code++[CS x at'],s.temps,s.begins++[(s.code.length:Int)],s.pieces⟩
 | some leaf=>⟨s.code++Eh leaf (BQ 18 (sites.getD at' (-1)) leaf.args at') s.temps s.code.length,s.temps+1+leaf.args+leaf.temps,s.begins++[(s.code.length:Int)],s.pieces+1⟩
def Bv (xs:List QC)(sites:List Int)(m:QM):Nat->Bd
 | 0=>⟨[],m.temps,[],0⟩
 | k+1=>match m.code[k]? with
  | none=>Bv xs sites m k
  | some x=>FJ xs sites m.code.length (Bv xs sites m k) k x
theorem Kb {xs:List QC}{sites:List Int}{m:QM}{k:Nat}{x:QI}(h:m.code[k]?=some x):Bv xs sites m (k+1)=FJ xs sites m.code.length (Bv xs sites m k) k x:=by
 rw[Bv,h]
theorem xeN (xs:List QC)(sites:List Int)(a:Nat)(s:Bd)(k:Nat)(x:QI):(FJ xs sites a s k x).begins=s.begins++[(s.code.length:Int)]:=by
 unfold FJ;split<;>rfl
theorem Ml {xs:List QC}{sites:List Int}{m:QM}:∀ {k:Nat},k<=m.code.length->(Bv xs sites m k).begins.length=k
 | 0,_=>rfl
 | k+1,h=>by
  rw[Kb (List.getElem?_eq_getElem (by omega)),xeN,List.length_append,Ml (by omega)];rfl
def GL (begins:List Int)(x:QI):Option Int:=if (x.op=15\/x.op=16)/\0<=x.a then begins[x.a.toNat]? else none
def Dx (begins:List Int)(plain:List QI)(code:List QI):Nat->List QI
 | 0=>code
 | k+1=>match plain[k]?,begins[k]? with
  | some x,some b=>match GL begins x with
   | some t=>(Dx begins plain code k).modify b.toNat λy=>{ y with a:=t }
   | none=>Dx begins plain code k
  | _,_=>Dx begins plain code k
theorem Mt (begins:List Int)(plain code:List QI):∀k,(Dx begins plain code k).length=code.length
 | 0=>rfl
 | k+1=>by
  unfold Dx;split
  ·split
   ·rw[List.length_modify,Mt begins plain code k]
   exact Mt begins plain code k
  exact Mt begins plain code k
structure Fst where
 cls:Int
 name:ByteArray
 ez:Int
 temps:Int
 code:List QI
def Kh:Fst:=⟨0,⟨#[]⟩,0,0,[]⟩
def En (X:QW)(c:Int)(m:QM)(sites:List Int):Fst × Bool:=
 let s:=Bv X.cz sites m m.code.length
 if s.pieces=0 then (Kh,false) else (⟨c,m.name,X.ez,s.temps,Dx s.begins m.code s.code m.code.length⟩,true)
set_option maxRecDepth 8000
theorem CH {p:Prop}(h:p):Hid p:=h
def Fy:Int->List Int->Bool
 | _,[]=>true
 | m,n :: r=>if n<0\/m<n then false else Fy (m-n) r
theorem xpS {α:Type}{xs:List α}{j:Nat}{x:α}(h:xs[j]?=some x):xs.drop j=x :: xs.drop (j+1):=by
 obtain⟨a,rfl⟩:=List.getElem?_eq_some_iff.1 h;exact List.drop_eq_getElem_cons a
theorem xlC {P:Nat->Prop}(ps:List Int)(v:Value)(m:Int)(w:qW)(z:0<=m/\m<=1000)(h:LH P w v ps):Calls Tryz.prog 199 #[J m,v] w λe w'=>e=.returned (.bool (Fy m ps))/\w'=w:=by
 obtain⟨ad,cap,rfl,C,d,i,a⟩:=h;go_enter Tryz.func199,Tryz.ntmps199;go_wp2
 go_loopg [0,9] ps.length (λg mv c wr=>∃(j:Nat) (mm:Int),j+g=ps.length/\c=J j/\mv=J mm/\(0<=mm/\mm<=1000)/\Hid (Fy m ps=Fy mm (ps.drop j))/\wr=w)
 case atStart=>exact⟨0,m,by omega,rfl,rfl,z,rfl,rfl⟩
 case round=>
  obtain⟨j,mm,D,rfl,rfl,⟨f,k⟩,r,rfl⟩:=hrel;by_cases hlt:j<ps.length
  ·have p:ps[j]?=some ps[j]:=by simp[hlt]
   have s:=CH p;obtain⟨b,o,rfl,-,y0⟩:=a j ps[j] p;generalize ps[j]=x at *;have t:(j:Int)<(ps.length:Int):=by omega
   have B:(0:Int)<=(j:Int):=by omega
   replace y0:wr.cell? (O b (o+j))=some (J x):=by simpa [Md] using y0
   clear a p;have q:Hid (Fy m ps=if x<0\/mm<x then false else Fy (mm-x) (ps.drop (j+1))):=by show _=_;rw[r.out,xpS s.out];rfl
   by_cases h0:x<0
   ·have y:decide (x<0)=true:=by simpa using h0
    have l:Hid (Fy m ps=false):=by show _=_;rw[q.out,if_pos (Or.inl h0)]
    clear h0;go_wp2;go_ret;exact⟨Cq l.out.symm,rfl⟩
   have y:decide (x<0)=false:=by simpa using h0
   by_cases h1:mm<x
   ·have n:decide (mm<x)=true:=by simpa using h1
    have l:Hid (Fy m ps=false):=by show _=_;rw[q.out,if_pos (Or.inr h1)]
    clear h0 h1;go_wp2;go_ret;exact⟨Cq l.out.symm,rfl⟩
   have n:decide (mm<x)=false:=by simpa using h1
   have l:Hid (Fy m ps=Fy (mm-x) (ps.drop (j+1))):=by show _=_;rw[q.out,if_neg (by omega)]
   have F:IntKind.i64.wrap (mm-x)=mm-x:=CM (by omega) (by omega);have u:Hid (0<=mm-x/\mm-x<=1000):=by show _/\_;omega
   clear h0 h1;go_wp2;go_roundg (gk-1)
   case measure=>omega
   case rel=>exact⟨j+1,mm-x,by omega,by go_num,rfl,u.out,l.out,rfl⟩
  obtain rfl:j=ps.length:=by omega
  have l:Hid (Fy m ps=true):=by show _=_;rw[r.out,List.drop_length];rfl
  go_wp2;go_ret;exact⟨Cq l.out.symm,rfl⟩
theorem xgZ (x:QI)(n:Int)(w:qW):Calls Tryz.prog 151 #[IV x,J n] w λe w'=>e=.returned (IV (CS x n))/\qY w w':=by
 have g:=BG w (qE x) (qC #[J 0,J 0,J 0,J 0,qZ ⟨#[]⟩] 69);by_cases h:x.op=14
 ·have f:(x.op == 14)=true:=by simpa using h
  have d:Hid (CS x n={ x with c:=n }):=by show _=_;unfold CS;rw[if_pos h]
  clear h;go_enter Tryz.func151,Tryz.ntmps151;go_wp2;refine Bt (v:=IV { x with c:=n }) ?_ rfl ⟨by rw[d.out],?_⟩
  ·simp[results,Tryz.results151,go_sem]
  exact BG _ _ _
 have f:(x.op == 14)=false:=by simpa using h
 have d:Hid (CS x n=x):=by show _=_;unfold CS;rw[if_neg h]
 clear h;go_enter Tryz.func151,Tryz.ntmps151;go_wp2;refine Bt (v:=IV x) ?_ rfl ⟨by rw[d.out],?_⟩
 ·simp[results,Tryz.results151,go_sem]
 exact BG _ _ _
abbrev MH (self args temps first behind:Int):Value:=.agg #[J self,J args,J temps,J first,J behind]
abbrev FW (f:Fst)(kv:Value):Value:=.agg #[J f.cls,qZ f.name,J f.ez,J f.temps,kv]
theorem xll (self g d first f:Int)(x:QI)(w:qW)(m:0<=g/\g<=1000)(n:0<=d/\d<=1000)(p:0<=first/\first<=1000)(j:(x.op=2\/x.op=3\/x.op=11\/x.op=15\/x.op=16)->0<=x.a/\x.a<=1000) :
  Calls Tryz.prog 200 #[MH self g d first f,IV x] w λe w'=>e=.returned (IV (Cc self g d first f x))/\qY w w':=by
 obtain⟨y,o⟩:∃y,Hid (Cc self g d first f x=y):=⟨_,rfl⟩
 have h:=λ(u:Array Value)=>DW w (qC #[J self,J g,J d,J first,J f] 228) (qE x) (.cells u 69);go_enter Tryz.func200,Tryz.ntmps200;by_cases g1:x.op=1
 ·have k:(x.op == 1)=true:=by simpa using g1
  have i:Hid (Cc self g d first f x=BQ 3 self 0 0):=by show _=_;unfold Cc;rw[if_pos g1]
  clear g1 j;go_wp2;refine Bt (v:=IV (BQ 3 self 0 0)) ?_ rfl ⟨by rw[i.out],h _⟩;simp[results,Tryz.results200,go_sem]
 have d1:(x.op == 1)=false:=by simpa using g1
 by_cases g2:x.op=2
 ·have k:(x.op == 2)=true:=by simpa using g2
  have i:Hid (Cc self g d first f x=BQ 3 (g+x.a) 0 0):=by show _=_;unfold Cc;rw[if_neg g1,if_pos g2]
  have l:IntKind.i64.wrap (g+x.a)=g+x.a:=by have:=j (Or.inl g2);exact CM Zo Zo
  clear g1 g2 j;go_wp2;refine Bt (v:=IV (BQ 3 (g+x.a) 0 0)) ?_ rfl ⟨by rw[i.out],h _⟩;simp[results,Tryz.results200,go_sem]
 have d2:(x.op == 2)=false:=by simpa using g2
 by_cases g3:x.op=3
 ·have k:(x.op == 3)=true:=by simpa using g3
  have i:Hid (Cc self g d first f x=BQ x.op (d+x.a) 0 0):=by show _=_;unfold Cc;rw[if_neg g1,if_neg g2,if_pos (Or.inl g3)]
  have l:IntKind.i64.wrap (d+x.a)=d+x.a:=by have:=j (Or.inr (Or.inl g3));exact CM Zo Zo
  clear g1 g2 g3 j;go_wp2;refine Bt (v:=IV (BQ x.op (d+x.a) 0 0)) ?_ rfl ⟨by rw[i.out],h _⟩;simp[results,Tryz.results200,go_sem]
 have d3:(x.op == 3)=false:=by simpa using g3
 by_cases g11:x.op=11
 ·have k:(x.op == 11)=true:=by simpa using g11
  have i:Hid (Cc self g d first f x=BQ x.op (d+x.a) 0 0):=by show _=_;unfold Cc;rw[if_neg g1,if_neg g2,if_pos (Or.inr g11)]
  have l:IntKind.i64.wrap (d+x.a)=d+x.a:=by have:=j (Or.inr (Or.inr (Or.inl g11)));exact CM Zo Zo
  clear g1 g2 g3 g11 j;go_wp2;refine Bt (v:=IV (BQ x.op (d+x.a) 0 0)) ?_ rfl ⟨by rw[i.out],h _⟩;simp[results,Tryz.results200,go_sem]
 have d11:(x.op == 11)=false:=by simpa using g11
 by_cases g4:x.op=4
 ·have k:(x.op == 4)=true:=by simpa using g4
  have i:Hid (Cc self g d first f x=BQ 19 self x.a 0):=by show _=_;unfold Cc;rw[if_neg g1,if_neg g2,if_neg Zo,if_pos g4]
  clear g1 g2 g3 g11 g4 j;go_wp2;refine Bt (v:=IV (BQ 19 self x.a 0)) ?_ rfl ⟨by rw[i.out],h _⟩;simp[results,Tryz.results200,go_sem]
 have d4:(x.op == 4)=false:=by simpa using g4
 by_cases g12:x.op=12
 ·have k:(x.op == 12)=true:=by simpa using g12
  have i:Hid (Cc self g d first f x=BQ 20 self x.a 0):=by show _=_;unfold Cc;rw[if_neg g1,if_neg g2,if_neg Zo,if_neg g4,if_pos g12]
  clear g1 g2 g3 g11 g4 g12 j;go_wp2;refine Bt (v:=IV (BQ 20 self x.a 0)) ?_ rfl ⟨by rw[i.out],h _⟩;simp[results,Tryz.results200,go_sem]
 have d12:(x.op == 12)=false:=by simpa using g12
 by_cases g15:x.op=15
 ·have k:(x.op == 15)=true:=by simpa using g15
  have i:Hid (Cc self g d first f x=BQ x.op (first+x.a) 0 0):=by show _=_;unfold Cc;rw[if_neg g1,if_neg g2,if_neg Zo,if_neg g4,if_neg g12,if_pos (Or.inl g15)]
  have l:IntKind.i64.wrap (first+x.a)=first+x.a:=by have:=j (Or.inr (Or.inr (Or.inr (Or.inl g15))));exact CM Zo Zo
  clear g1 g2 g3 g11 g4 g12 g15 j;go_wp2;refine Bt (v:=IV (BQ x.op (first+x.a) 0 0)) ?_ rfl ⟨by rw[i.out],h _⟩;simp[results,Tryz.results200,go_sem]
 have d15:(x.op == 15)=false:=by simpa using g15
 by_cases g16:x.op=16
 ·have k:(x.op == 16)=true:=by simpa using g16
  have i:Hid (Cc self g d first f x=BQ x.op (first+x.a) 0 0):=by show _=_;unfold Cc;rw[if_neg g1,if_neg g2,if_neg Zo,if_neg g4,if_neg g12,if_pos (Or.inr g16)]
  have l:IntKind.i64.wrap (first+x.a)=first+x.a:=by have:=j (Or.inr (Or.inr (Or.inr (Or.inr g16))));exact CM Zo Zo
  clear g1 g2 g3 g11 g4 g12 g15 g16 j;go_wp2;refine Bt (v:=IV (BQ x.op (first+x.a) 0 0)) ?_ rfl ⟨by rw[i.out],h _⟩;simp[results,Tryz.results200,go_sem]
 have d16:(x.op == 16)=false:=by simpa using g16
 by_cases g17:x.op=17
 ·have k:(x.op == 17)=true:=by simpa using g17
  have i:Hid (Cc self g d first f x=BQ 15 f 0 0):=by show _=_;unfold Cc;rw[if_neg g1,if_neg g2,if_neg Zo,if_neg g4,if_neg g12,if_neg Zo,if_pos g17]
  clear g1 g2 g3 g11 g4 g12 g15 g16 g17 j;go_wp2;refine Bt (v:=IV (BQ 15 f 0 0)) ?_ rfl ⟨by rw[i.out],h _⟩;simp[results,Tryz.results200,go_sem]
 have d17:(x.op == 17)=false:=by simpa using g17
 have i:Hid (Cc self g d first f x=x):=by show _=_;unfold Cc;rw[if_neg g1,if_neg g2,if_neg Zo,if_neg g4,if_neg g12,if_neg Zo,if_neg g17]
 clear g1 g2 g3 g11 g4 g12 g15 g16 g17 j;go_wp2;refine Bt (v:=IV x) ?_ rfl ⟨by rw[i.out],h _⟩;simp[results,Tryz.results200,go_sem]
theorem xfV {w:qW}(T ty e:TypeId)(z:Value)(sz bytes:Nat)(S:Tryz.prog.underlying T=some (.slice e))(Y:(Tryz.prog.info? e).map (λi=>(i.zero,i.size,i.bytes))=some (some z,sz,bytes))(t:z.cells.size=sz)(r:0<sz)
  (base n:Nat) (v:Value) (xs:List Value) (q:ownsAt w base e sz v n xs) (ad:Addr) (k kc:Nat) (G:0<k) (a:List Value) (M:a.length=k*sz) (f:∀j u,a[j]?=some u->w.cell? (ad.add j)=some u) (W:∀u∈a,u.oneCell'=true) (s:n+k<=maxLen) (y:(n+k)*bytes<=140737488355328) (d:base<=w.heap.size) :
  ∃v' w',(Builtin.append_ #[T,T] ty #[v,qS (some ad) k kc]).run Tryz.prog w=.ok v' w'/\ownsAt w' base e sz v' (n+k) (xs++a)/\(v'.ownBlock=v.ownBlock\/∃g,v'.ownBlock=some g/\w.heap.size<=g)/\Below base w w'/\(∀b,b<w.heap.size->some b≠v.ownBlock->w'.heap[b]?=w.heap[b]?):=by
 obtain⟨i0,V,B,l,p⟩:=Gb Y;obtain⟨m,⟨rfl,rfl⟩ | ⟨g,o,cap,cur,rfl,L,F,h5,h6,h7,X⟩⟩:=id q
 ·obtain⟨v',w',C,r1,r2,_⟩:=run_append_own (P:=Tryz.prog) w w.heap.size T ty e i0 z sz bytes S V B l p t r (qN) 0 [] (World.ownsRow_nil w _ e sz) ad k kc a M f W s y (Bq _);have Q:xs=[]:=List.eq_nil_of_length_eq_zero (by simpa using m);subst Q;refine⟨v',w',C,xe3 (by simpa using r1) d,Or.inr ?_,?_,λb N D=>r2.block b N D⟩
  ·obtain⟨-,h | ⟨g,c,cur,e,L,F,-⟩⟩:=r1
   ·omega
   exact⟨g,by rw[e];rfl,L⟩
  exact (Br _ _).grown r2 d λk G=>by cases G
 by_cases hr:n+k<=cap
 ·have U:cur.toList.length=cur.size:=by simp
  have R:o+n*sz+a.length<=cur.size:=by
   have:(n+k)*sz<=cap*sz:=Nat.mul_le_mul_right _ hr;rw[Nat.add_mul] at this;omega
  have C:=run_append_room_cells (P:=Tryz.prog) w T ty e i0 S V g o n cap ad k kc a (by rw[l];exact M) f W hr (λj Z=>by rw[l,Bn F];simp;omega) (λj Z=>by unfold World.frozen?;simp[F]);rw[l] at C;have K:=xeb a (o+n*sz) w cur F R;refine⟨_,_,C,⟨by rw[List.length_append,m,M,Nat.add_mul],Or.inr ⟨g,o,cap,_,rfl,L,K,hr,h6,?_,?_⟩⟩,Or.inl rfl,?_,λb N D=>Er (λe=>D (by rw[e];rfl)) _ _ _⟩
  ·simp;omega
  ·rw[← X]
   apply List.ext_getElem?
   intro i;simp only[List.getElem?_take,List.getElem?_drop,List.getElem?_append,List.length_append,List.length_take,List.length_drop,U];have e1:min (o+n*sz) cur.size=o+n*sz:=by omega
   have e2:min (n*sz) (cur.size-o)=n*sz:=by omega
   rw[e1,e2];have e3:(n+k)*sz=n*sz+k*sz:=by rw[Nat.add_mul]
   rw[e3];by_cases g1:i<n*sz
   ·simp[g1,show i<n*sz+k*sz by omega,show o+i<o+n*sz by omega,show o+i<o+n*sz+a.length by omega]
   by_cases g2:i<n*sz+k*sz
   ·simp[g1,g2,show ¬ (o+i<o+n*sz) by omega,show o+i<o+n*sz+a.length by omega,show o+i-(o+n*sz)=i-n*sz by omega]
   simp[g1,g2];omega
  refine⟨?_,?_,?_,?_,λk G=>Er (by omega) _ _ _⟩
  ·exact (MK _ _ _ _).os
  ·exact (MK _ _ _ _).tape
  ·exact (MK _ _ _ _).output
  rw[Ks];exact Bq _
 obtain⟨v',w',C,r1,r2⟩:=run_append_arg_grows (P:=Tryz.prog) w T ty e i0 z sz bytes S V B l p t r (O g o) n cap xs m (λj u H=>by
  rw[Addr.add_lit,Bn F];rw[← X,List.getElem?_take] at H;split at H
  ·rw[List.getElem?_drop] at H;simpa using H
  ·cases H) ad k kc a M f (by omega) s y
 refine⟨v',w',C,xe3 r1 d,Or.inr ?_,?_,λb N D=>r2.block b N (by simp)⟩
 ·obtain⟨-,h | ⟨g,c,cur,e,L,F,-⟩⟩:=r1
  ·omega
  exact⟨g,by rw[e];rfl,L⟩
 exact (Br _ _).grown r2 d λk G=>by cases G
theorem xgC {ops:Array Oper}{rest:List Oper}{o:Oper}{a:Act}{w:qW}{Q:Exit->Act->World->Prop}(y:o.guard=none)(s x:Operand)(T e:TypeId)(z:Value)(sz bytes:Nat)
  (t:o.op=Op.call { callee:=Callee.builtin Builtin.append,args:=#[s,x],argTypes:=#[T,T] }) (C:Tryz.prog.underlying T=some (.slice e)) (H:(Tryz.prog.info? e).map (λi=>(i.zero,i.size,i.bytes))=some (some z,sz,bytes)) (q:z.cells.size=sz) (m:0<sz)
  (base n:Nat) (v:Value) (xs:List Value) (D:a.eval s=v) (h:ownsAt w base e sz v n xs) (ad:Addr) (k kc:Nat) (M:0<k) (N:a.eval x=qS (some ad) k kc) (c:List Value) (L:c.length=k*sz) (d:∀j u,c[j]?=some u->w.cell? (ad.add j)=some u) (F:∀u∈c,u.oneCell'=true) (p:n+k<=maxLen) (r:(n+k)*bytes<=140737488355328) (f:base<=w.heap.size)
  (G:∀a' cap' w',ownsAt w' base e sz (qS a' (n+k) cap') (n+k) (xs++c)->((qS a' (n+k) cap').ownBlock=v.ownBlock\/∃g,(qS a' (n+k) cap').ownBlock=some g/\w.heap.size<=g)->Below base w w'->(∀b,b<w.heap.size->some b≠v.ownBlock->w'.heap[b]?=w.heap[b]?)->wpList Tryz.prog ops Q rest (a.put o.dst (qS a' (n+k) cap')) w') :
  wpList Tryz.prog ops Q (o :: rest) a w:=by
 refine wpList_plain y λK B=>?_;obtain⟨v',w',l,r1,r2,r3,r4⟩:=xfV T o.type e z sz bytes C H q m base n v xs h ad k kc M c L d F p r f;obtain⟨a',cap',rfl,-⟩:=r1.form;unfold Oper.wp;simp[execOp,t,resolve,invoke,builtin,D,N,l,Result.andThen];exact B _ _ (G a' cap' w' r1 r2 r3 r4)
theorem xj6 {α:Type}{E:CT α}{sz bytes:Nat}(G:Good E sz){t:TypeId}{Q:Nat->Prop}{B n:Nat}{v:Value}{w:qW}{cs:List Value}{xs:List α}(a:ownsAt w B t sz v n cs)(q:Cells E sz Q w cs xs)(e:xs.length=n)(j:∀b,B<=b->b<w.heap.size->Q b)(c:n*bytes<=140737488351232):IsRow E sz bytes Q w v xs:=by
 obtain⟨u,⟨rfl,f⟩ | ⟨g,o,cap,cur,rfl,s,d,l,m,z,p⟩⟩:=a
 ·obtain rfl:=List.eq_nil_of_length_eq_zero (e.trans f);exact GZ
 subst e;refine⟨_,_,rfl,l,m,c,λi x r=>⟨g,o,rfl,j _ s (By d),G.move (q.2 i x r) (λ_ h=>h) (.refl _ _) λk y v hv=>?_⟩⟩;rw[← p,List.getElem?_take] at hv;split at hv
 ·rw[List.getElem?_drop] at hv;rw[Bn d,Nat.add_assoc];simpa using hv
 cases hv
def DG:List QI->List Value
 | []=>[]
 | x :: r=>J x.op :: J x.a :: J x.b :: J x.c :: qZ x.name :: DG r
theorem xdq:∀q,(DG q).length=q.length*5
 | []=>rfl
 | p :: q=>by simp[DG,xdq q];omega
theorem xeY:∀q r,DG (q++r)=DG q++DG r
 | [],r=>rfl
 | p :: q,r=>by simp[DG,xeY q r]
theorem xhX:∀(q:List QI),∀u∈DG q,u.oneCell'=true
 | [],u,h=>by simp[DG] at h
 | p :: q,u,h=>by
  simp only[DG,List.mem_cons] at h;rcases h with rfl | rfl | rfl | rfl | rfl | h
  ·rfl
  ·rfl
  ·rfl
  ·rfl
  ·rfl
  exact xhX q u h
theorem xhY:∀ {q:List QI} {i:Nat} {x:QI},q[i]?=some x->(DG q)[i*5]?=some (J x.op)/\(DG q)[i*5+1]?=some (J x.a)/\(DG q)[i*5+2]?=some (J x.b)/\(DG q)[i*5+3]?=some (J x.c)/\(DG q)[i*5+4]?=some (qZ x.name)
 | [],i,x,h=>by simp at h
 | p :: q,0,x,h=>by simp at h;subst h;exact⟨rfl,rfl,rfl,rfl,rfl⟩
 | p :: q,i+1,x,h=>by
  have:=xhY (q:=q) (i:=i) (x:=x) (by simpa using h);rw[show (i+1)*5=i*5+1+1+1+1+1 by omega];exact this
def NmOk (xs:List QI):Prop:=∀x∈xs,x.name.size<=140737488351232
theorem NmOk.append {xs ys:List QI}(h:NmOk xs)(k:NmOk ys):NmOk (xs++ys):=λx a=>by
 rcases List.mem_append.1 a with h' | h'
 ·exact h x h'
 exact k x h'
theorem xf5 {P:Nat->Prop}{w:qW}{xs:List QI}(h:NmOk xs):Cells KT 5 P w (DG xs) xs:=⟨xdq _,λi x a=>by
 obtain⟨d,b,e,f,c⟩:=xhY a;exact⟨by simpa using d,b,e,f,c,h x (List.mem_of_getElem? a)⟩⟩
theorem xsb {P:Nat->Prop}{w:qW}{B:Nat}{v:Value}{xs:List QI}(h:ownsAt w B 69 5 v xs.length (DG xs))(c:NmOk xs)(a:∀b,B<=b->b<w.heap.size->P b)(d:xs.length<=100000):Cm P w v xs:=xj6 BR h (xf5 c) rfl a (by omega)
structure PcB (w:qW)(leaf:QM)(kv:Value)(sf args temps first behind:Int)(w':qW):Prop where
 l1:w'.cell? (O w.heap.size 1)=some (J leaf.args)
 l2:w'.cell? (O w.heap.size 2)=some (J leaf.temps)
 l4:w'.cell? (O w.heap.size 4)=some kv
 p0:w'.cell? (O (w.heap.size+2) 0)=some (J sf)
 p1:w'.cell? (O (w.heap.size+2) 1)=some (J args)
 p2:w'.cell? (O (w.heap.size+2) 2)=some (J temps)
 p3:w'.cell? (O (w.heap.size+2) 3)=some (J first)
 p4:w'.cell? (O (w.heap.size+2) 4)=some (J behind)
theorem LX {lo:Nat}{w w':qW}(c:Below lo w w'){b o:Nat}{v:Value}(a:b<lo)(h:w.cell? (O b o)=some v):w'.cell? (O b o)=some v:=by
 unfold World.cell? at h ⊢;rw[c.block b a];exact h
theorem PcB.below {w:qW}{d:QM}{kv:Value}{self c b first a:Int}{w' w'':qW}(h:PcB w d kv self c b first a w')(e:Below (w.heap.size+3) w' w''):PcB w d kv self c b first a w'':=
 ⟨LX e Zo h.l1,LX e Zo h.l2,LX e Zo h.l4,LX e Zo h.p0,LX e Zo h.p1,LX e Zo h.p2,LX e Zo h.p3,LX e Zo h.p4⟩
theorem xqD (w:qW)(d:QM)(kv:Value)(g:QI)(self h f first e:Int):PcB w d kv self h f first e (((w.alloc (qC #[qZ d.name,J d.args,J d.temps,J d.prim,kv] 51)).alloc (qE g)).alloc (qC #[J self,J h,J f,J first,J e] 228)):=
 ⟨Bf (BG _ _ _) (Bp w #[qZ d.name,J d.args,J d.temps,J d.prim,kv] 51 _ rfl 1),Bf (BG _ _ _) (Bp w #[qZ d.name,J d.args,J d.temps,J d.prim,kv] 51 _ rfl 2),Bf (BG _ _ _) (Bp w #[qZ d.name,J d.args,J d.temps,J d.prim,kv] 51 _ rfl 4),Bp _ _ _ _ (by simp) 0,Bp _ _ _ _ (by simp) 1,Bp _ _ _ _ (by simp) 2,Bp _ _ _ _ (by simp) 3,Bp _ _ _ _ (by simp) 4⟩
abbrev OwnI (w:qW)(B:Nat)(a:Option Addr)(cap:Nat)(code:List QI):Prop:=ownsAt w B 69 5 (qS a code.length cap) code.length (DG code)
theorem OwnI.more {w':qW}{B cap':Nat}{a':Option Addr}{code ys:List QI}{k:Nat}{vs:List Value}(h:ownsAt w' B 69 5 (qS a' (code.length+k) cap') (code.length+k) (DG code++vs))(a:ys.length=k)(hv:DG ys=vs):OwnI w' B a' cap' (code++ys):=by
 unfold OwnI;rw[xeY,List.length_append,a,hv];exact h
theorem xog {w:qW}{B B' cap:Nat}{a:Option Addr}{code:List QI}(h:OwnI w B a cap code)(i:B'<=B):OwnI w B' a cap code:=by
 obtain⟨b,f | ⟨g,o,c,cur,e,j,d⟩⟩:=h
 ·exact⟨b,Or.inl f⟩
 exact⟨b,Or.inr ⟨g,o,c,cur,e,BX i j,d⟩⟩
theorem xqw {lo:Nat}{w w' w'':qW}(h:Below lo w w')(k:qY w' w'')(a:lo<=w'.heap.size):Below lo w w'':=h.trans ⟨k.os,k.tape,k.output,k.size,λb c=>k.block b (by omega)⟩
theorem LW {lo:Nat}{w w':qW}(h:Below lo w w')(o:Obj)(a:lo<=w'.heap.size):Below lo w (w'.alloc o):=xqw h (Bg _ _) a
theorem xmF {P:Nat->Prop}(l:ByteArray)(A T:Nat)(f:Int)(lc:List QI)(g:QI)(self tm first d:Int)(kv:Value)(w:qW)(hk:Cm P w kv lc)(G:A<=4)(H:T<=6)(hs:0<=self/\self<=100)(D:0<=tm/\tm<=200)(hf:0<=first/\first<=1000)(z:lc.length<=60)
  (hx:∀x∈lc,(x.op=2\/x.op=3\/x.op=11\/x.op=15\/x.op=16)->0<=x.a/\x.a<=1000) (R:List QI) (HR:Hid (R=[g,BQ 21 0 0 0]++Fq (self+1) A++[BQ 11 self 0 0]++Ex tm T++lc.map (Cc self (self+1) tm first d))) :
  Calls Tryz.prog 152 #[MV ⟨l,A,T,f,lc⟩ kv,IV g,MH self (self+1) tm first d] w λe w'=>∃a cap,e=.returned (qS a R.length cap)/\OwnI w' w.heap.size a cap R/\qY w w':=by
 obtain⟨ak,ck,rfl,F,t,-,m⟩:=id hk;unfold maxLen at t;have a7:=xqD w ⟨l,A,T,f,lc⟩ (qS ak lc.length ck) g self (self+1) tm first d;have ah:=DW w (qC #[qZ l,J (A:Int),J (T:Int),J f,qS ak lc.length ck] 51) (qE g) (qC #[J self,J (self+1),J tm,J first,J d] 228);have ab:(((w.alloc (qC #[qZ l,J (A:Int),J (T:Int),J f,qS ak lc.length ck] 51)).alloc (qE g)).alloc (qC #[J self,J (self+1),J tm,J first,J d] 228)).heap.size=w.heap.size+3:=by simp
 go_enter Tryz.func152,Tryz.ntmps152;go_upto_region 2 with (fail);generalize (((w.alloc (qC #[qZ l,J (A:Int),J (T:Int),J f,qS ak lc.length ck] 51)).alloc (qE g)).alloc (qC #[J self,J (self+1),J tm,J first,J d] 228))=W0 at *;simp only[Nat.add_assoc,Nat.reduceAdd];have ag:Below (w.heap.size+3) W0 (W0.alloc (qC #[J g.op,J g.a,J g.b,J g.c,qZ g.name,J 21,J 0,J 0,J 0,qZ ⟨#[]⟩] 69)):=LW (Br _ _) _ Zo;have X:w.heap.size+4<=(W0.alloc (qC #[J g.op,J g.a,J g.b,J g.c,qZ g.name,J 21,J 0,J 0,J 0,qZ ⟨#[]⟩] 69)).heap.size:=by simp;omega
 have M:OwnI (W0.alloc (qC #[J g.op,J g.a,J g.b,J g.c,qZ g.name,J 21,J 0,J 0,J 0,qZ ⟨#[]⟩] 69)) (w.heap.size+3) (some (O (w.heap.size+3) 0)) 2 [g,BQ 21 0 0 0]:=by
  refine⟨rfl,Or.inr ⟨w.heap.size+3,0,2,_,rfl,Bq _,by rw[← ab];exact BH W0 _,Bq _,by unfold maxLen;omega,Bq _,rfl⟩⟩
 have hB:=a7.below ag;have ai:qY w (W0.alloc (qC #[J g.op,J g.a,J g.b,J g.c,qZ g.name,J 21,J 0,J 0,J 0,qZ ⟨#[]⟩] 69)):=Bh ah (Bg _ _);generalize (W0.alloc (qC #[J g.op,J g.a,J g.b,J g.c,qZ g.name,J 21,J 0,J 0,J 0,qZ ⟨#[]⟩] 69))=W at *;clear a7 ah ab ag m W0;have ar:IntKind.i64.wrap ((A:Int)-1)=(A:Int)-1:=CM Zo Zo;have l1:=hB.l1;dsimp only at l1;go_wp2;clear l1
 go_loopg [7,8] A (λgk cv nv wr=>∃(a:Option Addr) (cap:Nat) (code:List QI),nv=J ((gk:Int)-1)/\cv=qS a code.length cap/\OwnI wr (w.heap.size+3) a cap code/\Hid (code++Fq (self+1) gk=[g,BQ 21 0 0 0]++Fq (self+1) A)/\Below (w.heap.size+3) W wr/\code.length+gk=A+2)
 case atStart=>exact⟨_,_,_,rfl,rfl,M,rfl,Br _ _,by simp;omega⟩
 case round=>
  clear M;obtain⟨a,cap,code,rfl,rfl,M,HC,L,q⟩:=hrel;have Z:w.heap.size+4<=wr.heap.size:=BX X L.size
  have K:code.length<=cap/\cap<=9223372036854775807:=by
   obtain⟨a',c',e,h1,h2⟩:=M.form
   cases e;unfold maxLen at h2;omega
  cases gk with
  | zero=>
   have a8:Hid (code=[g,BQ 21 0 0 0]++Fq (self+1) A):=by show _=_;rw[← HC.out];simp[Fq]
   have an:decide ((0:Int)<=((0:Nat):Int)-1)=false:=by decide
   have p0:=(hB.below L).p0;have l2:wr.cell? (O w.heap.size 2)=some (J (T:Int)):=(hB.below L).l2;go_upto_region 7 with (at_builtin;refine Pv rfl (.tmp 30) (.tmp 34) 49 69 _ 5 48 rfl Tryz.underlying49 Mg rfl Zo (w.heap.size+3) code.length (qS a code.length cap) (DG code) rfl (M.alloc _) wr.heap.size rfl [J 11,J self,J 0,J 0,qZ ⟨#[]⟩] rfl (BH _ _) (by intro u V;simp only[Zm,Zn,or_false] at V;rcases V with h | h | h | h | h<;>(subst h;rfl)) (by unfold maxLen;omega) Zo (by simp;omega) ?_;intro a1 s w1 r1 r2 r3 r4);have U:=OwnI.more (ys:=[BQ 11 self 0 0]) r1 rfl rfl;have N:=(LW L (qC #[J 11,J self,J 0,J 0,qZ ⟨#[]⟩] 69) Zo).trans r3;have aa:w.heap.size+4<=w1.heap.size:=BX X N.size;clear r1 r2 r3 r4 M HC p0 l2;obtain⟨C1,p⟩:∃C1,C1=code++[BQ 11 self 0 0]:=⟨_,rfl⟩;have a6:code.length+1=C1.length:=by rw[p];simp
   have a9:Hid (C1.length=A+3):=by show _=_;omega
   rw[← p] at U;rw[a6];have ae:Hid (C1=[g,BQ 21 0 0 0]++Fq (self+1) A++[BQ 11 self 0 0]):=by show _=_;rw[p,a8.out]
   clear p a8 a6 q Z K;have l2:w1.cell? (O w.heap.size 2)=some (J (T:Int)):=(hB.below N).l2;go_wp2;clear l2
   go_loopg [7,38] T (λg2 cv iv wr=>∃(i:Nat) (a:Option Addr) (cap:Nat),i+g2=T/\iv=J (i:Int)/\cv=qS a (C1++Ex tm i).length cap/\OwnI wr (w.heap.size+3) a cap (C1++Ex tm i)/\Below (w.heap.size+3) W wr)
   case atStart=>exact⟨0,a1,s,by omega,rfl,by simp[Ex],by simpa [Ex] using U,N⟩
   case round=>
    clear U N aa L;obtain⟨i,a,cap,hi,rfl,rfl,M,L⟩:=hrel;have Z:w.heap.size+4<=wr.heap.size:=BX X L.size;have a0:Hid ((C1++Ex tm i).length=A+3+2*i):=by show _=_;rw[List.length_append,Qw,a9.out]
    have q:(C1++Ex tm i).length<=20:=by have:=a0.out;omega
    have K:(C1++Ex tm i).length<=cap/\cap<=9223372036854775807:=by
     obtain⟨a',c',e,h1,h2⟩:=M.form
     cases e;unfold maxLen at h2;exact⟨h1,by omega⟩
    by_cases hlt:i<T
    ·have hd:decide ((i:Int)<(T:Int))=true:=by simp;omega
     have p2:=(hB.below L).p2;have aj:IntKind.i64.wrap (tm+(i:Int))=tm+(i:Int):=CM Zo Zo;obtain⟨cd,n⟩:∃cd,cd=C1++Ex tm i:=⟨_,rfl⟩;have ad:Hid (cd++[BQ 6 0 0 0,BQ 11 (tm+(i:Int)) 0 0]=C1++Ex tm (i+1)):=by show _=_;rw[n,xel];simp
     rw[← n] at M q K a0 ⊢;clear n;go_wp2_with (at_builtin;refine xgC rfl (.tmp 41) (.tmp 48) 49 69 _ 5 48 rfl Tryz.underlying49 Mg rfl Zo (w.heap.size+3) cd.length (qS a cd.length cap) (DG cd) rfl (M.alloc _) (O wr.heap.size 0) 2 2 Zo rfl [J 6,J 0,J 0,J 0,qZ ⟨#[]⟩,J 11,J (tm+(i:Int)),J 0,J 0,qZ ⟨#[]⟩] rfl (λj u hj=>by rw[Addr.add_lit,Nat.zero_add,Bn (BH _ _)];simpa using hj) (by intro u V;simp only[Zm,Zn,or_false] at V;rcases V with h | h | h | h | h | h | h | h | h | h<;>(subst h;rfl)) (by unfold maxLen;omega) Zo (by simp;omega) ?_;intro a' cap' w' r1 r2 r3 r4;have Y:=CH (OwnI.more (ys:=[BQ 6 0 0 0,BQ 11 (tm+(i:Int)) 0 0]) r1 rfl rfl);have Q:=CH ((LW L (qC #[J 6,J 0,J 0,J 0,qZ ⟨#[]⟩,J 11,J (tm+(i:Int)),J 0,J 0,qZ ⟨#[]⟩] 69) Zo).trans r3);clear r1 r2 r3 r4);go_roundg (T-(i+1))
     case measure=>omega
     case rel=>
      refine⟨i+1,_,_,by omega,by go_num,?_,by rw[← ad.out];exact Y.out,Q.out⟩;rw[← ad.out];simp
    obtain rfl:i=T:=by omega
    have hd:decide ((i:Int)<(i:Int))=false:=by simp
    obtain⟨C2,r⟩:∃C2,C2=C1++Ex tm i:=⟨_,rfl⟩;have ap:Hid (C2=[g,BQ 21 0 0 0]++Fq (self+1) A++[BQ 11 self 0 0]++Ex tm i):=by show _=_;rw[r,ae.out]
    rw[← r] at M q K a0 ⊢;clear r ae a9 hlt hi;have l4:wr.cell? (O w.heap.size 4)=some (qS ak lc.length ck):=(hB.below L).l4;go_wp2;clear l4
    go_loopg [7,54] lc.length (λg3 cv iv wr=>∃(k:Nat) (a:Option Addr) (cap:Nat),k+g3=lc.length/\iv=J (k:Int)/\cv=qS a (C2++(lc.take k).map (Cc self (self+1) tm first d)).length cap/\OwnI wr (w.heap.size+3) a cap (C2++(lc.take k).map (Cc self (self+1) tm first d))/\Below (w.heap.size+3) W wr)
    case atStart=>exact⟨0,a,cap,by omega,rfl,by simp,by simpa using M,L⟩
    case round=>
     clear M L Z K;obtain⟨k,a,cap,B,rfl,rfl,M,L⟩:=hrel;have Z:w.heap.size+4<=wr.heap.size:=BX X L.size;have a2:(C2++(lc.take k).map (Cc self (self+1) tm first d)).length<=100:=by have:=a0.out;simp;omega
     have K:(C2++(lc.take k).map (Cc self (self+1) tm first d)).length<=cap/\cap<=9223372036854775807:=by
      obtain⟨a',c',e,h1,h2⟩:=M.form
      cases e;unfold maxLen at h2;exact⟨h1,by omega⟩
     have a4:qY w wr:=ai.trans ⟨L.os,L.tape,L.output,L.size,λb Q=>L.block b Zo⟩;by_cases hlt:k<lc.length
     ·have a5:lc[k]?=some lc[k]:=by simp[hlt]
      obtain⟨C,v,e2,-,-,-,m⟩:=hk.later BR a4
      cases e2;obtain⟨b,o,rfl,-,u0,u1,u2,u3,u4,-⟩:=m k lc[k] a5;have am:=hx lc[k] (List.getElem_mem hlt);have a3:Hid (C2++(lc.take (k+1)).map (Cc self (self+1) tm first d)=C2++(lc.take k).map (Cc self (self+1) tm first d)++[Cc self (self+1) tm first d lc[k]]):=by show _=_;rw[List.take_add_one,a5,List.map_append,← List.append_assoc];rfl
      generalize lc[k]=x at *;simp only[Nat.add_zero] at u0;obtain⟨cd,n⟩:∃cd,cd=C2++(lc.take k).map (Cc self (self+1) tm first d):=⟨_,rfl⟩
      rw[← n] at M a2 K a3 ⊢;clear n m a5;have av:(k:Int)<(lc.length:Int):=by omega
      have aw:(0:Int)<=(k:Int):=by omega
      have S:=Bg wr (qE x);have al:=(hB.below L).below (⟨S.os,S.tape,S.output,S.size,λb Q=>S.block b Zo⟩:Below (w.heap.size+3) _ _);obtain⟨-,-,-,p0,p1,p2,p3,p4⟩:=al;go_wp2_with fail;refine (xll self (self+1) tm first d x _ Zo Zo hf am).mono ?_;rintro e w1 ⟨rfl,N⟩;dsimp only;generalize Cc self (self+1) tm first d x=y at *;have U:OwnI w1 (w.heap.size+3) a cap cd:=M.keep λg hg=>by rw[N.block g (by have:=(M.lt g hg).2;simp;omega),S.block g (M.lt g hg).2]
      have af:Below (w.heap.size+3) W w1:=xqw (LW L (qE x) Zo) N (by simp;omega);have aa:w.heap.size+4<=w1.heap.size:=BX X af.size;clear p0 p1 p2 p3 p4 u0 u1 u2 u3 u4 M L S N;go_wp2_with (at_builtin;refine Pv rfl (.tmp 58) (.tmp 62) 49 69 _ 5 48 rfl Tryz.underlying49 Mg rfl Zo (w.heap.size+3) cd.length (qS a cd.length cap) (DG cd) rfl (U.alloc _) w1.heap.size rfl [J y.op,J y.a,J y.b,J y.c,qZ y.name] rfl (BH _ _) (by intro u V;simp only[Zm,Zn,or_false] at V;rcases V with h | h | h | h | h<;>(subst h;rfl)) (by unfold maxLen;omega) Zo (by simp;omega) ?_;intro a' cap' w' r1 r2 r3 r4;have Y:=CH (OwnI.more (ys:=[y]) r1 rfl rfl);have Q:=CH ((LW af (qE y) Zo).trans r3);clear r1 r2 r3 r4);go_roundg (lc.length-(k+1))
      case measure=>omega
      case rel=>
       refine⟨k+1,_,_,by omega,by go_num,?_,by rw[a3.out];exact Y.out,Q.out⟩;rw[a3.out];simp
     obtain rfl:k=lc.length:=by omega
     have HE:Hid (C2++(lc.take lc.length).map (Cc self (self+1) tm first d)=R):=by show _=_;rw[HR.out,ap.out,List.take_length]
     rw[HE.out] at M ⊢;have HO:=CH (xog (B':=w.heap.size) M Zo);have ao:=CH a4;clear M a4 a2 K;go_wp2;go_ret;exact⟨_,_,rfl,HO.out,ao.out⟩
  | succ j=>
   have aq:(((j+1:Nat):Int)-1)=(j:Int):=by omega
   rw[aq];have an:decide ((0:Int)<=(j:Int))=true:=by simp
   have p1:=(hB.below L).p1;have aj:IntKind.i64.wrap (self+1+(j:Int))=self+1+(j:Int):=CM Zo Zo;have au:IntKind.i64.wrap ((j:Int)-1)=(j:Int)-1:=CM Zo Zo;go_wp2_with (at_builtin;refine Pv rfl (.tmp 22) (.tmp 28) 49 69 _ 5 48 rfl Tryz.underlying49 Mg rfl Zo (w.heap.size+3) code.length (qS a code.length cap) (DG code) rfl (M.alloc _) wr.heap.size rfl [J 11,J (self+1+(j:Int)),J 0,J 0,qZ ⟨#[]⟩] rfl (BH _ _) (by intro u V;simp only[Zm,Zn,or_false] at V;rcases V with h | h | h | h | h<;>(subst h;rfl)) (by unfold maxLen;omega) Zo (by simp;omega) ?_;intro a' cap' w' r1 r2 r3 r4;have Y:=CH (OwnI.more (ys:=[BQ 11 (self+1+(j:Int)) 0 0]) r1 rfl rfl);have Q:=CH ((LW L (qC #[J 11,J (self+1+(j:Int)),J 0,J 0,qZ ⟨#[]⟩] 69) Zo).trans r3);clear r1 r2 r3 r4);go_roundg j
   case measure=>omega
   case rel=>exact⟨_,_,_,by go_num,by simp,Y.out,by show _=_;rw[← HC.out];simp[Fq],Q.out,by simp;omega⟩
theorem xns {P:Nat->Prop}(b:QM)(g:QI)(self n:Int)(kv:Value)(w:qW)(k:Cm P w kv b.code)(l:0<=b.args/\b.args<=4)(j:0<=b.temps/\b.temps<=6)(o:0<=self/\self<=100)(p:0<=n/\n<=300)(f:b.code.length<=60)
  (m:∀x∈b.code,(x.op=2\/x.op=3\/x.op=11\/x.op=15\/x.op=16)->0<=x.a/\x.a<=1000) :
  Calls Tryz.prog 152 #[MV b kv,IV g,MH self (self+1) (self+1+b.args) (Fh b n) (Fh b n+b.code.length)] w λe w'=>∃a cap,e=.returned (qS a (Eh b g self n).length cap)/\OwnI w' w.heap.size a cap (Eh b g self n)/\qY w w':=by
 obtain⟨i,d,c,h,lc⟩:=b;obtain⟨A,rfl⟩:∃A:Nat,d=(A:Int):=⟨d.toNat,by simp only at l;omega⟩
 obtain⟨T,rfl⟩:∃T:Nat,c=(T:Int):=⟨c.toNat,by simp only at j;omega⟩
 simp only at l j f m k;refine xmF i A T h lc g self _ _ _ kv w k (by omega) (by omega) o (by simp only;omega) (by unfold Fh;simp only;omega) f m _ ?_;show _=_;unfold Eh Kc;simp
theorem xcI {P:Program}{ops:Array Oper}{o:Oper}{a:Act}{w w':qW}{K:Act->World->Prop}{Q:Exit->Act->World->Prop}{E:Prop}(g:o.guard=none)(s x:Operand)(T:TypeId)(c:o.op=Op.call { callee:=Callee.builtin Builtin.append,args:=#[s,x],argTypes:=#[T,T] })
  (vs vx v':Value) (d:a.eval s=vs) (f:a.eval x=vx) (b:(Builtin.append_ #[T,T] o.type #[vs,vx]).run P w=.ok v' w') (e:K (a.put o.dst v') w'):if Region.wanted o (yielded ops a.tmps)=true then Oper.wp P o a w K Q else E:=by
 have h:Region.wanted o (yielded ops a.tmps)=true:=by simp[Region.wanted,g]
 rw[if_pos h];unfold Oper.wp;simp[execOp,c,resolve,invoke,builtin,d,f,b,Result.andThen];exact e
theorem KC {w:qW}{b:Nat}{cur:Array Value}{t:TypeId}(h:w.heap[b]?=some (.cells cur t (0,0)))(o:Nat):w.frozen? (O b o)=false:=by unfold World.frozen?;simp[h]
theorem EX {P:Program}{ops:Array Oper}{o:Oper}{a:Act}{w:qW}{K:Act->World->Prop}{Q:Exit->Act->World->Prop}{E:Prop}(m:o.guard=none)(fn:Nat)(d:Operand)(args:Array Operand)(f:Array TypeId)(i:o.op=Op.call { callee:=Callee.value d,args:=args,argTypes:=f })
  (b:Array Value) (c:a.eval d=.func (.func fn) #[] b) (vs:Array Value) (g:args.map a.eval=vs) (j:(callFunc fn (vs++b)).run P w=.ok (.enter fn (vs++b)) w) (n:Calls P fn (vs++b) w λe w'=>∃v,e=.returned v/\K (a.put o.dst v) w'):if Region.wanted o (yielded ops a.tmps)=true then Oper.wp P o a w K Q else E:=by
 have l:Region.wanted o (yielded ops a.tmps)=true:=by simp[Region.wanted,m]
 rw[if_pos l];unfold Oper.wp
 have k:(execOp a.eval o).run P w=.ok (.enter fn (vs++b)) w:=by
  simp[execOp,i,resolve,invoke,c,g,Deferred.ofValue];exact j
 rw[k,Oper.upon_enter];refine n.mono ?_;rintro e w' ⟨v,rfl,h⟩;exact h
theorem FN {fn:Nat}{f:Func}(d:Tryz.prog.funcs[fn]?=some f)(g:(f.name == "runtime.NumGoroutine")=false)(b:f.body.isSome=true)(a:Array Value)(w:qW):(callFunc fn a).run Tryz.prog w=.ok (.enter fn a) w:=by
 have c:¬ f.name = "runtime.NumGoroutine" := by simpa using g
 have e:¬ f.body=none:=by intro h;rw[h] at b;cases b
 simp[callFunc,d,c,e]
theorem xft {P:Program}{ops:Array Oper}{o:Oper}{a:Act}{w:qW}{K:Act->World->Prop}{Q:Exit->Act->World->Prop}{E:Prop}(l:Region.wanted o (yielded ops a.tmps)=true)(fn:Nat)(d:Operand)(args:Array Operand)(f:Array TypeId)(i:o.op=Op.call { callee:=Callee.value d,args:=args,argTypes:=f })
  (b:Array Value) (c:a.eval d=.func (.func fn) #[] b) (vs:Array Value) (g:args.map a.eval=vs) (j:(callFunc fn (vs++b)).run P w=.ok (.enter fn (vs++b)) w) (m:Calls P fn (vs++b) w λe w'=>∃v,e=.returned v/\K (a.put o.dst v) w'):if Region.wanted o (yielded ops a.tmps)=true then Oper.wp P o a w K Q else E:=by
 rw[if_pos l];unfold Oper.wp
 have k:(execOp a.eval o).run P w=.ok (.enter fn (vs++b)) w:=by
  simp[execOp,i,resolve,invoke,c,g,Deferred.ofValue];exact j
 rw[k,Oper.upon_enter];refine m.mono ?_;rintro e w' ⟨v,rfl,h⟩;exact h
theorem xfC {α:Type}{E:CT α}{sz bytes:Nat}{P:Nat->Prop}{w:qW}{v:Value}{xs:List α}(h:IsRow E sz bytes P w v xs)(j:∀f x,E P w f x->E (λb=>b<w.heap.size) w f x/\∃u,f 0=some u):IsRow E sz bytes (λb=>b<w.heap.size) w v xs:=by
 obtain⟨ad,cap,a,e,k,c,d⟩:=h;refine⟨ad,cap,a,e,k,c,λi x g=>?_⟩;obtain⟨b,o,e1,e2,e3⟩:=d i x g;obtain⟨k1,u,k2⟩:=j _ _ e3;exact⟨b,o,e1,World.block_lt_of_cell? w _ k2,k1⟩
theorem xkE {P:Nat->Prop}{w:qW}{v:Value}{xs:List QI}(h:Cm P w v xs):Cm (λb=>b<w.heap.size) w v xs:=xfC h λf x a=>⟨a,_,a.1⟩
theorem xjE {P:Nat->Prop}{w:qW}{v:Value}{xs:List QM}(h:EC P w v xs):EC (λb=>b<w.heap.size) w v xs:=xfC h λf x k=>by
 obtain⟨a,d,j,l,e,c,i,g⟩:=k;exact⟨⟨a,d,j,l,e,c,i,xkE g⟩,_,a⟩
theorem xev {P:Nat->Prop}{w:qW}{v:Value}{xs:List QC}(h:BK P w v xs):BK (λb=>b<w.heap.size) w v xs:=xfC h λf x j=>by
 obtain⟨a,d,i,k,c,g,e⟩:=j;exact⟨⟨a,d,i,k,c,g,xjE e⟩,_,a⟩
theorem cf26 (a:Array Value)(w:qW):(callFunc 151 a).run Tryz.prog w=.ok (.enter 151 a) w:=FN Tryz.func151 (by kernel_rfl) (by kernel_rfl) a w
theorem cf27 (a:Array Value)(w:qW):(callFunc 152 a).run Tryz.prog w=.ok (.enter 152 a) w:=FN Tryz.func152 (by kernel_rfl) (by kernel_rfl) a w
theorem cf28 (a:Array Value)(w:qW):(callFunc 153 a).run Tryz.prog w=.ok (.enter 153 a) w:=FN Tryz.func153 (by kernel_rfl) (by kernel_rfl) a w
theorem cf45 (a:Array Value)(w:qW):(callFunc 142 a).run Tryz.prog w=.ok (.enter 142 a) w:=FN Tryz.func142 (by kernel_rfl) (by kernel_rfl) a w
theorem cf46 (a:Array Value)(w:qW):(callFunc 198 a).run Tryz.prog w=.ok (.enter 198 a) w:=FN Tryz.func198 (by kernel_rfl) (by kernel_rfl) a w
theorem Nf {U:qW}{b o b' o':Nat}{v u:Value}(h:U.cell? (O b o)=some v)(a:b≠b'):(U.setCell (O b' o') u).cell? (O b o)=some v:=(BV _ _ _ _ (by simp;omega)).trans h
abbrev Hp (U:qW)(b:Nat)(u0 u1 u2 u3 u4:Value):qW:=((((U.setCell (O b 0) u0).setCell (O b 1) u1).setCell (O b 2) u2).setCell (O b 3) u3).setCell (O b 4) u4
theorem Dk {U:qW}{b o b':Nat}{v u0 u1 u2 u3 u4:Value}(h:U.cell? (O b o)=some v)(a:b≠b'):(Hp U b' u0 u1 u2 u3 u4).cell? (O b o)=some v:=Nf (Nf (Nf (Nf (Nf h a) a) a) a) a
theorem xsN {U:qW}{b b':Nat}{u0 u1 u2 u3 u4:Value}(a:b≠b'):(Hp U b' u0 u1 u2 u3 u4).heap[b]?=U.heap[b]?:=by
 rw[BS a,BS a,BS a,BS a,BS a]
theorem xsA {w U:qW}{lo b:Nat}{u0 u1 u2 u3 u4:Value}(h:Below lo w U)(a:lo<=b):Below lo w (Hp U b u0 u1 u2 u3 u4):=((((h.setCell a _).setCell a _).setCell a _).setCell a _).setCell a _
def KD (xs:List QC)(c k:Int):Option QM:=(Cy xs c).bind λx=>if 0<=k then x.mz[k.toNat]? else none
theorem xls {P:Nat->Prop}(X:QW)(c k:Int)(cv hv:Value)(w:qW)(r:BK P w cv X.cz)(u:BP P w hv X.heap):Calls Tryz.prog 148 #[WV cv hv X.ez,J c,J k] w λe w'=>e=.returned (.bool (KD X.cz c k).isSome)/\qY w w':=by
 obtain⟨ac,cc,rfl,v,f,-,a⟩:=id r;obtain⟨ah,ch,rfl,-⟩:=id u;unfold maxLen at f;have i:=Bg w (qA ac cc ah ch X);by_cases hc0:0<=c
 ·obtain⟨q,rfl⟩:∃q:Nat,c=(q:Int):=⟨c.toNat,by omega⟩
  have p:decide ((0:Int)<=(q:Int))=true:=by simp
  by_cases hq:q<X.cz.length
  ·have l:X.cz[q]?=some X.cz[q]:=by simp[hq]
   have j:Hid (KD X.cz (q:Int) k=if 0<=k then X.cz[q].mz[k.toNat]? else none):=by show _=_;unfold KD;rw[Mv,l];rfl
   obtain⟨b,o,rfl,-,-,-,-,-,mv,y3,d⟩:=a q _ l;generalize X.cz[q]=xc at *;obtain⟨am,cm,rfl,-⟩:=id d;have u3:=Bf i y3;have m:(q:Int)<(X.cz.length:Int):=by omega
   have n:(0:Int)<=(q:Int):=by omega
   clear a y3 d;by_cases hk:0<=k
   ·have g:Hid ((KD X.cz (q:Int) k).isSome=decide (k<(xc.mz.length:Int))):=by
     show _=_;rw[j.out,if_pos hk];by_cases h:k<(xc.mz.length:Int)
     ·rw[List.getElem?_eq_getElem (by omega)];simp[h]
     rw[List.getElem?_eq_none (by omega)];simp[h]
    go_enter Tryz.func148,Tryz.ntmps148;go_wp2;go_ret;exact⟨Cq g.out.symm,i⟩
   have g:Hid ((KD X.cz (q:Int) k).isSome=false):=by show _=_;rw[j.out,if_neg hk];rfl
   have t:¬ (0<=k):=hk;go_enter Tryz.func148,Tryz.ntmps148;go_wp2;go_ret;exact⟨Cq g.out.symm,i⟩
  have g:Hid ((KD X.cz (q:Int) k).isSome=false):=by show _=_;unfold KD;rw[Mv,List.getElem?_eq_none (by omega)];rfl
  have s:¬ ((q:Int)<(X.cz.length:Int)):=by omega
  clear a;go_enter Tryz.func148,Tryz.ntmps148;go_wp2;go_ret;exact⟨Cq g.out.symm,i⟩
 have g:Hid ((KD X.cz c k).isSome=false):=by show _=_;unfold KD Cy;rw[if_neg hc0];rfl
 clear a;go_enter Tryz.func148,Tryz.ntmps148;go_wp2;go_ret;exact⟨Cq g.out.symm,i⟩
theorem xgR:∀(q:List QI) (i:Nat) (t:Int),(DG q).set (i*5+1) (J t)=DG (q.modify i λy=>{ y with a:=t })
 | [],i,t=>by simp[DG]
 | p :: q,0,t=>by simp[DG]
 | p :: q,i+1,t=>by
  rw[show (i+1)*5+1=i*5+1+1+1+1+1+1 by omega];simp only[DG,List.set_cons_succ,List.modify_succ_cons];rw[xgR q i t]
theorem OwnI.setA {w:qW}{B g o cap:Nat}{code:List QI}(h:OwnI w B (some (O g o)) cap code){p:Nat}(m:p<code.length)(t:Int):OwnI (w.setCell (O g (o+p*5+1)) (J t)) B (some (O g o)) cap (code.modify p λy=>{ y with a:=t }):=by
 obtain⟨l,f | ⟨g',o',c',cur,e,k,b,c,d,j,i⟩⟩:=h
 ·have:=f.2;omega
 cases e;unfold OwnI;rw[List.length_modify];refine⟨by rw[xdq,List.length_modify],Or.inr ⟨g,o,cap,_,rfl,k,BW b _,c,d,by simpa using j,?_⟩⟩;rw[← xgR,← i];simp only[Array.toList_setIfInBounds,List.drop_set,List.take_set];rw[if_neg (by omega),show o+p*5+1-o=p*5+1 by omega,List.take_set]
theorem xp3 {P Q:Nat->Prop}(code plain:List QI)(begins:List Int)(g o cap B:Nat)(kv bv:Value)(w:qW)(hO:OwnI w B (some (O g o)) cap code)(hP:Cm P w kv plain)(hQ:LH Q w bv begins)(r:∀b,P b->b≠g)(G:∀b,Q b->b≠g)(D:begins.length=plain.length)(T:plain.length<=60)(K:∀b∈begins,0<=b/\b<(code.length:Int)) :
  Calls Tryz.prog 154 #[qS (some (O g o)) code.length cap,kv,bv] w λe w'=>e=.returned (.tuple #[])/\OwnI w' B (some (O g o)) cap (Dx begins plain code plain.length)/\Below B w w'/\∀b,b<w.heap.size->b≠g->w'.heap[b]?=w.heap[b]?:=by
 obtain⟨ak,ck,rfl,-,R,-,s⟩:=id hP;obtain⟨ab,cb,rfl,-,L,-,l⟩:=id hQ
 have ar:code.length<=cap/\cap<=9223372036854775807:=by
  obtain⟨a',c',e,h1,h2⟩:=hO.form
  cases e;unfold maxLen at h2;omega
 unfold maxLen at R L;have aj:B<=g:=(hO.lt g rfl).1;have b6:g<w.heap.size:=(hO.lt g rfl).2;generalize hn:code.length=n at *;have ao:=CH K;have a6:=CH D;clear K D;go_enter Tryz.func154,Tryz.ntmps154;go_wp2
 go_loopg [10] plain.length (λgk iv wr=>∃j:Nat,j+gk=plain.length/\iv=J (j:Int)/\OwnI wr B (some (O g o)) cap (Dx begins plain code j)/\Below B w wr/\(∀b,b<w.heap.size->b≠g->wr.heap[b]?=w.heap[b]?)/\w.heap.size<=wr.heap.size)
 case atStart=>exact⟨0,by omega,rfl,hO,Br _ _,λ_ _ _=>rfl,Bq _⟩
 case round=>
  clear hO;obtain⟨j,hj,rfl,hO,hb,d,N⟩:=hrel;have b3:(Dx begins plain code j).length=n:=by rw[Mt,hn]
  by_cases hlt:j<plain.length
  ·have aa:plain[j]?=some plain[j]:=by simp[hlt]
   obtain⟨pz,z⟩:∃pz,begins[j]?=some pz:=⟨begins[j]'(by have:=a6.out;omega),by simp⟩
   have b5:=ao.out pz (List.mem_of_getElem? z);obtain⟨p,rfl⟩:∃p:Nat,pz=(p:Int):=⟨pz.toNat,by omega⟩
   obtain⟨b1,o1,rfl,q,u0,u1,u2,u3,u4,-⟩:=s j _ aa;obtain⟨bb,ob,rfl,H,y0⟩:=l j _ z;generalize plain[j]=x at *;have a2:b1<w.heap.size:=World.block_lt_of_cell? w _ u0;have a8:bb<w.heap.size:=World.block_lt_of_cell? w _ y0;have a0:∀(b o:Nat) v,b<w.heap.size->b≠g->w.cell? (O b o)=some v->wr.cell? (O b o)=some v:=λb o v h1 h2 h=>by unfold World.cell? at h ⊢;rw[d b h1 h2];exact h
   simp only[Nat.add_zero] at u0;replace u0:=a0 _ _ _ a2 (r _ q) u0;replace u1:=a0 _ _ _ a2 (r _ q) u1;replace u2:=a0 _ _ _ a2 (r _ q) u2;replace u3:=a0 _ _ _ a2 (r _ q) u3;replace u4:=a0 _ _ _ a2 (r _ q) u4;replace y0:wr.cell? (O bb (ob+j))=some (J (p:Int)):=a0 _ _ _ a8 (G _ H) (by simpa [Md] using y0);have au:(j:Int)<(plain.length:Int):=by omega
   have av:(0:Int)<=(j:Int):=by omega
   have b0:(j:Int)<(begins.length:Int):=by have:=a6.out;omega
   have an:=Bg wr (qE x)
   have ah:Hid (Dx begins plain code (j+1)=match GL begins x with | some t=>(Dx begins plain code j).modify p (λy=>{ y with a:=t }) | none=>Dx begins plain code j):=by
    show _=_
    conv=>lhs;unfold Dx
    rw[aa,z]
    cases h:GL begins x with
    | none=>simp only[h]
    | some t=>simp only[h,Int.toNat_natCast]
   have a3:Hid (GL begins x=none->∃j':Nat,j'+(plain.length-(j+1))=plain.length/\J ((j:Int)+1)=J (j':Int)/\OwnI (wr.alloc (qE x)) B (some (O g o)) cap (Dx begins plain code j')/\Below B w (wr.alloc (qE x))/\(∀b,b<w.heap.size->b≠g->(wr.alloc (qE x)).heap[b]?=w.heap[b]?)/\w.heap.size<=(wr.alloc (qE x)).heap.size):=λh=>by
    refine⟨j+1,by omega,by go_num,?_,LW hb _ Zo,λb h1 h2=>by rw[an.block b Zo];exact d b h1 h2,by simp;omega⟩;rw[ah.out,h];exact hO.alloc _
   have b7:IntKind.i64.wrap ((j:Int)+1)=(j:Int)+1:=CM Zo Zo;clear aa z a0;by_cases hjp:(x.op=15\/x.op=16)/\0<=x.a/\x.a<(begins.length:Int)
   ·obtain⟨f,m,M⟩:=hjp;obtain⟨xa,C⟩:∃xa:Nat,x.a=(xa:Int):=⟨x.a.toNat,by omega⟩
    obtain⟨tt,F⟩:∃tt,begins[xa]?=some tt:=⟨begins[xa]'Zo,by simp⟩
    have ad:Hid (GL begins x=some tt):=by show _=_;unfold GL;rw[if_pos ⟨f,m⟩,C];simpa using F
    obtain⟨Y,X,eb,-,t0⟩:=l xa tt F
    cases eb
    replace t0:wr.cell? (O bb (ob+xa))=some (J tt):=by
     have h:w.cell? (O bb (ob+xa))=some (J tt):=by simpa [Md] using t0
     unfold World.cell? at h ⊢;rw[d bb a8 (G _ H)];exact h
    have ap:(xa:Int)<(begins.length:Int):=by omega
    have aq:(0:Int)<=(xa:Int):=by omega
    have ay:decide ((0:Int)<=(xa:Int))=true:=by simp
    have aw:decide ((xa:Int)<(begins.length:Int))=true:=by simp;omega
    have ax:(p:Int)<(n:Int):=by omega
    have b4:(0:Int)<=(p:Int):=by omega
    rw[C] at u1;have a9:OwnI (wr.alloc (qC #[J x.op,J (xa:Int),J x.b,J x.c,qZ x.name] 69)) B (some (O g o)) cap (Dx begins plain code j):=hO.alloc _;have af:=CH (OwnI.setA a9 (p:=p) Zo tt);have b2:g<wr.heap.size:=(hO.lt g rfl).2
    have am:∃u,(wr.alloc (qC #[J x.op,J (xa:Int),J x.b,J x.c,qZ x.name] 69)).cell? (O g (o+p*5+1))=some u/\∀k,(wr.alloc (qC #[J x.op,J (xa:Int),J x.b,J x.c,qZ x.name] 69)).frozen? (O g k)=false:=by
     obtain⟨h1,h2 | ⟨g',o',c',cur,e,h3,h4,h5,h6,h7,h8⟩⟩:=a9
     ·have:=h2.2;omega
     cases e;refine⟨_,by rw[Bn h4];exact Array.getElem?_eq_getElem Zo,KC h4⟩
    obtain⟨ug,U,W⟩:=am;have a4:=Bg wr (qC #[J x.op,J (xa:Int),J x.b,J x.c,qZ x.name] 69);have y0':=Bf a4 y0;have t0':=Bf a4 t0;have x1':(wr.alloc (qC #[J x.op,J (xa:Int),J x.b,J x.c,qZ x.name] 69)).cell? (O wr.heap.size 1)=some (J (xa:Int)):=Bp _ _ _ _ rfl 1;have az:=CH C;have ai:=CH (And.intro d (And.intro hb N));clear C m M F hO a9 a3 l s
    have a1:Hid (∃j':Nat,j'+(plain.length-(j+1))=plain.length/\J ((j:Int)+1)=J (j':Int)/\OwnI (((wr.alloc (qC #[J x.op,J (xa:Int),J x.b,J x.c,qZ x.name] 69))).setCell (O g (o+p*5+1)) (J tt)).drew B (some (O g o)) cap (Dx begins plain code j')/\Below B w (((wr.alloc (qC #[J x.op,J (xa:Int),J x.b,J x.c,qZ x.name] 69))).setCell (O g (o+p*5+1)) (J tt)).drew/\(∀b,b<w.heap.size->b≠g->(((wr.alloc (qC #[J x.op,J (xa:Int),J x.b,J x.c,qZ x.name] 69))).setCell (O g (o+p*5+1)) (J tt)).drew.heap[b]?=w.heap[b]?)/\w.heap.size<=(((wr.alloc (qC #[J x.op,J (xa:Int),J x.b,J x.c,qZ x.name] 69))).setCell (O g (o+p*5+1)) (J tt)).drew.heap.size):=by
     obtain⟨h1,h2,h3⟩:=ai.out;refine⟨j+1,by omega,by go_num,?_,((LW h2 _ Zo).setCell aj _).drew,λb al ag=>?_,by simp;omega⟩
     ·rw[ah.out,ad.out];exact af.out.keep λg hg=>rfl
     show (World.setCell _ _ _).heap[b]?=_;rw[BS ag,a4.block b Zo];exact h1 b al ag
    rcases f with f | f
    ·have a5:(x.op == 15)=true:=by simpa using f
     clear f;go_upto_region 4 with (fail);generalize (wr.alloc (qC #[J x.op,J (xa:Int),J x.b,J x.c,qZ x.name] 69))=V at *;have Z:V.drew.cell? (O bb (ob+j))=some (J (p:Int))/\V.drew.cell? (O wr.heap.size 1)=some (J (xa:Int))/\V.drew.cell? (O bb (ob+xa))=some (J tt):=⟨y0',x1',t0'⟩;refine Fm (S:=λw'=>w'.cell? (O bb (ob+j))=some (J (p:Int))/\w'.cell? (O wr.heap.size 1)=some (J (xa:Int))/\w'.cell? (O bb (ob+xa))=some (J tt)) [12] (by kernel_rfl) ?_;refine tj 0 (⟨some 35,.move (.tmp 0),49,_,_,none⟩) (qS (some (O g o)) n cap) (Z) ?_ ?_
     ·rintro w⟨_,_,_⟩;go_simp
     try simp only[Act.put,Bj,Bl,Bk]
     refine tj 1 (⟨some 36,.move (.tmp 2),47,_,_,none⟩) (qS (some (O bb ob)) begins.length cb) (Z) ?_ ?_
     ·rintro w⟨_,_,_⟩;go_simp
     try simp only[Act.put,Bj,Bl,Bk]
     refine tj 2 (⟨some 37,.move (.tmp 6),3,_,_,none⟩) (J (j:Int)) (Z) ?_ ?_
     ·rintro w⟨_,_,_⟩;go_simp
     try simp only[Act.put,Bj,Bl,Bk]
     refine tj 3 (⟨some 38,.indexAddr 47 (.tmp 36) (.tmp 37),0,_,_,none⟩) (.pointer (some (O bb (ob+j)))) (Z) ?_ ?_
     ·rintro w⟨_,_,_⟩;go_simp
     try simp only[Act.put,Bj,Bl,Bk]
     refine tj 4 (⟨some 39,.load 3 (.tmp 38),3,_,_,none⟩) (J (p:Int)) (Z) ?_ ?_
     ·rintro w⟨_,_,_⟩;go_simp
     try simp only[Act.put,Bj,Bl,Bk]
     refine tj 5 (⟨some 40,.move (.tmp 2),47,_,_,none⟩) (qS (some (O bb ob)) begins.length cb) (Z) ?_ ?_
     ·rintro w⟨_,_,_⟩;go_simp
     try simp only[Act.put,Bj,Bl,Bk]
     refine tj 6 (⟨some 41,.fieldAddr 69 (.tmp 7) 1,0,_,_,none⟩) (.pointer (some (O wr.heap.size 1))) (Z) ?_ ?_
     ·rintro w⟨_,_,_⟩;go_simp
     try simp only[Act.put,Bj,Bl,Bk]
     refine tj 7 (⟨some 42,.load 3 (.tmp 41),3,_,_,none⟩) (J (xa:Int)) (Z) ?_ ?_
     ·rintro w⟨_,_,_⟩;go_simp
     try simp only[Act.put,Bj,Bl,Bk]
     refine tj 8 (⟨some 43,.indexAddr 47 (.tmp 40) (.tmp 42),0,_,_,none⟩) (.pointer (some (O bb (ob+xa)))) (Z) ?_ ?_
     ·rintro w⟨_,_,_⟩;go_simp
     try simp only[Act.put,Bj,Bl,Bk]
     refine tj 9 (⟨some 44,.load 3 (.tmp 43),3,_,_,none⟩) (J tt) (Z) ?_ ?_
     ·rintro w⟨_,_,_⟩;go_simp
     try simp only[Act.put,Bj,Bl,Bk]
     refine tj 10 (⟨some 45,.indexAddr 49 (.tmp 35) (.tmp 39),0,_,_,none⟩) (.pointer (some (O g (o+p*5)))) (Z) ?_ ?_
     ·rintro w⟨_,_,_⟩;go_simp
     try simp only[Act.put,Bj,Bl,Bk]
     refine tj 11 (⟨some 46,.fieldAddr 69 (.tmp 45) 1,0,_,_,none⟩) (.pointer (some (O g (o+p*5+1)))) (Z) ?_ ?_
     ·rintro w⟨_,_,_⟩;go_simp
     try simp only[Act.put,Bj,Bl,Bk]
     refine DS (rs:=[12]) (by kernel_rfl) (by simp) ?_;intro i hi;simp only[Zm,Zn,or_false] at hi;subst hi;refine Ck (o:=⟨none,.store 3 (.tmp 46) (.tmp 44),0,_,_,none⟩) rfl (λK' hK=>?_);go_simp;refine hK _ _ (λh=>absurd h (by decide)) ?_;clear hK K'
     try simp only[Act.put,Bj,Bl,Bk]
     refine EZ (by kernel_rfl) ?_ _
     try simp only[Act.put,Bj,Bl,Bk]
     go_wp2;go_roundg (plain.length-(j+1))
     case measure=>omega
     case rel=>exact a1.out
    have a5:(x.op == 15)=false:=by simp[f]
    have a7:(x.op == 16)=true:=by simpa using f
    clear f;go_upto_region 4 with (fail);generalize (wr.alloc (qC #[J x.op,J (xa:Int),J x.b,J x.c,qZ x.name] 69))=V at *;have Z:V.drew.cell? (O bb (ob+j))=some (J (p:Int))/\V.drew.cell? (O wr.heap.size 1)=some (J (xa:Int))/\V.drew.cell? (O bb (ob+xa))=some (J tt):=⟨y0',x1',t0'⟩;refine Fm (S:=λw'=>w'.cell? (O bb (ob+j))=some (J (p:Int))/\w'.cell? (O wr.heap.size 1)=some (J (xa:Int))/\w'.cell? (O bb (ob+xa))=some (J tt)) [12] (by kernel_rfl) ?_;refine tj 0 (⟨some 35,.move (.tmp 0),49,_,_,none⟩) (qS (some (O g o)) n cap) (Z) ?_ ?_
    ·rintro w⟨_,_,_⟩;go_simp
    try simp only[Act.put,Bj,Bl,Bk]
    refine tj 1 (⟨some 36,.move (.tmp 2),47,_,_,none⟩) (qS (some (O bb ob)) begins.length cb) (Z) ?_ ?_
    ·rintro w⟨_,_,_⟩;go_simp
    try simp only[Act.put,Bj,Bl,Bk]
    refine tj 2 (⟨some 37,.move (.tmp 6),3,_,_,none⟩) (J (j:Int)) (Z) ?_ ?_
    ·rintro w⟨_,_,_⟩;go_simp
    try simp only[Act.put,Bj,Bl,Bk]
    refine tj 3 (⟨some 38,.indexAddr 47 (.tmp 36) (.tmp 37),0,_,_,none⟩) (.pointer (some (O bb (ob+j)))) (Z) ?_ ?_
    ·rintro w⟨_,_,_⟩;go_simp
    try simp only[Act.put,Bj,Bl,Bk]
    refine tj 4 (⟨some 39,.load 3 (.tmp 38),3,_,_,none⟩) (J (p:Int)) (Z) ?_ ?_
    ·rintro w⟨_,_,_⟩;go_simp
    try simp only[Act.put,Bj,Bl,Bk]
    refine tj 5 (⟨some 40,.move (.tmp 2),47,_,_,none⟩) (qS (some (O bb ob)) begins.length cb) (Z) ?_ ?_
    ·rintro w⟨_,_,_⟩;go_simp
    try simp only[Act.put,Bj,Bl,Bk]
    refine tj 6 (⟨some 41,.fieldAddr 69 (.tmp 7) 1,0,_,_,none⟩) (.pointer (some (O wr.heap.size 1))) (Z) ?_ ?_
    ·rintro w⟨_,_,_⟩;go_simp
    try simp only[Act.put,Bj,Bl,Bk]
    refine tj 7 (⟨some 42,.load 3 (.tmp 41),3,_,_,none⟩) (J (xa:Int)) (Z) ?_ ?_
    ·rintro w⟨_,_,_⟩;go_simp
    try simp only[Act.put,Bj,Bl,Bk]
    refine tj 8 (⟨some 43,.indexAddr 47 (.tmp 40) (.tmp 42),0,_,_,none⟩) (.pointer (some (O bb (ob+xa)))) (Z) ?_ ?_
    ·rintro w⟨_,_,_⟩;go_simp
    try simp only[Act.put,Bj,Bl,Bk]
    refine tj 9 (⟨some 44,.load 3 (.tmp 43),3,_,_,none⟩) (J tt) (Z) ?_ ?_
    ·rintro w⟨_,_,_⟩;go_simp
    try simp only[Act.put,Bj,Bl,Bk]
    refine tj 10 (⟨some 45,.indexAddr 49 (.tmp 35) (.tmp 39),0,_,_,none⟩) (.pointer (some (O g (o+p*5)))) (Z) ?_ ?_
    ·rintro w⟨_,_,_⟩;go_simp
    try simp only[Act.put,Bj,Bl,Bk]
    refine tj 11 (⟨some 46,.fieldAddr 69 (.tmp 45) 1,0,_,_,none⟩) (.pointer (some (O g (o+p*5+1)))) (Z) ?_ ?_
    ·rintro w⟨_,_,_⟩;go_simp
    try simp only[Act.put,Bj,Bl,Bk]
    refine DS (rs:=[12]) (by kernel_rfl) (by simp) ?_;intro i hi;simp only[Zm,Zn,or_false] at hi;subst hi;refine Ck (o:=⟨none,.store 3 (.tmp 46) (.tmp 44),0,_,_,none⟩) rfl (λK' hK=>?_);go_simp;refine hK _ _ (λh=>absurd h (by decide)) ?_;clear hK K'
    try simp only[Act.put,Bj,Bl,Bk]
    refine EZ (by kernel_rfl) ?_ _
    try simp only[Act.put,Bj,Bl,Bk]
    go_wp2;go_roundg (plain.length-(j+1))
    case measure=>omega
    case rel=>exact a1.out
   have ad:Hid (GL begins x=none):=by
    show _=_;unfold GL;by_cases h1:(x.op=15\/x.op=16)/\0<=x.a
    ·rw[if_pos h1,List.getElem?_eq_none Zo]
    rw[if_neg h1]
   have a1:=CH (a3.out ad.out);by_cases h15:x.op=15
   ·have a5:(x.op == 15)=true:=by simpa using h15
    by_cases m:0<=x.a
    ·have ae:¬ (x.a<(begins.length:Int)):=λh=>hjp ⟨Or.inl h15,m,h⟩;clear h15 hjp a3;go_wp2;go_roundg (plain.length-(j+1))
     case measure=>omega
     case rel=>exact a1.out
    clear h15 hjp a3;go_wp2;go_roundg (plain.length-(j+1))
    case measure=>omega
    case rel=>exact a1.out
   have a5:(x.op == 15)=false:=by simpa using h15
   by_cases h16:x.op=16
   ·have a7:(x.op == 16)=true:=by simpa using h16
    by_cases m:0<=x.a
    ·have ae:¬ (x.a<(begins.length:Int)):=λh=>hjp ⟨Or.inr h16,m,h⟩;clear h15 h16 hjp a3;go_wp2;go_roundg (plain.length-(j+1))
     case measure=>omega
     case rel=>exact a1.out
    clear h15 h16 hjp a3;go_wp2;go_roundg (plain.length-(j+1))
    case measure=>omega
    case rel=>exact a1.out
   have a7:(x.op == 16)=false:=by simpa using h16
   clear h15 h16 hjp a3;go_wp2;go_roundg (plain.length-(j+1))
   case measure=>omega
   case rel=>exact a1.out
  obtain rfl:j=plain.length:=by omega
  have HF:=CH (And.intro hO (And.intro hb d));clear hO hb d;go_wp2;exact bodyPost_end (v:=.tuple #[]) (by simp[results,Tryz.results154,go_sem]) rfl ⟨rfl,HF.out.1,HF.out.2.1,HF.out.2.2⟩
end Go.Proofs.YtbafokihegegiaaGreatDoor
