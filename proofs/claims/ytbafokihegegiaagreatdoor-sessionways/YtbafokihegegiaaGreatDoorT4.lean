/- A part. -/
import Derived.Test.YtbafokihegegiaaGreatDoorT3
namespace Go.Proofs.YtbafokihegegiaaGreatDoor
open Go.ChangeShapes Go.WideShapes Go.ChangeAt Go.RowKit
set_option linter.unusedSimpArgs false
set_option linter.unusedVariables false
set_option maxHeartbeats 8000000
set_option maxRecDepth 8000
structure PlOk (f:Fr):Prop where
 fast:f.fast=false
 code:f.code=f.meth.code
 nums:∃S n,∀x∈f.code,DD S n f.meth x=0
 hts:(DN f.code).2.1=0
 args:(f.args.length:Int)=f.meth.args
 temps:(f.temps.length:Int)=f.meth.temps
 pc:∃k:Nat,f.pc=k/\k<f.code.length/\(f.stack.length:Int)=(DN f.code).1.getD k 0
theorem xgq {S n:Int}{m:QM}{x:QI}(h:DD S n m x=0):1<=x.op/\x.op<=17/\(x.op=2->0<=x.a/\x.a<m.args)/\(x.op=3\/x.op=11->0<=x.a/\x.a<m.temps)/\(x.op=14->0<=x.a/\x.a<=4)/\x.b=0/\x.c=0:=by
 have f:=xeU h;unfold DD at h;split at h
 ·cases h
 rename_i g;split at h
 ·cases h
 rename_i d;split at h
 ·cases h
 rename_i j;simp[Cj] at g;refine⟨by omega,by omega,λi=>?_,λe=>?_,f,by omega,by omega⟩
 ·simp[Ew,i,Cj] at d;omega
 rcases e with e | e<;>(simp[Ew,e,Cj] at d;omega)
structure NxOk (f:Fr)(k:Nat)(x:QI):Prop where
 pc:f.pc=k
 lt:k<f.code.length
 here:f.code[k]?=some x
 need:(Cb x k).need<=f.stack.length
 back:x.op=17->f.stack.length=1
 few:f.stack.length<=12
 next:∀t∈(Cb x k).next,∃j:Nat,t=(j:Int)/\j<f.code.length/\(DN f.code).1.getD j 0=f.stack.length+(Cb x k).more
 kind:1<=x.op/\x.op<=17
 arg:x.op=2->0<=x.a/\x.a<f.args.length
 temp:x.op=3\/x.op=11->0<=x.a/\x.a<f.temps.length
 send:x.op=14->0<=x.a/\x.a<=4
 zero:x.b=0/\x.c=0
theorem PlOk.nx {f:Fr}(h:PlOk f):∃k x,NxOk f k x:=by
 obtain⟨S,n,e⟩:=h.nums;obtain⟨k,l,a,q⟩:=h.pc;have g:f.code[k]?=some f.code[k]:=List.getElem?_eq_getElem a;have d:Lr f.code:=λy o=>xeU (e y o);obtain⟨-,-,-,b⟩:=xhZ d h.hts;obtain⟨r,s,p,i⟩:=b k _ g (by omega);obtain⟨n1,n2,n3,n4,n5,n6,n7⟩:=xgq (e f.code[k] (List.getElem_mem a));rw[← h.args] at n3;rw[← h.temps] at n4;refine⟨k,f.code[k],l,a,g,by omega,λc=>by have:=p c;omega,by omega,λt m=>?_,⟨n1,n2⟩,n3,n4,n5,⟨n6,n7⟩⟩;obtain⟨j,j1,j2,j3⟩:=i t m;exact⟨j,j1,j2,by omega⟩
theorem PlOk.go {f f':Fr}(h:PlOk f){k:Nat}{x:QI}(a:NxOk f k x)(e1:f'.meth=f.meth)(e2:f'.args=f.args)(e3:f'.code=f.code)(e4:f'.fast=f.fast)(e5:f'.temps.length=f.temps.length)(e6:(f'.stack.length:Int)=f.stack.length+(Cb x k).more)(e7:f'.pc∈(Cb x k).next):PlOk f':=by
 obtain⟨j,j1,j2,j3⟩:=a.next _ e7;refine⟨e4.trans h.fast,by rw[e3,e1];exact h.code,by rw[e3,e1];exact h.nums,by rw[e3];exact h.hts,by rw[e2,e1];exact h.args,by rw[e5,e1];exact h.temps,j,j1,by rw[e3];exact j2,by rw[e3,j3];exact e6⟩
theorem xjg {σ:Type}{m:Mc σ}{f:Fr}{a b:Int}(c:(Cr m f a b).2.2=0):(Cr m f a b).2.1={ f with pc:=b }:=by
 unfold Cr at c ⊢;simp only[] at c ⊢;generalize (if b<=a then { m with tz:=m.tz+1 } else m:Mc σ)=m' at c ⊢;by_cases h:300<m'.tz
 ·rw[if_pos h] at c;cases c
 rw[if_neg h]
theorem xhO {h:List QO}{f:Fr}{x:QI}{v:QV}(e:Cl h f x=some v):1<=x.op/\x.op<=8:=by
 unfold Cl at e;split at e
 ·omega
 split at e
 ·omega
 split at e
 ·omega
 split at e
 ·omega
 split at e
 ·omega
 split at e
 ·omega
 split at e
 ·omega
 split at e
 ·omega
 cases e
theorem xk6 {σ:Type}{ent:CC σ}{E:Env σ}{d:Nat}{m:Mc σ}{f:Fr}(h:PlOk f){k:Nat}{x:QI}(t:NxOk f k x)(o:x.op≠17)(r:(BD ent E d m { f with pc:=f.pc+1 } f.pc x).2.2=0):PlOk (BD ent E d m { f with pc:=f.pc+1 } f.pc x).2.1:=by
 have s:=t.pc;have p:=t.need;have z:=t.kind;unfold BD at r ⊢;split
 ·rename_i v e;have C:=xhO e
  have q:Cb x k=⟨0,1,[(k:Int)+1]⟩:=by
   unfold Cb;rw[if_neg (by omega),if_neg (by omega),if_neg (by omega),if_neg (by omega),if_neg (by omega),if_neg (by omega)]
  exact h.go t rfl rfl rfl rfl rfl (by rw[q];simp[Fr.push]) (by rw[q,← s];simp[Fr.push])
 rename_i e;rw[e] at r;simp only[] at r;split
 ·rename_i u;have q:Cb x k=⟨1,-1,[(k:Int)+1]⟩:=by unfold Cb;rw[if_pos (by omega)]
  rw[q] at p;simp only[] at p;exact h.go t rfl rfl rfl rfl rfl (by rw[q];simp[Fr.pop];omega) (by rw[q,← s];simp[Fr.pop])
 split
 ·rename_i u b;have q:Cb x k=⟨1,1,[(k:Int)+1]⟩:=by unfold Cb;rw[if_neg (by omega),if_pos b]
  exact h.go t rfl rfl rfl rfl rfl (by rw[q];simp[Fr.push]) (by rw[q,← s];simp[Fr.push])
 split
 ·rename_i u b c;have q:Cb x k=⟨1,-1,[(k:Int)+1]⟩:=by unfold Cb;rw[if_pos (by omega)]
  rw[q] at p;simp only[] at p;exact h.go t rfl rfl rfl rfl (by simp[Mj]) (by rw[q];simp[Fr.pop];omega) (by rw[q,← s];simp[Fr.pop])
 split
 ·rename_i u b c g;have q:Cb x k=⟨1,-1,[(k:Int)+1]⟩:=by unfold Cb;rw[if_pos (by omega)]
  rw[q] at p;simp only[] at p;exact h.go t rfl rfl rfl rfl rfl (by rw[q];simp[Fr.pop];omega) (by rw[q,← s];simp[Fr.pop])
 split
 ·rename_i u b c g i;rw[if_neg u,if_neg b,if_neg c,if_neg g,if_pos i] at r
  have q:Cb x k=⟨0,1,[(k:Int)+1]⟩:=by
   unfold Cb;rw[if_neg (by omega),if_neg (by omega),if_neg (by omega),if_neg (by omega),if_neg (by omega),if_neg (by omega)]
  unfold DT at r ⊢;split
  ·rename_i y;rw[if_pos y] at r;cases r
  exact h.go t rfl rfl rfl rfl rfl (by rw[q];simp[Fr.push]) (by rw[q,← s];simp[Fr.push])
 split
 ·rename_i u b c g i j;rw[if_neg u,if_neg b,if_neg c,if_neg g,if_neg i,if_pos j] at r;have q:Cb x k=⟨x.a+1,-x.a,[(k:Int)+1]⟩:=by unfold Cb;rw[if_neg (by omega),if_neg (by omega),if_pos j]
  rw[q] at p;simp only[] at p;have B:=t.send j;unfold Dv at r ⊢;simp only[] at r ⊢;split
  ·rename_i y;rw[if_pos y] at r;exact absurd r y
  exact h.go t rfl rfl rfl rfl rfl (by rw[q];simp only[List.length_append,List.length_dropLast,List.length_take,List.length_cons,List.length_nil,Dq];omega) (by rw[q,← s];simp)
 split
 ·rename_i u b c g i j l;rw[if_neg u,if_neg b,if_neg c,if_neg g,if_neg i,if_neg j,if_pos l] at r;have q:Cb x k=⟨0,0,[x.a]⟩:=by unfold Cb;rw[if_neg (by omega),if_neg (by omega),if_neg (by omega),if_pos l]
  rw[xjg r];exact h.go t rfl rfl rfl rfl rfl (by rw[q];simp) (by rw[q];simp)
 split
 ·rename_i u b c g i j l n;rw[if_neg u,if_neg b,if_neg c,if_neg g,if_neg i,if_neg j,if_neg l,if_pos n] at r;have q:Cb x k=⟨1,-1,[(k:Int)+1,x.a]⟩:=by unfold Cb;rw[if_neg (by omega),if_neg (by omega),if_neg (by omega),if_neg (by omega),if_pos n]
  rw[q] at p;simp only[] at p;unfold Dt at r ⊢;split
  ·exact h.go t rfl rfl rfl rfl rfl (by rw[q];simp[Fr.pop];omega) (by rw[q,← s];simp[Fr.pop])
  rename_i k2;rw[if_neg k2] at r;split
  ·rename_i k1;rw[if_pos k1] at r;rw[xjg r];exact h.go t rfl rfl rfl rfl rfl (by rw[q];simp[Fr.pop];omega) (by rw[q];simp[Fr.pop])
  rename_i k1;rw[if_neg k1] at r
  cases r
 exfalso;rename_i u b c g i j l n;rw[if_neg u,if_neg b,if_neg c,if_neg g,if_neg i,if_neg j,if_neg l,if_neg n] at r;unfold DB at r;rw[if_pos h.fast] at r
 cases r
section
variable {σ:Type}
def Cz (m:Mc σ)(f:Fr):Nat:=(if f.fast then 302*(f.meth.code.length+1) else 0)+(301-m.tz).toNat*(f.code.length+1)+(f.code.length-f.pc.toNat)
theorem xsf {m m':Mc σ}{f f':Fr}(e:m.tz<=m'.tz)(e1:f'.fast=f.fast)(e2:f'.meth=f.meth)(e3:f'.code=f.code)(c:0<=f.pc)(d:f.pc.toNat<f.code.length)(b:f.pc<f'.pc):Cz m' f'<Cz m f:=by
 unfold Cz;rw[e1,e2,e3];have a:(301-m'.tz).toNat*(f.code.length+1)<=(301-m.tz).toNat*(f.code.length+1):=Nat.mul_le_mul_right _ (by omega);omega
theorem xra {m m':Mc σ}{f f':Fr}(c:m'.tz=m.tz+1)(a:m'.tz<=300)(e1:f'.fast=f.fast)(e2:f'.meth=f.meth)(e3:f'.code=f.code):Cz m' f'<Cz m f:=by
 unfold Cz;rw[e1,e2,e3];have b:(301-m.tz).toNat=(301-m'.tz).toNat+1:=by omega
 rw[b,Nat.add_mul,Nat.one_mul];omega
theorem xpp {m:Mc σ}{f:Fr}(b:0<=m.tz)(a:f.fast=true)(c:Int):Cz m (f.leave c)<Cz m f:=by
 unfold Cz;have e1:(f.leave c).fast=false:=rfl;have e2:(f.leave c).code=f.meth.code:=rfl;rw[e1,e2,a];simp only[Bool.false_eq_true,if_false,if_true];have d:(301-m.tz).toNat*(f.meth.code.length+1)<=301*(f.meth.code.length+1):=Nat.mul_le_mul_right _ (by omega);omega
theorem PT {m:Mc σ}{f:Fr}(a:0<=m.tz):Cz m f<=Hn f:=by
 unfold Cz Hn;have b:(301-m.tz).toNat*(f.code.length+1)<=301*(f.code.length+1):=Nat.mul_le_mul_right _ (by omega);split<;>omega
def Gn (ent:CC σ):Prop:=∀m c n s a,m.tz<=(ent m c n s a).1.tz
theorem xnJ {m:Mc σ}{f:Fr}(c:0<=f.pc)(d:f.pc.toNat<f.code.length){f1:Fr}(e1:f1.fast=f.fast)(e2:f1.meth=f.meth)(e3:f1.code=f.code){b:Int}(a:(Cr m f1 f.pc b).2.2=0):Cz (Cr m f1 f.pc b).1 (Cr m f1 f.pc b).2.1<Cz m f:=by
 unfold Cr at a ⊢;by_cases hb:b<=f.pc
 ·simp only[hb,if_true] at a ⊢;by_cases h:300<m.tz+1
  ·rw[if_pos h] at a;cases a
  rw[if_neg h];exact xra rfl (by simp only[];omega) e1 e2 e3
 simp only[hb,if_false] at a ⊢;by_cases h:300<m.tz
 ·rw[if_pos h] at a;cases a
 rw[if_neg h];exact xsf (Int.le_refl _) e1 e2 e3 c d (by simp only[];omega)
theorem xi1 {ent:CC σ}(y:Gn ent){E:Env σ}{d:Nat}{m:Mc σ}{f:Fr}(z:0<=m.tz)(u:0<=f.pc)(v:f.pc.toNat<f.code.length){x:QI}(q:(BD ent E d m { f with pc:=f.pc+1 } f.pc x).2.2=0):Cz (BD ent E d m { f with pc:=f.pc+1 } f.pc x).1 (BD ent E d m { f with pc:=f.pc+1 } f.pc x).2.1<Cz m f:=by
 have on:∀ {m':Mc σ} {f':Fr},m.tz<=m'.tz->f'.fast=f.fast->f'.meth=f.meth->f'.code=f.code->f'.pc=f.pc+1->Cz m' f'<Cz m f:=λa b c d e=>xsf a b c d u v (by omega);unfold BD at q ⊢;split
 ·exact on (Int.le_refl _) rfl rfl rfl rfl
 rename_i e;rw[e] at q;simp only[] at q;split
 ·exact on (Int.le_refl _) rfl rfl rfl rfl
 split
 ·exact on (Int.le_refl _) rfl rfl rfl rfl
 split
 ·exact on (Int.le_refl _) rfl rfl rfl rfl
 split
 ·exact on (Int.le_refl _) rfl rfl rfl rfl
 split
 ·rename_i r h j i g;rw[if_neg r,if_neg h,if_neg j,if_neg i,if_pos g] at q;unfold DT at q ⊢;split
  ·rename_i t;rw[if_pos t] at q;cases q
  exact on (Int.le_refl _) rfl rfl rfl rfl
 split
 ·rename_i r h j i g l;rw[if_neg r,if_neg h,if_neg j,if_neg i,if_neg g,if_pos l] at q;unfold Dv at q ⊢;simp only[] at q ⊢;split
  ·rename_i t;rw[if_pos t] at q;exact absurd q t
  exact on (y _ _ _ _ _) rfl rfl rfl rfl
 split
 ·rename_i r h j i g l n;rw[if_neg r,if_neg h,if_neg j,if_neg i,if_neg g,if_neg l,if_pos n] at q;exact xnJ (f1:={ f with pc:=f.pc+1 }) u v rfl rfl rfl q
 split
 ·rename_i r h j i g l n o;rw[if_neg r,if_neg h,if_neg j,if_neg i,if_neg g,if_neg l,if_neg n,if_pos o] at q;unfold Dt at q ⊢;split
  ·exact on (Int.le_refl _) rfl rfl rfl rfl
  rename_i k2;rw[if_neg k2] at q;split
  ·rename_i k1;rw[if_pos k1] at q;exact xnJ (f1:=Fr.pop { f with pc:=f.pc+1 }) u v rfl rfl rfl q
  rename_i k1;rw[if_neg k1] at q
  cases q
 rename_i r h j i g l n o;rw[if_neg r,if_neg h,if_neg j,if_neg i,if_neg g,if_neg l,if_neg n,if_neg o] at q;unfold DB at q ⊢;split
 ·rename_i k;rw[if_pos k] at q;cases q
 rename_i p;have s:f.fast=true:=by simpa using p
 split
 ·simp only[];split
  ·exact on (Int.le_refl _) rfl rfl rfl rfl
  have:=xpp (m:=m) (f:={ f with pc:=f.pc+1 }) z s x.c;have B:Cz m { f with pc:=f.pc+1 }<Cz m f:=on (Int.le_refl _) rfl rfl rfl rfl;omega
 split
 ·exact on (Int.le_refl _) rfl rfl rfl rfl
 split
 ·exact on (Int.le_refl _) rfl rfl rfl rfl
 split
 ·refine on ?_ rfl rfl rfl rfl;simp only[BY];split
  ·exact Int.le_refl _
  split
  ·exact Int.le_refl _
  exact Int.le_refl _
 exact on (Int.le_refl _) rfl rfl rfl rfl
theorem xh1 (m:Mc σ)(f:Fr)(a b:Int):m.tz<=(Cr m f a b).1.tz:=by
 unfold Cr;by_cases h:b<=a
 ·simp only[h,if_true];split<;>(simp only[];omega)
 ·simp only[h,if_false];split<;>exact Int.le_refl _
theorem xeH (E:Env σ)(d:Nat)(m:Mc σ):(BY E d m).1.tz=m.tz:=by
 unfold BY;split
 ·rfl
 split<;>rfl
theorem xej {ent:CC σ}(b:Gn ent)(E:Env σ)(d:Nat)(m:Mc σ)(f:Fr)(a:Int)(x:QI):m.tz<=(BD ent E d m f a x).1.tz:=by
 unfold BD;split
 ·exact Int.le_refl _
 split
 ·exact Int.le_refl _
 split
 ·exact Int.le_refl _
 split
 ·exact Int.le_refl _
 split
 ·exact Int.le_refl _
 split
 ·unfold DT;split<;>exact Int.le_refl _
 ·split
  ·unfold Dv;simp only[];split
   ·exact b { m with st:=_ } _ _ _ _
   exact b { m with st:=_ } _ _ _ _
  split
  ·exact xh1 _ _ _ _
  split
  ·unfold Dt;split
   ·exact Int.le_refl _
   split
   ·exact xh1 _ _ _ _
   exact Int.le_refl _
  unfold DB;split
  ·exact Int.le_refl _
  split
  ·exact Int.le_refl _
  split
  ·exact Int.le_refl _
  split
  ·exact Int.le_refl _
  split
  ·exact Int.le_of_eq (xeH E d m).symm
  exact Int.le_refl _
theorem xjF {ent:CC σ}(b:Gn ent)(E:Env σ)(d:Nat):∀(g:Nat) (m:Mc σ) (f:Fr),m.tz<=(CX ent E d g m f).1.tz
 | 0,m,f=>Int.le_refl _
 | g+1,m,f=>by
  unfold CX;generalize (if f.pc<0 then none else f.code[f.pc.toNat]?)=q
  cases q with
  | none=>exact Int.le_refl _
  | some x=>
   simp only[];split
   ·exact Int.le_refl _
   have a:=xej b E d m { f with pc:=f.pc+1 } f.pc x;split
   ·exact a
   exact Int.le_trans a (xjF b E d g _ _)
theorem xgz (E:Env σ)(d:Nat){b:Mc σ->Fr->Mc σ × QV × Int}(e:∀m f,m.tz<=(b m f).1.tz):Gn (El E d b):=by
 intro m c n s a;unfold El
 cases Cp E.cz c n with
 | none=>exact Int.le_refl _
 | some mt=>
  simp only[];split
  ·exact Int.le_refl _
  split
  ·split<;>exact Int.le_refl _
  ·split
   ·exact Int.le_refl _
   have g:=xeH E d m;have h:=e (BY E d m).1 (CW E c n mt s a);omega
theorem Ls (E:Env σ):∀d:Nat,Gn (BL E d)
 | 0=>xgz E 0 λm f=>Int.le_refl _
 | d+1=>xgz E (d+1) λm f=>xjF (Ls E d) E d _ m f
theorem xfI {X:QW}(h:BM X=0){c n:Int}{m:QM}(l:Cp X.cz c n=some m):(m.prim≠0/\m.args=1)\/(m.prim=0/\∃S N:Int,DF X.cz.length c m=0/\(∀x∈m.code,DD S N m x=0)/\(DN m.code).2.1=0):=by
 obtain⟨t,-,s,-⟩:=Gx h;unfold Cp at l
 cases r:Cy X.cz c with
 | none=>rw[r] at l;cases l
 | some x=>
  rw[r] at l;simp only[Option.bind_some] at l;obtain⟨k,rfl,b⟩:=Gl r;split at l
  ·have o:=s k x (Bz b) b;unfold Dm at o;split at o
   ·cases o
   split at o
   ·cases o
   have g:=Hm o _ _ l;unfold Dn at g;split at g
   ·cases g
   split at g
   ·rename_i j;left;unfold Ft at j;rw[List.any_eq_true] at j;obtain⟨p,d,j⟩:=j;simp only[Bool.and_eq_true,decide_eq_true_eq] at j;refine⟨?_,j.1.1.2⟩;rw[← j.1.1.1.2]
    have:∀q∈xrh,q.prim≠0:=by
     intro q g;simp[xrh] at g;rcases g with rfl | rfl | rfl | rfl | rfl<;>decide
    exact this p d
   right;unfold Em at g;split at g
   ·rename_i a;exact absurd g a
   rename_i a;have i:DF X.cz.length k m=0:=Decidable.of_not_not a;split at g
   ·rename_i f e;exact absurd g (xge e)
   rename_i e;refine⟨?_,_,_,i,PR e,g⟩;unfold DF at i;split at i
   ·cases i
   split at i
   ·cases i
   split at i
   ·cases i
   split at i
   ·cases i
   rename_i j;exact Decidable.of_not_not j
  cases l
theorem xlv {X:QW}(h:BM X=0){c n:Int}{m:QM}(q:Cp X.cz c n=some m)(o:m.prim=0){a:List QV}(t:m.args=a.length)(s:QV){E:Env σ}(p:E.quick c n=none):PlOk (CW E c n m s a):=by
 rcases xfI h q with ⟨i,-⟩ | ⟨-,S,N,v,j,k⟩
 ·exact absurd o i
 obtain⟨b,e,d,-,-,-⟩:=xiN v;have f:Lr m.code:=λy u=>xeU (j y u);obtain⟨-,l,r,-⟩:=xhZ f k;have g:CW E c n m s a=⟨c,m,s,a,Cv m.temps,[],m.code,0,false⟩:=by unfold CW;rw[p]
 rw[g];refine⟨rfl,rfl,⟨S,N,j⟩,k,t.symm,?_,0,rfl,l,?_⟩
 ·simp only[Cv,List.length_replicate];omega
 rw[r];rfl
end
section
variable {σ τ:Type}
structure MR (Rel:σ->τ->Prop)(m:Mc σ)(m':Mc τ):Prop where
 heap:m'.heap=m.heap
 sz_:m'.sz_=m.sz_
 tz:m'.tz=m.tz
 st:Rel m.st m'.st
def RR {α:Type}(Rel:σ->τ->Prop)(r:Mc σ × α × Int)(r':Mc τ × α × Int):Prop:=MR Rel r.1 r'.1/\r'.2=r.2
structure ER (Rel:σ->τ->Prop)(SOk:QS->ByteArray->Prop)(E:Env σ)(E':Env τ):Prop where
 cz:E'.cz=E.cz
 fuel:E'.fuel=E.fuel
 quick:E'.quick=E.quick
 look:∀s t x c name,Rel s t->SOk x name->(E'.look t x c name).2=(E.look s x c name).2/\Rel (E.look s x c name).1 (E'.look t x c name).1
 plain:∀c n m,Cp E.cz c n=some m->∀(k:Nat) x,m.code[k]?=some x->x.op=14->SOk ⟨c,m.name,k⟩ x.name
 fast:∀c n m q,Cp E.cz c n=some m->E.quick c n=some q->∀x∈q.1,x.op=14->SOk ⟨c,m.name,x.c⟩ x.name
structure FR (SOk:QS->ByteArray->Prop)(f:Fr):Prop where
 code:f.fast=false->f.code=f.meth.code
 plain:∀(k:Nat) x,f.meth.code[k]?=some x->x.op=14->SOk ⟨f.cls,f.meth.name,k⟩ x.name
 fast:f.fast=true->∀x∈f.code,x.op=14->SOk ⟨f.cls,f.meth.name,x.c⟩ x.name
theorem FR.same {a:QS->ByteArray->Prop}{f f':Fr}(h:FR a f)(e1:f'.fast=f.fast)(e2:f'.code=f.code)(e3:f'.meth=f.meth)(e4:f'.cls=f.cls):FR a f':=by
 refine⟨?_,?_,?_⟩
 ·rw[e1,e2,e3];exact h.code
 ·rw[e3,e4];exact h.plain
 rw[e1,e2,e3,e4];exact h.fast
theorem FR.leave {a:QS->ByteArray->Prop}{f:Fr}(h:FR a f)(c:Int):FR a (f.leave c):=⟨λ_=>rfl,h.plain,λh=>by cases h⟩
def xsx (Rel:σ->τ->Prop)(ent:CC σ)(ent':CC τ):Prop:=∀m m' c n s a,MR Rel m m'->RR Rel (ent m c n s a) (ent' m' c n s a)
theorem xlS {c:σ->τ->Prop}{m:Mc σ}{m':Mc τ}(h:MR c m m')(f:Fr)(a b:Int):RR c (Cr m f a b) (Cr m' f a b):=by
 unfold Cr;by_cases hb:b<=a
 ·simp only[hb,if_true,h.tz];split
  ·exact⟨⟨h.heap,h.sz_,rfl,h.st⟩,rfl⟩
  exact⟨⟨h.heap,h.sz_,rfl,h.st⟩,rfl⟩
 simp only[hb,if_false,h.tz];split
 ·exact⟨h,rfl⟩
 exact⟨h,rfl⟩
theorem xjq {a:σ->τ->Prop}{b:QS->ByteArray->Prop}{E:Env σ}{E':Env τ}(c:ER a b E E')(d:Nat){m:Mc σ}{m':Mc τ}(h:MR a m m'):MR a (BY E d m).1 (BY E' d m').1/\(BY E' d m').2=(BY E d m).2:=by
 unfold BY;rw[c.fuel,h.sz_];split
 ·exact⟨h,rfl⟩
 split
 ·exact⟨h,rfl⟩
 exact⟨⟨h.heap,rfl,h.tz,h.st⟩,rfl⟩
theorem xp4 {c:σ->τ->Prop}{g:QS->ByteArray->Prop}{E:Env σ}{E':Env τ}(k:ER c g E E'){ent:CC σ}{ent':CC τ}(o:xsx c ent ent')(d:Nat){m:Mc σ}{m':Mc τ}(h:MR c m m'){f:Fr}{at':Int}{x:QI}(n:x.op=14->g (f.site at' x) x.name):RR c (BD ent E d m f at' x) (BD ent' E' d m' f at' x):=by
 unfold BD;rw[h.heap];split
 ·exact⟨h,rfl⟩
 split
 ·exact⟨h,rfl⟩
 split
 ·exact⟨h,rfl⟩
 split
 ·exact⟨h,rfl⟩
 split
 ·exact⟨⟨rfl,h.sz_,h.tz,h.st⟩,rfl⟩
 split
 ·unfold DT;rw[h.heap,k.cz];split
  ·exact⟨h,rfl⟩
  exact⟨⟨rfl,h.sz_,h.tz,h.st⟩,rfl⟩
 split
 ·rename_i i;unfold Dv;simp only[];rw[h.heap];obtain⟨l1,l2⟩:=k.look m.st m'.st (f.site at' x) (Ch m.heap (CL (f.stack.take (Dq f.stack x.a)) 0)) x.name h.st (n i);generalize E.look m.st (f.site at' x) (Ch m.heap (CL (f.stack.take (Dq f.stack x.a)) 0)) x.name=l at l1 l2 ⊢;generalize E'.look m'.st (f.site at' x) (Ch m.heap (CL (f.stack.take (Dq f.stack x.a)) 0)) x.name=l' at l1 l2 ⊢;obtain⟨q1,q2⟩:=l;obtain⟨e,b⟩:=l';simp only[] at l1 l2;subst l1;have j:=o { m with st:=q1 } { m' with st:=e } b.1 b.2 (CL (f.stack.take (Dq f.stack x.a)) 0) (f.stack.drop (Dq f.stack x.a)) ⟨h.heap,h.sz_,h.tz,l2⟩;simp only[h.heap] at j;generalize ent { m with st:=q1 } b.1 b.2 (CL (f.stack.take (Dq f.stack x.a)) 0) (f.stack.drop (Dq f.stack x.a))=r at j ⊢;generalize ent' { heap:=m.heap,sz_:=m'.sz_,tz:=m'.tz,st:=e } b.1 b.2 (CL (f.stack.take (Dq f.stack x.a)) 0) (f.stack.drop (Dq f.stack x.a))=r' at j ⊢;obtain⟨r1,r2⟩:=j;rw[r2];split
  ·exact⟨r1,rfl⟩
  exact⟨r1,rfl⟩
 split
 ·exact xlS h f at' x.a
 split
 ·unfold Dt;split
  ·exact⟨h,rfl⟩
  split
  ·exact xlS h f.pop at' x.a
  exact⟨h,rfl⟩
 unfold DB;rw[h.heap];split
 ·exact⟨h,rfl⟩
 split
 ·exact⟨h,rfl⟩
 split
 ·exact⟨h,rfl⟩
 split
 ·exact⟨⟨rfl,h.sz_,h.tz,h.st⟩,rfl⟩
 split
 ·obtain⟨c1,c2⟩:=xjq k d h;refine⟨c1,?_⟩;simp only[];rw[c2]
 exact⟨h,rfl⟩
theorem xoX {c:QS->ByteArray->Prop}(m:Mc σ){f:Fr}(h:FR c f)(a b:Int):FR c (Cr m f a b).2.1:=by
 unfold Cr;simp only[];generalize (if b<=a then { m with tz:=m.tz+1 } else m:Mc σ)=m';split
 ·exact h
 exact h.same rfl rfl rfl rfl
theorem xqM {b:QS->ByteArray->Prop}(ent:CC σ)(E:Env σ)(d:Nat)(m:Mc σ){f:Fr}(h:FR b f)(a:Int)(x:QI):FR b (BD ent E d m f a x).2.1:=by
 unfold BD;split
 ·exact h.same rfl rfl rfl rfl
 split
 ·exact h.same rfl rfl rfl rfl
 split
 ·exact h.same rfl rfl rfl rfl
 split
 ·exact h.same rfl rfl rfl rfl
 split
 ·exact h.same rfl rfl rfl rfl
 split
 ·unfold DT;split
  ·exact h
  exact h.same rfl rfl rfl rfl
 split
 ·unfold Dv;simp only[];split
  ·exact h
  exact h.same rfl rfl rfl rfl
 split
 ·exact xoX m h a x.a
 split
 ·unfold Dt;split
  ·exact h.same rfl rfl rfl rfl
  split
  ·exact xoX m (f:=f.pop) (h.same rfl rfl rfl rfl) a x.a
  exact h
 unfold DB;split
 ·exact h
 split
 ·simp only[];split
  ·exact h
  exact h.leave x.c
 split
 ·exact h.same rfl rfl rfl rfl
 split
 ·exact h.same rfl rfl rfl rfl
 split
 ·exact h
 exact h
theorem FR.site {a:QS->ByteArray->Prop}{f:Fr}(h:FR a f){x:QI}(e:¬ f.pc<0)(c:f.code[f.pc.toNat]?=some x)(b:x.op=14)(t:Int):a (Fr.site { f with pc:=t } f.pc x) x.name:=by
 unfold Fr.site
 cases d:f.fast with
 | false=>
  simp only[Bool.false_eq_true,if_false];rw[h.code d] at c;have:=h.plain _ x c b
  rwa [show ((f.pc.toNat:Nat):Int)=f.pc by omega] at this
 | true=>
  simp only[if_true];exact h.fast d x (List.mem_of_getElem? c) b
theorem xod {a:σ->τ->Prop}{b:QS->ByteArray->Prop}{E:Env σ}{E':Env τ}(l:ER a b E E'){ent:CC σ}{ent':CC τ}(k:xsx a ent ent')(d:Nat):∀(g:Nat) {m:Mc σ} {m':Mc τ} {f:Fr},MR a m m'->FR b f->RR a (CX ent E d g m f) (CX ent' E' d g m' f)
 | 0,m,m',f,h,hf=>⟨h,rfl⟩
 | g+1,m,m',f,h,hf=>by
  unfold CX
  cases e:(if f.pc<0 then none else f.code[f.pc.toNat]?) with
  | none=>exact⟨h,rfl⟩
  | some x=>
   simp only[];split
   ·exact⟨h,rfl⟩
   have n:x.op=14->b (Fr.site { f with pc:=f.pc+1 } f.pc x) x.name:=λi=>by
    split at e
    ·cases e
    rename_i o;exact hf.site o e i _
   have j:=xp4 l k d h (f:={ f with pc:=f.pc+1 }) (at':=f.pc) n;have c:=xqM ent E d m (f:={ f with pc:=f.pc+1 }) (hf.same rfl rfl rfl rfl) f.pc x;generalize BD ent E d m { f with pc:=f.pc+1 } f.pc x=r at j c ⊢;generalize BD ent' E' d m' { f with pc:=f.pc+1 } f.pc x=r' at j ⊢;obtain⟨r1,r2⟩:=j;rw[r2];split
   ·exact⟨r1,rfl⟩
   exact xod l k d g r1 c
theorem xj4 {e:σ->τ->Prop}{i:QS->ByteArray->Prop}{E:Env σ}{E':Env τ}(j:ER e i E E')(d:Nat){g:Mc σ->Fr->Mc σ × QV × Int}{b:Mc τ->Fr->Mc τ × QV × Int}(r:∀ {m m' f},MR e m m'->FR i f->RR e (g m f) (b m' f)):xsx e (El E d g) (El E' d b):=by
 intro m m' c n s a h;unfold El;rw[j.cz,j.fuel,h.sz_]
 cases l:Cp E.cz c n with
 | none=>exact⟨h,rfl⟩
 | some mt=>
  simp only[];have k:CW E' c n mt s a=CW E c n mt s a:=by unfold CW;rw[j.quick]
  have o:FR i (CW E c n mt s a):=by
   unfold CW
   cases p:E.quick c n with
   | none=>exact⟨λ_=>rfl,j.plain c n mt l,λh=>by cases h⟩
   | some q=>exact⟨λh=>(by cases h),j.plain c n mt l,λ_=>j.fast c n mt q l p⟩
  split
  ·exact⟨h,rfl⟩
  split
  ·split
   ·exact⟨h,rfl⟩
   exact⟨⟨h.heap,rfl,h.tz,h.st⟩,rfl⟩
  obtain⟨c1,c2⟩:=xjq j d h;rw[c2,k];split
  ·exact⟨h,rfl⟩
  exact r c1 o
theorem xk9 {a:σ->τ->Prop}{b:QS->ByteArray->Prop}{E:Env σ}{E':Env τ}(c:ER a b E E'):∀d:Nat,xsx a (BL E d) (BL E' d)
 | 0=>xj4 c 0 λh _=>⟨h,rfl⟩
 | d+1=>xj4 c (d+1) λh e=>xod c (xk9 c d) d _ h e
end
section
variable {σ:Type}
def xpg (F:Int)(ent:CC σ):Prop:=∀m c n s a,m.sz_<=F->(ent m c n s a).1.sz_<=F/\0<=(ent m c n s a).1.sz_-m.sz_
theorem xln (E:Env σ)(d:Nat){m:Mc σ}(h:m.sz_<=E.fuel):(BY E d m).1.sz_<=E.fuel/\0<=(BY E d m).1.sz_-m.sz_:=by
 unfold BY;split
 ·simp only[];omega
 split
 ·simp only[];omega
 simp only[];omega
theorem xnh {E:Env σ}{ent:CC σ}(c:xpg E.fuel ent)(d:Nat){m:Mc σ}(h:m.sz_<=E.fuel)(f:Fr)(a:Int)(x:QI):(BD ent E d m f a x).1.sz_<=E.fuel/\0<=(BD ent E d m f a x).1.sz_-m.sz_:=by
 have self:m.sz_<=E.fuel/\0<=m.sz_-m.sz_:=⟨h,by omega⟩
 have ED:∀f a b,(Cr m f a b).1.sz_<=E.fuel/\0<=(Cr m f a b).1.sz_-m.sz_:=λf a b=>by rw[xfw];exact self
 unfold BD;split
 ·exact self
 split
 ·exact self
 split
 ·exact self
 split
 ·exact self
 split
 ·exact self
 split
 ·rw[xhQ];exact self
 split
 ·unfold Dv;simp only[];split
  ·exact c { m with st:=_ } _ _ _ _ h
  exact c { m with st:=_ } _ _ _ _ h
 split
 ·exact ED _ _ _
 split
 ·rw[xie];exact self
 unfold DB;split
 ·exact self
 split
 ·exact self
 split
 ·exact self
 split
 ·exact self
 split
 ·exact xln E d h
 exact self
theorem xqo {E:Env σ}{ent:CC σ}(b:xpg E.fuel ent)(d:Nat):∀(g:Nat) {m:Mc σ} (f:Fr),m.sz_<=E.fuel->(CX ent E d g m f).1.sz_<=E.fuel/\0<=(CX ent E d g m f).1.sz_-m.sz_
 | 0,m,f,h=>⟨h,by show 0<=m.sz_-m.sz_;omega⟩
 | g+1,m,f,h=>by
  have self:m.sz_<=E.fuel/\0<=m.sz_-m.sz_:=⟨h,by omega⟩
  unfold CX;generalize (if f.pc<0 then none else f.code[f.pc.toNat]?)=q
  cases q with
  | none=>exact self
  | some x=>
   simp only[];split
   ·exact self
   have a:=xnh b d h { f with pc:=f.pc+1 } f.pc x;split
   ·exact a
   have c:=xqo b d g (BD ent E d m { f with pc:=f.pc+1 } f.pc x).2.1 a.1;exact⟨c.1,by omega⟩
theorem xlA {E:Env σ}(d:Nat){b:Mc σ->Fr->Mc σ × QV × Int}(i:∀ {m} f,m.sz_<=E.fuel->(b m f).1.sz_<=E.fuel/\0<=(b m f).1.sz_-m.sz_):xpg E.fuel (El E d b):=by
 intro m c n s a h;have self:m.sz_<=E.fuel/\0<=m.sz_-m.sz_:=⟨h,by omega⟩
 unfold El
 cases Cp E.cz c n with
 | none=>exact self
 | some mt=>
  simp only[];split
  ·exact self
  split
  ·split
   ·exact self
   simp only[];omega
  split
  ·exact self
  have e:=xln E d h;have g:=i (CW E c n mt s a) e.1;exact⟨g.1,by omega⟩
theorem xl7 (E:Env σ):∀d:Nat,xpg E.fuel (BL E d)
 | 0=>xlA 0 λf h=>⟨h,by simp only[];omega⟩
 | d+1=>xlA (d+1) λf h=>xqo (xl7 E d) d _ f h
end
def EY (X:QW)(s:QV)(name:ByteArray)(args:List QV)(fuel:Int):Int:=
 if DC name=false then 7 else if 4<args.length then 5 else if fuel<0\/400<fuel then 3 else if Cn X.heap.length s≠0 then Cn X.heap.length s else CP (λ_ v=>Cn X.heap.length v) 0 args
def Ht (X:QW)(fuel:Int):Env Unit:=⟨X.cz,fuel,λ_ _ c name=>((),BF X.cz c name),NX⟩
def Lj (X:QW)(s:QV)(name:ByteArray)(args:List QV)(fuel:Int):Mc Unit × QV × Int:=
 BL (Ht X fuel) 20 ⟨X.heap,0,0,()⟩ (BF X.cz (Ch X.heap s) name).1 (BF X.cz (Ch X.heap s) name).2 s args
structure Ran where
 heap:List QO
 v:QV
 err:Int
 sz_:Int
def Dz (X:QW)(s:QV)(name:ByteArray)(args:List QV)(fuel:Int):Ran:=
 if EY X s name args fuel≠0 then ⟨X.heap,BC,EY X s name args fuel,0⟩
 else if (Lj X s name args fuel).2.2≠0 then ⟨X.heap,BC,(Lj X s name args fuel).2.2,(Lj X s name args fuel).1.sz_⟩
 else ⟨(Lj X s name args fuel).1.heap,(Lj X s name args fuel).2.1,0,(Lj X s name args fuel).1.sz_⟩
theorem xd1 {X:QW}{s:QV}{name:ByteArray}{args:List QV}{fuel:Int}(h:EY X s name args fuel=0):(0<=fuel/\fuel<=400)/\Cn X.heap.length s=0/\VsOk X.heap.length args:=by
 unfold EY at h;split at h
 ·cases h
 split at h
 ·cases h
 split at h
 ·cases h
 split at h
 ·rename_i k;exact absurd h k
 rename_i k1 k2 k3 k4;refine⟨by omega,Decidable.of_not_not k4,λv hv=>?_⟩;obtain⟨i,a,rfl⟩:=List.mem_iff_getElem.1 hv;exact Hm h i _ (List.getElem?_eq_getElem a)
theorem xkM {X:QW}{s:QV}{name:ByteArray}{a:List QV}{fuel:Int}(h:(Dz X s name a fuel).err≠0):(Dz X s name a fuel).heap=X.heap/\(Dz X s name a fuel).v=BC/\0<=(Dz X s name a fuel).sz_/\(Dz X s name a fuel).sz_<=400:=by
 unfold Dz at h ⊢;split
 ·exact⟨rfl,rfl,by simp,by simp⟩
 rename_i c;have b:=xd1 (Decidable.of_not_not c);rw[if_neg c] at h;have e:=xl7 (Ht X fuel) 20 ⟨X.heap,0,0,()⟩ (BF X.cz (Ch X.heap s) name).1 (BF X.cz (Ch X.heap s) name).2 s a b.1.1;have d:(Ht X fuel).fuel=fuel:=rfl;split
 ·refine⟨rfl,rfl,?_,?_⟩
  ·simp only[Lj];simp only[] at e;omega
  simp only[Lj];omega
 rename_i k;rw[if_neg k] at h;exact absurd rfl h
theorem xgU {X:QW}(h:BM X=0)(s:QV)(name:ByteArray)(a:List QV)(fuel:Int):BM ⟨X.cz,(Dz X s name a fuel).heap,X.ez⟩=0/\X.heap.length<=(Dz X s name a fuel).heap.length/\Cn (Dz X s name a fuel).heap.length (Dz X s name a fuel).v=0:=by
 unfold Dz;split
 ·exact⟨h,Bq _,FL _⟩
 rename_i c;have b:=xd1 (Decidable.of_not_not c);split
 ·exact⟨h,Bq _,FL _⟩
 exact xnT h (xiV h fuel _) rfl 20 rfl _ _ b.2.1 b.2.2
theorem xkI {P:Nat->Prop}(xs:List QC)(cv:Value)(s:Int)(k:Nat)(x:QC)(bs bw:Nat)(w:qW)(f:bs≠bw)(l:w.heap[bs]?=some (qC #[J s] 3 (0,0)))(z:w.cell? (O bw 0)=some cv)(p:BK P w cv xs)(m:xs[k]?=some x) :
  Calls Tryz.prog 107 #[J k,qP bs,qP bw] w λe w''=>e=.returned (.bool true)/\w''.heap[bs]?=some (qC #[J (Kt s k x).1] 3 (0,0))/\Keeps (λb=>b≠bs) w w''/\Below bs w w'':=by
 obtain⟨ad,cap,rfl,v,c,g,a⟩:=id p;have y:=Bz m;obtain⟨b,o,rfl,-,i,j,d,-⟩:=a k x m;have t:(0:Int)<=(k:Int):=by omega
 have q:(k:Int)<(xs.length:Int):=by omega
 have c1:=cell_of_one l;have f1:=free_of_one l;have n:Hid ((Kt s k x).1=IntKind.i64.wrap (s+x.slots)):=rfl;generalize (Kt s k x).1=u at *;have r:IntKind.i64.wrap (s+x.slots)=u:=n.out.symm;clear a p m;go_enter Tryz.func107,Tryz.ntmps107;go_wp2
 go_region
 all_goals go_wp2
 all_goals go_ret
 all_goals
  refine⟨rfl,?_,?_,?_⟩
  ·first | exact one_setCell (by first | exact l | simpa using l) | (rw[n.out];exact one_setCell (by first | exact l | simpa using l))
  ·exact Keeps.of_setCell (λh=>h rfl) _
  first | exact xiq _ _ _ _ | exact (xiq _ _ _ _).drew
theorem xfD {P:Nat->Prop}(X:QW)(c:Int)(cv hv:Value)(w:qW)(n:BK P w cv X.cz)(p:BP P w hv X.heap):Calls Tryz.prog 83 #[WV cv hv X.ez,J c] w λe w'=>e=.returned (J (Cs X.cz c))/\qY w w':=by
 have r:=Gm;obtain⟨ad,cap,rfl,q,a,d,-⟩:=id n;obtain⟨ah,ch,rfl,-,-,-,-⟩:=id p;go_enter Tryz.func83,Tryz.ntmps83;go_wp2_with fail;refine (xjI (P:=P) (M:=λb=>b=w.heap.size+1) Kt (SlRW (P:=P) w (qS ad X.cz.length cap) X.cz) _ _ X.cz c 0 _ _ _ _ (n.later Bw (BG _ _ _)) ⟨_,_,_,rfl⟩ ?_ ?_ ?_ ?_ ?_).mono ?_
 ·refine⟨BG _ _ _,n.later Bw (BG _ _ _),?_,?_⟩
  ·have:=BH (w.alloc (qA ad cap ah ch X)) (qC #[J 0] 3);simpa using this
  exact Bf (Bg _ _) (by rw[Bp _ _ _ _ rfl];rfl)
 ·rintro b rfl;simp
 ·exact λj s w' h=>h.2.1
 ·rintro j s w' w'' ⟨f,m,i,l⟩ g;exact⟨Bh f g,m.later Bw g,by rw[g.block _ (By i)];exact i,Bf g l⟩
 ·rintro j s k x w' t ⟨f,m,i,l⟩ o;refine (xkI X.cz _ s k x (w.heap.size+1) w.heap.size w' (by omega) i l m o).mono ?_;rintro e w'' ⟨rfl,k1,k2,k3⟩;refine⟨rfl,⟨f.trans (k3.mono (by omega)),?_,k1,k2 _ _ _ (by show _≠_;omega) l⟩,k2.mono λb g=>g,k3.size⟩;exact n.later Bw (f.trans (k3.mono (by omega)))
 rintro e w1 ⟨rfl,j,f,m,i,l⟩;have c1:=cell_of_one i;go_wp2;go_ret;exact⟨rfl,f⟩
theorem xoz (k n h:Int)(w:qW):Calls Tryz.prog 189 #[.agg #[J k,J n],J h] w λe w'=>e=.returned (J (HG k n h))/\qY w w':=by
 go_enter Tryz.func189,Tryz.ntmps189;go_wp2
 all_goals
  go_ret;refine⟨BT ?_,(Br _ _).alloc (Bq _) _⟩
  go_light
  try simp only[beq_iff_eq,bne_iff_ne,ne_eq,beq_eq_false_iff_ne,bne_eq_false_iff_eq] at *
  unfold HG
  (repeat' split)<;>omega
theorem xin (v:QV)(h:Int)(w:qW):Calls Tryz.prog 189 #[VV v,J h] w λe w'=>e=.returned (J (Cn h v))/\qY w w':=xoz v.k v.n h w
def KN (n:Nat)(v:QV):Bool:=decide (v.k=4/\0<=v.n/\v.n<n)
theorem xlt (a:Option Addr)(n c:Nat)(v:QV)(w:qW):Calls Tryz.prog 227 #[qS a n c,VV v] w λe w'=>e=.returned (.bool (KN n v))/\qY w w':=by
 go_enter Tryz.func227,Tryz.ntmps227;go_wp2
 all_goals
  go_ret;refine⟨Cq ?_,Bg _ _⟩
  go_light
  try simp only[beq_iff_eq,bne_iff_ne,ne_eq,beq_eq_false_iff_ne,bne_eq_false_iff_eq] at *
  unfold KN;simp[*]
  try omega
theorem xle {h:List QO}{v:QV}(a:KN h.length v=true):∃(j:Nat) (o:QO),v.n=(j:Int)/\j<h.length/\h[j]?=some o/\KF h v=some o:=by
 unfold KN at a;simp only[decide_eq_true_eq] at a;obtain⟨c,d,e⟩:=a;have b:v.n.toNat<h.length:=by omega
 exact⟨v.n.toNat,h[v.n.toNat],by omega,b,by simp[b],by unfold KF;rw[if_pos ⟨c,d⟩];simp[b]⟩
theorem xiw {h:List QO}{v:QV}(a:KN h.length v=false):KF h v=none:=by
 unfold KN at a;simp only[decide_eq_false_iff_not] at a;unfold KF;split
 ·rename_i k;exact List.getElem?_eq_none (by omega)
 rfl
theorem xfF {P:Nat->Prop}(p:List QO)(hv:Value)(v:QV)(w:qW)(h:BP P w hv p):Calls Tryz.prog 190 #[hv,VV v] w λe w'=>e=.returned (J (Ch p v))/\qY w w':=by
 have m:=Bg w (qH v);have C:=h.later BB m;have b0:(w.alloc (qH v)).cell? (O w.heap.size 0)=some (J v.k):=Bp _ _ _ _ rfl 0;have b1:(w.alloc (qH v)).cell? (O w.heap.size 1)=some (J v.n):=Bp _ _ _ _ rfl 1;obtain⟨a,cap,rfl,-,g,-,-⟩:=id h;unfold maxLen at g;clear h;go_enter Tryz.func190,Tryz.ntmps190;go_upto_region 1 with (fail);generalize (w.alloc (qH v))=W at *;by_cases h0:v.k=0
 ·have q:Hid (Ch p v=1):=by show _=_;unfold Ch;rw[if_pos h0]
  have t:(v.k == 0)=true:=by simpa using h0
  go_wp2;go_ret;exact⟨BT q.out.symm,m⟩
 have t:(v.k == 0)=false:=by simpa using h0
 by_cases h12:v.k=1
 ·have q:Hid (Ch p v=2):=by show _=_;unfold Ch;rw[if_neg h0,if_pos (Or.inl h12)]
  have r:(v.k == 1)=true:=by simpa using h12
  go_wp2;go_ret;exact⟨BT q.out.symm,m⟩
 have r:(v.k == 1)=false:=by simpa using h12
 by_cases h22:v.k=2
 ·have q:Hid (Ch p v=2):=by show _=_;unfold Ch;rw[if_neg h0,if_pos (Or.inr h22)]
  have s:(v.k == 2)=true:=by simpa using h22
  go_wp2;go_ret;exact⟨BT q.out.symm,m⟩
 have s:(v.k == 2)=false:=by simpa using h22
 by_cases h3:v.k=3
 ·have q:Hid (Ch p v=3):=by show _=_;unfold Ch;rw[if_neg h0,if_neg (by omega),if_pos h3]
  have u:(v.k == 3)=true:=by simpa using h3
  go_wp2;go_ret;exact⟨BT q.out.symm,m⟩
 have u:(v.k == 3)=false:=by simpa using h3
 have q:Hid (Ch p v=((KF p v).map QO.cls).getD 0):=by show _=_;unfold Ch;rw[if_neg h0,if_neg (by omega),if_neg h3]
 clear h0 h12 h22 h3;go_wp2_with fail;refine (xlt a p.length cap v _).mono ?_;rintro e w1 ⟨rfl,c⟩;have c1:=Bf c b1;have G:=C.later BB c
 cases B:KN p.length v with
 | false=>
  have y:=hid (xiw B);go_wp2;go_ret;exact⟨BT (by rw[q.out,y.out];rfl),Bh m c⟩
 | true=>
  obtain⟨j,o,z,l,i,f⟩:=xle B;have y:=hid f;rw[z] at c1;obtain⟨a',cap',e,-,-,-,d⟩:=G
  cases e;obtain⟨b,of,rfl,-,e0,-⟩:=d j o i;simp only[Nat.add_zero] at e0;have D:(j:Int)<(p.length:Int):=by omega
  have F:(0:Int)<=(j:Int):=by omega
  clear z i f d;go_wp2;go_ret;exact⟨BT (by rw[q.out,y.out];rfl),Bh m c⟩
theorem xj2 {P:Nat->Prop}(u:List QO)(hv:Value)(v:QV)(n:Int)(w:qW)(h:BP P w hv u):Calls Tryz.prog 280 #[hv,VV v,J n] w λe w'=>e=.returned (VV (Gt u v n))/\qY w w':=by
 have s:=BG w (qH v) (qQ);have G:=h.later BB s;have b0:((w.alloc (qH v)).alloc (qQ)).cell? (O w.heap.size 0)=some (J v.k):=Bf (Bg _ _) (Bp _ _ _ _ rfl 0);have b1:((w.alloc (qH v)).alloc (qQ)).cell? (O w.heap.size 1)=some (J v.n):=Bf (Bg _ _) (Bp _ _ _ _ rfl 1);have r0:((w.alloc (qH v)).alloc (qQ)).cell? (O (w.heap.size+1) 0)=some (J 0):=Bp _ _ _ _ (by simp) 0;have r1:((w.alloc (qH v)).alloc (qQ)).cell? (O (w.heap.size+1) 1)=some (J 0):=Bp _ _ _ _ (by simp) 1;have rf:∀o,((w.alloc (qH v)).alloc (qQ)).frozen? (O (w.heap.size+1) o)=false:=λo=>BN (cur:=#[J 0,J 0]) (t:=41) (by have:=BH (w.alloc (qH v)) (qQ);simpa using this) o;have H:((w.alloc (qH v)).alloc (qQ)).heap.size=w.heap.size+2:=by simp
 obtain⟨a,cap,rfl,-,l,-,-⟩:=id h;unfold maxLen at l;clear h;go_enter Tryz.func280,Tryz.ntmps280;go_upto_region 1 with (fail);generalize ((w.alloc (qH v)).alloc (qQ))=W at *;go_wp2_with fail;refine (xlt a u.length cap v _).mono ?_;rintro e w1 ⟨rfl,c⟩;have c1:=Bf c b1;have Q:=G.later BB c;have s0:=Bf c r0;have s1:=Bf c r1;have sf:∀o,w1.frozen? (O (w.heap.size+1) o)=false:=λo=>(c.frozen (p:=(O (w.heap.size+1) o)) (by simp only[H];omega)).trans (rf o);have B:=hid (Bh s c);clear H b0 b1 r0 r1 rf s c G
 cases F:KN u.length v with
 | false=>
  have z:=hid (xiw F);go_wp2;refine Bt (v:=VV BC) ?_ rfl ⟨by unfold Gt;rw[z.out];rfl,(B.out.setCell (by simp) _).setCell (by simp) _⟩;simp[results,Tryz.results280,go_sem,s0,s1]
 | true=>
  obtain⟨j,o,K,r,m,i⟩:=xle F;have z:Hid (Gt u v n=CR o.slots n):=by show _=_;unfold Gt;rw[i];rfl
  rw[K] at c1;obtain⟨a',cap',e,-,-,-,d⟩:=Q
  cases e;obtain⟨b,of,rfl,-,e0,sv,e1,q⟩:=d j o m;obtain⟨a2,c2,rfl,-,g,-,f⟩:=q;unfold maxLen at g;have M:(j:Int)<(u.length:Int):=by omega
  have N:(0:Int)<=(j:Int):=by omega
  clear K m i d F;by_cases hn:n<0
  ·have y:Hid (CR o.slots n=BC):=by show _=_;unfold CR;rw[if_pos hn]
   have C:decide (n<0)=true:=by simpa using hn
   go_wp2;refine Bt (v:=VV BC) ?_ rfl ⟨by rw[z.out,y.out],(B.out.setCell (by simp) _).setCell (by simp) _⟩;simp[results,Tryz.results280,go_sem,s0,s1]
  have C:decide (n<0)=false:=by simpa using hn
  obtain⟨k,rfl⟩:∃k:Nat,n=k:=⟨n.toNat,by omega⟩
  by_cases hk:k<o.slots.length
  ·have R:o.slots[k]?=some o.slots[k]:=by simp[hk]
   have y:Hid (CR o.slots k=o.slots[k]):=by show _=_;unfold CR;rw[if_neg hn];simp[hk]
   generalize o.slots[k]=x at *;obtain⟨b3,o3,rfl,-,x0,x1⟩:=f k x R;simp only[Nat.add_zero] at x0;have L:(k:Int)<(o.slots.length:Int):=by omega
   have D:¬ ((o.slots.length:Int)<=(k:Int)):=by omega
   go_wp2;refine Bt (v:=VV x) ?_ rfl ⟨by rw[z.out,y.out],(B.out.setCell (by simp) _).setCell (by simp) _⟩;simp[results,Tryz.results280,go_sem,s0,s1]
  have y:Hid (CR o.slots k=BC):=by show _=_;unfold CR;rw[if_neg hn];simp[hk]
  have D:((o.slots.length:Int)<=(k:Int)):=by omega
  go_wp2;refine Bt (v:=VV BC) ?_ rfl ⟨by rw[z.out,y.out],(B.out.setCell (by simp) _).setCell (by simp) _⟩;simp[results,Tryz.results280,go_sem,s0,s1]
theorem NZ (b:Bool)(w:qW):Calls Tryz.prog 269 #[.bool b] w λe w'=>e=.returned (VV ⟨if b then 2 else 1,0⟩)/\qY w w':=by
 cases b
 ·go_enter Tryz.func269,Tryz.ntmps269;go_wp2;refine Bt (v:=VV ⟨1,0⟩) ?_ rfl ⟨rfl,Bg _ _⟩;simp[results,Tryz.results269,go_sem]
 go_enter Tryz.func269,Tryz.ntmps269;go_wp2;refine Bt (v:=VV ⟨2,0⟩) ?_ rfl ⟨rfl,Bg _ _⟩;simp[results,Tryz.results269,go_sem]
theorem xeE (n:Int)(w:qW)(h:-2000000000000000000<=n/\n<=2000000000000000000):Calls Tryz.prog 268 #[J n] w λe w'=>e=.returned (VV ⟨3,n.tmod 1073741825⟩)/\qY w w':=by
 go_enter Tryz.func268,Tryz.ntmps268;go_wp2;refine Bt (v:=VV ⟨3,n.tmod 1073741825⟩) ?_ rfl ⟨rfl,Bg _ _⟩;simp[results,Tryz.results268,go_sem]
theorem xrS {a b:Int}(e:-1073741824<=a/\a<=1073741824)(f:-1073741824<=b/\b<=1073741824):-2000000000000000000<=a*b/\a*b<=2000000000000000000:=by
 have c:a.natAbs<=1073741824:=by omega
 have d:b.natAbs<=1073741824:=by omega
 have g:(a*b).natAbs<=1073741824*1073741824:=by rw[Int.natAbs_mul];exact Nat.mul_le_mul c d
 omega
structure PmR (w:qW)(a b:QV)(w':qW):Prop where
 bel:qY w w'
 a0:w'.cell? (O w.heap.size 0)=some (J a.k)
 a1:w'.cell? (O w.heap.size 1)=some (J a.n)
 b0:w'.cell? (O (w.heap.size+1) 0)=some (J b.k)
 b1:w'.cell? (O (w.heap.size+1) 1)=some (J b.n)
 r0:w'.cell? (O (w.heap.size+2) 0)=some (J 0)
 r1:w'.cell? (O (w.heap.size+2) 1)=some (J 0)
 rf:∀o,w'.frozen? (O (w.heap.size+2) o)=false
 sz:w.heap.size+3<=w'.heap.size
theorem PmR.later {w:qW}{a b:QV}{w' w'':qW}(h:PmR w a b w')(c:qY w' w''):PmR w a b w'':=
 ⟨Bh h.bel c,Bf c h.a0,Bf c h.a1,Bf c h.b0,Bf c h.b1,Bf c h.r0,Bf c h.r1,λo=>(c.frozen (p:=(O (w.heap.size+2) o)) (by have:=h.sz;simp only;omega)).trans (h.rf o),BX h.sz c.size⟩
theorem xq1 (w:qW)(a b:QV):PmR w a b (((w.alloc (qH a)).alloc (qH b)).alloc (qQ)):=by
 refine⟨DW _ _ _ _,Bf (BG _ _ _) (Bp _ _ _ _ rfl 0),Bf (BG _ _ _) (Bp _ _ _ _ rfl 1),Bf (Bg _ _) (Bp _ _ _ _ (by simp) 0),Bf (Bg _ _) (Bp _ _ _ _ (by simp) 1),Bp _ _ _ _ (by simp) 0,Bp _ _ _ _ (by simp) 1,λo=>BN (cur:=#[J 0,J 0]) (t:=41) ?_ o,by simp⟩;have:=BH ((w.alloc (qH a)).alloc (qH b)) (qQ);simpa using this
theorem xpu (p:Int)(a b:QV)(w:qW)(o:a.k=3->-1073741824<=a.n/\a.n<=1073741824)(m:b.k=3->-1073741824<=b.n/\b.n<=1073741824):Calls Tryz.prog 254 #[J p,VV a,VV b] w λe w'=>e=.returned (.tuple #[VV (Fv p a b).1,J (Fv p a b).2])/\qY w w':=by
 have f:=xq1 w a b;go_enter Tryz.func254,Tryz.ntmps254;go_upto_region 1 with (fail);generalize (((w.alloc (qH a)).alloc (qH b)).alloc (qQ))=W at *;obtain⟨-,a0,a1,b0,b1,r0,r1,rf,sz⟩:=id f;simp only[Nat.add_assoc,Nat.reduceAdd] at *;by_cases j:a.k=3/\b.k=3
 ·have l:=And.intro (o j.1) (m j.2);have ak:(a.k == 3)=true:=by simpa using j.1
  have bk:(b.k == 3)=true:=by simpa using j.2
  have ak':(a.k != 3)=false:=by simpa using j.1
  have bk':(b.k != 3)=false:=by simpa using j.2
  have g:Fv p a b=if p=1 then (⟨3,(a.n+b.n).tmod 1073741825⟩,0) else if p=2 then (⟨3,(a.n-b.n).tmod 1073741825⟩,0) else if p=3 then (⟨3,(a.n*b.n).tmod 1073741825⟩,0) else if p=4 then (⟨if a.n<b.n then 2 else 1,0⟩,0) else if p=5 then (⟨if a.n=b.n then 2 else 1,0⟩,0) else (BC,1):=by unfold Fv;rw[if_neg (by omega)]
  have wadd:IntKind.i64.wrap (a.n+b.n)=a.n+b.n:=CM (by omega) (by omega);have wsub:IntKind.i64.wrap (a.n-b.n)=a.n-b.n:=CM (by omega) (by omega);have B:=xrS l.1 l.2;have wmul:IntKind.i64.wrap (a.n*b.n)=a.n*b.n:=CM (by omega) (by omega);have C:=hid l;have D:=hid B;clear l B o m j;by_cases hp1:p=1
  ·have i:Hid (Fv p a b=(⟨3,(a.n+b.n).tmod 1073741825⟩,0)):=by show _=_;rw[g];rw[if_pos hp1]
   have q:(p == 1)=true:=by simpa using hp1
   clear g;go_wp2_with fail;refine (xeE (a.n+b.n) _ (by have:=C.out;omega)).mono ?_;rintro e w1 ⟨rfl,c⟩;have d:=f.later c;clear a0 a1 b0 b1 r0 r1 rf f;obtain⟨-,a0,a1,b0,b1,r0,r1,rf,-⟩:=id d;go_wp2;refine Bt (v:=.tuple #[VV ⟨3,(a.n+b.n).tmod 1073741825⟩,J 0]) ?_ rfl ⟨by rw[i.out],(d.bel.setCell (by simp) _).setCell (by simp) _⟩;simp[results,Tryz.results254,go_sem,r0,r1]
  have q:(p == 1)=false:=by simpa using hp1
  by_cases hp2:p=2
  ·have i:Hid (Fv p a b=(⟨3,(a.n-b.n).tmod 1073741825⟩,0)):=by show _=_;rw[g];rw[if_neg hp1];rw[if_pos hp2]
   have y:(p == 2)=true:=by simpa using hp2
   clear g;go_wp2_with fail;refine (xeE (a.n-b.n) _ (by have:=C.out;omega)).mono ?_;rintro e w1 ⟨rfl,c⟩;have d:=f.later c;clear a0 a1 b0 b1 r0 r1 rf f;obtain⟨-,a0,a1,b0,b1,r0,r1,rf,-⟩:=id d;go_wp2;refine Bt (v:=.tuple #[VV ⟨3,(a.n-b.n).tmod 1073741825⟩,J 0]) ?_ rfl ⟨by rw[i.out],(d.bel.setCell (by simp) _).setCell (by simp) _⟩;simp[results,Tryz.results254,go_sem,r0,r1]
  have y:(p == 2)=false:=by simpa using hp2
  by_cases hp3:p=3
  ·have i:Hid (Fv p a b=(⟨3,(a.n*b.n).tmod 1073741825⟩,0)):=by show _=_;rw[g];rw[if_neg hp1];rw[if_neg hp2];rw[if_pos hp3]
   have t:(p == 3)=true:=by simpa using hp3
   clear g;go_wp2_with fail;refine (xeE (a.n*b.n) _ D.out).mono ?_;rintro e w1 ⟨rfl,c⟩;have d:=f.later c;clear a0 a1 b0 b1 r0 r1 rf f;obtain⟨-,a0,a1,b0,b1,r0,r1,rf,-⟩:=id d;go_wp2;refine Bt (v:=.tuple #[VV ⟨3,(a.n*b.n).tmod 1073741825⟩,J 0]) ?_ rfl ⟨by rw[i.out],(d.bel.setCell (by simp) _).setCell (by simp) _⟩;simp[results,Tryz.results254,go_sem,r0,r1]
  have t:(p == 3)=false:=by simpa using hp3
  by_cases hp4:p=4
  ·have u:(p == 4)=true:=by simpa using hp4
   by_cases hc:a.n<b.n
   ·have i:Hid (Fv p a b=(⟨2,0⟩,0)):=by show _=_;rw[g];rw[if_neg hp1];rw[if_neg hp2];rw[if_neg hp3];rw[if_pos hp4,if_pos hc]
    have s:decide (a.n<b.n)=true:=by simpa using hc
    clear g hp4 hc;go_wp2_with fail;refine (NZ true _).mono ?_;rintro e w1 ⟨rfl,c⟩;have d:=f.later c;clear a0 a1 b0 b1 r0 r1 rf f;obtain⟨-,a0,a1,b0,b1,r0,r1,rf,-⟩:=id d;go_wp2;refine Bt (v:=.tuple #[VV ⟨2,0⟩,J 0]) ?_ rfl ⟨by rw[i.out],(d.bel.setCell (by simp) _).setCell (by simp) _⟩;simp[results,Tryz.results254,go_sem,r0,r1]
   have i:Hid (Fv p a b=(⟨1,0⟩,0)):=by show _=_;rw[g];rw[if_neg hp1];rw[if_neg hp2];rw[if_neg hp3];rw[if_pos hp4,if_neg hc]
   have s:decide (a.n<b.n)=false:=by simpa using hc
   clear g hp4 hc;go_wp2_with fail;refine (NZ false _).mono ?_;rintro e w1 ⟨rfl,c⟩;have d:=f.later c;clear a0 a1 b0 b1 r0 r1 rf f;obtain⟨-,a0,a1,b0,b1,r0,r1,rf,-⟩:=id d;go_wp2;refine Bt (v:=.tuple #[VV ⟨1,0⟩,J 0]) ?_ rfl ⟨by rw[i.out],(d.bel.setCell (by simp) _).setCell (by simp) _⟩;simp[results,Tryz.results254,go_sem,r0,r1]
  have u:(p == 4)=false:=by simpa using hp4
  by_cases hp5:p=5
  ·have r:(p == 5)=true:=by simpa using hp5
   by_cases hc:a.n=b.n
   ·have i:Hid (Fv p a b=(⟨2,0⟩,0)):=by show _=_;rw[g];rw[if_neg hp1];rw[if_neg hp2];rw[if_neg hp3];rw[if_neg hp4];rw[if_pos hp5,if_pos hc]
    have s:(a.n == b.n)=true:=by simpa using hc
    clear g hp5 hc;go_wp2_with fail;refine (NZ true _).mono ?_;rintro e w1 ⟨rfl,c⟩;have d:=f.later c;clear a0 a1 b0 b1 r0 r1 rf f;obtain⟨-,a0,a1,b0,b1,r0,r1,rf,-⟩:=id d;go_wp2;refine Bt (v:=.tuple #[VV ⟨2,0⟩,J 0]) ?_ rfl ⟨by rw[i.out],(d.bel.setCell (by simp) _).setCell (by simp) _⟩;simp[results,Tryz.results254,go_sem,r0,r1]
   have i:Hid (Fv p a b=(⟨1,0⟩,0)):=by show _=_;rw[g];rw[if_neg hp1];rw[if_neg hp2];rw[if_neg hp3];rw[if_neg hp4];rw[if_pos hp5,if_neg hc]
   have s:(a.n == b.n)=false:=by simpa using hc
   clear g hp5 hc;go_wp2_with fail;refine (NZ false _).mono ?_;rintro e w1 ⟨rfl,c⟩;have d:=f.later c;clear a0 a1 b0 b1 r0 r1 rf f;obtain⟨-,a0,a1,b0,b1,r0,r1,rf,-⟩:=id d;go_wp2;refine Bt (v:=.tuple #[VV ⟨1,0⟩,J 0]) ?_ rfl ⟨by rw[i.out],(d.bel.setCell (by simp) _).setCell (by simp) _⟩;simp[results,Tryz.results254,go_sem,r0,r1]
  have r:(p == 5)=false:=by simpa using hp5
  have i:Hid (Fv p a b=(BC,1)):=by show _=_;rw[g];rw[if_neg hp1];rw[if_neg hp2];rw[if_neg hp3];rw[if_neg hp4];rw[if_neg hp5]
  clear g;go_wp2;refine Bt (v:=.tuple #[VV BC,J 1]) ?_ rfl ⟨by rw[i.out],(f.bel.setCell (by simp) _).setCell (by simp) _⟩;simp[results,Tryz.results254,go_sem,r0,r1]
 have z:Hid (Fv p a b=(BC,12)):=by show _=_;unfold Fv;rw[if_pos (by omega)]
 by_cases ak:a.k=3
 ·have ak':(a.k != 3)=false:=by simpa using ak
  have bk':(b.k != 3)=true:=by simpa using λh=>j ⟨ak,h⟩
  clear ak j o m;go_wp2;refine Bt (v:=.tuple #[VV BC,J 12]) ?_ rfl ⟨by rw[z.out],(f.bel.setCell (by simp) _).setCell (by simp) _⟩;simp[results,Tryz.results254,go_sem,r0,r1]
 have ak':(a.k != 3)=true:=by simpa using ak
 clear ak j o m;go_wp2;refine Bt (v:=.tuple #[VV BC,J 12]) ?_ rfl ⟨by rw[z.out],(f.bel.setCell (by simp) _).setCell (by simp) _⟩;simp[results,Tryz.results254,go_sem,r0,r1]
structure Mp (σ:Type) where
 E:Env σ
 cv:Value
 ep:Int
 lv:Value
 qv:Value
section
variable {σ:Type}
abbrev MB (p:Mp σ)(m:Mc σ)(calls:Int)(hv:Value):Obj:=qC #[p.cv,hv,J p.ep,J p.E.fuel,J m.sz_,J calls,J m.tz,p.lv,p.qv] 217 (0,0)
structure MacAt (p:Mp σ)(T:Nat->Nat)(w:qW)(mb:Nat)(m:Mc σ)(calls:Int)(hv:Value)(g:Nat)(s:Nat->Nat):Prop where
 box:w.heap[mb]?=some (MB p m calls hv)
 tag:T mb=1
 heap:HeapSt T w hv g s m.heap
 cls:BK (Fx T w) w p.cv p.E.cz
variable {p:Mp σ} {T T':Nat->Nat} {w w':World} {mb:Nat} {m m':Mc σ} {calls calls':Int} {hv:Value} {g:Nat} {s:Nat->Nat}
theorem MacAt.keep {S:Nat->Prop}(h:MacAt p T w mb m calls hv g s)(e:Ext T T' w)(k:Kp S T w w')(a:¬ S 0)(b:¬ S 1)(c:¬ S 2):MacAt p T' w' mb m calls hv g s:=
 ⟨k.held h.box (by rw[h.tag];exact b),by rw[e _ (By h.box)];exact h.tag,h.heap.keep e k c,h.cls.fx Bw e k a⟩
theorem MacAt.later (h:MacAt p T w mb m calls hv g s)(a:qY w w'):MacAt p T w' mb m calls hv g s:=h.keep (S:=λ_=>False) (.refl _ _) (.of_below a) id id id
theorem MacAt.turn (h:MacAt p T w mb m calls hv g s)(k:Kp (λt=>t=1) T w w')(a:w'.heap[mb]?=some (MB p m' calls' hv))(e:m'.heap=m.heap):MacAt p T w' mb m' calls' hv g s:=
 ⟨a,h.tag,by rw[e];exact h.heap.keep (.refl _ _) k (by omega),h.cls.fx Bw (.refl _ _) k (by omega)⟩
theorem MacAt.c0 (h:MacAt p T w mb m calls hv g s):w.cell? (O mb 0)=some p.cv:=by rw[Bn h.box];rfl
theorem MacAt.c1 (h:MacAt p T w mb m calls hv g s):w.cell? (O mb 1)=some hv:=by rw[Bn h.box];rfl
theorem MacAt.c2 (h:MacAt p T w mb m calls hv g s):w.cell? (O mb 2)=some (J p.ep):=by rw[Bn h.box];rfl
theorem MacAt.c3 (h:MacAt p T w mb m calls hv g s):w.cell? (O mb 3)=some (J p.E.fuel):=by rw[Bn h.box];rfl
theorem MacAt.c4 (h:MacAt p T w mb m calls hv g s):w.cell? (O mb 4)=some (J m.sz_):=by rw[Bn h.box];rfl
theorem MacAt.c5 (h:MacAt p T w mb m calls hv g s):w.cell? (O mb 5)=some (J calls):=by rw[Bn h.box];rfl
theorem MacAt.c6 (h:MacAt p T w mb m calls hv g s):w.cell? (O mb 6)=some (J m.tz):=by rw[Bn h.box];rfl
theorem MacAt.c7 (h:MacAt p T w mb m calls hv g s):w.cell? (O mb 7)=some p.lv:=by rw[Bn h.box];rfl
theorem MacAt.c8 (h:MacAt p T w mb m calls hv g s):w.cell? (O mb 8)=some p.qv:=by rw[Bn h.box];rfl
theorem xoC (h:w.heap[mb]?=some (MB p m calls hv))(n:Int):(w.setCell (O mb 4) (J n)).heap[mb]?=some (MB p { m with sz_:=n } calls hv):=by rw[BW h];rfl
theorem xoi (h:w.heap[mb]?=some (MB p m calls hv))(n:Int):(w.setCell (O mb 5) (J n)).heap[mb]?=some (MB p m n hv):=by rw[BW h];rfl
theorem xrC (h:w.heap[mb]?=some (MB p m calls hv))(n:Int):(w.setCell (O mb 6) (J n)).heap[mb]?=some (MB p { m with tz:=n } calls hv):=by rw[BW h];rfl
theorem xku (h:w.heap[mb]?=some (MB p m calls hv))(xs:List QO)(a:Value):(w.setCell (O mb 1) a).heap[mb]?=some (MB p { m with heap:=xs } calls a):=by rw[BW h];rfl
theorem xit (h:MacAt p T w mb m calls hv g s)(b:0<=m.sz_)(c:p.E.fuel<=9000000000000000000):Calls Tryz.prog 253 #[qP mb] w λe w'=>e=.returned (J (if p.E.fuel<=m.sz_ then 13 else 0))/\MacAt p T w' mb (if p.E.fuel<=m.sz_ then m else { m with sz_:=m.sz_+1 }) calls hv g s/\Kp (λt=>t=1) T w w':=by
 have c3:=h.c3;have c4:=h.c4;have cf:=BN h.box;have H:=hid h;clear h;by_cases hf:p.E.fuel<=m.sz_
 ·rw[if_pos hf,if_pos hf];have a:decide (p.E.fuel<=m.sz_)=true:=by simpa using hf
  go_enter Tryz.func253,Tryz.ntmps253;go_wp2
  go_region
  go_wp2;go_ret;exact⟨rfl,H.out.later (Br _ _).drew,(Kp.refl _ _ _).drew⟩
 rw[if_neg hf,if_neg hf];have a:decide (p.E.fuel<=m.sz_)=false:=by simpa using hf
 have d:IntKind.i64.wrap (m.sz_+1)=m.sz_+1:=CM (by omega) (by omega);go_enter Tryz.func253,Tryz.ntmps253;go_wp2
 go_region
 go_wp2;go_ret;have k:Kp (λt=>t=1) T w (w.setCell (O mb 4) (J (m.sz_+1))).drew:=((Kp.refl _ _ _).set (λ_=>H.out.tag) _ _).drew;exact⟨rfl,H.out.turn k (xoC H.out.box _) rfl,k⟩
theorem xe6 (d:Nat)(h:MacAt p T w mb m calls hv g s)(l:0<=m.sz_)(j:p.E.fuel<=9000000000000000000)(c:calls=20-(d:Int))(i:d<=20):Calls Tryz.prog 230 #[qP mb] w λe w'=>e=.returned (J (BY p.E d m).2)/\MacAt p T w' mb (BY p.E d m).1 calls hv g s/\Kp (λt=>t=1) T w w':=by
 have c3:=h.c3;have c4:=h.c4;have c5:=h.c5;have cf:=BN h.box;have H:=hid h;clear h;by_cases hf:p.E.fuel<=m.sz_
 ·have a:Hid (BY p.E d m=(m,13)):=by show _=_;unfold BY;rw[if_pos hf]
  have i:decide (p.E.fuel<=m.sz_)=true:=by simpa using hf
  go_enter Tryz.func230,Tryz.ntmps230;go_wp2
  go_region
  go_wp2;go_ret;rw[a.out];exact⟨rfl,H.out.later (Br _ _).drew,(Kp.refl _ _ _).drew⟩
 have f:decide (p.E.fuel<=m.sz_)=false:=by simpa using hf
 by_cases hz:d=0
 ·have a:Hid (BY p.E d m=(m,14)):=by show _=_;unfold BY;rw[if_neg hf,if_pos hz]
  have b:decide (20<=calls)=true:=by simp;omega
  clear c hz;go_enter Tryz.func230,Tryz.ntmps230;go_wp2
  go_region
  go_wp2;go_ret;rw[a.out];exact⟨rfl,H.out.later (Br _ _).drew,(Kp.refl _ _ _).drew⟩
 have a:Hid (BY p.E d m=({ m with sz_:=m.sz_+1 },0)):=by show _=_;unfold BY;rw[if_neg hf,if_neg hz]
 have b:decide (20<=calls)=false:=by simp;omega
 have n:IntKind.i64.wrap (m.sz_+1)=m.sz_+1:=CM (by omega) (by omega);clear c hz;go_enter Tryz.func230,Tryz.ntmps230;go_wp2
 go_region
 go_wp2;go_ret;rw[a.out];have k:Kp (λt=>t=1) T w (w.setCell (O mb 4) (J (m.sz_+1))).drew:=((Kp.refl _ _ _).set (λ_=>H.out.tag) _ _).drew;exact⟨rfl,H.out.turn k (xoC H.out.box _) rfl,k⟩
theorem xpt (h:MacAt p T w mb m calls hv g s)(c n:Int):Calls Tryz.prog 228 #[qP mb,J c,J n] w λe w'=>e=.returned (.bool (Cp p.E.cz c n).isSome)/\qY w w':=by
 have c0:=h.c0;obtain⟨a,cap,i,C,f,-,d⟩:=h.cls;rw[i] at c0;unfold maxLen at f;clear h;by_cases h0:c<0
 ·have q:Hid ((Cp p.E.cz c n).isSome=false):=by show _=_;unfold Cp Cy;rw[if_neg (by omega)];rfl
  have z:decide (0<=c)=false:=by simpa using h0
  go_enter Tryz.func228,Tryz.ntmps228;go_wp2;go_ret;exact⟨Cq q.out.symm,Br _ _⟩
 obtain⟨k,rfl⟩:∃k:Nat,c=k:=⟨c.toNat,by omega⟩
 have z:decide (0<=(k:Int))=true:=by simp
 by_cases hk:k<p.E.cz.length
 ·have t:(k:Int)<(p.E.cz.length:Int):=by omega
  have y:p.E.cz[k]?=some p.E.cz[k]:=by simp[hk]
  have v:Hid (Cp p.E.cz (k:Int) n=if 0<=n then p.E.cz[k].mz[n.toNat]? else none):=by show _=_;unfold Cp Cy;simp[hk]
  generalize p.E.cz[k]=x at *;by_cases hn:n<0
  ·have q:Hid ((Cp p.E.cz (k:Int) n).isSome=false):=by show _=_;rw[v.out,if_neg (by omega)];rfl
   have r:decide (0<=n)=false:=by simpa using hn
   go_enter Tryz.func228,Tryz.ntmps228;go_wp2;go_ret;exact⟨Cq q.out.symm,Br _ _⟩
  obtain⟨j,rfl⟩:∃j:Nat,n=j:=⟨n.toNat,by omega⟩
  have r:decide (0<=(j:Int))=true:=by simp
  obtain⟨b,o,rfl,-,e0,e1,e2,e3,mv,e4,B⟩:=d k x y;obtain⟨a2,l,rfl,-,-,-,-⟩:=B
  have q:Hid ((Cp p.E.cz (k:Int) (j:Int)).isSome=decide (j<x.mz.length)):=by
   show _=_;rw[v.out,if_pos (by omega)];by_cases hj:j<x.mz.length<;>simp[hj]
  clear d y v;by_cases hj:j<x.mz.length
  ·have u:(j:Int)<(x.mz.length:Int):=by omega
   go_enter Tryz.func228,Tryz.ntmps228;go_wp2;go_ret;exact⟨Cq (by rw[q.out];simp[hj]),Br _ _⟩
  have u:(x.mz.length:Int)<=(j:Int):=by omega
  go_enter Tryz.func228,Tryz.ntmps228;go_wp2;go_ret;exact⟨Cq (by rw[q.out];simp[hj]),Br _ _⟩
 have q:Hid ((Cp p.E.cz (k:Int) n).isSome=false):=by show _=_;unfold Cp Cy;simp[hk]
 have t:(p.E.cz.length:Int)<=(k:Int):=by omega
 go_enter Tryz.func228,Tryz.ntmps228;go_wp2;go_ret;exact⟨Cq q.out.symm,Br _ _⟩
end
end Go.Proofs.YtbafokihegegiaaGreatDoor
