import Derived.Test.YtbafokihegegiaaGreatDoorU10
import Derived.Lib.AtoiAll
import Derived.Lib.AtoiAllCases
import Derived.Lib.ItoaMem
import Derived.Laws.Strings
namespace Go.Proofs.YtbafokihegegiaaGreatDoor
open ChangeShapes WideShapes ChangeAt RowKit
set_option linter.unusedSimpArgs false
set_option linter.unusedVariables false
set_option maxHeartbeats 8000000
set_option maxRecDepth 8000
theorem Zk{α:Type}{a b:α}(h:a=b:=by kernel_rfl):some a=some b:=congrArg some h
theorem Zt{α:Type}{l:List α}{i:Nat}:l.toArray[i]?=l[i]?:=List.getElem?_toArray
theorem Zu{α:Type}{a:α}{l:List α}{i:Nat}:(a::l)[i+1]?=l[i]?:=List.getElem?_cons_succ
theorem Zv{α:Type}{a:α}{l:List α}:(a::l)[0]?=some a:=List.getElem?_cons_zero
theorem Zm{α:Type}{a b:α}{l:List α}:a∈b::l<->a=b\/a∈l:=List.mem_cons
theorem Zn{α:Type}{a:α}:¬ a∈([]:List α):=List.not_mem_nil
theorem xt6 {d:Nat}(h:d<10):(UInt8.ofNat (48+d)).toNat=48+d:=by
 simp only[UInt8.toNat_ofNat'];omega
theorem xwi (u:Nat):Lib.decDigits u≠[]:=by
 rw[Lib.decDigits];split
 ·simp
 simp
theorem xuu (u:Nat):∀c∈Lib.decDigits u,48<=c.toNat/\c.toNat<=57:=by
 induction u using Nat.strongRecOn with
 | _ u ih=>
  intro c a;rw[Lib.decDigits] at a;split at a
  ·rename_i h;rw[List.mem_singleton] at a;subst a;rw[xt6 h];omega
  rename_i h;rw[List.mem_append,List.mem_singleton] at a;rcases a with a | a
  ·exact ih (u / 10) (by omega) c a
  subst a;rw[xt6 (Nat.mod_lt _ (by omega))];have:=Nat.mod_lt u (show 10>0 by omega);omega
theorem xuv:∀(l r:List UInt8) (a u:Nat),Lib.parseUint10 a l=.ok u->Lib.parseUint10 a (l++r)=Lib.parseUint10 u r
 | [],r,a,u,h=>by
  simp only[Lib.parseUint10] at h;injection h with h
  subst h;rfl
 | c :: l,r,a,u,h=>by
  simp only[Lib.parseUint10,List.cons_append] at h ⊢;split at h
  ·rename_i b;rw[if_pos b];split at h
   ·cases h
   rename_i d;rw[if_neg d];split at h
   ·cases h
   rename_i e;rw[if_neg e];exact xuv l r _ u h
  cases h
theorem xwG (u:Nat)(b:u<18446744073709551616):Lib.parseUint10 0 (Lib.decDigits u)=.ok u:=by
 induction u using Nat.strongRecOn with
 | _ u ih=>
  rw[Lib.decDigits];split
  ·rename_i h;simp only[Lib.parseUint10];rw[xt6 h,if_pos Zo,if_neg Zo,if_neg Zo]
   congr 1
   omega
  rename_i h;rw[xuv _ _ 0 (u / 10) (ih (u / 10) Zo Zo)];simp only[Lib.parseUint10];have a:=Nat.mod_lt u (show 10>0 by omega);rw[xt6 a,if_pos Zo,if_neg Zo,if_neg Zo]
  congr 1
  omega
theorem xwH (u:Nat)(a:u<18446744073709551616):Lib.parseMag (Lib.decDigits u)=.ok u:=by
 unfold Lib.parseMag;rw[if_neg (xwi u),xwG u a]
theorem xwE {n:Int}(g:-9223372036854775808<=n)(f:n<=9223372036854775807):Lib.atoiAll (Lib.itoa n)=.ok n:=by
 unfold Lib.itoa;split
 ·rename_i h;unfold Lib.atoiAll;have a:(45:UInt8).toNat=45:=rfl;simp only[a];rw[if_pos (Or.inr trivial),xwH _ Zo];simp only;rw[if_neg (by simp),if_neg Zo,if_pos trivial]
  congr 1
  omega
 rename_i h;have d:=xuu n.toNat;have e:=xwH n.toNat Zo
 cases b:Lib.decDigits n.toNat with
 | nil=>exact absurd b (xwi _)
 | cons c r=>
  rw[b] at d e;obtain⟨c1,c2⟩:=d c (by simp);unfold Lib.atoiAll;simp only;rw[if_neg Zo,e];simp only;rw[if_neg Zo,if_neg Zo,if_neg Zo]
  congr 1
  omega
theorem xxd (n:Int):Lib.itoa n≠[]:=by
 unfold Lib.itoa;split
 ·simp
 exact xwi _
theorem xwt (n:Int):(32:UInt8) ∉ Lib.itoa n:=by
 intro h;unfold Lib.itoa at h;split at h
 ·simp at h;have:=xuu _ _ h;simp at this
 have:=xuu _ _ h;simp at this
def GF (l:List UInt8):Option (List UInt8 × List UInt8):=
 match l.idxOf? 32 with
 | none=>none
 | some 0=>none
 | some (i+1)=>some (l.take (i+1),l.drop (i+2))
theorem xuQ {l w r:List UInt8}(h:GF l=some (w,r)):l=w++32 :: r/\w≠[]/\(32:UInt8) ∉ w:=by
 unfold GF at h;split at h
 ·cases h
 ·cases h
 rename_i i c
 cases h;rw[List.idxOf?,List.findIdx?_eq_some_iff_getElem] at c;obtain⟨f,d,k⟩:=c;have o:l[i+1]=32:=by simpa using d
 refine⟨?_,?_,?_⟩
 ·have e:=List.take_append_drop (i+1) l;rw[List.drop_eq_getElem_cons f,o] at e;exact e.symm
 ·intro m;have:=congrArg List.length m;rw[List.length_take,List.length_nil] at this;omega
 intro g;obtain⟨j,n,a⟩:=List.mem_iff_getElem.1 g;rw[List.getElem_take] at a;have b:j<i+1:=by simp at n;omega
 have:=k j b;rw[a] at this;simp at this
theorem xuM {w r:List UInt8}(c:w≠[])(f:(32:UInt8) ∉ w):GF (w++32 :: r)=some (w,r):=by
 have g:0<w.length:=List.length_pos_iff.2 c
 have e:(w++32 :: r).idxOf? 32=some w.length:=by
  rw[List.idxOf?,List.findIdx?_eq_some_iff_getElem];refine⟨by simp,by simp,λj b=>?_⟩;rw[List.getElem_append_left b];have:w[j]≠32:=λd=>f (d ▸ List.getElem_mem b);simpa using this
 unfold GF;rw[e];obtain⟨k,a⟩:∃k,w.length=k+1:=⟨w.length-1,by omega⟩
 rw[a];simp only[Option.some.injEq,Prod.mk.injEq];constructor
 ·rw[← a,List.take_left]
 rw[show k+2=w.length+1 by omega,← List.drop_drop,List.drop_left];rfl
def Dd (l:List UInt8):Option (Int × List UInt8):=
 match GF l with
 | none=>none
 | some (w,r)=>match Lib.atoiAll w with
  | .ok n=>if Lib.itoa n=w then some (n,r) else none
  | _=>none
theorem xv3 {l r:List UInt8}{n:Int}(h:Dd l=some (n,r)):l=Lib.itoa n++32 :: r/\-9223372036854775808<=n/\n<=9223372036854775807:=by
 unfold Dd at h;split at h
 ·cases h
 rename_i w r' a;split at h
 ·rename_i n' b;split at h
  ·rename_i c
   cases h;exact⟨by rw[c];exact (xuQ a).1,Lib.atoiAll_bounds b⟩
  cases h
 cases h
theorem xv5 {n:Int}(a:-9223372036854775808<=n)(b:n<=9223372036854775807)(r:List UInt8):Dd (Lib.itoa n++32 :: r)=some (n,r):=by
 unfold Dd;rw[xuM (xxd n) (xwt n)];simp only;rw[xwE a b];simp
structure Codec {α:Type}(f:List UInt8->Option (α × List UInt8))(enc:α->List UInt8)(ok:α->Prop):Prop where
 wr:∀x r,ok x->f (enc x++r)=some (x,r)
 is:∀l x r,f l=some (x,r)->l=enc x++r/\ok x
def Fd (n:Int):Prop:=-9223372036854775808<=n/\n<=9223372036854775807
def CQ (n:Int):List UInt8:=Lib.itoa n++[32]
theorem xtL:Codec Dd CQ Fd where
 wr n r h:=by unfold CQ;rw[List.append_assoc];exact xv5 h.1 h.2 r
 is l n r h:=by obtain⟨e,a,b⟩:=xv3 h;exact⟨by unfold CQ;rw[List.append_assoc];exact e,a,b⟩
def Fp (l:List UInt8):Option (ByteArray × List UInt8):=(GF l).bind λp=>some (⟨p.1.toArray⟩,p.2)
def GX (s:ByteArray):List UInt8:=s.data.toList++[32]
def KZ (s:ByteArray):Prop:=s.data.toList≠[]/\(32:UInt8) ∉ s.data.toList
theorem xu1:Codec Fp GX KZ where
 wr s r h:=by
  unfold GX Fp;rw[List.append_assoc,List.singleton_append,xuM h.1 h.2];simp
 is l s r h:=by
  unfold Fp at h
  cases a:GF l with
  | none=>rw[a] at h;cases h
  | some p=>
   obtain⟨w,r'⟩:=p;rw[a] at h;simp only[Option.bind_some,Option.some.injEq,Prod.mk.injEq] at h;obtain⟨rfl,rfl⟩:=h;obtain⟨e,c,b⟩:=xuQ a;refine⟨?_,?_⟩
   ·unfold GX;simpa using e
   unfold KZ;simpa using ⟨c,b⟩
def EP {α:Type}(f:List UInt8->Option (α × List UInt8)):Nat->List UInt8->Option (List α × List UInt8)
 | 0,l=>some ([],l)
 | n+1,l=>(f l).bind λp=>(EP f n p.2).bind λq=>some (p.1 :: q.1,q.2)
def DH {α:Type}(enc:α->List UInt8)(xs:List α):List UInt8:=xs.flatMap enc
theorem xun {α:Type}{f:List UInt8->Option (α × List UInt8)}{enc:α->List UInt8}{ok:α->Prop}(C:Codec f enc ok):∀n:Nat,Codec (EP f n) (DH enc) (λxs=>xs.length=n/\∀x∈xs,ok x)
 | 0=>{
  wr:=λxs r h=>by
   have:xs=[]:=List.eq_nil_of_length_eq_zero h.1;subst this;rfl
  is:=λl xs r h=>by
   simp only[EP,Option.some.injEq,Prod.mk.injEq] at h;obtain⟨rfl,rfl⟩:=h;simp[DH] }
 | n+1=>{
  wr:=λxs r h=>by
   cases xs with
   | nil=>simp at h
   | cons x xs=>
    have e:=h.2 x (by simp);have d:xs.length=n/\∀x∈xs,ok x:=⟨by simpa using h.1,λy a=>h.2 y (by simp[a])⟩
    simp only[EP,DH,List.flatMap_cons,List.append_assoc];rw[C.wr _ _ e];simp only[Option.bind_some];have:=(xun C n).wr xs r d;unfold DH at this;rw[this];simp
  is:=λl xs r h=>by
   simp only[EP] at h
   cases b:f l with
   | none=>simp[b] at h
   | some p=>
    obtain⟨x,r1⟩:=p;simp only[b,Option.bind_some] at h
    cases c:EP f n r1 with
    | none=>simp[c] at h
    | some q=>
     obtain⟨ys,r2⟩:=q;simp only[c,Option.bind_some,Option.some.injEq,Prod.mk.injEq] at h;obtain⟨rfl,rfl⟩:=h;obtain⟨i1,i2⟩:=C.is _ _ _ b;obtain⟨i3,i4⟩:=(xun C n).is _ _ _ c;refine⟨?_,by simp[i4.1],λy a=>?_⟩
     ·rw[i1,i3];simp[DH]
     simp at a;rcases a with rfl | a
     ·exact i2
     exact i4.2 y a }
def Hr (most:Nat)(l:List UInt8):Option (Nat × List UInt8):=(Dd l).bind λp=>if 0<=p.1/\p.1<=most then some (p.1.toNat,p.2) else none
theorem xuW {a:Nat}(d:a<=1000):Codec (Hr a) (λn=>CQ n) (λn=>n<=a) where
 wr n r h:=by
  unfold Hr;rw[xtL.wr _ _ (show Fd (n:Int) from ⟨by omega,by omega⟩)];simp only[Option.bind_some];rw[if_pos ⟨by omega,by omega⟩];simp
 is l n r h:=by
  unfold Hr at h
  cases b:Dd l with
  | none=>simp[b] at h
  | some p=>
   obtain⟨x,r1⟩:=p;simp only[b,Option.bind_some] at h;split at h
   ·rename_i c;simp only[Option.some.injEq,Prod.mk.injEq] at h;obtain⟨rfl,rfl⟩:=h;obtain⟨i1,i2⟩:=xtL.is _ _ _ b;exact⟨by rw[Int.toNat_of_nonneg c.1];exact i1,by omega⟩
   cases h
def DM {α:Type}(f:List UInt8->Option (α × List UInt8))(most:Nat)(l:List UInt8):Option (List α × List UInt8):=(Hr most l).bind λp=>EP f p.1 p.2
def Hc {α:Type}(enc:α->List UInt8)(xs:List α):List UInt8:=CQ xs.length++DH enc xs
theorem Lt {α:Type}{f:List UInt8->Option (α × List UInt8)}{enc:α->List UInt8}{ok:α->Prop}(C:Codec f enc ok){a:Nat}(c:a<=1000):Codec (DM f a) (Hc enc) (λxs=>xs.length<=a/\∀x∈xs,ok x) where
 wr xs r h:=by
  unfold DM Hc;rw[List.append_assoc,(xuW c).wr _ _ h.1];simp only[Option.bind_some];exact (xun C _).wr _ _ ⟨rfl,h.2⟩
 is l xs r h:=by
  unfold DM at h
  cases b:Hr a l with
  | none=>simp[b] at h
  | some p=>
   obtain⟨n,r1⟩:=p;simp only[b,Option.bind_some] at h;obtain⟨i1,i2⟩:=(xuW c).is _ _ _ b;obtain⟨i3,i4,i5⟩:=(xun C n).is _ _ _ h;subst i4;exact⟨by unfold Hc;rw[i1,i3,List.append_assoc],i2,i5⟩
def GS (l:List UInt8):Option (QI × List UInt8):=(Dd l).bind λp=>(Dd p.2).bind λq=>if p.1=14 then (Fp q.2).bind λs=>some (⟨p.1,q.1,0,0,s.1⟩,s.2) else some (⟨p.1,q.1,0,0,⟨#[]⟩⟩,q.2)
def FT (x:QI):List UInt8:=CQ x.op++(CQ x.a++if x.op=14 then GX x.name else [])
def ND (x:QI):Prop:=Fd x.op/\Fd x.a/\x.b=0/\x.c=0/\(if x.op=14 then KZ x.name else x.name=⟨#[]⟩)
theorem xxb:Codec GS FT ND where
 wr x r h:=by
  obtain⟨op,a,b,c,nm⟩:=x;obtain⟨i,g,e,j,f⟩:=h;simp only at i g e j f;subst e j;unfold GS FT;simp only[List.append_assoc];rw[xtL.wr _ _ i];simp only[Option.bind_some];rw[xtL.wr _ _ g];simp only[Option.bind_some];by_cases d:op=14
  ·rw[if_pos d] at f;rw[if_pos d,if_pos d,xu1.wr _ _ f];simp
  rw[if_neg d] at f;rw[if_neg d,if_neg d,f];simp
 is l x r h:=by
  unfold GS at h;simp only[Option.bind_eq_some_iff] at h;obtain⟨⟨op,r1⟩,i,⟨a,r2⟩,g,e⟩:=h;simp only at g e;obtain⟨i1,i2⟩:=xtL.is _ _ _ i;obtain⟨i3,i4⟩:=xtL.is _ _ _ g;split at e
  ·rename_i d;simp only[Option.bind_eq_some_iff] at e;obtain⟨⟨s,r3⟩,j,f⟩:=e;simp only[Option.some.injEq,Prod.mk.injEq] at f;obtain⟨rfl,rfl⟩:=f;obtain⟨i5,i6⟩:=xu1.is _ _ _ j;refine⟨?_,i2,i4,rfl,rfl,?_⟩
   ·unfold FT;simp only;rw[if_pos d,i1,i3,i5];simp
   simp only;rw[if_pos d];exact i6
  rename_i d;simp only[Option.some.injEq,Prod.mk.injEq] at e;obtain⟨rfl,rfl⟩:=e;refine⟨?_,i2,i4,rfl,rfl,?_⟩
  ·unfold FT;simp only;rw[if_neg d,i1,i3];simp
  simp[d]
def Hs (l:List UInt8):Option (QV × List UInt8):=(Dd l).bind λp=>(Dd p.2).bind λq=>some (⟨p.1,q.1⟩,q.2)
def Gz (v:QV):List UInt8:=CQ v.k++CQ v.n
def Qq (v:QV):Prop:=Fd v.k/\Fd v.n
theorem xw4:Codec Hs Gz Qq where
 wr x r h:=by
  unfold Hs Gz;rw[List.append_assoc,xtL.wr _ _ h.1];simp only[Option.bind_some];rw[xtL.wr _ _ h.2];simp
 is l x r h:=by
  unfold Hs at h;simp only[Option.bind_eq_some_iff,Option.some.injEq,Prod.mk.injEq] at h;obtain⟨⟨k,r1⟩,a,⟨n,r2⟩,b,rfl,rfl⟩:=h;obtain⟨i1,i2⟩:=xtL.is _ _ _ a;obtain⟨i3,i4⟩:=xtL.is _ _ _ b;simp only at i3;exact⟨by unfold Gz;simp only;rw[i1,i3];simp,i2,i4⟩
def Kj (l:List UInt8):Option (QM × List UInt8):=(Fp l).bind λa=>(Dd a.2).bind λb=>(Dd b.2).bind λc=>(Dd c.2).bind λd=>(DM GS 60 d.2).bind λe=>some (⟨a.1,b.1,c.1,d.1,e.1⟩,e.2)
def GC (m:QM):List UInt8:=GX m.name++(CQ m.args++(CQ m.temps++(CQ m.prim++Hc FT m.code)))
def Qd (m:QM):Prop:=KZ m.name/\Fd m.args/\Fd m.temps/\Fd m.prim/\m.code.length<=60/\∀x∈m.code,ND x
theorem xw5:Codec Kj GC Qd where
 wr x r h:=by
  obtain⟨f,j,k,g,i⟩:=h;unfold Kj GC;simp only[List.append_assoc];rw[xu1.wr _ _ f];simp only[Option.bind_some];rw[xtL.wr _ _ j];simp only[Option.bind_some];rw[xtL.wr _ _ k];simp only[Option.bind_some];rw[xtL.wr _ _ g];simp only[Option.bind_some];rw[(Lt xxb (by decide)).wr _ _ i];simp
 is l x r h:=by
  unfold Kj at h;simp only[Option.bind_eq_some_iff,Option.some.injEq,Prod.mk.injEq] at h;obtain⟨⟨a,r1⟩,f,⟨b,r2⟩,j,⟨c,r3⟩,k,⟨d,r4⟩,g,⟨e,r5⟩,i,rfl,rfl⟩:=h;obtain⟨i1,k1⟩:=xu1.is _ _ _ f;obtain⟨i2,k2⟩:=xtL.is _ _ _ j;obtain⟨i3,k3⟩:=xtL.is _ _ _ k;obtain⟨i4,k4⟩:=xtL.is _ _ _ g;obtain⟨i5,k5⟩:=(Lt xxb (by decide)).is _ _ _ i;simp only at i2 i3 i4 i5;exact⟨by unfold GC;simp only;rw[i1,i2,i3,i4,i5];simp,k1,k2,k3,k4,k5⟩
def Lk (l:List UInt8):Option (QC × List UInt8):=(Fp l).bind λa=>(Dd a.2).bind λb=>(Dd b.2).bind λc=>(DM Kj 8 c.2).bind λe=>some (⟨a.1,b.1,c.1,e.1⟩,e.2)
def Gk (m:QC):List UInt8:=GX m.name++(CQ m.super++(CQ m.slots++Hc GC m.mz))
def QP (m:QC):Prop:=KZ m.name/\Fd m.super/\Fd m.slots/\m.mz.length<=8/\∀x∈m.mz,Qd x
theorem xw7:Codec Lk Gk QP where
 wr x r h:=by
  obtain⟨f,g,i,d⟩:=h;unfold Lk Gk;simp only[List.append_assoc];rw[xu1.wr _ _ f];simp only[Option.bind_some];rw[xtL.wr _ _ g];simp only[Option.bind_some];rw[xtL.wr _ _ i];simp only[Option.bind_some];rw[(Lt xw5 (by decide)).wr _ _ d];simp
 is l x r h:=by
  unfold Lk at h;simp only[Option.bind_eq_some_iff,Option.some.injEq,Prod.mk.injEq] at h;obtain⟨⟨a,r1⟩,f,⟨b,r2⟩,g,⟨c,r3⟩,i,⟨e,r5⟩,d,rfl,rfl⟩:=h;obtain⟨i1,k1⟩:=xu1.is _ _ _ f;obtain⟨i2,k2⟩:=xtL.is _ _ _ g;obtain⟨i3,k3⟩:=xtL.is _ _ _ i;obtain⟨i5,k5⟩:=(Lt xw5 (by decide)).is _ _ _ d;simp only at i2 i3 i5;exact⟨by unfold Gk;simp only;rw[i1,i2,i3,i5];simp,k1,k2,k3,k5⟩
def Kv (l:List UInt8):Option (QO × List UInt8):=(Dd l).bind λa=>(DM Hs 6 a.2).bind λe=>some (⟨a.1,e.1⟩,e.2)
def GH (o:QO):List UInt8:=CQ o.cls++Hc Gz o.slots
def PN (o:QO):Prop:=Fd o.cls/\o.slots.length<=6/\∀x∈o.slots,Qq x
theorem xxc:Codec Kv GH PN where
 wr x r h:=by
  obtain⟨c,b⟩:=h;unfold Kv GH;simp only[List.append_assoc];rw[xtL.wr _ _ c];simp only[Option.bind_some];rw[(Lt xw4 (by decide)).wr _ _ b];simp
 is l x r h:=by
  unfold Kv at h;simp only[Option.bind_eq_some_iff,Option.some.injEq,Prod.mk.injEq] at h;obtain⟨⟨a,r1⟩,c,⟨e,r5⟩,b,rfl,rfl⟩:=h;obtain⟨i1,k1⟩:=xtL.is _ _ _ c;obtain⟨i5,k5⟩:=(Lt xw4 (by decide)).is _ _ _ b;simp only at i5;exact⟨by unfold GH;simp only;rw[i1,i5];simp,k1,k5⟩
def Ms (l:List UInt8):Option (QW × List UInt8):=(Dd l).bind λa=>(DM Lk 12 a.2).bind λc=>(DM Kv 60 c.2).bind λe=>some (⟨c.1,e.1,a.1⟩,e.2)
def Ef (X:QW):List UInt8:=CQ X.ez++(Hc Gk X.cz++Hc GH X.heap)
def xuA (X:QW):Prop:=Fd X.ez/\(X.cz.length<=12/\∀x∈X.cz,QP x)/\(X.heap.length<=60/\∀x∈X.heap,PN x)
theorem xw9:Codec Ms Ef xuA where
 wr x r h:=by
  obtain⟨d,f,b⟩:=h;unfold Ms Ef;simp only[List.append_assoc];rw[xtL.wr _ _ d];simp only[Option.bind_some];rw[(Lt xw7 (by decide)).wr _ _ f];simp only[Option.bind_some];rw[(Lt xxc (by decide)).wr _ _ b];simp
 is l x r h:=by
  unfold Ms at h;simp only[Option.bind_eq_some_iff,Option.some.injEq,Prod.mk.injEq] at h;obtain⟨⟨a,r1⟩,d,⟨c,r2⟩,f,⟨e,r5⟩,b,rfl,rfl⟩:=h;obtain⟨i1,k1⟩:=xtL.is _ _ _ d;obtain⟨i2,k2⟩:=(Lt xw7 (by decide)).is _ _ _ f;obtain⟨i5,k5⟩:=(Lt xxc (by decide)).is _ _ _ b;simp only at i2 i5;exact⟨by unfold Ef;simp only;rw[i1,i2,i5];simp,k1,k2,k5⟩
def Ez (b:List UInt8):QW × Int:=match Ms b with
 | some (X,[])=>if BM X=0 then (X,0) else (⟨[],[],0⟩,BM X)
 | _=>(⟨[],[],0⟩,2)
theorem xuI {X:QW}(h:xuA X)(a:BM X=0):Ez (Ef X)=(X,0):=by
 have:=xw9.wr X [] h;rw[List.append_nil] at this;unfold Ez;rw[this];simp only;rw[if_pos a]
theorem xwo {f:QI->Int}:∀ {l:List QI} {k:Nat} {r:Int × Int},FX f k l=some r->r.1≠0
 | [],k,r,h=>by cases h
 | z :: l,k,r,h=>by
  unfold FX at h;split at h
  ·rename_i a;cases h;exact a
  exact xwo h
theorem xvG {S n c:Int}{m:QM}(h:(Em S n c m).1=0):DF n c m=0/\(∀x∈m.code,DD S n m x=0)/\(DN m.code).2.1=0:=by
 unfold Em at h;split at h
 ·rename_i b;exact absurd h b
 rename_i b
 cases a:FX (DD S n m) 0 m.code with
 | some r=>rw[a] at h;exact absurd h (xwo a)
 | none=>rw[a] at h;exact⟨by simpa using b,PR a,h⟩
theorem xyH {n:Nat}{c:Int}{m:QM}(h:c<0\/(n:Int)<=c):DF n c m=6:=by unfold DF;rw[if_pos (by simp[Cj];omega)]
theorem xxo {n:Nat}{c:Int}{m:QM}(h:¬ (c<0\/(n:Int)<=c))(a:DC m.name=false):DF n c m=7:=by unfold DF;rw[if_neg (by simp[Cj];omega),if_pos a]
theorem xwS {n:Nat}{c:Int}{m:QM}(h:¬ (c<0\/(n:Int)<=c))(a:DC m.name=true)(b:m.args<0\/4<m.args\/m.temps<0\/6<m.temps):DF n c m=3:=by unfold DF;rw[if_neg (by simp[Cj];omega),if_neg (by simp[a]),if_pos (by simp[Cj];omega)]
theorem xxi {n:Nat}{c:Int}{m:QM}(h:¬ (c<0\/(n:Int)<=c))(a:DC m.name=true)(d:¬ (m.args<0\/4<m.args\/m.temps<0\/6<m.temps))(b:m.prim≠0):DF n c m=1:=by unfold DF;rw[if_neg (by simp[Cj];omega),if_neg (by simp[a]),if_neg (by simp[Cj];omega),if_pos b]
theorem xxg {n:Nat}{c:Int}{m:QM}(h:¬ (c<0\/(n:Int)<=c))(a:DC m.name=true)(e:¬ (m.args<0\/4<m.args\/m.temps<0\/6<m.temps))(b:m.prim=0)(d:m.code.length=0\/60<m.code.length):DF n c m=5:=by unfold DF;rw[if_neg (by simp[Cj];omega),if_neg (by simp[a]),if_neg (by simp[Cj];omega),if_neg (by simp[b]),if_pos (by simp[Cj];omega)]
theorem xxJ {n:Nat}{c:Int}{m:QM}(h:DF n c m=0):¬ (c<0\/(n:Int)<=c)/\DC m.name=true/\¬ (m.args<0\/4<m.args\/m.temps<0\/6<m.temps)/\m.prim=0/\¬ (m.code.length=0\/60<m.code.length):=by
 by_cases h1:c<0\/(n:Int)<=c
 ·rw[xyH h1] at h;cases h
 cases a:DC m.name
 ·rw[xxo h1 a] at h;cases h
 by_cases h3:m.args<0\/4<m.args\/m.temps<0\/6<m.temps
 ·rw[xwS h1 a h3] at h;cases h
 by_cases h4:m.prim=0
 ·by_cases h5:m.code.length=0\/60<m.code.length
  ·rw[xxg h1 a h3 h4 h5] at h;cases h
  exact⟨h1,rfl,h3,h4,h5⟩
 rw[xxi h1 a h3 h4] at h;cases h
theorem xuO {s:ByteArray}(h:DC s=true):KZ s:=by
 unfold DC at h;simp only[Bool.and_eq_true,decide_eq_true_eq] at h;obtain⟨⟨g,-⟩,b⟩:=h;unfold LL at b;simp only[decide_eq_true_eq] at b;have a:s.data.toList.length=s.size:=rfl;constructor
 ·intro f;rw[f] at a;simp at a;omega
 intro d;obtain⟨j,i,c⟩:=List.mem_iff_getElem.1 d;have:=b ⟨j,by omega⟩;have e:s[j]'(by omega)=32:=by rw[← c];rfl
 simp only[e] at this;simp at this
theorem xxk {a b:ByteArray}(h:CD a b=true)(c:KZ a):KZ b:=by
 have e:a.toList=b.toList:=by simpa [CD] using h
 rw[ByteArray.toList_eq,ByteArray.toList_eq] at e;unfold KZ;rw[← e];exact c
theorem xvP {s:ByteArray}(h:PW s=true):s=⟨#[]⟩:=by
 unfold PW at h;rw[ByteArray.toList_eq] at h;obtain⟨⟨l⟩⟩:=s;simp at h;subst h;rfl
theorem xxL {S n:Int}{m:QM}{x:QI}(i:Fd (IntKind.i64.wrap (S-1)))(l:n<=1000)(o:m.args<=4)(k:m.temps<=6)(p:m.code.length<=60)(h:DD S n m x=0):ND x:=by
 unfold DD at h;split at h
 ·cases h
 rename_i e;split at h
 ·cases h
 rename_i j;split at h
 ·cases h
 rename_i d;simp only[Cj,Bool.not_eq_false,decide_eq_true_eq] at e;simp only[not_or,Decidable.not_not,Bool.not_eq_false] at d;obtain⟨a,f,g⟩:=d;refine⟨⟨by omega,by omega⟩,?_,f,g,?_⟩
 ·have c:Ew S n m x=true:=by simpa using j
  unfold Ew at c;unfold Fd at i ⊢
  (repeat' split at c)<;>simp only[Cj,Bool.or_eq_true,decide_eq_true_eq] at c<;>omega
 ·unfold Kf at a;split at a
  ·rename_i b;rw[if_pos b];exact xuO a
  rename_i b;rw[if_neg b];exact xvP a
theorem xup {X:QW}(h:BM X=0):xuA X:=by
 obtain⟨U,N,M,S⟩:=Gx h;obtain⟨z1,z2,z3,z4,z5⟩:=U;have s:=N.slots;have D:X.cz.length*56<=140737488351232:=by omega
 refine⟨⟨by omega,by omega⟩,⟨z2,λx C=>?_⟩,⟨z3,λo C=>?_⟩⟩
 ·obtain⟨k,l⟩:=List.getElem?_of_mem C;have t:=Bz l;have d:=N k x t l;have j:=M k x t l;have hs:=xvn d;have Q:=xwq d
  have Z:-1<=x.super:=by
   unfold CY at d;split at d
   ·cases d
   split at d
   ·rename_i y f;have H:k<4:=Bz f
    (repeat' (split at d))<;>first | (cases d;done) | skip
    rename_i b _;have e:x.super=y.super:=by simpa using b
    rw[e]
    match k,H,f with
    | 0,_,f=>cases f;decide
    | 1,_,f=>cases f;decide
    | 2,_,f=>cases f;decide
    | 3,_,f=>cases f;decide
   (repeat' (split at d))<;>first | (cases d;done) | skip
   rename_i b _;simp only[Dj,Bool.not_eq_false,decide_eq_true_eq] at b;omega
  have B:DC x.name=true:=by
   unfold CY at d;split at d
   ·cases d
   rename_i L;simpa using L
  unfold Dm at j;split at j
  ·cases j
  rename_i u;split at j
  ·cases j
  rename_i z;have V:=Hm j;refine⟨xuO B,⟨by omega,by omega⟩,⟨by omega,by omega⟩,by omega,λm F=>?_⟩;obtain⟨i,K⟩:=List.getElem?_of_mem F;have g:=V i m K;unfold Dn at g;split at g
  ·cases g
  split at g
  ·rename_i G;unfold Ft at G;rw[List.any_eq_true] at G;obtain⟨p,a,c⟩:=G;simp only[Bool.and_eq_true,decide_eq_true_eq] at c;obtain⟨⟨⟨⟨⟨-,e1⟩,e2⟩,e3⟩,e4⟩,e5⟩:=c
   have n:KZ p.name/\Fd p.prim:=by
    unfold xrh at a;simp only[Zm,Zn,or_false] at a;rcases a with rfl | rfl | rfl | rfl | rfl<;>exact⟨⟨by decide,by decide⟩,by decide,by decide⟩
   refine⟨xxk e1 n.1,by rw[e3];exact⟨by decide,by decide⟩,by rw[e4];exact⟨by decide,by decide⟩,by rw[← e2];exact n.2,by omega,λy f=>?_⟩;have:m.code=[]:=List.eq_nil_of_length_eq_zero e5;rw[this] at f
   cases f
  obtain⟨c1,c2,-⟩:=xvG g;obtain⟨-,n1,n2,n3,n4⟩:=xxJ c1;refine⟨xuO n1,⟨by omega,by omega⟩,⟨by omega,by omega⟩,⟨by omega,by omega⟩,by omega,λy f=>?_⟩
  have T:0<=Cs X.cz k:=by
   rw[xpF s D];exact (PD s (X.cz.length+1) k 0 Zo).1
  refine xxL ?_ Zo Zo Zo Zo (c2 y f);rw[IntKind.wrap_i64];unfold Fd;omega
 obtain⟨k,l⟩:=List.getElem?_of_mem C;have d:=S k o (Bz l) l;unfold Ev at d;split at d
 ·cases d
 rename_i j;have L:=Hm d;simp only[not_or,Decidable.not_not,Bool.not_eq_false] at j;obtain⟨Y,W⟩:=j;simp only[Dj,decide_eq_true_eq] at Y;obtain⟨q,R⟩:∃q:Nat,o.cls=(q:Int):=⟨o.cls.toNat,by omega⟩
 have r:q<X.cz.length:=by omega
 have u:=M q _ r (List.getElem?_eq_getElem r)
 have h7:¬ 6<Cs X.cz q:=by
  unfold Dm at u;split at u
  ·cases u
  assumption
 rw[R] at W;refine⟨⟨by omega,by omega⟩,by omega,λv hv=>?_⟩;obtain⟨i,K⟩:=List.getElem?_of_mem hv;have z:=L i v K;unfold Cn HG at z;unfold Qq Fd
 (repeat' split at z)<;>first | (cases z;done) | omega
structure Sn where
 X:QW
 cells:List QE
 ts:List QT
 saved:List UInt8
structure SInv (i:Nat)(s:Sn):Prop where
 right:BM s.X=0
 ep0:0<=s.X.ez
 ep1:s.X.ez<=i
 saved:s.saved=[]\/∃Y,BM Y=0/\s.saved=Ef Y/\0<=Y.ez/\Y.ez<=i
theorem SInv.later {i j:Nat}{s:Sn}(h:SInv i s)(a:i<=j):SInv j s:=
 ⟨h.right,h.ep0,by have:=h.ep1;omega,h.saved.imp id λ⟨Y,b,c,d,e⟩=>⟨Y,b,c,d,by omega⟩⟩
theorem xiT:SInv 0 ⟨xlV,[],[],[]⟩:=⟨by kernel_rfl,by decide,by decide,.inl rfl⟩
theorem SInv.heap {i:Nat}{s:Sn}(h:SInv i s){H:List QO}(a:BM ⟨s.X.cz,H,s.X.ez⟩=0)(c:List QE)(t:List QT):SInv i ⟨⟨s.X.cz,H,s.X.ez⟩,c,t,s.saved⟩:=⟨a,h.ep0,h.ep1,h.saved⟩
theorem xx4 {σ:Type}{E:Env σ}{X:QW}(h:BM X=0)(c:EOk E)(d:E.cz=X.cz)(st:σ)(s:QV)(name:ByteArray)(a:List QV)(fuel:Int):BM ⟨X.cz,(DQ E X st s name a fuel).1.heap,X.ez⟩=0/\((DQ E X st s name a fuel).1.err≠0->(DQ E X st s name a fuel).1.heap=X.heap):=by
 unfold DQ;split
 ·exact⟨h,λ_=>rfl⟩
 rename_i f;have b:=xd1 (Decidable.of_not_not f);unfold Ny;split
 ·exact⟨h,λ_=>rfl⟩
 exact⟨(xnT h c d 20 rfl _ _ b.2.1 b.2.2).1,λe=>absurd rfl e⟩
theorem SInv.save {i:Nat}{s:Sn}(h:SInv i s):SInv i ⟨s.X,s.cells,s.ts,Ef s.X⟩:=⟨h.right,h.ep0,h.ep1,.inr ⟨s.X,h.right,rfl,h.ep0,h.ep1⟩⟩
theorem SInv.load {i:Nat}{s:Sn}(h:SInv i s)(d:i<1000){Y:QW}(a:BM Y=0)(b:0<=Y.ez)(c:Y.ez<=i):SInv (i+1) ⟨⟨Y.cz,Y.heap,max Y.ez s.X.ez+1⟩,s.cells,s.ts,s.saved⟩:=by
 have e0:=h.ep0;have e1:=h.ep1;exact⟨xry a (by omega) (by omega),by show 0<=max _ _+1;omega,by show max _ _+1<=((i+1:Nat):Int);omega,(h.later (Nat.le_succ i)).saved⟩
theorem SInv.parse {i:Nat}{s:Sn}(h:SInv i s)(c:s.saved≠[]):∃Y,BM Y=0/\s.saved=Ef Y/\Ez s.saved=(Y,0)/\0<=Y.ez/\Y.ez<=i:=by
 rcases h.saved with e | ⟨Y,a,b,f,d⟩
 ·exact absurd e c
 exact⟨Y,a,b,by rw[b];exact xuI (xup a) a,f,d⟩
theorem xfW {e:Int}(a:0<=e)(b:e<=1000):KG e=e+1:=by
 unfold KG wrap64;omega
theorem SInv.inst {i:Nat}{s:Sn}(h:SInv i s)(f:i<1000){c:Nat}{x:QC}(e:s.X.cz[c]?=some x){m:QM}(d:(Em (Cs s.X.cz c) s.X.cz.length c m).1=0)(a:0<=CZ x.mz m.name\/x.mz.length<8):SInv (i+1) ⟨Fs s.X c x m,s.cells,s.ts,s.saved⟩:=by
 have e0:=h.ep0;have e1:=h.ep1;have b:(Fs s.X c x m).ez=s.X.ez+1:=xfW e0 (by omega);exact⟨xmk h.right e d a (by omega),by rw[b];omega,by rw[b];omega,(h.later (Nat.le_succ i)).saved⟩
def Dl (xs:List QT)(s:QS):List QL:=(xs.filter λt=>Cw t.site s).flatMap (·.lz)
theorem xjH (xs:List QT)(s:QS)(x:QT):Dl (xs++[x]) s=Dl xs s++if Cw x.site s then x.lz else []:=by
 unfold Dl;rw[List.filter_append,List.flatMap_append];by_cases h:Cw x.site s<;>simp[List.filter_cons,h]
theorem xfX {xs:List QT}{j:Nat}{x:QT}(a:xs[j]?=some x)(s:QS):Dl (xs.take (j+1)) s=Dl (xs.take j) s++if Cw x.site s then x.lz else []:=by
 have b:=Bz a;rw[List.take_succ_eq_append_getElem b,xjH];rw[List.getElem?_eq_getElem b] at a
 cases a;rfl
theorem xjr {α:Type}{xs:List α}{j:Nat}{x:α}(a:xs[j]?=some x):xs.take (j+1)=xs.take j++[x]:=by
 have b:=Bz a;rw[List.take_succ_eq_append_getElem b];rw[List.getElem?_eq_getElem b] at a
 cases a;rfl
theorem xoF {P:Nat->Prop}{w:qW}{v:Value}{ls:List QL}(h:Fw P w v ls):Fw (λb=>b<w.heap.size) w v ls:=by
 obtain⟨ad,cap,c,g,k,d,f⟩:=h;refine⟨ad,cap,c,g,k,d,λi x j=>?_⟩;obtain⟨b,o,e,-,a⟩:=f i x j;exact⟨b,o,e,World.block_lt_of_cell? _ _ a.1,a⟩
theorem xgV {P:Nat->Prop}{w:qW}{v:Value}{xs:List QT}(h:Ep P w v xs):Ep (λb=>b<w.heap.size) w v xs:=by
 obtain⟨ad,cap,a,f,j,c,d⟩:=h;refine⟨ad,cap,a,f,j,c,λi x g=>?_⟩;obtain⟨b,o,e,-,k0,k1,k2,lv,k3,kl⟩:=d i x g;exact⟨b,o,e,World.block_lt_of_cell? _ _ k0,k0,k1,k2,lv,k3,xoF kl⟩
theorem xmU {P:Nat->Prop}(I:List QL->World->Prop)(m:Nat)(cap':Value)(xs:List QT)(s:QS)(v:Value)(w:qW)(hI:I [] w)(hm:m<w.heap.size)(K:∀b,P b->b≠m)
  (hX:∀l w',I l w'->Ep P w' v xs) (hL:∀l w' w'',I l w'->qY w' w''->I l w'')
  (hF:∀l x w',I l w'->Calls Tryz.prog 241 #[LV x,cap'] w' λe w''=>e=.returned (.tuple #[])/\I (l++[x]) w''/\Keeps (λb=>b≠m) w' w''/\w'.heap.size<=w''.heap.size) :
  Calls Tryz.prog 240 #[v,SV s,.func (.func 241) #[] #[cap']] w λe w'=>e=.returned (.tuple #[])/\I (Dl xs s) w':=by
 obtain⟨ad,cap,rfl,hl,B,-,-⟩:=id (hX _ _ hI);unfold maxLen at B;have a3:=Lf w s 105;have a1:=hL _ _ _ hI (Bg w (qJ s));have V:w.heap.size<(w.alloc (qJ s)).heap.size:=by simp
 clear hI;go_enter Tryz.func240,Tryz.ntmps240;go_wp2
 go_loopg [12] xs.length (λg c wr=>∃j:Nat,j+g=xs.length/\c=.int .i64 j/\I (Dl (xs.take j) s) wr/\SiteAt wr w.heap.size s/\w.heap.size<wr.heap.size)
 case atStart=>exact⟨0,by omega,rfl,a1,a3,V⟩
 case round=>
  obtain⟨j,hj,rfl,d,n,N⟩:=hrel;clear a1 a3 V;by_cases hlt:j<xs.length
  ·obtain⟨M,D,e',-,-,-,p⟩:=hX _ _ d;simp only[Value.slice.injEq] at e';obtain⟨rfl,-,-⟩:=e';obtain⟨b,o,rfl,-,v0,v1,v2,sv,v3,u⟩:=p j xs[j] (by simp[hlt]);have a6:Hid (xs[j]?=some xs[j]):=by show _=_;simp[hlt]
   generalize xs[j]=x at *;have HT:Hid (Dl (xs.take (j+1)) s=Dl (xs.take j) s++if Cw x.site s then x.lz else []):=xfX a6.out s;simp only[Nat.add_zero] at v0;obtain⟨i,a,rfl,R,t,-,-⟩:=id u;unfold maxLen at t;obtain⟨s0,s1,s2⟩:=id n;have s0':=λy=>Bf (Bg wr y) s0;have s1':=λy=>Bf (Bg wr y) s1;have s2':=λy=>Bf (Bg wr y) s2;have he:=λw=>neqS x.site s w;clear p s0 s1 s2;have a9:(j:Int)<(xs.length:Int):=by omega
   have aa:(0:Int)<=(j:Int):=by omega
   have T:=Bg wr (.cells #[.int .i64 x.site.cls,.string x.site.name,.int .i64 x.site.at',.slice i x.lz.length a] 111);have ab:(wr.alloc (.cells #[.int .i64 x.site.cls,.string x.site.name,.int .i64 x.site.at',.slice i x.lz.length a] 111)).heap.size=wr.heap.size+1:=by simp
   by_cases hp:Cw x.site s=true
   ·have S:(!Cw x.site s)=false:=by simp[hp]
    have W:Hid (Dl (xs.take (j+1)) s=Dl (xs.take j) s++x.lz):=by show _=_;rw[HT.out,if_pos hp]
    rw[S] at he;clear hp S;have a2:=hL _ _ _ d T;have a4:=n.later T;have U:=u.later Db T;go_wp2;generalize (wr.alloc (.cells #[.int .i64 x.site.cls,.string x.site.name,.int .i64 x.site.at',.slice i x.lz.length a] 111))=W1 at *;clear he s0' s1' s2' v0 v1 v2 v3 d n u
    go_loopg [23] x.lz.length (λg c ws=>∃q:Nat,q+g=x.lz.length/\c=.int .i64 q/\I (Dl (xs.take j) s++x.lz.take q) ws/\SiteAt ws w.heap.size s/\Fw P ws (.slice i x.lz.length a) x.lz/\w.heap.size<ws.heap.size)
    case atStart=>exact⟨0,by omega,rfl,by simpa using a2,a4,U,by omega⟩
    case round=>
     obtain⟨q,hq,rfl,r,z,C,F⟩:=hrel;clear a2 a4 U;by_cases hltq:q<x.lz.length
     ·obtain⟨Q,L,e3,-,-,-,f⟩:=id C;simp only[Value.slice.injEq] at e3;obtain⟨rfl,-,-⟩:=e3;obtain⟨b3,o3,rfl,-,y0,y1⟩:=f q x.lz[q] (by simp[hltq]);have a5:Hid (x.lz[q]?=some x.lz[q]):=by show _=_;simp[hltq]
      generalize x.lz[q]=y at *;simp only[Nat.add_zero] at y0;have ae:(q:Int)<(x.lz.length:Int):=by omega
      have af:(0:Int)<=(q:Int):=by omega
      have Y:=Bg wr (.cells #[.int .i64 y.cls,.int .i64 y.found] 147);have a7:=hL _ _ _ r Y;have a0:=z.later Y;clear f;go_wp2_with fail;refine (hF _ y _ a7).mono ?_;rintro e w1 ⟨rfl,H,k,G⟩;have a8:wr.heap.size+1<=w1.heap.size:=by simpa using G
      go_wp2;go_roundg (gk-1)
      case measure=>omega
      case rel=>
       have X:w.heap.size≠m:=by omega
       refine⟨q+1,by omega,by go_num,?_,?_,?_,by omega⟩
       ·rw[xjr a5.out,← List.append_assoc];exact H
       ·exact⟨k _ _ _ X a0.c0,k _ _ _ X a0.c1,k _ _ _ X a0.c2⟩
       exact (C.later Db Y).keep Db (k.mono K) λ_ h=>h
     obtain rfl:q=x.lz.length:=by omega
     go_wp2;go_roundg (xs.length-(j+1))
     case measure=>omega
     case rel=>
      rw[List.take_of_length_le (Bq _)] at r;exact⟨j+1,by omega,by go_num,by rw[W.out];exact r,z,F⟩
   have Z:Cw x.site s=false:=by simpa using hp
   have S:(!Cw x.site s)=true:=by simp[Z]
   have W:Hid (Dl (xs.take (j+1)) s=Dl (xs.take j) s):=by show _=_;rw[HT.out,if_neg (by simp[Z])];simp
   rw[S] at he;clear hp S Z;go_wp2;go_roundg (gk-1)
   case measure=>omega
   case rel=>exact⟨j+1,by omega,by go_num,by rw[W.out];exact hL _ _ _ d T,n.later T,by omega⟩
  obtain rfl:j=xs.length:=by omega
  go_wp2;refine bodyPost_end (v:=.tuple #[]) (by simp[results,Tryz.results240,go_sem]) rfl ⟨rfl,?_⟩;rw[List.take_of_length_le (Bq _)] at d;exact d
theorem xmP {P:Nat->Prop}(I:List QL->World->Prop)(m:Nat)(cap':Value)(xs:List QT)(s:QS)(v:Value)(w:qW)(hI:I [] w)(hm:m<w.heap.size)(K:∀b,P b->b≠m)
  (hX:∀l w',I l w'->Ep P w' v xs) (hL:∀l w' w'',I l w'->qY w' w''->I l w'')
  (hF:∀l x w',I l w'->Calls Tryz.prog 242 #[LV x,cap'] w' λe w''=>e=.returned (.tuple #[])/\I (l++[x]) w''/\Keeps (λb=>b≠m) w' w''/\w'.heap.size<=w''.heap.size) :
  Calls Tryz.prog 240 #[v,SV s,.func (.func 242) #[] #[cap']] w λe w'=>e=.returned (.tuple #[])/\I (Dl xs s) w':=by
 obtain⟨ad,cap,rfl,hl,B,-,-⟩:=id (hX _ _ hI);unfold maxLen at B;have a3:=Lf w s 105;have a1:=hL _ _ _ hI (Bg w (qJ s));have V:w.heap.size<(w.alloc (qJ s)).heap.size:=by simp
 clear hI;go_enter Tryz.func240,Tryz.ntmps240;go_wp2
 go_loopg [12] xs.length (λg c wr=>∃j:Nat,j+g=xs.length/\c=.int .i64 j/\I (Dl (xs.take j) s) wr/\SiteAt wr w.heap.size s/\w.heap.size<wr.heap.size)
 case atStart=>exact⟨0,by omega,rfl,a1,a3,V⟩
 case round=>
  obtain⟨j,hj,rfl,d,n,N⟩:=hrel;clear a1 a3 V;by_cases hlt:j<xs.length
  ·obtain⟨M,D,e',-,-,-,p⟩:=hX _ _ d;simp only[Value.slice.injEq] at e';obtain⟨rfl,-,-⟩:=e';obtain⟨b,o,rfl,-,v0,v1,v2,sv,v3,u⟩:=p j xs[j] (by simp[hlt]);have a6:Hid (xs[j]?=some xs[j]):=by show _=_;simp[hlt]
   generalize xs[j]=x at *;have HT:Hid (Dl (xs.take (j+1)) s=Dl (xs.take j) s++if Cw x.site s then x.lz else []):=xfX a6.out s;simp only[Nat.add_zero] at v0;obtain⟨i,a,rfl,R,t,-,-⟩:=id u;unfold maxLen at t;obtain⟨s0,s1,s2⟩:=id n;have s0':=λy=>Bf (Bg wr y) s0;have s1':=λy=>Bf (Bg wr y) s1;have s2':=λy=>Bf (Bg wr y) s2;have he:=λw=>neqS x.site s w;clear p s0 s1 s2;have a9:(j:Int)<(xs.length:Int):=by omega
   have aa:(0:Int)<=(j:Int):=by omega
   have T:=Bg wr (.cells #[.int .i64 x.site.cls,.string x.site.name,.int .i64 x.site.at',.slice i x.lz.length a] 111);have ab:(wr.alloc (.cells #[.int .i64 x.site.cls,.string x.site.name,.int .i64 x.site.at',.slice i x.lz.length a] 111)).heap.size=wr.heap.size+1:=by simp
   by_cases hp:Cw x.site s=true
   ·have S:(!Cw x.site s)=false:=by simp[hp]
    have W:Hid (Dl (xs.take (j+1)) s=Dl (xs.take j) s++x.lz):=by show _=_;rw[HT.out,if_pos hp]
    rw[S] at he;clear hp S;have a2:=hL _ _ _ d T;have a4:=n.later T;have U:=u.later Db T;go_wp2;generalize (wr.alloc (.cells #[.int .i64 x.site.cls,.string x.site.name,.int .i64 x.site.at',.slice i x.lz.length a] 111))=W1 at *;clear he s0' s1' s2' v0 v1 v2 v3 d n u
    go_loopg [23] x.lz.length (λg c ws=>∃q:Nat,q+g=x.lz.length/\c=.int .i64 q/\I (Dl (xs.take j) s++x.lz.take q) ws/\SiteAt ws w.heap.size s/\Fw P ws (.slice i x.lz.length a) x.lz/\w.heap.size<ws.heap.size)
    case atStart=>exact⟨0,by omega,rfl,by simpa using a2,a4,U,by omega⟩
    case round=>
     obtain⟨q,hq,rfl,r,z,C,F⟩:=hrel;clear a2 a4 U;by_cases hltq:q<x.lz.length
     ·obtain⟨Q,L,e3,-,-,-,f⟩:=id C;simp only[Value.slice.injEq] at e3;obtain⟨rfl,-,-⟩:=e3;obtain⟨b3,o3,rfl,-,y0,y1⟩:=f q x.lz[q] (by simp[hltq]);have a5:Hid (x.lz[q]?=some x.lz[q]):=by show _=_;simp[hltq]
      generalize x.lz[q]=y at *;simp only[Nat.add_zero] at y0;have ae:(q:Int)<(x.lz.length:Int):=by omega
      have af:(0:Int)<=(q:Int):=by omega
      have Y:=Bg wr (.cells #[.int .i64 y.cls,.int .i64 y.found] 147);have a7:=hL _ _ _ r Y;have a0:=z.later Y;clear f;go_wp2_with fail;refine (hF _ y _ a7).mono ?_;rintro e w1 ⟨rfl,H,k,G⟩;have a8:wr.heap.size+1<=w1.heap.size:=by simpa using G
      go_wp2;go_roundg (gk-1)
      case measure=>omega
      case rel=>
       have X:w.heap.size≠m:=by omega
       refine⟨q+1,by omega,by go_num,?_,?_,?_,by omega⟩
       ·rw[xjr a5.out,← List.append_assoc];exact H
       ·exact⟨k _ _ _ X a0.c0,k _ _ _ X a0.c1,k _ _ _ X a0.c2⟩
       exact (C.later Db Y).keep Db (k.mono K) λ_ h=>h
     obtain rfl:q=x.lz.length:=by omega
     go_wp2;go_roundg (xs.length-(j+1))
     case measure=>omega
     case rel=>
      rw[List.take_of_length_le (Bq _)] at r;exact⟨j+1,by omega,by go_num,by rw[W.out];exact r,z,F⟩
   have Z:Cw x.site s=false:=by simpa using hp
   have S:(!Cw x.site s)=true:=by simp[Z]
   have W:Hid (Dl (xs.take (j+1)) s=Dl (xs.take j) s):=by show _=_;rw[HT.out,if_neg (by simp[Z])];simp
   rw[S] at he;clear hp S Z;go_wp2;go_roundg (gk-1)
   case measure=>omega
   case rel=>exact⟨j+1,by omega,by go_num,by rw[W.out];exact hL _ _ _ d T,n.later T,by omega⟩
  obtain rfl:j=xs.length:=by omega
  go_wp2;refine bodyPost_end (v:=.tuple #[]) (by simp[results,Tryz.results240,go_sem]) rfl ⟨rfl,?_⟩;rw[List.take_of_length_le (Bq _)] at d;exact d
theorem xht (w:qW)(cs:Array Value)(t:TypeId)(n j:Nat)(a:w.heap.size=n):(w.alloc (.cells cs t)).frozen? (O n j)=false:=by
 subst a;unfold World.frozen?;rw[show (w.alloc (.cells cs t)).heap[((O w.heap.size j):Addr).block]?=some (.cells cs t) from BH w _];simp
def GD (ls:List QL):Int:=ls.foldl (λn x=>wrap64 (n+x.found)) 0
theorem xju (l:List QL)(x:QL):GD (l++[x])=wrap64 (GD l+x.found):=by simp[GD]
theorem xoA (x:QL)(b:Nat)(n:Int)(w:qW)(c:w.cell? (O b 0)=some (J n))(d:w.frozen? (O b 0)=false):Calls Tryz.prog 241 #[LV x,qP b] w λe w'=>e=.returned (.tuple #[])/\Below w.heap.size (w.setCell (O b 0) (J (wrap64 (n+x.found)))) w':=by
 have a:=World.block_lt_of_cell? _ _ c;have k:=λy=>Bf (Bg w y) c;have kf:=λy=>((Bg w y).frozen (p:=(O b 0)) a).trans d;go_enter Tryz.func241,Tryz.ntmps241;go_wp2;refine bodyPost_end (v:=.tuple #[]) (by simp[results,Tryz.results241,go_sem]) rfl ⟨rfl,by simpa using Bg (w.setCell (O b 0) (J (wrap64 (n+x.found)))) _⟩
structure AllI (w:qW)(v:Value)(xs:List QT)(m:Nat)(val:List QL->Int)(l:List QL)(w':qW):Prop where
 bel:qY w w'
 there:m<w'.heap.size
 tal:Ep (λb=>b<w.heap.size) w' v xs
 cell:w'.cell? (O m 0)=some (J (val l))
 fz:w'.frozen? (O m 0)=false
theorem AllI.later {w:qW}{v:Value}{xs:List QT}{m:Nat}{val:List QL->Int}{l:List QL}{w' w'':qW}(h:AllI w v xs m val l w')(a:qY w' w''):AllI w v xs m val l w'':=
 ⟨Bh h.bel a,Cd h.there a.size,h.tal.later xbD a,Bf a h.cell,(a.frozen (p:=(O m 0)) h.there).trans h.fz⟩
theorem xqY {P:Nat->Prop}(xs:List QT)(s:QS)(v:Value)(w:qW)(g:Ep P w v xs):Calls Tryz.prog 201 #[v,SV s] w λe w'=>e=.returned (J (GD (Dl xs s)))/\qY w w':=by
 have n:=Gm;have m:=xgV g;obtain⟨ad,cap,rfl,-,-,-,-⟩:=id g;have c:=BG w (qJ s) (qC #[J 0] 3)
 have j:AllI w (qS ad xs.length cap) xs (w.heap.size+1) GD [] ((w.alloc (qJ s)).alloc (qC #[J 0] 3)):=
  ⟨c,by simp,m.later xbD c,by rw[Bp _ _ _ _ (by simp)];rfl,xht _ _ _ _ _ (by simp)⟩
 have i:=(Lf w s 105).later (Bg _ (qC #[J 0] 3));obtain⟨s0,s1,s2⟩:=i;go_enter Tryz.func201,Tryz.ntmps201;go_wp2_with fail;refine (xmU (P:=λb=>b<w.heap.size) (AllI w (qS ad xs.length cap) xs (w.heap.size+1) GD) (w.heap.size+1) _ xs s _ _ j (by simp) (λb f=>by omega) (λl w' h=>h.tal) (λl w' w'' h f=>h.later f) λl x w' h=>?_).mono ?_
 ·refine (xoA x _ _ w' h.cell h.fz).mono ?_;rintro e w'' ⟨rfl,f⟩;have d:Below (w'.setCell (O (w.heap.size+1) 0) (J (wrap64 (GD l+x.found)))).heap.size (w'.setCell (O (w.heap.size+1) 0) (J (wrap64 (GD l+x.found)))) w'':=by simpa using f
  refine⟨rfl,AllI.later ⟨h.bel.setCell (by simp) _,by simpa using h.there,h.tal.keep xbD (Keeps.of_setCell (by simp) _) (λ_ h=>h),?_,?_⟩ d,?_,?_⟩
  ·rw[xju];exact Kw h.cell _
  ·simpa using h.fz
  ·exact (Keeps.of_setCell (by simp) _).trans (Keeps.of_below d)
  simpa using f.size
 rintro e w1 ⟨rfl,a⟩;have k:=a.cell;go_wp2;go_ret;exact⟨rfl,a.bel⟩
def GN (p:QL)(x:QL):QL:=if x.found>p.found\/(x.found>0/\x.found=p.found/\x.cls<p.cls) then x else p
def Gc (ls:List QL):QL:=ls.foldl GN ⟨-1,0⟩
theorem xhM (l:List QL)(x:QL):Gc (l++[x])=GN (Gc l) x:=by simp[Gc]
structure MostP (w:qW)(b:Nat)(q:QL)(w':qW):Prop where
 bel:Below b w w'
 keep:Keeps (λk=>k≠b) w w'
 c0:w'.cell? (O b 0)=some (J q.cls)
 c1:w'.cell? (O b 1)=some (J q.found)
 fz:∀o,w'.frozen? (O b o)=false
theorem MostP.same {w:qW}{b:Nat}{p:QL}(d:w.cell? (O b 0)=some (J p.cls))(f:w.cell? (O b 1)=some (J p.found))(g:∀o,w.frozen? (O b o)=false){w':qW}(c:qY w w'):MostP w b p w':=by
 have a:=World.block_lt_of_cell? _ _ d;have e:b<w.heap.size:=a;exact⟨c.mono (by omega),.of_below c,Bf c d,Bf c f,λo=>(c.frozen (p:=(O b o)) a).trans (g o)⟩
theorem MostP.set {w:qW}{b:Nat}{p x:QL}(c:w.cell? (O b 0)=some (J p.cls))(f:w.cell? (O b 1)=some (J p.found))(g:∀o,w.frozen? (O b o)=false){w':qW}(h:Below w.heap.size ((w.setCell (O b 0) (J x.cls)).setCell (O b 1) (J x.found)) w'):MostP w b x w':=by
 have d:b<w.heap.size:=World.block_lt_of_cell? _ _ c;have a:Below ((w.setCell (O b 0) (J x.cls)).setCell (O b 1) (J x.found)).heap.size ((w.setCell (O b 0) (J x.cls)).setCell (O b 1) (J x.found)) w':=by simpa using h
 have c0:((w.setCell (O b 0) (J x.cls)).setCell (O b 1) (J x.found)).cell? (O b 0)=some (J x.cls):=by
  rw[DX _ _ _ _ (by intro e;injection e with _ e2 _;omega)];exact Kw c _
 have c1:((w.setCell (O b 0) (J x.cls)).setCell (O b 1) (J x.found)).cell? (O b 1)=some (J x.found):=by
  refine Kw (v:=J p.found) ?_ _;rw[DX _ _ _ _ (by intro e;injection e with _ e2 _;omega)];exact f
 have fz:∀o,((w.setCell (O b 0) (J x.cls)).setCell (O b 1) (J x.found)).frozen? (O b o)=false:=λo=>by simpa using g o
 have:=MostP.same c0 c1 fz a;exact⟨(((Br b w).setCell (Bq _) _).setCell (Bq _) _).trans this.bel,((Keeps.of_setCell (by simp) _).trans (Keeps.of_setCell (by simp) _)).trans this.keep,this.c0,this.c1,this.fz⟩
theorem xmE (x p:QL)(b:Nat)(w:qW)(c:w.cell? (O b 0)=some (J p.cls))(d:w.cell? (O b 1)=some (J p.found))(f:∀o,w.frozen? (O b o)=false):Calls Tryz.prog 242 #[LV x,qP b] w λe w'=>e=.returned (.tuple #[])/\MostP w b (GN p x) w':=by
 have i:b<w.heap.size:=World.block_lt_of_cell? _ _ c;have k0:=λy=>Bf (Bg w y) c;have k1:=λy=>Bf (Bg w y) d;have kf:=λy o=>((Bg w y).frozen (p:=(O b o)) i).trans (f o);by_cases hA:p.found<x.found
 ·have a:Hid (GN p x=x):=by show _=_;unfold GN;rw[if_pos (Or.inl hA)]
  have l:decide (p.found<x.found)=true:=by simpa using hA
  go_enter Tryz.func242,Tryz.ntmps242;go_wp2;refine bodyPost_end (v:=.tuple #[]) (by simp[results,Tryz.results242,go_sem]) rfl ⟨rfl,?_⟩;rw[a.out];exact MostP.set c d f (by simpa using Bg ((w.setCell (O b 0) (J x.cls)).setCell (O b 1) (J x.found)) _)
 have k:decide (p.found<x.found)=false:=by simpa using hA
 by_cases hB:0<x.found
 ·have h:decide (0<x.found)=true:=by simpa using hB
  by_cases hC:x.found=p.found
  ·by_cases hD:x.cls<p.cls
   ·have a:Hid (GN p x=x):=by show _=_;unfold GN;rw[if_pos (Or.inr ⟨hB,hC,hD⟩)]
    have j:decide (x.cls<p.cls)=true:=by simpa using hD
    have g:(x.found == p.found)=true:=by simpa using hC
    go_enter Tryz.func242,Tryz.ntmps242;go_wp2;refine bodyPost_end (v:=.tuple #[]) (by simp[results,Tryz.results242,go_sem]) rfl ⟨rfl,?_⟩;rw[a.out]
    first
    | exact MostP.set c d f (by simpa using Bg ((w.setCell (O b 0) (J x.cls)).setCell (O b 1) (J x.found)) _)
    | exact MostP.set c d f (by simpa [hC] using Bg ((w.setCell (O b 0) (J x.cls)).setCell (O b 1) (J x.found)) _)
   have a:Hid (GN p x=p):=by show _=_;unfold GN;rw[if_neg (by omega)]
   have j:decide (x.cls<p.cls)=false:=by simpa using hD
   have g:(x.found == p.found)=true:=by simpa using hC
   go_enter Tryz.func242,Tryz.ntmps242;go_wp2;refine bodyPost_end (v:=.tuple #[]) (by simp[results,Tryz.results242,go_sem]) rfl ⟨rfl,?_⟩;rw[a.out];exact MostP.same c d f (Bg _ _)
  have a:Hid (GN p x=p):=by show _=_;unfold GN;rw[if_neg (by omega)]
  have g:(x.found == p.found)=false:=by simpa using hC
  go_enter Tryz.func242,Tryz.ntmps242;go_wp2;refine bodyPost_end (v:=.tuple #[]) (by simp[results,Tryz.results242,go_sem]) rfl ⟨rfl,?_⟩;rw[a.out];exact MostP.same c d f (Bg _ _)
 have a:Hid (GN p x=p):=by show _=_;unfold GN;rw[if_neg (by omega)]
 have h:decide (0<x.found)=false:=by simpa using hB
 go_enter Tryz.func242,Tryz.ntmps242;go_wp2;refine bodyPost_end (v:=.tuple #[]) (by simp[results,Tryz.results242,go_sem]) rfl ⟨rfl,?_⟩;rw[a.out];exact MostP.same c d f (Bg _ _)
structure MostI (w:qW)(v:Value)(xs:List QT)(m:Nat)(l:List QL)(w':qW):Prop where
 bel:qY w w'
 there:m<w'.heap.size
 tal:Ep (λb=>b<w.heap.size) w' v xs
 c0:w'.cell? (O m 0)=some (J (Gc l).cls)
 c1:w'.cell? (O m 1)=some (J (Gc l).found)
 fz:∀o,w'.frozen? (O m o)=false
theorem MostI.later {w:qW}{v:Value}{xs:List QT}{m:Nat}{l:List QL}{w' w'':qW}(h:MostI w v xs m l w')(a:qY w' w''):MostI w v xs m l w'':=
 ⟨Bh h.bel a,Cd h.there a.size,h.tal.later xbD a,Bf a h.c0,Bf a h.c1,λo=>(a.frozen (p:=(O m o)) h.there).trans (h.fz o)⟩
theorem xo4 {P:Nat->Prop}(xs:List QT)(s:QS)(v:Value)(w:qW)(g:Ep P w v xs):Calls Tryz.prog 202 #[v,SV s] w λe w'=>e=.returned (.tuple #[J (Gc (Dl xs s)).cls,J (Gc (Dl xs s)).found])/\qY w w':=by
 have m:=Gm;have k:=xgV g;obtain⟨ad,cap,rfl,-,-,-,-⟩:=id g;have d:=BG w (qJ s) (qC #[J (-1),J 0] 147)
 have j:MostI w (qS ad xs.length cap) xs (w.heap.size+1) [] ((w.alloc (qJ s)).alloc (qC #[J (-1),J 0] 147)):=
  ⟨d,by simp,k.later xbD d,by rw[Bp _ _ _ _ (by simp)];rfl,by rw[Bp _ _ _ _ (by simp)];rfl,λo=>xht _ _ _ _ _ (by simp)⟩
 have i:=(Lf w s 105).later (Bg _ (qC #[J (-1),J 0] 147));obtain⟨s0,s1,s2⟩:=i;go_enter Tryz.func202,Tryz.ntmps202;go_wp2_with fail;refine (xmP (P:=λb=>b<w.heap.size) (MostI w (qS ad xs.length cap) xs (w.heap.size+1)) (w.heap.size+1) _ xs s _ _ j (by simp) (λb f=>by omega) (λl w' h=>h.tal) (λl w' w'' h f=>h.later f) λl x w' h=>?_).mono ?_
 ·refine (xmE x (Gc l) _ w' h.c0 h.c1 h.fz).mono ?_;rintro e w'' ⟨rfl,c⟩;refine⟨rfl,⟨h.bel.trans (c.bel.mono (by omega)),Cd h.there c.bel.size,h.tal.keep xbD (c.keep.mono (λb f=>by omega)) (λ_ h=>h),?_,?_,c.fz⟩,c.keep,c.bel.size⟩
  ·rw[xhM];exact c.c0
  rw[xhM];exact c.c1
 rintro e w1 ⟨rfl,a⟩;have k0:=a.c0;have k1:=a.c1;go_wp2;go_quiet (fail);go_wp2
 go_ret2
 exact⟨rfl,below_drewN a.bel _⟩
def GM (i:QI):Bool:=i.op == 14 || i.op == 13
def FH (m:QM):Bool:=m.prim == 0 && !m.code.any GM
theorem xmn (x:QI)(w:qW):Calls Tryz.prog 239 #[IV x] w λe w'=>e=.returned (.bool (GM x))/\qY w w':=by
 by_cases h:x.op=14
 ·have b:(x.op == 14)=true:=by simpa using h
  have a:Hid (GM x=true):=by show _=_;simp[GM,h]
  clear h;go_enter Tryz.func239,Tryz.ntmps239;go_wp2;go_ret;exact⟨Cq a.out.symm,Bg _ _⟩
 have b:(x.op == 14)=false:=by simpa using h
 have a:Hid (GM x=(x.op == 13)):=by show _=_;simp[GM,h]
 clear h;go_enter Tryz.func239,Tryz.ntmps239;go_wp2;go_ret;exact⟨Cq a.out.symm,Bg _ _⟩
theorem xmp {P:Nat->Prop}(xs:List QI)(v:Value)(w:qW)(G:Cm P w v xs) :
  Calls Tryz.prog 262 #[v,.func (.func 239) #[] #[]] w λe w'=>e=.returned (J (CB GM xs))/\qY w w':=by
 obtain⟨ad,cap,rfl,H,p,r,d⟩:=G;go_enter Tryz.func262,Tryz.ntmps262;go_wp2
 go_loopg [8] xs.length (λg c wr=>∃j:Nat,j+g=xs.length/\c=J j/\qY w wr/\∀i y,i<j->xs[i]?=some y->GM y=false)
 case atStart=>exact⟨0,by omega,rfl,Br _ _,λi y F=>by omega⟩
 case round=>
  obtain⟨j,K,rfl,a,l⟩:=hrel;have u:Hid (∀i y,i<j->xs[i]?=some y->GM y=false):=l;clear l;by_cases hlt:j<xs.length
  ·obtain⟨b,o,rfl,-,f,n,h,k,m,q⟩:=d j xs[j] (by simp[hlt]);have t:Hid (xs[j]?=some xs[j]):=by show _=_;simp[hlt]
   generalize xs[j]=x at *;simp only[Nat.add_zero] at f;have u0:=Bf a f;have u1:=Bf a n;have u2:=Bf a h;have u3:=Bf a k;have u4:=Bf a m;clear f n h k m d;have C:(j:Int)<(xs.length:Int):=by omega
   have D:(0:Int)<=(j:Int):=by omega
   go_wp2_with fail;refine (xmn x _).mono ?_;rintro e w1 ⟨rfl,B⟩;by_cases hp:GM x=true
   ·go_wp2;go_ret;exact⟨BT (Kq t.out hp u.out).symm,Bh a B⟩
   have z:GM x=false:=by simpa using hp
   clear hp;go_wp2;go_roundg (gk-1)
   case measure=>omega
   case rel=>
    refine⟨j+1,by omega,by go_num,Bh a B,λi y F s=>?_⟩;by_cases hij:i=j
    ·subst hij;rw[t.out] at s;cases s;exact z
    exact u.out i y (by omega) s
  obtain rfl:j=xs.length:=by omega
  go_wp2;go_ret;exact⟨BT (Lq λi y s=>u.out i y (Bz s) s).symm,a⟩
theorem xn8 {α:Type}(p:α->Bool)(xs:List α):decide (0<=CB p xs)=xs.any p:=by
 unfold CB
 cases h:xs.findIdx? p with
 | none=>
  rw[List.findIdx?_eq_none_iff] at h
  have:xs.any p=false:=by
   rw[List.any_eq_false];intro x c;simp[h x c]
  simp[this]
 | some j=>
  rw[List.findIdx?_eq_some_iff_getElem] at h;obtain⟨a,b,-⟩:=h
  have:xs.any p=true:=by
   rw[List.any_eq_true];exact⟨_,List.getElem_mem a,b⟩
  rw[this];simp
theorem xjy {P:Nat->Prop}(xs:List QI)(v:Value)(w:qW)(b:Cm P w v xs) :
  Calls Tryz.prog 238 #[v,.func (.func 239) #[] #[]] w λe w'=>e=.returned (.bool (xs.any GM))/\qY w w':=by
 go_enter Tryz.func238,Tryz.ntmps238;go_wp2_with fail;refine (xmp xs v _ b).mono ?_;rintro e w1 ⟨rfl,a⟩;go_wp2;go_ret;exact⟨Cq (xn8 GM xs),a⟩
theorem xlq {P:Nat->Prop}(x:QM)(v:Value)(w:qW)(b:Cm P w v x.code):Calls Tryz.prog 198 #[MV x v] w λe w'=>e=.returned (.bool (FH x))/\qY w w':=by
 obtain⟨ad,cap,rfl,-⟩:=id b;by_cases h:x.prim=0
 ·have c:(x.prim == 0)=true:=by simpa using h
  have a:Hid (FH x=!x.code.any GM):=by show _=_;simp[FH,h]
  clear h;go_enter Tryz.func198,Tryz.ntmps198;go_wp2_with fail;refine (xjy x.code _ _ (b.later BR (Bg _ _))).mono ?_;rintro e w1 ⟨rfl,d⟩;go_wp2;go_ret;exact⟨Cq a.out.symm,EB (Br _ _) d⟩
 have c:(x.prim == 0)=false:=by simpa using h
 have a:Hid (FH x=false):=by show _=_;simp[FH,h]
 clear h;go_enter Tryz.func198,Tryz.ntmps198;go_wp2;go_ret;exact⟨Cq a.out.symm,Bg _ _⟩
theorem xlp {xs:List QC}{name:ByteArray}:∀(l:List Int),0<=(Fl xs name l).2->(Fl xs name l).2=CZ (Km xs (Fl xs name l).1) name
 | [],h=>by simp[Fl] at h
 | k :: r,h=>by
  unfold Fl at h ⊢;by_cases hk:0<=CZ (Km xs k) name
  ·rw[if_pos hk]
  rw[if_neg hk] at h ⊢;exact xlp r h
theorem xjD {xs:List QC}{k:Int}{name:ByteArray}(h:0<=CZ (Km xs k) name):∃(q:Nat) (x:QC),k=(q:Int)/\xs[q]?=some x/\Km xs k=x.mz:=by
 unfold Km at h ⊢
 cases a:Cy xs k with
 | none=>rw[a] at h;simp[CZ,CB] at h
 | some x=>
  obtain⟨q,rfl,b⟩:=Gl a;exact⟨q,x,rfl,b,rfl⟩
theorem xih {xs:List QC}{name:ByteArray}:∀ {l:List Int},(∀k∈l,0<=k)->((Fl xs name l).1<0/\(Fl xs name l).2<0)\/(0<=(Fl xs name l).1/\0<=(Fl xs name l).2)
 | [],_=>Or.inl (by simp[Fl])
 | k :: r,h=>by
  unfold Fl;split
  ·rename_i a;exact Or.inr ⟨h k (by simp),a⟩
  exact xih λq b=>h q (by simp[b])
theorem xmA (xs:List QC)(c:Int)(name:ByteArray):((BF xs c name).1<0/\(BF xs c name).2<0)\/(0<=(BF xs c name).1/\0<=(BF xs c name).2):=by
 rw[NP];refine xih λk b=>?_;obtain⟨i,a,rfl⟩:=List.mem_iff_getElem.1 b;obtain⟨q,x,e,-⟩:=xgf _ _ i _ (by rw[List.getElem?_eq_getElem a]);rw[e];omega
theorem xmB {xs:List QC}{k:Int}{name:ByteArray}(h:0<=(BF xs k name).2):∃(q:Nat) (x:QC) (t:Nat) (y:QM),BF xs k name=((q:Int),(t:Int))/\xs[q]?=some x/\x.mz[t]?=some y:=by
 rw[NP] at h ⊢;generalize KX xs (xs.length+1) k=l at *;have a:=xlp l h;have c:0<=CZ (Km xs (Fl xs name l).1) name:=by omega
 obtain⟨q,x,d,f,e⟩:=xjD c;rw[e] at a c;rcases MT (λm:QM=>CD m.name name) x.mz with h3 | ⟨t,y,ht,hy,hp,-⟩
 ·have:CZ x.mz name=-1:=h3;omega
 have b:CZ x.mz name=(t:Int):=ht;refine⟨q,x,t,y,?_,f,hy⟩;rw[b] at a;exact Prod.ext d a
theorem xfs (xs:List QC)(k:Int)(name:ByteArray):((BF xs k name).1<0/\(BF xs k name).2<0)\/∃(q:Nat) (x:QC) (t:Nat) (y:QM),BF xs k name=((q:Int),(t:Int))/\xs[q]?=some x/\x.mz[t]?=some y:=by
 rcases xmA xs k name with h | h
 ·exact Or.inl h
 exact Or.inr (xmB h.2)
def Hb (xs:List QC)(c:Int)(name:ByteArray)(args:Int):Bool:=
 if (BF xs c name).2<0 then false else
 match (xs[(BF xs c name).1.toNat]?).bind λx=>x.mz[(BF xs c name).2.toNat]? with
 | some m=>m.args == args && FH m
 | none=>false
theorem xob {xs:List QC}{c:Int}{name:ByteArray}(a:Int)(h:(BF xs c name).2<0):Hb xs c name a=false:=by simp[Hb,h]
theorem xmt {xs:List QC}{c:Int}{name:ByteArray}(a:Int){q t:Nat}{x:QC}{m:QM}(h:BF xs c name=((q:Int),(t:Int)))(d:xs[q]?=some x)(b:x.mz[t]?=some m):Hb xs c name a=(m.args == a && FH m):=by
 unfold Hb;rw[h];simp[d,b]
theorem xe7 {P:Nat->Prop}(X:QW)(c:Int)(name:ByteArray)(a:Int)(cv hv:Value)(w:qW)(H:BK P w cv X.cz)(F:BP P w hv X.heap) :
  Calls Tryz.prog 203 #[WV cv hv X.ez,J c,qZ name,J a] w λe w'=>e=.returned (.bool (Hb X.cz c name a))/\qY w w':=by
 obtain⟨ad,cap,rfl,U,j,p,d⟩:=id H;obtain⟨ah,ch,rfl,-,-,-,-⟩:=id F;have y:=Bg w (qA ad cap ah ch X);have k0:(w.alloc (qA ad cap ah ch X)).cell? (O w.heap.size 0)=some (qS ad X.cz.length cap):=by rw[Bp _ _ _ _ rfl];rfl
 go_enter Tryz.func203,Tryz.ntmps203;go_wp2_with fail;refine (Mb X c name _ _ _ (H.later Bw (Bg _ _)) (F.later BB (Bg _ _))).mono ?_;rintro e w1 ⟨rfl,K⟩;replace k0:=Bf K k0;have s:=Bh y K;clear y K;rcases xfs X.cz c name with ⟨N,T⟩ | ⟨q,x,t,m,G,z,B⟩
 ·have u:Hid (Hb X.cz c name a=false):=xob a T;have v:decide ((BF X.cz c name).1<0)=true:=by simpa using N
  generalize BF X.cz c name=f at *;obtain⟨f1,f2⟩:=f;go_wp2;go_ret;exact⟨Cq u.out.symm,s⟩
 have u:Hid (Hb X.cz c name a=(m.args == a && FH m)):=xmt a G z B;rw[G];have V:=Bz z;have W:=Bz B;obtain⟨b,o,rfl,-,-,-,-,-,mv,i,k⟩:=d q x z;obtain⟨am,cm,rfl,r,n,-,h⟩:=k;obtain⟨b2,o2,rfl,-,y0,y1,y2,y3,-,sv,y4,g⟩:=h t m B;obtain⟨ac,cc,rfl,-,-,-,-⟩:=id g;simp only[Nat.add_zero] at y0;have u3:=Bf s i;have z0:=Bf s y0;have z1:=Bf s y1;have z2:=Bf s y2;have z3:=Bf s y3;have z4:=Bf s y4;have D:=g.later BR s;unfold maxLen at j n;have L:(q:Int)<(X.cz.length:Int):=by omega
 have R:(0:Int)<=(q:Int):=by omega
 have S:(t:Int)<(x.mz.length:Int):=by omega
 have Q:(0:Int)<=(t:Int):=by omega
 have M:decide ((q:Int)<0)=false:=by simp
 clear d h z B G i y0 y1 y2 y3 y4 g H F;by_cases ha:m.args=a
 ·have v:(m.args == a)=true:=by simpa using ha
  have C:Hid (Hb X.cz c name a=FH m):=by show _=_;rw[u.out,v];simp
  subst ha;clear v u;go_wp2_with fail;refine (xlq m _ _ (D.later BR (Bg _ _))).mono ?_;rintro e w2 ⟨rfl,l⟩;go_wp2;go_ret;exact⟨Cq C.out.symm,Bh s (EB (Br _ _) l)⟩
 have v:(m.args == a)=false:=by simpa using ha
 have C:Hid (Hb X.cz c name a=false):=by show _=_;rw[u.out,v];simp
 clear u ha;go_wp2;go_ret;exact⟨Cq C.out.symm,Bh s (Bg _ _)⟩
theorem xoV (ls:List QL):0<=(Gc ls).found:=by
 have:∀(l:List QL) (p:QL),0<=p.found->0<=(l.foldl GN p).found:=by
  intro l
  induction l with
  | nil=>exact λp h=>h
  | cons x r ih=>
   intro p h;refine ih _ ?_;unfold GN;split<;>omega
 exact this ls _ (by simp)
theorem xmV (ls:List QL):-9223372036854775808<=GD ls/\GD ls<9223372036854775808:=by
 rcases List.eq_nil_or_concat ls with rfl | ⟨r,x,rfl⟩
 ·simp[GD]
 rw[List.concat_eq_append,xju];unfold wrap64;omega
theorem xnc {a n:Int}(b:¬ a<2)(c:a<9223372036854775808):n<=wrap64 (a.tdiv 2) ↔ n+n<=a:=by
 rw[Int.tdiv_eq_ediv_of_nonneg (by omega)];unfold wrap64;omega
def Ld (X:QW)(t:List QT)(s:QS)(name:ByteArray)(args:Int):Int:=
 if GD (Dl t s)<2\/(Gc (Dl t s)).found+(Gc (Dl t s)).found<=GD (Dl t s)\/Hb X.cz (Gc (Dl t s)).cls name args=false then -1 else (Gc (Dl t s)).cls
structure SiteB (w:qW)(ad:Option Addr)(n cap:Nat)(ah:Option Addr)(nh ch:Nat)(ep:Int)(b:Nat)(s:QS)(w':qW):Prop where
 k0:w'.cell? (O b 0)=some (qS ad n cap)
 k1:w'.cell? (O b 1)=some (qS ah nh ch)
 k2:w'.cell? (O b 2)=some (J ep)
 s:SiteAt w' (b+1) s
 bel:qY w w'
theorem SiteB.later {w:qW}{ad:Option Addr}{n cap:Nat}{ah:Option Addr}{nh ch:Nat}{ep:Int}{b:Nat}{s:QS}{w' w'':qW}(h:SiteB w ad n cap ah nh ch ep b s w')(a:qY w' w''):SiteB w ad n cap ah nh ch ep b s w'':=
 ⟨Bf a h.k0,Bf a h.k1,Bf a h.k2,h.s.later a,Bh h.bel a⟩
theorem xoB (w:qW)(ad:Option Addr)(n cap:Nat)(ah:Option Addr)(nh ch:Nat)(ep:Int)(s:QS):SiteB w ad n cap ah nh ch ep w.heap.size s ((w.alloc (qC #[qS ad n cap,qS ah nh ch,J ep] 26)).alloc (qJ s)):=by
 refine⟨?_,?_,?_,?_,BG _ _ _⟩
 ·exact Bf (Bg _ _) (by rw[Bp _ _ _ _ rfl];rfl)
 ·exact Bf (Bg _ _) (by rw[Bp _ _ _ _ rfl];rfl)
 ·exact Bf (Bg _ _) (by rw[Bp _ _ _ _ rfl];rfl)
 have:=Lf (w.alloc (qC #[qS ad n cap,qS ah nh ch,J ep] 26)) s 105;simpa using this
theorem xm7 {P P2:Nat->Prop}(X:QW)(t:List QT)(s:QS)(name:ByteArray)(b:Int)(cv hv tv:Value)(w:qW)(y:BK P w cv X.cz)(B:BP P w hv X.heap)(C:Ep P2 w tv t) :
  Calls Tryz.prog 158 #[WV cv hv X.ez,tv,SV s,qZ name,J b] w λe w'=>e=.returned (J (Ld X t s name b))/\qY w w':=by
 obtain⟨ad,cap,rfl,-⟩:=id y;obtain⟨ah,ch,rfl,-⟩:=id B;have j:=xoB w ad X.cz.length cap ah X.heap.length ch X.ez s;go_enter Tryz.func158,Tryz.ntmps158;go_upto_region 1 with (fail);generalize (w.alloc (qA ad cap ah ch X)).alloc (qJ s)=W0 at *;have k:=C.later xbD j.bel;have u:=y.later Bw j.bel;have v:=B.later BB j.bel;obtain⟨s0,s1,s2⟩:=j.s;go_wp2_with fail;refine (xqY t s _ _ k).mono ?_;rintro e w1 ⟨rfl,f⟩;replace j:=j.later f;replace k:=k.later xbD f;clear f s0 s1 s2;obtain⟨s0,s1,s2⟩:=j.s;go_wp2_with fail;refine (xo4 t s _ _ k).mono ?_;rintro e w2 ⟨rfl,g⟩;replace j:=j.later g;clear g s0 s1 s2 k;have l:Hid (Ld X t s name b=if GD (Dl t s)<2\/(Gc (Dl t s)).found+(Gc (Dl t s)).found<=GD (Dl t s)\/Hb X.cz (Gc (Dl t s)).cls name b=false then -1 else (Gc (Dl t s)).cls):=rfl;have o:=(xmV (Dl t s)).2;have D:=xoV (Dl t s);generalize GD (Dl t s)=a at *;generalize Gc (Dl t s)=p at *;obtain⟨pc,pn⟩:=p;simp only at *;have n:=y.later Bw j.bel;have q:=B.later BB j.bel;clear C u v;obtain⟨k0,k1,k2,-,c⟩:=j;by_cases h1:a<2
 ·have F:decide (a<2)=true:=by simpa using h1
  have m:Hid (Ld X t s name b=-1):=by show _=_;rw[l.out,if_pos (Or.inl h1)]
  clear l;go_wp2;go_ret;exact⟨BT m.out.symm,c⟩
 have F:decide (a<2)=false:=by simpa using h1
 by_cases h2:pn+pn<=a
 ·have r:decide (pn<=wrap64 (a.tdiv 2))=true:=by simpa using (xnc h1 o).2 h2
  have m:Hid (Ld X t s name b=-1):=by show _=_;rw[l.out,if_pos (Or.inr (Or.inl h2))]
  clear l h1 h2;go_wp2;go_ret;exact⟨BT m.out.symm,c⟩
 have r:decide (pn<=wrap64 (a.tdiv 2))=false:=by
  have:=λh=>h2 ((xnc h1 o).1 h);simpa using this
 cases i:Hb X.cz pc name b
 ·have m:Hid (Ld X t s name b=-1):=by show _=_;rw[l.out,if_pos (Or.inr (Or.inr i))]
  have z:Hid (Hb X.cz pc name b=false):=i;clear l h1 h2 i;go_wp2_with fail;refine (xe7 X pc name b _ _ _ n q).mono ?_;rintro e w3 ⟨rfl,d⟩;rw[z.out];go_wp2;go_ret;exact⟨BT m.out.symm,Bh c d⟩
 have m:Hid (Ld X t s name b=pc):=by show _=_;rw[l.out,if_neg (by simp[h1,h2,i])]
 have z:Hid (Hb X.cz pc name b=true):=i;clear l h1 h2 i;go_wp2_with fail;refine (xe7 X pc name b _ _ _ n q).mono ?_;rintro e w3 ⟨rfl,d⟩;rw[z.out];go_wp2;go_ret;exact⟨BT m.out.symm,Bh c d⟩
end Go.Proofs.YtbafokihegegiaaGreatDoor
