/- A part. -/
import Derived.Test.YtbafokihegegiaaGreatDoorT17
namespace Go.Proofs.YtbafokihegegiaaGreatDoor
open Go.ChangeShapes Go.WideShapes Go.ChangeAt Go.RowKit
set_option linter.unusedSimpArgs false
set_option linter.unusedVariables false
set_option maxHeartbeats 8000000
structure LfQ (FC:List QI)(T0:Nat)(behind:Int)(base:List QV)(f0:Fr)(v:QV)(ff:Fr):Prop where
 fast:ff.fast=true
 code:ff.code=FC
 cls:ff.cls=f0.cls
 meth:ff.meth=f0.meth
 self:ff.self=f0.self
 args:ff.args=f0.args
 len:ff.temps.length=f0.temps.length
 take:ff.temps.take T0=f0.temps.take T0
 pc:ff.pc=behind
 stack:ff.stack=base++[v]
section
variable {σ:Type} {ent ent':CC σ} {E E':Env σ} {d d':Nat}
theorem xlB (s:Gn ent)(c:Gn ent')(e:LS ent'){LC FC:List QI}{T0 A first:Nat}{base:List QV}{f0:Fr}(a:∀x∈LC,x.op≠13/\x.op≠14)(b:∀(j:Nat) x,LC[j]?=some x->FC[first+j]?=some (Cc T0 (T0+1) (T0+1+A) first ((first:Int)+LC.length) x)) :
  ∀(N:Nat) (m:Mc σ) (ff lf:Fr),LfP LC FC T0 A first base f0 ff lf->DV m->Cz m ff<=N->
   ((Dp ent' E' d' m lf).2.2≠0/\Dp ent E d m ff=((Dp ent' E' d' m lf).1,BC,(Dp ent' E' d' m lf).2.2))\/
   ((Dp ent' E' d' m lf).2.2=0/\DV (Dp ent' E' d' m lf).1/\∃ff',LfQ FC T0 ((first:Int)+LC.length) base f0 (Dp ent' E' d' m lf).2.1 ff'/\Dp ent E d m ff=Dp ent E d (Dp ent' E' d' m lf).1 ff'/\Cz (Dp ent' E' d' m lf).1 ff'<Cz m ff):=by
  intro N;induction N using Nat.strongRecOn;rename_i N iH;intro m ff lf h hT hN
  obtain⟨j,x,o⟩:=h.pl.nx;have p:LC[j]?=some x:=by rw[← h.lcode];exact o.here
  have y:=Bz p;have n:EK lf=some x:=by unfold EK;rw[o.pc,if_neg (by omega)];simpa using o.here
  have q:ff.pc=((first+j:Nat):Int):=by rw[h.pc,o.pc];omega
  have l:EK ff=some (Cc T0 (T0+1) (T0+1+A) first ((first:Int)+LC.length) x):=by
   unfold EK;rw[q,if_neg (by omega),h.code,Int.toNat_natCast];exact b j x p
  obtain⟨g,i⟩:=a x (List.mem_of_getElem? p);have B:=o.kind;by_cases h17:x.op=17
  ·right;have e1:Dp ent' E' d' m lf=(m,lf.top,0):=xkG n h17;rw[e1];have e2:Cc T0 (T0+1) (T0+1+A) first ((first:Int)+LC.length) x=BQ 15 ((first:Int)+LC.length) 0 0:=by simp[Cc,h17]
   rw[e2] at l
   have e3:BD ent E d m { ff with pc:=ff.pc+1 } ff.pc (BQ 15 ((first:Int)+LC.length) 0 0)=(m,{ ff with pc:=(first:Int)+LC.length },0):=by
    rw[MW (by rfl)];rcases Lv m { ff with pc:=ff.pc+1 } ff.pc ((first:Int)+LC.length) hT with ⟨k,-⟩ | ⟨k,-⟩ | ⟨-,k⟩
    ·omega
    ·omega
    exact k
   obtain⟨g1,g2,g3⟩:=Lx s (E:=E) (d:=d) hT.1 l (by simp) (by rw[e3]);rw[e3] at g1 g2;refine⟨rfl,hT,{ ff with pc:=(first:Int)+LC.length },⟨h.fast,h.code,h.cls,h.meth,h.self,h.args,h.len,h.take,rfl,?_⟩,g1,g2⟩;have r:=o.back h17
   obtain⟨v,hv⟩:∃v,lf.stack=[v]:=by
    match hs:lf.stack,r with
    | [v],_=>exact⟨v,rfl⟩
   show ff.stack=base++[CL lf.stack 0];rw[h.stack,hv];simp[CL,CR]
  have y17:(Cc T0 (T0+1) (T0+1+A) first ((first:Int)+LC.length) x).op≠17:=by
   unfold Cc;split
   ·simp
   split
   ·simp
   split
   ·rename_i z;simp;omega
   split
   ·simp
   split
   ·simp
   split
   ·rename_i z;simp;omega
   exact h17
  obtain⟨b1,b2,b3⟩:=xnZ (ent:=ent) (ent':=ent') (E:=E) (E':=E') (d:=d) (d':=d') h hT o h17 g i ((first:Int)+LC.length);by_cases hz:(BD ent' E' d' m { lf with pc:=lf.pc+1 } lf.pc x).2.2=0
  ·obtain⟨g1,g2,g3⟩:=Lx s (E:=E) (d:=d) hT.1 l y17 (by rw[b2];exact hz);obtain⟨l1,l2,l3⟩:=Lx c (E:=E') (d:=d') hT.1 n h17 hz;have t:=xgo (E:=E') (d:=d') (f:={ lf with pc:=lf.pc+1 }) (at':=lf.pc) (x:=x) e hT hz;have u:=b3 hz;rw[b1] at g1 g2;rw[g1,l1];have ih:=iH (N-1) (by omega) _ _ _ u t (by omega);rcases ih with ih | ⟨i1,i2,ff',i3,i4,i5⟩
   ·exact Or.inl ih
   exact Or.inr ⟨i1,i2,ff',i3,i4,by omega⟩
  left;rw[MM l y17 (by rw[b2];exact hz),MM n h17 hz,b1,b2];exact⟨hz,rfl⟩
end
structure Nx (f f':Fr):Prop where
 fast:f'.fast=f.fast
 code:f'.code=f.code
 cls:f'.cls=f.cls
 meth:f'.meth=f.meth
 self:f'.self=f.self
 args:f'.args=f.args
 len:f'.temps.length=f.temps.length
theorem Nx.refl (f:Fr):Nx f f:=⟨rfl,rfl,rfl,rfl,rfl,rfl,rfl⟩
theorem Nx.trans {a b c:Fr}(h:Nx a b)(k:Nx b c):Nx a c:=⟨k.fast.trans h.fast,k.code.trans h.code,k.cls.trans h.cls,k.meth.trans h.meth,k.self.trans h.self,k.args.trans h.args,k.len.trans h.len⟩
section
variable {σ:Type}
def Goes (ent:CC σ)(E:Env σ)(d:Nat)(m:Mc σ)(f f':Fr):Prop:=Dp ent E d m f=Dp ent E d m f'/\Cz m f'<=Cz m f
theorem Goes.refl (ent:CC σ)(E:Env σ)(d:Nat)(m:Mc σ)(f:Fr):Goes ent E d m f f:=⟨rfl,Bq _⟩
theorem Goes.trans {ent:CC σ}{E:Env σ}{d:Nat}{m:Mc σ}{a b c:Fr}(h:Goes ent E d m a b)(k:Goes ent E d m b c):Goes ent E d m a c:=⟨h.1.trans k.1,BX k.2 h.2⟩
variable {ent:CC σ} {E:Env σ} {d:Nat} {m:Mc σ}
theorem Px {f:Fr}{p:Nat}{x:QI}(b:f.pc=(p:Int))(a:f.code[p]?=some x):EK f=some x:=by
 unfold EK;rw[b,if_neg (by omega),Int.toNat_natCast];exact a
theorem xhn (g:Gn ent)(e:0<=m.tz){f f':Fr}{p:Nat}{x:QI}(c:f.pc=(p:Int))(h:f.code[p]?=some x)(a:x.op≠17)(b:BD ent E d m { f with pc:=f.pc+1 } f.pc x=(m,f',0)):Goes ent E d m f f':=by
 obtain⟨g1,g2,-⟩:=Lx g (E:=E) (d:=d) e (Px c h) a (by rw[b]);rw[b] at g1 g2;exact⟨g1,Nat.le_of_lt g2⟩
theorem xgL (l:List QV)(v:QV):CL (l++[v]) 0=v:=by
 rw[Qp _ _ (by simp)];simp[CL,CR]
theorem xiO (g:Gn ent)(e:0<=m.tz){f:Fr}{p n:Nat}{base:List QV}{v:QV}{a:Int}(b:f.pc=(p:Int))(k:f.code[p]?=some (BQ 11 a 0 0))(h:a=(n:Int))(c:f.stack=base++[v])(j:n<f.temps.length):∃f',Nx f f'/\f'.pc=((p+1:Nat):Int)/\f'.stack=base/\f'.temps[n]?=some v/\(∀i,i≠n->f'.temps[i]?=f.temps[i]?)/\Goes ent E d m f f':=by
 subst h;refine⟨{ f with pc:=f.pc+1,stack:=base,temps:=f.temps.set n v },⟨rfl,rfl,rfl,rfl,rfl,rfl,by simp⟩,by simp only[b];omega,rfl,by simp[j],λi l=>by simp only;rw[List.getElem?_set_ne (by omega)],?_⟩;refine xhn g e b k (by simp) ?_;rw[MN (by rfl)];simp only[Fr.pop,Fr.top,c,xgL,Mz,List.dropLast_concat]
theorem xnU (h:Gn ent)(g:0<=m.tz)(T1:Nat):∀(n:Nat) (f:Fr) (p:Nat) (base as':List QV),f.pc=(p:Int)->(∀(j:Nat) y,(Fq (T1:Int) n)[j]?=some y->f.code[p+j]?=some y)->f.stack=base++as'->as'.length=n->T1+n<=f.temps.length->
  ∃f',Nx f f'/\f'.pc=((p+n:Nat):Int)/\f'.stack=base/\(∀(i:Nat) v,as'[i]?=some v->f'.temps[T1+i]?=some v)/\(∀i,i<T1\/T1+n<=i->f'.temps[i]?=f.temps[i]?)/\Goes ent E d m f f'
 | 0,f,p,base,as',hp,hc,hs,hl,hn=>by
  obtain rfl:=List.eq_nil_of_length_eq_zero hl;exact⟨f,.refl f,hp,by simpa using hs,λi v hv=>by simp at hv,λi _=>rfl,.refl _ _ _ _ _⟩
 | n+1,f,p,base,as',hp,hc,hs,hl,hn=>by
  obtain⟨bs,v,rfl⟩:∃bs v,as'=bs++[v]:=⟨as'.dropLast,as'.getLast (by intro e;subst e;simp at hl),(List.dropLast_concat_getLast _).symm⟩
  have b:bs.length=n:=by simpa using hl
  obtain⟨f1,n1,n2,n3,n4,n5,n6⟩:=xiO (E:=E) (d:=d) h g (n:=T1+n) (base:=base++bs) (v:=v) (a:=(T1:Int)+n) hp (by simpa using hc 0 (BQ 11 ((T1:Int)+n) 0 0) rfl) (by omega) (by rw[hs,List.append_assoc]) (by omega);obtain⟨f2,k1,k2,k3,k4,k5,k6⟩:=xnU h g T1 n f1 (p+1) base bs n2 (λj y l=>by rw[n1.code,show p+1+j=p+(j+1) by omega];exact hc (j+1) y l) n3 b (by rw[n1.len];omega);refine⟨f2,n1.trans k1,by rw[k2];omega,k3,λi w c=>?_,λi k=>?_,n6.trans k6⟩
  ·by_cases k:i<n
   ·rw[List.getElem?_append_left (by omega)] at c;exact k4 i w c
   rw[List.getElem?_append_right (by omega)] at c
   have:i=n:=by
    have:=Bz c;simp at this;omega
   subst this;rw[k5 _ (Or.inr (Bq _)),n4];simpa [b] using c
  rw[k5 i (by omega),n5 i (by omega)]
theorem xlL (tm:Int):∀(n i:Nat),i<n->(Ex tm n)[2*i]?=some (BQ 6 0 0 0)/\(Ex tm n)[2*i+1]?=some (BQ 11 (tm+(i:Nat)) 0 0)
 | 0,i,h=>by omega
 | n+1,i,h=>by
  rw[xel];have c:=Qw tm n;by_cases hi:i<n
  ·obtain⟨a,b⟩:=xlL tm n i hi;rw[List.getElem?_append_left (by omega),List.getElem?_append_left (by omega)];exact⟨a,b⟩
  have:i=n:=by omega
  subst this;rw[List.getElem?_append_right (by omega),List.getElem?_append_right (by omega),c];simp
theorem xoU (e:Gn ent)(c:0<=m.tz)(tm n p:Nat):∀(r i:Nat) (f:Fr),i+r=n->f.pc=((p+2*i:Nat):Int)->(∀(j:Nat) y,(Ex (tm:Int) n)[j]?=some y->f.code[p+j]?=some y)->tm+n<=f.temps.length->(∀q,q<i->f.temps[tm+q]?=some BC)->
  ∃f',Nx f f'/\f'.pc=((p+2*n:Nat):Int)/\f'.stack=f.stack/\(∀q,q<n->f'.temps[tm+q]?=some BC)/\(∀q,q<tm\/tm+n<=q->f'.temps[q]?=f.temps[q]?)/\Goes ent E d m f f'
 | 0,i,f,hr,hp,hc,hn,hd=>by
  obtain rfl:i=n:=by omega
  exact⟨f,.refl f,hp,rfl,hd,λ_ _=>rfl,.refl _ _ _ _ _⟩
 | r+1,i,f,hr,hp,hc,hn,hd=>by
  obtain⟨c6,b⟩:=xlL (tm:Int) n i (by omega);have g1:Goes ent E d m f (Fr.push { f with pc:=f.pc+1 } BC):=xhn e c hp (hc _ _ c6) (by simp) (LN (by simp[Cl]));obtain⟨f1,n1,n2,n3,n4,n5,n6⟩:=xiO (E:=E) (d:=d) (f:=Fr.push { f with pc:=f.pc+1 } BC) e c (p:=p+2*i+1) (n:=tm+i) (base:=f.stack) (v:=BC) (a:=(tm:Int)+(i:Nat)) (by simp only[Fr.push,hp];omega) (by have:=hc _ _ b;simpa [Fr.push,Nat.add_assoc] using this) (by omega) rfl (by simp only[Fr.push];omega)
  obtain⟨f2,k1,k2,k3,k4,k5,k6⟩:=xoU e c tm n p r (i+1) f1 (by omega) (by rw[n2];omega) (λj y h=>by rw[n1.code];exact hc j y h) (by rw[n1.len];exact hn) (λq g=>by
   by_cases hqi:q=i
   ·subst hqi;exact n4
   ·rw[n5 _ (by omega)];exact hd q (by omega))
  have nx:Nx f (Fr.push { f with pc:=f.pc+1 } BC):=⟨rfl,rfl,rfl,rfl,rfl,rfl,rfl⟩
  refine⟨f2,nx.trans (n1.trans k1),k2,k3.trans n3,k4,λq g=>?_,g1.trans (n6.trans k6)⟩;rw[k5 q g,n5 q (by omega)];rfl
end
section
variable {xs:List QC} {sites:List Int} {m:QM}
def Gg (xs:List QC)(sites:List Int)(m:QM)(k:Nat):Nat:=(Bv xs sites m k).code.length
theorem xl4 (B:List Int):∀ {k:Nat},k<=m.code.length->(ET xs sites m B k).length=Gg xs sites m k
 | 0,_=>rfl
 | k+1,h=>by
  rw[xi5 (by omega),List.length_append,List.length_map,xl4 B (k:=k) (by omega)];exact (xqe (by omega)).symm
theorem xrW {k:Nat}(b:k<m.code.length):0<(KV xs sites m k).length:=by
 have a:m.code[k]?=some m.code[k]:=List.getElem?_eq_getElem b
 cases h:DK xs sites m.code.length (Bv xs sites m k).code.length (Bv xs sites m k).temps k m.code[k] with
 | none=>obtain⟨-,e1,-⟩:=xgm a h;rw[e1];simp
 | some leaf=>obtain⟨-,e1,-⟩:=xiG a h;rw[e1,KB];omega
theorem xiY {k:Nat}(a:k<m.code.length):Gg xs sites m (k+1)=Gg xs sites m k+(KV xs sites m k).length:=xqe a
theorem xnY:∀ {j i:Nat},i<j->j<=m.code.length->Gg xs sites m i<Gg xs sites m j
 | 0,i,h,_=>by omega
 | j+1,i,h,hj=>by
  have a:=xiY (xs:=xs) (sites:=sites) (m:=m) (k:=j) (by omega);have b:=xrW (xs:=xs) (sites:=sites) (m:=m) (k:=j) (by omega);by_cases hij:i=j
  ·subst hij;omega
  have:=xnY (j:=j) (i:=i) (by omega) (by omega);omega
theorem xr8 {i j:Nat}(b:i<m.code.length)(a:j<m.code.length):(Gg xs sites m i:Int)<=Gg xs sites m j ↔ (i:Int)<=j:=by
 constructor
 ·intro h;rcases Nat.lt_or_ge j i with h' | h'
  ·have:=xnY (xs:=xs) (sites:=sites) (m:=m) h' (by omega);omega
  omega
 intro h;rcases Nat.lt_or_ge i j with h' | h'
 ·have:=xnY (xs:=xs) (sites:=sites) (m:=m) h' (by omega);omega
 have:i=j:=by omega
 subst this;omega
theorem xlO (B:List Int):∀ {n k:Nat},k<=n->n<=m.code.length->∃rest,ET xs sites m B n=ET xs sites m B k++rest
 | 0,k,h,_=>⟨[],by obtain rfl:k=0:=(by omega);simp⟩
 | n+1,k,h,hn=>by
  by_cases hk:k=n+1
  ·subst hk;exact⟨[],by simp⟩
  obtain⟨rest,e⟩:=xlO B (n:=n) (k:=k) (by omega) (by omega);exact⟨rest++(KV xs sites m n).map (MP xs sites m B n),by rw[xi5 (by omega),e,List.append_assoc]⟩
theorem xn2 (B:List Int){k j:Nat}{y:QI}(d:k<m.code.length)(a:(KV xs sites m k)[j]?=some y):(ET xs sites m B m.code.length)[Gg xs sites m k+j]?=some (MP xs sites m B k y):=by
 obtain⟨rest,e⟩:=xlO (xs:=xs) (sites:=sites) (m:=m) B (n:=m.code.length) (k:=k+1) (by omega) (Bq _);have b:=xl4 (xs:=xs) (sites:=sites) (m:=m) B (k:=k) (by omega);have c:=Bz a;rw[e,xi5 d,List.append_assoc,List.getElem?_append_right (by omega),b,Nat.add_sub_cancel_left,List.getElem?_append_left (by simpa using c),List.getElem?_map,a];rfl
theorem xpv (B:List Int){k:Nat}{x:QI}(c:m.code[k]?=some x)(a:Fg xs sites m k=none):(ET xs sites m B m.code.length)[Gg xs sites m k]?=some (EN B (CS x k))/\Gg xs sites m (k+1)=Gg xs sites m k+1:=by
 have d:=Bz c;have b:DK xs sites m.code.length (Bv xs sites m k).code.length (Bv xs sites m k).temps k x=none:=by unfold Fg at a;rw[c] at a;exact a
 obtain⟨-,e1,-⟩:=xgm c b;have e:=xn2 (xs:=xs) (sites:=sites) (m:=m) B (k:=k) (j:=0) (y:=CS x k) d (by rw[e1];rfl);refine⟨?_,by rw[xiY d,e1];rfl⟩;have e2:MP xs sites m B k (CS x k)=EN B (CS x k):=by unfold MP;rw[a];simp
 rw[← e2];exact e
theorem xjN (B:List Int){k:Nat}{x:QI}{leaf:QM}(c:m.code[k]?=some x)(a:Fg xs sites m k=some leaf):(∀(j:Nat) y,(Eh leaf (BQ 18 (sites.getD k (-1)) leaf.args k) (Bv xs sites m k).temps (Gg xs sites m k))[j]?=some y->(ET xs sites m B m.code.length)[Gg xs sites m k+j]?=some y)/\Gg xs sites m (k+1)=Gg xs sites m k+(Eh leaf (BQ 18 (sites.getD k (-1)) leaf.args k) (Bv xs sites m k).temps (Gg xs sites m k)).length/\(Bv xs sites m (k+1)).temps=(Bv xs sites m k).temps+1+leaf.args+leaf.temps:=by
 have d:=Bz c;have b:DK xs sites m.code.length (Bv xs sites m k).code.length (Bv xs sites m k).temps k x=some leaf:=by unfold Fg at a;rw[c] at a;exact a
 obtain⟨-,e1,e2,-⟩:=xiG c b;refine⟨λj y e=>?_,?_,e2⟩
 ·rw[← xgB leaf _ rfl,List.getElem?_map] at e;obtain⟨z,g,rfl⟩:=Option.map_eq_some_iff.1 e;have f:=xn2 (xs:=xs) (sites:=sites) (m:=m) B (k:=k) (j:=j) (y:=z) d (by rw[e1];exact g);rw[f];unfold MP;rw[a];rfl
 rw[xiY d,e1,KB,KB]
theorem xeh (h:∀(k:Nat) leaf,Fg xs sites m k=some leaf->0<=leaf.args/\0<=leaf.temps):∀ {n k:Nat},k<=n->n<=m.code.length->(Bv xs sites m k).temps<=(Bv xs sites m n).temps
 | 0,k,hk,_=>by obtain rfl:k=0:=(by omega);exact Int.le_refl _
 | n+1,k,hk,hn=>by
  by_cases e:k=n+1
  ·subst e;exact Int.le_refl _
  have ih:=xeh h (n:=n) (k:=k) (by omega) (by omega);have b:m.code[n]?=some m.code[n]:=List.getElem?_eq_getElem (by omega)
  cases a:Fg xs sites m n with
  | none=>
   have c:DK xs sites m.code.length (Bv xs sites m n).code.length (Bv xs sites m n).temps n m.code[n]=none:=by unfold Fg at a;rw[b] at a;exact a
   obtain⟨-,-,e2,-⟩:=xgm b c;rw[e2];exact ih
  | some leaf=>
   obtain⟨-,-,e2⟩:=xjN (xs:=xs) (sites:=sites) [] b a;have:=h n leaf a;rw[e2];omega
end
theorem Hd {α:Type}{a b:List α}{j:Nat}{y:α}(h:a[j]?=some y):(a++b)[j]?=some y:=by rw[List.getElem?_append_left (Bz h)];exact h
theorem xpL {α:Type}{a b:List α}{n j:Nat}{y:α}(c:a.length=n)(h:b[j]?=some y):(a++b)[n+j]?=some y:=by subst c;rw[List.getElem?_append_right (by omega)];simpa using h
structure PcAt (FC:List QI)(leaf:QM)(g:QI)(T0 A T p:Nat):Prop where
 guard:FC[p]?=some g
 count:FC[p+1]?=some (BQ 21 0 0 0)
 sets:∀(j:Nat) y,(Fq ((T0+1:Nat):Int) A)[j]?=some y->FC[p+2+j]?=some y
 set:FC[p+2+A]?=some (BQ 11 (T0:Int) 0 0)
 nils:∀(j:Nat) y,(Ex ((T0+1+A:Nat):Int) T)[j]?=some y->FC[p+3+A+j]?=some y
 code:∀(j:Nat) x,leaf.code[j]?=some x->FC[p+3+A+2*T+j]?=some (Cc T0 (T0+1) (T0+1+A) ((p+3+A+2*T:Nat):Int) (((p+3+A+2*T:Nat):Int)+leaf.code.length) x)
theorem xpz {FC:List QI}{a:QM}{g:QI}{T0 A T p:Nat}(f:a.args=(A:Int))(e:a.temps=(T:Int))(h:∀(j:Nat) y,(Eh a g (T0:Int) (p:Int))[j]?=some y->FC[p+j]?=some y):PcAt FC a g T0 A T p:=by
 have c:=xgM ((T0:Int)+1) A;have k:=Qw ((T0:Int)+1+A) T;have i:Fh a (p:Int)=((p+3+A+2*T:Nat):Int):=by unfold Fh;rw[f,e];omega
 have b:Eh a g (T0:Int) (p:Int)=[g,BQ 21 0 0 0]++Fq ((T0:Int)+1) A++[BQ 11 (T0:Int) 0 0]++Ex ((T0:Int)+1+A) T++a.code.map (Cc T0 (T0+1) (T0+1+A) ((p+3+A+2*T:Nat):Int) (((p+3+A+2*T:Nat):Int)+a.code.length)):=by
  unfold Eh Kc;rw[i,f,e];simp only[Int.toNat_natCast]
 rw[b] at h;refine⟨?_,?_,?_,?_,?_,?_⟩
 ·simpa using h 0 g (Hd (Hd (Hd (Hd rfl))))
 ·exact h 1 _ (Hd (Hd (Hd (Hd rfl))))
 ·intro j y d;rw[show p+2+j=p+(2+j) by omega];exact h (2+j) y (Hd (Hd (Hd (xpL rfl (by simpa using d)))))
 ·rw[show p+2+A=p+(2+A+0) by omega];exact h _ _ (Hd (Hd (xpL (by simp[c];omega) rfl)))
 ·intro j y d;rw[show p+3+A+j=p+(3+A+j) by omega];exact h _ y (Hd (xpL (by simp[c];omega) (by have:=d;simpa using this)))
 intro j x l;rw[show p+3+A+2*T+j=p+(3+A+2*T+j) by omega];exact h _ _ (xpL (by simp[c,k];omega) (by rw[List.getElem?_map,l];rfl))
section
variable {σ:Type} {ent ent':CC σ} {E E':Env σ} {d d':Nat} {m:Mc σ}
theorem Py {T:Nat}(h:T<=40):Cv (T:Int)=List.replicate T BC:=by unfold Cv;congr 1;omega
theorem xqb (G:Gn ent)(r:Gn ent')(s:LS ent'){FC:List QI}{b:QM}{T0 A T p:Nat}{ks kc:Int}(F:PcAt FC b (BQ 18 ks (A:Int) kc) T0 A T p)(t:T<=40)(k:∀x∈b.code,x.op≠13/\x.op≠14){base as':List QV}{recv:QV}{ff:Fr}(e:ff.fast=true)(c:ff.code=FC)(g:ff.pc=(p:Int))(l:ff.stack=base++[recv]++as')(o:as'.length=A)(z:T0+1+A+T<=ff.temps.length){q:Int}(u:PlOk ⟨q,b,recv,as',Cv (T:Int),[],b.code,0,false⟩)(R:Ch m.heap recv=ks)(h:DV m) :
  ((BY E d m).2≠0/\Dp ent E d m ff=((BY E d m).1,BC,(BY E d m).2))\/
  ((BY E d m).2=0/\(((Dp ent' E' d' (BY E d m).1 ⟨q,b,recv,as',Cv (T:Int),[],b.code,0,false⟩).2.2≠0/\Dp ent E d m ff=((Dp ent' E' d' (BY E d m).1 ⟨q,b,recv,as',Cv (T:Int),[],b.code,0,false⟩).1,BC,(Dp ent' E' d' (BY E d m).1 ⟨q,b,recv,as',Cv (T:Int),[],b.code,0,false⟩).2.2))\/
   ((Dp ent' E' d' (BY E d m).1 ⟨q,b,recv,as',Cv (T:Int),[],b.code,0,false⟩).2.2=0/\DV (Dp ent' E' d' (BY E d m).1 ⟨q,b,recv,as',Cv (T:Int),[],b.code,0,false⟩).1/\∃ff',LfQ FC T0 (((p+3+A+2*T:Nat):Int)+b.code.length) base ff (Dp ent' E' d' (BY E d m).1 ⟨q,b,recv,as',Cv (T:Int),[],b.code,0,false⟩).2.1 ff'/\Dp ent E d m ff=Dp ent E d (Dp ent' E' d' (BY E d m).1 ⟨q,b,recv,as',Cv (T:Int),[],b.code,0,false⟩).1 ff'/\Cz (Dp ent' E' d' (BY E d m).1 ⟨q,b,recv,as',Cv (T:Int),[],b.code,0,false⟩).1 ff'<Cz m ff))):=by
 have D:CL ff.stack (A:Int)=recv:=by
  unfold CL;rw[show ((ff.stack.length:Int)-1-A)=((base.length:Nat):Int) by rw[l];simp;omega,LP,l,List.append_assoc];rw[List.getElem?_append_right (Bq _)];simp
 have g1:Goes ent E d m ff { ff with pc:=ff.pc+1 }:=by
  refine xhn G h.1 g (by rw[c];exact F.guard) (by simp) ?_;rw[PF (by simp)];have N:CL { ff with pc:=ff.pc+1 }.stack (A:Int)=recv:=D;simp only[DB,e,BQ,N,R];simp
 have L:EK { ff with pc:=ff.pc+1 }=some (BQ 21 0 0 0):=Px (p:=p+1) (by simp only[g];omega) (by simp only[c];exact F.count)
 have C:BD ent E d m { ff with pc:=ff.pc+1+1 } (ff.pc+1) (BQ 21 0 0 0)=((BY E d m).1,{ ff with pc:=ff.pc+1+1 },(BY E d m).2):=by
  rw[PF (by simp)];simp[DB,e,BQ]
 by_cases hcz:(BY E d m).2=0
 ·right;refine⟨hcz,?_⟩;have B:DV (BY E d m).1:=Nk h;obtain⟨c1,c2,c3⟩:=Lx G (E:=E) (d:=d) h.1 L (by simp) (by rw[C];exact hcz);rw[C] at c1 c2;simp only at c1 c2;generalize (BY E d m).1=m1 at *;obtain⟨f1,n1,n2,n3,n4,n5,n6⟩:=xnU (ent:=ent) (E:=E) (d:=d) (m:=m1) G B.1 (T0+1) A { ff with pc:=ff.pc+1+1 } (p+2) (base++[recv]) as' (by simp only[g];omega) (λj y Q=>by simp only[c];exact F.sets j y Q) l o (by simp only;omega);obtain⟨f2,k1,k2,k3,k4,k5,k6⟩:=xiO (E:=E) (d:=d) (m:=m1) G B.1 (f:=f1) (p:=p+2+A) (n:=T0) (base:=base) (v:=recv) (a:=(T0:Int)) n2 (by rw[n1.code];simp only[c];exact F.set) rfl n3 (by rw[n1.len];simp only;omega);obtain⟨f3,l1,l2,l3,l4,l5,l6⟩:=xoU (ent:=ent) (E:=E) (d:=d) (m:=m1) G B.1 (T0+1+A) T (p+3+A) T 0 f2 (by omega) (by rw[k2];omega) (λj y Q=>by rw[k1.code,n1.code];simp only[c];exact F.nils j y Q) (by rw[k1.len,n1.len];simp only;omega) (λq V=>by omega);have nx:=(n1.trans k1).trans l1
  have S:LfP b.code FC T0 A (p+3+A+2*T) base ff f3 ⟨q,b,recv,as',Cv (T:Int),[],b.code,0,false⟩:=by
   refine⟨nx.fast.trans e,nx.code.trans c,nx.cls,nx.meth,nx.self,nx.args,nx.len,?_,u,rfl,o,?_,?_,?_,?_,?_⟩
   ·apply List.ext_getElem?
    intro i;rw[List.getElem?_take,List.getElem?_take];split
    ·rw[l5 i (by omega),k5 i (by omega),n5 i (by omega)]
    rfl
   ·rw[l2];simp
   ·rw[l3,k3];simp
   ·rw[l5 _ (by omega),k4]
   ·intro i v hv;have:=Bz hv;simp only at this hv;rw[show T0+1+i=T0+1+i from rfl,l5 _ (by omega),k5 _ (by omega)];exact n4 i v hv
   intro i v hv;rw[Py t] at hv;have M:=Bz hv;simp at M;rw[List.getElem?_replicate,if_pos M] at hv
   cases hv;exact l4 i M
  have K:Dp ent E d m ff=Dp ent E d m1 f3:=by rw[g1.1,c1,n6.1,k6.1,l6.1]
  have U:Cz m1 f3<Cz m ff:=by have:=g1.2;have:=n6.2;have:=k6.2;have:=l6.2;omega
  have H:=xlB (ent:=ent) (ent':=ent') (E:=E) (E':=E') (d:=d) (d':=d') G r s k F.code (Cz m1 f3) m1 f3 _ S B (Bq _);rcases H with ⟨r1,r2⟩ | ⟨r1,r2,ff',r3,r4,r5⟩
  ·exact Or.inl ⟨r1,by rw[K];exact r2⟩
  exact Or.inr ⟨r1,r2,ff',r3,by rw[K];exact r4,by omega⟩
 left;refine⟨hcz,?_⟩;rw[g1.1,MM L (by simp) (by rw[C];exact hcz),C]
end
section
variable {σ:Type}
structure Like (cs:List QC)(E E':Env σ):Prop where
 fuel:E.fuel=E'.fuel
 cls:E.cz=cs
 cls':E'.cz=cs
 look:∀st s k nm,E.look st s k nm=(st,BF cs k nm)
 look':∀st s k nm,E'.look st s k nm=(st,BF cs k nm)
def LR (ent ent':CC σ):Prop:=∀m c n s a,DV m->ent m c n s a=ent' m c n s a
variable {cs:List QC} {E E':Env σ} {ent ent':CC σ} {d:Nat} {m:Mc σ}
theorem xfH (h:Like cs E E'):BY E d m=BY E' d m:=by unfold BY;rw[h.fuel]
theorem xjd (h:Like cs E E')(d:LR ent ent')(b:DV m){f f':Fr}{a a':Int}{x x':QI}(c:f.stack=f'.stack)(i:x.a=x'.a)(g:x.name=x'.name):Dv ent E m f a x=((Dv ent' E' m f' a' x').1,(if (Dv ent' E' m f' a' x').2.2≠0 then f else { f with stack:=(Dv ent' E' m f' a' x').2.1.stack }),(Dv ent' E' m f' a' x').2.2):=by
 unfold Dv;simp only[h.look,h.look',c,i,g];have e:=d m (BF cs (Ch m.heap (CL (List.take (Dq f'.stack x'.a) f'.stack) 0)) x'.name).1 (BF cs (Ch m.heap (CL (List.take (Dq f'.stack x'.a) f'.stack) 0)) x'.name).2 (CL (List.take (Dq f'.stack x'.a) f'.stack) 0) (List.drop (Dq f'.stack x'.a) f'.stack) b;have e':({ heap:=m.heap,sz_:=m.sz_,tz:=m.tz,st:=m.st }:Mc σ)=m:=rfl;rw[e',e];generalize ent' m _ _ _ _=r;by_cases hz:r.2.2≠0
 ·rw[if_pos hz,if_pos hz];simp[hz]
 rw[if_neg hz,if_neg hz];simp
theorem xnf (h:Like cs E E')(g:LR ent ent')(b:DV m)(f:Fr)(a:Int)(x:QI):BD ent E d m f a x=BD ent' E' d m f a x:=by
 have c:Dv ent E m f a x=Dv ent' E' m f a x:=by
  rw[xjd h g b (f':=f) (a':=a) (x':=x) rfl rfl rfl];unfold Dv;simp only[h.look'];generalize ent' _ _ _ _ _=r;by_cases hz:r.2.2≠0
  ·simp[hz]
  have:r.2.2=0:=by simpa using hz
  simp[this]
 have i:DT E m f x.a=DT E' m f x.a:=by unfold DT;rw[h.cls,h.cls']
 have e:DB E d m f x=DB E' d m f x:=by unfold DB;rw[xfH h]
 unfold BD;rw[c,i,e]
theorem xiP (h:Like cs E E')(e:LR ent ent')(a:LS ent'):∀(g:Nat) (m:Mc σ) (f:Fr),DV m->CX ent E d g m f=CX ent' E' d g m f
 | 0,m,f,hT=>rfl
 | g+1,m,f,hT=>by
  cases b:EK f with
  | none=>rw[MS b,MS b]
  | some x=>
   by_cases h17:x.op=17
   ·rw[NQ b h17,NQ b h17]
   rw[Nb b h17,Nb b h17,xnf h e hT];have c:=xgo (E:=E') (d:=d) (f:={ f with pc:=f.pc+1 }) (at':=f.pc) (x:=x) a hT;generalize BD ent' E' d m { f with pc:=f.pc+1 } f.pc x=r at c ⊢;by_cases hz:r.2.2≠0
   ·rw[if_pos hz,if_pos hz]
   rw[if_neg hz,if_neg hz];exact xiP h e a g r.1 r.2.1 (c (by omega))
theorem xrM (h:Like cs E E')(c:LR ent ent')(a:LS ent')(b:DV m)(f:Fr):Dp ent E d m f=Dp ent' E' d m f:=xiP h c a _ m f b
structure FP (FC:List QI)(TT:Nat)(bk:Nat->Nat)(mt:QM)(ff pf:Fr)(k:Nat):Prop where
 pl:PlOk pf
 ppc:pf.pc=(k:Int)
 pmeth:pf.meth=mt
 fast:ff.fast=true
 code:ff.code=FC
 cls:ff.cls=pf.cls
 meth:ff.meth=pf.meth
 self:ff.self=pf.self
 args:ff.args=pf.args
 stack:ff.stack=pf.stack
 pc:ff.pc=(bk k:Int)
 tlen:ff.temps.length=TT
 take:ff.temps.take pf.temps.length=pf.temps
variable {FC:List QI} {TT:Nat} {bk:Nat->Nat} {mt:QM} {ff pf:Fr} {k:Nat}
theorem FP.to (h:FP FC TT bk mt ff pf k){a b:Fr}{k':Nat}(pl:PlOk b)(c1:b.pc=(k':Int))(c2:b.meth=pf.meth)(c3:b.cls=pf.cls)(c4:b.self=pf.self)(c5:b.args=pf.args)(c6:b.temps=pf.temps)(d1:a.fast=ff.fast)(d2:a.code=ff.code)(d3:a.cls=ff.cls)(d4:a.meth=ff.meth)(d5:a.self=ff.self)(d6:a.args=ff.args)(d7:a.temps=ff.temps)(d:a.pc=(bk k':Int))(c:a.stack=b.stack):FP FC TT bk mt a b k':=
 ⟨pl,c1,c2.trans h.pmeth,d1.trans h.fast,d2.trans h.code,by rw[d3,c3];exact h.cls,by rw[d4,c2];exact h.meth,by rw[d5,c4];exact h.self,by rw[d6,c5];exact h.args,c,d,by rw[d7];exact h.tlen,by rw[d7,c6];exact h.take⟩
theorem FP.temp (h:FP FC TT bk mt ff pf k){i:Nat}(a:i<pf.temps.length):ff.temps[i]?=pf.temps[i]?:=by
 have e:(ff.temps.take pf.temps.length)[i]?=pf.temps[i]?:=by rw[h.take]
 rw[List.getElem?_take,if_pos a] at e;exact e
def xqC (FC:List QI)(TT:Nat)(bk:Nat->Nat)(mt:QM)(r2 r:Mc σ × Fr × Int):Prop:=r2.1=r.1/\r2.2.2=r.2.2/\(r.2.2=0->∃k',FP FC TT bk mt r2.2.1 r.2.1 k')
theorem xjf (h:FP FC TT bk mt ff pf k)(o:∀i j,i<mt.code.length->j<mt.code.length->((bk i:Int)<=bk j ↔ (i:Int)<=j))(c:k<mt.code.length)(l:DV m){a b:Fr}{t:Nat}(d:t<mt.code.length)(c2:b.meth=pf.meth)(c3:b.cls=pf.cls)(c4:b.self=pf.self)(c5:b.args=pf.args)(c6:b.temps=pf.temps)(d1:a.fast=ff.fast)(d2:a.code=ff.code)(d3:a.cls=ff.cls)(d4:a.meth=ff.meth)(d5:a.self=ff.self)(d6:a.args=ff.args)(d7:a.temps=ff.temps)(n:a.stack=b.stack)(PL:(Cr m b pf.pc (t:Int)).2.2=0->PlOk (Cr m b pf.pc (t:Int)).2.1) :
  xqC FC TT bk mt (Cr m a ff.pc (bk t:Int)) (Cr m b pf.pc (t:Int)):=by
 have g:=h.pc;have f:=h.ppc;have e:=o t k d c;rcases Lv m b pf.pc (t:Int) l with ⟨k1,k2,k3⟩ | ⟨k1,k2,k3⟩ | ⟨k1,k3⟩
 ·rcases Lv m a ff.pc (bk t:Int) l with ⟨j1,j2,j3⟩ | ⟨j1,j2,j3⟩ | ⟨j1,j3⟩
  ·rw[k3,j3];exact⟨rfl,rfl,λh=>by simp at h⟩
  ·omega
  rw[g] at j1;rw[f] at k1;have:=e.2 k1;omega
 ·rcases Lv m a ff.pc (bk t:Int) l with ⟨j1,j2,j3⟩ | ⟨j1,j2,j3⟩ | ⟨j1,j3⟩
  ·omega
  ·rw[k3] at PL;rw[k3,j3];exact⟨rfl,rfl,λ_=>⟨t,h.to (PL rfl) rfl c2 c3 c4 c5 c6 d1 d2 d3 d4 d5 d6 d7 rfl n⟩⟩
  rw[g] at j1;rw[f] at k1;have:=e.2 k1;omega
 rcases Lv m a ff.pc (bk t:Int) l with ⟨j1,j2,j3⟩ | ⟨j1,j2,j3⟩ | ⟨j1,j3⟩
 ·rw[g] at j1;rw[f] at k1;have:=e.1 j1;omega
 ·rw[g] at j1;rw[f] at k1;have:=e.1 j1;omega
 rw[k3] at PL;rw[k3,j3];exact⟨rfl,rfl,λ_=>⟨t,h.to (PL rfl) rfl c2 c3 c4 c5 c6 d1 d2 d3 d4 d5 d6 d7 rfl n⟩⟩
end
section
variable {σ:Type} {cs:List QC} {E E':Env σ} {ent ent':CC σ} {d:Nat} {m:Mc σ} {FC:List QI} {TT:Nat} {bk:Nat->Nat} {mt:QM} {ff pf:Fr} {k:Nat}
theorem xkY {l:List QV}{n i:Nat}(v:QV):(l.set i v).take n=(l.take n).set i v:=by
 apply List.ext_getElem?
 intro j;rw[List.getElem?_take,List.getElem?_set,List.getElem?_set,List.getElem?_take,List.length_take];by_cases h1:j<n
 ·by_cases h2:i=j
  ·subst h2;by_cases h3:i<l.length
   ·simp[h1,h3,Nat.lt_min]
   simp[h1,h3,Nat.lt_min]
  simp[h1,h2]
 by_cases h2:i=j
 ·subst h2;simp[h1,Nat.lt_min]
 simp[h1,h2]
theorem xny (G:Like cs E E')(N:LR ent ent')(h:FP FC TT bk mt ff pf k)(F:DV m){x:QI}(D:NxOk pf k x)(p:x.op≠17){B:List Int}(l:bk (k+1)=bk k+1)(K:∀i j,i<mt.code.length->j<mt.code.length->((bk i:Int)<=bk j ↔ (i:Int)<=j))(g:k<mt.code.length)(L:(x.op=15\/x.op=16)->∃t:Nat,x.a=(t:Int)/\t<mt.code.length/\B.getD x.a.toNat 0=(bk t:Int)) :
  xqC FC TT bk mt (BD ent E d m { ff with pc:=ff.pc+1 } ff.pc (EN B (CS x k))) (BD ent' E' d m { pf with pc:=pf.pc+1 } pf.pc x):=by
 have C:x.op=1\/x.op=2\/x.op=3\/x.op=4\/x.op=5\/x.op=6\/x.op=7\/x.op=8\/x.op=9\/x.op=10\/x.op=11\/x.op=12\/x.op=13\/x.op=14\/x.op=15\/x.op=16:=by
  obtain⟨Q,S⟩:=D.kind;clear L K l;omega
 have PL:=xk6 (ent:=ent') (E:=E') (d:=d) (m:=m) h.pl D p;have R:=D.kind;have q:ff.pc+1=(bk (k+1):Int):=by rw[l,h.pc];omega
 have s:pf.pc+1=((k+1:Nat):Int):=by rw[h.ppc];omega
 have same:x.op≠14->x.op≠15->x.op≠16->EN B (CS x k)=x:=λa b c=>by
  have e:CS x (k:Int)=x:=by unfold CS;rw[if_neg a]
  rw[e];unfold EN;rw[if_neg (by omega)]
 have push:∀(v:QV),Cl m.heap { pf with pc:=pf.pc+1 } x=some v->Cl m.heap { ff with pc:=ff.pc+1 } x=some v->xqC FC TT bk mt (BD ent E d m { ff with pc:=ff.pc+1 } ff.pc (EN B (CS x k))) (BD ent' E' d m { pf with pc:=pf.pc+1 } pf.pc x):=λv e1 e2=>by
  have:=xhO e1;rw[same (by omega) (by omega) (by omega)];rw[LN e1] at PL;rw[LN e1,LN e2];exact⟨rfl,rfl,λ_=>⟨k+1,h.to (PL rfl) s rfl rfl rfl rfl rfl rfl rfl rfl rfl rfl rfl rfl q (by simp[Fr.push,h.stack])⟩⟩
 have u:Fr.top { ff with pc:=ff.pc+1 }=Fr.top { pf with pc:=pf.pc+1 }:=by simp only[Fr.top,h.stack]
 rcases C with o | o | o | o | o | o | o | o | o | o | o | o | o | o | o | o
 ·exact push pf.self (by simp[Cl,o]) (by simp[Cl,o,h.self])
 ·exact push (CR pf.args x.a) (by simp[Cl,o]) (by simp[Cl,o,h.args])
 ·obtain⟨a0,a1⟩:=D.temp (Or.inl o);obtain⟨i,H⟩:∃i:Nat,x.a=(i:Int):=⟨x.a.toNat,by omega⟩
  refine push (CR pf.temps x.a) (by simp[Cl,o]) ?_;have e:CR ff.temps x.a=CR pf.temps x.a:=by rw[H,LP,LP,h.temp (by omega)]
  simp[Cl,o,e]
 ·exact push (Gt m.heap pf.self x.a) (by simp[Cl,o]) (by simp[Cl,o,h.self])
 ·exact push ⟨3,x.a⟩ (by simp[Cl,o]) (by simp[Cl,o])
 ·exact push BC (by simp[Cl,o]) (by simp[Cl,o])
 ·exact push ⟨1,0⟩ (by simp[Cl,o]) (by simp[Cl,o])
 ·exact push ⟨2,0⟩ (by simp[Cl,o]) (by simp[Cl,o])
 ·rw[same (by omega) (by omega) (by omega)];rw[Np o] at PL;rw[Np o,Np o];exact⟨rfl,rfl,λ_=>⟨k+1,h.to (PL rfl) s rfl rfl rfl rfl rfl rfl rfl rfl rfl rfl rfl rfl q (by simp[Fr.pop,h.stack])⟩⟩
 ·rw[same (by omega) (by omega) (by omega)];rw[Nr o] at PL;rw[Nr o,Nr o,u];exact⟨rfl,rfl,λ_=>⟨k+1,h.to (PL rfl) s rfl rfl rfl rfl rfl rfl rfl rfl rfl rfl rfl rfl q (by simp[Fr.push,h.stack])⟩⟩
 ·obtain⟨a0,a1⟩:=D.temp (Or.inr o);obtain⟨i,H⟩:∃i:Nat,x.a=(i:Int):=⟨x.a.toNat,by omega⟩
  rw[same (by omega) (by omega) (by omega)];rw[MN o] at PL;rw[MN o,MN o,u];refine⟨rfl,rfl,λ_=>⟨k+1,⟨PL rfl,s,h.pmeth,h.fast,h.code,h.cls,h.meth,h.self,h.args,by simp[Fr.pop,h.stack],q,?_,?_⟩⟩⟩
  ·simp only[Mj];exact h.tlen
  simp only[Mj,H,Mz,List.length_set];rw[xkY,h.take]
 ·rw[same (by omega) (by omega) (by omega)];rw[Pk o] at PL;rw[Pk o,Pk o,u];exact⟨by simp only[h.self],rfl,λ_=>⟨k+1,h.to (PL rfl) s rfl rfl rfl rfl rfl rfl rfl rfl rfl rfl rfl rfl q (by simp[Fr.pop,h.stack])⟩⟩
 ·rw[same (by omega) (by omega) (by omega)];rw[xoW o] at PL;rw[xoW o,xoW o];unfold DT at PL ⊢;rw[G.cls];rw[G.cls'] at PL ⊢;by_cases y:60<=m.heap.length\/2147483647<DY cs x.a
  ·rw[if_pos y,if_pos y];exact⟨rfl,rfl,λh=>by simp at h⟩
  rw[if_neg y] at PL;rw[if_neg y,if_neg y];exact⟨rfl,rfl,λ_=>⟨k+1,h.to (PL rfl) s rfl rfl rfl rfl rfl rfl rfl rfl rfl rfl rfl rfl q (by simp[Fr.push,h.stack])⟩⟩
 ·have e:EN B (CS x k)={ x with c:=(k:Int) }:=by
   have e1:CS x (k:Int)={ x with c:=(k:Int) }:=by unfold CS;rw[if_pos o]
   rw[e1];unfold EN;rw[if_neg (by simp only;omega)]
  rw[xiF o] at PL;rw[e,xiF o,xiF (by exact o),xjd G N F (f:={ ff with pc:=ff.pc+1 }) (f':={ pf with pc:=pf.pc+1 }) (a':=pf.pc) (x:={ x with c:=(k:Int) }) (x':=x) h.stack rfl rfl]
  have z:(Dv ent' E' m { pf with pc:=pf.pc+1 } pf.pc x).2.2=0->∃st,(Dv ent' E' m { pf with pc:=pf.pc+1 } pf.pc x).2.1={ pf with pc:=pf.pc+1,stack:=st }:=by
   unfold Dv;simp only;generalize ent' _ _ _ _ _=r;intro y;by_cases hr:r.2.2≠0
   ·rw[if_pos hr] at y;exact absurd y hr
   rw[if_neg hr];exact⟨_,rfl⟩
  generalize Dv ent' E' m { pf with pc:=pf.pc+1 } pf.pc x=r at PL z ⊢;refine⟨rfl,rfl,λy=>?_⟩;obtain⟨st,n⟩:=z y;have M:=PL y;rw[n] at M ⊢;simp only[y];exact⟨k+1,h.to M s rfl rfl rfl rfl rfl rfl rfl rfl rfl rfl rfl rfl q rfl⟩
 ·obtain⟨t,t1,t2,t3⟩:=L (Or.inl o)
  have e:EN B (CS x k)={ x with a:=(bk t:Int) }:=by
   have e1:CS x (k:Int)=x:=by unfold CS;rw[if_neg (by omega)]
   rw[e1];unfold EN;rw[if_pos (Or.inl o),t3]
  rw[MW o,t1] at PL;rw[e,MW o,MW (by exact o),t1];exact xjf h K g F t2 rfl rfl rfl rfl rfl rfl rfl rfl rfl rfl rfl rfl h.stack PL
 obtain⟨t,t1,t2,t3⟩:=L (Or.inr o)
 have e:EN B (CS x k)={ x with a:=(bk t:Int) }:=by
  have e1:CS x (k:Int)=x:=by unfold CS;rw[if_neg (by omega)]
  rw[e1];unfold EN;rw[if_pos (Or.inr o),t3]
 rw[NT o,t1] at PL;rw[e,NT o,NT (by exact o),t1];unfold Dt at PL ⊢;rw[u];by_cases k2:(Fr.top { pf with pc:=pf.pc+1 }).k=2
 ·rw[if_pos k2] at PL;rw[if_pos k2,if_pos k2];exact⟨rfl,rfl,λ_=>⟨k+1,h.to (PL rfl) s rfl rfl rfl rfl rfl rfl rfl rfl rfl rfl rfl rfl q (by simp[Fr.pop,h.stack])⟩⟩
 rw[if_neg k2] at PL;rw[if_neg k2,if_neg k2];by_cases k1:(Fr.top { pf with pc:=pf.pc+1 }).k=1
 ·rw[if_pos k1] at PL;rw[if_pos k1,if_pos k1];exact xjf h K g F t2 rfl rfl rfl rfl rfl rfl rfl rfl rfl rfl rfl rfl (by simp[Fr.pop,h.stack]) PL
 rw[if_neg k1,if_neg k1];exact⟨rfl,rfl,λh=>by simp at h⟩
end
section
variable {σ:Type} {E E':Env σ} {d:Nat} {m:Mc σ}
theorem xm8 {cs:List QC}(g:E'.cz=cs){q t:Int}{a:QM}(f:Cp cs q t=some a){recv:QV}{as':List QV}(j:a.args=as'.length)(i:a.prim=0)(h:E'.quick q t=none)(e:DV m) :
  BL E' d m q t recv as'=if (BY E' d m).2≠0 then (m,BC,(BY E' d m).2) else Dp (BL E' (d-1)) E' (d-1) (BY E' d m).1 ⟨q,a,recv,as',Cv a.temps,[],a.code,0,false⟩:=by
 have c:CW E' q t a recv as'=⟨q,a,recv,as',Cv a.temps,[],a.code,0,false⟩:=by unfold CW;rw[h]
 cases d with
 | zero=>
  show El E' 0 _ m q t recv as'=_;unfold El;rw[g,f];simp only;rw[if_neg (by omega),if_neg (by omega)];have b:(BY E' 0 m).2≠0:=by unfold BY;split<;>simp
  rw[if_pos b,if_pos b]
 | succ d=>
  show El E' (d+1) _ m q t recv as'=_;unfold El;rw[g,f];simp only;rw[if_neg (by omega),if_neg (by omega)];by_cases b:(BY E' (d+1) m).2≠0
  ·rw[if_pos b,if_pos b]
  rw[if_neg b,if_neg b,c];exact xly (Ls E' d) E' d (Nk e).1 (PT (Nk e).1)
theorem xpG {FC:List QI}{TT:Nat}{bk:Nat->Nat}{mt:QM}{ff pf:Fr}{k:Nat}(h:FP FC TT bk mt ff pf k)(t:0<=mt.temps/\mt.temps<=40)(s:pf.temps.length<=TT):Fr.leave { ff with pc:=ff.pc+1 } (k:Int)=pf:=by
 have c:=h.pl.temps
 have e:(Cv ff.meth.temps).zipIdx.map (λp=>(ff.temps[p.2]?).getD BC)=pf.temps:=by
  obtain⟨n,d⟩:∃n:Nat,mt.temps=(n:Int):=⟨mt.temps.toNat,by omega⟩
  rw[h.meth,h.pmeth,d,Py (by omega)];rw[h.pmeth,d] at c
  apply List.ext_getElem?
  intro i;rw[List.getElem?_map,List.getElem?_zipIdx];by_cases hi:i<n
  ·have:=h.temp (i:=i) (by omega);rw[List.getElem?_replicate,if_pos hi];simp only[Option.map_some,Nat.zero_add,this];rw[List.getElem?_eq_getElem (by omega)];rfl
  rw[List.getElem?_replicate,if_neg hi,List.getElem?_eq_none (by omega)];rfl
 have q:=h.pl.code;have m:=h.pl.fast;obtain⟨pc,pm,ps,pa,pt,pk,a,pp,b⟩:=pf;have f:=h.cls;have o:=h.meth;have r:=h.self;have g:=h.args;have j:=h.stack;have l:=h.ppc;simp only at *;unfold Fr.leave;simp only;rw[e,f,o,r,g,j,q,l,m]
theorem xk3 {l:List QV}{A:Nat}(h:A+1<=l.length):∃base recv as',l=base++[recv]++as'/\as'.length=A:=by
 obtain⟨n,a⟩:∃n,l.length=n+1+A:=⟨l.length-1-A,by omega⟩
 refine⟨l.take n,l[n]'(by omega),l.drop (n+1),?_,by simp;omega⟩;have e:l.take n++[l[n]'(by omega)]=l.take (n+1):=by rw[List.take_add_one,List.getElem?_eq_getElem (by omega)];simp
 rw[e];exact (List.take_append_drop _ _).symm
theorem xl6 {a:QM}(h:FH a=true):a.prim=0/\∀x∈a.code,x.op≠13/\x.op≠14:=by
 unfold FH GM at h;simp at h;exact⟨h.1,λx b=>⟨(h.2 x b).2,(h.2 x b).1⟩⟩
theorem xq6 {cs:List QC}(e:∀st s k nm,E'.look st s k nm=(st,BF cs k nm)){ent':CC σ}{pf:Fr}{a:Int}{x:QI}{base as':List QV}{recv:QV}(b:pf.stack=base++[recv]++as')(g:x.a=(as'.length:Int)) :
  Dv ent' E' m pf a x=if (ent' m (BF cs (Ch m.heap recv) x.name).1 (BF cs (Ch m.heap recv) x.name).2 recv as').2.2≠0 then ((ent' m (BF cs (Ch m.heap recv) x.name).1 (BF cs (Ch m.heap recv) x.name).2 recv as').1,pf,(ent' m (BF cs (Ch m.heap recv) x.name).1 (BF cs (Ch m.heap recv) x.name).2 recv as').2.2) else ((ent' m (BF cs (Ch m.heap recv) x.name).1 (BF cs (Ch m.heap recv) x.name).2 recv as').1,{ pf with stack:=base++[(ent' m (BF cs (Ch m.heap recv) x.name).1 (BF cs (Ch m.heap recv) x.name).2 recv as').2.1] },0):=by
 have c:Dq pf.stack x.a=(base++[recv]).length:=by unfold Dq;rw[b,g];simp;omega
 have d:pf.stack.drop (Dq pf.stack x.a)=as':=by rw[c,b];exact List.drop_left
 have f:pf.stack.take (Dq pf.stack x.a)=base++[recv]:=by rw[c,b];exact List.take_left
 unfold Dv;simp only[e,d,f,xgL,List.dropLast_concat]
variable {X:QW} {mt:QM} {sites:List Int}
theorem xsP (hX:BM X=0)(g:Sml mt)(hl:Like X.cz E E')(hq:E'.quick=NX)(c:LR (BL E d) (BL E' d)) :
  ∀(N:Nat) (m:Mc σ) (ff pf:Fr) (k:Nat),FP (ET X.cz sites mt (Bv X.cz sites mt mt.code.length).begins mt.code.length) (Bv X.cz sites mt mt.code.length).temps.toNat (Gg X.cz sites mt) mt ff pf k->DV m->Cz m ff<=N->Dp (BL E d) E d m ff=Dp (BL E' d) E' d m pf:=by
  intro N;induction N using Nat.strongRecOn;rename_i N iH;intro m ff pf k h hT hN
  have ht:=Ls E d;have a9:=Ls E' d;obtain⟨k',x,hx⟩:=h.pl.nx;obtain rfl:k'=k:=by have:=hx.pc;have:=h.ppc;omega
  have a7:pf.code=mt.code:=by rw[h.pl.code,h.pmeth]
  have Y:mt.code[k']?=some x:=by rw[← a7];exact hx.here
  have al:=Bz Y;have U:EK pf=some x:=Px h.ppc hx.here
  cases hw:Fg X.cz sites mt k' with
  | none=>
   obtain⟨o1,o2⟩:=xpv (Bv X.cz sites mt mt.code.length).begins Y hw;have V:EK ff=some (EN (Bv X.cz sites mt mt.code.length).begins (CS x k')):=Px h.pc (by rw[h.code];exact o1)
   have a6:(EN (Bv X.cz sites mt mt.code.length).begins (CS x k')).op=x.op:=by
    unfold EN CS;split<;>split<;>rfl
   by_cases h17:x.op=17
   ·rw[xkG V (by rw[a6];exact h17),xkG U h17];simp only[Fr.top,h.stack]
   obtain⟨b1,b2,b3⟩:=xny (d:=d) hl c h hT hx h17 (B:=(Bv X.cz sites mt mt.code.length).begins) o2 (λi j hi hj=>xr8 hi hj) al (λho=>by
    obtain⟨a0,a1⟩:=g.jump x (List.mem_of_getElem? Y) ho;refine⟨x.a.toNat,by omega,by omega,?_⟩;rw[List.getD_eq_getElem?_getD,xhc (Bq _) x.a.toNat (by omega)];rfl)
   by_cases Z:(BD (BL E' d) E' d m { pf with pc:=pf.pc+1 } pf.pc x).2.2=0
   ·obtain⟨g1,g2,-⟩:=Lx ht (E:=E) (d:=d) hT.1 V (by rw[a6];exact h17) (by rw[b2];exact Z);obtain⟨l1,-,-⟩:=Lx a9 (E:=E') (d:=d) hT.1 U h17 Z;obtain⟨k2,hF⟩:=b3 Z;have ai:=xgo (E:=E') (d:=d) (f:={ pf with pc:=pf.pc+1 }) (at':=pf.pc) (x:=x) (Qv E' d) hT Z;rw[b1] at g1 g2;rw[g1,l1];exact iH (N-1) (by omega) _ _ _ k2 hF ai (by omega)
   rw[MM V (by rw[a6];exact h17) (by rw[b2];exact Z),MM U h17 Z,b1,b2]
  | some leaf=>
   obtain⟨o1,o2,o3⟩:=xjN (Bv X.cz sites mt mt.code.length).begins Y hw;have R:DK X.cz sites mt.code.length (Bv X.cz sites mt k').code.length (Bv X.cz sites mt k').temps k' x=some leaf:=by unfold Fg at hw;rw[Y] at hw;exact hw
   have Q:Et X.cz sites k' x=some leaf:=by
    unfold DK at R;split at R
    ·cases R
    rename_i l s;split at R
    ·cases R;exact s
    cases R
   obtain⟨hs,H,G,ho⟩:=LQ hX Q;obtain⟨o,u⟩:=xl6 G;obtain⟨ks,v⟩:∃ks,ks=sites.getD k' (-1):=⟨_,rfl⟩
   have ag:Lh X.cz ks x.name=some leaf:=by
    rw[v];unfold Et at Q;split at Q
    ·split at Q
     ·cases Q
     rename_i y hy;split at Q
     ·cases Q;exact hy
     cases Q
    cases Q
   have a8:=xeS ag;obtain⟨A,hA⟩:∃A:Nat,leaf.args=(A:Int):=⟨leaf.args.toNat,by have:=hs.args;omega⟩
   obtain⟨T,p⟩:∃T:Nat,leaf.temps=(T:Int):=⟨leaf.temps.toNat,by have:=hs.temps;omega⟩
   have am:T<=40:=by have:=hs.temps;omega
   have aq:=NN hX (sites:=sites) g (k:=k') (by omega);obtain⟨T0,C⟩:∃T0:Nat,(Bv X.cz sites mt k').temps=(T0:Int):=⟨(Bv X.cz sites mt k').temps.toNat,by omega⟩
   have aa:∀(j:Nat) lf,Fg X.cz sites mt j=some lf->0<=lf.args/\0<=lf.temps:=λj lf hj=>by
    cases hc:mt.code[j]? with
    | none=>unfold Fg at hj;rw[hc] at hj;cases hj
    | some y=>
     have S:DK X.cz sites mt.code.length (Bv X.cz sites mt j).code.length (Bv X.cz sites mt j).temps j y=some lf:=by unfold Fg at hj;rw[hc] at hj;exact hj
     unfold DK at S;split at S
     ·cases S
     rename_i l s;split at S
     ·cases S;obtain⟨z,-⟩:=LQ hX s;exact⟨z.args.1,z.temps.1⟩
     cases S
   have ar:=xeh aa (n:=mt.code.length) (k:=k'+1) (by omega) (Bq _);have ap:mt.temps<=(Bv X.cz sites mt k').temps:=xeh aa (n:=k') (k:=0) (by omega) (by omega);have aj:=h.pl.temps;rw[h.pmeth] at aj;have a4:T0+1+A+T<=ff.temps.length:=by rw[h.tlen];omega
   have W:=hx.need;have ah:x.a=(A:Int):=by omega
   have ao:A+1<=pf.stack.length:=by simp only[Cb,ho] at W;simp at W;omega
   obtain⟨base,recv,as',b,r⟩:=xk3 ao;have hP:PcAt (ET X.cz sites mt (Bv X.cz sites mt mt.code.length).begins mt.code.length) leaf (BQ 18 ks (A:Int) (k':Int)) T0 A T (Gg X.cz sites mt k'):=xpz hA p (by rw[v,← hA,← C];exact o1);have K:=xq6 (E':=E') (m:=m) hl.look' (ent':=BL E' d) (pf:={ pf with pc:=pf.pc+1 }) (a:=pf.pc) (x:=x) b (by rw[ah,r]);have M:BD (BL E' d) E' d m { pf with pc:=pf.pc+1 } pf.pc x=Dv (BL E' d) E' m { pf with pc:=pf.pc+1 } pf.pc x:=xiF ho;by_cases hk:Ch m.heap recv=ks
   ·
    rw[hk] at K;obtain⟨q,D⟩:∃q,q=(BF X.cz ks x.name).1:=⟨_,rfl⟩;obtain⟨t,F⟩:∃t,t=(BF X.cz ks x.name).2:=⟨_,rfl⟩;rw[← D,← F] at K a8;have a5:E'.quick q t=none:=by rw[hq];rfl
    have L:=xm8 (E':=E') (d:=d) (m:=m) hl.cls' a8 (recv:=recv) (as':=as') (by rw[hA,r]) o a5 hT;have a3:=xlv hX a8 o (a:=as') (by rw[hA,r]) recv (E:=E') a5;have an:CW E' q t leaf recv as'=⟨q,leaf,recv,as',Cv (T:Int),[],leaf.code,0,false⟩:=by unfold CW;rw[a5,p]
    rw[an] at a3;rw[p,← xfH hl] at L;have af:=xqb (ent:=BL E d) (ent':=BL E' (d-1)) (E:=E) (E':=E') (d:=d) (d':=d-1) (m:=m) (ff:=ff) (q:=q) (kc:=(k':Int)) ht (Ls E' (d-1)) (Qv E' (d-1)) hP am u h.fast h.code h.pc (by rw[h.stack];exact b) r a4 a3 hk hT;rcases af with ⟨c1,c2⟩ | ⟨c1,⟨r1,r2⟩ | ⟨r1,r2,ff',r3,r4,r5⟩⟩
    ·rw[if_pos c1] at L;rw[L,if_pos c1] at K;rw[c2,MM U (by omega) (by rw[M,K];exact c1),M,K];simp only[Prod.mk.injEq,and_true];unfold BY at c1 ⊢;split
     ·rfl
     split
     ·rfl
     rename_i z1 z2;rw[if_neg z1,if_neg z2] at c1;simp at c1
    ·rw[if_neg (by simpa using c1)] at L;rw[L,if_pos r1] at K;rw[r2,MM U (by omega) (by rw[M,K];exact r1),M,K]
    rw[if_neg (by simpa using c1)] at L;rw[L,if_neg (by simpa using r1)] at K;have Z:(BD (BL E' d) E' d m { pf with pc:=pf.pc+1 } pf.pc x).2.2=0:=by rw[M,K]
    have ab:=xk6 (ent:=BL E' d) (E:=E') (d:=d) (m:=m) h.pl hx (by omega) Z;obtain⟨l1,-,-⟩:=Lx a9 (E:=E') (d:=d) hT.1 U (by omega) Z;rw[M,K] at l1 ab;rw[r4,l1];refine iH (N-1) (by omega) _ _ _ (k'+1) ⟨ab,?_,h.pmeth,r3.fast,r3.code,by rw[r3.cls];exact h.cls,by rw[r3.meth];exact h.meth,by rw[r3.self];exact h.self,by rw[r3.args];exact h.args,r3.stack,?_,by rw[r3.len];exact h.tlen,?_⟩ r2 (by omega)
    ·simp only[h.ppc];omega
    ·rw[r3.pc,o2,KB,hA,p];simp only[Int.toNat_natCast];omega
    have e:=congrArg (List.take pf.temps.length) r3.take;rw[List.take_take,List.take_take,Nat.min_eq_left (by omega)] at e;exact e.trans h.take
   
   have a2:CL ff.stack (A:Int)=recv:=by
    unfold CL;rw[h.stack,show ((pf.stack.length:Int)-1-A)=((base.length:Nat):Int) by rw[b];simp;omega,LP,b,List.append_assoc];rw[List.getElem?_append_right (Bq _)];simp
   have V:EK ff=some (BQ 18 ks (A:Int) (k':Int)):=Px h.pc (by rw[h.code];exact hP.guard)
   have ae:BD (BL E d) E d m { ff with pc:=ff.pc+1 } ff.pc (BQ 18 ks (A:Int) (k':Int))=(m,pf,0):=by
    rw[PF (by simp)];have ak:CL { ff with pc:=ff.pc+1 }.stack (A:Int)=recv:=a2;have ad:=xpG h (by have:=g.temps;omega) (by omega);simp only[DB,h.fast,BQ,ak,hk];simp;unfold Fr.leave at ad ⊢;exact ad
   obtain⟨g1,-,-⟩:=Lx ht (E:=E) (d:=d) hT.1 V (by simp) (by rw[ae]);rw[ae] at g1;rw[g1];exact xrM hl c (Qv E' d) hT pf
end
section
variable {σ:Type} {E E':Env σ} {X:QW}
def xsr (X:QW)(E:Env σ):Prop:=∀c n q mt,E.quick c n=some q->Cp X.cz c n=some mt->∃sites,(En X c mt sites).2=true/\q=((En X c mt sites).1.code,(En X c mt sites).1.temps)
theorem xhL {c:Int}{mt:QM}{sites:List Int}(d:BM X=0)(a:Sml mt)(h:(En X c mt sites).2=true):(En X c mt sites).1.code=ET X.cz sites mt (Bv X.cz sites mt mt.code.length).begins mt.code.length/\(En X c mt sites).1.temps=(Bv X.cz sites mt mt.code.length).temps:=by
 rw[← xpC d a];unfold En at h ⊢;simp only at h ⊢;split
 ·rename_i b;rw[if_pos b] at h;cases h
 exact⟨rfl,rfl⟩
theorem xoM (f:BM X=0){mt:QM}{sites:List Int}:∀(j:Nat) lf,Fg X.cz sites mt j=some lf->0<=lf.args/\0<=lf.temps:=λj lf d=>by
 cases e:mt.code[j]? with
 | none=>unfold Fg at d;rw[e] at d;cases d
 | some y=>
  have c:DK X.cz sites mt.code.length (Bv X.cz sites mt j).code.length (Bv X.cz sites mt j).temps j y=some lf:=by unfold Fg at d;rw[e] at d;exact d
  unfold DK at c;split at c
  ·cases c
  rename_i l b;split at c
  ·cases c;obtain⟨a,-⟩:=LQ f b;exact⟨a.args.1,a.temps.1⟩
  cases c
theorem xhT {cs:List QC}(f:Like cs E E')(d:Nat){e b:Mc σ->Fr->Mc σ × QV × Int}(i:∀m c n mt s a,Cp cs c n=some mt->mt.args=a.length->mt.prim=0->DV m->e m (CW E c n mt s a)=b m (CW E' c n mt s a)):LR (El E d e) (El E' d b):=by
 intro m c n s a g;unfold El;rw[f.cls,f.cls']
 cases h:Cp cs c n with
 | none=>rfl
 | some mt=>
  simp only;by_cases h1:mt.args≠a.length
  ·rw[if_pos h1,if_pos h1]
  rw[if_neg h1,if_neg h1];by_cases h2:mt.prim≠0
  ·rw[if_pos h2,if_pos h2,f.fuel]
  rw[if_neg h2,if_neg h2,xfH f];by_cases h3:(BY E' d m).2≠0
  ·rw[if_pos h3,if_pos h3]
  rw[if_neg h3,if_neg h3];exact i _ c n mt s a h (by omega) (by omega) (Nk g)
theorem xlR (i:BM X=0)(o:Like X.cz E E')(t:E'.quick=NX)(y:xsr X E):∀d:Nat,LR (BL E d) (BL E' d)
 | 0=>xhT o 0 λm c n mt s a _ _ _ _=>rfl
 | d+1=>by
  refine xhT o (d+1) λm c n mt s a u G C l=>?_;have ih:=xlR i o t y d;have p:E'.quick c n=none:=by rw[t];rfl
  have f:CW E' c n mt s a=⟨c,mt,s,a,Cv mt.temps,[],mt.code,0,false⟩:=by unfold CW;rw[p]
  have v:=xlv i u C (a:=a) G s (E:=E') p;have g:=Qh i u
  cases h:E.quick c n with
  | none=>
   have j:CW E c n mt s a=CW E' c n mt s a:=by rw[f];unfold CW;rw[h]
   show CX (BL E d) E d _ m _=CX (BL E' d) E' d _ m _;rw[j];exact xiP o ih (Qv E' d) _ m _ l
  | some q=>
   obtain⟨sites,B,z⟩:=y c n q mt h u;obtain⟨p1,p2⟩:=xhL i g B;rw[p1,p2] at z;have j:CW E c n mt s a=⟨c,mt,s,a,Cv (Bv X.cz sites mt mt.code.length).temps,[],ET X.cz sites mt (Bv X.cz sites mt mt.code.length).begins mt.code.length,0,true⟩:=by unfold CW;rw[h,z]
   have D:=NN i (sites:=sites) g (k:=mt.code.length) (Bq _);have r:mt.temps<=(Bv X.cz sites mt mt.code.length).temps:=xeh (xoM i) (n:=mt.code.length) (k:=0) (by omega) (Bq _);have F:=g.temps;obtain⟨TT,b⟩:∃TT:Nat,(Bv X.cz sites mt mt.code.length).temps=(TT:Int):=⟨(Bv X.cz sites mt mt.code.length).temps.toNat,by omega⟩
   obtain⟨nt,e⟩:∃nt:Nat,mt.temps=(nt:Int):=⟨mt.temps.toNat,by omega⟩
   show CX (BL E d) E d _ m _=CX (BL E' d) E' d _ m _;rw[xly (Ls E d) E d l.1 (PT l.1),xly (Ls E' d) E' d l.1 (PT l.1),j];refine xsP i g o t ih _ m _ _ 0 ⟨v,by rw[f];rfl,by rw[f],rfl,rfl,by rw[f],by rw[f],by rw[f],by rw[f],by rw[f],rfl,?_,?_⟩ l (Bq _)
   ·simp only[b];rw[Py (by omega)];simp
   rw[f];simp only[b,e];rw[Py (by omega),Py (by omega)];simp;omega
end
def KQ (X:QW)(f:Fst):Prop:=∃c k mt sites,Cp X.cz c k=some mt/\En X c mt sites=(f,true)
theorem xme {X:QW}{c:Int}{mt:QM}{sites:List Int}{f:Fst}(h:En X c mt sites=(f,true)):f.cls=c/\f.name=mt.name/\f.ez=X.ez:=by
 unfold En at h;simp only at h;split at h
 ·cases h
 cases h;exact⟨rfl,rfl,rfl⟩
theorem xrG {σ:Type}{X:QW}(i:BM X=0){E:Env σ}{l:List Fst}(g:∀f∈l,KQ X f)(k:∀c n q,E.quick c n=some q->∃f∈l,f.cls=c/\(∀mt,Cp X.cz c n=some mt->f.name=mt.name)/\q=(f.code,f.temps)):xsr X E:=by
 intro c n q mt j e;obtain⟨f,h,o,m,rfl⟩:=k c n q j;obtain⟨c',k',b,sites,d,a⟩:=g f h;obtain⟨n1,n2,-⟩:=xme a;obtain rfl:c'=c:=by rw[← o,n1]
 obtain rfl:b=mt:=xfT i d e (by rw[← n2];exact m mt e);exact⟨sites,by rw[a],by rw[a]⟩
theorem xjm {X:QW}{c k:Int}{sites:List Int}{f:Fst}(h:Hw X c k sites=(f,true)):KQ X f:=by
 unfold Hw at h
 cases a:Cp X.cz c k with
 | none=>rw[a] at h;cases h
 | some mt=>rw[a] at h;exact⟨c,k,mt,sites,a,h⟩
def Lc (X:QW)(fuel:Int)(qk:Int->Int->Option (List QI × Int)):Env Unit:=⟨X.cz,fuel,λ_ _ c name=>((),BF X.cz c name),qk⟩
def runF (X:QW)(qk:Int->Int->Option (List QI × Int))(s:QV)(name:ByteArray)(args:List QV)(fuel:Int):Mc Unit × QV × Int:=
 BL (Lc X fuel qk) 20 ⟨X.heap,0,0,()⟩ (BF X.cz (Ch X.heap s) name).1 (BF X.cz (Ch X.heap s) name).2 s args
theorem xnR (X:QW)(fuel:Int)(qk:Int->Int->Option (List QI × Int)):Like X.cz (Lc X fuel qk) (Ht X fuel):=⟨rfl,rfl,rfl,λ_ _ _ _=>rfl,λ_ _ _ _=>rfl⟩
theorem xjv {X:QW}(c:BM X=0){fuel:Int}{qk:Int->Int->Option (List QI × Int)}(b:xsr X (Lc X fuel qk))(s:QV)(name:ByteArray)(a:List QV):runF X qk s name a fuel=Lj X s name a fuel:=
 xlR c (xnR X fuel qk) rfl b 20 _ _ _ _ _ ⟨by simp,by simp⟩
theorem xjs {cs:List QC}{a:QM}(j:CodeOk cs a.code)(e:∀x∈a.code,x.op≠13)(self d c first b:Int):CodeOk cs (a.code.map (Cc self d c first b)):=by
 intro y i;obtain⟨x,g,rfl⟩:=List.mem_map.1 i;have f:=j x g;have h:=e x g;unfold Cc;split
 ·simp
 split
 ·simp
 split
 ·rename_i o;simp;omega
 split
 ·simp
 split
 ·simp
 split
 ·rename_i o;simp;omega
 split
 ·simp
 exact f
theorem CodeOk.append {cs:List QC}{a b:List QI}(d:CodeOk cs a)(e:CodeOk cs b):CodeOk cs (a++b):=λx c=>by
 rcases List.mem_append.1 c with h | h
 ·exact d x h
 exact e x h
theorem xnA {cs:List QC}{l:List QI}(h:∀x∈l,x.op≠5/\x.op≠13):CodeOk cs l:=λx a=>⟨λe=>absurd e (h x a).1,λe=>absurd e (h x a).2⟩
theorem xjR {cs:List QC}{a:QM}(d:CodeOk cs a.code)(b:∀x∈a.code,x.op≠13){g:QI}(e:g.op=18)(self n:Int):CodeOk cs (Eh a g self n):=by
 unfold Eh Kc;refine (xnA λy c=>?_).append (xjs d b _ _ _ _ _);simp only[List.mem_append,List.mem_cons,List.not_mem_nil,or_false] at c;rcases c with ((((h | h) | h) | h) | h)
 ·subst h;omega
 ·subst h;simp
 ·have:=xiE _ _ y h;omega
 ·subst h;simp
 have:=xkS _ _ y h;omega
theorem xid {cs:List QC}{l:List QI}(h:CodeOk cs l){f:QI->QI}(c:∀y,¬ (y.op=15\/y.op=16)->f y=y)(a:∀y,(f y).op=y.op):CodeOk cs (l.map f):=λz b=>by
 obtain⟨y,d,rfl⟩:=List.mem_map.1 b;by_cases hj:y.op=15\/y.op=16
 ·exact⟨λe=>by rw[a] at e;omega,λe=>by rw[a] at e;omega⟩
 rw[c y hj];exact h y d
theorem xpe (n:Int)(y:QI):(Lm n y).op=y.op:=by unfold Lm;split<;>rfl
theorem xrF (B:List Int)(y:QI):(EN B y).op=y.op:=by unfold EN;split<;>rfl
theorem xia {X:QW}(m:BM X=0){mt:QM}(p:CodeOk X.cz mt.code){sites:List Int}(B:List Int):∀k:Nat,CodeOk X.cz (ET X.cz sites mt B k)
 | 0=>λx i=>by simp[ET] at i
 | k+1=>by
  have ih:=xia m p (sites:=sites) B k;unfold ET
  cases i:mt.code[k]? with
  | none=>exact ih
  | some x=>
   simp only
   cases h:DK X.cz sites mt.code.length (Bv X.cz sites mt k).code.length (Bv X.cz sites mt k).temps k x with
   | none=>
    simp only;refine ih.append λy g=>?_;simp only[List.mem_cons,List.not_mem_nil,or_false] at g;subst g
    have q:CodeOk X.cz [CS x (k:Int)]:=λz n=>by
     simp only[List.mem_cons,List.not_mem_nil,or_false] at n;subst n;have:=p x (List.mem_of_getElem? i);unfold CS;split
     ·rename_i o;simp;omega
     exact this
    exact xid q (f:=EN B) (λy g=>by unfold EN;exact if_neg g) (xrF B) _ (by simp)
   | some leaf=>
    simp only
    have e:Et X.cz sites k x=some leaf:=by
     unfold DK at h;split at h
     ·cases h
     rename_i l c;split at h
     ·cases h;exact c
     cases h
    obtain⟨r,d,b,s⟩:=LQ m e;obtain⟨-,a⟩:=xl6 b
    have j:Lh X.cz (sites.getD k (-1)) x.name=some leaf:=by
     unfold Et at e;split at e
     ·split at e
      ·cases e
      rename_i y g;split at e
      ·cases e;exact g
      cases e
     cases e
    exact ih.append (xid (xjR (xec m (xeS j)) (λx i=>(a x i).1) rfl _ _) (λy g=>LT g) (xpe _))
theorem xmu {X:QW}(a:BM X=0){fuel:Int}{qk:Int->Int->Option (List QI × Int)}(e:∀c n q,qk c n=some q->∃c' k' mt sites,Cp X.cz c' k'=some mt/\(En X c' mt sites).2=true/\q=((En X c' mt sites).1.code,(En X c' mt sites).1.temps)):EOk (Lc X fuel qk):=by
 refine⟨λc n m b=>xec a b,λc n q f=>?_,xdt a⟩;obtain⟨c',k',mt,sites,b,d,rfl⟩:=e c n q f;obtain⟨p1,-⟩:=xhL a (Qh a b) d;show CodeOk X.cz (En X c' mt sites).1.code;rw[p1];exact xia a (xec a b) _ _
def Gw (X:QW)(p:Fst->Bool)(l:List Fst)(c n:Int):Option (List QI × Int):=match Cp X.cz c n with
 | none=>none
 | some mt=>(l.find? λf=>decide (f.cls=c) && CD f.name mt.name && p f).map λf=>(f.code,f.temps)
theorem xgE {X:QW}{p:Fst->Bool}{l:List Fst}{c n:Int}{q:List QI × Int}(h:Gw X p l c n=some q):∃f∈l,f.cls=c/\(∀mt,Cp X.cz c n=some mt->f.name=mt.name)/\p f=true/\q=(f.code,f.temps):=by
 unfold Gw at h
 cases b:Cp X.cz c n with
 | none=>rw[b] at h;cases h
 | some mt=>
  rw[b] at h;simp only[Option.map_eq_some_iff] at h;obtain⟨f,d,rfl⟩:=h;have g:=List.mem_of_find?_eq_some d;have a:=List.find?_some d;simp only[Bool.and_eq_true,decide_eq_true_eq] at a;refine⟨f,g,a.1.1,λmt' e=>?_,a.2,rfl⟩
  cases e;exact (xm9 _ _).1 a.1.2
theorem xrO {X:QW}(e:BM X=0)(p:Fst->Bool){l:List Fst}(d:∀f∈l,KQ X f)(fuel:Int):xsr X (Lc X fuel (Gw X p l)):=xrG e d λc n q h=>by
 obtain⟨f,a,g,i,-,b⟩:=xgE h;exact⟨f,a,g,i,b⟩
theorem xm6 {X:QW}(b:BM X=0)(p:Fst->Bool){l:List Fst}(c:∀f∈l,KQ X f)(s:QV)(name:ByteArray)(a:List QV)(fuel:Int):runF X (Gw X p l) s name a fuel=Lj X s name a fuel:=xjv b (xrO b p c fuel) s name a
theorem xo3 {X:QW}(g:BM X=0)(p:Fst->Bool){l:List Fst}(e:∀f∈l,p f=true->KQ X f)(fuel:Int):EOk (Lc X fuel (Gw X p l)):=xmu g λc n q h=>by
 obtain⟨f,b,-,-,d,rfl⟩:=xgE h;obtain⟨c',k',mt,sites,i,a⟩:=e f b d;exact⟨c',k',mt,sites,i,by rw[a],by rw[a]⟩
end Go.Proofs.YtbafokihegegiaaGreatDoor
