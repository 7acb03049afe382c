/- A part. -/
import Derived.Test.YtaodadfahifbpaaGreatQ18
import Derived.Test.YtaodadfahifbpaaGreatQ21
namespace Go.Proofs.YtaodadfahifbpaaGreat
open Go.ChangeShapes Go.WideShapes Go.ChangeAt Go.RowKit
set_option linter.unusedSimpArgs false
set_option linter.unusedVariables false
set_option maxHeartbeats 8000000
theorem xeV {α:Type}{a b:List α}{j:Nat}{y:α}(h:a[j]?=some y):(a++b)[j]?=some y:=by rw[List.getElem?_append_left (xae h)];exact h
theorem xoy {α:Type}{a b:List α}{n j:Nat}{y:α}(hn:a.length=n)(h:b[j]?=some y):(a++b)[n+j]?=some y:=by subst hn;rw[List.getElem?_append_right (by omega)];simpa using h
structure PcAt (FC:List QI)(leaf:QM)(g:QI)(T0 A T p:Nat):Prop where
 guard:FC[p]?=some g
 count:FC[p+1]?=some (ins 21 0 0 0)
 sets:∀ (j:Nat) y,(xdd ((T0+1:Nat):Int) A)[j]?=some y->FC[p+2+j]?=some y
 set:FC[p+2+A]?=some (ins 11 (T0:Int) 0 0)
 nils:∀ (j:Nat) y,(xco ((T0+1+A:Nat):Int) T)[j]?=some y->FC[p+3+A+j]?=some y
 code:∀ (j:Nat) x,leaf.code[j]?=some x->FC[p+3+A+2*T+j]?=some (xay T0 (T0+1) (T0+1+A) ((p+3+A+2*T:Nat):Int) (((p+3+A+2*T:Nat):Int)+leaf.code.length) x)
theorem xoe {FC:List QI}{leaf:QM}{g:QI}{T0 A T p:Nat}(hA:leaf.args=(A:Int))(hT:leaf.temps=(T:Int))(h:∀ (j:Nat) y,(xbu leaf g (T0:Int) (p:Int))[j]?=some y->FC[p+j]?=some y):PcAt FC leaf g T0 A T p:=by
 have hS:=xfV ((T0:Int)+1) A;have hN:=xdP ((T0:Int)+1+A) T;have hf:xbw leaf (p:Int)=((p+3+A+2*T:Nat):Int):=by unfold xbw;rw[hA,hT];omega
 have hpe:xbu leaf g (T0:Int) (p:Int)=[g,ins 21 0 0 0]++xdd ((T0:Int)+1) A++[ins 11 (T0:Int) 0 0]++xco ((T0:Int)+1+A) T++leaf.code.map (xay T0 (T0+1) (T0+1+A) ((p+3+A+2*T:Nat):Int) (((p+3+A+2*T:Nat):Int)+leaf.code.length)):=by
  unfold xbu xfy;rw[hf,hA,hT];simp only[Int.toNat_natCast]
 rw[hpe] at h;refine⟨?_,?_,?_,?_,?_,?_⟩
 ·simpa using h 0 g (xeV (xeV (xeV (xeV rfl))))
 ·exact h 1 _ (xeV (xeV (xeV (xeV rfl))))
 ·intro j y hy;rw[show p+2+j=p+(2+j) by omega]
  exact h (2+j) y (xeV (xeV (xeV (xoy rfl (by simpa using hy)))))
 ·rw[show p+2+A=p+(2+A+0) by omega]
  exact h _ _ (xeV (xeV (xoy (by simp[hS];omega) rfl)))
 ·intro j y hy;rw[show p+3+A+j=p+(3+A+j) by omega]
  exact h _ y (xeV (xoy (by simp[hS];omega) (by have:=hy;simpa using this)))
 ·intro j x hx;rw[show p+3+A+2*T+j=p+(3+A+2*T+j) by omega]
  exact h _ _ (xoy (by simp[hS,hN];omega) (by rw[List.getElem?_map,hx];rfl))
section
variable {σ:Type} {ent ent':Ent σ} {E E':Env σ} {d d':Nat} {m:Mc σ}
theorem xdQ {T:Nat}(h:T<=40):xaG (T:Int)=List.replicate T xaU:=by unfold xaG;congr 1;omega
theorem xnT (ht:xbt ent)(ht':xbt ent')(he':xia ent'){FC:List QI}{leaf:QM}{T0 A T p:Nat}{ks kc:Int}(hP:PcAt FC leaf (ins 18 ks (A:Int) kc) T0 A T p)(hT6:T<=40)(hleaf:∀ x∈leaf.code,x.op≠13/\x.op≠14){base as':List QV}{recv:QV}{ff:Fr}(hfast:ff.fast=true)(hcode:ff.code=FC)(hpc:ff.pc=(p:Int))(hst:ff.stack=base++[recv]++as')(hal:as'.length=A)(hlen:T0+1+A+T<=ff.temps.length){q:Int}(hpl:PlOk ⟨q,leaf,recv,as',xaG (T:Int),[],leaf.code,0,false⟩)(hk:xas m.heap recv=ks)(hTk:TOk m) :
  ((xau E d m).2≠0/\goE ent E d m ff=((xau E d m).1,xaU,(xau E d m).2))\/
  ((xau E d m).2=0/\(((goE ent' E' d' (xau E d m).1 ⟨q,leaf,recv,as',xaG (T:Int),[],leaf.code,0,false⟩).2.2≠0/\goE ent E d m ff=((goE ent' E' d' (xau E d m).1 ⟨q,leaf,recv,as',xaG (T:Int),[],leaf.code,0,false⟩).1,xaU,(goE ent' E' d' (xau E d m).1 ⟨q,leaf,recv,as',xaG (T:Int),[],leaf.code,0,false⟩).2.2))\/
   ((goE ent' E' d' (xau E d m).1 ⟨q,leaf,recv,as',xaG (T:Int),[],leaf.code,0,false⟩).2.2=0/\TOk (goE ent' E' d' (xau E d m).1 ⟨q,leaf,recv,as',xaG (T:Int),[],leaf.code,0,false⟩).1/\∃ ff',LfQ FC T0 (((p+3+A+2*T:Nat):Int)+leaf.code.length) base ff (goE ent' E' d' (xau E d m).1 ⟨q,leaf,recv,as',xaG (T:Int),[],leaf.code,0,false⟩).2.1 ff'/\goE ent E d m ff=goE ent E d (goE ent' E' d' (xau E d m).1 ⟨q,leaf,recv,as',xaG (T:Int),[],leaf.code,0,false⟩).1 ff'/\muE (goE ent' E' d' (xau E d m).1 ⟨q,leaf,recv,as',xaG (T:Int),[],leaf.code,0,false⟩).1 ff'<muE m ff))):=by
 have hbelow:xaQ ff.stack (A:Int)=recv:=by
  unfold xaQ;rw[show ((ff.stack.length:Int)-1-A)=((base.length:Nat):Int) by rw[hst];simp;omega,xb9,hst,List.append_assoc]
  rw[List.getElem?_append_right (qzC _)]
  simp
 have g1:Goes ent E d m ff { ff with pc:=ff.pc+1 }:=by
  refine xgx ht hTk.1 hpc (by rw[hcode];exact hP.guard) (by simp) ?_
  rw[xgn (by simp)]
  have hb':xaQ { ff with pc:=ff.pc+1 }.stack (A:Int)=recv:=hbelow
  simp only[xbQ,hfast,ins,hb',hk]
  simp
 have hc1:xbO { ff with pc:=ff.pc+1 }=some (ins 21 0 0 0):=xeX (p:=p+1) (by simp only[hpc];omega) (by simp only[hcode];exact hP.count)
 have hs1:xaj ent E d m { ff with pc:=ff.pc+1+1 } (ff.pc+1) (ins 21 0 0 0)=((xau E d m).1,{ ff with pc:=ff.pc+1+1 },(xau E d m).2):=by
  rw[xgn (by simp)]
  simp[xbQ,hfast,ins]
 by_cases hcz:(xau E d m).2=0
 ·right
  refine⟨hcz,?_⟩;have hTk1:TOk (xau E d m).1:=xc6 hTk;obtain⟨c1,c2,c3⟩:=xhB ht (E:=E) (d:=d) hTk.1 hc1 (by simp) (by rw[hs1];exact hcz)
  rw[hs1] at c1 c2;simp only at c1 c2;generalize (xau E d m).1=m1 at *;obtain⟨f1,n1,n2,n3,n4,n5,n6⟩:=xno (ent:=ent) (E:=E) (d:=d) (m:=m1) ht hTk1.1 (T0+1) A { ff with pc:=ff.pc+1+1 } (p+2) (base++[recv]) as' (by simp only[hpc];omega) (fun j y hy=>by simp only[hcode];exact hP.sets j y hy) hst hal (by simp only;omega)
  obtain⟨f2,k1,k2,k3,k4,k5,k6⟩:=xhS (E:=E) (d:=d) (m:=m1) ht hTk1.1 (f:=f1) (p:=p+2+A) (n:=T0) (base:=base) (v:=recv) (a:=(T0:Int)) n2 (by rw[n1.code];simp only[hcode];exact hP.set) rfl n3 (by rw[n1.len];simp only;omega)
  obtain⟨f3,l1,l2,l3,l4,l5,l6⟩:=xmY (ent:=ent) (E:=E) (d:=d) (m:=m1) ht hTk1.1 (T0+1+A) T (p+3+A) T 0 f2 (by omega) (by rw[k2];omega) (fun j y hy=>by rw[k1.code,n1.code];simp only[hcode];exact hP.nils j y hy) (by rw[k1.len,n1.len];simp only;omega) (fun q hq=>by omega)
  have nx:=(n1.trans k1).trans l1
  have hL:LfP leaf.code FC T0 A (p+3+A+2*T) base ff f3 ⟨q,leaf,recv,as',xaG (T:Int),[],leaf.code,0,false⟩:=by
   refine⟨nx.fast.trans hfast,nx.code.trans hcode,nx.cls,nx.meth,nx.self,nx.args,nx.len,?_,hpl,rfl,hal,?_,?_,?_,?_,?_⟩
   ·apply List.ext_getElem?
    intro i;rw[List.getElem?_take,List.getElem?_take]
    split
    ·rw[l5 i (by omega),k5 i (by omega),n5 i (by omega)]
    ·rfl
   ·rw[l2];simp
   ·rw[l3,k3];simp
   ·rw[l5 _ (by omega),k4]
   ·intro i v hv;have:=xae hv;simp only at this hv;rw[show T0+1+i=T0+1+i from rfl,l5 _ (by omega),k5 _ (by omega)]
    exact n4 i v hv
   ·intro i v hv;rw[xdQ hT6] at hv;have hi:=xae hv
    simp at hi
    rw[List.getElem?_replicate,if_pos hi] at hv
    cases hv
    exact l4 i hi
  have hgo:goE ent E d m ff=goE ent E d m1 f3:=by rw[g1.1,c1,n6.1,k6.1,l6.1]
  have hmu:muE m1 f3<muE m ff:=by have:=g1.2;have:=n6.2;have:=k6.2;have:=l6.2;omega
  have hrun:=xkJ (ent:=ent) (ent':=ent') (E:=E) (E':=E') (d:=d) (d':=d') ht ht' he' hleaf hP.code (muE m1 f3) m1 f3 _ hL hTk1 (qzC _)
  rcases hrun with ⟨r1,r2⟩ | ⟨r1,r2,ff',r3,r4,r5⟩
  ·exact Or.inl ⟨r1,by rw[hgo];exact r2⟩
  ·exact Or.inr ⟨r1,r2,ff',r3,by rw[hgo];exact r4,by omega⟩
 ·left
  refine⟨hcz,?_⟩;rw[g1.1,xfQ hc1 (by simp) (by rw[hs1];exact hcz),hs1]
end
section
variable {σ:Type}
structure Like (cs:List QC)(E E':Env σ):Prop where
 fuel:E.fuel=E'.fuel
 cls:E.cz=cs
 cls':E'.cz=cs
 look:∀ st s k nm,E.look st s k nm=(st,xaB cs k nm)
 look':∀ st s k nm,E'.look st s k nm=(st,xaB cs k nm)
def xdR (ent ent':Ent σ):Prop:=∀ m c n s a,TOk m->ent m c n s a=ent' m c n s a
variable {cs:List QC} {E E':Env σ} {ent ent':Ent σ} {d:Nat} {m:Mc σ}
theorem xe8 (h:Like cs E E'):xau E d m=xau E' d m:=by unfold xau;rw[h.fuel]
theorem xiw (h:Like cs E E')(he:xdR ent ent')(hT:TOk m){f f':Fr}{a a':Int}{x x':QI}(hs:f.stack=f'.stack)(hx:x.a=x'.a)(hn:x.name=x'.name):xbD ent E m f a x=((xbD ent' E' m f' a' x').1,(if (xbD ent' E' m f' a' x').2.2≠0 then f else { f with stack:=(xbD ent' E' m f' a' x').2.1.stack }),(xbD ent' E' m f' a' x').2.2):=by
 unfold xbD;simp only[h.look,h.look',hs,hx,hn];have e:=he m (xaB cs (xas m.heap (xaQ (List.take (xbp f'.stack x'.a) f'.stack) 0)) x'.name).1 (xaB cs (xas m.heap (xaQ (List.take (xbp f'.stack x'.a) f'.stack) 0)) x'.name).2 (xaQ (List.take (xbp f'.stack x'.a) f'.stack) 0) (List.drop (xbp f'.stack x'.a) f'.stack) hT;have e':({ heap:=m.heap,sz_:=m.sz_,tz:=m.tz,st:=m.st }:Mc σ)=m:=rfl;rw[e',e];generalize ent' m _ _ _ _=r
 by_cases hz:r.2.2≠0
 ·rw[if_pos hz,if_pos hz];simp[hz]
 ·rw[if_neg hz,if_neg hz];simp
theorem xnj (h:Like cs E E')(he:xdR ent ent')(hT:TOk m)(f:Fr)(a:Int)(x:QI):xaj ent E d m f a x=xaj ent' E' d m f a x:=by
 have hs:xbD ent E m f a x=xbD ent' E' m f a x:=by
  rw[xiw h he hT (f':=f) (a':=a) (x':=x) rfl rfl rfl];unfold xbD;simp only[h.look'];generalize ent' _ _ _ _ _=r
  by_cases hz:r.2.2≠0
  ·simp[hz]
  ·have:r.2.2=0:=by simpa using hz
   simp[this]
 have hm:xbV E m f x.a=xbV E' m f x.a:=by unfold xbV;rw[h.cls,h.cls']
 have hf:xbQ E d m f x=xbQ E' d m f x:=by unfold xbQ;rw[xe8 h]
 unfold xaj;rw[hs,hm,hf]
theorem xhO (h:Like cs E E')(he:xdR ent ent')(he':xia ent'):∀ (g:Nat) (m:Mc σ) (f:Fr),TOk m->xb7 ent E d g m f=xb7 ent' E' d g m f
 | 0,m,f,hT=>rfl
 | g+1,m,f,hT=>by
  cases hf:xbO f with
  | none=>rw[xdp hf,xdp hf]
  | some x=>
   by_cases h17:x.op=17
   ·rw[xdU hf h17,xdU hf h17]
   ·rw[xdg hf h17,xdg hf h17,xnj h he hT];have hs:=xfK (E:=E') (d:=d) (f:={ f with pc:=f.pc+1 }) (at':=f.pc) (x:=x) he' hT
    generalize xaj ent' E' d m { f with pc:=f.pc+1 } f.pc x=r at hs ⊢
    by_cases hz:r.2.2≠0
    ·rw[if_pos hz,if_pos hz]
    ·rw[if_neg hz,if_neg hz]
     exact xhO h he he' g r.1 r.2.1 (hs (by omega))
theorem xpD (h:Like cs E E')(he:xdR ent ent')(he':xia ent')(hT:TOk m)(f:Fr):goE ent E d m f=goE ent' E' d m f:=xhO h he he' _ m f hT
structure FP (FC:List QI)(TT:Nat)(bk:Nat->Nat)(mt:QM)(ff pf:Fr)(k:Nat):Prop where
 pl:PlOk pf
 ppc:pf.pc=(k:Int)
 pmeth:pf.meth=mt
 fast:ff.fast=true
 code:ff.code=FC
 cls:ff.cls=pf.cls
 meth:ff.meth=pf.meth
 self:ff.self=pf.self
 args:ff.args=pf.args
 stack:ff.stack=pf.stack
 pc:ff.pc=(bk k:Int)
 tlen:ff.temps.length=TT
 take:ff.temps.take pf.temps.length=pf.temps
variable {FC:List QI} {TT:Nat} {bk:Nat->Nat} {mt:QM} {ff pf:Fr} {k:Nat}
theorem FP.to (h:FP FC TT bk mt ff pf k){ff' pf':Fr}{k':Nat}(pl:PlOk pf')(c1:pf'.pc=(k':Int))(c2:pf'.meth=pf.meth)(c3:pf'.cls=pf.cls)(c4:pf'.self=pf.self)(c5:pf'.args=pf.args)(c6:pf'.temps=pf.temps)(d1:ff'.fast=ff.fast)(d2:ff'.code=ff.code)(d3:ff'.cls=ff.cls)(d4:ff'.meth=ff.meth)(d5:ff'.self=ff.self)(d6:ff'.args=ff.args)(d7:ff'.temps=ff.temps)(hp:ff'.pc=(bk k':Int))(hs:ff'.stack=pf'.stack):FP FC TT bk mt ff' pf' k':=
 ⟨pl,c1,c2.trans h.pmeth,d1.trans h.fast,d2.trans h.code,by rw[d3,c3];exact h.cls,by rw[d4,c2];exact h.meth,by rw[d5,c4];exact h.self,by rw[d6,c5];exact h.args,hs,hp,by rw[d7];exact h.tlen,by rw[d7,c6];exact h.take⟩
theorem FP.temp (h:FP FC TT bk mt ff pf k){i:Nat}(hi:i<pf.temps.length):ff.temps[i]?=pf.temps[i]?:=by
 have e:(ff.temps.take pf.temps.length)[i]?=pf.temps[i]?:=by rw[h.take]
 rw[List.getElem?_take,if_pos hi] at e
 exact e
def xqR (FC:List QI)(TT:Nat)(bk:Nat->Nat)(mt:QM)(r2 r:Mc σ × Fr × Int):Prop:=r2.1=r.1/\r2.2.2=r.2.2/\(r.2.2=0->∃ k',FP FC TT bk mt r2.2.1 r.2.1 k')
theorem xi8 (h:FP FC TT bk mt ff pf k)(hb:∀ i j,i<mt.code.length->j<mt.code.length->((bk i:Int)<=bk j ↔ (i:Int)<=j))(hkl:k<mt.code.length)(ht:TOk m){ff1 pf1:Fr}{t:Nat}(htl:t<mt.code.length)(c2:pf1.meth=pf.meth)(c3:pf1.cls=pf.cls)(c4:pf1.self=pf.self)(c5:pf1.args=pf.args)(c6:pf1.temps=pf.temps)(d1:ff1.fast=ff.fast)(d2:ff1.code=ff.code)(d3:ff1.cls=ff.cls)(d4:ff1.meth=ff.meth)(d5:ff1.self=ff.self)(d6:ff1.args=ff.args)(d7:ff1.temps=ff.temps)(hs:ff1.stack=pf1.stack)(PL:(xaV m pf1 pf.pc (t:Int)).2.2=0->PlOk (xaV m pf1 pf.pc (t:Int)).2.1) :
  xqR FC TT bk mt (xaV m ff1 ff.pc (bk t:Int)) (xaV m pf1 pf.pc (t:Int)):=by
 have hp:=h.pc;have hpp:=h.ppc;have hbb:=hb t k htl hkl
 rcases xbL m pf1 pf.pc (t:Int) ht with ⟨k1,k2,k3⟩ | ⟨k1,k2,k3⟩ | ⟨k1,k3⟩
 ·rcases xbL m ff1 ff.pc (bk t:Int) ht with ⟨j1,j2,j3⟩ | ⟨j1,j2,j3⟩ | ⟨j1,j3⟩
  ·rw[k3,j3];exact⟨rfl,rfl,fun h=>by simp at h⟩
  ·omega
  ·rw[hp] at j1;rw[hpp] at k1;have:=hbb.2 k1;omega
 ·rcases xbL m ff1 ff.pc (bk t:Int) ht with ⟨j1,j2,j3⟩ | ⟨j1,j2,j3⟩ | ⟨j1,j3⟩
  ·omega
  ·rw[k3] at PL;rw[k3,j3]
   exact⟨rfl,rfl,fun _=>⟨t,h.to (PL rfl) rfl c2 c3 c4 c5 c6 d1 d2 d3 d4 d5 d6 d7 rfl hs⟩⟩
  ·rw[hp] at j1;rw[hpp] at k1;have:=hbb.2 k1;omega
 ·rcases xbL m ff1 ff.pc (bk t:Int) ht with ⟨j1,j2,j3⟩ | ⟨j1,j2,j3⟩ | ⟨j1,j3⟩
  ·rw[hp] at j1;rw[hpp] at k1;have:=hbb.1 j1;omega
  ·rw[hp] at j1;rw[hpp] at k1;have:=hbb.1 j1;omega
  ·rw[k3] at PL;rw[k3,j3]
   exact⟨rfl,rfl,fun _=>⟨t,h.to (PL rfl) rfl c2 c3 c4 c5 c6 d1 d2 d3 d4 d5 d6 d7 rfl hs⟩⟩
end
section
variable {σ:Type} {cs:List QC} {E E':Env σ} {ent ent':Ent σ} {d:Nat} {m:Mc σ} {FC:List QI} {TT:Nat} {bk:Nat->Nat} {mt:QM} {ff pf:Fr} {k:Nat}
theorem xjt {l:List QV}{n i:Nat}(v:QV):(l.set i v).take n=(l.take n).set i v:=by
 apply List.ext_getElem?
 intro j;rw[List.getElem?_take,List.getElem?_set,List.getElem?_set,List.getElem?_take,List.length_take]
 by_cases h1:j<n
 ·by_cases h2:i=j
  ·subst h2
   by_cases h3:i<l.length
   ·simp[h1,h3,Nat.lt_min]
   ·simp[h1,h3,Nat.lt_min]
  ·simp[h1,h2]
 ·by_cases h2:i=j
  ·subst h2
   simp[h1,Nat.lt_min]
  ·simp[h1,h2]
theorem xmo (hl:Like cs E E')(he:xdR ent ent')(h:FP FC TT bk mt ff pf k)(hT:TOk m){x:QI}(hx:NxOk pf k x)(h17:x.op≠17){B:List Int}(hbk:bk (k+1)=bk k+1)(hb:∀ i j,i<mt.code.length->j<mt.code.length->((bk i:Int)<=bk j ↔ (i:Int)<=j))(hkl:k<mt.code.length)(hj:(x.op=15\/x.op=16)->∃ t:Nat,x.a=(t:Int)/\t<mt.code.length/\B.getD x.a.toNat 0=(bk t:Int)) :
  xqR FC TT bk mt (xaj ent E d m { ff with pc:=ff.pc+1 } ff.pc (xcE B (xbh x k))) (xaj ent' E' d m { pf with pc:=pf.pc+1 } pf.pc x):=by
 have hops:x.op=1\/x.op=2\/x.op=3\/x.op=4\/x.op=5\/x.op=6\/x.op=7\/x.op=8\/x.op=9\/x.op=10\/x.op=11\/x.op=12\/x.op=13\/x.op=14\/x.op=15\/x.op=16:=by
  obtain⟨h1,h2⟩:=hx.kind;clear hj hb hbk
  omega
 have PL:=xhN (ent:=ent') (E:=E') (d:=d) (m:=m) h.pl hx h17;have hk:=hx.kind;have hpc1:ff.pc+1=(bk (k+1):Int):=by rw[hbk,h.pc];omega
 have hpp1:pf.pc+1=((k+1:Nat):Int):=by rw[h.ppc];omega
 have same:x.op≠14->x.op≠15->x.op≠16->xcE B (xbh x k)=x:=fun a b c=>by
  have e:xbh x (k:Int)=x:=by unfold xbh;rw[if_neg a]
  rw[e];unfold xcE;rw[if_neg (by omega)]
 have push:∀ (v:QV),xao m.heap { pf with pc:=pf.pc+1 } x=some v->xao m.heap { ff with pc:=ff.pc+1 } x=some v->xqR FC TT bk mt (xaj ent E d m { ff with pc:=ff.pc+1 } ff.pc (xcE B (xbh x k))) (xaj ent' E' d m { pf with pc:=pf.pc+1 } pf.pc x):=fun v e1 e2=>by
  have:=xfb e1;rw[same (by omega) (by omega) (by omega)]
  rw[xdo e1] at PL;rw[xdo e1,xdo e2]
  exact⟨rfl,rfl,fun _=>⟨k+1,h.to (PL rfl) hpp1 rfl rfl rfl rfl rfl rfl rfl rfl rfl rfl rfl rfl hpc1 (by simp[Fr.push,h.stack])⟩⟩
 have htop:Fr.top { ff with pc:=ff.pc+1 }=Fr.top { pf with pc:=pf.pc+1 }:=by simp only[Fr.top,h.stack]
 rcases hops with o | o | o | o | o | o | o | o | o | o | o | o | o | o | o | o
 ·exact push pf.self (by simp[xao,o]) (by simp[xao,o,h.self])
 ·exact push (xaM pf.args x.a) (by simp[xao,o]) (by simp[xao,o,h.args])
 ·obtain⟨a0,a1⟩:=hx.temp (Or.inl o);obtain⟨i,hi⟩:∃ i:Nat,x.a=(i:Int):=⟨x.a.toNat,by omega⟩
  refine push (xaM pf.temps x.a) (by simp[xao,o]) ?_
  have e:xaM ff.temps x.a=xaM pf.temps x.a:=by rw[hi,xb9,xb9,h.temp (by omega)]
  simp[xao,o,e]
 ·exact push (xcF m.heap pf.self x.a) (by simp[xao,o]) (by simp[xao,o,h.self])
 ·exact push ⟨3,x.a⟩ (by simp[xao,o]) (by simp[xao,o])
 ·exact push xaU (by simp[xao,o]) (by simp[xao,o])
 ·exact push ⟨1,0⟩ (by simp[xao,o]) (by simp[xao,o])
 ·exact push ⟨2,0⟩ (by simp[xao,o]) (by simp[xao,o])
 ·rw[same (by omega) (by omega) (by omega)]
  rw[xhq o] at PL;rw[xhq o,xhq o]
  exact⟨rfl,rfl,fun _=>⟨k+1,h.to (PL rfl) hpp1 rfl rfl rfl rfl rfl rfl rfl rfl rfl rfl rfl rfl hpc1 (by simp[Fr.pop,h.stack])⟩⟩
 ·rw[same (by omega) (by omega) (by omega)]
  rw[xhr o] at PL;rw[xhr o,xhr o,htop]
  exact⟨rfl,rfl,fun _=>⟨k+1,h.to (PL rfl) hpp1 rfl rfl rfl rfl rfl rfl rfl rfl rfl rfl rfl rfl hpc1 (by simp[Fr.push,h.stack])⟩⟩
 ·obtain⟨a0,a1⟩:=hx.temp (Or.inr o);obtain⟨i,hi⟩:∃ i:Nat,x.a=(i:Int):=⟨x.a.toNat,by omega⟩
  rw[same (by omega) (by omega) (by omega)]
  rw[xgo o] at PL;rw[xgo o,xgo o,htop];refine⟨rfl,rfl,fun _=>⟨k+1,⟨PL rfl,hpp1,h.pmeth,h.fast,h.code,h.cls,h.meth,h.self,h.args,by simp[Fr.pop,h.stack],hpc1,?_,?_⟩⟩⟩
  ·simp only[xbE];exact h.tlen
  ·simp only[xbE,hi,xbS,List.length_set];rw[xjt,h.take]
 ·rw[same (by omega) (by omega) (by omega)]
  rw[xjb o] at PL;rw[xjb o,xjb o,htop]
  exact⟨by simp only[h.self],rfl,fun _=>⟨k+1,h.to (PL rfl) hpp1 rfl rfl rfl rfl rfl rfl rfl rfl rfl rfl rfl rfl hpc1 (by simp[Fr.pop,h.stack])⟩⟩
 ·rw[same (by omega) (by omega) (by omega)]
  rw[xmr o] at PL;rw[xmr o,xmr o];unfold xbV at PL ⊢;rw[hl.cls];rw[hl.cls'] at PL ⊢
  by_cases hz:60<=m.heap.length\/2147483647<xaY cs x.a
  ·rw[if_pos hz,if_pos hz]
   exact⟨rfl,rfl,fun h=>by simp at h⟩
  ·rw[if_neg hz] at PL;rw[if_neg hz,if_neg hz]
   exact⟨rfl,rfl,fun _=>⟨k+1,h.to (PL rfl) hpp1 rfl rfl rfl rfl rfl rfl rfl rfl rfl rfl rfl rfl hpc1 (by simp[Fr.push,h.stack])⟩⟩
 ·have e:xcE B (xbh x k)={ x with c:=(k:Int) }:=by
   have e1:xbh x (k:Int)={ x with c:=(k:Int) }:=by unfold xbh;rw[if_pos o]
   rw[e1];unfold xcE;rw[if_neg (by simp only;omega)]
  rw[xhA o] at PL;rw[e,xhA o,xhA (by exact o),xiw hl he hT (f:={ ff with pc:=ff.pc+1 }) (f':={ pf with pc:=pf.pc+1 }) (a':=pf.pc) (x:={ x with c:=(k:Int) }) (x':=x) h.stack rfl rfl]
  have hfr:(xbD ent' E' m { pf with pc:=pf.pc+1 } pf.pc x).2.2=0->∃ st,(xbD ent' E' m { pf with pc:=pf.pc+1 } pf.pc x).2.1={ pf with pc:=pf.pc+1,stack:=st }:=by
   unfold xbD;simp only;generalize ent' _ _ _ _ _=r;intro hz
   by_cases hr:r.2.2≠0
   ·rw[if_pos hr] at hz;exact absurd hz hr
   ·rw[if_neg hr];exact⟨_,rfl⟩
  generalize xbD ent' E' m { pf with pc:=pf.pc+1 } pf.pc x=r at PL hfr ⊢
  refine⟨rfl,rfl,fun hz=>?_⟩
  obtain⟨st,hst⟩:=hfr hz;have hP:=PL hz;rw[hst] at hP ⊢;simp only[hz]
  exact⟨k+1,h.to hP hpp1 rfl rfl rfl rfl rfl rfl rfl rfl rfl rfl rfl rfl hpc1 rfl⟩
 ·obtain⟨t,t1,t2,t3⟩:=hj (Or.inl o)
  have e:xcE B (xbh x k)={ x with a:=(bk t:Int) }:=by
   have e1:xbh x (k:Int)=x:=by unfold xbh;rw[if_neg (by omega)]
   rw[e1];unfold xcE;rw[if_pos (Or.inl o),t3]
  rw[xeg o,t1] at PL;rw[e,xeg o,xeg (by exact o),t1]
  exact xi8 h hb hkl hT t2 rfl rfl rfl rfl rfl rfl rfl rfl rfl rfl rfl rfl h.stack PL
 ·obtain⟨t,t1,t2,t3⟩:=hj (Or.inr o)
  have e:xcE B (xbh x k)={ x with a:=(bk t:Int) }:=by
   have e1:xbh x (k:Int)=x:=by unfold xbh;rw[if_neg (by omega)]
   rw[e1];unfold xcE;rw[if_pos (Or.inr o),t3]
  rw[xe6 o,t1] at PL;rw[e,xe6 o,xe6 (by exact o),t1]
  unfold xbz at PL ⊢;rw[htop]
  by_cases k2:(Fr.top { pf with pc:=pf.pc+1 }).k=2
  ·rw[if_pos k2] at PL;rw[if_pos k2,if_pos k2]
   exact⟨rfl,rfl,fun _=>⟨k+1,h.to (PL rfl) hpp1 rfl rfl rfl rfl rfl rfl rfl rfl rfl rfl rfl rfl hpc1 (by simp[Fr.pop,h.stack])⟩⟩
  ·rw[if_neg k2] at PL;rw[if_neg k2,if_neg k2]
   by_cases k1:(Fr.top { pf with pc:=pf.pc+1 }).k=1
   ·rw[if_pos k1] at PL;rw[if_pos k1,if_pos k1]
    exact xi8 h hb hkl hT t2 rfl rfl rfl rfl rfl rfl rfl rfl rfl rfl rfl rfl (by simp[Fr.pop,h.stack]) PL
   ·rw[if_neg k1,if_neg k1]
    exact⟨rfl,rfl,fun h=>by simp at h⟩
end
section
variable {σ:Type} {E E':Env σ} {d:Nat} {m:Mc σ}
theorem xne {cs:List QC}(hc:E'.cz=cs){q t:Int}{leaf:QM}(hm:xaI cs q t=some leaf){recv:QV}{as':List QV}(ha:leaf.args=as'.length)(hp:leaf.prim=0)(hq:E'.quick q t=none)(hT:TOk m) :
  xa4 E' d m q t recv as'=if (xau E' d m).2≠0 then (m,xaU,(xau E' d m).2) else goE (xa4 E' (d-1)) E' (d-1) (xau E' d m).1 ⟨q,leaf,recv,as',xaG leaf.temps,[],leaf.code,0,false⟩:=by
 have hfr:xaK E' q t leaf recv as'=⟨q,leaf,recv,as',xaG leaf.temps,[],leaf.code,0,false⟩:=by unfold xaK;rw[hq]
 cases d with
 | zero=>
  show xbc E' 0 _ m q t recv as'=_
  unfold xbc;rw[hc,hm];simp only;rw[if_neg (by omega),if_neg (by omega)]
  have hz:(xau E' 0 m).2≠0:=by unfold xau;split<;>simp
  rw[if_pos hz,if_pos hz]
 | succ d=>
  show xbc E' (d+1) _ m q t recv as'=_
  unfold xbc;rw[hc,hm];simp only;rw[if_neg (by omega),if_neg (by omega)]
  by_cases hz:(xau E' (d+1) m).2≠0
  ·rw[if_pos hz,if_pos hz]
  ·rw[if_neg hz,if_neg hz,hfr]
   exact xkm (xbK E' d) E' d (xc6 hT).1 (xg8 (xc6 hT).1)
theorem xo2 {FC:List QI}{TT:Nat}{bk:Nat->Nat}{mt:QM}{ff pf:Fr}{k:Nat}(h:FP FC TT bk mt ff pf k)(hm:0<=mt.temps/\mt.temps<=40)(ht:pf.temps.length<=TT):Fr.leave { ff with pc:=ff.pc+1 } (k:Int)=pf:=by
 have hlen:=h.pl.temps
 have e:(xaG ff.meth.temps).zipIdx.map (fun p=>(ff.temps[p.2]?).getD xaU)=pf.temps:=by
  obtain⟨n,hn⟩:∃ n:Nat,mt.temps=(n:Int):=⟨mt.temps.toNat,by omega⟩
  rw[h.meth,h.pmeth,hn,xdQ (by omega)]
  rw[h.pmeth,hn] at hlen
  apply List.ext_getElem?
  intro i;rw[List.getElem?_map,List.getElem?_zipIdx]
  by_cases hi:i<n
  ·have:=h.temp (i:=i) (by omega)
   rw[List.getElem?_replicate,if_pos hi];simp only[Option.map_some,Nat.zero_add,this];rw[List.getElem?_eq_getElem (by omega)]
   rfl
  ·rw[List.getElem?_replicate,if_neg hi,List.getElem?_eq_none (by omega)]
   rfl
 have hc:=h.pl.code;have hf:=h.pl.fast;obtain⟨pc,pm,ps,pa,pt,pk,pco,pp,pfa⟩:=pf;have h1:=h.cls;have h2:=h.meth;have h3:=h.self;have h4:=h.args;have h5:=h.stack;have h6:=h.ppc;simp only at *;unfold Fr.leave;simp only;rw[e,h1,h2,h3,h4,h5,hc,h6,hf]
theorem xjX {l:List QV}{A:Nat}(h:A+1<=l.length):∃ base recv as',l=base++[recv]++as'/\as'.length=A:=by
 obtain⟨n,hn⟩:∃ n,l.length=n+1+A:=⟨l.length-1-A,by omega⟩
 refine⟨l.take n,l[n]'(by omega),l.drop (n+1),?_,by simp;omega⟩
 have e:l.take n++[l[n]'(by omega)]=l.take (n+1):=by rw[List.take_add_one,List.getElem?_eq_getElem (by omega)];simp
 rw[e]
 exact (List.take_append_drop _ _).symm
theorem xkx {leaf:QM}(h:xdj leaf=true):leaf.prim=0/\∀ x∈leaf.code,x.op≠13/\x.op≠14:=by
 unfold xdj xcI at h
 simp at h
 exact⟨h.1,fun x hx=>⟨(h.2 x hx).2,(h.2 x hx).1⟩⟩
theorem xpu {cs:List QC}(hl:∀ st s k nm,E'.look st s k nm=(st,xaB cs k nm)){ent':Ent σ}{pf:Fr}{a:Int}{x:QI}{base as':List QV}{recv:QV}(hs:pf.stack=base++[recv]++as')(ha:x.a=(as'.length:Int)) :
  xbD ent' E' m pf a x=if (ent' m (xaB cs (xas m.heap recv) x.name).1 (xaB cs (xas m.heap recv) x.name).2 recv as').2.2≠0 then ((ent' m (xaB cs (xas m.heap recv) x.name).1 (xaB cs (xas m.heap recv) x.name).2 recv as').1,pf,(ent' m (xaB cs (xas m.heap recv) x.name).1 (xaB cs (xas m.heap recv) x.name).2 recv as').2.2) else ((ent' m (xaB cs (xas m.heap recv) x.name).1 (xaB cs (xas m.heap recv) x.name).2 recv as').1,{ pf with stack:=base++[(ent' m (xaB cs (xas m.heap recv) x.name).1 (xaB cs (xas m.heap recv) x.name).2 recv as').2.1] },0):=by
 have hf:xbp pf.stack x.a=(base++[recv]).length:=by unfold xbp;rw[hs,ha];simp;omega
 have h1:pf.stack.drop (xbp pf.stack x.a)=as':=by rw[hf,hs];exact List.drop_left
 have h2:pf.stack.take (xbp pf.stack x.a)=base++[recv]:=by rw[hf,hs];exact List.take_left
 unfold xbD;simp only[hl,h1,h2,xgF,List.dropLast_concat]
variable {X:QW} {mt:QM} {sites:List Int}
theorem xrT (hX:xaH X=0)(hSm:Sml mt)(hl:Like X.cz E E')(hq:E'.quick=xgC)(hent:xdR (xa4 E d) (xa4 E' d)) :
  ∀ (N:Nat) (m:Mc σ) (ff pf:Fr) (k:Nat),FP (xgk X.cz sites mt (xah X.cz sites mt mt.code.length).begins mt.code.length) (xah X.cz sites mt mt.code.length).temps.toNat (bgn X.cz sites mt) mt ff pf k->TOk m->muE m ff<=N->goE (xa4 E d) E d m ff=goE (xa4 E' d) E' d m pf:=by
  intro N;induction N using Nat.strongRecOn;rename_i N iH;intro m ff pf k h hT hN
  have ht:=xbK E d;have ht':=xbK E' d;obtain⟨k',x,hx⟩:=h.pl.nx;obtain rfl:k'=k:=by have:=hx.pc;have:=h.ppc;omega
  have hcode:pf.code=mt.code:=by rw[h.pl.code,h.pmeth]
  have hxk:mt.code[k']?=some x:=by rw[← hcode];exact hx.here
  have hkl:=xae hxk;have hfp:xbO pf=some x:=xeX h.ppc hx.here
  cases hw:xcZ X.cz sites mt k' with
  | none=>
   obtain⟨o1,o2⟩:=xoa (xah X.cz sites mt mt.code.length).begins hxk hw;have hff:xbO ff=some (xcE (xah X.cz sites mt mt.code.length).begins (xbh x k')):=xeX h.pc (by rw[h.code];exact o1)
   have hop:(xcE (xah X.cz sites mt mt.code.length).begins (xbh x k')).op=x.op:=by
    unfold xcE xbh
    split<;>split<;>rfl
   by_cases h17:x.op=17
   ·rw[xjq hff (by rw[hop];exact h17),xjq hfp h17]
    simp only[Fr.top,h.stack]
   ·obtain⟨b1,b2,b3⟩:=xmo (d:=d) hl hent h hT hx h17 (B:=(xah X.cz sites mt mt.code.length).begins) o2 (fun i j hi hj=>xrg hi hj) hkl (fun ho=>by
     obtain⟨a0,a1⟩:=hSm.jump x (List.mem_of_getElem? hxk) ho;refine⟨x.a.toNat,by omega,by omega,?_⟩
     rw[List.getD_eq_getElem?_getD,xgm (qzC _) x.a.toNat (by omega)]
     rfl)
    by_cases hz:(xaj (xa4 E' d) E' d m { pf with pc:=pf.pc+1 } pf.pc x).2.2=0
    ·obtain⟨g1,g2,-⟩:=xhB ht (E:=E) (d:=d) hT.1 hff (by rw[hop];exact h17) (by rw[b2];exact hz)
     obtain⟨l1,-,-⟩:=xhB ht' (E:=E') (d:=d) hT.1 hfp h17 hz;obtain⟨k2,hF⟩:=b3 hz;have hT':=xfK (E:=E') (d:=d) (f:={ pf with pc:=pf.pc+1 }) (at':=pf.pc) (x:=x) (xf7 E' d) hT hz
     rw[b1] at g1 g2;rw[g1,l1]
     exact iH (N-1) (by omega) _ _ _ k2 hF hT' (by omega)
    ·rw[xfQ hff (by rw[hop];exact h17) (by rw[b2];exact hz),xfQ hfp h17 hz,b1,b2]
  | some leaf=>
   obtain⟨o1,o2,o3⟩:=xiK (xah X.cz sites mt mt.code.length).begins hxk hw;have hwE:xdZ X.cz sites mt.code.length (xah X.cz sites mt k').code.length (xah X.cz sites mt k').temps k' x=some leaf:=by unfold xcZ at hw;rw[hxk] at hw;exact hw
   have hst:xa3 X.cz sites k' x=some leaf:=by
    unfold xdZ at hwE
    split at hwE
    ·cases hwE
    ·rename_i l hl'
     split at hwE
     ·cases hwE;exact hl'
     ·cases hwE
   obtain⟨hs,hax,hlf,ho⟩:=xbv hX hst;obtain⟨hprim,hops⟩:=xkx hlf;obtain⟨ks,hks⟩:∃ ks,ks=sites.getD k' (-1):=⟨_,rfl⟩
   have hmo:xd5 X.cz ks x.name=some leaf:=by
    rw[hks];unfold xa3 at hst
    split at hst
    ·split at hst
     ·cases hst
     ·rename_i y hy
      split at hst
      ·cases hst;exact hy
      ·cases hst
    ·cases hst
   have hma:=xeY hmo;obtain⟨A,hA⟩:∃ A:Nat,leaf.args=(A:Int):=⟨leaf.args.toNat,by have:=hs.args;omega⟩
   obtain⟨T,hTn⟩:∃ T:Nat,leaf.temps=(T:Int):=⟨leaf.temps.toNat,by have:=hs.temps;omega⟩
   have hT6:T<=40:=by have:=hs.temps;omega
   have hbs:=xci hX (sites:=sites) hSm (k:=k') (by omega)
   obtain⟨T0,hT0⟩:∃ T0:Nat,(xah X.cz sites mt k').temps=(T0:Int):=⟨(xah X.cz sites mt k').temps.toNat,by omega⟩
   have hwt:∀ (j:Nat) lf,xcZ X.cz sites mt j=some lf->0<=lf.args/\0<=lf.temps:=fun j lf hj=>by
    cases hc:mt.code[j]? with
    | none=>unfold xcZ at hj;rw[hc] at hj;cases hj
    | some y=>
     have hj':xdZ X.cz sites mt.code.length (xah X.cz sites mt j).code.length (xah X.cz sites mt j).temps j y=some lf:=by unfold xcZ at hj;rw[hc] at hj;exact hj
     unfold xdZ at hj'
     split at hj'
     ·cases hj'
     ·rename_i l hl'
      split at hj'
      ·cases hj'
       obtain⟨hs',-⟩:=xbv hX hl'
       exact⟨hs'.args.1,hs'.temps.1⟩
      ·cases hj'
   have hm1:=xdX hwt (n:=mt.code.length) (k:=k'+1) (by omega) (qzC _)
   have hm0:mt.temps<=(xah X.cz sites mt k').temps:=xdX hwt (n:=k') (k:=0) (by omega) (by omega)
   have htm:=h.pl.temps;rw[h.pmeth] at htm;have hroom:T0+1+A+T<=ff.temps.length:=by rw[h.tlen];omega
   have hneed:=hx.need;have hxa:x.a=(A:Int):=by omega
   have hsl:A+1<=pf.stack.length:=by simp only[xaS,ho] at hneed;simp at hneed;omega
   obtain⟨base,recv,as',hstk,hal⟩:=xjX hsl;have hP:PcAt (xgk X.cz sites mt (xah X.cz sites mt mt.code.length).begins mt.code.length) leaf (ins 18 ks (A:Int) (k':Int)) T0 A T (bgn X.cz sites mt k'):=xoe hA hTn (by rw[hks,← hA,← hT0];exact o1)
   have hsend:=xpu (E':=E') (m:=m) hl.look' (ent':=xa4 E' d) (pf:={ pf with pc:=pf.pc+1 }) (a:=pf.pc) (x:=x) hstk (by rw[hxa,hal])
   have hstep:xaj (xa4 E' d) E' d m { pf with pc:=pf.pc+1 } pf.pc x=xbD (xa4 E' d) E' m { pf with pc:=pf.pc+1 } pf.pc x:=xhA ho
   by_cases hk:xas m.heap recv=ks
   ·
    rw[hk] at hsend;obtain⟨q,hq1⟩:∃ q,q=(xaB X.cz ks x.name).1:=⟨_,rfl⟩;obtain⟨t,ht1⟩:∃ t,t=(xaB X.cz ks x.name).2:=⟨_,rfl⟩;rw[← hq1,← ht1] at hsend hma;have hqn:E'.quick q t=none:=by rw[hq];rfl
    have hent':=xne (E':=E') (d:=d) (m:=m) hl.cls' hma (recv:=recv) (as':=as') (by rw[hA,hal]) hprim hqn hT
    have hpl0:=xh0 hX hma hprim (a:=as') (by rw[hA,hal]) recv (E:=E') hqn
    have hfr:xaK E' q t leaf recv as'=⟨q,leaf,recv,as',xaG (T:Int),[],leaf.code,0,false⟩:=by unfold xaK;rw[hqn,hTn]
    rw[hfr] at hpl0;rw[hTn,← xe8 hl] at hent';have hpg:=xnT (ent:=xa4 E d) (ent':=xa4 E' (d-1)) (E:=E) (E':=E') (d:=d) (d':=d-1) (m:=m) (ff:=ff) (q:=q) (kc:=(k':Int)) ht (xbK E' (d-1)) (xf7 E' (d-1)) hP hT6 hops h.fast h.code h.pc (by rw[h.stack];exact hstk) hal hroom hpl0 hk hT
    rcases hpg with ⟨c1,c2⟩ | ⟨c1,⟨r1,r2⟩ | ⟨r1,r2,ff',r3,r4,r5⟩⟩
    ·rw[if_pos c1] at hent';rw[hent',if_pos c1] at hsend;rw[c2,xfQ hfp (by omega) (by rw[hstep,hsend];exact c1),hstep,hsend]
     simp only[Prod.mk.injEq,and_true];unfold xau at c1 ⊢
     split
     ·rfl
     ·split
      ·rfl
      ·rename_i z1 z2;rw[if_neg z1,if_neg z2] at c1
       simp at c1
    ·rw[if_neg (by simpa using c1)] at hent'
     rw[hent',if_pos r1] at hsend;rw[r2,xfQ hfp (by omega) (by rw[hstep,hsend];exact r1),hstep,hsend]
    ·rw[if_neg (by simpa using c1)] at hent'
     rw[hent',if_neg (by simpa using r1)] at hsend
     have hz:(xaj (xa4 E' d) E' d m { pf with pc:=pf.pc+1 } pf.pc x).2.2=0:=by rw[hstep,hsend]
     have hPL:=xhN (ent:=xa4 E' d) (E:=E') (d:=d) (m:=m) h.pl hx (by omega) hz
     obtain⟨l1,-,-⟩:=xhB ht' (E:=E') (d:=d) hT.1 hfp (by omega) hz
     rw[hstep,hsend] at l1 hPL;rw[r4,l1];refine iH (N-1) (by omega) _ _ _ (k'+1) ⟨hPL,?_,h.pmeth,r3.fast,r3.code,by rw[r3.cls];exact h.cls,by rw[r3.meth];exact h.meth,by rw[r3.self];exact h.self,by rw[r3.args];exact h.args,r3.stack,?_,by rw[r3.len];exact h.tlen,?_⟩ r2 (by omega)
     ·simp only[h.ppc];omega
     ·rw[r3.pc,o2,xbB,hA,hTn];simp only[Int.toNat_natCast];omega
     ·have e:=congrArg (List.take pf.temps.length) r3.take;rw[List.take_take,List.take_take,Nat.min_eq_left (by omega)] at e
      exact e.trans h.take
   ·
    have hbelow:xaQ ff.stack (A:Int)=recv:=by
     unfold xaQ;rw[h.stack,show ((pf.stack.length:Int)-1-A)=((base.length:Nat):Int) by rw[hstk];simp;omega,xb9,hstk,List.append_assoc]
     rw[List.getElem?_append_right (qzC _)]
     simp
    have hff:xbO ff=some (ins 18 ks (A:Int) (k':Int)):=xeX h.pc (by rw[h.code];exact hP.guard)
    have hms:xaj (xa4 E d) E d m { ff with pc:=ff.pc+1 } ff.pc (ins 18 ks (A:Int) (k':Int))=(m,pf,0):=by
     rw[xgn (by simp)]
     have hb':xaQ { ff with pc:=ff.pc+1 }.stack (A:Int)=recv:=hbelow
     have hlv:=xo2 h (by have:=hSm.temps;omega) (by omega)
     simp only[xbQ,h.fast,ins,hb',hk]
     simp
     unfold Fr.leave at hlv ⊢
     exact hlv
    obtain⟨g1,-,-⟩:=xhB ht (E:=E) (d:=d) hT.1 hff (by simp) (by rw[hms])
    rw[hms] at g1;rw[g1]
    exact xpD hl hent (xf7 E' d) hT pf
end
section
variable {σ:Type} {E E':Env σ} {X:QW}
def xrA (X:QW)(E:Env σ):Prop:=∀ c n q mt,E.quick c n=some q->xaI X.cz c n=some mt->∃ sites,(xce X c mt sites).2=true/\q=((xce X c mt sites).1.code,(xce X c mt sites).1.temps)
theorem xht {c:Int}{mt:QM}{sites:List Int}(hX:xaH X=0)(hSm:Sml mt)(h:(xce X c mt sites).2=true):(xce X c mt sites).1.code=xgk X.cz sites mt (xah X.cz sites mt mt.code.length).begins mt.code.length/\(xce X c mt sites).1.temps=(xah X.cz sites mt mt.code.length).temps:=by
 rw[← xov hX hSm];unfold xce at h ⊢;simp only at h ⊢
 split
 ·rename_i hz;rw[if_pos hz] at h;cases h
 ·exact⟨rfl,rfl⟩
theorem xnk (hX:xaH X=0){mt:QM}{sites:List Int}:∀ (j:Nat) lf,xcZ X.cz sites mt j=some lf->0<=lf.args/\0<=lf.temps:=fun j lf hj=>by
 cases hc:mt.code[j]? with
 | none=>unfold xcZ at hj;rw[hc] at hj;cases hj
 | some y=>
  have hj':xdZ X.cz sites mt.code.length (xah X.cz sites mt j).code.length (xah X.cz sites mt j).temps j y=some lf:=by unfold xcZ at hj;rw[hc] at hj;exact hj
  unfold xdZ at hj'
  split at hj'
  ·cases hj'
  ·rename_i l hl'
   split at hj'
   ·cases hj'
    obtain⟨hs',-⟩:=xbv hX hl'
    exact⟨hs'.args.1,hs'.temps.1⟩
   ·cases hj'
theorem xha {cs:List QC}(hl:Like cs E E')(d:Nat){body body':Mc σ->Fr->Mc σ × QV × Int}(hb:∀ m c n mt s a,xaI cs c n=some mt->mt.args=a.length->mt.prim=0->TOk m->body m (xaK E c n mt s a)=body' m (xaK E' c n mt s a)):xdR (xbc E d body) (xbc E' d body'):=by
 intro m c n s a hT;unfold xbc;rw[hl.cls,hl.cls']
 cases hm:xaI cs c n with
 | none=>rfl
 | some mt=>
  simp only
  by_cases h1:mt.args≠a.length
  ·rw[if_pos h1,if_pos h1]
  ·rw[if_neg h1,if_neg h1]
   by_cases h2:mt.prim≠0
   ·rw[if_pos h2,if_pos h2,hl.fuel]
   ·rw[if_neg h2,if_neg h2,xe8 hl]
    by_cases h3:(xau E' d m).2≠0
    ·rw[if_pos h3,if_pos h3]
    ·rw[if_neg h3,if_neg h3]
     exact hb _ c n mt s a hm (by omega) (by omega) (xc6 hT)
theorem xkH (hX:xaH X=0)(hl:Like X.cz E E')(hq:E'.quick=xgC)(hk:xrA X E):∀ d:Nat,xdR (xa4 E d) (xa4 E' d)
 | 0=>xha hl 0 fun m c n mt s a _ _ _ _=>rfl
 | d+1=>by
  refine xha hl (d+1) fun m c n mt s a hm ha hp hT=>?_
  have ih:=xkH hX hl hq hk d;have hqn:E'.quick c n=none:=by rw[hq];rfl
  have hfr':xaK E' c n mt s a=⟨c,mt,s,a,xaG mt.temps,[],mt.code,0,false⟩:=by unfold xaK;rw[hqn]
  have hpl:=xh0 hX hm hp (a:=a) ha s (E:=E') hqn;have hSm:=xda hX hm
  cases hqe:E.quick c n with
  | none=>
   have hfr:xaK E c n mt s a=xaK E' c n mt s a:=by rw[hfr'];unfold xaK;rw[hqe]
   show xb7 (xa4 E d) E d _ m _=xb7 (xa4 E' d) E' d _ m _
   rw[hfr]
   exact xhO hl ih (xf7 E' d) _ m _ hT
  | some q=>
   obtain⟨sites,h1,h2⟩:=hk c n q mt hqe hm;obtain⟨p1,p2⟩:=xht hX hSm h1;rw[p1,p2] at h2;have hfr:xaK E c n mt s a=⟨c,mt,s,a,xaG (xah X.cz sites mt mt.code.length).temps,[],xgk X.cz sites mt (xah X.cz sites mt mt.code.length).begins mt.code.length,0,true⟩:=by unfold xaK;rw[hqe,h2]
   have hbs:=xci hX (sites:=sites) hSm (k:=mt.code.length) (qzC _);have hmono:mt.temps<=(xah X.cz sites mt mt.code.length).temps:=xdX (xnk hX) (n:=mt.code.length) (k:=0) (by omega) (qzC _)
   have hms:=hSm.temps;obtain⟨TT,hTT⟩:∃ TT:Nat,(xah X.cz sites mt mt.code.length).temps=(TT:Int):=⟨(xah X.cz sites mt mt.code.length).temps.toNat,by omega⟩
   obtain⟨nt,hnt⟩:∃ nt:Nat,mt.temps=(nt:Int):=⟨mt.temps.toNat,by omega⟩
   show xb7 (xa4 E d) E d _ m _=xb7 (xa4 E' d) E' d _ m _
   rw[xkm (xbK E d) E d hT.1 (xg8 hT.1),xkm (xbK E' d) E' d hT.1 (xg8 hT.1),hfr];refine xrT hX hSm hl hq ih _ m _ _ 0 ⟨hpl,by rw[hfr'];rfl,by rw[hfr'],rfl,rfl,by rw[hfr'],by rw[hfr'],by rw[hfr'],by rw[hfr'],by rw[hfr'],rfl,?_,?_⟩ hT (qzC _)
   ·simp only[hTT];rw[xdQ (by omega)];simp
   ·rw[hfr'];simp only[hTT,hnt];rw[xdQ (by omega),xdQ (by omega)]
    simp
    omega
end
theorem xe5 {X:QW}{j:Nat}{ms:List QM}(h:∀ i y,ms[i]?=some y->rmE X j ms i y=0):∀ (e i:Nat) (a b:QM),ms[i]?=some a->ms[i+e+1]?=some b->ltN a.name b.name=true
 | 0,i,a,b,ha,hb=>by
  have h1:=h (i+1) b hb;unfold rmE at h1
  split at h1
  ·cases h1
  ·rename_i h2;simp only[xeZ,ha] at h2
   simpa using h2
 | e+1,i,a,b,ha,hb=>by
  have hlt:=xae hb;obtain⟨p,hp⟩:∃ p,ms[i+e+1]?=some p:=⟨_,List.getElem?_eq_getElem (by omega)⟩
  have h1:=h (i+(e+1)+1) b hb;unfold rmE at h1
  split at h1
  ·cases h1
  ·rename_i h2;have e1:ms[i+(e+1)]?=some p:=hp;simp only[xeZ,e1] at h2
   exact xgu (xe5 h e i a p ha hp) (by simpa using h2)
theorem xiT {X:QW}(hX:xaH X=0){c k n:Int}{a b:QM}(ha:xaI X.cz c k=some a)(hb:xaI X.cz c n=some b)(hn:a.name=b.name):a=b:=by
 obtain⟨kc,kk,x,rfl,rfl,hx,hak⟩:=xfm ha;obtain⟨kc',kn,x',e1,rfl,hx',hbn⟩:=xfm hb;have:kc'=kc:=by omega
 subst this;rw[hx] at hx'
 cases hx'
 obtain⟨-,-,hM,-⟩:=xcl hX;have h1:=hM kc' x (xae hx) hx;unfold rkE at h1
 split at h1
 ·cases h1
 ·split at h1
  ·cases h1
  ·have hall:=xbM h1
   rcases Nat.lt_trichotomy kk kn with hlt | heq | hgt
   ·have:=xe5 hall (kn-kk-1) kk a b hak (by rw[show kk+(kn-kk-1)+1=kn by omega];exact hbn)
    have h2:=xeF this;rw[hn,xfF.2 rfl] at h2
    cases h2
   ·subst heq;rw[hak] at hbn
    cases hbn
    rfl
   ·have:=xe5 hall (kk-kn-1) kn b a hbn (by rw[show kn+(kk-kn-1)+1=kk by omega];exact hak)
    have h2:=xeF this;rw[hn,xfF.2 rfl] at h2
    cases h2
def xd7 (X:QW)(f:Fst):Prop:=∃ c k mt sites,xaI X.cz c k=some mt/\xce X c mt sites=(f,true)
theorem xlm {X:QW}{c:Int}{mt:QM}{sites:List Int}{f:Fst}(h:xce X c mt sites=(f,true)):f.cls=c/\f.name=mt.name/\f.ez=X.ez:=by
 unfold xce at h;simp only at h
 split at h
 ·cases h
 ·cases h
  exact⟨rfl,rfl,rfl⟩
theorem xpM {σ:Type}{X:QW}(hX:xaH X=0){E:Env σ}{l:List Fst}(hl:∀ f∈l,xd7 X f)(hq:∀ c n q,E.quick c n=some q->∃ f∈l,f.cls=c/\(∀ mt,xaI X.cz c n=some mt->f.name=mt.name)/\q=(f.code,f.temps)):xrA X E:=by
 intro c n q mt he hm;obtain⟨f,hf,hc,hn,rfl⟩:=hq c n q he;obtain⟨c',k',mt',sites,hm',hfm⟩:=hl f hf;obtain⟨n1,n2,-⟩:=xlm hfm;obtain rfl:c'=c:=by rw[← hc,n1]
 obtain rfl:mt'=mt:=xiT hX hm' hm (by rw[← n2];exact hn mt hm)
 exact⟨sites,by rw[hfm],by rw[hfm]⟩
theorem xig {X:QW}{c k:Int}{sites:List Int}{f:Fst}(h:xch X c k sites=(f,true)):xd7 X f:=by
 unfold xch at h
 cases hm:xaI X.cz c k with
 | none=>rw[hm] at h;cases h
 | some mt=>rw[hm] at h;exact⟨c,k,mt,sites,hm,h⟩
def xb6 (X:QW)(fuel:Int)(qk:Int->Int->Option (List QI × Int)):Env Unit:=⟨X.cz,fuel,fun _ _ c name=>((),xaB X.cz c name),qk⟩
def runF (X:QW)(qk:Int->Int->Option (List QI × Int))(s:QV)(name:ByteArray)(args:List QV)(fuel:Int):Mc Unit × QV × Int:=
 xa4 (xb6 X fuel qk) 20 ⟨X.heap,0,0,()⟩ (xaB X.cz (xas X.heap s) name).1 (xaB X.cz (xas X.heap s) name).2 s args
theorem xnt (X:QW)(fuel:Int)(qk:Int->Int->Option (List QI × Int)):Like X.cz (xb6 X fuel qk) (xe1 X fuel):=⟨rfl,rfl,rfl,fun _ _ _ _=>rfl,fun _ _ _ _=>rfl⟩
theorem xmq {X:QW}(hX:xaH X=0){fuel:Int}{qk:Int->Int->Option (List QI × Int)}(hk:xrA X (xb6 X fuel qk))(s:QV)(name:ByteArray)(args:List QV):runF X qk s name args fuel=xlQ X s name args fuel:=
 xkH hX (xnt X fuel qk) rfl hk 20 _ _ _ _ _ ⟨by simp,by simp⟩
theorem xiH {cs:List QC}{leaf:QM}(hc:CodeOk cs leaf.code)(h13:∀ x∈leaf.code,x.op≠13)(self args temps first behind:Int):CodeOk cs (leaf.code.map (xay self args temps first behind)):=by
 intro y hy;obtain⟨x,hx,rfl⟩:=List.mem_map.1 hy;have hxo:=hc x hx;have h:=h13 x hx;unfold xay
 split
 ·simp
 ·split
  ·simp
  ·split
   ·rename_i o;simp;omega
   ·split
    ·simp
    ·split
     ·simp
     ·split
      ·rename_i o;simp;omega
      ·split
       ·simp
       ·exact hxo
theorem CodeOk.append {cs:List QC}{a b:List QI}(ha:CodeOk cs a)(hb:CodeOk cs b):CodeOk cs (a++b):=fun x hx=>by
 rcases List.mem_append.1 hx with h | h
 ·exact ha x h
 ·exact hb x h
theorem xmg {cs:List QC}{l:List QI}(h:∀ x∈l,x.op≠5/\x.op≠13):CodeOk cs l:=fun x hx=>⟨fun e=>absurd e (h x hx).1,fun e=>absurd e (h x hx).2⟩
theorem xir {cs:List QC}{leaf:QM}(hc:CodeOk cs leaf.code)(h13:∀ x∈leaf.code,x.op≠13){g:QI}(hg:g.op=18)(self n:Int):CodeOk cs (xbu leaf g self n):=by
 unfold xbu xfy;refine (xmg fun y hy=>?_).append (xiH hc h13 _ _ _ _ _)
 simp only[List.mem_append,List.mem_cons,List.not_mem_nil,or_false] at hy
 rcases hy with ((((h | h) | h) | h) | h)
 ·subst h;omega
 ·subst h;simp
 ·have:=xhy _ _ y h;omega
 ·subst h;simp
 ·have:=xjY _ _ y h;omega
theorem xhk {cs:List QC}{l:List QI}(h:CodeOk cs l){f:QI->QI}(hf:∀ y,¬ (y.op=15\/y.op=16)->f y=y)(ho:∀ y,(f y).op=y.op):CodeOk cs (l.map f):=fun z hz=>by
 obtain⟨y,hy,rfl⟩:=List.mem_map.1 hz
 by_cases hj:y.op=15\/y.op=16
 ·exact⟨fun e=>by rw[ho] at e;omega,fun e=>by rw[ho] at e;omega⟩
 ·rw[hf y hj];exact h y hy
theorem xok (n:Int)(y:QI):(xd8 n y).op=y.op:=by unfold xd8;split<;>rfl
theorem xqG (B:List Int)(y:QI):(xcE B y).op=y.op:=by unfold xcE;split<;>rfl
theorem xgW {X:QW}(hX:xaH X=0){mt:QM}(hm:CodeOk X.cz mt.code){sites:List Int}(B:List Int):∀ k:Nat,CodeOk X.cz (xgk X.cz sites mt B k)
 | 0=>fun x hx=>by simp[xgk] at hx
 | k+1=>by
  have ih:=xgW hX hm (sites:=sites) B k;unfold xgk
  cases hx:mt.code[k]? with
  | none=>exact ih
  | some x=>
   simp only
   cases hw:xdZ X.cz sites mt.code.length (xah X.cz sites mt k).code.length (xah X.cz sites mt k).temps k x with
   | none=>
    simp only;refine ih.append fun y hy=>?_
    simp only[List.mem_cons,List.not_mem_nil,or_false] at hy;subst hy
    have h1:CodeOk X.cz [xbh x (k:Int)]:=fun z hz=>by
     simp only[List.mem_cons,List.not_mem_nil,or_false] at hz;subst hz;have:=hm x (List.mem_of_getElem? hx);unfold xbh
     split
     ·rename_i o;simp;omega
     ·exact this
    exact xhk h1 (f:=xcE B) (fun y hy=>by unfold xcE;exact if_neg hy) (xqG B) _ (by simp)
   | some leaf=>
    simp only
    have hst:xa3 X.cz sites k x=some leaf:=by
     unfold xdZ at hw
     split at hw
     ·cases hw
     ·rename_i l hl'
      split at hw
      ·cases hw;exact hl'
      ·cases hw
    obtain⟨hs,hax,hlf,ho⟩:=xbv hX hst;obtain⟨-,hops⟩:=xkx hlf
    have hmo:xd5 X.cz (sites.getD k (-1)) x.name=some leaf:=by
     unfold xa3 at hst
     split at hst
     ·split at hst
      ·cases hst
      ·rename_i y hy
       split at hst
       ·cases hst;exact hy
       ·cases hst
     ·cases hst
    exact ih.append (xhk (xir (xdb hX (xeY hmo)) (fun x hx=>(hops x hx).1) rfl _ _) (fun y hy=>xcY hy) (xok _))
theorem xll {X:QW}(hX:xaH X=0){fuel:Int}{qk:Int->Int->Option (List QI × Int)}(hk:∀ c n q,qk c n=some q->∃ c' k' mt sites,xaI X.cz c' k'=some mt/\(xce X c' mt sites).2=true/\q=((xce X c' mt sites).1.code,(xce X c' mt sites).1.temps)):EOk (xb6 X fuel qk):=by
 refine⟨fun c n m hm=>xdb hX hm,fun c n q hq=>?_,xei hX⟩
 obtain⟨c',k',mt,sites,hm,h1,rfl⟩:=hk c n q hq;obtain⟨p1,-⟩:=xht hX (xda hX hm) h1
 show CodeOk X.cz (xce X c' mt sites).1.code
 rw[p1]
 exact xgW hX (xdb hX hm) _ _
def xc0 (X:QW)(p:Fst->Bool)(l:List Fst)(c n:Int):Option (List QI × Int):=match xaI X.cz c n with
 | none=>none
 | some mt=>(l.find? fun f=>decide (f.cls=c) && eqN f.name mt.name && p f).map fun f=>(f.code,f.temps)
theorem xet {X:QW}{p:Fst->Bool}{l:List Fst}{c n:Int}{q:List QI × Int}(h:xc0 X p l c n=some q):∃ f∈l,f.cls=c/\(∀ mt,xaI X.cz c n=some mt->f.name=mt.name)/\p f=true/\q=(f.code,f.temps):=by
 unfold xc0 at h
 cases hm:xaI X.cz c n with
 | none=>rw[hm] at h;cases h
 | some mt=>
  rw[hm] at h;simp only[Option.map_eq_some_iff] at h;obtain⟨f,hf,rfl⟩:=h;have h1:=List.mem_of_find?_eq_some hf;have h2:=List.find?_some hf;simp only[Bool.and_eq_true,decide_eq_true_eq] at h2;refine⟨f,h1,h2.1.1,fun mt' e=>?_,h2.2,rfl⟩
  cases e
  exact (xpI _ _).1 h2.1.2
theorem xqj {X:QW}(hX:xaH X=0)(p:Fst->Bool){l:List Fst}(hl:∀ f∈l,xd7 X f)(fuel:Int):xrA X (xb6 X fuel (xc0 X p l)):=xpM hX hl fun c n q h=>by
 obtain⟨f,h1,h2,h3,-,h5⟩:=xet h
 exact⟨f,h1,h2,h3,h5⟩
theorem xlT {X:QW}(hX:xaH X=0)(p:Fst->Bool){l:List Fst}(hl:∀ f∈l,xd7 X f)(s:QV)(name:ByteArray)(args:List QV)(fuel:Int):runF X (xc0 X p l) s name args fuel=xlQ X s name args fuel:=xmq hX (xqj hX p hl fuel) s name args
theorem xoU {X:QW}(hX:xaH X=0)(p:Fst->Bool){l:List Fst}(hl:∀ f∈l,p f=true->xd7 X f)(fuel:Int):EOk (xb6 X fuel (xc0 X p l)):=xll hX fun c n q h=>by
 obtain⟨f,h1,-,-,h4,rfl⟩:=xet h;obtain⟨c',k',mt,sites,hm,hf⟩:=hl f h1 h4
 exact⟨c',k',mt,sites,hm,by rw[hf],by rw[hf]⟩
set_option maxRecDepth 8000
structure LkF (X:QW)(l:List Fst)(b b1 b2:Nat)(cv hv fv:Value)(T:Nat->Nat)(w:World)(st:Unit)(n:Nat):Prop where
 lk:LkP X b cv hv T w st n
 pk:LkP X b1 cv hv T w st n
 tag:T b2=0
 lt:b2<w.heap.size
 c0:w.cell? ⟨b2,0,none⟩=some fv
 fs:xdl (Fx T w) w fv l
theorem xeP (X:QW)(l:List Fst)(b b1 b2:Nat)(cv hv fv:Value):Lok (LkF X l b b1 b2 cv hv fv):=
 ⟨fun h e k h0 _=>⟨h.lk.keep e k h0,h.pk.keep e k h0,by rw[e _ h.lt];exact h.tag,qzE h.lt k.size,k.cell h.c0 (by rw[h.tag];exact h0),h.fs.fx xhR e k h0⟩,fun h hn=>⟨(xiR X b cv hv).mono h.lk hn,(xiR X b1 cv hv).mono h.pk hn,h.tag,h.lt,h.c0,h.fs⟩⟩
theorem xja {X:QW}{b:Nat}{cv hv:Value}{T:Nat->Nat}{w:World}{n:Nat}(h:LkP X b cv hv T w () n)(s:QS)(c:Int)(name:ByteArray):Calls Tryz.prog 37 #[SV s,.int .i64 c,.string name,.pointer (some ⟨b,0,none⟩)] w fun e w'=>e=.returned (.tuple #[.int .i64 (xaB X.cz c name).1,.int .i64 (xaB X.cz c name).2])/\Below w.heap.size w w':=by
 have hb1:=xak w (.cells #[.int .i64 s.cls,.string s.name,.int .i64 s.at'] 63);have h1:=h.keep (T':=T) (.refl _ _) (Kp.of_below (S:=fun _=>False) hb1) id
 have hf:=fun w' (hb:Below (w.alloc (.cells #[.int .i64 s.cls,.string s.name,.int .i64 s.at'] 63)).heap.size (w.alloc (.cells #[.int .i64 s.cls,.string s.name,.int .i64 s.at'] 63)) w')=>xfE X c name cv hv w' ((h1.cls.mono (Q:=fun _=>True) xaA fun _ _=>trivial).later xaA hb) ((h1.heap.mono (Q:=fun _=>True) xaE fun _ _=>trivial).later xaE hb)
 obtain⟨-,-,w0,w1,w2,hc,hh⟩:=id h1;obtain⟨ac,cc,rfl,-⟩:=id hc;obtain⟨ah,ch,rfl,-⟩:=id hh;clear h h1 hc hh;obtain⟨r1,r2,hr⟩:∃ r1 r2,xaB X.cz c name=(r1,r2):=⟨_,_,rfl⟩;rw[hr] at hf ⊢;clear hr;go_enter Tryz.func37,Tryz.ntmps37
 go_upto_region 1 with (fail)
 generalize (w.alloc (.cells #[.int .i64 s.cls,.string s.name,.int .i64 s.at'] 63))=W at *;go_wp2_with fail;refine (hf _ (qzL _ _)).mono ?_;rintro e w2' ⟨rfl,hb2⟩;have HB:=hid (xaf hb1 hb2);clear w0 w1 w2 hf hb2;go_wp2;refine qzK (v:=.tuple #[.int .i64 r1,.int .i64 r2]) ?_ rfl ⟨rfl,HB.out⟩
 simp[results,Tryz.results37,go_sem]
theorem xjz (cv hv:Value)(ep:Int)(w:World)(h1:∃ a n c,cv=.slice a n c)(h2:∃ a n c,hv=.slice a n c):Calls Tryz.prog 20 #[WV cv hv ep] w fun e w'=>e=.returned (.func (.func 37) #[] #[.pointer (some ⟨w.heap.size,0,none⟩)])/\w'.cell? ⟨w.heap.size,0,none⟩=some cv/\w'.cell? ⟨w.heap.size,1,none⟩=some hv/\w'.cell? ⟨w.heap.size,2,none⟩=some (.int .i64 ep)/\w.heap.size<w'.heap.size/\Below w.heap.size w w':=by
 obtain⟨a,n,c,rfl⟩:=h1;obtain⟨a2,n2,c2,rfl⟩:=h2;go_enter Tryz.func20,Tryz.ntmps20;go_wp2
 go_ret
 exact⟨rfl,xaa _ _ _ _ rfl 0,xaa _ _ _ _ rfl 1,xaa _ _ _ _ rfl 2,by simp,xak _ _⟩
theorem xk6 (cv hv fv:Value)(ep:Int)(w:World)(h1:∃ a n c,cv=.slice a n c)(h2:∃ a n c,hv=.slice a n c)(h3:∃ a n c,fv=.slice a n c):Calls Tryz.prog 21 #[WV cv hv ep,fv] w fun e w'=>e=.returned (.func (.func 39) #[] #[.pointer (some ⟨w.heap.size,0,none⟩),.pointer (some ⟨w.heap.size+1,0,none⟩)])/\w'.cell? ⟨w.heap.size,0,none⟩=some cv/\w'.cell? ⟨w.heap.size,1,none⟩=some hv/\w'.cell? ⟨w.heap.size,2,none⟩=some (.int .i64 ep)/\w'.cell? ⟨w.heap.size+1,0,none⟩=some fv/\w.heap.size+2<=w'.heap.size/\Below w.heap.size w w':=by
 obtain⟨a,n,c,rfl⟩:=h1;obtain⟨a2,n2,c2,rfl⟩:=h2;obtain⟨a3,n3,c3,rfl⟩:=h3;go_enter Tryz.func21,Tryz.ntmps21;go_wp2
 go_ret
 exact⟨rfl,qzA (xak _ _) (xaa _ _ _ _ rfl 0),qzA (xak _ _) (xaa _ _ _ _ rfl 1),qzA (xak _ _) (xaa _ _ _ _ rfl 2),xaa _ _ _ _ (by simp) 0,by simp,xbP _ _ _⟩
abbrev epB (X:QW)(f:Fst):Bool:=decide (f.ez=X.ez)
theorem xlR {α:Type}{p:α->Bool}:∀ {l:List α} {j:Nat} {y:α},l[j]?=some y->p y=true->(∀ i z,i<j->l[i]?=some z->p z=false)->l.find? p=some y
 | [],j,y,h,_,_=>by simp at h
 | a :: l,0,y,h,hy,_=>by simp at h;subst h;simp[hy]
 | a :: l,j+1,y,h,hy,hn=>by
  have ha:=hn 0 a (by omega) rfl
  rw[List.find?_cons_of_neg (by simp[ha])]
  exact xlR (l:=l) (j:=j) (by simpa using h) hy fun i z hi hz=>hn (i+1) z (by omega) (by simpa using hz)
theorem xjU {α:Type}{p:α->Bool}{l:List α}(h:∀ i z,i<l.length->l[i]?=some z->p z=false):l.find? p=none:=by
 rw[List.find?_eq_none];intro z hz;obtain⟨i,hi,rfl⟩:=List.getElem_of_mem hz;have:=h i l[i] hi (by simp[hi])
 simp[this]
structure PkR (Z:World)(b1:Nat)(cv hv:Value)(ep:Int)(wr:World):Prop where
 bel:Below Z.heap.size Z wr
 w0:wr.cell? ⟨b1,0,none⟩=some cv
 w1:wr.cell? ⟨b1,1,none⟩=some hv
 w2:wr.cell? ⟨b1,2,none⟩=some (.int .i64 ep)
 z0:wr.heap[Z.heap.size]?=some (.cells #[.int .i64 0,.string ⟨#[]⟩,.int .i64 0,.int .i64 0,.slice none 0 0] 49 (0,0))
theorem PkR.later {Z:World}{b1:Nat}{cv hv:Value}{ep:Int}{wr w':World}(h:PkR Z b1 cv hv ep wr)(hb:Below wr.heap.size wr w'):PkR Z b1 cv hv ep w':=⟨xaf h.bel hb,qzA hb h.w0,qzA hb h.w1,qzA hb h.w2,xad h.z0 hb⟩
theorem xjN {X:QW}{l:List Fst}{b b1 b2:Nat}{cv hv fv:Value}{T:Nat->Nat}{w:World}{n:Nat}(h:LkF X l b b1 b2 cv hv fv T w () n)(c k:Int)(mt:QM)(hm:xaI X.cz c k=some mt) :
  Calls Tryz.prog 39 #[.int .i64 c,.int .i64 k,.pointer (some ⟨b1,0,none⟩),.pointer (some ⟨b2,0,none⟩)] w fun e w'=>(∃ fc fn fe ft av nv cv,e=.returned (.tuple #[FaV fc fn fe ft (.slice av nv cv),.bool (xc0 X (epB X) l c k).isSome])/\∀ q,xc0 X (epB X) l c k=some q->ft=q.2/\xaR (Fx T w') w' (.slice av nv cv) q.1)/\Below w.heap.size w w':=by
 obtain⟨-,hpk,-,-,f0,hfs⟩:=h;obtain⟨-,-,w0,w1,w2,hc,hh⟩:=id hpk;obtain⟨kc,kn,x,rfl,rfl,hx,hxm⟩:=xfm hm;obtain⟨aC,cc,rfl,hlc,hcc,hbyc,hrowC⟩:=id hc;obtain⟨ah,ch,rfl,-⟩:=id hh;obtain⟨aF,fc,rfl,hlf,hcf,hbyf,hrowF⟩:=id hfs;obtain⟨bC,oC,rfl,-,hxc⟩:=hrowC kc x hx;obtain⟨x0,x1,x2,-,mv,x3,hms⟩:=hxc;obtain⟨aM,cm,rfl,hlm,hcm,hbym,hrowM⟩:=id hms;obtain⟨bM,oM,rfl,-,hmc⟩:=hrowM kn mt hxm;obtain⟨m0,-⟩:=hmc;have hP:Hid (xc0 X (epB X) l (kc:Int) (kn:Int)=(l.find? fun f=>decide (f.cls=(kc:Int)) && eqN f.name mt.name && epB X f).map fun f=>(f.code,f.temps)):=by show _=_;unfold xc0;rw[hm]
 have hlx:=xae hx;have hlxm:=xae hxm;have hZ:PkR w b1 (.slice (some ⟨bC,oC,none⟩) X.cz.length cc) (.slice ah X.heap.length ch) X.ez (w.alloc (.cells #[.int .i64 0,.string ⟨#[]⟩,.int .i64 0,.int .i64 0,.slice none 0 0] 49)):=⟨xak _ _,qzA (xak _ _) w0,qzA (xak _ _) w1,qzA (xak _ _) w2,qzJ w _⟩;have q1:=qzA (xak w (.cells #[.int .i64 0,.string ⟨#[]⟩,.int .i64 0,.int .i64 0,.slice none 0 0] 49)) x3;have q2:=qzA (xak w (.cells #[.int .i64 0,.string ⟨#[]⟩,.int .i64 0,.int .i64 0,.slice none 0 0] 49)) m0;have q3:=qzA (xak w (.cells #[.int .i64 0,.string ⟨#[]⟩,.int .i64 0,.int .i64 0,.slice none 0 0] 49)) f0
 have k1:(kc:Int)<(X.cz.length:Int):=by omega
 have k2:(kn:Int)<(x.mz.length:Int):=by omega
 have k3:(0:Int)<=(kc:Int):=by omega
 have k4:(0:Int)<=(kn:Int):=by omega
 have HF:=hid hfs;clear hm hc hh hfs hrowC hms hrowM x0 x1 x2 x3 m0 f0 w0 w1 w2 hpk;have HRF:=hid hrowF;clear hrowF;simp only[Nat.add_zero] at q2;unfold maxLen at hcc hcm hcf;go_enter Tryz.func39,Tryz.ntmps39
 go_upto_region 1 with (fail)
 have hbZ:=hid hZ;generalize (w.alloc (.cells #[.int .i64 0,.string ⟨#[]⟩,.int .i64 0,.int .i64 0,.slice none 0 0] 49))=W at *;obtain⟨-,w0,w1,w2,-⟩:=id hZ;clear hZ
 go_upto_region 2 with (fail)
 have hlW:(l.length:Int)<=9223372036854775807:=by omega
 go_upto_region 3 with (fail)
 clear w0 w1 w2 q1 q2 q3 k1 k2 k3 k4
 go_loopg [23] l.length (fun gk c wr=>∃ j:Nat,j+gk=l.length/\c=.int .i64 j/\PkR w b1 (.slice (some ⟨bC,oC,none⟩) X.cz.length cc) (.slice ah X.heap.length ch) X.ez wr/\∀ i y,i<j->l[i]?=some y->(decide (y.cls=(kc:Int)) && eqN y.name mt.name && epB X y)=false)
 case atStart=>exact⟨0,by omega,rfl,hbZ.out,fun i y hi=>by omega⟩
 case round=>
  clear hbZ;obtain⟨j,hj,rfl,hRr,hok⟩:=hrel;have HO:=hid hok;clear hok;obtain⟨-,w0,w1,w2,z0⟩:=id hRr
  by_cases hlt:j<l.length
  ·have hx':l[j]?=some l[j]:=by simp[hlt]
   have HX:=hid hx';generalize l[j]=y at *;obtain⟨b',o',rfl,-,y0,y1,y2,y3,yv,y4,hyc⟩:=HRF.out j y hx';obtain⟨ay,cy,rfl,-⟩:=id hyc;simp only[Nat.add_zero] at y0;have u0:=qzA hRr.bel y0;have u1:=qzA hRr.bel y1;have u2:=qzA hRr.bel y2;have u3:=qzA hRr.bel y3;have u4:=qzA hRr.bel y4;have HYC:=hid hyc;clear y0 y1 y2 y3 y4 hx' hyc;have hj1:(j:Int)<(l.length:Int):=by omega
   have hj0:(0:Int)<=(j:Int):=by omega
   have hb5:=xak wr (.cells #[.int .i64 y.cls,.string y.name,.int .i64 y.ez,.int .i64 y.temps,.slice ay y.code.length cy] 49);have hRa:=hRr.later hb5;have hbox:(wr.alloc (.cells #[.int .i64 y.cls,.string y.name,.int .i64 y.ez,.int .i64 y.temps,.slice ay y.code.length cy] 49)).heap[wr.heap.size]?=some (.cells #[.int .i64 y.cls,.string y.name,.int .i64 y.ez,.int .i64 y.temps,.slice ay y.code.length cy] 49 (0,0)):=qzJ wr _
   go_upto_region 5 with (fail)
   generalize (wr.alloc (.cells #[.int .i64 y.cls,.string y.name,.int .i64 y.ez,.int .i64 y.temps,.slice ay y.code.length cy] 49))=V at *;generalize wr.heap.size=bx at *
   obtain⟨v0,v1,v2,v3,v4⟩:V.cell? ⟨bx,0,none⟩=some (.int .i64 y.cls)/\V.cell? ⟨bx,1,none⟩=some (.string y.name)/\V.cell? ⟨bx,2,none⟩=some (.int .i64 y.ez)/\V.cell? ⟨bx,3,none⟩=some (.int .i64 y.temps)/\V.cell? ⟨bx,4,none⟩=some (.slice ay y.code.length cy):=by
    refine⟨?_,?_,?_,?_,?_⟩<;>(rw[qzB hbox];rfl)
   obtain⟨hbr,w0',w1',w2',z0'⟩:=id hRa;have zf:=xap z0'
   obtain⟨z1,z2,z3,z4,z5⟩:V.cell? ⟨w.heap.size,0,none⟩=some (.int .i64 0)/\V.cell? ⟨w.heap.size,1,none⟩=some (.string ⟨#[]⟩)/\V.cell? ⟨w.heap.size,2,none⟩=some (.int .i64 0)/\V.cell? ⟨w.heap.size,3,none⟩=some (.int .i64 0)/\V.cell? ⟨w.heap.size,4,none⟩=some (.slice none 0 0):=by
    refine⟨?_,?_,?_,?_,?_⟩<;>(rw[qzB z0'];rfl)
   clear u0 u1 u2 u3 u4 w0 w1 w2 z0 hbox hb5 hRr
   by_cases hyes:(decide (y.cls=(kc:Int)) && eqN y.name mt.name && epB X y)=true
   ·have HFD:Hid (xc0 X (epB X) l (kc:Int) (kn:Int)=some (y.code,y.temps)):=by
     show _=_
     rw[hP.out,xlR HX.out hyes HO.out]
     rfl
    simp only[Bool.and_eq_true,decide_eq_true_eq,eqN,epB] at hyes;obtain⟨⟨e1,e2⟩,e3⟩:=hyes;have e1':(y.cls == (kc:Int))=true:=by simpa using e1
    have e3':(y.ez == X.ez)=true:=by simpa using e3
    have HV:Hid (∀ U:World,Below w.heap.size w U->xaR (Fx T U) U (.slice ay y.code.length cy) y.code):=fun U hU=>(HYC.out.later xa2 hU).mono xa2 fun b hb=>⟨qzE hb.1 hU.size,hb.2⟩
    clear e1 e3;go_wp2;refine qzK (v:=.tuple #[FaV y.cls y.name y.ez y.temps (.slice ay y.code.length cy),.bool true]) ?_ rfl ⟨⟨_,_,_,_,_,_,_,by rw[HFD.out];rfl,fun q hq=>by rw[HFD.out] at hq;cases hq;exact⟨rfl,HV.out _ (((((hbr.setCell (by simp) _).setCell (by simp) _).setCell (by simp) _).setCell (by simp) _).setCell (by simp) _)⟩⟩,((((hbr.setCell (by simp) _).setCell (by simp) _).setCell (by simp) _).setCell (by simp) _).setCell (by simp) _⟩
    simp[results,Tryz.results39,go_sem,z1,z2,z3,z4,z5]
   ·have hno:(decide (y.cls=(kc:Int)) && eqN y.name mt.name && epB X y)=false:=by simpa using hyes
    have HN:=hid hno
    have hth:(y.cls == (kc:Int))=false\/((y.cls == (kc:Int))=true/\(y.name.toList == mt.name.toList)=false)\/((y.cls == (kc:Int))=true/\(y.name.toList == mt.name.toList)=true/\(y.ez == X.ez)=false):=by
     unfold eqN epB at hno
     cases h1:(y.cls == (kc:Int))
     ·exact .inl rfl
     ·cases h2:(y.name.toList == mt.name.toList)
      ·exact .inr (.inl ⟨rfl,rfl⟩)
      ·refine .inr (.inr ⟨rfl,rfl,?_⟩);have h1':y.cls=(kc:Int):=by simpa using h1
       rw[h2] at hno
       simpa [h1'] using hno
    clear hno hyes;have HRA:=hid hRa;clear hbr z0' zf z1 z2 z3 z4 z5
    rcases hth with e1 | ⟨e1,e2⟩ | ⟨e1,e2,e3⟩
    all_goals (
     go_wp2
     go_roundg (gk-1)
     case measure=>omega
     case rel=>
      refine⟨j+1,by omega,by go_num,HRA.out,fun i y' hi hy=>?_⟩
      by_cases hij:i=j
      ·subst hij;rw[HX.out] at hy;cases hy;exact HN.out
      ·exact HO.out i y' (by omega) hy)
  ·obtain rfl:j=l.length:=by omega
   have HFD:Hid (xc0 X (epB X) l (kc:Int) (kn:Int)=none):=by
    show _=_
    rw[hP.out,xjU HO.out]
    rfl
   have zf:=xap z0
   obtain⟨z1,z2,z3,z4,z5⟩:wr.cell? ⟨w.heap.size,0,none⟩=some (.int .i64 0)/\wr.cell? ⟨w.heap.size,1,none⟩=some (.string ⟨#[]⟩)/\wr.cell? ⟨w.heap.size,2,none⟩=some (.int .i64 0)/\wr.cell? ⟨w.heap.size,3,none⟩=some (.int .i64 0)/\wr.cell? ⟨w.heap.size,4,none⟩=some (.slice none 0 0):=by
    refine⟨?_,?_,?_,?_,?_⟩<;>(rw[qzB z0];rfl)
   have hbr:=hRr.bel;clear w0 w1 w2 hRr z0;go_wp2;refine qzK (v:=.tuple #[FaV 0 ⟨#[]⟩ 0 0 (.slice none 0 0),.bool false]) ?_ rfl ⟨⟨_,_,_,_,_,_,_,by rw[HFD.out];rfl,fun q hq=>by rw[HFD.out] at hq;cases hq⟩,((((hbr.setCell (by simp) _).setCell (by simp) _).setCell (by simp) _).setCell (by simp) _).setCell (by simp) _⟩
   simp[results,Tryz.results39,go_sem,z1,z2,z3,z4,z5]
structure PickOk (X:QW)(l:List Fst):Prop where
 ok:∀ fuel,EOk (xb6 X fuel (xc0 X (epB X) l))
 few:∀ c k q,xc0 X (epB X) l c k=some q->q.1.length<=500/\∀ x∈q.1,x.op=18->0<=x.b/\x.b<=1000
theorem xqK {X:QW}(hX:xaH X=0){fuel:Int}(hf:fuel<=400){l:List Fst}(hl:PickOk X l)(b b1 b2:Nat)(cv hv fv cv':Value):Cx (⟨xb6 X fuel (xc0 X (epB X) l),cv',X.ez,.func (.func 37) #[] #[.pointer (some ⟨b,0,none⟩)],.func (.func 39) #[] #[.pointer (some ⟨b1,0,none⟩),.pointer (some ⟨b2,0,none⟩)]⟩:Mp Unit) (LkF X l b b1 b2 cv hv fv) 37 #[.pointer (some ⟨b,0,none⟩)] 39 #[.pointer (some ⟨b1,0,none⟩),.pointer (some ⟨b2,0,none⟩)] where
 lv:=rfl
 qv:=rfl
 lcf:=xmK Tryz.func37 (by kernel_rfl) (by kernel_rfl)
 qcf:=xmK Tryz.func39 (by kernel_rfl) (by kernel_rfl)
 ok:=hl.ok fuel
 fuel:=by show fuel<=_;omega
 keep h e k h0 h3:=(xeP X l b b1 b2 cv hv fv).keep h e k h0 h3
 mono h hn:=(xeP X l b b1 b2 cv hv fv).mono h hn
 look T w st s c name n h:=(xja h.lk s c name).mono fun e w' hp=>⟨hp.1,⟨T,.refl _ _,(xeP X l b b1 b2 cv hv fv).mono ((xeP X l b b1 b2 cv hv fv).keep (T':=T) h (.refl _ _) (Kp.of_below (S:=fun _=>False) hp.2) id id) (Nat.le_succ n)⟩,Kp.of_below hp.2⟩
 quick T w st c k mt n h hm:=xjN h c k mt hm
 few c k mt hm:=⟨by have:=xna hX hm;omega,fun q h=>hl.few c k q h⟩
theorem xpv {P Q R:Nat->Prop}(X:QW)(hX:xaH X=0)(s:QV)(name:ByteArray)(args:List QV)(fuel:Int){l:List Fst}(hl:PickOk X l)(r:Ran)(hr:(xh1 (xb6 X fuel (xc0 X (epB X) l)) X () s name args fuel).1=r)(cv hv av fv:Value)(w:World)(hC:xai P w cv X.cz)(hH:xaD P w hv X.heap)(hA:xaO Q w av args)(hF:xdl R w fv l)(hn:name.size<=140737488351232)(b b1 b2:Nat)(h1:b<w.heap.size)(f0:w.cell? ⟨b,0,none⟩=some cv)(f1:w.cell? ⟨b,1,none⟩=some hv)(f2:w.cell? ⟨b,2,none⟩=some (.int .i64 X.ez))(h2:b1<w.heap.size)(g0:w.cell? ⟨b1,0,none⟩=some cv)(g1:w.cell? ⟨b1,1,none⟩=some hv)(g2:w.cell? ⟨b1,2,none⟩=some (.int .i64 X.ez))(h3:b2<w.heap.size)(e0:w.cell? ⟨b2,0,none⟩=some fv) :
  Calls Tryz.prog 19 #[WV cv hv X.ez,ClV s name av,.int .i64 fuel,.func (.func 37) #[] #[.pointer (some ⟨b,0,none⟩)],.func (.func 39) #[] #[.pointer (some ⟨b1,0,none⟩),.pointer (some ⟨b2,0,none⟩)]] w fun e w'=>PlPost w X r e w':=by
 have k3:xai (Fx (fun _=>0) w) w cv X.cz:=(xca hC).keep xaA (Keeps.refl _ _) fun b hb=>⟨hb,rfl⟩
 have k4:xaD (Fx (fun _=>0) w) w hv X.heap:=(xc8 hH).keep xaE (Keeps.refl _ _) fun b hb=>⟨hb,rfl⟩
 have k5:xdl (Fx (fun _=>0) w) w fv l:=by
  obtain⟨ad,cap,q1,q2,q3,q4,q5⟩:=hF;refine⟨ad,cap,q1,q2,q3,q4,fun i x hx=>?_⟩
  obtain⟨bb,o,r1,-,r3,r4,r5,r6,v,r7,r8⟩:=q5 i x hx
  exact⟨bb,o,r1,⟨World.block_lt_of_cell? _ _ r3,rfl⟩,r3,r4,r5,r6,v,r7,(xg3 r8).keep xa2 (Keeps.refl _ _) fun b hb=>⟨hb,rfl⟩⟩
 rw[← hr]
 exact (xoP (T0:=fun _=>0) X hX (xb6 X fuel (xc0 X (epB X) l)) () rfl s name args cv hv av w (fun _ _=>.inl rfl) k3 k4 ((xfh hA).keep xa1 (Keeps.refl _ _) fun b hb=>⟨hb,rfl⟩) hn (xeP X l b b1 b2 cv hv fv) ⟨⟨rfl,h1,f0,f1,f2,k3,k4⟩,⟨rfl,h2,g0,g1,g2,k3,k4⟩,rfl,h3,e0,k5⟩ (fun _ h4 cv'=>xqK hX h4 hl b b1 b2 cv hv fv cv')).mono fun e w' h=>h.plain
theorem xo8 {P Q R:Nat->Prop}(X:QW)(hX:xaH X=0)(s:QV)(name:ByteArray)(args:List QV)(fuel:Int){l:List Fst}(hl:PickOk X l)(r:Ran)(hr:(xh1 (xb6 X fuel (xc0 X (epB X) l)) X () s name args fuel).1=r)(cv hv av fv:Value)(w:World)(hC:xai P w cv X.cz)(hH:xaD P w hv X.heap)(hA:xaO Q w av args)(hF:xdl R w fv l)(hn:name.size<=140737488351232) :
  Calls Tryz.prog 8 #[WV cv hv X.ez,ClV s name av,.int .i64 fuel,fv] w fun e w'=>PlPost w X r e w':=by
 have hR:=(xjE w cv hv X.ez s name av).later (qzL _ _).drew;have hbW:Below w.heap.size w ((((w.alloc (.cells #[cv,hv,.int .i64 X.ez] 25)).alloc (.cells #[.int .i64 s.k,.int .i64 s.n,.string name,av] 30)).alloc (.cells #[.slice none 0 0,.slice none 0 0,.int .i64 0] 25)).alloc (.cells #[.int .i64 0,.int .i64 0,.int .i64 0,.int .i64 0] 37)).drew:=(xaf (xbP _ _ _) (xbP _ _ _)).drew;obtain⟨ac,cc,rfl,-,-,hby,-⟩:=id hC;obtain⟨ah,ch,rfl,-,-,hbyh,-⟩:=id hH;obtain⟨aa,ca,rfl,-⟩:=id hA;obtain⟨af',cf',rfl,-⟩:=id hF;go_enter Tryz.func8,Tryz.ntmps8
 go_upto_region 1 with (fail)
 generalize ((((w.alloc (.cells #[.slice ac X.cz.length cc,.slice ah X.heap.length ch,.int .i64 X.ez] 25)).alloc (.cells #[.int .i64 s.k,.int .i64 s.n,.string name,.slice aa args.length ca] 30)).alloc (.cells #[.slice none 0 0,.slice none 0 0,.int .i64 0] 25)).alloc (.cells #[.int .i64 0,.int .i64 0,.int .i64 0,.int .i64 0] 37))=W at *;have hS0:=hR.pn;have hfd:=fun w'=>xjz (.slice ac X.cz.length cc) (.slice ah X.heap.length ch) X.ez w' ⟨_,_,_,rfl⟩ ⟨_,_,_,rfl⟩
 have hpk:=fun w'=>xk6 (.slice ac X.cz.length cc) (.slice ah X.heap.length ch) (.slice af' l.length cf') X.ez w' ⟨_,_,_,rfl⟩ ⟨_,_,_,rfl⟩ ⟨_,_,_,rfl⟩
 have hwi:=fun (w':World) (hb:Below w.heap.size w w') (b b1 b2:Nat) h1 h2 h3 h4 h5 h6 h7 h8 h9 h10=>xpv X hX s name args fuel hl r hr _ _ _ _ w' (hC.later xaA hb) (hH.later xaE hb) (hA.later xa1 hb) (hF.later xhR hb) hn b b1 b2 h1 h2 h3 h4 h5 h6 h7 h8 h9 h10
 clear hC hH hA hF hr;simp only[Nat.add_assoc,Nat.reduceAdd] at *;have tokA:True:=trivial;have tokB:True:=trivial
 go_region_held3 (fun w'=>w'.cell? ⟨w.heap.size,0,none⟩=some (.slice ac X.cz.length cc)/\w'.cell? ⟨w.heap.size,1,none⟩=some (.slice ah X.heap.length ch)/\w'.cell? ⟨w.heap.size,2,none⟩=some (.int .i64 X.ez)/\w'.cell? ⟨w.heap.size+1,0,none⟩=some (.int .i64 s.k)/\w'.cell? ⟨w.heap.size+1,1,none⟩=some (.int .i64 s.n)/\w'.cell? ⟨w.heap.size+1,2,none⟩=some (.string name)/\w'.cell? ⟨w.heap.size+1,3,none⟩=some (.slice aa args.length ca))
  (first | with_reducible exact hS0.al | with_reducible exact hS1.al | with_reducible exact hS2.al | with_reducible exact hS3.al | with_reducible exact (((hS3.set (Or.inl rfl) _ _).set (Or.inl rfl) _ _).set (Or.inl rfl) _ _).al | with_reducible exact (((((((hS3.set (Or.inl rfl) _ _).set (Or.inl rfl) _ _).set (Or.inl rfl) _ _).set (Or.inr rfl) _ _).set (Or.inr rfl) _ _).set (Or.inr rfl) _ _).set (Or.inr rfl) _ _).al | with_reducible exact ((((hS3.set (Or.inr rfl) _ _).set (Or.inr rfl) _ _).set (Or.inr rfl) _ _).set (Or.inr rfl) _ _).al)
  (first
   | (have _t:=tokA;have _u:=tokB;go_at_call 20;refine (hfd _).mono ?_;rintro e w2 ⟨rfl,f0,f1,f2,fz,hb2⟩;have hR2:=hR.later hb2;have hS1:=hR2.pn;have hbw2:=xaf hbW hb2;clear tokA)
   | (have _u:=tokB;go_at_call 21;refine (hpk _).mono ?_;rintro e w3 ⟨rfl,g0,g1,g2,g3,gz,hb3⟩;have hR3:=hR2.later hb3;have hS2:=hR3.pn;have hbw3:=xaf hbw2 hb3;replace f0:=qzA hb3 f0;replace f1:=qzA hb3 f1;replace f2:=qzA hb3 f2;have fz3:=qzE fz hb3.size;clear tokB)
   | (go_at_call 19;refine (hwi _ hbw3 _ _ _ fz3 f0 f1 f2 (by omega) g0 g1 g2 (by omega) g3).mono ?_;rintro e w4 ⟨hb4,cv4,hv4,rfl,hC4,hH4⟩;have hR4:=hR3.later hb4;have hS3:=hR4.pn;have HQ:=hid (fun u0 u1 u2 v0 v1 v2 v3=>PlPost.fin (r:=r) (X:=X) (P:=fun b=>w3.heap.size<=b) (xaf hbw3 hb4) hC4 hH4 (by have:=hR3.sz;omega) (by have:=hR3.sz;omega) (fun x hx=>by have:=hR3.sz;omega) u0 u1 u2 v0 v1 v2 v3);obtain⟨a3,k3,rfl,-⟩:=id hC4;obtain⟨a4,k4,rfl,-⟩:=id hH4;obtain⟨-,-,-,-,-,-,-,a0,a1,a2,af,b0,b1,b2,b3,bf,-⟩:=id hR4;clear hC4 hH4))
 all_goals (
  go_wp2;refine qzK (v:=.tuple #[WV (.slice a3 X.cz.length k3) (.slice a4 r.heap.length k4) X.ez,RnV r]) ?_ rfl (HQ.out _ _ _ _ _ _ _)
  simp[results,Tryz.results8,go_sem,a0,a1,a2,b0,b1,b2,b3])
def xqO (X:QW)(f:Fst):Bool:=decide (f.code.length<=500) && f.code.all fun x=>(decide (x.op≠18) || decide (0<=x.b/\x.b<=1000)) && (decide (x.op≠5) || decide (-1073741824<=x.a/\x.a<=1073741824)) && (decide (x.op≠13) || xbW X.cz.length x.a)
theorem xlX {X:QW}(hX:xaH X=0){l:List Fst}(h:∀ f∈l,epB X f=true->xqO X f=true):PickOk X l:=by
 have hf:∀ c k q,xc0 X (epB X) l c k=some q->q.1.length<=500/\∀ x∈q.1,(x.op=18->0<=x.b/\x.b<=1000)/\(x.op=5->-1073741824<=x.a/\x.a<=1073741824)/\(x.op=13->xbW X.cz.length x.a=true):=fun c k q hq=>by
  obtain⟨f,h1,-,-,h4,rfl⟩:=xet hq;have h2:=h f h1 h4;unfold xqO at h2;rw[Bool.and_eq_true,List.all_eq_true,decide_eq_true_eq] at h2;refine⟨h2.1,fun x hx=>?_⟩
  have h3:=h2.2 x hx;simp only[Bool.and_eq_true,Bool.or_eq_true,decide_eq_true_eq] at h3
  exact⟨fun e=>h3.1.1.resolve_left fun n=>n e,fun e=>h3.1.2.resolve_left fun n=>n e,fun e=>h3.2.resolve_left fun n=>n e⟩
 exact⟨fun fuel=>⟨fun c n m hm=>xdb hX hm,fun c n q hq=>fun x hx=>⟨((hf c n q hq).2 x hx).2.1,((hf c n q hq).2 x hx).2.2⟩,xei hX⟩,fun c k q hq=>⟨(hf c k q hq).1,fun x hx=>((hf c k q hq).2 x hx).1⟩⟩
end Go.Proofs.YtaodadfahifbpaaGreat
