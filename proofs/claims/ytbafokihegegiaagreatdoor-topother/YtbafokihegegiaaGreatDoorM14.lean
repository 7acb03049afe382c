/- A part. -/
import Derived.Test.YtbafokihegegiaaGreatDoorM13
namespace Go.Proofs.YtbafokihegegiaaGreatDoor
open Go.ChangeShapes Go.WideShapes Go.ChangeAt Go.RowKit
set_option linter.unusedSimpArgs false
set_option linter.unusedVariables false
set_option maxHeartbeats 8000000
theorem xfd {α:Type}{a b:List α}{j:Nat}{y:α}(h:a[j]?=some y):(a++b)[j]?=some y:=by rw[List.getElem?_append_left (xad h)];exact h
theorem xpL {α:Type}{a b:List α}{n j:Nat}{y:α}(hn:a.length=n)(h:b[j]?=some y):(a++b)[n+j]?=some y:=by subst hn;rw[List.getElem?_append_right (by omega)];simpa using h
structure PcAt (FC:List QI)(leaf:QM)(g:QI)(T0 A T p:Nat):Prop where
 guard:FC[p]?=some g
 count:FC[p+1]?=some (ins 21 0 0 0)
 sets:∀ (j:Nat) y,(xdh ((T0+1:Nat):Int) A)[j]?=some y->FC[p+2+j]?=some y
 set:FC[p+2+A]?=some (ins 11 (T0:Int) 0 0)
 nils:∀ (j:Nat) y,(xcF ((T0+1+A:Nat):Int) T)[j]?=some y->FC[p+3+A+j]?=some y
 code:∀ (j:Nat) x,leaf.code[j]?=some x->FC[p+3+A+2*T+j]?=some (xaw T0 (T0+1) (T0+1+A) ((p+3+A+2*T:Nat):Int) (((p+3+A+2*T:Nat):Int)+leaf.code.length) x)
theorem xpz {FC:List QI}{leaf:QM}{g:QI}{T0 A T p:Nat}(hA:leaf.args=(A:Int))(hT:leaf.temps=(T:Int))(h:∀ (j:Nat) y,(xbC leaf g (T0:Int) (p:Int))[j]?=some y->FC[p+j]?=some y):PcAt FC leaf g T0 A T p:=by
 have hS:=xgM ((T0:Int)+1) A;have hN:=xdT ((T0:Int)+1+A) T;have hf:xbE leaf (p:Int)=((p+3+A+2*T:Nat):Int):=by unfold xbE;rw[hA,hT];omega
 have hpe:xbC leaf g (T0:Int) (p:Int)=[g,ins 21 0 0 0]++xdh ((T0:Int)+1) A++[ins 11 (T0:Int) 0 0]++xcF ((T0:Int)+1+A) T++leaf.code.map (xaw T0 (T0+1) (T0+1+A) ((p+3+A+2*T:Nat):Int) (((p+3+A+2*T:Nat):Int)+leaf.code.length)):=by
  unfold xbC xf7;rw[hf,hA,hT];simp only[Int.toNat_natCast]
 rw[hpe] at h;refine⟨?_,?_,?_,?_,?_,?_⟩
 ·simpa using h 0 g (xfd (xfd (xfd (xfd rfl))))
 ·exact h 1 _ (xfd (xfd (xfd (xfd rfl))))
 ·intro j y hy;rw[show p+2+j=p+(2+j) by omega]
  exact h (2+j) y (xfd (xfd (xfd (xpL rfl (by simpa using hy)))))
 ·rw[show p+2+A=p+(2+A+0) by omega]
  exact h _ _ (xfd (xfd (xpL (by simp[hS];omega) rfl)))
 ·intro j y hy;rw[show p+3+A+j=p+(3+A+j) by omega]
  exact h _ y (xfd (xpL (by simp[hS];omega) (by have:=hy;simpa using this)))
 ·intro j x hx;rw[show p+3+A+2*T+j=p+(3+A+2*T+j) by omega]
  exact h _ _ (xpL (by simp[hS,hN];omega) (by rw[List.getElem?_map,hx];rfl))
section
variable {σ:Type} {ent ent':Ent σ} {E E':Env σ} {d d':Nat} {m:Mc σ}
theorem xdX {T:Nat}(h:T<=40):xaC (T:Int)=List.replicate T xa4:=by unfold xaC;congr 1;omega
theorem xqb (ht:xby ent)(ht':xby ent')(he':xkh ent'){FC:List QI}{leaf:QM}{T0 A T p:Nat}{ks kc:Int}(hP:PcAt FC leaf (ins 18 ks (A:Int) kc) T0 A T p)(hT6:T<=40)(hleaf:∀ x∈leaf.code,x.op≠13/\x.op≠14){base as':List QV}{recv:QV}{ff:Fr}(hfast:ff.fast=true)(hcode:ff.code=FC)(hpc:ff.pc=(p:Int))(hst:ff.stack=base++[recv]++as')(hal:as'.length=A)(hlen:T0+1+A+T<=ff.temps.length){q:Int}(hpl:PlOk ⟨q,leaf,recv,as',xaC (T:Int),[],leaf.code,0,false⟩)(hk:xap m.heap recv=ks)(hTk:TOk m) :
  ((xar E d m).2≠0/\goE ent E d m ff=((xar E d m).1,xa4,(xar E d m).2))\/
  ((xar E d m).2=0/\(((goE ent' E' d' (xar E d m).1 ⟨q,leaf,recv,as',xaC (T:Int),[],leaf.code,0,false⟩).2.2≠0/\goE ent E d m ff=((goE ent' E' d' (xar E d m).1 ⟨q,leaf,recv,as',xaC (T:Int),[],leaf.code,0,false⟩).1,xa4,(goE ent' E' d' (xar E d m).1 ⟨q,leaf,recv,as',xaC (T:Int),[],leaf.code,0,false⟩).2.2))\/
   ((goE ent' E' d' (xar E d m).1 ⟨q,leaf,recv,as',xaC (T:Int),[],leaf.code,0,false⟩).2.2=0/\TOk (goE ent' E' d' (xar E d m).1 ⟨q,leaf,recv,as',xaC (T:Int),[],leaf.code,0,false⟩).1/\∃ ff',LfQ FC T0 (((p+3+A+2*T:Nat):Int)+leaf.code.length) base ff (goE ent' E' d' (xar E d m).1 ⟨q,leaf,recv,as',xaC (T:Int),[],leaf.code,0,false⟩).2.1 ff'/\goE ent E d m ff=goE ent E d (goE ent' E' d' (xar E d m).1 ⟨q,leaf,recv,as',xaC (T:Int),[],leaf.code,0,false⟩).1 ff'/\muE (goE ent' E' d' (xar E d m).1 ⟨q,leaf,recv,as',xaC (T:Int),[],leaf.code,0,false⟩).1 ff'<muE m ff))):=by
 have hbelow:xaL ff.stack (A:Int)=recv:=by
  unfold xaL;rw[show ((ff.stack.length:Int)-1-A)=((base.length:Nat):Int) by rw[hst];simp;omega,xco,hst,List.append_assoc]
  rw[List.getElem?_append_right (qzC _)]
  simp
 have g1:Goes ent E d m ff { ff with pc:=ff.pc+1 }:=by
  refine xhn ht hTk.1 hpc (by rw[hcode];exact hP.guard) (by simp) ?_
  rw[xhs (by simp)]
  have hb':xaL { ff with pc:=ff.pc+1 }.stack (A:Int)=recv:=hbelow
  simp only[xb7,hfast,ins,hb',hk]
  simp
 have hc1:xbW { ff with pc:=ff.pc+1 }=some (ins 21 0 0 0):=xfn (p:=p+1) (by simp only[hpc];omega) (by simp only[hcode];exact hP.count)
 have hs1:xaj ent E d m { ff with pc:=ff.pc+1+1 } (ff.pc+1) (ins 21 0 0 0)=((xar E d m).1,{ ff with pc:=ff.pc+1+1 },(xar E d m).2):=by
  rw[xhs (by simp)]
  simp[xb7,hfast,ins]
 by_cases hcz:(xar E d m).2=0
 ·right
  refine⟨hcz,?_⟩;have hTk1:TOk (xar E d m).1:=xdo hTk;obtain⟨c1,c2,c3⟩:=xiA ht (E:=E) (d:=d) hTk.1 hc1 (by simp) (by rw[hs1];exact hcz)
  rw[hs1] at c1 c2;simp only at c1 c2;generalize (xar E d m).1=m1 at *;obtain⟨f1,n1,n2,n3,n4,n5,n6⟩:=xnU (ent:=ent) (E:=E) (d:=d) (m:=m1) ht hTk1.1 (T0+1) A { ff with pc:=ff.pc+1+1 } (p+2) (base++[recv]) as' (by simp only[hpc];omega) (fun j y hy=>by simp only[hcode];exact hP.sets j y hy) hst hal (by simp only;omega)
  obtain⟨f2,k1,k2,k3,k4,k5,k6⟩:=xiO (E:=E) (d:=d) (m:=m1) ht hTk1.1 (f:=f1) (p:=p+2+A) (n:=T0) (base:=base) (v:=recv) (a:=(T0:Int)) n2 (by rw[n1.code];simp only[hcode];exact hP.set) rfl n3 (by rw[n1.len];simp only;omega)
  obtain⟨f3,l1,l2,l3,l4,l5,l6⟩:=xoU (ent:=ent) (E:=E) (d:=d) (m:=m1) ht hTk1.1 (T0+1+A) T (p+3+A) T 0 f2 (by omega) (by rw[k2];omega) (fun j y hy=>by rw[k1.code,n1.code];simp only[hcode];exact hP.nils j y hy) (by rw[k1.len,n1.len];simp only;omega) (fun q hq=>by omega)
  have nx:=(n1.trans k1).trans l1
  have hL:LfP leaf.code FC T0 A (p+3+A+2*T) base ff f3 ⟨q,leaf,recv,as',xaC (T:Int),[],leaf.code,0,false⟩:=by
   refine⟨nx.fast.trans hfast,nx.code.trans hcode,nx.cls,nx.meth,nx.self,nx.args,nx.len,?_,hpl,rfl,hal,?_,?_,?_,?_,?_⟩
   ·apply List.ext_getElem?
    intro i;rw[List.getElem?_take,List.getElem?_take]
    split
    ·rw[l5 i (by omega),k5 i (by omega),n5 i (by omega)]
    ·rfl
   ·rw[l2];simp
   ·rw[l3,k3];simp
   ·rw[l5 _ (by omega),k4]
   ·intro i v hv;have:=xad hv;simp only at this hv;rw[show T0+1+i=T0+1+i from rfl,l5 _ (by omega),k5 _ (by omega)]
    exact n4 i v hv
   ·intro i v hv;rw[xdX hT6] at hv;have hi:=xad hv
    simp at hi
    rw[List.getElem?_replicate,if_pos hi] at hv
    cases hv
    exact l4 i hi
  have hgo:goE ent E d m ff=goE ent E d m1 f3:=by rw[g1.1,c1,n6.1,k6.1,l6.1]
  have hmu:muE m1 f3<muE m ff:=by have:=g1.2;have:=n6.2;have:=k6.2;have:=l6.2;omega
  have hrun:=xlB (ent:=ent) (ent':=ent') (E:=E) (E':=E') (d:=d) (d':=d') ht ht' he' hleaf hP.code (muE m1 f3) m1 f3 _ hL hTk1 (qzC _)
  rcases hrun with ⟨r1,r2⟩ | ⟨r1,r2,ff',r3,r4,r5⟩
  ·exact Or.inl ⟨r1,by rw[hgo];exact r2⟩
  ·exact Or.inr ⟨r1,r2,ff',r3,by rw[hgo];exact r4,by omega⟩
 ·left
  refine⟨hcz,?_⟩;rw[g1.1,xgr hc1 (by simp) (by rw[hs1];exact hcz),hs1]
end
section
variable {σ:Type}
structure Like (cs:List QC)(E E':Env σ):Prop where
 fuel:E.fuel=E'.fuel
 cls:E.cz=cs
 cls':E'.cz=cs
 look:∀ st s k nm,E.look st s k nm=(st,xak cs k nm)
 look':∀ st s k nm,E'.look st s k nm=(st,xak cs k nm)
def xdU (ent ent':Ent σ):Prop:=∀ m c n s a,TOk m->ent m c n s a=ent' m c n s a
variable {cs:List QC} {E E':Env σ} {ent ent':Ent σ} {d:Nat} {m:Mc σ}
theorem xfH (h:Like cs E E'):xar E d m=xar E' d m:=by unfold xar;rw[h.fuel]
theorem xjd (h:Like cs E E')(he:xdU ent ent')(hT:TOk m){f f':Fr}{a a':Int}{x x':QI}(hs:f.stack=f'.stack)(hx:x.a=x'.a)(hn:x.name=x'.name):xbO ent E m f a x=((xbO ent' E' m f' a' x').1,(if (xbO ent' E' m f' a' x').2.2≠0 then f else { f with stack:=(xbO ent' E' m f' a' x').2.1.stack }),(xbO ent' E' m f' a' x').2.2):=by
 unfold xbO;simp only[h.look,h.look',hs,hx,hn];have e:=he m (xak cs (xap m.heap (xaL (List.take (xbI f'.stack x'.a) f'.stack) 0)) x'.name).1 (xak cs (xap m.heap (xaL (List.take (xbI f'.stack x'.a) f'.stack) 0)) x'.name).2 (xaL (List.take (xbI f'.stack x'.a) f'.stack) 0) (List.drop (xbI f'.stack x'.a) f'.stack) hT;have e':({ heap:=m.heap,sz_:=m.sz_,tz:=m.tz,st:=m.st }:Mc σ)=m:=rfl;rw[e',e];generalize ent' m _ _ _ _=r
 by_cases hz:r.2.2≠0
 ·rw[if_pos hz,if_pos hz];simp[hz]
 ·rw[if_neg hz,if_neg hz];simp
theorem xnf (h:Like cs E E')(he:xdU ent ent')(hT:TOk m)(f:Fr)(a:Int)(x:QI):xaj ent E d m f a x=xaj ent' E' d m f a x:=by
 have hs:xbO ent E m f a x=xbO ent' E' m f a x:=by
  rw[xjd h he hT (f':=f) (a':=a) (x':=x) rfl rfl rfl];unfold xbO;simp only[h.look'];generalize ent' _ _ _ _ _=r
  by_cases hz:r.2.2≠0
  ·simp[hz]
  ·have:r.2.2=0:=by simpa using hz
   simp[this]
 have hm:xci E m f x.a=xci E' m f x.a:=by unfold xci;rw[h.cls,h.cls']
 have hf:xb7 E d m f x=xb7 E' d m f x:=by unfold xb7;rw[xfH h]
 unfold xaj;rw[hs,hm,hf]
theorem xiP (h:Like cs E E')(he:xdU ent ent')(he':xkh ent'):∀ (g:Nat) (m:Mc σ) (f:Fr),TOk m->xck ent E d g m f=xck ent' E' d g m f
 | 0,m,f,hT=>rfl
 | g+1,m,f,hT=>by
  cases hf:xbW f with
  | none=>rw[xdC hf,xdC hf]
  | some x=>
   by_cases h17:x.op=17
   ·rw[xei hf h17,xei hf h17]
   ·rw[xdG hf h17,xdG hf h17,xnf h he hT];have hs:=xgo (E:=E') (d:=d) (f:={ f with pc:=f.pc+1 }) (at':=f.pc) (x:=x) he' hT
    generalize xaj ent' E' d m { f with pc:=f.pc+1 } f.pc x=r at hs ⊢
    by_cases hz:r.2.2≠0
    ·rw[if_pos hz,if_pos hz]
    ·rw[if_neg hz,if_neg hz]
     exact xiP h he he' g r.1 r.2.1 (hs (by omega))
theorem xrM (h:Like cs E E')(he:xdU ent ent')(he':xkh ent')(hT:TOk m)(f:Fr):goE ent E d m f=goE ent' E' d m f:=xiP h he he' _ m f hT
structure FP (FC:List QI)(TT:Nat)(bk:Nat->Nat)(mt:QM)(ff pf:Fr)(k:Nat):Prop where
 pl:PlOk pf
 ppc:pf.pc=(k:Int)
 pmeth:pf.meth=mt
 fast:ff.fast=true
 code:ff.code=FC
 cls:ff.cls=pf.cls
 meth:ff.meth=pf.meth
 self:ff.self=pf.self
 args:ff.args=pf.args
 stack:ff.stack=pf.stack
 pc:ff.pc=(bk k:Int)
 tlen:ff.temps.length=TT
 take:ff.temps.take pf.temps.length=pf.temps
variable {FC:List QI} {TT:Nat} {bk:Nat->Nat} {mt:QM} {ff pf:Fr} {k:Nat}
theorem FP.to (h:FP FC TT bk mt ff pf k){ff' pf':Fr}{k':Nat}(pl:PlOk pf')(c1:pf'.pc=(k':Int))(c2:pf'.meth=pf.meth)(c3:pf'.cls=pf.cls)(c4:pf'.self=pf.self)(c5:pf'.args=pf.args)(c6:pf'.temps=pf.temps)(d1:ff'.fast=ff.fast)(d2:ff'.code=ff.code)(d3:ff'.cls=ff.cls)(d4:ff'.meth=ff.meth)(d5:ff'.self=ff.self)(d6:ff'.args=ff.args)(d7:ff'.temps=ff.temps)(hp:ff'.pc=(bk k':Int))(hs:ff'.stack=pf'.stack):FP FC TT bk mt ff' pf' k':=
 ⟨pl,c1,c2.trans h.pmeth,d1.trans h.fast,d2.trans h.code,by rw[d3,c3];exact h.cls,by rw[d4,c2];exact h.meth,by rw[d5,c4];exact h.self,by rw[d6,c5];exact h.args,hs,hp,by rw[d7];exact h.tlen,by rw[d7,c6];exact h.take⟩
theorem FP.temp (h:FP FC TT bk mt ff pf k){i:Nat}(hi:i<pf.temps.length):ff.temps[i]?=pf.temps[i]?:=by
 have e:(ff.temps.take pf.temps.length)[i]?=pf.temps[i]?:=by rw[h.take]
 rw[List.getElem?_take,if_pos hi] at e
 exact e
def xqC (FC:List QI)(TT:Nat)(bk:Nat->Nat)(mt:QM)(r2 r:Mc σ × Fr × Int):Prop:=r2.1=r.1/\r2.2.2=r.2.2/\(r.2.2=0->∃ k',FP FC TT bk mt r2.2.1 r.2.1 k')
theorem xjf (h:FP FC TT bk mt ff pf k)(hb:∀ i j,i<mt.code.length->j<mt.code.length->((bk i:Int)<=bk j ↔ (i:Int)<=j))(hkl:k<mt.code.length)(ht:TOk m){ff1 pf1:Fr}{t:Nat}(htl:t<mt.code.length)(c2:pf1.meth=pf.meth)(c3:pf1.cls=pf.cls)(c4:pf1.self=pf.self)(c5:pf1.args=pf.args)(c6:pf1.temps=pf.temps)(d1:ff1.fast=ff.fast)(d2:ff1.code=ff.code)(d3:ff1.cls=ff.cls)(d4:ff1.meth=ff.meth)(d5:ff1.self=ff.self)(d6:ff1.args=ff.args)(d7:ff1.temps=ff.temps)(hs:ff1.stack=pf1.stack)(PL:(xa3 m pf1 pf.pc (t:Int)).2.2=0->PlOk (xa3 m pf1 pf.pc (t:Int)).2.1) :
  xqC FC TT bk mt (xa3 m ff1 ff.pc (bk t:Int)) (xa3 m pf1 pf.pc (t:Int)):=by
 have hp:=h.pc;have hpp:=h.ppc;have hbb:=hb t k htl hkl
 rcases xbT m pf1 pf.pc (t:Int) ht with ⟨k1,k2,k3⟩ | ⟨k1,k2,k3⟩ | ⟨k1,k3⟩
 ·rcases xbT m ff1 ff.pc (bk t:Int) ht with ⟨j1,j2,j3⟩ | ⟨j1,j2,j3⟩ | ⟨j1,j3⟩
  ·rw[k3,j3];exact⟨rfl,rfl,fun h=>by simp at h⟩
  ·omega
  ·rw[hp] at j1;rw[hpp] at k1;have:=hbb.2 k1;omega
 ·rcases xbT m ff1 ff.pc (bk t:Int) ht with ⟨j1,j2,j3⟩ | ⟨j1,j2,j3⟩ | ⟨j1,j3⟩
  ·omega
  ·rw[k3] at PL;rw[k3,j3]
   exact⟨rfl,rfl,fun _=>⟨t,h.to (PL rfl) rfl c2 c3 c4 c5 c6 d1 d2 d3 d4 d5 d6 d7 rfl hs⟩⟩
  ·rw[hp] at j1;rw[hpp] at k1;have:=hbb.2 k1;omega
 ·rcases xbT m ff1 ff.pc (bk t:Int) ht with ⟨j1,j2,j3⟩ | ⟨j1,j2,j3⟩ | ⟨j1,j3⟩
  ·rw[hp] at j1;rw[hpp] at k1;have:=hbb.1 j1;omega
  ·rw[hp] at j1;rw[hpp] at k1;have:=hbb.1 j1;omega
  ·rw[k3] at PL;rw[k3,j3]
   exact⟨rfl,rfl,fun _=>⟨t,h.to (PL rfl) rfl c2 c3 c4 c5 c6 d1 d2 d3 d4 d5 d6 d7 rfl hs⟩⟩
end
section
variable {σ:Type} {cs:List QC} {E E':Env σ} {ent ent':Ent σ} {d:Nat} {m:Mc σ} {FC:List QI} {TT:Nat} {bk:Nat->Nat} {mt:QM} {ff pf:Fr} {k:Nat}
theorem xkY {l:List QV}{n i:Nat}(v:QV):(l.set i v).take n=(l.take n).set i v:=by
 apply List.ext_getElem?
 intro j;rw[List.getElem?_take,List.getElem?_set,List.getElem?_set,List.getElem?_take,List.length_take]
 by_cases h1:j<n
 ·by_cases h2:i=j
  ·subst h2
   by_cases h3:i<l.length
   ·simp[h1,h3,Nat.lt_min]
   ·simp[h1,h3,Nat.lt_min]
  ·simp[h1,h2]
 ·by_cases h2:i=j
  ·subst h2
   simp[h1,Nat.lt_min]
  ·simp[h1,h2]
theorem xny (hl:Like cs E E')(he:xdU ent ent')(h:FP FC TT bk mt ff pf k)(hT:TOk m){x:QI}(hx:NxOk pf k x)(h17:x.op≠17){B:List Int}(hbk:bk (k+1)=bk k+1)(hb:∀ i j,i<mt.code.length->j<mt.code.length->((bk i:Int)<=bk j ↔ (i:Int)<=j))(hkl:k<mt.code.length)(hj:(x.op=15\/x.op=16)->∃ t:Nat,x.a=(t:Int)/\t<mt.code.length/\B.getD x.a.toNat 0=(bk t:Int)) :
  xqC FC TT bk mt (xaj ent E d m { ff with pc:=ff.pc+1 } ff.pc (xcW B (xbn x k))) (xaj ent' E' d m { pf with pc:=pf.pc+1 } pf.pc x):=by
 have hops:x.op=1\/x.op=2\/x.op=3\/x.op=4\/x.op=5\/x.op=6\/x.op=7\/x.op=8\/x.op=9\/x.op=10\/x.op=11\/x.op=12\/x.op=13\/x.op=14\/x.op=15\/x.op=16:=by
  obtain⟨h1,h2⟩:=hx.kind;clear hj hb hbk
  omega
 have PL:=xk6 (ent:=ent') (E:=E') (d:=d) (m:=m) h.pl hx h17;have hk:=hx.kind;have hpc1:ff.pc+1=(bk (k+1):Int):=by rw[hbk,h.pc];omega
 have hpp1:pf.pc+1=((k+1:Nat):Int):=by rw[h.ppc];omega
 have same:x.op≠14->x.op≠15->x.op≠16->xcW B (xbn x k)=x:=fun a b c=>by
  have e:xbn x (k:Int)=x:=by unfold xbn;rw[if_neg a]
  rw[e];unfold xcW;rw[if_neg (by omega)]
 have push:∀ (v:QV),xan m.heap { pf with pc:=pf.pc+1 } x=some v->xan m.heap { ff with pc:=ff.pc+1 } x=some v->xqC FC TT bk mt (xaj ent E d m { ff with pc:=ff.pc+1 } ff.pc (xcW B (xbn x k))) (xaj ent' E' d m { pf with pc:=pf.pc+1 } pf.pc x):=fun v e1 e2=>by
  have:=xhO e1;rw[same (by omega) (by omega) (by omega)]
  rw[xdH e1] at PL;rw[xdH e1,xdH e2]
  exact⟨rfl,rfl,fun _=>⟨k+1,h.to (PL rfl) hpp1 rfl rfl rfl rfl rfl rfl rfl rfl rfl rfl rfl rfl hpc1 (by simp[Fr.push,h.stack])⟩⟩
 have htop:Fr.top { ff with pc:=ff.pc+1 }=Fr.top { pf with pc:=pf.pc+1 }:=by simp only[Fr.top,h.stack]
 rcases hops with o | o | o | o | o | o | o | o | o | o | o | o | o | o | o | o
 ·exact push pf.self (by simp[xan,o]) (by simp[xan,o,h.self])
 ·exact push (xaK pf.args x.a) (by simp[xan,o]) (by simp[xan,o,h.args])
 ·obtain⟨a0,a1⟩:=hx.temp (Or.inl o);obtain⟨i,hi⟩:∃ i:Nat,x.a=(i:Int):=⟨x.a.toNat,by omega⟩
  refine push (xaK pf.temps x.a) (by simp[xan,o]) ?_
  have e:xaK ff.temps x.a=xaK pf.temps x.a:=by rw[hi,xco,xco,h.temp (by omega)]
  simp[xan,o,e]
 ·exact push (xep m.heap pf.self x.a) (by simp[xan,o]) (by simp[xan,o,h.self])
 ·exact push ⟨3,x.a⟩ (by simp[xan,o]) (by simp[xan,o])
 ·exact push xa4 (by simp[xan,o]) (by simp[xan,o])
 ·exact push ⟨1,0⟩ (by simp[xan,o]) (by simp[xan,o])
 ·exact push ⟨2,0⟩ (by simp[xan,o]) (by simp[xan,o])
 ·rw[same (by omega) (by omega) (by omega)]
  rw[xij o] at PL;rw[xij o,xij o]
  exact⟨rfl,rfl,fun _=>⟨k+1,h.to (PL rfl) hpp1 rfl rfl rfl rfl rfl rfl rfl rfl rfl rfl rfl rfl hpc1 (by simp[Fr.pop,h.stack])⟩⟩
 ·rw[same (by omega) (by omega) (by omega)]
  rw[xhP o] at PL;rw[xhP o,xhP o,htop]
  exact⟨rfl,rfl,fun _=>⟨k+1,h.to (PL rfl) hpp1 rfl rfl rfl rfl rfl rfl rfl rfl rfl rfl rfl rfl hpc1 (by simp[Fr.push,h.stack])⟩⟩
 ·obtain⟨a0,a1⟩:=hx.temp (Or.inr o);obtain⟨i,hi⟩:∃ i:Nat,x.a=(i:Int):=⟨x.a.toNat,by omega⟩
  rw[same (by omega) (by omega) (by omega)]
  rw[xho o] at PL;rw[xho o,xho o,htop];refine⟨rfl,rfl,fun _=>⟨k+1,⟨PL rfl,hpp1,h.pmeth,h.fast,h.code,h.cls,h.meth,h.self,h.args,by simp[Fr.pop,h.stack],hpc1,?_,?_⟩⟩⟩
  ·simp only[xbN];exact h.tlen
  ·simp only[xbN,hi,xbZ,List.length_set];rw[xkY,h.take]
 ·rw[same (by omega) (by omega) (by omega)]
  rw[xjW o] at PL;rw[xjW o,xjW o,htop]
  exact⟨by simp only[h.self],rfl,fun _=>⟨k+1,h.to (PL rfl) hpp1 rfl rfl rfl rfl rfl rfl rfl rfl rfl rfl rfl rfl hpc1 (by simp[Fr.pop,h.stack])⟩⟩
 ·rw[same (by omega) (by omega) (by omega)]
  rw[xoW o] at PL;rw[xoW o,xoW o];unfold xci at PL ⊢;rw[hl.cls];rw[hl.cls'] at PL ⊢
  by_cases hz:60<=m.heap.length\/2147483647<xbw cs x.a
  ·rw[if_pos hz,if_pos hz]
   exact⟨rfl,rfl,fun h=>by simp at h⟩
  ·rw[if_neg hz] at PL;rw[if_neg hz,if_neg hz]
   exact⟨rfl,rfl,fun _=>⟨k+1,h.to (PL rfl) hpp1 rfl rfl rfl rfl rfl rfl rfl rfl rfl rfl rfl rfl hpc1 (by simp[Fr.push,h.stack])⟩⟩
 ·have e:xcW B (xbn x k)={ x with c:=(k:Int) }:=by
   have e1:xbn x (k:Int)={ x with c:=(k:Int) }:=by unfold xbn;rw[if_pos o]
   rw[e1];unfold xcW;rw[if_neg (by simp only;omega)]
  rw[xiF o] at PL;rw[e,xiF o,xiF (by exact o),xjd hl he hT (f:={ ff with pc:=ff.pc+1 }) (f':={ pf with pc:=pf.pc+1 }) (a':=pf.pc) (x:={ x with c:=(k:Int) }) (x':=x) h.stack rfl rfl]
  have hfr:(xbO ent' E' m { pf with pc:=pf.pc+1 } pf.pc x).2.2=0->∃ st,(xbO ent' E' m { pf with pc:=pf.pc+1 } pf.pc x).2.1={ pf with pc:=pf.pc+1,stack:=st }:=by
   unfold xbO;simp only;generalize ent' _ _ _ _ _=r;intro hz
   by_cases hr:r.2.2≠0
   ·rw[if_pos hr] at hz;exact absurd hz hr
   ·rw[if_neg hr];exact⟨_,rfl⟩
  generalize xbO ent' E' m { pf with pc:=pf.pc+1 } pf.pc x=r at PL hfr ⊢
  refine⟨rfl,rfl,fun hz=>?_⟩
  obtain⟨st,hst⟩:=hfr hz;have hP:=PL hz;rw[hst] at hP ⊢;simp only[hz]
  exact⟨k+1,h.to hP hpp1 rfl rfl rfl rfl rfl rfl rfl rfl rfl rfl rfl rfl hpc1 rfl⟩
 ·obtain⟨t,t1,t2,t3⟩:=hj (Or.inl o)
  have e:xcW B (xbn x k)={ x with a:=(bk t:Int) }:=by
   have e1:xbn x (k:Int)=x:=by unfold xbn;rw[if_neg (by omega)]
   rw[e1];unfold xcW;rw[if_pos (Or.inl o),t3]
  rw[xeG o,t1] at PL;rw[e,xeG o,xeG (by exact o),t1]
  exact xjf h hb hkl hT t2 rfl rfl rfl rfl rfl rfl rfl rfl rfl rfl rfl rfl h.stack PL
 ·obtain⟨t,t1,t2,t3⟩:=hj (Or.inr o)
  have e:xcW B (xbn x k)={ x with a:=(bk t:Int) }:=by
   have e1:xbn x (k:Int)=x:=by unfold xbn;rw[if_neg (by omega)]
   rw[e1];unfold xcW;rw[if_pos (Or.inr o),t3]
  rw[xfv o,t1] at PL;rw[e,xfv o,xfv (by exact o),t1]
  unfold xbQ at PL ⊢;rw[htop]
  by_cases k2:(Fr.top { pf with pc:=pf.pc+1 }).k=2
  ·rw[if_pos k2] at PL;rw[if_pos k2,if_pos k2]
   exact⟨rfl,rfl,fun _=>⟨k+1,h.to (PL rfl) hpp1 rfl rfl rfl rfl rfl rfl rfl rfl rfl rfl rfl rfl hpc1 (by simp[Fr.pop,h.stack])⟩⟩
  ·rw[if_neg k2] at PL;rw[if_neg k2,if_neg k2]
   by_cases k1:(Fr.top { pf with pc:=pf.pc+1 }).k=1
   ·rw[if_pos k1] at PL;rw[if_pos k1,if_pos k1]
    exact xjf h hb hkl hT t2 rfl rfl rfl rfl rfl rfl rfl rfl rfl rfl rfl rfl (by simp[Fr.pop,h.stack]) PL
   ·rw[if_neg k1,if_neg k1]
    exact⟨rfl,rfl,fun h=>by simp at h⟩
end
section
variable {σ:Type} {E E':Env σ} {d:Nat} {m:Mc σ}
theorem xm8 {cs:List QC}(hc:E'.cz=cs){q t:Int}{leaf:QM}(hm:xaz cs q t=some leaf){recv:QV}{as':List QV}(ha:leaf.args=as'.length)(hp:leaf.prim=0)(hq:E'.quick q t=none)(hT:TOk m) :
  xbh E' d m q t recv as'=if (xar E' d m).2≠0 then (m,xa4,(xar E' d m).2) else goE (xbh E' (d-1)) E' (d-1) (xar E' d m).1 ⟨q,leaf,recv,as',xaC leaf.temps,[],leaf.code,0,false⟩:=by
 have hfr:xaT E' q t leaf recv as'=⟨q,leaf,recv,as',xaC leaf.temps,[],leaf.code,0,false⟩:=by unfold xaT;rw[hq]
 cases d with
 | zero=>
  show xbs E' 0 _ m q t recv as'=_
  unfold xbs;rw[hc,hm];simp only;rw[if_neg (by omega),if_neg (by omega)]
  have hz:(xar E' 0 m).2≠0:=by unfold xar;split<;>simp
  rw[if_pos hz,if_pos hz]
 | succ d=>
  show xbs E' (d+1) _ m q t recv as'=_
  unfold xbs;rw[hc,hm];simp only;rw[if_neg (by omega),if_neg (by omega)]
  by_cases hz:(xar E' (d+1) m).2≠0
  ·rw[if_pos hz,if_pos hz]
  ·rw[if_neg hz,if_neg hz,hfr]
   exact xly (xcd E' d) E' d (xdo hT).1 (xjS (xdo hT).1)
theorem xpG {FC:List QI}{TT:Nat}{bk:Nat->Nat}{mt:QM}{ff pf:Fr}{k:Nat}(h:FP FC TT bk mt ff pf k)(hm:0<=mt.temps/\mt.temps<=40)(ht:pf.temps.length<=TT):Fr.leave { ff with pc:=ff.pc+1 } (k:Int)=pf:=by
 have hlen:=h.pl.temps
 have e:(xaC ff.meth.temps).zipIdx.map (fun p=>(ff.temps[p.2]?).getD xa4)=pf.temps:=by
  obtain⟨n,hn⟩:∃ n:Nat,mt.temps=(n:Int):=⟨mt.temps.toNat,by omega⟩
  rw[h.meth,h.pmeth,hn,xdX (by omega)]
  rw[h.pmeth,hn] at hlen
  apply List.ext_getElem?
  intro i;rw[List.getElem?_map,List.getElem?_zipIdx]
  by_cases hi:i<n
  ·have:=h.temp (i:=i) (by omega)
   rw[List.getElem?_replicate,if_pos hi];simp only[Option.map_some,Nat.zero_add,this];rw[List.getElem?_eq_getElem (by omega)]
   rfl
  ·rw[List.getElem?_replicate,if_neg hi,List.getElem?_eq_none (by omega)]
   rfl
 have hc:=h.pl.code;have hf:=h.pl.fast;obtain⟨pc,pm,ps,pa,pt,pk,pco,pp,pfa⟩:=pf;have h1:=h.cls;have h2:=h.meth;have h3:=h.self;have h4:=h.args;have h5:=h.stack;have h6:=h.ppc;simp only at *;unfold Fr.leave;simp only;rw[e,h1,h2,h3,h4,h5,hc,h6,hf]
theorem xk3 {l:List QV}{A:Nat}(h:A+1<=l.length):∃ base recv as',l=base++[recv]++as'/\as'.length=A:=by
 obtain⟨n,hn⟩:∃ n,l.length=n+1+A:=⟨l.length-1-A,by omega⟩
 refine⟨l.take n,l[n]'(by omega),l.drop (n+1),?_,by simp;omega⟩
 have e:l.take n++[l[n]'(by omega)]=l.take (n+1):=by rw[List.take_add_one,List.getElem?_eq_getElem (by omega)];simp
 rw[e]
 exact (List.take_append_drop _ _).symm
theorem xl6 {leaf:QM}(h:xdw leaf=true):leaf.prim=0/\∀ x∈leaf.code,x.op≠13/\x.op≠14:=by
 unfold xdw xcZ at h
 simp at h
 exact⟨h.1,fun x hx=>⟨(h.2 x hx).2,(h.2 x hx).1⟩⟩
theorem xq6 {cs:List QC}(hl:∀ st s k nm,E'.look st s k nm=(st,xak cs k nm)){ent':Ent σ}{pf:Fr}{a:Int}{x:QI}{base as':List QV}{recv:QV}(hs:pf.stack=base++[recv]++as')(ha:x.a=(as'.length:Int)) :
  xbO ent' E' m pf a x=if (ent' m (xak cs (xap m.heap recv) x.name).1 (xak cs (xap m.heap recv) x.name).2 recv as').2.2≠0 then ((ent' m (xak cs (xap m.heap recv) x.name).1 (xak cs (xap m.heap recv) x.name).2 recv as').1,pf,(ent' m (xak cs (xap m.heap recv) x.name).1 (xak cs (xap m.heap recv) x.name).2 recv as').2.2) else ((ent' m (xak cs (xap m.heap recv) x.name).1 (xak cs (xap m.heap recv) x.name).2 recv as').1,{ pf with stack:=base++[(ent' m (xak cs (xap m.heap recv) x.name).1 (xak cs (xap m.heap recv) x.name).2 recv as').2.1] },0):=by
 have hf:xbI pf.stack x.a=(base++[recv]).length:=by unfold xbI;rw[hs,ha];simp;omega
 have h1:pf.stack.drop (xbI pf.stack x.a)=as':=by rw[hf,hs];exact List.drop_left
 have h2:pf.stack.take (xbI pf.stack x.a)=base++[recv]:=by rw[hf,hs];exact List.take_left
 unfold xbO;simp only[hl,h1,h2,xgL,List.dropLast_concat]
variable {X:QW} {mt:QM} {sites:List Int}
theorem xsP (hX:xau X=0)(hSm:Sml mt)(hl:Like X.cz E E')(hq:E'.quick=xbV)(hent:xdU (xbh E d) (xbh E' d)) :
  ∀ (N:Nat) (m:Mc σ) (ff pf:Fr) (k:Nat),FP (xhk X.cz sites mt (xah X.cz sites mt mt.code.length).begins mt.code.length) (xah X.cz sites mt mt.code.length).temps.toNat (bgn X.cz sites mt) mt ff pf k->TOk m->muE m ff<=N->goE (xbh E d) E d m ff=goE (xbh E' d) E' d m pf:=by
  intro N;induction N using Nat.strongRecOn;rename_i N iH;intro m ff pf k h hT hN
  have ht:=xcd E d;have ht':=xcd E' d;obtain⟨k',x,hx⟩:=h.pl.nx;obtain rfl:k'=k:=by have:=hx.pc;have:=h.ppc;omega
  have hcode:pf.code=mt.code:=by rw[h.pl.code,h.pmeth]
  have hxk:mt.code[k']?=some x:=by rw[← hcode];exact hx.here
  have hkl:=xad hxk;have hfp:xbW pf=some x:=xfn h.ppc hx.here
  cases hw:xc9 X.cz sites mt k' with
  | none=>
   obtain⟨o1,o2⟩:=xpv (xah X.cz sites mt mt.code.length).begins hxk hw;have hff:xbW ff=some (xcW (xah X.cz sites mt mt.code.length).begins (xbn x k')):=xfn h.pc (by rw[h.code];exact o1)
   have hop:(xcW (xah X.cz sites mt mt.code.length).begins (xbn x k')).op=x.op:=by
    unfold xcW xbn
    split<;>split<;>rfl
   by_cases h17:x.op=17
   ·rw[xkG hff (by rw[hop];exact h17),xkG hfp h17]
    simp only[Fr.top,h.stack]
   ·obtain⟨b1,b2,b3⟩:=xny (d:=d) hl hent h hT hx h17 (B:=(xah X.cz sites mt mt.code.length).begins) o2 (fun i j hi hj=>xr8 hi hj) hkl (fun ho=>by
     obtain⟨a0,a1⟩:=hSm.jump x (List.mem_of_getElem? hxk) ho;refine⟨x.a.toNat,by omega,by omega,?_⟩
     rw[List.getD_eq_getElem?_getD,xhc (qzC _) x.a.toNat (by omega)]
     rfl)
    by_cases hz:(xaj (xbh E' d) E' d m { pf with pc:=pf.pc+1 } pf.pc x).2.2=0
    ·obtain⟨g1,g2,-⟩:=xiA ht (E:=E) (d:=d) hT.1 hff (by rw[hop];exact h17) (by rw[b2];exact hz)
     obtain⟨l1,-,-⟩:=xiA ht' (E:=E') (d:=d) hT.1 hfp h17 hz;obtain⟨k2,hF⟩:=b3 hz;have hT':=xgo (E:=E') (d:=d) (f:={ pf with pc:=pf.pc+1 }) (at':=pf.pc) (x:=x) (xgS E' d) hT hz
     rw[b1] at g1 g2;rw[g1,l1]
     exact iH (N-1) (by omega) _ _ _ k2 hF hT' (by omega)
    ·rw[xgr hff (by rw[hop];exact h17) (by rw[b2];exact hz),xgr hfp h17 hz,b1,b2]
  | some leaf=>
   obtain⟨o1,o2,o3⟩:=xjN (xah X.cz sites mt mt.code.length).begins hxk hw;have hwE:xee X.cz sites mt.code.length (xah X.cz sites mt k').code.length (xah X.cz sites mt k').temps k' x=some leaf:=by unfold xc9 at hw;rw[hxk] at hw;exact hw
   have hst:xaY X.cz sites k' x=some leaf:=by
    unfold xee at hwE
    split at hwE
    ·cases hwE
    ·rename_i l hl'
     split at hwE
     ·cases hwE;exact hl'
     ·cases hwE
   obtain⟨hs,hax,hlf,ho⟩:=xbA hX hst;obtain⟨hprim,hops⟩:=xl6 hlf;obtain⟨ks,hks⟩:∃ ks,ks=sites.getD k' (-1):=⟨_,rfl⟩
   have hmo:xes X.cz ks x.name=some leaf:=by
    rw[hks];unfold xaY at hst
    split at hst
    ·split at hst
     ·cases hst
     ·rename_i y hy
      split at hst
      ·cases hst;exact hy
      ·cases hst
    ·cases hst
   have hma:=xeS hmo;obtain⟨A,hA⟩:∃ A:Nat,leaf.args=(A:Int):=⟨leaf.args.toNat,by have:=hs.args;omega⟩
   obtain⟨T,hTn⟩:∃ T:Nat,leaf.temps=(T:Int):=⟨leaf.temps.toNat,by have:=hs.temps;omega⟩
   have hT6:T<=40:=by have:=hs.temps;omega
   have hbs:=xcv hX (sites:=sites) hSm (k:=k') (by omega)
   obtain⟨T0,hT0⟩:∃ T0:Nat,(xah X.cz sites mt k').temps=(T0:Int):=⟨(xah X.cz sites mt k').temps.toNat,by omega⟩
   have hwt:∀ (j:Nat) lf,xc9 X.cz sites mt j=some lf->0<=lf.args/\0<=lf.temps:=fun j lf hj=>by
    cases hc:mt.code[j]? with
    | none=>unfold xc9 at hj;rw[hc] at hj;cases hj
    | some y=>
     have hj':xee X.cz sites mt.code.length (xah X.cz sites mt j).code.length (xah X.cz sites mt j).temps j y=some lf:=by unfold xc9 at hj;rw[hc] at hj;exact hj
     unfold xee at hj'
     split at hj'
     ·cases hj'
     ·rename_i l hl'
      split at hj'
      ·cases hj'
       obtain⟨hs',-⟩:=xbA hX hl'
       exact⟨hs'.args.1,hs'.temps.1⟩
      ·cases hj'
   have hm1:=xeh hwt (n:=mt.code.length) (k:=k'+1) (by omega) (qzC _)
   have hm0:mt.temps<=(xah X.cz sites mt k').temps:=xeh hwt (n:=k') (k:=0) (by omega) (by omega)
   have htm:=h.pl.temps;rw[h.pmeth] at htm;have hroom:T0+1+A+T<=ff.temps.length:=by rw[h.tlen];omega
   have hneed:=hx.need;have hxa:x.a=(A:Int):=by omega
   have hsl:A+1<=pf.stack.length:=by simp only[xaO,ho] at hneed;simp at hneed;omega
   obtain⟨base,recv,as',hstk,hal⟩:=xk3 hsl;have hP:PcAt (xhk X.cz sites mt (xah X.cz sites mt mt.code.length).begins mt.code.length) leaf (ins 18 ks (A:Int) (k':Int)) T0 A T (bgn X.cz sites mt k'):=xpz hA hTn (by rw[hks,← hA,← hT0];exact o1)
   have hsend:=xq6 (E':=E') (m:=m) hl.look' (ent':=xbh E' d) (pf:={ pf with pc:=pf.pc+1 }) (a:=pf.pc) (x:=x) hstk (by rw[hxa,hal])
   have hstep:xaj (xbh E' d) E' d m { pf with pc:=pf.pc+1 } pf.pc x=xbO (xbh E' d) E' m { pf with pc:=pf.pc+1 } pf.pc x:=xiF ho
   by_cases hk:xap m.heap recv=ks
   ·
    rw[hk] at hsend;obtain⟨q,hq1⟩:∃ q,q=(xak X.cz ks x.name).1:=⟨_,rfl⟩;obtain⟨t,ht1⟩:∃ t,t=(xak X.cz ks x.name).2:=⟨_,rfl⟩;rw[← hq1,← ht1] at hsend hma;have hqn:E'.quick q t=none:=by rw[hq];rfl
    have hent':=xm8 (E':=E') (d:=d) (m:=m) hl.cls' hma (recv:=recv) (as':=as') (by rw[hA,hal]) hprim hqn hT
    have hpl0:=xlv hX hma hprim (a:=as') (by rw[hA,hal]) recv (E:=E') hqn
    have hfr:xaT E' q t leaf recv as'=⟨q,leaf,recv,as',xaC (T:Int),[],leaf.code,0,false⟩:=by unfold xaT;rw[hqn,hTn]
    rw[hfr] at hpl0;rw[hTn,← xfH hl] at hent';have hpg:=xqb (ent:=xbh E d) (ent':=xbh E' (d-1)) (E:=E) (E':=E') (d:=d) (d':=d-1) (m:=m) (ff:=ff) (q:=q) (kc:=(k':Int)) ht (xcd E' (d-1)) (xgS E' (d-1)) hP hT6 hops h.fast h.code h.pc (by rw[h.stack];exact hstk) hal hroom hpl0 hk hT
    rcases hpg with ⟨c1,c2⟩ | ⟨c1,⟨r1,r2⟩ | ⟨r1,r2,ff',r3,r4,r5⟩⟩
    ·rw[if_pos c1] at hent';rw[hent',if_pos c1] at hsend;rw[c2,xgr hfp (by omega) (by rw[hstep,hsend];exact c1),hstep,hsend]
     simp only[Prod.mk.injEq,and_true];unfold xar at c1 ⊢
     split
     ·rfl
     ·split
      ·rfl
      ·rename_i z1 z2;rw[if_neg z1,if_neg z2] at c1
       simp at c1
    ·rw[if_neg (by simpa using c1)] at hent'
     rw[hent',if_pos r1] at hsend;rw[r2,xgr hfp (by omega) (by rw[hstep,hsend];exact r1),hstep,hsend]
    ·rw[if_neg (by simpa using c1)] at hent'
     rw[hent',if_neg (by simpa using r1)] at hsend
     have hz:(xaj (xbh E' d) E' d m { pf with pc:=pf.pc+1 } pf.pc x).2.2=0:=by rw[hstep,hsend]
     have hPL:=xk6 (ent:=xbh E' d) (E:=E') (d:=d) (m:=m) h.pl hx (by omega) hz
     obtain⟨l1,-,-⟩:=xiA ht' (E:=E') (d:=d) hT.1 hfp (by omega) hz
     rw[hstep,hsend] at l1 hPL;rw[r4,l1];refine iH (N-1) (by omega) _ _ _ (k'+1) ⟨hPL,?_,h.pmeth,r3.fast,r3.code,by rw[r3.cls];exact h.cls,by rw[r3.meth];exact h.meth,by rw[r3.self];exact h.self,by rw[r3.args];exact h.args,r3.stack,?_,by rw[r3.len];exact h.tlen,?_⟩ r2 (by omega)
     ·simp only[h.ppc];omega
     ·rw[r3.pc,o2,xbK,hA,hTn];simp only[Int.toNat_natCast];omega
     ·have e:=congrArg (List.take pf.temps.length) r3.take;rw[List.take_take,List.take_take,Nat.min_eq_left (by omega)] at e
      exact e.trans h.take
   ·
    have hbelow:xaL ff.stack (A:Int)=recv:=by
     unfold xaL;rw[h.stack,show ((pf.stack.length:Int)-1-A)=((base.length:Nat):Int) by rw[hstk];simp;omega,xco,hstk,List.append_assoc]
     rw[List.getElem?_append_right (qzC _)]
     simp
    have hff:xbW ff=some (ins 18 ks (A:Int) (k':Int)):=xfn h.pc (by rw[h.code];exact hP.guard)
    have hms:xaj (xbh E d) E d m { ff with pc:=ff.pc+1 } ff.pc (ins 18 ks (A:Int) (k':Int))=(m,pf,0):=by
     rw[xhs (by simp)]
     have hb':xaL { ff with pc:=ff.pc+1 }.stack (A:Int)=recv:=hbelow
     have hlv:=xpG h (by have:=hSm.temps;omega) (by omega)
     simp only[xb7,h.fast,ins,hb',hk]
     simp
     unfold Fr.leave at hlv ⊢
     exact hlv
    obtain⟨g1,-,-⟩:=xiA ht (E:=E) (d:=d) hT.1 hff (by simp) (by rw[hms])
    rw[hms] at g1;rw[g1]
    exact xrM hl hent (xgS E' d) hT pf
end
section
variable {σ:Type} {E E':Env σ} {X:QW}
def xsr (X:QW)(E:Env σ):Prop:=∀ c n q mt,E.quick c n=some q->xaz X.cz c n=some mt->∃ sites,(xcr X c mt sites).2=true/\q=((xcr X c mt sites).1.code,(xcr X c mt sites).1.temps)
theorem xhL {c:Int}{mt:QM}{sites:List Int}(hX:xau X=0)(hSm:Sml mt)(h:(xcr X c mt sites).2=true):(xcr X c mt sites).1.code=xhk X.cz sites mt (xah X.cz sites mt mt.code.length).begins mt.code.length/\(xcr X c mt sites).1.temps=(xah X.cz sites mt mt.code.length).temps:=by
 rw[← xpC hX hSm];unfold xcr at h ⊢;simp only at h ⊢
 split
 ·rename_i hz;rw[if_pos hz] at h;cases h
 ·exact⟨rfl,rfl⟩
theorem xoM (hX:xau X=0){mt:QM}{sites:List Int}:∀ (j:Nat) lf,xc9 X.cz sites mt j=some lf->0<=lf.args/\0<=lf.temps:=fun j lf hj=>by
 cases hc:mt.code[j]? with
 | none=>unfold xc9 at hj;rw[hc] at hj;cases hj
 | some y=>
  have hj':xee X.cz sites mt.code.length (xah X.cz sites mt j).code.length (xah X.cz sites mt j).temps j y=some lf:=by unfold xc9 at hj;rw[hc] at hj;exact hj
  unfold xee at hj'
  split at hj'
  ·cases hj'
  ·rename_i l hl'
   split at hj'
   ·cases hj'
    obtain⟨hs',-⟩:=xbA hX hl'
    exact⟨hs'.args.1,hs'.temps.1⟩
   ·cases hj'
theorem xhT {cs:List QC}(hl:Like cs E E')(d:Nat){body body':Mc σ->Fr->Mc σ × QV × Int}(hb:∀ m c n mt s a,xaz cs c n=some mt->mt.args=a.length->mt.prim=0->TOk m->body m (xaT E c n mt s a)=body' m (xaT E' c n mt s a)):xdU (xbs E d body) (xbs E' d body'):=by
 intro m c n s a hT;unfold xbs;rw[hl.cls,hl.cls']
 cases hm:xaz cs c n with
 | none=>rfl
 | some mt=>
  simp only
  by_cases h1:mt.args≠a.length
  ·rw[if_pos h1,if_pos h1]
  ·rw[if_neg h1,if_neg h1]
   by_cases h2:mt.prim≠0
   ·rw[if_pos h2,if_pos h2,hl.fuel]
   ·rw[if_neg h2,if_neg h2,xfH hl]
    by_cases h3:(xar E' d m).2≠0
    ·rw[if_pos h3,if_pos h3]
    ·rw[if_neg h3,if_neg h3]
     exact hb _ c n mt s a hm (by omega) (by omega) (xdo hT)
theorem xlR (hX:xau X=0)(hl:Like X.cz E E')(hq:E'.quick=xbV)(hk:xsr X E):∀ d:Nat,xdU (xbh E d) (xbh E' d)
 | 0=>xhT hl 0 fun m c n mt s a _ _ _ _=>rfl
 | d+1=>by
  refine xhT hl (d+1) fun m c n mt s a hm ha hp hT=>?_
  have ih:=xlR hX hl hq hk d;have hqn:E'.quick c n=none:=by rw[hq];rfl
  have hfr':xaT E' c n mt s a=⟨c,mt,s,a,xaC mt.temps,[],mt.code,0,false⟩:=by unfold xaT;rw[hqn]
  have hpl:=xlv hX hm hp (a:=a) ha s (E:=E') hqn;have hSm:=xdn hX hm
  cases hqe:E.quick c n with
  | none=>
   have hfr:xaT E c n mt s a=xaT E' c n mt s a:=by rw[hfr'];unfold xaT;rw[hqe]
   show xck (xbh E d) E d _ m _=xck (xbh E' d) E' d _ m _
   rw[hfr]
   exact xiP hl ih (xgS E' d) _ m _ hT
  | some q=>
   obtain⟨sites,h1,h2⟩:=hk c n q mt hqe hm;obtain⟨p1,p2⟩:=xhL hX hSm h1;rw[p1,p2] at h2;have hfr:xaT E c n mt s a=⟨c,mt,s,a,xaC (xah X.cz sites mt mt.code.length).temps,[],xhk X.cz sites mt (xah X.cz sites mt mt.code.length).begins mt.code.length,0,true⟩:=by unfold xaT;rw[hqe,h2]
   have hbs:=xcv hX (sites:=sites) hSm (k:=mt.code.length) (qzC _);have hmono:mt.temps<=(xah X.cz sites mt mt.code.length).temps:=xeh (xoM hX) (n:=mt.code.length) (k:=0) (by omega) (qzC _)
   have hms:=hSm.temps;obtain⟨TT,hTT⟩:∃ TT:Nat,(xah X.cz sites mt mt.code.length).temps=(TT:Int):=⟨(xah X.cz sites mt mt.code.length).temps.toNat,by omega⟩
   obtain⟨nt,hnt⟩:∃ nt:Nat,mt.temps=(nt:Int):=⟨mt.temps.toNat,by omega⟩
   show xck (xbh E d) E d _ m _=xck (xbh E' d) E' d _ m _
   rw[xly (xcd E d) E d hT.1 (xjS hT.1),xly (xcd E' d) E' d hT.1 (xjS hT.1),hfr];refine xsP hX hSm hl hq ih _ m _ _ 0 ⟨hpl,by rw[hfr'];rfl,by rw[hfr'],rfl,rfl,by rw[hfr'],by rw[hfr'],by rw[hfr'],by rw[hfr'],by rw[hfr'],rfl,?_,?_⟩ hT (qzC _)
   ·simp only[hTT];rw[xdX (by omega)];simp
   ·rw[hfr'];simp only[hTT,hnt];rw[xdX (by omega),xdX (by omega)]
    simp
    omega
end
def xd5 (X:QW)(f:Fst):Prop:=∃ c k mt sites,xaz X.cz c k=some mt/\xcr X c mt sites=(f,true)
theorem xme {X:QW}{c:Int}{mt:QM}{sites:List Int}{f:Fst}(h:xcr X c mt sites=(f,true)):f.cls=c/\f.name=mt.name/\f.ez=X.ez:=by
 unfold xcr at h;simp only at h
 split at h
 ·cases h
 ·cases h
  exact⟨rfl,rfl,rfl⟩
theorem xrG {σ:Type}{X:QW}(hX:xau X=0){E:Env σ}{l:List Fst}(hl:∀ f∈l,xd5 X f)(hq:∀ c n q,E.quick c n=some q->∃ f∈l,f.cls=c/\(∀ mt,xaz X.cz c n=some mt->f.name=mt.name)/\q=(f.code,f.temps)):xsr X E:=by
 intro c n q mt he hm;obtain⟨f,hf,hc,hn,rfl⟩:=hq c n q he;obtain⟨c',k',mt',sites,hm',hfm⟩:=hl f hf;obtain⟨n1,n2,-⟩:=xme hfm;obtain rfl:c'=c:=by rw[← hc,n1]
 obtain rfl:mt'=mt:=xfT hX hm' hm (by rw[← n2];exact hn mt hm)
 exact⟨sites,by rw[hfm],by rw[hfm]⟩
theorem xjm {X:QW}{c k:Int}{sites:List Int}{f:Fst}(h:xcA X c k sites=(f,true)):xd5 X f:=by
 unfold xcA at h
 cases hm:xaz X.cz c k with
 | none=>rw[hm] at h;cases h
 | some mt=>rw[hm] at h;exact⟨c,k,mt,sites,hm,h⟩
def xdc (X:QW)(fuel:Int)(qk:Int->Int->Option (List QI × Int)):Env Unit:=⟨X.cz,fuel,fun _ _ c name=>((),xak X.cz c name),qk⟩
def runF (X:QW)(qk:Int->Int->Option (List QI × Int))(s:QV)(name:ByteArray)(args:List QV)(fuel:Int):Mc Unit × QV × Int:=
 xbh (xdc X fuel qk) 20 ⟨X.heap,0,0,()⟩ (xak X.cz (xap X.heap s) name).1 (xak X.cz (xap X.heap s) name).2 s args
theorem xnR (X:QW)(fuel:Int)(qk:Int->Int->Option (List QI × Int)):Like X.cz (xdc X fuel qk) (xbk X fuel):=⟨rfl,rfl,rfl,fun _ _ _ _=>rfl,fun _ _ _ _=>rfl⟩
theorem xjv {X:QW}(hX:xau X=0){fuel:Int}{qk:Int->Int->Option (List QI × Int)}(hk:xsr X (xdc X fuel qk))(s:QV)(name:ByteArray)(args:List QV):runF X qk s name args fuel=xmJ X s name args fuel:=
 xlR hX (xnR X fuel qk) rfl hk 20 _ _ _ _ _ ⟨by simp,by simp⟩
theorem xjs {cs:List QC}{leaf:QM}(hc:CodeOk cs leaf.code)(h13:∀ x∈leaf.code,x.op≠13)(self args temps first behind:Int):CodeOk cs (leaf.code.map (xaw self args temps first behind)):=by
 intro y hy;obtain⟨x,hx,rfl⟩:=List.mem_map.1 hy;have hxo:=hc x hx;have h:=h13 x hx;unfold xaw
 split
 ·simp
 ·split
  ·simp
  ·split
   ·rename_i o;simp;omega
   ·split
    ·simp
    ·split
     ·simp
     ·split
      ·rename_i o;simp;omega
      ·split
       ·simp
       ·exact hxo
theorem CodeOk.append {cs:List QC}{a b:List QI}(ha:CodeOk cs a)(hb:CodeOk cs b):CodeOk cs (a++b):=fun x hx=>by
 rcases List.mem_append.1 hx with h | h
 ·exact ha x h
 ·exact hb x h
theorem xnA {cs:List QC}{l:List QI}(h:∀ x∈l,x.op≠5/\x.op≠13):CodeOk cs l:=fun x hx=>⟨fun e=>absurd e (h x hx).1,fun e=>absurd e (h x hx).2⟩
theorem xjR {cs:List QC}{leaf:QM}(hc:CodeOk cs leaf.code)(h13:∀ x∈leaf.code,x.op≠13){g:QI}(hg:g.op=18)(self n:Int):CodeOk cs (xbC leaf g self n):=by
 unfold xbC xf7;refine (xnA fun y hy=>?_).append (xjs hc h13 _ _ _ _ _)
 simp only[List.mem_append,List.mem_cons,List.not_mem_nil,or_false] at hy
 rcases hy with ((((h | h) | h) | h) | h)
 ·subst h;omega
 ·subst h;simp
 ·have:=xiE _ _ y h;omega
 ·subst h;simp
 ·have:=xkS _ _ y h;omega
theorem xid {cs:List QC}{l:List QI}(h:CodeOk cs l){f:QI->QI}(hf:∀ y,¬ (y.op=15\/y.op=16)->f y=y)(ho:∀ y,(f y).op=y.op):CodeOk cs (l.map f):=fun z hz=>by
 obtain⟨y,hy,rfl⟩:=List.mem_map.1 hz
 by_cases hj:y.op=15\/y.op=16
 ·exact⟨fun e=>by rw[ho] at e;omega,fun e=>by rw[ho] at e;omega⟩
 ·rw[hf y hj];exact h y hy
theorem xpe (n:Int)(y:QI):(xeu n y).op=y.op:=by unfold xeu;split<;>rfl
theorem xrF (B:List Int)(y:QI):(xcW B y).op=y.op:=by unfold xcW;split<;>rfl
theorem xia {X:QW}(hX:xau X=0){mt:QM}(hm:CodeOk X.cz mt.code){sites:List Int}(B:List Int):∀ k:Nat,CodeOk X.cz (xhk X.cz sites mt B k)
 | 0=>fun x hx=>by simp[xhk] at hx
 | k+1=>by
  have ih:=xia hX hm (sites:=sites) B k;unfold xhk
  cases hx:mt.code[k]? with
  | none=>exact ih
  | some x=>
   simp only
   cases hw:xee X.cz sites mt.code.length (xah X.cz sites mt k).code.length (xah X.cz sites mt k).temps k x with
   | none=>
    simp only;refine ih.append fun y hy=>?_
    simp only[List.mem_cons,List.not_mem_nil,or_false] at hy;subst hy
    have h1:CodeOk X.cz [xbn x (k:Int)]:=fun z hz=>by
     simp only[List.mem_cons,List.not_mem_nil,or_false] at hz;subst hz;have:=hm x (List.mem_of_getElem? hx);unfold xbn
     split
     ·rename_i o;simp;omega
     ·exact this
    exact xid h1 (f:=xcW B) (fun y hy=>by unfold xcW;exact if_neg hy) (xrF B) _ (by simp)
   | some leaf=>
    simp only
    have hst:xaY X.cz sites k x=some leaf:=by
     unfold xee at hw
     split at hw
     ·cases hw
     ·rename_i l hl'
      split at hw
      ·cases hw;exact hl'
      ·cases hw
    obtain⟨hs,hax,hlf,ho⟩:=xbA hX hst;obtain⟨-,hops⟩:=xl6 hlf
    have hmo:xes X.cz (sites.getD k (-1)) x.name=some leaf:=by
     unfold xaY at hst
     split at hst
     ·split at hst
      ·cases hst
      ·rename_i y hy
       split at hst
       ·cases hst;exact hy
       ·cases hst
     ·cases hst
    exact ih.append (xid (xjR (xec hX (xeS hmo)) (fun x hx=>(hops x hx).1) rfl _ _) (fun y hy=>xc5 hy) (xpe _))
theorem xmu {X:QW}(hX:xau X=0){fuel:Int}{qk:Int->Int->Option (List QI × Int)}(hk:∀ c n q,qk c n=some q->∃ c' k' mt sites,xaz X.cz c' k'=some mt/\(xcr X c' mt sites).2=true/\q=((xcr X c' mt sites).1.code,(xcr X c' mt sites).1.temps)):EOk (xdc X fuel qk):=by
 refine⟨fun c n m hm=>xec hX hm,fun c n q hq=>?_,xdt hX⟩
 obtain⟨c',k',mt,sites,hm,h1,rfl⟩:=hk c n q hq;obtain⟨p1,-⟩:=xhL hX (xdn hX hm) h1
 show CodeOk X.cz (xcr X c' mt sites).1.code
 rw[p1]
 exact xia hX (xec hX hm) _ _
def xen (X:QW)(p:Fst->Bool)(l:List Fst)(c n:Int):Option (List QI × Int):=match xaz X.cz c n with
 | none=>none
 | some mt=>(l.find? fun f=>decide (f.cls=c) && eqN f.name mt.name && p f).map fun f=>(f.code,f.temps)
theorem xgE {X:QW}{p:Fst->Bool}{l:List Fst}{c n:Int}{q:List QI × Int}(h:xen X p l c n=some q):∃ f∈l,f.cls=c/\(∀ mt,xaz X.cz c n=some mt->f.name=mt.name)/\p f=true/\q=(f.code,f.temps):=by
 unfold xen at h
 cases hm:xaz X.cz c n with
 | none=>rw[hm] at h;cases h
 | some mt=>
  rw[hm] at h;simp only[Option.map_eq_some_iff] at h;obtain⟨f,hf,rfl⟩:=h;have h1:=List.mem_of_find?_eq_some hf;have h2:=List.find?_some hf;simp only[Bool.and_eq_true,decide_eq_true_eq] at h2;refine⟨f,h1,h2.1.1,fun mt' e=>?_,h2.2,rfl⟩
  cases e
  exact (xm9 _ _).1 h2.1.2
theorem xrO {X:QW}(hX:xau X=0)(p:Fst->Bool){l:List Fst}(hl:∀ f∈l,xd5 X f)(fuel:Int):xsr X (xdc X fuel (xen X p l)):=xrG hX hl fun c n q h=>by
 obtain⟨f,h1,h2,h3,-,h5⟩:=xgE h
 exact⟨f,h1,h2,h3,h5⟩
theorem xm6 {X:QW}(hX:xau X=0)(p:Fst->Bool){l:List Fst}(hl:∀ f∈l,xd5 X f)(s:QV)(name:ByteArray)(args:List QV)(fuel:Int):runF X (xen X p l) s name args fuel=xmJ X s name args fuel:=xjv hX (xrO hX p hl fuel) s name args
theorem xo3 {X:QW}(hX:xau X=0)(p:Fst->Bool){l:List Fst}(hl:∀ f∈l,p f=true->xd5 X f)(fuel:Int):EOk (xdc X fuel (xen X p l)):=xmu hX fun c n q h=>by
 obtain⟨f,h1,-,-,h4,rfl⟩:=xgE h;obtain⟨c',k',mt,sites,hm,hf⟩:=hl f h1 h4
 exact⟨c',k',mt,sites,hm,by rw[hf],by rw[hf]⟩
set_option maxRecDepth 8000
structure LkF (X:QW)(l:List Fst)(b b1 b2:Nat)(cv hv fv:Value)(T:Nat->Nat)(w:World)(st:Unit)(n:Nat):Prop where
 lk:LkP X b cv hv T w st n
 pk:LkP X b1 cv hv T w st n
 tag:T b2=0
 lt:b2<w.heap.size
 c0:w.cell? ⟨b2,0,none⟩=some fv
 fs:xeF (Fx T w) w fv l
theorem xe1 (X:QW)(l:List Fst)(b b1 b2:Nat)(cv hv fv:Value):Lok (LkF X l b b1 b2 cv hv fv):=
 ⟨fun h e k h0 _=>⟨h.lk.keep e k h0,h.pk.keep e k h0,by rw[e _ h.lt];exact h.tag,qzE h.lt k.size,k.cell h.c0 (by rw[h.tag];exact h0),h.fs.fx xiC e k h0⟩,fun h hn=>⟨(xd7 X b cv hv).mono h.lk hn,(xd7 X b1 cv hv).mono h.pk hn,h.tag,h.lt,h.c0,h.fs⟩⟩
theorem xjK {X:QW}{b:Nat}{cv hv:Value}{T:Nat->Nat}{w:World}{n:Nat}(h:LkP X b cv hv T w () n)(s:QS)(c:Int)(name:ByteArray):Calls Tryz.prog 146 #[SV s,.int .i64 c,.string name,.pointer (some ⟨b,0,none⟩)] w fun e w'=>e=.returned (.tuple #[.int .i64 (xak X.cz c name).1,.int .i64 (xak X.cz c name).2])/\Below w.heap.size w w':=by
 have hb1:=xai w (.cells #[.int .i64 s.cls,.string s.name,.int .i64 s.at'] 105);have h1:=h.keep (T':=T) (.refl _ _) (Kp.of_below (S:=fun _=>False) hb1) id
 have hf:=fun w' (hb:Below (w.alloc (.cells #[.int .i64 s.cls,.string s.name,.int .i64 s.at'] 105)).heap.size (w.alloc (.cells #[.int .i64 s.cls,.string s.name,.int .i64 s.at'] 105)) w')=>xc4 X c name cv hv w' ((h1.cls.mono (Q:=fun _=>True) xax fun _ _=>trivial).later xax hb) ((h1.heap.mono (Q:=fun _=>True) xaB fun _ _=>trivial).later xaB hb)
 obtain⟨-,-,w0,w1,w2,hc,hh⟩:=id h1;obtain⟨ac,cc,rfl,-⟩:=id hc;obtain⟨ah,ch,rfl,-⟩:=id hh;clear h h1 hc hh;obtain⟨r1,r2,hr⟩:∃ r1 r2,xak X.cz c name=(r1,r2):=⟨_,_,rfl⟩;rw[hr] at hf ⊢;clear hr;go_enter Tryz.func146,Tryz.ntmps146
 go_upto_region 1 with (fail)
 generalize (w.alloc (.cells #[.int .i64 s.cls,.string s.name,.int .i64 s.at'] 105))=W at *;go_wp2_with fail;refine (hf _ (Below.refl _ _)).mono ?_;rintro e w2' ⟨rfl,hb2⟩;have HB:=hid (xaf hb1 hb2);clear w0 w1 w2 hf hb2;go_wp2;refine bodyPost_ret (v:=.tuple #[.int .i64 r1,.int .i64 r2]) ?_ rfl ⟨rfl,HB.out⟩
 simp[results,Tryz.results146,go_sem]
theorem xkA (cv hv:Value)(ep:Int)(w:World)(h1:∃ a n c,cv=.slice a n c)(h2:∃ a n c,hv=.slice a n c):Calls Tryz.prog 112 #[WV cv hv ep] w fun e w'=>e=.returned (.func (.func 146) #[] #[.pointer (some ⟨w.heap.size,0,none⟩)])/\w'.cell? ⟨w.heap.size,0,none⟩=some cv/\w'.cell? ⟨w.heap.size,1,none⟩=some hv/\w'.cell? ⟨w.heap.size,2,none⟩=some (.int .i64 ep)/\w.heap.size<w'.heap.size/\Below w.heap.size w w':=by
 obtain⟨a,n,c,rfl⟩:=h1;obtain⟨a2,n2,c2,rfl⟩:=h2;go_enter Tryz.func112,Tryz.ntmps112;go_wp2
 go_ret
 exact⟨rfl,xab _ _ _ _ rfl 0,xab _ _ _ _ rfl 1,xab _ _ _ _ rfl 2,by simp,xai _ _⟩
theorem xmb (cv hv fv:Value)(ep:Int)(w:World)(h1:∃ a n c,cv=.slice a n c)(h2:∃ a n c,hv=.slice a n c)(h3:∃ a n c,fv=.slice a n c):Calls Tryz.prog 113 #[WV cv hv ep,fv] w fun e w'=>e=.returned (.func (.func 147) #[] #[.pointer (some ⟨w.heap.size,0,none⟩),.pointer (some ⟨w.heap.size+1,0,none⟩)])/\w'.cell? ⟨w.heap.size,0,none⟩=some cv/\w'.cell? ⟨w.heap.size,1,none⟩=some hv/\w'.cell? ⟨w.heap.size,2,none⟩=some (.int .i64 ep)/\w'.cell? ⟨w.heap.size+1,0,none⟩=some fv/\w.heap.size+2<=w'.heap.size/\Below w.heap.size w w':=by
 obtain⟨a,n,c,rfl⟩:=h1;obtain⟨a2,n2,c2,rfl⟩:=h2;obtain⟨a3,n3,c3,rfl⟩:=h3;go_enter Tryz.func113,Tryz.ntmps113;go_wp2
 go_ret
 exact⟨rfl,qzA (xai _ _) (xab _ _ _ _ rfl 0),qzA (xai _ _) (xab _ _ _ _ rfl 1),qzA (xai _ _) (xab _ _ _ _ rfl 2),xab _ _ _ _ (by simp) 0,by simp,xbp _ _ _⟩
abbrev epB (X:QW)(f:Fst):Bool:=decide (f.ez=X.ez)
theorem xon {α:Type}{p:α->Bool}:∀ {l:List α} {j:Nat} {y:α},l[j]?=some y->p y=true->(∀ i z,i<j->l[i]?=some z->p z=false)->l.find? p=some y
 | [],j,y,h,_,_=>by simp at h
 | a :: l,0,y,h,hy,_=>by simp at h;subst h;simp[hy]
 | a :: l,j+1,y,h,hy,hn=>by
  have ha:=hn 0 a (by omega) rfl
  rw[List.find?_cons_of_neg (by simp[ha])]
  exact xon (l:=l) (j:=j) (by simpa using h) hy fun i z hi hz=>hn (i+1) z (by omega) (by simpa using hz)
theorem xkD {α:Type}{p:α->Bool}{l:List α}(h:∀ i z,i<l.length->l[i]?=some z->p z=false):l.find? p=none:=by
 rw[List.find?_eq_none];intro z hz;obtain⟨i,hi,rfl⟩:=List.getElem_of_mem hz;have:=h i l[i] hi (by simp[hi])
 simp[this]
structure PkR (Z:World)(b1:Nat)(cv hv:Value)(ep:Int)(wr:World):Prop where
 bel:Below Z.heap.size Z wr
 w0:wr.cell? ⟨b1,0,none⟩=some cv
 w1:wr.cell? ⟨b1,1,none⟩=some hv
 w2:wr.cell? ⟨b1,2,none⟩=some (.int .i64 ep)
 z0:wr.heap[Z.heap.size]?=some (.cells #[.int .i64 0,.string ⟨#[]⟩,.int .i64 0,.int .i64 0,.slice none 0 0] 187 (0,0))
theorem PkR.later {Z:World}{b1:Nat}{cv hv:Value}{ep:Int}{wr w':World}(h:PkR Z b1 cv hv ep wr)(hb:Below wr.heap.size wr w'):PkR Z b1 cv hv ep w':=⟨xaf h.bel hb,qzA hb h.w0,qzA hb h.w1,qzA hb h.w2,xaa h.z0 hb⟩
theorem xk0 {X:QW}{l:List Fst}{b b1 b2:Nat}{cv hv fv:Value}{T:Nat->Nat}{w:World}{n:Nat}(h:LkF X l b b1 b2 cv hv fv T w () n)(c k:Int)(mt:QM)(hm:xaz X.cz c k=some mt) :
  Calls Tryz.prog 147 #[.int .i64 c,.int .i64 k,.pointer (some ⟨b1,0,none⟩),.pointer (some ⟨b2,0,none⟩)] w fun e w'=>(∃ fc fn fe ft av nv cv,e=.returned (.tuple #[FaV fc fn fe ft (.slice av nv cv),.bool (xen X (epB X) l c k).isSome])/\∀ q,xen X (epB X) l c k=some q->ft=q.2/\xaG (Fx T w') w' (.slice av nv cv) q.1)/\Below w.heap.size w w':=by
 obtain⟨-,hpk,-,-,f0,hfs⟩:=h;obtain⟨-,-,w0,w1,w2,hc,hh⟩:=id hpk;obtain⟨kc,kn,x,rfl,rfl,hx,hxm⟩:=xhh hm;obtain⟨aC,cc,rfl,hlc,hcc,hbyc,hrowC⟩:=id hc;obtain⟨ah,ch,rfl,-⟩:=id hh;obtain⟨aF,fc,rfl,hlf,hcf,hbyf,hrowF⟩:=id hfs;obtain⟨bC,oC,rfl,-,hxc⟩:=hrowC kc x hx;obtain⟨x0,x1,x2,-,mv,x3,hms⟩:=hxc;obtain⟨aM,cm,rfl,hlm,hcm,hbym,hrowM⟩:=id hms;obtain⟨bM,oM,rfl,-,hmc⟩:=hrowM kn mt hxm;obtain⟨m0,-⟩:=hmc;have hP:Hid (xen X (epB X) l (kc:Int) (kn:Int)=(l.find? fun f=>decide (f.cls=(kc:Int)) && eqN f.name mt.name && epB X f).map fun f=>(f.code,f.temps)):=by show _=_;unfold xen;rw[hm]
 have hlx:=xad hx;have hlxm:=xad hxm;have hZ:PkR w b1 (.slice (some ⟨bC,oC,none⟩) X.cz.length cc) (.slice ah X.heap.length ch) X.ez (w.alloc (.cells #[.int .i64 0,.string ⟨#[]⟩,.int .i64 0,.int .i64 0,.slice none 0 0] 187)):=⟨xai _ _,qzA (xai _ _) w0,qzA (xai _ _) w1,qzA (xai _ _) w2,heap_alloc_new w _⟩;have q1:=qzA (xai w (.cells #[.int .i64 0,.string ⟨#[]⟩,.int .i64 0,.int .i64 0,.slice none 0 0] 187)) x3;have q2:=qzA (xai w (.cells #[.int .i64 0,.string ⟨#[]⟩,.int .i64 0,.int .i64 0,.slice none 0 0] 187)) m0;have q3:=qzA (xai w (.cells #[.int .i64 0,.string ⟨#[]⟩,.int .i64 0,.int .i64 0,.slice none 0 0] 187)) f0
 have k1:(kc:Int)<(X.cz.length:Int):=by omega
 have k2:(kn:Int)<(x.mz.length:Int):=by omega
 have k3:(0:Int)<=(kc:Int):=by omega
 have k4:(0:Int)<=(kn:Int):=by omega
 have HF:=hid hfs;clear hm hc hh hfs hrowC hms hrowM x0 x1 x2 x3 m0 f0 w0 w1 w2 hpk;have HRF:=hid hrowF;clear hrowF;simp only[Nat.add_zero] at q2;unfold maxLen at hcc hcm hcf;go_enter Tryz.func147,Tryz.ntmps147
 go_upto_region 1 with (fail)
 have hbZ:=hid hZ;generalize (w.alloc (.cells #[.int .i64 0,.string ⟨#[]⟩,.int .i64 0,.int .i64 0,.slice none 0 0] 187))=W at *;obtain⟨-,w0,w1,w2,-⟩:=id hZ;clear hZ
 go_upto_region 2 with (fail)
 have hlW:(l.length:Int)<=9223372036854775807:=by omega
 go_upto_region 3 with (fail)
 clear w0 w1 w2 q1 q2 q3 k1 k2 k3 k4
 go_loopg [23] l.length (fun gk c wr=>∃ j:Nat,j+gk=l.length/\c=.int .i64 j/\PkR w b1 (.slice (some ⟨bC,oC,none⟩) X.cz.length cc) (.slice ah X.heap.length ch) X.ez wr/\∀ i y,i<j->l[i]?=some y->(decide (y.cls=(kc:Int)) && eqN y.name mt.name && epB X y)=false)
 case atStart=>exact⟨0,by omega,rfl,hbZ.out,fun i y hi=>by omega⟩
 case round=>
  clear hbZ;obtain⟨j,hj,rfl,hRr,hok⟩:=hrel;have HO:=hid hok;clear hok;obtain⟨-,w0,w1,w2,z0⟩:=id hRr
  by_cases hlt:j<l.length
  ·have hx':l[j]?=some l[j]:=by simp[hlt]
   have HX:=hid hx';generalize l[j]=y at *;obtain⟨b',o',rfl,-,y0,y1,y2,y3,yv,y4,hyc⟩:=HRF.out j y hx';obtain⟨ay,cy,rfl,-⟩:=id hyc;simp only[Nat.add_zero] at y0;have u0:=qzA hRr.bel y0;have u1:=qzA hRr.bel y1;have u2:=qzA hRr.bel y2;have u3:=qzA hRr.bel y3;have u4:=qzA hRr.bel y4;have HYC:=hid hyc;clear y0 y1 y2 y3 y4 hx' hyc;have hj1:(j:Int)<(l.length:Int):=by omega
   have hj0:(0:Int)<=(j:Int):=by omega
   have hb5:=xai wr (.cells #[.int .i64 y.cls,.string y.name,.int .i64 y.ez,.int .i64 y.temps,.slice ay y.code.length cy] 187);have hRa:=hRr.later hb5;have hbox:(wr.alloc (.cells #[.int .i64 y.cls,.string y.name,.int .i64 y.ez,.int .i64 y.temps,.slice ay y.code.length cy] 187)).heap[wr.heap.size]?=some (.cells #[.int .i64 y.cls,.string y.name,.int .i64 y.ez,.int .i64 y.temps,.slice ay y.code.length cy] 187 (0,0)):=heap_alloc_new wr _
   go_upto_region 5 with (fail)
   generalize (wr.alloc (.cells #[.int .i64 y.cls,.string y.name,.int .i64 y.ez,.int .i64 y.temps,.slice ay y.code.length cy] 187))=V at *;generalize wr.heap.size=bx at *
   obtain⟨v0,v1,v2,v3,v4⟩:V.cell? ⟨bx,0,none⟩=some (.int .i64 y.cls)/\V.cell? ⟨bx,1,none⟩=some (.string y.name)/\V.cell? ⟨bx,2,none⟩=some (.int .i64 y.ez)/\V.cell? ⟨bx,3,none⟩=some (.int .i64 y.temps)/\V.cell? ⟨bx,4,none⟩=some (.slice ay y.code.length cy):=by
    refine⟨?_,?_,?_,?_,?_⟩<;>(rw[qzB hbox];rfl)
   obtain⟨hbr,w0',w1',w2',z0'⟩:=id hRa;have zf:=xaq z0'
   obtain⟨z1,z2,z3,z4,z5⟩:V.cell? ⟨w.heap.size,0,none⟩=some (.int .i64 0)/\V.cell? ⟨w.heap.size,1,none⟩=some (.string ⟨#[]⟩)/\V.cell? ⟨w.heap.size,2,none⟩=some (.int .i64 0)/\V.cell? ⟨w.heap.size,3,none⟩=some (.int .i64 0)/\V.cell? ⟨w.heap.size,4,none⟩=some (.slice none 0 0):=by
    refine⟨?_,?_,?_,?_,?_⟩<;>(rw[qzB z0'];rfl)
   clear u0 u1 u2 u3 u4 w0 w1 w2 z0 hbox hb5 hRr
   by_cases hyes:(decide (y.cls=(kc:Int)) && eqN y.name mt.name && epB X y)=true
   ·have HFD:Hid (xen X (epB X) l (kc:Int) (kn:Int)=some (y.code,y.temps)):=by
     show _=_
     rw[hP.out,xon HX.out hyes HO.out]
     rfl
    simp only[Bool.and_eq_true,decide_eq_true_eq,eqN,epB] at hyes;obtain⟨⟨e1,e2⟩,e3⟩:=hyes;have e1':(y.cls == (kc:Int))=true:=by simpa using e1
    have e3':(y.ez == X.ez)=true:=by simpa using e3
    have HV:Hid (∀ U:World,Below w.heap.size w U->xaG (Fx T U) U (.slice ay y.code.length cy) y.code):=fun U hU=>(HYC.out.later xaU hU).mono xaU fun b hb=>⟨qzE hb.1 hU.size,hb.2⟩
    clear e1 e3;go_wp2;refine bodyPost_ret (v:=.tuple #[FaV y.cls y.name y.ez y.temps (.slice ay y.code.length cy),.bool true]) ?_ rfl ⟨⟨_,_,_,_,_,_,_,by rw[HFD.out];rfl,fun q hq=>by rw[HFD.out] at hq;cases hq;exact⟨rfl,HV.out _ (((((hbr.setCell (by simp) _).setCell (by simp) _).setCell (by simp) _).setCell (by simp) _).setCell (by simp) _)⟩⟩,((((hbr.setCell (by simp) _).setCell (by simp) _).setCell (by simp) _).setCell (by simp) _).setCell (by simp) _⟩
    simp[results,Tryz.results147,go_sem,z1,z2,z3,z4,z5]
   ·have hno:(decide (y.cls=(kc:Int)) && eqN y.name mt.name && epB X y)=false:=by simpa using hyes
    have HN:=hid hno
    have hth:(y.cls == (kc:Int))=false\/((y.cls == (kc:Int))=true/\(y.name.toList == mt.name.toList)=false)\/((y.cls == (kc:Int))=true/\(y.name.toList == mt.name.toList)=true/\(y.ez == X.ez)=false):=by
     unfold eqN epB at hno
     cases h1:(y.cls == (kc:Int))
     ·exact .inl rfl
     ·cases h2:(y.name.toList == mt.name.toList)
      ·exact .inr (.inl ⟨rfl,rfl⟩)
      ·refine .inr (.inr ⟨rfl,rfl,?_⟩);have h1':y.cls=(kc:Int):=by simpa using h1
       rw[h2] at hno
       simpa [h1'] using hno
    clear hno hyes;have HRA:=hid hRa;clear hbr z0' zf z1 z2 z3 z4 z5
    rcases hth with e1 | ⟨e1,e2⟩ | ⟨e1,e2,e3⟩
    all_goals (
     go_wp2
     go_roundg (gk-1)
     case measure=>omega
     case rel=>
      refine⟨j+1,by omega,by go_num,HRA.out,fun i y' hi hy=>?_⟩
      by_cases hij:i=j
      ·subst hij;rw[HX.out] at hy;cases hy;exact HN.out
      ·exact HO.out i y' (by omega) hy)
  ·obtain rfl:j=l.length:=by omega
   have HFD:Hid (xen X (epB X) l (kc:Int) (kn:Int)=none):=by
    show _=_
    rw[hP.out,xkD HO.out]
    rfl
   have zf:=xaq z0
   obtain⟨z1,z2,z3,z4,z5⟩:wr.cell? ⟨w.heap.size,0,none⟩=some (.int .i64 0)/\wr.cell? ⟨w.heap.size,1,none⟩=some (.string ⟨#[]⟩)/\wr.cell? ⟨w.heap.size,2,none⟩=some (.int .i64 0)/\wr.cell? ⟨w.heap.size,3,none⟩=some (.int .i64 0)/\wr.cell? ⟨w.heap.size,4,none⟩=some (.slice none 0 0):=by
    refine⟨?_,?_,?_,?_,?_⟩<;>(rw[qzB z0];rfl)
   have hbr:=hRr.bel;clear w0 w1 w2 hRr z0;go_wp2;refine bodyPost_ret (v:=.tuple #[FaV 0 ⟨#[]⟩ 0 0 (.slice none 0 0),.bool false]) ?_ rfl ⟨⟨_,_,_,_,_,_,_,by rw[HFD.out];rfl,fun q hq=>by rw[HFD.out] at hq;cases hq⟩,((((hbr.setCell (by simp) _).setCell (by simp) _).setCell (by simp) _).setCell (by simp) _).setCell (by simp) _⟩
   simp[results,Tryz.results147,go_sem,z1,z2,z3,z4,z5]
structure FewF (l:List Fst):Prop where
 few:∀ f∈l,f.code.length<=500/\∀ x∈f.code,x.op=18->0<=x.b/\x.b<=1000
theorem xrL {X:QW}(hX:xau X=0){fuel:Int}(hf:fuel<=400){l:List Fst}(hl:∀ f∈l,xd5 X f)(hfw:FewF l)(b b1 b2:Nat)(cv hv fv cv':Value):Cx (⟨xdc X fuel (xen X (epB X) l),cv',X.ez,.func (.func 146) #[] #[.pointer (some ⟨b,0,none⟩)],.func (.func 147) #[] #[.pointer (some ⟨b1,0,none⟩),.pointer (some ⟨b2,0,none⟩)]⟩:Mp Unit) (LkF X l b b1 b2 cv hv fv) 146 #[.pointer (some ⟨b,0,none⟩)] 147 #[.pointer (some ⟨b1,0,none⟩),.pointer (some ⟨b2,0,none⟩)] where
 lv:=rfl
 qv:=rfl
 lcf:=xfu Tryz.func146 (by kernel_rfl) (by kernel_rfl)
 qcf:=xfu Tryz.func147 (by kernel_rfl) (by kernel_rfl)
 ok:=xo3 hX (epB X) (fun f h _=>hl f h) fuel
 fuel:=by show fuel<=_;omega
 keep h e k h0 h3:=(xe1 X l b b1 b2 cv hv fv).keep h e k h0 h3
 mono h hn:=(xe1 X l b b1 b2 cv hv fv).mono h hn
 look T w st s c name n h:=(xjK h.lk s c name).mono fun e w' hp=>⟨hp.1,⟨T,.refl _ _,(xe1 X l b b1 b2 cv hv fv).mono ((xe1 X l b b1 b2 cv hv fv).keep (T':=T) h (.refl _ _) (Kp.of_below (S:=fun _=>False) hp.2) id id) (Nat.le_succ n)⟩,Kp.of_below hp.2⟩
 quick T w st c k mt n h hm:=xk0 h c k mt hm
 few c k mt hm:=⟨by have:=xgI hX hm;omega,fun q h=>by
  obtain⟨f,h1,-,-,-,rfl⟩:=xgE (show xen X (epB X) l c k=some q from h)
  exact hfw.few f h1⟩
theorem xmH {X:QW}(hX:xau X=0){l:List Fst}(hl:∀ f∈l,xd5 X f)(s:QV)(name:ByteArray)(args:List QV)(fuel:Int):(xcb (xdc X fuel (xen X (epB X) l)) X () s name args fuel).1=xa2 X s name args fuel:=by
 rw[← xef];unfold xcb
 split
 ·rfl
 ·have:xcL (xdc X fuel (xen X (epB X) l)) X () s name args=xcL (xbk X fuel) X () s name args:=xm6 hX (epB X) hl s name args fuel;rw[this]
theorem xqQ {P Q R:Nat->Prop}(X:QW)(hX:xau X=0)(s:QV)(name:ByteArray)(args:List QV)(fuel:Int){l:List Fst}(hl:∀ f∈l,xd5 X f)(hfw:FewF l)(cv hv av fv:Value)(w:World)(hC:xag P w cv X.cz)(hH:xav P w hv X.heap)(hA:xaV Q w av args)(hF:xeF R w fv l)(hn:name.size<=140737488351232)(b b1 b2:Nat)(h1:b<w.heap.size)(f0:w.cell? ⟨b,0,none⟩=some cv)(f1:w.cell? ⟨b,1,none⟩=some hv)(f2:w.cell? ⟨b,2,none⟩=some (.int .i64 X.ez))(h2:b1<w.heap.size)(g0:w.cell? ⟨b1,0,none⟩=some cv)(g1:w.cell? ⟨b1,1,none⟩=some hv)(g2:w.cell? ⟨b1,2,none⟩=some (.int .i64 X.ez))(h3:b2<w.heap.size)(e0:w.cell? ⟨b2,0,none⟩=some fv) :
  Calls Tryz.prog 108 #[WV cv hv X.ez,ClV s name av,.int .i64 fuel,.func (.func 146) #[] #[.pointer (some ⟨b,0,none⟩)],.func (.func 147) #[] #[.pointer (some ⟨b1,0,none⟩),.pointer (some ⟨b2,0,none⟩)]] w fun e w'=>PlPost w X (xa2 X s name args fuel) e w':=by
 have k3:xag (Fx (fun _=>0) w) w cv X.cz:=(xdx hC).keep xax (Keeps.refl _ _) fun b hb=>⟨hb,rfl⟩
 have k4:xav (Fx (fun _=>0) w) w hv X.heap:=(xfO hH).keep xaB (Keeps.refl _ _) fun b hb=>⟨hb,rfl⟩
 have k5:xeF (Fx (fun _=>0) w) w fv l:=by
  obtain⟨ad,cap,q1,q2,q3,q4,q5⟩:=hF;refine⟨ad,cap,q1,q2,q3,q4,fun i x hx=>?_⟩
  obtain⟨bb,o,r1,-,r3,r4,r5,r6,v,r7,r8⟩:=q5 i x hx
  exact⟨bb,o,r1,⟨World.block_lt_of_cell? _ _ r3,rfl⟩,r3,r4,r5,r6,v,r7,(xh6 r8).keep xaU (Keeps.refl _ _) fun b hb=>⟨hb,rfl⟩⟩
 rw[← xmH hX hl s name args fuel]
 exact (xiL (T0:=fun _=>0) X hX (xdc X fuel (xen X (epB X) l)) () rfl s name args cv hv av w (fun _ _=>.inl rfl) k3 k4 ((xek hA).keep xa7 (Keeps.refl _ _) fun b hb=>⟨hb,rfl⟩) hn (xe1 X l b b1 b2 cv hv fv) ⟨⟨rfl,h1,f0,f1,f2,k3,k4⟩,⟨rfl,h2,g0,g1,g2,k3,k4⟩,rfl,h3,e0,k5⟩ (fun _ h4 cv'=>xrL hX h4 hl hfw b b1 b2 cv hv fv cv')).mono fun e w' h=>h.plain
theorem xpK {P Q R:Nat->Prop}(X:QW)(hX:xau X=0)(s:QV)(name:ByteArray)(args:List QV)(fuel:Int){l:List Fst}(hl:∀ f∈l,xd5 X f)(hfw:FewF l)(cv hv av fv:Value)(w:World)(hC:xag P w cv X.cz)(hH:xav P w hv X.heap)(hA:xaV Q w av args)(hF:xeF R w fv l)(hn:name.size<=140737488351232) :
  Calls Tryz.prog 87 #[WV cv hv X.ez,ClV s name av,.int .i64 fuel,fv] w fun e w'=>PlPost w X (xa2 X s name args fuel) e w':=by
 have hR:=(xkJ w cv hv X.ez s name av).later (Below.refl _ _).drew;have hbW:Below w.heap.size w ((((w.alloc (.cells #[cv,hv,.int .i64 X.ez] 26)).alloc (.cells #[.int .i64 s.k,.int .i64 s.n,.string name,av] 54)).alloc (.cells #[.slice none 0 0,.slice none 0 0,.int .i64 0] 26)).alloc (.cells #[.int .i64 0,.int .i64 0,.int .i64 0,.int .i64 0] 98)).drew:=(xaf (xbp _ _ _) (xbp _ _ _)).drew;obtain⟨ac,cc,rfl,-,-,hby,-⟩:=id hC;obtain⟨ah,ch,rfl,-,-,hbyh,-⟩:=id hH;obtain⟨aa,ca,rfl,-⟩:=id hA;obtain⟨af',cf',rfl,-⟩:=id hF;go_enter Tryz.func87,Tryz.ntmps87
 go_upto_region 1 with (fail)
 generalize ((((w.alloc (.cells #[.slice ac X.cz.length cc,.slice ah X.heap.length ch,.int .i64 X.ez] 26)).alloc (.cells #[.int .i64 s.k,.int .i64 s.n,.string name,.slice aa args.length ca] 54)).alloc (.cells #[.slice none 0 0,.slice none 0 0,.int .i64 0] 26)).alloc (.cells #[.int .i64 0,.int .i64 0,.int .i64 0,.int .i64 0] 98))=W at *;have hS0:=hR.pn;have hfd:=fun w'=>xkA (.slice ac X.cz.length cc) (.slice ah X.heap.length ch) X.ez w' ⟨_,_,_,rfl⟩ ⟨_,_,_,rfl⟩
 have hpk:=fun w'=>xmb (.slice ac X.cz.length cc) (.slice ah X.heap.length ch) (.slice af' l.length cf') X.ez w' ⟨_,_,_,rfl⟩ ⟨_,_,_,rfl⟩ ⟨_,_,_,rfl⟩
 have hwi:=fun (w':World) (hb:Below w.heap.size w w') (b b1 b2:Nat) h1 h2 h3 h4 h5 h6 h7 h8 h9 h10=>xqQ X hX s name args fuel hl hfw _ _ _ _ w' (hC.later xax hb) (hH.later xaB hb) (hA.later xa7 hb) (hF.later xiC hb) hn b b1 b2 h1 h2 h3 h4 h5 h6 h7 h8 h9 h10
 obtain⟨r,hr⟩:∃ r,xa2 X s name args fuel=r:=⟨_,rfl⟩;rw[hr] at hwi;have HRR:=hid hr;clear hC hH hA hF hr;simp only[Nat.add_assoc,Nat.reduceAdd] at *;have tokA:True:=trivial;have tokB:True:=trivial
 go_region_held3 (fun w'=>w'.cell? ⟨w.heap.size,0,none⟩=some (.slice ac X.cz.length cc)/\w'.cell? ⟨w.heap.size,1,none⟩=some (.slice ah X.heap.length ch)/\w'.cell? ⟨w.heap.size,2,none⟩=some (.int .i64 X.ez)/\w'.cell? ⟨w.heap.size+1,0,none⟩=some (.int .i64 s.k)/\w'.cell? ⟨w.heap.size+1,1,none⟩=some (.int .i64 s.n)/\w'.cell? ⟨w.heap.size+1,2,none⟩=some (.string name)/\w'.cell? ⟨w.heap.size+1,3,none⟩=some (.slice aa args.length ca))
  (first | with_reducible exact hS0.al | with_reducible exact hS1.al | with_reducible exact hS2.al | with_reducible exact hS3.al | with_reducible exact (((hS3.set (Or.inl rfl) _ _).set (Or.inl rfl) _ _).set (Or.inl rfl) _ _).al | with_reducible exact (((((((hS3.set (Or.inl rfl) _ _).set (Or.inl rfl) _ _).set (Or.inl rfl) _ _).set (Or.inr rfl) _ _).set (Or.inr rfl) _ _).set (Or.inr rfl) _ _).set (Or.inr rfl) _ _).al | with_reducible exact ((((hS3.set (Or.inr rfl) _ _).set (Or.inr rfl) _ _).set (Or.inr rfl) _ _).set (Or.inr rfl) _ _).al)
  (first
   | (have _t:=tokA;have _u:=tokB;go_at_call 112;refine (hfd _).mono ?_;rintro e w2 ⟨rfl,f0,f1,f2,fz,hb2⟩;have hR2:=hR.later hb2;have hS1:=hR2.pn;have hbw2:=xaf hbW hb2;clear tokA)
   | (have _u:=tokB;go_at_call 113;refine (hpk _).mono ?_;rintro e w3 ⟨rfl,g0,g1,g2,g3,gz,hb3⟩;have hR3:=hR2.later hb3;have hS2:=hR3.pn;have hbw3:=xaf hbw2 hb3;replace f0:=qzA hb3 f0;replace f1:=qzA hb3 f1;replace f2:=qzA hb3 f2;have fz3:=qzE fz hb3.size;clear tokB)
   | (go_at_call 108;refine (hwi _ hbw3 _ _ _ fz3 f0 f1 f2 (by omega) g0 g1 g2 (by omega) g3).mono ?_;rintro e w4 ⟨hb4,cv4,hv4,rfl,hC4,hH4⟩;have hR4:=hR3.later hb4;have hS3:=hR4.pn;have HQ:=hid (fun u0 u1 u2 v0 v1 v2 v3=>PlPost.fin (r:=r) (X:=X) (P:=fun b=>w3.heap.size<=b) (xaf hbw3 hb4) hC4 hH4 (by have:=hR3.sz;omega) (by have:=hR3.sz;omega) (fun x hx=>by have:=hR3.sz;omega) u0 u1 u2 v0 v1 v2 v3);obtain⟨a3,k3,rfl,-⟩:=id hC4;obtain⟨a4,k4,rfl,-⟩:=id hH4;obtain⟨-,-,-,-,-,-,-,a0,a1,a2,af,b0,b1,b2,b3,bf,-⟩:=id hR4;clear hC4 hH4))
 all_goals (
  go_wp2;rw[HRR.out];refine bodyPost_ret (v:=.tuple #[WV (.slice a3 X.cz.length k3) (.slice a4 r.heap.length k4) X.ez,RnV r]) ?_ rfl (HQ.out _ _ _ _ _ _ _)
  simp[results,Tryz.results87,go_sem,a0,a1,a2,b0,b1,b2,b3])
end Go.Proofs.YtbafokihegegiaaGreatDoor
