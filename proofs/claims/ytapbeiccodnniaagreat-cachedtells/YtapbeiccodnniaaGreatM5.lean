/- A part. -/
import Derived.Test.YtapbeiccodnniaaGreatM4
namespace Go.Proofs.YtapbeiccodnniaaGreat
open Go.ChangeShapes Go.WideShapes Go.ChangeAt Go.RowKit
set_option linter.unusedSimpArgs false
set_option linter.unusedVariables false
set_option maxHeartbeats 8000000
set_option maxRecDepth 8000
section
variable {σ τ:Type}
structure MR (Rel:σ->τ->Prop)(m:Mc σ)(m':Mc τ):Prop where
 heap:m'.heap=m.heap
 sz_:m'.sz_=m.sz_
 turns:m'.turns=m.turns
 st:Rel m.st m'.st
def RR {α:Type}(Rel:σ->τ->Prop)(r:Mc σ × α × Int)(r':Mc τ × α × Int):Prop:=MR Rel r.1 r'.1/\r'.2=r.2
structure ER (Rel:σ->τ->Prop)(SOk:QS->ByteArray->Prop)(E:Env σ)(E':Env τ):Prop where
 cz:E'.cz=E.cz
 fuel:E'.fuel=E.fuel
 quick:E'.quick=E.quick
 look:∀ s t x c name,Rel s t->SOk x name->(E'.look t x c name).2=(E.look s x c name).2/\Rel (E.look s x c name).1 (E'.look t x c name).1
 plain:∀ c n m,xaO E.cz c n=some m->∀ (k:Nat) x,m.code[k]?=some x->x.op=14->SOk ⟨c,m.name,k⟩ x.name
 fast:∀ c n m q,xaO E.cz c n=some m->E.quick c n=some q->∀ x∈q.1,x.op=14->SOk ⟨c,m.name,x.c⟩ x.name
structure FR (SOk:QS->ByteArray->Prop)(f:Fr):Prop where
 code:f.fast=false->f.code=f.meth.code
 plain:∀ (k:Nat) x,f.meth.code[k]?=some x->x.op=14->SOk ⟨f.cls,f.meth.name,k⟩ x.name
 fast:f.fast=true->∀ x∈f.code,x.op=14->SOk ⟨f.cls,f.meth.name,x.c⟩ x.name
theorem FR.same {SOk:QS->ByteArray->Prop}{f f':Fr}(h:FR SOk f)(e1:f'.fast=f.fast)(e2:f'.code=f.code)(e3:f'.meth=f.meth)(e4:f'.cls=f.cls):FR SOk f':=by
 refine⟨?_,?_,?_⟩
 ·rw[e1,e2,e3];exact h.code
 ·rw[e3,e4];exact h.plain
 ·rw[e1,e2,e3,e4];exact h.fast
theorem FR.leave {SOk:QS->ByteArray->Prop}{f:Fr}(h:FR SOk f)(c:Int):FR SOk (f.leave c):=⟨fun _=>rfl,h.plain,fun h=>by cases h⟩
def xo0 (Rel:σ->τ->Prop)(ent:Ent σ)(ent':Ent τ):Prop:=∀ m m' c n s a,MR Rel m m'->RR Rel (ent m c n s a) (ent' m' c n s a)
theorem xiQ {Rel:σ->τ->Prop}{m:Mc σ}{m':Mc τ}(h:MR Rel m m')(f:Fr)(a b:Int):RR Rel (xaX m f a b) (xaX m' f a b):=by
 unfold xaX
 by_cases hb:b<=a
 ·simp only[hb,if_true,h.turns]
  split
  ·exact⟨⟨h.heap,h.sz_,rfl,h.st⟩,rfl⟩
  ·exact⟨⟨h.heap,h.sz_,rfl,h.st⟩,rfl⟩
 ·simp only[hb,if_false,h.turns]
  split
  ·exact⟨h,rfl⟩
  ·exact⟨h,rfl⟩
theorem xhp {Rel:σ->τ->Prop}{SOk:QS->ByteArray->Prop}{E:Env σ}{E':Env τ}(hE:ER Rel SOk E E')(d:Nat){m:Mc σ}{m':Mc τ}(h:MR Rel m m'):MR Rel (xay E d m).1 (xay E' d m').1/\(xay E' d m').2=(xay E d m).2:=by
 unfold xay;rw[hE.fuel,h.sz_]
 split
 ·exact⟨h,rfl⟩
 ·split
  ·exact⟨h,rfl⟩
  ·exact⟨⟨h.heap,rfl,h.turns,h.st⟩,rfl⟩
theorem xl0 {Rel:σ->τ->Prop}{SOk:QS->ByteArray->Prop}{E:Env σ}{E':Env τ}(hE:ER Rel SOk E E'){ent:Ent σ}{ent':Ent τ}(he:xo0 Rel ent ent')(d:Nat){m:Mc σ}{m':Mc τ}(h:MR Rel m m'){f:Fr}{at':Int}{x:QI}(hs:x.op=14->SOk (f.site at' x) x.name):RR Rel (xan ent E d m f at' x) (xan ent' E' d m' f at' x):=by
 unfold xan;rw[h.heap]
 split
 ·exact⟨h,rfl⟩
 ·split
  ·exact⟨h,rfl⟩
  ·split
   ·exact⟨h,rfl⟩
   ·split
    ·exact⟨h,rfl⟩
    ·split
     ·exact⟨⟨rfl,h.sz_,h.turns,h.st⟩,rfl⟩
     ·split
      ·unfold xbQ;rw[h.heap,hE.cz]
       split
       ·exact⟨h,rfl⟩
       ·exact⟨⟨rfl,h.sz_,h.turns,h.st⟩,rfl⟩
      ·split
       ·rename_i h14;unfold xcm;simp only[];rw[h.heap];obtain⟨l1,l2⟩:=hE.look m.st m'.st (f.site at' x) (xar m.heap (xaW (f.stack.take (xbu f.stack x.a)) 0)) x.name h.st (hs h14);generalize E.look m.st (f.site at' x) (xar m.heap (xaW (f.stack.take (xbu f.stack x.a)) 0)) x.name=l at l1 l2 ⊢;generalize E'.look m'.st (f.site at' x) (xar m.heap (xaW (f.stack.take (xbu f.stack x.a)) 0)) x.name=l' at l1 l2 ⊢;obtain⟨q1,q2⟩:=l;obtain⟨q1',q2'⟩:=l';simp only[] at l1 l2;subst l1;have hr:=he { m with st:=q1 } { m' with st:=q1' } q2'.1 q2'.2 (xaW (f.stack.take (xbu f.stack x.a)) 0) (f.stack.drop (xbu f.stack x.a)) ⟨h.heap,h.sz_,h.turns,l2⟩
        simp only[h.heap] at hr;generalize ent { m with st:=q1 } q2'.1 q2'.2 (xaW (f.stack.take (xbu f.stack x.a)) 0) (f.stack.drop (xbu f.stack x.a))=r at hr ⊢
        generalize ent' { heap:=m.heap,sz_:=m'.sz_,turns:=m'.turns,st:=q1' } q2'.1 q2'.2 (xaW (f.stack.take (xbu f.stack x.a)) 0) (f.stack.drop (xbu f.stack x.a))=r' at hr ⊢;obtain⟨r1,r2⟩:=hr;rw[r2]
        split
        ·exact⟨r1,rfl⟩
        ·exact⟨r1,rfl⟩
       ·split
        ·exact xiQ h f at' x.a
        ·split
         ·unfold xbr
          split
          ·exact⟨h,rfl⟩
          ·split
           ·exact xiQ h f.pop at' x.a
           ·exact⟨h,rfl⟩
         ·unfold xcl;rw[h.heap]
          split
          ·exact⟨h,rfl⟩
          ·split
           ·exact⟨h,rfl⟩
           ·split
            ·exact⟨h,rfl⟩
            ·split
             ·exact⟨⟨rfl,h.sz_,h.turns,h.st⟩,rfl⟩
             ·split
              ·obtain⟨c1,c2⟩:=xhp hE d h;refine⟨c1,?_⟩;simp only[];rw[c2]
              ·exact⟨h,rfl⟩
theorem xlp {SOk:QS->ByteArray->Prop}(m:Mc σ){f:Fr}(h:FR SOk f)(a b:Int):FR SOk (xaX m f a b).2.1:=by
 unfold xaX;simp only[];generalize (if b<=a then { m with turns:=m.turns+1 } else m:Mc σ)=m'
 split
 ·exact h
 ·exact h.same rfl rfl rfl rfl
theorem xnZ {SOk:QS->ByteArray->Prop}(ent:Ent σ)(E:Env σ)(d:Nat)(m:Mc σ){f:Fr}(h:FR SOk f)(a:Int)(x:QI):FR SOk (xan ent E d m f a x).2.1:=by
 unfold xan
 split
 ·exact h.same rfl rfl rfl rfl
 ·split
  ·exact h.same rfl rfl rfl rfl
  ·split
   ·exact h.same rfl rfl rfl rfl
   ·split
    ·exact h.same rfl rfl rfl rfl
    ·split
     ·exact h.same rfl rfl rfl rfl
     ·split
      ·unfold xbQ
       split
       ·exact h
       ·exact h.same rfl rfl rfl rfl
      ·split
       ·unfold xcm;simp only[]
        split
        ·exact h
        ·exact h.same rfl rfl rfl rfl
       ·split
        ·exact xlp m h a x.a
        ·split
         ·unfold xbr
          split
          ·exact h.same rfl rfl rfl rfl
          ·split
           ·exact xlp m (f:=f.pop) (h.same rfl rfl rfl rfl) a x.a
           ·exact h
         ·unfold xcl
          split
          ·exact h
          ·split
           ·simp only[]
            split
            ·exact h
            ·exact h.leave x.c
           ·split
            ·exact h.same rfl rfl rfl rfl
            ·split
             ·exact h.same rfl rfl rfl rfl
             ·split
              ·exact h
              ·exact h
theorem FR.site {SOk:QS->ByteArray->Prop}{f:Fr}(h:FR SOk f){x:QI}(h0:¬ f.pc<0)(hx:f.code[f.pc.toNat]?=some x)(h14:x.op=14)(t:Int):SOk (Fr.site { f with pc:=t } f.pc x) x.name:=by
 unfold Fr.site
 cases hf:f.fast with
 | false=>
  simp only[Bool.false_eq_true,if_false];rw[h.code hf] at hx;have:=h.plain _ x hx h14
  rwa [show ((f.pc.toNat:Nat):Int)=f.pc by omega] at this
 | true=>
  simp only[if_true]
  exact h.fast hf x (List.mem_of_getElem? hx) h14
theorem xk9 {Rel:σ->τ->Prop}{SOk:QS->ByteArray->Prop}{E:Env σ}{E':Env τ}(hE:ER Rel SOk E E'){ent:Ent σ}{ent':Ent τ}(he:xo0 Rel ent ent')(d:Nat):∀ (g:Nat) {m:Mc σ} {m':Mc τ} {f:Fr},MR Rel m m'->FR SOk f->RR Rel (xcL ent E d g m f) (xcL ent' E' d g m' f)
 | 0,m,m',f,h,hf=>⟨h,rfl⟩
 | g+1,m,m',f,h,hf=>by
  unfold xcL
  cases hq:(if f.pc<0 then none else f.code[f.pc.toNat]?) with
  | none=>exact⟨h,rfl⟩
  | some x=>
   simp only[]
   split
   ·exact⟨h,rfl⟩
   ·have hs:x.op=14->SOk (Fr.site { f with pc:=f.pc+1 } f.pc x) x.name:=fun h14=>by
     split at hq
     ·cases hq
     ·rename_i h0;exact hf.site h0 hq h14 _
    have hr:=xl0 hE he d h (f:={ f with pc:=f.pc+1 }) (at':=f.pc) hs
    have hfr:=xnZ ent E d m (f:={ f with pc:=f.pc+1 }) (hf.same rfl rfl rfl rfl) f.pc x
    generalize xan ent E d m { f with pc:=f.pc+1 } f.pc x=r at hr hfr ⊢
    generalize xan ent' E' d m' { f with pc:=f.pc+1 } f.pc x=r' at hr ⊢
    obtain⟨r1,r2⟩:=hr;rw[r2]
    split
    ·exact⟨r1,rfl⟩
    ·exact xk9 hE he d g r1 hfr
theorem xgE {Rel:σ->τ->Prop}{SOk:QS->ByteArray->Prop}{E:Env σ}{E':Env τ}(hE:ER Rel SOk E E')(d:Nat){body:Mc σ->Fr->Mc σ × QV × Int}{body':Mc τ->Fr->Mc τ × QV × Int}(hb:∀ {m m' f},MR Rel m m'->FR SOk f->RR Rel (body m f) (body' m' f)):xo0 Rel (xbj E d body) (xbj E' d body'):=by
 intro m m' c n s a h;unfold xbj;rw[hE.cz,hE.fuel,h.sz_]
 cases hm:xaO E.cz c n with
 | none=>exact⟨h,rfl⟩
 | some mt=>
  simp only[];have hfr:xaG E' c n mt s a=xaG E c n mt s a:=by unfold xaG;rw[hE.quick]
  have hf:FR SOk (xaG E c n mt s a):=by
   unfold xaG
   cases hq:E.quick c n with
   | none=>exact⟨fun _=>rfl,hE.plain c n mt hm,fun h=>by cases h⟩
   | some q=>exact⟨fun h=>(by cases h),hE.plain c n mt hm,fun _=>hE.fast c n mt q hm hq⟩
  split
  ·exact⟨h,rfl⟩
  ·split
   ·split
    ·exact⟨h,rfl⟩
    ·exact⟨⟨h.heap,rfl,h.turns,h.st⟩,rfl⟩
   ·obtain⟨c1,c2⟩:=xhp hE d h;rw[c2,hfr]
    split
    ·exact⟨h,rfl⟩
    ·exact hb c1 hf
theorem xfi {Rel:σ->τ->Prop}{SOk:QS->ByteArray->Prop}{E:Env σ}{E':Env τ}(hE:ER Rel SOk E E'):∀ d:Nat,xo0 Rel (xa1 E d) (xa1 E' d)
 | 0=>xgE hE 0 fun h _=>⟨h,rfl⟩
 | d+1=>xgE hE (d+1) fun h hf=>xk9 hE (xfi hE d) d _ h hf
end
section
variable {σ:Type}
def xlB (F:Int)(ent:Ent σ):Prop:=∀ m c n s a,m.sz_<=F->(ent m c n s a).1.sz_<=F/\0<=(ent m c n s a).1.sz_-m.sz_
theorem xiv (E:Env σ)(d:Nat){m:Mc σ}(h:m.sz_<=E.fuel):(xay E d m).1.sz_<=E.fuel/\0<=(xay E d m).1.sz_-m.sz_:=by
 unfold xay
 split
 ·simp only[];omega
 ·split
  ·simp only[];omega
  ·simp only[];omega
theorem xh5 {E:Env σ}{ent:Ent σ}(he:xlB E.fuel ent)(d:Nat){m:Mc σ}(h:m.sz_<=E.fuel)(f:Fr)(a:Int)(x:QI):(xan ent E d m f a x).1.sz_<=E.fuel/\0<=(xan ent E d m f a x).1.sz_-m.sz_:=by
 have self:m.sz_<=E.fuel/\0<=m.sz_-m.sz_:=⟨h,by omega⟩
 have jmp:∀ f a b,(xaX m f a b).1.sz_<=E.fuel/\0<=(xaX m f a b).1.sz_-m.sz_:=fun f a b=>by rw[xeh];exact self
 unfold xan
 split
 ·exact self
 ·split
  ·exact self
  ·split
   ·exact self
   ·split
    ·exact self
    ·split
     ·exact self
     ·split
      ·rw[xf6];exact self
      ·split
       ·unfold xcm;simp only[]
        split
        ·exact he { m with st:=_ } _ _ _ _ h
        ·exact he { m with st:=_ } _ _ _ _ h
       ·split
        ·exact jmp _ _ _
        ·split
         ·rw[xfI];exact self
         ·unfold xcl
          split
          ·exact self
          ·split
           ·exact self
           ·split
            ·exact self
            ·split
             ·exact self
             ·split
              ·exact xiv E d h
              ·exact self
theorem xmF {E:Env σ}{ent:Ent σ}(he:xlB E.fuel ent)(d:Nat):∀ (g:Nat) {m:Mc σ} (f:Fr),m.sz_<=E.fuel->(xcL ent E d g m f).1.sz_<=E.fuel/\0<=(xcL ent E d g m f).1.sz_-m.sz_
 | 0,m,f,h=>⟨h,by show 0<=m.sz_-m.sz_;omega⟩
 | g+1,m,f,h=>by
  have self:m.sz_<=E.fuel/\0<=m.sz_-m.sz_:=⟨h,by omega⟩
  unfold xcL;generalize (if f.pc<0 then none else f.code[f.pc.toNat]?)=q
  cases q with
  | none=>exact self
  | some x=>
   simp only[]
   split
   ·exact self
   ·have h1:=xh5 he d h { f with pc:=f.pc+1 } f.pc x
    split
    ·exact h1
    ·have h2:=xmF he d g (xan ent E d m { f with pc:=f.pc+1 } f.pc x).2.1 h1.1
     exact⟨h2.1,by omega⟩
theorem xiD {E:Env σ}(d:Nat){body:Mc σ->Fr->Mc σ × QV × Int}(hb:∀ {m} f,m.sz_<=E.fuel->(body m f).1.sz_<=E.fuel/\0<=(body m f).1.sz_-m.sz_):xlB E.fuel (xbj E d body):=by
 intro m c n s a h;have self:m.sz_<=E.fuel/\0<=m.sz_-m.sz_:=⟨h,by omega⟩
 unfold xbj
 cases xaO E.cz c n with
 | none=>exact self
 | some mt=>
  simp only[]
  split
  ·exact self
  ·split
   ·split
    ·exact self
    ·simp only[];omega
   ·split
    ·exact self
    ·have h1:=xiv E d h;have h2:=hb (xaG E c n mt s a) h1.1
     exact⟨h2.1,by omega⟩
theorem xlf (E:Env σ):∀ d:Nat,xlB E.fuel (xa1 E d)
 | 0=>xiD 0 fun f h=>⟨h,by simp only[];omega⟩
 | d+1=>xiD (d+1) fun f h=>xmF (xlf E d) d _ f h
end
def xap (X:QW)(s:QV)(name:ByteArray)(args:List QV)(fuel:Int):Int:=
 if xbf name=false then 7 else if 4<args.length then 5 else if fuel<0\/400<fuel then 3 else if xas X.heap.length s≠0 then xas X.heap.length s else xbe (fun _ v=>xas X.heap.length v) 0 args
def xcJ (X:QW)(fuel:Int):Env Unit:=⟨X.cz,fuel,fun _ _ c name=>((),xaw X.cz c name),xfk⟩
def xlZ (X:QW)(s:QV)(name:ByteArray)(args:List QV)(fuel:Int):Mc Unit × QV × Int:=
 xa1 (xcJ X fuel) 20 ⟨X.heap,0,0,()⟩ (xaw X.cz (xar X.heap s) name).1 (xaw X.cz (xar X.heap s) name).2 s args
structure Ran where
 heap:List QO
 v:QV
 err:Int
 sz_:Int
def xcI (X:QW)(s:QV)(name:ByteArray)(args:List QV)(fuel:Int):Ran:=
 if xap X s name args fuel≠0 then ⟨X.heap,xaU,xap X s name args fuel,0⟩
 else if (xlZ X s name args fuel).2.2≠0 then ⟨X.heap,xaU,(xlZ X s name args fuel).2.2,(xlZ X s name args fuel).1.sz_⟩
 else ⟨(xlZ X s name args fuel).1.heap,(xlZ X s name args fuel).2.1,0,(xlZ X s name args fuel).1.sz_⟩
theorem xcH {X:QW}{s:QV}{name:ByteArray}{args:List QV}{fuel:Int}(h:xap X s name args fuel=0):(0<=fuel/\fuel<=400)/\xas X.heap.length s=0/\VsOk X.heap.length args:=by
 unfold xap at h
 split at h
 ·cases h
 ·split at h
  ·cases h
  ·split at h
   ·cases h
   ·split at h
    ·rename_i k;exact absurd h k
    ·rename_i k1 k2 k3 k4;refine⟨by omega,Decidable.of_not_not k4,fun v hv=>?_⟩
     obtain⟨i,hi,rfl⟩:=List.mem_iff_getElem.1 hv
     exact xbH h i _ (List.getElem?_eq_getElem hi)
section
variable {σ α:Type}
structure Cnt (E:Env σ)(A B:σ->Nat):Prop where
 a:∀ st s c nm,A (E.look st s c nm).1=A st+1
 b:∀ st s c nm,B (E.look st s c nm).1=B st\/(B (E.look st s c nm).1=B st+1/\xaO E.cz (E.look st s c nm).2.1 (E.look st s c nm).2.2=none)
structure StInv (A B:σ->Nat)(k:Int)(m:Mc σ)(r:Mc σ × α × Int):Prop where
 good:r.2.2=0->(A r.1.st:Int)+m.sz_+k<=A m.st+r.1.sz_/\B r.1.st=B m.st
 bad:r.2.2≠0->(A r.1.st:Int)+m.sz_+k<=A m.st+r.1.sz_+1/\(B r.1.st=B m.st\/(r.2.2=10/\B r.1.st=B m.st+1))
theorem StInv.of {A B:σ->Nat}{m:Mc σ}{r:Mc σ × α × Int}(h1:r.1.st=m.st)(h2:m.sz_<=r.1.sz_):StInv A B 0 m r:=⟨fun _=>by rw[h1];exact⟨by omega,rfl⟩,fun _=>by rw[h1];exact⟨by omega,Or.inl rfl⟩⟩
theorem xd9 (m:Mc σ)(f:Fr)(a b:Int):(xaX m f a b).1.st=m.st/\(xaX m f a b).1.sz_=m.sz_:=by
 unfold xaX
 by_cases h:b<=a
 ·simp only[h,if_true];split<;>exact⟨rfl,rfl⟩
 ·simp only[h,if_false];split<;>exact⟨rfl,rfl⟩
theorem xeF (E:Env σ)(d:Nat)(m:Mc σ):(xay E d m).1.st=m.st/\m.sz_<=(xay E d m).1.sz_/\((xay E d m).2=0->(xay E d m).1.sz_=m.sz_+1):=by
 unfold xay
 split
 ·exact⟨rfl,by simp,fun h=>by cases h⟩
 ·split
  ·exact⟨rfl,by simp,fun h=>by cases h⟩
  ·exact⟨rfl,by simp;omega,fun _=>rfl⟩
def xiL (A B:σ->Nat)(ent:Ent σ)(E:Env σ):Prop:=∀ m c n s a,StInv A B 1 m (ent m c n s a)/\(xaO E.cz c n=none->ent m c n s a=(m,xaU,10))
theorem xlW {A B:σ->Nat}{E:Env σ}(hC:Cnt E A B){ent:Ent σ}(he:xiL A B ent E)(d:Nat)(m:Mc σ)(f:Fr)(a:Int)(x:QI):StInv A B 0 m (xan ent E d m f a x):=by
 have self:∀ (g:Fr) (e:Int),StInv A B 0 m (m,g,e):=fun g e=>.of rfl (Int.le_refl _)
 unfold xan
 split
 ·exact self _ _
 ·split
  ·exact self _ _
  ·split
   ·exact self _ _
   ·split
    ·exact self _ _
    ·split
     ·exact .of rfl (Int.le_refl _)
     ·split
      ·unfold xbQ;split
       ·exact self _ _
       ·exact .of rfl (Int.le_refl _)
      ·split
       ·unfold xcm;simp only;generalize xbu f.stack x.a=k;have ha:=hC.a m.st (f.site a x) (xar m.heap (xaW (f.stack.take k) 0)) x.name;have hb:=hC.b m.st (f.site a x) (xar m.heap (xaW (f.stack.take k) 0)) x.name;generalize E.look m.st (f.site a x) (xar m.heap (xaW (f.stack.take k) 0)) x.name=l at ha hb ⊢;obtain⟨h1,h2⟩:=he { m with st:=l.1 } l.2.1 l.2.2 (xaW (f.stack.take k) 0) (f.stack.drop k)
        generalize ent { m with st:=l.1 } l.2.1 l.2.2 (xaW (f.stack.take k) 0) (f.stack.drop k)=r at h1 h2 ⊢
        rcases hb with hb | ⟨hb,hn⟩
        ·by_cases h0:r.2.2=0
         ·rw[if_neg (by simpa using h0)]
          have:=h1.good h0;simp only at this
          exact⟨fun _=>⟨by simp only;omega,by rw[this.2];exact hb⟩,fun h=>absurd rfl h⟩
         ·rw[if_pos h0];have:=h1.bad h0;simp only at this;refine⟨fun h=>absurd h h0,fun _=>⟨by simp only;omega,?_⟩⟩
          rcases this.2 with h | ⟨h,h'⟩
          ·exact Or.inl (h.trans hb)
          ·exact Or.inr ⟨h,by rw[h',hb]⟩
        ·have e:=h2 hn;subst e;rw[if_pos (by simp)]
         exact⟨(fun h=>by cases h),fun _=>⟨by simp only;omega,Or.inr ⟨rfl,hb⟩⟩⟩
       ·split
        ·have:=xd9 m f a x.a
         exact .of this.1 (by rw[this.2];exact Int.le_refl _)
        ·split
         ·unfold xbr
          split
          ·exact self _ _
          ·split
           ·have:=xd9 m f.pop a x.a
            exact .of this.1 (by rw[this.2];exact Int.le_refl _)
           ·exact self _ _
         ·unfold xcl
          split
          ·exact self _ _
          ·split
           ·exact self _ _
           ·split
            ·exact self _ _
            ·split
             ·exact .of rfl (Int.le_refl _)
             ·split
              ·have:=xeF E d m
               exact .of this.1 this.2.1
              ·exact self _ _
theorem xlc {A B:σ->Nat}{E:Env σ}(hC:Cnt E A B){ent:Ent σ}(he:xiL A B ent E)(d:Nat):∀ (g:Nat) (m:Mc σ) (f:Fr),StInv A B 0 m (xcL ent E d g m f)
 | 0,m,f=>.of rfl (Int.le_refl _)
 | g+1,m,f=>by
  unfold xcL;generalize (if f.pc<0 then none else f.code[f.pc.toNat]?)=q
  cases q with
  | none=>exact .of rfl (Int.le_refl _)
  | some x=>
   simp only[]
   by_cases h17:x.op=17
   ·rw[if_pos h17];exact .of rfl (Int.le_refl _)
   ·rw[if_neg h17];have hs:=xlW hC he d m { f with pc:=f.pc+1 } f.pc x
    generalize xan ent E d m { f with pc:=f.pc+1 } f.pc x=r at hs ⊢
    by_cases h0:r.2.2=0
    ·rw[if_neg (by simpa using h0)]
     have ih:=xlc hC he d g r.1 r.2.1;obtain⟨i1,i2⟩:=hs.good h0;refine⟨fun h=>?_,fun h=>?_⟩
     ·obtain⟨j1,j2⟩:=ih.good h
      exact⟨by omega,j2.trans i2⟩
     ·obtain⟨j1,j2⟩:=ih.bad h;refine⟨by omega,?_⟩
      rcases j2 with j | ⟨j,j'⟩
      ·exact Or.inl (j.trans i2)
      ·exact Or.inr ⟨j,by rw[j',i2]⟩
    ·rw[if_pos h0]
     exact⟨fun h=>absurd h h0,fun _=>hs.bad h0⟩
theorem xhh {A B:σ->Nat}{E:Env σ}(d:Nat){body:Mc σ->Fr->Mc σ × QV × Int}(hb:∀ m f,StInv A B 0 m (body m f)):xiL A B (xbj E d body) E:=fun m c n s a=>by
 have self:∀ (v:QV) (e:Int),e≠0->StInv A B 1 m (m,v,e):=fun v e he=>⟨fun h=>absurd h he,fun _=>⟨by simp only;omega,Or.inl rfl⟩⟩
 unfold xbj
 cases xaO E.cz c n with
 | none=>exact⟨self _ _ (by omega),fun _=>rfl⟩
 | some mt=>
  refine⟨?_,fun h=>by cases h⟩
  simp only
  split
  ·exact self _ _ (by omega)
  ·split
   ·split
    ·exact self _ _ (by omega)
    ·exact⟨fun _=>⟨by simp only;omega,rfl⟩,fun _=>⟨by simp only;omega,Or.inl rfl⟩⟩
   ·obtain⟨c1,c2,c3⟩:=xeF E d m
    split
    ·rename_i h;exact self _ _ h
    ·rename_i h;have h0:(xay E d m).2=0:=by simpa using h
     have c4:=c3 h0;have ih:=hb (xay E d m).1 (xaG E c n mt s a);generalize body (xay E d m).1 (xaG E c n mt s a)=r at ih ⊢;refine⟨fun h=>?_,fun h=>?_⟩
     ·obtain⟨j1,j2⟩:=ih.good h;rw[c1] at j1 j2
      exact⟨by omega,j2⟩
     ·obtain⟨j1,j2⟩:=ih.bad h;rw[c1] at j1 j2
      exact⟨by omega,j2⟩
theorem xjW {A B:σ->Nat}{E:Env σ}(hC:Cnt E A B):∀ d,xiL A B (xa1 E d) E
 | 0=>xhh 0 fun m f=>.of rfl (Int.le_refl _)
 | d+1=>xhh (d+1) fun m f=>xlc hC (xjW hC d) d _ m f
end
section
variable {σ:Type}
def xdf (E:Env σ)(X:QW)(st0:σ)(s:QV)(name:ByteArray)(args:List QV):Mc σ × QV × Int:=
 xa1 E 20 ⟨X.heap,0,0,st0⟩ (xaw X.cz (xar X.heap s) name).1 (xaw X.cz (xar X.heap s) name).2 s args
def xop (X:QW)(r:Mc σ × QV × Int):Ran:=if r.2.2≠0 then ⟨X.heap,xaU,r.2.2,r.1.sz_⟩ else ⟨r.1.heap,r.2.1,0,r.1.sz_⟩
def xdh (E:Env σ)(X:QW)(st0:σ)(s:QV)(name:ByteArray)(args:List QV)(fuel:Int):Ran × σ:=
 if xap X s name args fuel≠0 then (⟨X.heap,xaU,xap X s name args fuel,0⟩,st0) else (xop X (xdf E X st0 s name args),(xdf E X st0 s name args).1.st)
end
theorem xjv (X:QW)(s:QV)(name:ByteArray)(args:List QV)(fuel:Int):(xdh (xcJ X fuel) X () s name args fuel).1=xcI X s name args fuel:=by
 unfold xdh xcI
 split<;>rfl
theorem xej {xs:List QC}{c n:Int}{mt:QM}(h:xaO xs c n=some mt):∃ (kc kn:Nat) (x:QC),c=(kc:Int)/\n=(kn:Int)/\xs[kc]?=some x/\x.mz[kn]?=some mt:=by
 unfold xaO at h
 cases hc:xby xs c with
 | none=>rw[hc] at h;cases h
 | some x=>
  rw[hc] at h;obtain⟨k,rfl,hk⟩:=xbn hc;simp only[Option.bind_some] at h
  split at h
  ·exact⟨k,n.toNat,x,rfl,by omega,hk,h⟩
  ·cases h
theorem xew:∀ (x y z:List UInt8),Op.bytesLess x y=true->Op.bytesLess y z=true->Op.bytesLess x z=true
 | [],[],z,h,_=>by simp[Op.bytesLess] at h
 | [],b :: y,[],_,k=>by simp[Op.bytesLess] at k
 | [],b :: y,c :: z,_,_=>by simp[Op.bytesLess]
 | a :: x,[],z,h,_=>by simp[Op.bytesLess] at h
 | a :: x,b :: y,[],_,k=>by simp[Op.bytesLess] at k
 | a :: x,b :: y,c :: z,h,k=>by
  simp only[Op.bytesLess,Bool.or_eq_true,decide_eq_true_eq,Bool.and_eq_true,beq_iff_eq] at h k ⊢
  rcases h with h | ⟨rfl,h⟩
  ·rcases k with k | ⟨rfl,k⟩
   ·exact Or.inl (UInt8.lt_trans h k)
   ·exact Or.inl h
  ·rcases k with k | ⟨rfl,k⟩
   ·exact Or.inl k
   ·exact Or.inr ⟨rfl,xew x y z h k⟩
theorem xeO:∀ (x:List UInt8),Op.bytesLess x x=false
 | []=>rfl
 | a :: x=>by simp[Op.bytesLess,xeO x]
theorem xeK {a b:ByteArray}:eqN a b=true ↔ a.toList=b.toList:=by simp[eqN]
theorem xff {a b c:ByteArray}(h:ltN a b=true)(k:ltN b c=true):ltN a c=true:=xew _ _ _ h k
theorem xd3 {a b:ByteArray}(h:ltN b a=true):eqN a b=false:=by
 cases k:eqN a b
 ·rfl
 ·unfold ltN at h;rw[xeK.1 k,xeO] at h;cases h
theorem xep {X:QW}{j:Nat}{ms:List QM}(h:∀ i y,ms[i]?=some y->rmE X j ms i y=0):∀ (e i:Nat) (a b:QM),ms[i]?=some a->ms[i+e+1]?=some b->ltN a.name b.name=true
 | 0,i,a,b,ha,hb=>by
  have h1:=h (i+1) b hb;unfold rmE at h1
  split at h1
  ·cases h1
  ·rename_i h2;simp only[xdQ,ha] at h2
   simpa using h2
 | e+1,i,a,b,ha,hb=>by
  have hlt:=xae hb;obtain⟨p,hp⟩:∃ p,ms[i+e+1]?=some p:=⟨_,List.getElem?_eq_getElem (by omega)⟩
  have h1:=h (i+(e+1)+1) b hb;unfold rmE at h1
  split at h1
  ·cases h1
  ·rename_i h2;have e1:ms[i+(e+1)]?=some p:=hp;simp only[xdQ,e1] at h2
   exact xff (xep h e i a p ha hp) (by simpa using h2)
theorem xhw {X:QW}(hX:xaJ X=0){c k n:Int}{a b:QM}(ha:xaO X.cz c k=some a)(hb:xaO X.cz c n=some b)(hn:a.name=b.name):a=b:=by
 obtain⟨kc,kk,x,rfl,rfl,hx,hak⟩:=xej ha;obtain⟨kc',kn,x',e1,rfl,hx',hbn⟩:=xej hb;have:kc'=kc:=by omega
 subst this;rw[hx] at hx'
 cases hx'
 obtain⟨-,-,hM,-⟩:=xbE hX;have h1:=hM kc' x (xae hx) hx;unfold rkE at h1
 split at h1
 ·cases h1
 ·split at h1
  ·cases h1
  ·have hall:=xbH h1
   rcases Nat.lt_trichotomy kk kn with hlt | heq | hgt
   ·have:=xep hall (kn-kk-1) kk a b hak (by rw[show kk+(kn-kk-1)+1=kn by omega];exact hbn)
    have h2:=xd3 this;rw[hn,xeK.2 rfl] at h2
    cases h2
   ·subst heq;rw[hak] at hbn
    cases hbn
    rfl
   ·have:=xep hall (kk-kn-1) kn b a hbn (by rw[show kn+(kk-kn-1)+1=kk by omega];exact hak)
    have h2:=xd3 this;rw[hn,xeK.2 rfl] at h2
    cases h2
def xcW (cs:List QC)(s:QS)(nm:ByteArray):Prop:=∃ n mt,∃ k:Nat,∃ x,xaO cs s.cls n=some mt/\mt.name=s.name/\s.at'=(k:Int)/\mt.code[k]?=some x/\x.op=14/\x.name=nm
theorem xmz {X:QW}(hX:xaJ X=0){s:QS}{a b:ByteArray}(ha:xcW X.cz s a)(hb:xcW X.cz s b):a=b:=by
 obtain⟨n,mt,k,x,h1,h2,h3,h4,-,rfl⟩:=ha;obtain⟨n',mt',k',x',h1',h2',h3',h4',-,rfl⟩:=hb;obtain rfl:mt=mt':=xhw hX h1 h1' (by rw[h2,h2'])
 obtain rfl:k=k':=by omega
 rw[h4] at h4'
 cases h4'
 rfl
theorem xrE {n bytes:Nat}(hn:256<=n)(hb:(n+1)*bytes<=190000000000000)(h1:bytes<=10000):Builtin.nextslicecap (n+1) n*bytes<=281474976710656:=by
 have h2:4*Builtin.nextslicecap (n+1) n<=5*(n+1)+768:=by
  unfold Builtin.nextslicecap
  split
  ·omega
  ·split
   ·omega
   ·rw[growBy_four]
    repeat' split
    all_goals omega
 have h3:=Nat.mul_le_mul_right bytes h2;rw[Nat.add_mul,Nat.mul_assoc,Nat.mul_assoc] at h3
 omega
section
variable {P:Program} (w:World)
theorem xrA (t ty e:TypeId)(i:TypeInfo)(z:Value)(size bytes:Nat)(ht:P.underlying t=some (.slice e))(hi:P.info? e=some i)(hz:i.zero=some z)
  (hsize:i.size=size) (hby:i.bytes=bytes) (hzs:z.cells.size=size) (b:Addr) (n:Nat) (olds:List Value) (hlo:olds.length=n*size) (holds:∀ j u,olds[j]?=some u->w.cell? (b.add j)=some u)
  (a:Addr) (c:Nat) (news:List Value) (hl:news.length=1*size) (hnews:∀ j u,news[j]?=some u->w.cell? (a.add j)=some u)
  (hn:256<=n) (h63:n+1<=maxLen) (hb:(n+1)*bytes<=190000000000000) (hb1:bytes<=10000) (base:Nat) (hbase:base<=w.heap.size) (row:Option Nat) :
  ∃ cap w',(Builtin.append_ #[t,t] ty #[.slice (some b) n n,.slice (some a) 1 c]).run P w=.ok (.slice (some ⟨w.heap.size,0,none⟩) (n+1) cap) w'/\w'.ownsRow base e size (.slice (some ⟨w.heap.size,0,none⟩) (n+1) cap) (n+1) (olds++news)/\w.grownBy w' row/\w.heap.size<w'.heap.size:=by
 subst hsize;subst hby;have hmx:maxLen<=9223372036854775807:=by unfold maxLen;omega
 have hlen:(olds++news).length=(n+1)*i.size:=by rw[List.length_append,hlo,hl,Nat.add_mul]
 have hge:=grownCap_ge w (n+1) n e;refine⟨_,_,run_append_grow (P:=P) w t ty e i z ht hi hz b n n olds hlo holds a 1 c news hl hnews (by omega) (by omega) (xrE hn hb hb1),⟨hlen,.inr ⟨w.heap.size,_,_,rfl,hbase,qzJ w.drew _,hge,grownCap_le_maxLen w (n+1) n e h63,?_,?_⟩⟩,⟨rfl,rfl,rfl,by simp,fun k hk _=>by first | exact heap_alloc_old w.drew _ hk | exact heap_alloc_old w.drew _ k hk⟩,by simp⟩
 ·simp only[Array.size_append,List.size_toArray,size_zeroCells,hzs,hlo,hl,← Nat.add_mul]
  congr 1
  omega
 ·simp only[Array.toList_append,List.append_assoc];rw[← List.append_assoc,← hlen]
  exact List.take_left
theorem xrC (t ty:TypeId)(base:Nat)(e:TypeId)(i:TypeInfo)(z:Value)(size bytes:Nat)(ht:P.underlying t=some (.slice e))(hi:P.info? e=some i)(hz:i.zero=some z)
  (hsize:i.size=size) (hby:i.bytes=bytes) (hzs:z.cells.size=size) (hsz:0<size)
  (v:Value) (n:Nat) (xs:List Value) (hown:w.ownsRow base e size v n xs)
  (ad:Addr) (c:Nat) (news:List Value) (hl:news.length=1*size) (hnews:∀ j u,news[j]?=some u->w.cell? (ad.add j)=some u) (h1:∀ u∈news,u.oneCell'=true)
  (h63:n+1<=maxLen) (hb:(n+1)*bytes<=190000000000000) (hb1:bytes<=10000) (hbase:base<=w.heap.size) (H:Nat) (hH:w.heap.size=H) :
  ∃ g cap w',(Builtin.append_ #[t,t] ty #[v,.slice (some ad) 1 c]).run P w=.ok (.slice (some ⟨g,0,none⟩) (n+1) cap) w'/\
   w'.ownsRow base e size (.slice (some ⟨g,0,none⟩) (n+1) cap) (n+1) (xs++news)/\w.grownBy w' v.ownBlock/\(v.ownBlock=some g\/g=H)/\g<w'.heap.size:=by
 by_cases hsm:(n+1)*bytes<=140737488355328
 ·exact run_append_lies w t ty base e i z size bytes ht hi hz hsize hby hzs hsz v n xs hown ad 1 c news hl hnews h1 (by omega) h63 hsm hbase H hH
 have hn:256<=n:=by
  rcases Nat.lt_or_ge n 256 with h | h
  ·exfalso;have:(n+1)*bytes<=256*10000:=Nat.mul_le_mul (by omega) hb1
   omega
  ·exact h
 obtain⟨hxl,⟨-,h0⟩ | ⟨g,cap,cur,rfl,hbg,hg,hnc,hcm,hcs,htk⟩⟩:=hown
 ·omega
 have hgl:g<w.heap.size:=by
  rcases Nat.lt_or_ge g w.heap.size with h | h
  ·exact h
  ·rw[Array.getElem?_eq_none h] at hg;cases hg
 rcases Nat.lt_or_ge cap (n+1) with hfull | hroom
 ·obtain rfl:cap=n:=by omega
  have hcells:∀ j u,xs[j]?=some u->w.cell? ((⟨g,0,none⟩:Addr).add j)=some u:=fun j u hu=>by
   refine World.news_of_block hg j u ?_;rw[← htk,List.getElem?_take] at hu
   split at hu
   ·exact hu
   ·cases hu
  obtain⟨cap',w',r1,r2,r3,r4⟩:=xrA (P:=P) w t ty e i z size bytes ht hi hz hsize hby hzs ⟨g,0,none⟩ cap xs hxl hcells ad c news hl hnews hn h63 hb hb1 base hbase (Value.ownBlock (.slice (some ⟨g,0,none⟩) cap cap))
  exact⟨_,cap',w',r1,r2,r3,.inr hH,r4⟩
 ·subst hsize;have hfit:n*i.size+news.length<=cur.size:=by rw[hl,hcs,← Nat.add_mul];exact Nat.mul_le_mul_right _ hroom
  refine⟨g,cap,_,run_append_room (P:=P) w t ty e i ht hi g n cap cur hg ad 1 c news hl hnews h1 hroom hfit,⟨by rw[List.length_append,hxl,hl,Nat.add_mul],.inr ⟨g,cap,_,rfl,hbg,setRow_heap w g cur _ e _ hg,hroom,hcm,?_,?_⟩⟩,⟨rfl,rfl,rfl,by simp,fun k _ hk=>setRow_other w g k _ (fun e=>hk (by simp[Value.ownBlock,e]))⟩,.inl rfl,by simpa using hgl⟩
  ·simp only[List.size_toArray,List.length_append,List.length_take,List.length_drop,Array.length_toList]
   omega
  ·rw[htk,Nat.add_mul,← hl,← hxl];simp only[List.append_assoc];rw[← List.append_assoc,← List.length_append]
   exact List.take_left
theorem xrD {o:Oper}{a:Act}{K:Act->World->Prop}{Q:Exit->Act->World->Prop}(s x:Operand)(t:TypeId)
  (ho:o.op=.call { callee:=.builtin .append,args:=#[s,x],argTypes:=#[t,t] })
  (base:Nat) (e:TypeId) (i:TypeInfo) (z:Value) (size bytes:Nat) (ht:P.underlying t=some (.slice e)) (hi:P.info? e=some i) (hz:i.zero=some z)
  (hsize:i.size=size) (hby:i.bytes=bytes) (hzs:z.cells.size=size) (hsz:0<size)
  (v:Value) (n:Nat) (xs:List Value) (hs:a.eval s=v) (hown:w.ownsRow base e size v n xs)
  (ad:Addr) (c:Nat) (news:List Value) (hx:a.eval x=.slice (some ad) 1 c) (hl:news.length=1*size) (hnews:∀ j u,news[j]?=some u->w.cell? (ad.add j)=some u) (h1:∀ u∈news,u.oneCell'=true)
  (h63:n+1<=maxLen) (hb:(n+1)*bytes<=190000000000000) (hb1:bytes<=10000) (hbase:base<=w.heap.size) (H:Nat) (hH:w.heap.size=H)
  (h:∀ g cap w',w'.ownsRow base e size (.slice (some ⟨g,0,none⟩) (n+1) cap) (n+1) (xs++news)->w.grownBy w' v.ownBlock->(v.ownBlock=some g\/g=H)->g<w'.heap.size->K (a.put o.dst (.slice (some ⟨g,0,none⟩) (n+1) cap)) w'):o.wp P a w K Q:=by
 obtain⟨g,cap,w',hr,h2,h3,h4,h5⟩:=xrC (P:=P) w t o.type base e i z size bytes ht hi hz hsize hby hzs hsz v n xs hown ad c news hl hnews h1 h63 hb hb1 hbase H hH;unfold Oper.wp execOp;simp only[ho,resolve,invoke,builtin,Sem.run_bind,Sem.run_pure,Result.andThen_ok,List.map_toArray,List.map_cons,List.map_nil,hs,hx,hr]
 exact h g cap w' h2 h3 h4 h5
theorem xrz {ops:Array Oper}{rest:List Oper}{o:Oper}{a:Act}{Q:Exit->Act->World->Prop}(hgd:o.guard=none)(s x:Operand)(t:TypeId)
  (ho:o.op=.call { callee:=.builtin .append,args:=#[s,x],argTypes:=#[t,t] })
  (base:Nat) (e:TypeId) (i:TypeInfo) (z:Value) (size bytes:Nat) (ht:P.underlying t=some (.slice e)) (hi:P.info? e=some i) (hz:i.zero=some z)
  (hsize:i.size=size) (hby:i.bytes=bytes) (hzs:z.cells.size=size) (hsz:0<size)
  (v:Value) (n:Nat) (xs:List Value) (hs:a.eval s=v) (hown:w.ownsRow base e size v n xs)
  (ad:Addr) (c:Nat) (news:List Value) (hx:a.eval x=.slice (some ad) 1 c) (hl:news.length=1*size) (hnews:∀ j u,news[j]?=some u->w.cell? (ad.add j)=some u) (h1:∀ u∈news,u.oneCell'=true)
  (h63:n+1<=maxLen) (hb:(n+1)*bytes<=190000000000000) (hb1:bytes<=10000) (hbase:base<=w.heap.size) (H:Nat) (hH:w.heap.size=H)
  (h:∀ g cap w',w'.ownsRow base e size (.slice (some ⟨g,0,none⟩) (n+1) cap) (n+1) (xs++news)->w.grownBy w' v.ownBlock->(v.ownBlock=some g\/g=H)->g<w'.heap.size->wpList P ops Q rest (a.put o.dst (.slice (some ⟨g,0,none⟩) (n+1) cap)) w'):wpList P ops Q (o :: rest) a w:=
 wpList_plain hgd fun _ hK=>xrD w s x t ho base e i z size bytes ht hi hz hsize hby hzs hsz v n xs hs hown ad c news hx hl hnews h1 h63 hb hb1 hbase H hH fun g cap w' h2 h3 h4 h5=>hK _ _ (h g cap w' h2 h3 h4 h5)
theorem xrB {ops:Array Oper}{rest:List Oper}{o:Oper}{a:Act}{Q:Exit->Act->World->Prop}
  (hg:o.guard=none) (s x:Operand) (t:TypeId) (hop:o.op=Op.call { callee:=Callee.builtin Builtin.append,args:=#[s,x],argTypes:=#[t,t] })
  (e:TypeId) (i:TypeInfo) (z:Value) (size bytes:Nat) (h1:P.underlying t=some (.slice e)) (h2:P.info? e=some i) (h3:i.zero=some z) (h4:i.size=size) (h5:i.bytes=bytes) (h6:z.cells.size=size) (h7:0<size)
  (ao:Option Addr) (n:Nat) (olds:List Value) (hs:a.eval s=.slice ao n n) (hnone:ao=none->n=0) (hlo:olds.length=n*size) (holds:∀ b,ao=some b->∀ j u,olds[j]?=some u->w.cell? (b.add j)=some u)
  (ad:Addr) (c:Nat) (news:List Value) (hx:a.eval x=.slice (some ad) 1 c) (hn:news.length=1*size) (hc:∀ j u,news[j]?=some u->w.cell? (ad.add j)=some u) (h1c:∀ u∈news,u.oneCell'=true)
  (b1:n+1<=maxLen) (b2:(n+1)*bytes<=190000000000000) (b3:bytes<=10000)
  (hK:∀ v' w',w'.ownsRow w.heap.size e size v' (n+1) (olds++news)->w.grownBy w' none->wpList P ops Q rest (a.put o.dst v') w') :
  wpList P ops Q (o :: rest) a w:=by
 by_cases hsm:(n+1)*bytes<=140737488355328
 ·exact wpList_append_grows w hg s x t hop e i z size bytes h1 h2 h3 h4 h5 h6 h7 ao n n olds hs (fun h=>⟨hnone h,hnone h⟩) hlo holds ad 1 c news hx hn hc h1c (by omega) b1 hsm hK
 have hn2:256<=n:=by
  rcases Nat.lt_or_ge n 256 with h | h
  ·exfalso;have:(n+1)*bytes<=256*10000:=Nat.mul_le_mul (by omega) b3
   omega
  ·exact h
 cases ao with
 | none=>have:=hnone rfl;omega
 | some b=>
  obtain⟨cap,w',hr,r2,r3,-⟩:=xrA (P:=P) w t o.type e i z size bytes h1 h2 h3 h4 h5 h6 b n olds hlo (holds b rfl) ad c news hn hc hn2 b1 b2 b3 w.heap.size (qzC _) none;refine wpList_plain hg fun K hK'=>?_
  unfold Oper.wp execOp;simp only[hop,resolve,invoke,builtin,Sem.run_bind,Sem.run_pure,Result.andThen_ok,List.map_toArray,List.map_cons,List.map_nil,hs,hx,hr]
  exact hK' _ _ (hK _ w' r2 r3)
end
end Go.Proofs.YtapbeiccodnniaaGreat
