/- A part. -/
import Derived.Test.YtbafokihegegiaaGreatDoorT13
namespace Go.Proofs.YtbafokihegegiaaGreatDoor
open Go.ChangeShapes Go.WideShapes Go.ChangeAt Go.RowKit
set_option linter.unusedSimpArgs false
set_option linter.unusedVariables false
set_option maxHeartbeats 8000000
structure Alike (s t:Sn):Prop where
 X:s.X=t.X
 saved:s.saved=t.saved
def Way (x y:StE):Prop:=x=y\/((x.kind=4\/x.kind=5\/x.kind=6)/\∃k,(k=4\/k=5\/k=6)/\y={ x with kind:=k })
theorem xnH {i:Nat}{s:Sn}(h:SInv i s){y:StE}(a:y.kind=4\/y.kind=5\/y.kind=6):(Cg s y).2=Es (Dz s.X y.sf y.cname y.args 400)/\(Cg s y).1.X=⟨s.X.cz,(Dz s.X y.sf y.cname y.args 400).heap,s.X.ez⟩:=by
 unfold Cg;obtain⟨k1,-⟩:=h.cached y.sf y.cname y.args 400 0 0;rcases a with a | a | a
 ·rw[a];simp
 ·rw[a];simp[k1]
 rw[a];simp
theorem xo7 {i:Nat}{s t:Sn}(n:SInv i s)(o:SInv i t)(e:Alike s t){x y:StE}(g:Way x y):(Cg s x).2=(Cg t y).2/\Alike (Cg s x).1 (Cg t y).1:=by
 by_cases hc:x.kind=4\/x.kind=5\/x.kind=6
 ·have f:(y.kind=4\/y.kind=5\/y.kind=6)/\y.sf=x.sf/\y.cname=x.cname/\y.args=x.args:=by
   rcases g with rfl | ⟨-,k,m,rfl⟩
   ·exact⟨hc,rfl,rfl,rfl⟩
   exact⟨m,rfl,rfl,rfl⟩
  obtain⟨f,e1,e2,e3⟩:=f;obtain⟨a1,a2⟩:=xnH n hc;obtain⟨b1,b2⟩:=xnH o f;rw[e1,e2,e3,← e.X] at b1 b2;exact⟨a1.trans b1.symm,a2.trans b2.symm,by rw[xlE s (by omega),xlE t (by omega)];exact e.saved⟩
 obtain rfl:x=y:=by
  rcases g with h | ⟨h,-⟩
  ·exact h
  exact absurd h hc
 obtain⟨sX,sc,b,a⟩:=s;obtain⟨tX,tc,d,c⟩:=t;obtain⟨e1,e2⟩:=e;simp only at e1 e2;subst e1 e2;have j:¬ (x.kind=4\/x.kind=6):=by omega
 have l:¬ x.kind=5:=by omega
 unfold Cg;simp only[j,l,if_false]
 repeat' split
 all_goals exact⟨rfl,rfl,rfl⟩
theorem xg7:∀(l m:List StE) (i:Nat) (s t:Sn),SInv i s->SInv i t->Alike s t->i+l.length<=1000->l.length=m.length->(∀(j:Nat) x y,l[j]?=some x->m[j]?=some y->Way x y)->GR s l=GR t m/\Alike (Ek s l) (Ek t m)
 | [],[],_,_,_,_,_,c,_,_,_=>⟨rfl,c⟩
 | [],_ :: _,_,_,_,_,_,_,_,h,_=>by cases h
 | _ :: _,[],_,_,_,_,_,_,_,h,_=>by cases h
 | x :: l,y :: m,i,s,t,hs,ht,c,hl,hlen,hw=>by
  simp only[List.length_cons] at hl hlen;obtain⟨r1,r2⟩:=xo7 hs ht c (hw 0 x y rfl rfl);obtain⟨q1,q2⟩:=xg7 l m (i+1) _ _ (Nd hs (by omega) x).inv (Nd ht (by omega) y).inv r2 (by omega) (by omega) λj a b c d=>hw (j+1) a b (by simpa using c) (by simpa using d);exact⟨by unfold GR;rw[r1,q1],q2⟩
end Go.Proofs.YtbafokihegegiaaGreatDoor
