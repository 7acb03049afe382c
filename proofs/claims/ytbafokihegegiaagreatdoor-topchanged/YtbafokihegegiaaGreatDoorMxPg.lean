/- A part. -/
import Derived.Test.YtbafokihegegiaaGreatDoorMxPf
namespace Go.Proofs.YtbafokihegegiaaGreatDoor
open Go.ChangeShapes Go.WideShapes Go.ChangeAt Go.RowKit
set_option linter.unusedSimpArgs false
set_option linter.unusedVariables false
set_option maxHeartbeats 8000000
set_option maxRecDepth 100000
def plS (x:StE):StE:=if x.kind=5\/x.kind=6 then { x with kind:=4 } else x
theorem xs3 (x:StE):Way x (plS x):=by
 unfold plS
 by_cases h:x.kind=5\/x.kind=6
 ·rw[if_pos h]
  exact .inr ⟨by omega,4,by simp,rfl⟩
 ·rw[if_neg h];exact .inl rfl
theorem xsR {i:Nat}{s:Sn}(h:SInv i s)(l:List StE)(hl:i+l.length<=1000):xaW s l=xaW s (l.map plS):=
 (xg7 l (l.map plS) i s s h h ⟨rfl,rfl⟩ hl (by simp) fun j x y hx hy=>by
  rw[List.getElem?_map,hx] at hy
  cases hy
  exact xs3 x).1
abbrev stS (X:QW):Sn:=⟨X,[],[],[]⟩
abbrev getM (m:Int):StE:=xrb 4 xo5 0 0 [in_ 5 m,in_ 17 0]
theorem xsY:SInv 5 (stS (xo0 xa4)):=by
 have:=xgJ xik 0 _ xiT (by decide)
 rw[xos] at this
 exact this
theorem xs5 {v:QV}{n:Int}(h0:-1000<=n)(h1:n<=1000):doE (stS (xo0 v)) (xdj 4 ⟨4,0⟩ xlb [⟨3,n⟩])=(stS (xo0 ⟨3,n⟩),⟨0,1,⟨4,0⟩⟩):=by
 rw[xpq,xoS h0 h1];rfl
theorem xsT {n t:Int}(h0:-1000<=n)(h1:n<=1000)(ht0:0<=t)(ht1:t<=60):doE (stS (xo0 ⟨3,n⟩)) (xdj 4 ⟨4,0⟩ xgg [⟨3,t⟩])=(stS (xo0 ⟨3,n⟩),⟨0,4*t+2,⟨3,n*t⟩⟩):=by
 rw[xpq,xjl h0 h1 ht0 ht1];rfl
theorem xs0 {n m t:Int}(h0:-1000<=m)(h1:m<=1000)(ht0:0<=t)(ht1:t<=60):doE (stS (chX ⟨3,n⟩ m)) (xdj 4 ⟨4,0⟩ xgg [⟨3,t⟩])=(stS (chX ⟨3,n⟩ m),⟨0,4*t+2,⟨3,m*t⟩⟩):=by
 rw[xpq,xsV h0 h1 ht0 ht1];rfl
abbrev five:List ReE:=[⟨0,4,xa4⟩,⟨0,0,xa4⟩,⟨0,0,xa4⟩,⟨0,0,xa4⟩,⟨0,0,⟨4,0⟩⟩]
theorem xsS {n m t:Int}(h0:-1000<=n)(h1:n<=1000)(m0:-1000<=m)(m1:m<=1000)(ht0:0<=t)(ht1:t<=60) :
  xaW (stS xlV) (xik++[xdj 4 ⟨4,0⟩ xlb [⟨3,n⟩],xdj 5 ⟨4,0⟩ xgg [⟨3,4⟩],xdj 6 ⟨4,0⟩ xgg [⟨3,t⟩],getM m,xdj 6 ⟨4,0⟩ xgg [⟨3,t⟩],xdj 5 ⟨4,0⟩ xgg [⟨3,t⟩]])
   = five++[⟨0,1,⟨4,0⟩⟩,⟨0,4*4+2,⟨3,n*4⟩⟩,⟨0,4*t+2,⟨3,n*t⟩⟩,noE 0 0,⟨0,4*t+2,⟨3,m*t⟩⟩,⟨0,4*t+2,⟨3,m*t⟩⟩]:=by
 rw[xer,xks,xos,xsR xsY _ (by simp)]
 show five++xaW (stS (xo0 xa4)) [xdj 4 ⟨4,0⟩ xlb [⟨3,n⟩],xdj 4 ⟨4,0⟩ xgg [⟨3,4⟩],xdj 4 ⟨4,0⟩ xgg [⟨3,t⟩],getM m,xdj 4 ⟨4,0⟩ xgg [⟨3,t⟩],xdj 4 ⟨4,0⟩ xgg [⟨3,t⟩]]=_
 simp only[xaW,xs5 h0 h1,xsT h0 h1 (show (0:Int)<=4 by omega) (show (4:Int)<=60 by omega),xsT h0 h1 ht0 ht1,xsW m0 m1 (stS (xo0 ⟨3,n⟩)) ⟨3,n⟩ rfl,xs0 m0 m1 ht0 ht1]
end Go.Proofs.YtbafokihegegiaaGreatDoor
