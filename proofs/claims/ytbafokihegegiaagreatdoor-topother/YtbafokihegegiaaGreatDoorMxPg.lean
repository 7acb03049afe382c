/- A part. -/
import Derived.Test.YtbafokihegegiaaGreatDoorMxPf
namespace Go.Proofs.YtbafokihegegiaaGreatDoor
open Go.ChangeShapes Go.WideShapes Go.ChangeAt Go.RowKit
set_option linter.unusedSimpArgs false
set_option linter.unusedVariables false
set_option maxHeartbeats 8000000
set_option maxRecDepth 100000
def plS (x:StE):StE:=if x.kind=5\/x.kind=6 then { x with kind:=4 } else x
theorem xs3 (x:StE):Way x (plS x):=by
 unfold plS
 by_cases h:x.kind=5\/x.kind=6
 ·rw[if_pos h]
  exact .inr ⟨by omega,4,by simp,rfl⟩
 ·rw[if_neg h];exact .inl rfl
theorem xsR {i:Nat}{s:Sn}(h:SInv i s)(l:List StE)(hl:i+l.length<=1000):xaW s l=xaW s (l.map plS):=
 (xg7 l (l.map plS) i s s h h ⟨rfl,rfl⟩ hl (by simp) fun j x y hx hy=>by
  rw[List.getElem?_map,hx] at hy
  cases hy
  exact xs3 x).1
abbrev stS (X:QW):Sn:=⟨X,[],[],[]⟩
theorem xsY:SInv 5 (stS (xo0 xa4)):=by
 have:=xgJ xik 0 _ xiT (by decide)
 rw[xos] at this
 exact this
abbrev five:List ReE:=[⟨0,4,xa4⟩,⟨0,0,xa4⟩,⟨0,0,xa4⟩,⟨0,0,xa4⟩,⟨0,0,⟨4,0⟩⟩]
def xtc:ByteArray:=nm [79,100,100]
def xs7:List QC:=xto++[⟨xtc,4,0,[]⟩]
def xtn (m:Int):List QC:=xto++[⟨xtc,4,0,[⟨xo5,0,0,0,[in_ 5 m,in_ 17 0]⟩]⟩]
def xs9 (v u:QV)(m:Int):QW:=⟨xtn m,[⟨4,[v]⟩,⟨5,[u]⟩],4⟩
abbrev xtq (m:Int):StE:=xrb 5 xo5 0 0 [in_ 5 m,in_ 17 0]
theorem xtm:doE (stS (xo0 xa4)) (xtd xtc 4 0)=(stS ⟨xs7,[⟨4,[xa4]⟩],3⟩,noE 0 5):=by kernel_rfl
theorem xth (m:Int):wmE 6 5 ⟨xo5,0,0,0,[in_ 5 m,in_ 17 0]⟩=0:=by kernel_rfl
theorem xtg {m:Int}(h0:-1000<=m)(h1:m<=1000)(S:Int):xkV (xfq S 6 ⟨xo5,0,0,0,[in_ 5 m,in_ 17 0]⟩) 0 [in_ 5 m,in_ 17 0]=none:=by
 have hE:xnV (⟨#[]⟩:ByteArray)=true:=by kernel_rfl
 have hM:decide (-1073741824<=m/\m<=1073741824)=true:=by simp;omega
 have e1:xfq S 6 ⟨xo5,0,0,0,[in_ 5 m,in_ 17 0]⟩ (in_ 5 m)=0:=by
  simp only[xfq,in_,raE,inR,rnB]
  simp[hE]
  exact hM
 have e2:xfq S 6 ⟨xo5,0,0,0,[in_ 5 m,in_ 17 0]⟩ (in_ 17 0)=0:=by
  simp[xfq,in_,raE,inR,rnB,hE]
 simp[xkV,e1,e2]
theorem xtr {m:Int}(h0:-1000<=m)(h1:m<=1000):doE (stS ⟨xs7,[⟨4,[xa4]⟩],3⟩) (xtq m)=(stS ⟨xtn m,[⟨4,[xa4]⟩],4⟩,noE 0 0):=by
 have hc:xce (xaS xs7 5) xs7.length 5 ⟨xo5,0,0,0,[in_ 5 m,in_ 17 0]⟩=(0,0):=by
  unfold xce;rw[show wmE (xs7.length:Nat) 5 ⟨xo5,0,0,0,[in_ 5 m,in_ 17 0]⟩=0 from xth m]
  rw[if_neg (by simp)]
  rw[show xkV (xfq (xaS xs7 5) (xs7.length:Nat) ⟨xo5,0,0,0,[in_ 5 m,in_ 17 0]⟩) 0 [in_ 5 m,in_ 17 0]=none from xtg h0 h1 _]
  exact xs1 m
 unfold doE;rw[if_neg (by simp[xrb]),if_pos (show (xrb 5 xo5 0 0 [in_ 5 m,in_ 17 0]).kind=2 from rfl)]
 show (if (xce (xaS xs7 5) xs7.length 5 ⟨xo5,0,0,0,[in_ 5 m,in_ 17 0]⟩).1≠0 then _ else _)=_
 rw[hc,if_neg (by simp)]
 kernel_rfl
theorem xtp (m:Int):doE (stS ⟨xtn m,[⟨4,[xa4]⟩],4⟩) (xtb 5)=(stS (xs9 xa4 xa4 m),⟨0,1,⟨4,1⟩⟩):=by kernel_rfl
theorem xs6 {v u:QV}{m:Int}{k:Int}(hk:k=0\/k=1){name:ByteArray}{n:Int}(hn:xdz name=true)(h0:-1000<=n)(h1:n<=1000):xaH (xs9 v u m) ⟨4,k⟩ name [⟨3,n⟩] 400=0:=by
 have e:xaM ((xs9 v u m).heap.length) ⟨4,k⟩=0:=by rcases hk with rfl | rfl<;>kernel_rfl
 unfold xaH;rw[if_neg (by simp[hn]),if_neg (by simp),if_neg (by omega),if_neg (by simp[e])]
 simp[xbB,xoY h0 h1]
theorem xtj (v u:QV)(m n:Int):xmJ (xs9 v u m) ⟨4,0⟩ xlb [⟨3,n⟩] 400=(⟨[⟨4,[⟨3,n⟩]⟩,⟨5,[u]⟩],1,0,()⟩,⟨4,0⟩,0):=by kernel_rfl
theorem xtk (v u:QV)(m n:Int):xmJ (xs9 v u m) ⟨4,1⟩ xlb [⟨3,n⟩] 400=(⟨[⟨4,[v]⟩,⟨5,[⟨3,n⟩]⟩],1,0,()⟩,⟨4,1⟩,0):=by kernel_rfl
theorem xtl {v u:QV}{m n:Int}(h0:-1000<=n)(h1:n<=1000):doE (stS (xs9 v u m)) (xdj 4 ⟨4,0⟩ xlb [⟨3,n⟩])=(stS (xs9 ⟨3,n⟩ u m),⟨0,1,⟨4,0⟩⟩):=by
 rw[xpq];unfold xa2;rw[if_neg (by simp[xs6 (v:=v) (u:=u) (m:=m) (k:=0) (name:=xlb) (by simp) (by kernel_rfl) h0 h1]),xtj]
 rfl
theorem xti {v u:QV}{m n:Int}(h0:-1000<=n)(h1:n<=1000):doE (stS (xs9 v u m)) (xdj 4 ⟨4,1⟩ xlb [⟨3,n⟩])=(stS (xs9 v ⟨3,n⟩ m),⟨0,1,⟨4,1⟩⟩):=by
 rw[xpq];unfold xa2;rw[if_neg (by simp[xs6 (v:=v) (u:=u) (m:=m) (k:=1) (name:=xlb) (by simp) (by kernel_rfl) h0 h1]),xtk]
 rfl
theorem xta {u:QV}{n m t:Int}(h0:-1000<=n)(h1:n<=1000)(ht0:0<=t)(ht1:t<=60):doE (stS (xs9 ⟨3,n⟩ u m)) (xdj 4 ⟨4,0⟩ xgg [⟨3,t⟩])=(stS (xs9 ⟨3,n⟩ u m),⟨0,4*t+2,⟨3,n*t⟩⟩):=by
 rw[xpq,xkN (X:=xs9 ⟨3,n⟩ u m) (q:=in_ 4 0) (lt:=xrq) (gt:=xo5) (pl:=xrc) ht0 ht1 h0 h1 (xs6 (by simp) (by kernel_rfl) (by omega) (by omega))
  ⟨⟨xgg,1,2,0,xdJ xrq xo5 xrc⟩,by kernel_rfl,rfl,rfl,rfl,rfl⟩ ⟨⟨xrq,1,0,4,[]⟩,by kernel_rfl,rfl,rfl⟩ ⟨⟨xrc,1,0,1,[]⟩,by kernel_rfl,rfl,rfl⟩ ⟨⟨xo5,0,0,0,[in_ 4 0,in_ 17 0]⟩,by kernel_rfl,rfl,rfl,rfl⟩
  (fun f hf=>by unfold xan;rw[hf];rfl) (by decide)]
 rfl
theorem xtf {v u:QV}{m t:Int}(h0:-1000<=m)(h1:m<=1000)(ht0:0<=t)(ht1:t<=60):doE (stS (xs9 v u m)) (xdj 4 ⟨4,1⟩ xgg [⟨3,t⟩])=(stS (xs9 v u m),⟨0,4*t+2,⟨3,m*t⟩⟩):=by
 rw[xpq,xkN (X:=xs9 v u m) (q:=in_ 5 m) (lt:=xrq) (gt:=xo5) (pl:=xrc) ht0 ht1 h0 h1 (xs6 (by simp) (by kernel_rfl) (by omega) (by omega))
  ⟨⟨xgg,1,2,0,xdJ xrq xo5 xrc⟩,by kernel_rfl,rfl,rfl,rfl,rfl⟩ ⟨⟨xrq,1,0,4,[]⟩,by kernel_rfl,rfl,rfl⟩ ⟨⟨xrc,1,0,1,[]⟩,by kernel_rfl,rfl,rfl⟩ ⟨⟨xo5,0,0,0,[in_ 5 m,in_ 17 0]⟩,by kernel_rfl,rfl,rfl,rfl⟩
  (fun f hf=>by unfold xan;rfl) (by simp[in_])]
 rfl
theorem xte {n m t:Int}(h0:-1000<=n)(h1:n<=1000)(m0:-1000<=m)(m1:m<=1000)(ht0:0<=t)(ht1:t<=60) :
  xaW (stS xlV) (xik++[xtd xtc 4 0,xtq m,xtb 5,xdj 4 ⟨4,0⟩ xlb [⟨3,n⟩],xdj 4 ⟨4,1⟩ xlb [⟨3,n⟩],xdj 5 ⟨4,0⟩ xgg [⟨3,5⟩],xdj 6 ⟨4,1⟩ xgg [⟨3,t⟩],xdj 6 ⟨4,0⟩ xgg [⟨3,t⟩]])
   = five++[noE 0 5,noE 0 0,⟨0,1,⟨4,1⟩⟩,⟨0,1,⟨4,0⟩⟩,⟨0,1,⟨4,1⟩⟩,⟨0,4*5+2,⟨3,n*5⟩⟩,⟨0,4*t+2,⟨3,m*t⟩⟩,⟨0,4*t+2,⟨3,n*t⟩⟩]:=by
 rw[xer,xks,xos,xsR xsY _ (by simp)]
 show five++xaW (stS (xo0 xa4)) [xtd xtc 4 0,xtq m,xtb 5,xdj 4 ⟨4,0⟩ xlb [⟨3,n⟩],xdj 4 ⟨4,1⟩ xlb [⟨3,n⟩],xdj 4 ⟨4,0⟩ xgg [⟨3,5⟩],xdj 4 ⟨4,1⟩ xgg [⟨3,t⟩],xdj 4 ⟨4,0⟩ xgg [⟨3,t⟩]]=_
 simp only[xaW,xtm,xtr m0 m1,xtp,xtl h0 h1,xti h0 h1,xta h0 h1 (show (0:Int)<=5 by omega) (show (5:Int)<=60 by omega),xtf m0 m1 ht0 ht1,xta h0 h1 ht0 ht1]
end Go.Proofs.YtbafokihegegiaaGreatDoor
