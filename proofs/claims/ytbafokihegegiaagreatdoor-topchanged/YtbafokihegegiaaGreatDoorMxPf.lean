/- A part. -/
import Derived.Test.YtbafokihegegiaaGreatDoorM25
namespace Go.Proofs.YtbafokihegegiaaGreatDoor
open Go.ChangeShapes Go.WideShapes Go.ChangeAt Go.RowKit
set_option linter.unusedSimpArgs false
set_option linter.unusedVariables false
set_option maxHeartbeats 8000000
set_option maxRecDepth 100000
theorem xs4 (m:Int):wmE 5 4 ⟨xo5,0,0,0,[in_ 5 m,in_ 17 0]⟩=0:=by kernel_rfl
theorem xs1 (m:Int):(xaN [in_ 5 m,in_ 17 0]).2=(0,0):=by kernel_rfl
theorem xsZ {m:Int}(h0:-1000<=m)(h1:m<=1000)(S:Int):xkV (xfq S 5 ⟨xo5,0,0,0,[in_ 5 m,in_ 17 0]⟩) 0 [in_ 5 m,in_ 17 0]=none:=by
 have hE:xnV (⟨#[]⟩:ByteArray)=true:=by kernel_rfl
 have hM:decide (-1073741824<=m/\m<=1073741824)=true:=by simp;omega
 have e1:xfq S 5 ⟨xo5,0,0,0,[in_ 5 m,in_ 17 0]⟩ (in_ 5 m)=0:=by
  simp only[xfq,in_,raE,inR,rnB]
  simp[hE]
  exact hM
 have e2:xfq S 5 ⟨xo5,0,0,0,[in_ 5 m,in_ 17 0]⟩ (in_ 17 0)=0:=by
  simp[xfq,in_,raE,inR,rnB,hE]
 simp[xkV,e1,e2]
def chC (m:Int):List QC:=xo1++[⟨nm [66,111,120],0,1,[⟨xo5,0,0,0,[in_ 5 m,in_ 17 0]⟩,⟨xlb,1,0,0,[in_ 2 0,in_ 12 0,in_ 1 0,in_ 17 0]⟩,⟨xgg,1,2,0,xdJ xrq xo5 xrc⟩]⟩]
def chX (v:QV)(m:Int):QW:=⟨chC m,[⟨4,[v]⟩],4⟩
theorem xsW {m:Int}(h0:-1000<=m)(h1:m<=1000)(s:Sn)(v:QV)(hs:s.X=xo0 v):doE s (xrb 4 xo5 0 0 [in_ 5 m,in_ 17 0])=(⟨chX v m,s.cells,s.ts,s.saved⟩,noE 0 0):=by
 obtain⟨X,c,ts,sv⟩:=s;simp only at hs;subst hs
 have hc:xce (xaS (xo0 v).cz 4) (xo0 v).cz.length 4 ⟨xo5,0,0,0,[in_ 5 m,in_ 17 0]⟩=(0,0):=by
  unfold xce;rw[show wmE ((xo0 v).cz.length:Nat) 4 ⟨xo5,0,0,0,[in_ 5 m,in_ 17 0]⟩=0 from xs4 m]
  rw[if_neg (by simp)]
  rw[show xkV (xfq (xaS (xo0 v).cz 4) ((xo0 v).cz.length:Nat) ⟨xo5,0,0,0,[in_ 5 m,in_ 17 0]⟩) 0 [in_ 5 m,in_ 17 0]=none from xsZ h0 h1 _]
  exact xs1 m
 unfold doE;rw[if_neg (by simp[xrb]),if_pos (show (xrb 4 xo5 0 0 [in_ 5 m,in_ 17 0]).kind=2 from rfl)]
 show (if (xce (xaS (xo0 v).cz 4) (xo0 v).cz.length 4 ⟨xo5,0,0,0,[in_ 5 m,in_ 17 0]⟩).1≠0 then _ else _)=_
 rw[hc,if_neg (by simp)]
 kernel_rfl
theorem xsV {n m t:Int}(h0:-1000<=m)(h1:m<=1000)(ht0:0<=t)(ht1:t<=60):xa2 (chX ⟨3,n⟩ m) ⟨4,0⟩ xgg [⟨3,t⟩] 400=⟨[⟨4,[⟨3,n⟩]⟩],⟨3,m*t⟩,0,4*t+2⟩:=
 xkN (X:=chX ⟨3,n⟩ m) (q:=in_ 5 m) (lt:=xrq) (gt:=xo5) (pl:=xrc) ht0 ht1 h0 h1 (by
   have e:xaM ((chX ⟨3,n⟩ m).heap.length) ⟨4,0⟩=0:=by kernel_rfl
   unfold xaH;rw[if_neg (by simp[show xdz xgg=true by kernel_rfl]),if_neg (by simp),if_neg (by omega),if_neg (by simp[e])]
   simp[xbB,xoY (show -1000<=t by omega) (show t<=1000 by omega)])
  ⟨⟨xgg,1,2,0,xdJ xrq xo5 xrc⟩,by kernel_rfl,rfl,rfl,rfl,rfl⟩ ⟨⟨xrq,1,0,4,[]⟩,by kernel_rfl,rfl,rfl⟩ ⟨⟨xrc,1,0,1,[]⟩,by kernel_rfl,rfl,rfl⟩ ⟨⟨xo5,0,0,0,[in_ 5 m,in_ 17 0]⟩,by kernel_rfl,rfl,rfl,rfl⟩
  (fun f hf=>by unfold xan;rfl) (by simp[in_])
end Go.Proofs.YtbafokihegegiaaGreatDoor
