import Derived.Test.YtbafokihegegiaaGreatDoorU22
import Derived.Test.YtbafokihegegiaaGreatDoorU24
import Derived.Shelf.LaysM
import Derived.Shelf.LaysC
import Derived.Shelf.Strconv.Itoa3
import Derived.Shelf.Strconv.AtoiAll
import Derived.Shelf.Strconv.ErrVarAll
import Derived.Shelf.Strconv.AppendIntPublic10
import Derived.Shelf.Bytes.SlIndexAt
import Derived.Shelf.Bytes.IndexByte
import Derived.Test.YtbafokihegegiaaGreatDoorProg
import Derived.Lib.AppendIntMem
import Derived.Lib.AppendStr
import Derived.Lib.OthersKept
import Derived.Lib.OwnKind
import Derived.Lib.ItoaLen
import Derived.Lib.Hide
import Derived.OwnWalk
namespace Go.Proofs.YtbafokihegegiaaGreatDoor
open ChangeShapes WideShapes ChangeAt RowKit
set_option linter.unusedSimpArgs false
set_option linter.unusedVariables false
set_option maxHeartbeats 8000000
set_option maxRecDepth 8000
theorem xsH {w:qW}{b:Nat}{x0 x1 x2 x3 x4 x5 x6 x7 x8 x9 x10:Value}{t:TypeId}(h:w.heap[b]?=some (qC #[x0,x1,x2,x3,x4,x5,x6,x7,x8,x9,x10] t (0,0))):(∀o,w.frozen? (O b o)=false)/\w.cell? (O b 0)=some x0/\w.cell? (O b 1)=some x1/\w.cell? (O b 2)=some x2/\w.cell? (O b 3)=some x3/\w.cell? (O b 4)=some x4/\w.cell? (O b 5)=some x5/\w.cell? (O b 6)=some x6/\w.cell? (O b 7)=some x7/\w.cell? (O b 8)=some x8/\w.cell? (O b 9)=some x9/\w.cell? (O b 10)=some x10:=by
 refine⟨BN h,?_,?_,?_,?_,?_,?_,?_,?_,?_,?_,?_⟩<;>(rw[Bn h];rfl)
theorem xsM {w:qW}{b:Nat}{x0 x1 x2 x3 x4 x5 x6 x7 x8 x9 c:Value}{t:TypeId}(h:w.heap[b]?=some (qC #[x0,x1,x2,x3,x4,x5,x6,x7,x8,x9,c] t (0,0)))(u0 u1 u2 u3 u4 u5 u6 u7 u8 u9 a:Value):(((((((((((w.setCell (O b 0) u0).setCell (O b 1) u1).setCell (O b 2) u2).setCell (O b 3) u3).setCell (O b 4) u4).setCell (O b 5) u5).setCell (O b 6) u6).setCell (O b 7) u7).setCell (O b 8) u8).setCell (O b 9) u9).setCell (O b 10) a).heap[b]?=some (qC #[u0,u1,u2,u3,u4,u5,u6,u7,u8,u9,a] t (0,0))/\Chg b w (((((((((((w.setCell (O b 0) u0).setCell (O b 1) u1).setCell (O b 2) u2).setCell (O b 3) u3).setCell (O b 4) u4).setCell (O b 5) u5).setCell (O b 6) u6).setCell (O b 7) u7).setCell (O b 8) u8).setCell (O b 9) u9).setCell (O b 10) a):=
 ⟨by rw[BW (BW (BW (BW (BW (BW (BW (BW (BW (BW (BW h _) _) _) _) _) _) _) _) _) _) _];simp only[Bj,Bl,Bk],((((((((((((Chg.refl _ _).set _ _).set _ _).set _ _).set _ _).set _ _).set _ _).set _ _).set _ _).set _ _).set _ _).set _ _)⟩
def CacC (W:qW)(X:QW)(r:Ran × CSt)(v5:Value)(wx:qW):Prop:=
 ∃(bA:Nat) (cv hv lv tv:Value),v5=qP bA/\wx.heap[bA]?=some (qC #[cv,hv,J X.ez,J r.1.v.k,J r.1.v.n,J r.1.err,J r.1.sz_,lv,tv,J r.2.hits,J r.2.nots] 100 (0,0))/\W.heap.size<=bA/\qY W wx/\BK (λb=>W.heap.size<=b) wx cv X.cz/\BP (λb=>W.heap.size<=b) wx hv r.1.heap/\Fj (λb=>W.heap.size<=b) wx lv r.2.cells/\Ep (λb=>W.heap.size<=b) wx tv r.2.ts
theorem Chg.dr {b:Nat}{w U:qW}(h:Chg b w U):Chg b w U.drew:=⟨h.os,h.tape,h.output,h.size,h.blk⟩
theorem PV {w:qW}{b:Nat}{o:Obj}(h:w.heap[b]?=some o):w.drew.heap[b]?=some o:=h
structure A5 (bA:Nat)(x0 x1 x2 x3 x4:Value)(w':qW):Prop where
 c0:w'.cell? (O bA 0)=some x0
 c1:w'.cell? (O bA 1)=some x1
 c2:w'.cell? (O bA 2)=some x2
 c7:w'.cell? (O bA 7)=some x3
 c8:w'.cell? (O bA 8)=some x4
theorem A5.set {bA:Nat}{x0 x1 x2 x3 x4:Value}{w':qW}(h:A5 bA x0 x1 x2 x3 x4 w'){b:Nat}(a:b≠bA)(o:Nat)(u:Value):A5 bA x0 x1 x2 x3 x4 (w'.setCell (O b o) u):=⟨(BV _ _ _ _ (by simpa using a)).trans h.c0,(BV _ _ _ _ (by simpa using a)).trans h.c1,(BV _ _ _ _ (by simpa using a)).trans h.c2,(BV _ _ _ _ (by simpa using a)).trans h.c7,(BV _ _ _ _ (by simpa using a)).trans h.c8⟩
theorem A5.dr {bA:Nat}{x0 x1 x2 x3 x4:Value}{w':qW}(h:A5 bA x0 x1 x2 x3 x4 w'):A5 bA x0 x1 x2 x3 x4 w'.drew:=⟨h.c0,h.c1,h.c2,h.c7,h.c8⟩
theorem A5.al {bA:Nat}{x0 x1 x2 x3 x4:Value}{w':qW}(h:A5 bA x0 x1 x2 x3 x4 w'):w'.cell? (O bA 0)=some x0/\w'.cell? (O bA 1)=some x1/\w'.cell? (O bA 2)=some x2/\w'.cell? (O bA 7)=some x3/\w'.cell? (O bA 8)=some x4:=⟨h.c0,h.c1,h.c2,h.c7,h.c8⟩
theorem xsO {w:qW}{sb:Nat}{cv hv:Value}{ep:Int}{lv tv sv:Value}(h:w.heap[sb]?=some (DR cv hv ep lv tv sv))(u0 u1:Value)(a:Int)(u3 u4:Value):(((((w.setCell (O sb 0) u0).setCell (O sb 1) u1).setCell (O sb 2) (J a)).setCell (O sb 3) u3).setCell (O sb 4) u4).heap[sb]?=some (DR u0 u1 a u3 u4 sv)/\Chg sb w (((((w.setCell (O sb 0) u0).setCell (O sb 1) u1).setCell (O sb 2) (J a)).setCell (O sb 3) u3).setCell (O sb 4) u4):=
 ⟨by rw[BW (BW (BW (BW (BW h _) _) _) _) _];rfl,(((((Chg.refl _ _).set _ _).set _ _).set _ _).set _ _).set _ _⟩
theorem xip {P Q:Nat->Prop}(s:Sn)(hX:BM s.X=0)(v:QV)(name:ByteArray)(a:List QV)(cv hv lv tv sv av:Value)(w:qW)(sb:Nat)(y:w.heap[sb]?=some (DR cv hv s.X.ez lv tv sv))(hS:SesAt P w cv hv lv tv s)(hP:∀b,P b->b≠sb)(hA:CG Q w av a)(hn:name.size<=140737488351232)(hf:CFew ⟨s.cells,s.ts,0,0⟩ 400) :
  Calls Tryz.prog 56 #[qP sb,EL v name av] w λe w'=>ArPost P w sb sv ⟨⟨s.X.cz,(DQ (Ds s.X 400) s.X ⟨s.cells,s.ts,0,0⟩ v name a 400).1.heap,s.X.ez⟩,(DQ (Ds s.X 400) s.X ⟨s.cells,s.ts,0,0⟩ v name a 400).2.cells,(DQ (Ds s.X 400) s.X ⟨s.cells,s.ts,0,0⟩ v name a 400).2.ts,s.saved⟩ (Es (DQ (Ds s.X 400) s.X ⟨s.cells,s.ts,0,0⟩ v name a 400).1) e w':=by
 have az:=λ(w':qW) (hb:qY w w')=>xmQ s.X hX v name a 400 s.cells s.ts cv hv av lv tv w' (hS.c.later Bw hb) (hS.h.later BB hb) (hA.later BZ hb) (hS.l.later Dc hb) (hS.t.later xbD hb) hn hf;obtain⟨r,hr⟩:∃r,DQ (Ds s.X 400) s.X ⟨s.cells,s.ts,0,0⟩ v name a 400=r:=⟨_,rfl⟩;rw[hr] at az ⊢;clear hr;obtain⟨ac,cc,rfl,-⟩:=id hS.c;obtain⟨ah,ch,rfl,-⟩:=id hS.h;obtain⟨al,kl,rfl,-⟩:=id hS.l;obtain⟨at',kt,rfl,-⟩:=id hS.t;obtain⟨aa,ca,rfl,-⟩:=id hA;have ar:=BG w (qK v name aa a ca) (qR);have b7:=By y;have hR:BxR sb (qS ac s.X.cz.length cc) (qS ah s.X.heap.length ch) s.X.ez (qS al s.cells.length kl) (qS at' s.ts.length kt) sv w.heap.size v name (qS aa a.length ca) ((w.alloc (qK v name aa a ca)).alloc (qR)):=⟨Bs y ar,Bs (BH w _) (Bg _ _),Dh _ _ _ (by simp)⟩
 have HS:=hid hS;clear hS hA y;go_enter Tryz.func56,Tryz.ntmps56;go_upto_region 1 with (fail);have b8:w.heap.size+2<=((w.alloc (qK v name aa a ca)).alloc (qR)).heap.size:=by simp
 generalize ((w.alloc (qK v name aa a ca)).alloc (qR))=W at *;have ae:∀W':qW,qY W W'->FZ sb (qS ac s.X.cz.length cc) (qS ah s.X.heap.length ch) s.X.ez (qS al s.cells.length kl) (qS at' s.ts.length kt) sv W'/\W'.cell? (O w.heap.size 0)=some (J v.k)/\W'.cell? (O w.heap.size 1)=some (J v.n)/\W'.cell? (O w.heap.size 2)=some (qZ name)/\W'.cell? (O w.heap.size 3)=some (qS aa a.length ca):=λW' hb=>(hR.later hb).al
 go_cut [5] (λv5 wx=>CacC W s.X r v5 wx)
 case first=>
  refine Fm (S:=λw'=>FZ sb (qS ac s.X.cz.length cc) (qS ah s.X.heap.length ch) s.X.ez (qS al s.cells.length kl) (qS at' s.ts.length kt) sv w'/\w'.cell? (O w.heap.size 0)=some (J v.k)/\w'.cell? (O w.heap.size 1)=some (J v.n)/\w'.cell? (O w.heap.size 2)=some (qZ name)/\w'.cell? (O w.heap.size 3)=some (qS aa a.length ca)) [] (by kernel_rfl) ?_;have hb:qY W W.drew:=(Br _ W).drew;generalize W.drew=U at *
  repeat' first
   | (
     refine tk 0 (⟨some 6,.move (.tmp 0),86,_,_,none⟩) (qP sb) rfl (ae _ hb) (λ_ _ _ h=>h) rfl ?_ ?_ ?_
     ·decide +kernel
     ·rintro w⟨⟨_,_,_,_,_,_⟩,_,_,_,_⟩;go_simp
     try simp only[Act.put,Bj,Bl,Bk])
   | (
     refine tk 1 (⟨some 7,.nilCheck (.tmp 6),0,_,_,none⟩) (qP sb) rfl (ae _ hb) (λ_ _ _ h=>h) rfl ?_ ?_ ?_
     ·decide +kernel
     ·rintro w⟨⟨_,_,_,_,_,_⟩,_,_,_,_⟩;go_simp
     try simp only[Act.put,Bj,Bl,Bk])
   | (
     refine tk 2 (⟨some 8,.fieldAddr 31 (.tmp 7) 0,0,_,_,none⟩) (qP sb) rfl (ae _ hb) (λ_ _ _ h=>h) rfl ?_ ?_ ?_
     ·decide +kernel
     ·rintro w⟨⟨_,_,_,_,_,_⟩,_,_,_,_⟩;go_simp
     try simp only[Act.put,Bj,Bl,Bk])
   | (
     refine tk 3 (⟨some 9,.load 26 (.tmp 8),26,_,_,none⟩) (qV ac cc ah ch s.X) rfl (ae _ hb) (λ_ _ _ h=>h) rfl ?_ ?_ ?_
     ·decide +kernel
     ·rintro w⟨⟨_,_,_,_,_,_⟩,_,_,_,_⟩;go_simp
     try simp only[Act.put,Bj,Bl,Bk])
   | (
     refine tk 4 (⟨some 10,.load 54 (.tmp 3),54,_,_,none⟩) (EL v name (qS aa a.length ca)) rfl (ae _ hb) (λ_ _ _ h=>h) rfl ?_ ?_ ?_
     ·decide +kernel
     ·rintro w⟨⟨_,_,_,_,_,_⟩,_,_,_,_⟩;go_simp
     try simp only[Act.put,Bj,Bl,Bk])
   | (
     refine tk 5 (⟨some 11,.move (.tmp 0),86,_,_,none⟩) (qP sb) rfl (ae _ hb) (λ_ _ _ h=>h) rfl ?_ ?_ ?_
     ·decide +kernel
     ·rintro w⟨⟨_,_,_,_,_,_⟩,_,_,_,_⟩;go_simp
     try simp only[Act.put,Bj,Bl,Bk])
   | (
     refine tk 6 (⟨some 12,.nilCheck (.tmp 11),0,_,_,none⟩) (qP sb) rfl (ae _ hb) (λ_ _ _ h=>h) rfl ?_ ?_ ?_
     ·decide +kernel
     ·rintro w⟨⟨_,_,_,_,_,_⟩,_,_,_,_⟩;go_simp
     try simp only[Act.put,Bj,Bl,Bk])
   | (
     refine tk 7 (⟨some 13,.fieldAddr 31 (.tmp 12) 1,0,_,_,none⟩) (.pointer (some (O sb 3))) rfl (ae _ hb) (λ_ _ _ h=>h) rfl ?_ ?_ ?_
     ·decide +kernel
     ·rintro w⟨⟨_,_,_,_,_,_⟩,_,_,_,_⟩;go_simp
     try simp only[Act.put,Bj,Bl,Bk])
   | (
     refine tk 8 (⟨some 14,.load 27 (.tmp 13),27,_,_,none⟩) (qS al s.cells.length kl) rfl (ae _ hb) (λ_ _ _ h=>h) rfl ?_ ?_ ?_
     ·decide +kernel
     ·rintro w⟨⟨_,_,_,_,_,_⟩,_,_,_,_⟩;go_simp
     try simp only[Act.put,Bj,Bl,Bk])
   | (
     refine tk 9 (⟨some 15,.move (.tmp 0),86,_,_,none⟩) (qP sb) rfl (ae _ hb) (λ_ _ _ h=>h) rfl ?_ ?_ ?_
     ·decide +kernel
     ·rintro w⟨⟨_,_,_,_,_,_⟩,_,_,_,_⟩;go_simp
     try simp only[Act.put,Bj,Bl,Bk])
   | (
     refine tk 10 (⟨some 16,.nilCheck (.tmp 15),0,_,_,none⟩) (qP sb) rfl (ae _ hb) (λ_ _ _ h=>h) rfl ?_ ?_ ?_
     ·decide +kernel
     ·rintro w⟨⟨_,_,_,_,_,_⟩,_,_,_,_⟩;go_simp
     try simp only[Act.put,Bj,Bl,Bk])
   | (
     refine tk 11 (⟨some 17,.fieldAddr 31 (.tmp 16) 2,0,_,_,none⟩) (.pointer (some (O sb 4))) rfl (ae _ hb) (λ_ _ _ h=>h) rfl ?_ ?_ ?_
     ·decide +kernel
     ·rintro w⟨⟨_,_,_,_,_,_⟩,_,_,_,_⟩;go_simp
     try simp only[Act.put,Bj,Bl,Bk])
   | (
     refine tk 12 (⟨some 18,.load 28 (.tmp 17),28,_,_,none⟩) (qS at' s.ts.length kt) rfl (ae _ hb) (λ_ _ _ h=>h) rfl ?_ ?_ ?_
     ·decide +kernel
     ·rintro w⟨⟨_,_,_,_,_,_⟩,_,_,_,_⟩;go_simp
     try simp only[Act.put,Bj,Bl,Bk])
   | (
     refine CN [13,14] rfl ?_ ⟨?_,?_,trivial⟩
     ·decide +kernel)
   | (
     refine CN [13] rfl ?_ ⟨?_,trivial⟩
     ·decide +kernel)
   | (
     refine CN [14] rfl ?_ ⟨?_,trivial⟩
     ·decide +kernel)
   | (
     refine CN [15] rfl ?_ ⟨?_,trivial⟩
     ·decide +kernel)
   | (
     refine Ck (o:=⟨some 19,.call ⟨.value (.func 86),#[.tmp 9,.tmp 10,.const (J 400),.tmp 14,.tmp 18],#[26,54,3,27,28]⟩,100,_,_,none⟩) rfl (λK' hK=>?_);have aj:=hb.size
     (try have ay:=au)
     have ak:=az U (Bh ar hb);obtain⟨lo,d⟩:∃lo,U.heap.size=lo:=⟨_,rfl⟩;rw[d] at aj
     (try rw[d] at ay)
     refine EX rfl 86 (.func 86) #[.tmp 9,.tmp 10,.const (J 400),.tmp 14,.tmp 18] _ rfl #[] rfl #[qV ac cc ah ch s.X,EL v name (qS aa a.length ca),J 400,qS al s.cells.length kl,qS at' s.ts.length kt] (by simp[Act.eval,Act.put]) (FN Tryz.func86 (by kernel_rfl) (by kernel_rfl) _ _) ?_;refine (show Calls Tryz.prog 86 #[qV ac cc ah ch s.X,EL v name (qS aa a.length ca),J 400,qS al s.cells.length kl,qS at' s.ts.length kt] U _ from ak.mono ?_);rintro e U ⟨f,ab,a0,T,a9,rfl,m,p,g,j⟩;rw[d] at m p g j;obtain⟨a3,k3,rfl,-⟩:=id m;obtain⟨a4,k4,rfl,-⟩:=id p;obtain⟨a5,k5,rfl,-⟩:=id g;obtain⟨a6,k6,rfl,-⟩:=id j;refine⟨_,rfl,?_⟩;replace hb:=Bh hb f;refine hK _ _ (λ_=>?_) ?_
     ·exact ae _ hb
     clear hK K' ak
     try simp only[Act.put,Bj,Bl,Bk]
     (try replace af:=Bs af f)
     (try replace au:=Cd au f.size)
     obtain⟨V,⟨L,R,M,N⟩,ag,ao,hu⟩:∃V:qW,(BK (λc=>lo<=c) V (qS a3 s.X.cz.length k3) s.X.cz/\BP (λc=>lo<=c) V (qS a4 r.1.heap.length k4) r.1.heap/\Fj (λc=>lo<=c) V (qS a5 r.2.cells.length k5) r.2.cells/\Ep (λc=>lo<=c) V (qS a6 r.2.ts.length k6) r.2.ts)/\(∀c,lo<=c->c<V.heap.size->U.heap[c]?=V.heap[c]?)/\V.heap.size<=U.heap.size/\lo<=V.heap.size:=⟨U,⟨m,p,g,j⟩,λ_ _ _=>rfl,Bq _,by rw[← d];exact f.size⟩
     clear m p g j f d)
   | (
     refine Ck (o:=⟨some 5,.alloc 100,0,_,_,none⟩) rfl (λK' hK=>?_);go_simp;refine hK _ _ (λ_=>?_) ?_
     ·exact ae _ (Bh hb (Bg _ _))
     clear hK K'
     try simp only[Act.put,Bj,Bl,Bk]
     have af:(U.alloc (qC #[qN,qN,J 0,J 0,J 0,J 0,J 0,qN,qN,J 0,J 0] 100)).heap[U.heap.size]?=some (qC #[qN,qN,J 0,J 0,J 0,J 0,J 0,qN,qN,J 0,J 0] 100 (0,0)):=BH _ _;have hk:=Bg U (qC #[qN,qN,J 0,J 0,J 0,J 0,J 0,qN,qN,J 0,J 0] 100);have an:=hb.size;have au:U.heap.size<(U.alloc (qC #[qN,qN,J 0,J 0,J 0,J 0,J 0,qN,qN,J 0,J 0] 100)).heap.size:=by simp
     replace hb:=Bh hb hk
     (try replace ag:=λc h1 h2=>(hk.block c (Cd h2 ao)).trans (ag c h1 h2))
     (try have ay:U.heap.size<lo\/V.heap.size<=U.heap.size:=.inr ao)
     (try replace ao:=BX ao hk.size)
     clear hk;generalize U.heap.size=bA at *;generalize U.alloc (qC #[qN,qN,J 0,J 0,J 0,J 0,J 0,qN,qN,J 0,J 0] 100)=U at *)
   | (
     refine Ck (o:=⟨none,.store 100 (.tmp 5) (.tmp 19),0,_,_,none⟩) rfl (λK' hK=>?_);have q:=xsH af;have rf:=q.1;have r0:=q.2.1;have r1:=q.2.2.1;have r2:=q.2.2.2.1;have r3:=q.2.2.2.2.1;have r4:=q.2.2.2.2.2.1;have r5:=q.2.2.2.2.2.2.1;have r6:=q.2.2.2.2.2.2.2.1;have r7:=q.2.2.2.2.2.2.2.2.1;have r8:=q.2.2.2.2.2.2.2.2.2.1;have r9:=q.2.2.2.2.2.2.2.2.2.2.1;have r10:=q.2.2.2.2.2.2.2.2.2.2.2;obtain⟨z,i⟩:=xsM af (qS a3 s.X.cz.length k3) (qS a4 r.1.heap.length k4) (J s.X.ez) (J r.1.v.k) (J r.1.v.n) (J r.1.err) (J r.1.sz_) (qS a5 r.2.cells.length k5) (qS a6 r.2.ts.length k6) (J r.2.hits) (J r.2.nots);go_simp;refine hK _ _ (λ_=>?_) ?_
     ·exact ae _ (hb.trans (i.below an))
     clear hK K' q rf r0 r1 r2 r3 r4 r5 r6 r7 r8 r9 r10
     try simp only[Act.put,Bj,Bl,Bk]
     replace af:=z;clear z;replace hb:=hb.trans (i.below an);replace ag:=λc h1 h2=>(i.blk c Zo).trans (ag c h1 h2);clear i;generalize (((((((((((U.setCell (O bA 0) (qS a3 s.X.cz.length k3)).setCell (O bA 1) (qS a4 r.1.heap.length k4)).setCell (O bA 2) (J s.X.ez)).setCell (O bA 3) (J r.1.v.k)).setCell (O bA 4) (J r.1.v.n)).setCell (O bA 5) (J r.1.err)).setCell (O bA 6) (J r.1.sz_)).setCell (O bA 7) (qS a5 r.2.cells.length k5)).setCell (O bA 8) (qS a6 r.2.ts.length k6)).setCell (O bA 9) (J r.2.hits)).setCell (O bA 10) (J r.2.nots))=U at *)
   | (
     refine EZ ?_ ?_ _
     ·decide +kernel
     try simp only[Act.put,Bj,Bl,Bk]
     have ax:Hid (CacC W s.X r (qP bA) U):=⟨bA,_,_,_,_,rfl,af,an,hb,L.keep Bw (Keeps.of_block ag) (λc h1=>BX aj h1),R.keep BB (Keeps.of_block ag) (λc h1=>BX aj h1),M.keep Dc (Keeps.of_block ag) (λc h1=>BX aj h1),N.keep xbD (Keeps.of_block ag) (λc h1=>BX aj h1)⟩
     go_wp2_with fail;go_meet
     case rel=>exact ax.out)
   | fail
 case rest=>
  obtain⟨bA,a2,a8,a1,a7,rfl,af,an,G,B,F,D,H⟩:=hcut;obtain⟨a3,k3,rfl,-⟩:=id B;obtain⟨a4,k4,rfl,-⟩:=id F;obtain⟨a5,k5,rfl,-⟩:=id D;obtain⟨a6,k6,rfl,-⟩:=id H;have am:=hR.later G;obtain⟨-,f0,f1,f2,f3,f4,f5,f6,f7,f8,f9,K⟩:=xsH af;obtain⟨s0,s1,s2,s3,s4,s5⟩:=Fc am.box;have sf:=BN am.box;have b3:¬ bA=sb:=by omega
  have b6:¬ sb=bA:=by omega
  have ad:sb≠bA:=by omega
  obtain⟨aw,ai⟩:=xsO am.box (qS a3 s.X.cz.length k3) (qS a4 r.1.heap.length k4) s.X.ez (qS a5 r.2.cells.length k5) (qS a6 r.2.ts.length k6);have b4:=hid am;go_upto_region 2 with (fail);have h5:A5 bA (qS a3 s.X.cz.length k3) (qS a4 r.1.heap.length k4) (J s.X.ez) (qS a5 r.2.cells.length k5) (qS a6 r.2.ts.length k6) wc:=⟨f0,f1,f2,f7,f8⟩
  go_region_held3 (λw'=>w'.cell? (O bA 0)=some (qS a3 s.X.cz.length k3)/\w'.cell? (O bA 1)=some (qS a4 r.1.heap.length k4)/\w'.cell? (O bA 2)=some (J s.X.ez)/\w'.cell? (O bA 7)=some (qS a5 r.2.cells.length k5)/\w'.cell? (O bA 8)=some (qS a6 r.2.ts.length k6))
   (first | with_reducible exact h5.dr.al | with_reducible exact (((h5.set ad _ _).set ad _ _).set ad _ _).dr.al | with_reducible exact ((((h5.set ad _ _).set ad _ _).set ad _ _).set ad _ _).dr.al | with_reducible exact (((((h5.set ad _ _).set ad _ _).set ad _ _).set ad _ _).set ad _ _).dr.al)
   (fail)
  replace ai:=ai.dr;replace aw:=PV aw;generalize (((((wc.setCell (O sb 0) (qS a3 s.X.cz.length k3)).setCell (O sb 1) (qS a4 r.1.heap.length k4)).setCell (O sb 2) (J s.X.ez)).setCell (O sb 3) (qS a5 r.2.cells.length k5)).setCell (O sb 4) (qS a6 r.2.ts.length k6)).drew=Y at *;clear f0 f1 f2 f3 f4 f5 f6 f7 f8 f9 K s0 s1 s2 s3 s4 s5 sf h5;have b1:=ai.held af b3;have b5:=ai.held b4.out.re Zo;obtain⟨-,-,-,-,g3,g4,g5,g6,-⟩:=xsH b1;have b2:=λw'=>xeI r.1 w';go_wp2_with fail;refine (b2 _).mono ?_;rintro e Z ⟨rfl,u⟩;have ap:=Bs b5 u;obtain⟨rf,r0,r1,r2,r3⟩:=Ec ap;obtain⟨hF,C⟩:=Fz ap (J (Es r.1).err) (J (Es r.1).n) (J (Es r.1).v.k) (J (Es r.1).v.n);have HF:=hid (NK (Bh ar G) ai u C Zo);have aq:=Bs aw u;have b0:=hid (C.held aq Zo);clear aq g3 g4 g5 g6;go_wp2;refine Bt (v:=Ej (Es r.1)) ?_ rfl ⟨rfl,⟨_,_,_,_,b0.out,⟨B.keep Bw (HF.out.keeps _ λb hb=>⟨by omega,by omega⟩) λb hb=>.inr Zo,F.keep BB (HF.out.keeps _ λb hb=>⟨by omega,by omega⟩) λb hb=>.inr Zo,D.keep Dc (HF.out.keeps _ λb hb=>⟨by omega,by omega⟩) λb hb=>.inr Zo,H.keep xbD (HF.out.keeps _ λb hb=>⟨by omega,by omega⟩) λb hb=>.inr Zo⟩⟩,HF.out.kp⟩
  simp[results,Tryz.results56,go_sem,r0,r1,r2,r3]
theorem QN {w:qW}{b:Nat}{x0 x1 x2 x3 x4 x5 x6 x7 x8 x9 c a x12:Value}{t:TypeId}(h:w.heap[b]?=some (qC #[x0,x1,x2,x3,x4,x5,x6,x7,x8,x9,c,a,x12] t (0,0))):w.cell? (O b 0)=some x0/\w.cell? (O b 1)=some x1/\w.cell? (O b 2)=some x2/\w.cell? (O b 3)=some x3/\w.cell? (O b 4)=some x4/\w.cell? (O b 5)=some x5/\w.cell? (O b 6)=some x6/\w.cell? (O b 7)=some x7/\w.cell? (O b 8)=some x8/\w.cell? (O b 9)=some x9/\w.cell? (O b 10)=some c/\w.cell? (O b 11)=some a/\w.cell? (O b 12)=some x12:=by
 refine⟨?_,?_,?_,?_,?_,?_,?_,?_,?_,?_,?_,?_,?_⟩<;>(rw[Bn h];rfl)
theorem xqE (s:Sn)(x:StE)(a:x.kind=2):Cg s x=Kn s x.cls x.meth:=by
 unfold Cg Kn NL Gv;rw[if_neg (by omega),if_pos a];split
 ·rfl
 cases Cy s.X.cz x.cls with
 | none=>simp
 | some y=>simp only;split<;>simp_all
theorem EH {w:qW}{b:Nat}{x0 x1 x2 x3 x4 x5:Value}{t:TypeId}(h:w.heap[b]?=some (qC #[x0,x1,x2,x3,x4,x5] t (0,0))):(∀o,w.frozen? (O b o)=false)/\w.cell? (O b 0)=some x0/\w.cell? (O b 1)=some x1/\w.cell? (O b 2)=some x2/\w.cell? (O b 3)=some x3/\w.cell? (O b 4)=some x4/\w.cell? (O b 5)=some x5:=by
 refine⟨BN h,?_,?_,?_,?_,?_,?_⟩<;>(rw[Bn h];rfl)
theorem Mm {w:qW}{b:Nat}{x0 x1 x2 x3 x4 x5:Value}{t:TypeId}(h:w.heap[b]?=some (qC #[x0,x1,x2,x3,x4,x5] t (0,0)))(u0 u1 u2 u3 u4 u5:Value):((((((w.setCell (O b 0) u0).setCell (O b 1) u1).setCell (O b 2) u2).setCell (O b 3) u3).setCell (O b 4) u4).setCell (O b 5) u5).heap[b]?=some (qC #[u0,u1,u2,u3,u4,u5] t (0,0))/\Chg b w ((((((w.setCell (O b 0) u0).setCell (O b 1) u1).setCell (O b 2) u2).setCell (O b 3) u3).setCell (O b 4) u4).setCell (O b 5) u5):=
 ⟨by rw[BW (BW (BW (BW (BW (BW h _) _) _) _) _) _];rfl,((((((Chg.refl _ _).set _ _).set _ _).set _ _).set _ _).set _ _).set _ _⟩
theorem xsB {P:Nat->Prop}(X:QW)(cv hv:Value)(w:qW)(i:BK P w cv X.cz)(c:BP P w hv X.heap):Calls Tryz.prog 32 #[WV cv hv X.ez] w λe w'=>qY w w'/\∃g gh,e=.returned (WV (qG g X.cz.length X.cz.length) (qG gh X.heap.length X.heap.length) X.ez)/\BK (λb=>w.heap.size<=b/\b<w'.heap.size) w' (qG g X.cz.length X.cz.length) X.cz/\BP (λb=>w.heap.size<=b/\b<w'.heap.size) w' (qG gh X.heap.length X.heap.length) X.heap:=by
 obtain⟨-,-,-,-,-,a,-⟩:=id c;refine (xlT X cv hv w i c).mono ?_;rintro e w' ⟨g,gh,sh,rfl,j,l,m,k⟩;have d:=l.heap a (T:=λb=>if gh<=b then 2 else 0) λb h _=>by rw[if_pos h]
 have f:=d.there;refine⟨k,g,gh,rfl,j.mono Bw λb h=>⟨h.1,by omega⟩,d.heap.mono BB λb h=>⟨?_,h.1⟩⟩;have c:=h.2;dsimp only at c;split at c
 ·omega
 cases c
theorem xsL {P:Nat->Prop}{l:List QE}{ts:List QT}{n:Nat}(a:CFew ⟨l,ts,0,0⟩ n)(v:Value)(w:qW)(h:Fj P w v l):Calls Tryz.prog 33 #[v] w λe w'=>qY w w'/\∃g,e=.returned (qG g l.length l.length)/\Fj (λb=>w.heap.size<=b/\b<w'.heap.size) w' (qG g l.length l.length) l:=by
 refine (NV l _ w h (by have:=a.c;simp only at this;omega) (λx j=>by have:=a.cl x j;omega)).mono ?_;rintro e w' ⟨g,rfl,i,d,f⟩;exact⟨f,g,rfl,(Nz (i.row0 xcN (by unfold maxLen;have:=a.c;simp only at this;omega))).mono Dc λb h=>⟨BX d h.1,h.2⟩⟩
theorem xsC {P:Nat->Prop}{l:List QE}{ts:List QT}{n:Nat}(a:CFew ⟨l,ts,0,0⟩ n)(v:Value)(w:qW)(h:Ep P w v ts):Calls Tryz.prog 34 #[v] w λe w'=>qY w w'/\∃g,e=.returned (qG g ts.length ts.length)/\Ep (λb=>w.heap.size<=b/\b<w'.heap.size) w' (qG g ts.length ts.length) ts:=by
 refine (xg4 ts _ w h (by have:=a.t;simp only at this;omega) (λx c=>by have:=a.tl x c;omega)).mono ?_;rintro e w' ⟨g,gs,rfl,k,i,j⟩;exact⟨j,g,rfl,k.tallies (by unfold maxLen;have:=a.t;simp only at this;omega) (λx c=>by unfold maxLen;have:=a.tl x c;omega) λb d f=>⟨BX i d,f⟩⟩
def Two (a b:Nat)(o p:Obj)(w:qW):Prop:=w.heap[a]?=some o/\w.heap[b]?=some p
theorem Two.later {a b:Nat}{o p:Obj}{w w':qW}(h:Two a b o p w)(c:qY w w'):Two a b o p w':=⟨Bs h.1 c,Bs h.2 c⟩
def xvl:Go.Shelf.Ren:=⟨fun | 176=>204 | 249=>243 | 288=>263 | 283=>175 | 284=>176 | 285=>177 | 286=>178 | 129=>218 | 317=>217 | 318=>219 | 319=>220 | 320=>221 | 337=>249 | 338=>250 | n=>n,fun | 37=>29 | 2=>2 | 3=>3 | 53=>248 | 4=>4 | 9=>9 | 171=>247 | 0=>0 | 173=>251 | 212=>285 | 51=>286 | 5=>5 | 20=>20 | 213=>287 | 46=>288 | 232=>333 | 233=>334 | n=>n,fun | 17=>0 | 18=>3 | 19=>4 | n=>n⟩
theorem xw0:Go.Proofs.LaysM.n176 Tryz.prog xvl:={
 mixed:=by kernel_rfl
 f129:=Tryz.func218.trans Zk
 f176:=Tryz.func204.trans Zk
 f249:=Tryz.func243.trans Zk
 f283:=Tryz.func175.trans Zk
 f284:=Tryz.func176.trans Zk
 f285:=Tryz.func177.trans Zk
 f286:=Tryz.func178.trans Zk
 f288:=Tryz.func263.trans Zk
 f317:=Tryz.func217.trans Zk
 f318:=Tryz.func219.trans Zk
 f319:=Tryz.func220.trans Zk
 f320:=Tryz.func221.trans Zk
 f337:=Tryz.func249.trans Zk
 f338:=Tryz.func250.trans Zk
 t0:=Tryz.underlying0
 a0:=Tryz.isAgg0
 z0:=Tryz.sizeOf0
 v0:=Tryz.zeroValue0
 t2:=Tryz.underlying2
 a2:=Tryz.isAgg2
 z2:=Tryz.sizeOf2
 v2:=Tryz.zeroValue2
 t3:=Tryz.underlying3
 a3:=Tryz.isAgg3
 z3:=Tryz.sizeOf3
 v3:=Tryz.zeroValue3
 t4:=Tryz.underlying4
 a4:=Tryz.isAgg4
 z4:=Tryz.sizeOf4
 v4:=Tryz.zeroValue4
 t5:=Tryz.underlying5
 a5:=Tryz.isAgg5
 z5:=Tryz.sizeOf5
 v5:=Tryz.zeroValue5
 t9:=Tryz.underlying9
 a9:=Tryz.isAgg9
 z9:=Tryz.sizeOf9
 v9:=Tryz.zeroValue9
 t20:=Tryz.underlying20
 a20:=Tryz.isAgg20
 z20:=Tryz.sizeOf20
 v20:=Tryz.zeroValue20
 t37:=Tryz.underlying29
 a37:=Tryz.isAgg29
 z37:=Tryz.sizeOf29
 v37:=Tryz.zeroValue29
 t46:=Tryz.underlying288
 a46:=Tryz.isAgg288
 z46:=Tryz.sizeOf288
 v46:=Tryz.zeroValue288
 t51:=Tryz.underlying286
 a51:=Tryz.isAgg286
 z51:=Tryz.sizeOf286
 v51:=Tryz.zeroValue286
 t53:=Tryz.underlying248
 a53:=Tryz.isAgg248
 z53:=Tryz.sizeOf248
 v53:=Tryz.zeroValue248
 t171:=Tryz.underlying247
 a171:=Tryz.isAgg247
 z171:=Tryz.sizeOf247
 v171:=Tryz.zeroValue247
 t173:=Tryz.underlying251
 a173:=Tryz.isAgg251
 z173:=Tryz.sizeOf251
 v173:=Tryz.zeroValue251
 t212:=Tryz.underlying285
 a212:=Tryz.isAgg285
 z212:=Tryz.sizeOf285
 v212:=Tryz.zeroValue285
 t213:=Tryz.underlying287
 a213:=Tryz.isAgg287
 z213:=Tryz.sizeOf287
 t232:=Tryz.underlying333
 a232:=Tryz.isAgg333
 z232:=Tryz.sizeOf333
 v232:=Tryz.zeroValue333
 t233:=Tryz.underlying334
 a233:=Tryz.isAgg334
 z233:=Tryz.sizeOf334
 v233:=Tryz.zeroValue334
 g17:=by kernel_rfl
 g18:=by kernel_rfl
 g19:=by kernel_rfl
 i0:=by kernel_rfl
 i2:=by kernel_rfl
 i3:=by kernel_rfl
 i4:=by kernel_rfl
 i5:=by kernel_rfl
 i9:=by kernel_rfl
 i20:=by kernel_rfl
 i37:=by kernel_rfl
 i46:=by kernel_rfl
 i51:=by kernel_rfl
 i53:=by kernel_rfl
 i171:=by kernel_rfl
 i173:=by kernel_rfl
 i212:=by kernel_rfl
 i232:=by kernel_rfl
 i233:=by kernel_rfl
 m17:=by kernel_rfl
 m18:=by kernel_rfl
 m19:=by kernel_rfl }
theorem strconv_AppendInt_10 (B n:Nat)(i:Int)(f:-9223372036854775808<=i)(g:i<=9223372036854775807)(sv:Value)(xs:List Value)(w:qW)(b:w.ownsRow B 5 1 sv n xs)(d:B<=w.heap.size)(a:n+21<=140737488355328)(c:Lib.TabBelow Tryz.prog B w "internal/strconv.uint64pow10" .u64 Lib.pow10Tab) :
  Calls Tryz.prog 204 #[sv,J i,J 10] w λe w'=>∃v',e=.returned v'/\w'.ownsRow B 5 1 v' (n+(Lib.itoa i).length) (xs++Lib.byteCells (Lib.itoa i))/\Below B w w'/\Lib.OthersKept 5 none w w':=Any.strconv_AppendInt_10 xw0 B n i f g sv xs w b d a c
def xvi:Go.Shelf.Ren:=⟨fun | 171=>71 | 243=>96 | 246=>121 | 283=>175 | 284=>176 | 285=>177 | 286=>178 | 129=>218 | 317=>217 | 318=>219 | 319=>220 | 320=>221 | 337=>249 | 338=>250 | n=>n,fun | 3=>3 | 9=>9 | 2=>2 | 4=>4 | 171=>247 | 0=>0 | 53=>248 | 37=>29 | 5=>5 | 173=>251 | 212=>285 | 51=>286 | 20=>20 | 213=>287 | 46=>288 | 232=>333 | 233=>334 | n=>n,fun | 17=>0 | 18=>3 | 19=>4 | n=>n⟩
theorem xwJ:Go.Proofs.LaysM.n171 Tryz.prog xvi:={
 mixed:=by kernel_rfl
 f129:=Tryz.func218.trans Zk
 f171:=Tryz.func71.trans Zk
 f243:=Tryz.func96.trans Zk
 f246:=Tryz.func121.trans Zk
 f283:=Tryz.func175.trans Zk
 f284:=Tryz.func176.trans Zk
 f285:=Tryz.func177.trans Zk
 f286:=Tryz.func178.trans Zk
 f317:=Tryz.func217.trans Zk
 f318:=Tryz.func219.trans Zk
 f319:=Tryz.func220.trans Zk
 f320:=Tryz.func221.trans Zk
 f337:=Tryz.func249.trans Zk
 f338:=Tryz.func250.trans Zk
 t0:=Tryz.underlying0
 a0:=Tryz.isAgg0
 z0:=Tryz.sizeOf0
 v0:=Tryz.zeroValue0
 t2:=Tryz.underlying2
 a2:=Tryz.isAgg2
 z2:=Tryz.sizeOf2
 v2:=Tryz.zeroValue2
 t3:=Tryz.underlying3
 a3:=Tryz.isAgg3
 z3:=Tryz.sizeOf3
 v3:=Tryz.zeroValue3
 t4:=Tryz.underlying4
 a4:=Tryz.isAgg4
 z4:=Tryz.sizeOf4
 v4:=Tryz.zeroValue4
 t5:=Tryz.underlying5
 a5:=Tryz.isAgg5
 z5:=Tryz.sizeOf5
 v5:=Tryz.zeroValue5
 t9:=Tryz.underlying9
 a9:=Tryz.isAgg9
 z9:=Tryz.sizeOf9
 v9:=Tryz.zeroValue9
 t20:=Tryz.underlying20
 a20:=Tryz.isAgg20
 z20:=Tryz.sizeOf20
 v20:=Tryz.zeroValue20
 t37:=Tryz.underlying29
 a37:=Tryz.isAgg29
 z37:=Tryz.sizeOf29
 v37:=Tryz.zeroValue29
 t46:=Tryz.underlying288
 a46:=Tryz.isAgg288
 z46:=Tryz.sizeOf288
 v46:=Tryz.zeroValue288
 t51:=Tryz.underlying286
 a51:=Tryz.isAgg286
 z51:=Tryz.sizeOf286
 v51:=Tryz.zeroValue286
 t53:=Tryz.underlying248
 a53:=Tryz.isAgg248
 z53:=Tryz.sizeOf248
 v53:=Tryz.zeroValue248
 t171:=Tryz.underlying247
 a171:=Tryz.isAgg247
 z171:=Tryz.sizeOf247
 v171:=Tryz.zeroValue247
 t173:=Tryz.underlying251
 a173:=Tryz.isAgg251
 z173:=Tryz.sizeOf251
 v173:=Tryz.zeroValue251
 t212:=Tryz.underlying285
 a212:=Tryz.isAgg285
 z212:=Tryz.sizeOf285
 v212:=Tryz.zeroValue285
 t213:=Tryz.underlying287
 a213:=Tryz.isAgg287
 z213:=Tryz.sizeOf287
 t232:=Tryz.underlying333
 a232:=Tryz.isAgg333
 z232:=Tryz.sizeOf333
 v232:=Tryz.zeroValue333
 t233:=Tryz.underlying334
 a233:=Tryz.isAgg334
 z233:=Tryz.sizeOf334
 v233:=Tryz.zeroValue334
 g17:=by kernel_rfl
 g18:=by kernel_rfl
 g19:=by kernel_rfl
 i0:=by kernel_rfl
 i2:=by kernel_rfl
 i3:=by kernel_rfl
 i4:=by kernel_rfl
 i5:=by kernel_rfl
 i9:=by kernel_rfl
 i20:=by kernel_rfl
 i37:=by kernel_rfl
 i46:=by kernel_rfl
 i51:=by kernel_rfl
 i53:=by kernel_rfl
 i171:=by kernel_rfl
 i173:=by kernel_rfl
 i212:=by kernel_rfl
 i232:=by kernel_rfl
 i233:=by kernel_rfl
 m17:=by kernel_rfl
 m18:=by kernel_rfl
 m19:=by kernel_rfl }
theorem strconv_Itoa (n:Int)(b:-9223372036854775808<=n)(c:n<=9223372036854775807)(w:qW)(a:Lib.TabIs Tryz.prog w "internal/strconv.uint64pow10" .u64 Lib.pow10Tab) :
  Calls Tryz.prog 71 #[J n] w λe w'=>e=.returned (qZ ⟨(Lib.itoa n).toArray⟩)/\∃k os,w'=Go.Sort.grow (w.drewN k) os:=Any.strconv_Itoa xwJ n b c w a
def xvh:Go.Shelf.Ren:=⟨fun | 172=>97 | 244=>122 | 245=>123 | 247=>179 | 279=>180 | 280=>181 | 281=>182 | 282=>183 | 287=>222 | 316=>223 | 171=>71 | 205=>224 | 321=>251 | 322=>252 | 243=>96 | 246=>121 | 283=>175 | 284=>176 | 285=>177 | 286=>178 | 129=>218 | 317=>217 | 318=>219 | 319=>220 | 320=>221 | 337=>249 | 338=>250 | n=>n,fun | 9=>9 | 3=>3 | 75=>167 | 76=>168 | 4=>4 | 5=>5 | 167=>253 | 37=>29 | 0=>0 | 85=>254 | 2=>2 | 168=>256 | 53=>248 | 175=>290 | 46=>288 | 210=>294 | 127=>321 | 145=>324 | 143=>322 | 21=>21 | 171=>247 | 173=>251 | 212=>285 | 51=>286 | 20=>20 | 213=>287 | 232=>333 | 233=>334 | 80=>145 | n=>n,fun | 15=>1 | 16=>2 | 17=>0 | 18=>3 | 19=>4 | n=>n⟩
theorem xu5:Go.Proofs.LaysC.n172 Tryz.prog xvh:={
 mixed:=by kernel_rfl
 f129:=Tryz.func218.trans Zk
 f171:=Tryz.func71.trans Zk
 f172:=Tryz.func97.trans Zk
 f205:=Tryz.func224.trans Zk
 f243:=Tryz.func96.trans Zk
 f244:=Tryz.func122.trans Zk
 f245:=Tryz.func123.trans Zk
 f246:=Tryz.func121.trans Zk
 f247:=Tryz.func179.trans Zk
 f279:=Tryz.func180.trans Zk
 f280:=Tryz.func181.trans Zk
 f281:=Tryz.func182.trans Zk
 f282:=Tryz.func183.trans Zk
 f283:=Tryz.func175.trans Zk
 f284:=Tryz.func176.trans Zk
 f285:=Tryz.func177.trans Zk
 f286:=Tryz.func178.trans Zk
 f287:=Tryz.func222.trans Zk
 f316:=Tryz.func223.trans Zk
 f317:=Tryz.func217.trans Zk
 f318:=Tryz.func219.trans Zk
 f319:=Tryz.func220.trans Zk
 f320:=Tryz.func221.trans Zk
 f321:=Tryz.func251.trans Zk
 f322:=Tryz.func252.trans Zk
 f337:=Tryz.func249.trans Zk
 f338:=Tryz.func250.trans Zk
 t0:=Tryz.underlying0
 a0:=Tryz.isAgg0
 z0:=Tryz.sizeOf0
 v0:=Tryz.zeroValue0
 t2:=Tryz.underlying2
 a2:=Tryz.isAgg2
 z2:=Tryz.sizeOf2
 v2:=Tryz.zeroValue2
 t3:=Tryz.underlying3
 a3:=Tryz.isAgg3
 z3:=Tryz.sizeOf3
 v3:=Tryz.zeroValue3
 t4:=Tryz.underlying4
 a4:=Tryz.isAgg4
 z4:=Tryz.sizeOf4
 v4:=Tryz.zeroValue4
 t5:=Tryz.underlying5
 a5:=Tryz.isAgg5
 z5:=Tryz.sizeOf5
 v5:=Tryz.zeroValue5
 t9:=Tryz.underlying9
 a9:=Tryz.isAgg9
 z9:=Tryz.sizeOf9
 v9:=Tryz.zeroValue9
 t20:=Tryz.underlying20
 a20:=Tryz.isAgg20
 z20:=Tryz.sizeOf20
 v20:=Tryz.zeroValue20
 t21:=Tryz.underlying21
 a21:=Tryz.isAgg21
 z21:=Tryz.sizeOf21
 v21:=Tryz.zeroValue21
 t37:=Tryz.underlying29
 a37:=Tryz.isAgg29
 z37:=Tryz.sizeOf29
 v37:=Tryz.zeroValue29
 t46:=Tryz.underlying288
 a46:=Tryz.isAgg288
 z46:=Tryz.sizeOf288
 v46:=Tryz.zeroValue288
 t51:=Tryz.underlying286
 a51:=Tryz.isAgg286
 z51:=Tryz.sizeOf286
 v51:=Tryz.zeroValue286
 t53:=Tryz.underlying248
 a53:=Tryz.isAgg248
 z53:=Tryz.sizeOf248
 v53:=Tryz.zeroValue248
 t75:=Tryz.underlying167
 a75:=Tryz.isAgg167
 z75:=Tryz.sizeOf167
 v75:=Tryz.zeroValue167
 t76:=Tryz.underlying168
 a76:=Tryz.isAgg168
 z76:=Tryz.sizeOf168
 v76:=Tryz.zeroValue168
 t85:=Tryz.underlying254
 a85:=Tryz.isAgg254
 z85:=Tryz.sizeOf254
 v85:=Tryz.zeroValue254
 t127:=Tryz.underlying321
 a127:=Tryz.isAgg321
 z127:=Tryz.sizeOf321
 v127:=Tryz.zeroValue321
 t143:=Tryz.underlying322
 a143:=Tryz.isAgg322
 z143:=Tryz.sizeOf322
 v143:=Tryz.zeroValue322
 t145:=Tryz.underlying324
 a145:=Tryz.isAgg324
 z145:=Tryz.sizeOf324
 v145:=Tryz.zeroValue324
 t167:=Tryz.underlying253
 a167:=Tryz.isAgg253
 z167:=Tryz.sizeOf253
 v167:=Tryz.zeroValue253
 t168:=Tryz.underlying256
 a168:=Tryz.isAgg256
 z168:=Tryz.sizeOf256
 v168:=Tryz.zeroValue256
 t171:=Tryz.underlying247
 a171:=Tryz.isAgg247
 z171:=Tryz.sizeOf247
 v171:=Tryz.zeroValue247
 t173:=Tryz.underlying251
 a173:=Tryz.isAgg251
 z173:=Tryz.sizeOf251
 v173:=Tryz.zeroValue251
 t175:=Tryz.underlying290
 a175:=Tryz.isAgg290
 z175:=Tryz.sizeOf290
 v175:=Tryz.zeroValue290
 t210:=Tryz.underlying294
 a210:=Tryz.isAgg294
 z210:=Tryz.sizeOf294
 v210:=Tryz.zeroValue294
 t212:=Tryz.underlying285
 a212:=Tryz.isAgg285
 z212:=Tryz.sizeOf285
 v212:=Tryz.zeroValue285
 t213:=Tryz.underlying287
 a213:=Tryz.isAgg287
 z213:=Tryz.sizeOf287
 t232:=Tryz.underlying333
 a232:=Tryz.isAgg333
 z232:=Tryz.sizeOf333
 v232:=Tryz.zeroValue333
 t233:=Tryz.underlying334
 a233:=Tryz.isAgg334
 z233:=Tryz.sizeOf334
 v233:=Tryz.zeroValue334
 g15:=by kernel_rfl
 g16:=by kernel_rfl
 g17:=by kernel_rfl
 g18:=by kernel_rfl
 g19:=by kernel_rfl
 t80:=Tryz.underlying145
 a80:=Tryz.isAgg145
 z80:=Tryz.sizeOf145
 v80:=Tryz.zeroValue145
 i0:=by kernel_rfl
 i2:=by kernel_rfl
 i3:=by kernel_rfl
 i4:=by kernel_rfl
 i5:=by kernel_rfl
 i9:=by kernel_rfl
 i20:=by kernel_rfl
 i21:=by kernel_rfl
 i37:=by kernel_rfl
 i46:=by kernel_rfl
 i51:=by kernel_rfl
 i53:=by kernel_rfl
 i75:=by kernel_rfl
 i76:=by kernel_rfl
 i80:=by kernel_rfl
 i85:=by kernel_rfl
 i127:=by kernel_rfl
 i143:=by kernel_rfl
 i145:=by kernel_rfl
 i167:=by kernel_rfl
 i168:=by kernel_rfl
 i171:=by kernel_rfl
 i173:=by kernel_rfl
 i175:=by kernel_rfl
 i210:=by kernel_rfl
 i212:=by kernel_rfl
 i232:=by kernel_rfl
 i233:=by kernel_rfl
 m15:=by kernel_rfl
 m16:=by kernel_rfl
 m17:=by kernel_rfl
 m18:=by kernel_rfl
 m19:=by kernel_rfl
 c0:=by kernel_rfl
 c2:=by kernel_rfl
 c3:=by kernel_rfl
 c4:=by kernel_rfl
 c5:=by kernel_rfl
 c9:=by kernel_rfl
 c20:=by kernel_rfl
 c21:=by kernel_rfl
 c37:=by kernel_rfl
 c46:=by kernel_rfl
 c51:=by kernel_rfl
 c53:=by kernel_rfl
 c75:=by kernel_rfl
 c76:=by kernel_rfl
 c80:=by kernel_rfl
 c85:=by kernel_rfl
 c127:=by kernel_rfl
 c143:=by kernel_rfl
 c145:=by kernel_rfl
 c167:=by kernel_rfl
 c168:=by kernel_rfl
 c171:=by kernel_rfl
 c173:=by kernel_rfl
 c175:=by kernel_rfl
 c210:=by kernel_rfl
 c212:=by kernel_rfl
 c213:=by kernel_rfl
 c232:=by kernel_rfl
 c233:=by kernel_rfl }
theorem xuy (s:ByteArray)(a:s.size<=281474976710656)(tp tr:TypeId)(p r:Value)(w:qW)(c:w.var? Tryz.prog "strconv.ErrSyntax" = some #[.iface tp p])(b:w.var? Tryz.prog "strconv.ErrRange" = some #[.iface tr r]) :
  Calls Tryz.prog 97 #[qZ s] w λe w'=>qY w w'/\∃v ev,e=.returned (.tuple #[J v,ev])/\((ev=.nilIface/\Lib.atoiAll s.data.toList=.ok v)\/((∃q,ev=.iface 256 q)/\∀u,Lib.atoiAll s.data.toList≠.ok u)):=by
 cases h:Lib.atoiAll s.data.toList
 ·refine (Any.strconv_Atoi_ok xu5 s (by omega) _ h w).mono ?_;rintro e w' ⟨rfl,g⟩;refine⟨?_,_,_,rfl,.inl ⟨rfl,rfl⟩⟩;rcases g with rfl | ⟨t,rfl⟩
  ·exact Br _ _
  exact Lib.bytesWorld_below _ _ _
 ·refine (Any.strconv_Atoi_syntax_var xu5 s a h tp p w c).mono ?_;rintro e w' ⟨N,rfl,-,-,f⟩;exact⟨f,_,_,rfl,.inr ⟨⟨_,rfl⟩,λu d=>by cases d⟩⟩
 refine (Any.strconv_Atoi_range_var xu5 s a h tr r w b).mono ?_;rintro e w' ⟨N,rfl,-,-,f⟩;exact⟨f,_,_,rfl,.inr ⟨⟨_,rfl⟩,λu d=>by cases d⟩⟩
def xvA:Go.Shelf.Ren:=⟨fun | 187=>245 | 255=>264 | n=>n,fun | 37=>29 | 5=>5 | 3=>3 | n=>n,fun | n=>n⟩
theorem xwC:Go.Proofs.Lays.n187 Tryz.prog xvA:={
 mixed:=by kernel_rfl
 f187:=Tryz.func245.trans Zk
 f255:=Tryz.func264.trans Zk
 t3:=Tryz.underlying3
 a3:=Tryz.isAgg3
 z3:=Tryz.sizeOf3
 v3:=Tryz.zeroValue3
 t5:=Tryz.underlying5
 a5:=Tryz.isAgg5
 z5:=Tryz.sizeOf5
 v5:=Tryz.zeroValue5
 t37:=Tryz.underlying29
 a37:=Tryz.isAgg29
 z37:=Tryz.sizeOf29
 v37:=Tryz.zeroValue29 }
theorem bytes_IndexByte_at (a:Addr)(n c:Nat)(xs:List Int)(cv:Int)(w:qW)(b:xs.length=n)(d:∀i,i<n->w.cell? (a.add i)=some (.int .u8 (xs.getD i 0))) :
  Calls Tryz.prog 245 #[qS (some a) n c,.int .u8 cv] w λe w'=>e=.returned (J (Lib.indexByte (Lib.bytesOf xs) cv.toNat.toUInt8))/\w'=w:=Any.bytes_IndexByte_at xwC a n c xs cv w b d
theorem bytes_IndexByte_nil (cv:Int)(w:qW) :
  Calls Tryz.prog 245 #[qN,.int .u8 cv] w λe w'=>e=.returned (J (-1))/\w'=w:=Any.bytes_IndexByte_nil xwC cv w
abbrev Tab (B:Nat)(w:qW):Prop:=Lib.TabBelow Tryz.prog B w "internal/strconv.uint64pow10" .u64 Lib.pow10Tab
theorem Tab.mono {B B':Nat}{w:qW}(h:Tab B w)(a:B<=B'):Tab B' w:=λw' b=>h w' (b.mono a)
structure WrS (bt:Nat)(l:List UInt8)(w:qW):Prop where
 ex:∃ad cap,w.heap[bt]?=some (qC #[qS ad l.length cap] 194 (0,0))/\w.ownsRow (bt+1) 5 1 (qS ad l.length cap) l.length (Lib.byteCells l)
 tab:Tab bt w
structure WrK (bt:Nat)(w w':qW):Prop where
 bel:Below bt w w'
 oth:Lib.OthersKept 5 (some bt) w w'
theorem WrK.refl (bt:Nat)(w:qW):WrK bt w w:=⟨.refl _ _,.refl _ _ _⟩
theorem WrK.trans {bt:Nat}{a b c:qW}(h:WrK bt a b)(k:WrK bt b c):WrK bt a c:=⟨h.bel.trans k.bel,h.oth.trans k.oth⟩
theorem WrK.drew {bt:Nat}{a b:qW}(h:WrK bt a b):WrK bt a b.drew:=⟨h.bel.drew,h.oth.drew⟩
theorem WrK.of_below {bt:Nat}{a b:qW}(d:bt<=a.heap.size)(h:qY a b):WrK bt a b:=
 ⟨h.mono d,λk o c _ _=>(h.block k (By c)).trans c⟩
theorem WrK.cell {bt:Nat}{w w':qW}(h:WrK bt w w'){b:Nat}{cs:Array Value}{t:TypeId}{fr:Nat × Nat}(d:w.heap[b]?=some (.cells cs t fr))(e:b≠bt)(f:t≠5):w'.heap[b]?=some (.cells cs t fr):=
 h.oth b _ d (by simpa using e) (λc fz a=>by injection a with _ a;exact f a)
theorem WrS.later {bt:Nat}{l:List UInt8}{w w':qW}(h:WrS bt l w)(b:qY w w'):WrS bt l w':=by
 obtain⟨ad,cap,a,d⟩:=h.ex;refine⟨⟨ad,cap,(b.block _ (By a)).trans a,d.1,?_⟩,h.tab.on (b.mono (Nat.le_of_lt (By a)))⟩;rcases d.2 with i | ⟨g,c,cur,e,j,f,r⟩
 ·exact .inl i
 exact .inr ⟨g,c,cur,e,j,(b.block _ (By f)).trans f,r⟩
theorem WrS.lt {bt:Nat}{l:List UInt8}{w:qW}(h:WrS bt l w):bt<w.heap.size:=by obtain⟨_,_,a,-⟩:=h.ex;exact By a
theorem Qn {w:qW}{B:Nat}{v:Value}{n:Nat}{xs:List Value}(h:w.ownsRow B 5 1 v n xs):∃ad cap,v=qS ad n cap:=by
 rcases h.2 with ⟨rfl,rfl⟩ | ⟨g,cap,cur,rfl,-⟩
 ·exact⟨_,_,rfl⟩
 exact⟨_,_,rfl⟩
theorem xwP {e:TypeId}{b:Option Nat}{w w':qW}(h:Lib.OthersKept e none w w'):Lib.OthersKept e b w w':=λk o c _ a=>h k o c (by simp) a
theorem xvM {w:qW}{B:Nat}{v:Value}{n:Nat}{xs:List Value}(h:w.ownsRow (B+1) 5 1 v n xs):some B≠v.ownBlock:=λe=>by
 have:=(h.lt B e.symm).1;omega
theorem xxD:(Tryz.prog.info? 5).map (λi=>(i.zero,i.size,i.bytes))=some (some (.int .u8 0),1,1):=by kernel_rfl
theorem xu3 {bt:Nat}{l l':List UInt8}{w w1 w2:qW}{sv v2:Value}{row:Option Nat}(h:WrS bt l w)(k:WrK bt w w1)(a:w1.heap[bt]?=some (qC #[sv] 194 (0,0)))
  (i:w1.grownBy w2 row) (f:some bt≠row) (d:∀g,row=some g->bt+1<=g/\∃c fz,w1.heap[g]?=some (.cells c 5 fz)) (b:w2.ownsRow (bt+1) 5 1 v2 l'.length (Lib.byteCells l')) :
  w2.heap[bt]?=some (qC #[sv] 194 (0,0))/\WrS bt l' (w2.setCell (O bt 0) v2)/\WrK bt w (w2.setCell (O bt 0) v2):=by
 have m:=By a;have e:w2.heap[bt]?=some (qC #[sv] 194 (0,0)):=(i.block bt m f).trans a;have bel:Below bt w w2:=k.bel.grown i (by omega) (λj n=>by have:=(d j n).1;omega);have oth:Lib.OthersKept 5 (some bt) w w2:=k.oth.grown i (λg i=>(d g i).2);have K:WrK bt w (w2.setCell (O bt 0) v2):=⟨bel.setCell (Bq _) _,oth.setCell _ rfl _⟩;obtain⟨ad,cap,rfl⟩:=Qn b;refine⟨e,⟨⟨ad,cap,by rw[BW e];rfl,ownsRow_setCell_below b (by simp) _⟩,h.tab.on K.bel⟩,K⟩
theorem Gy {bt:Nat}{l:List UInt8}{w:qW}(n:Int)(h:WrS bt l w)(N:Fd n)(y:l.length+64<=140737488355328) :
  Calls Tryz.prog 159 #[qP bt,J n] w λe w'=>e=.returned (.tuple #[])/\WrS bt (l++CQ n) w'/\WrK bt w w':=by
 obtain⟨ad,cap,f,i⟩:=id h.ex;have U:=h.lt;have c0:w.cell? (O bt 0)=some (qS ad l.length cap):=by rw[Bn f];rfl
 have cf:=BN f;have Y:Tab (bt+1) w:=h.tab.mono Zo;obtain⟨i0,hi,u,t,s⟩:=Gb xxD;have V:=hid (Lib.itoa_length_le n N.1 N.2);have HH:=hid h;clear h;have W:=strconv_AppendInt_10 (bt+1) l.length n N.1 N.2 _ _ w i U Zo Y;go_enter Tryz.func159,Tryz.ntmps159;go_wp2_with (go_at_call 204;refine W.mono ?_;rintro e w1 ⟨v1,rfl,b,k,o⟩;refine Hid.out ?_);refine Lib.hid ?_;have C:w1.heap[bt]?=some (qC #[qS ad l.length cap] 194 (0,0)):=(k.block bt Zo).trans f;have e1:Lib.byteCells l++Lib.byteCells (Lib.itoa n)=Lib.byteCells (l++Lib.itoa n):=by simp[Lib.byteCells]
 have X:=V.out;obtain⟨m,R⟩:∃m,m=Lib.itoa n:=⟨_,rfl⟩;have HM:=hid R;rw[← R] at b e1 X;clear R V W c0 cf;rw[e1,← List.length_append] at b;clear e1;obtain⟨q,L⟩:∃q,q=l++m:=⟨_,rfl⟩;rw[← L] at b;have HQ:=hid L;have Z:q.length<=l.length+21:=by rw[L,List.length_append];omega
 clear L X;obtain⟨a1,c,rfl⟩:=Qn b;have F:WrK bt w w1:=⟨k.mono Zo,xwP o⟩
 obtain⟨f0,S1,K1⟩:=xu3 (l':=q) (v2:=qS a1 q.length c) HH.out F C ⟨rfl,rfl,rfl,Bq _,λ_ _ _=>rfl⟩ (row:=none) (by simp) (λg Q=>by cases Q) b;have c0:w1.cell? (O bt 0)=some (qS ad l.length cap):=by rw[Bn C];rfl
 have cf:=BN C;have H:(w1.setCell (O bt 0) (qS a1 q.length c)).heap[bt]?=some (qC #[qS a1 q.length c] 194 (0,0)):=by rw[BW C];rfl
 have B:=ownsRow_setCell_below b (a:=(O bt 0)) (by simp) (qS a1 q.length c);have a0:=hid F;clear b k o F f i Y;go_upto_region 1 with (fail);clear c0 cf;have K:bt<(w1.setCell (O bt 0) (qS a1 q.length c)).heap.size:=By H;generalize (w1.setCell (O bt 0) (qS a1 q.length c))=W2 at *;have c0:W2.cell? (O bt 0)=some (qS a1 q.length c):=by rw[Bn H];rfl
 go_wp2_with (at_builtin;refine wpList_append_own _ rfl _ _ 29 rfl (bt+1) 5 i0 (.int .u8 0) 1 1 Tryz.underlying29 hi u t s rfl (by decide) _ _ _ rfl (B.alloc _) (O W2.heap.size 0) 1 1 [Value.int .u8 32] rfl rfl (by intro j u' M;match j,M with | 0,M=>simp at M;subst M;simp[Addr.add]) (by intro u' r;simp at r;subst r;rfl) (by unfold maxLen;omega) Zo (by simp;omega) ?_;intro v3 w3 d p _;refine Hid.out ?_);refine Lib.hid ?_;have G:(q++[32]).length=q.length+1:=by simp
 have e3:Lib.byteCells q++[Value.int .u8 32]=Lib.byteCells (q++[32]):=by simp[Lib.byteCells]
 rw[e3,← G] at d;have D:(W2.alloc (qC #[.int .u8 32] 5)).heap[bt]?=some (qC #[qS a1 q.length c] 194 (0,0)):=(Below.heap_alloc _ _ _ K).trans H;obtain⟨f3,S3,K3⟩:=xu3 S1 (WrK.of_below (Nat.le_of_lt K) (Bg W2 (qC #[.int .u8 32] 5))) D p (xvM B) (λg Q=>⟨(B.lt g Q).1,Lib.ownsRow_kind (B.alloc _) g Q⟩) d;obtain⟨a3,z,rfl⟩:=Qn d;have d0:w3.cell? (O bt 0)=some (qS a1 q.length c):=by rw[Bn f3];rfl
 have df:=BN f3;rw[G] at S3 K3;have S:=hid S3;have T:=hid K3;clear c0 B d e3 G p D S3 K3;go_wp2;refine bodyPost_end (v:=.tuple #[]) (by simp[results,Tryz.results159,go_sem]) rfl ⟨rfl,?_,K1.trans T.out⟩;have S3:=S.out;have e:=HQ.out;have e2:=HM.out;subst e2;subst e;unfold CQ;rw[← List.append_assoc];exact S3
theorem xuG {bt:Nat}{l:List UInt8}{w:qW}(s:ByteArray)(h:WrS bt l w)(t:l.length+s.size+64<=140737488355328) :
  Calls Tryz.prog 205 #[qP bt,qZ s] w λe w'=>e=.returned (.tuple #[])/\WrS bt (l++GX s) w'/\WrK bt w w':=by
 obtain⟨ad,cap,f,c⟩:=id h.ex;have L:=h.lt;have c0:w.cell? (O bt 0)=some (qS ad l.length cap):=by rw[Bn f];rfl
 have cf:=BN f;obtain⟨i0,Q,p,n,m⟩:=Gb xxD;have T:=hid h;clear h;go_enter Tryz.func205,Tryz.ntmps205;go_wp2_with (at_builtin;refine Lib.wpList_append_own_string _ rfl _ _ 29 9 rfl (bt+1) 5 i0 Tryz.underlying29 Tryz.underlying9 Q p n m _ _ _ rfl c s rfl (by unfold maxLen;omega) (by omega) L ?_;intro v1 w1 b k _;refine Hid.out ?_);refine Lib.hid ?_;have D:w1.heap[bt]?=some (qC #[qS ad l.length cap] 194 (0,0)):=(k.block bt (by omega) (xvM c)).trans f;have e1:Lib.byteCells l++Lib.strCells s=Lib.byteCells (l++s.data.toList):=by simp[Lib.byteCells,Lib.strCells]
 have e2:l.length+s.size=(l++s.data.toList).length:=by rw[List.length_append];rfl
 rw[e1,e2] at b;clear e1;obtain⟨q,M⟩:∃q,q=l++s.data.toList:=⟨_,rfl⟩;rw[← M] at b e2;have R:=hid M;have S:q.length<=l.length+s.size:=by omega
 clear M e2;obtain⟨f0,S1,K1⟩:=xu3 (l':=q) T.out (.refl _ _) f k (xvM c) (λg G=>⟨(c.lt g G).1,Lib.ownsRow_kind c g G⟩) b;obtain⟨a1,i,rfl⟩:=Qn b;have C:(w1.setCell (O bt 0) (qS a1 q.length i)).heap[bt]?=some (qC #[qS a1 q.length i] 194 (0,0)):=by rw[BW D];rfl
 have y:=ownsRow_setCell_below b (a:=(O bt 0)) (by simp) (qS a1 q.length i);clear c0 cf;have c0:w1.cell? (O bt 0)=some (qS ad l.length cap):=by rw[Bn D];rfl
 have cf:=BN D;clear b k f c;go_upto_region 1 with (fail);clear c0 cf;have F:bt<(w1.setCell (O bt 0) (qS a1 q.length i)).heap.size:=By C;generalize (w1.setCell (O bt 0) (qS a1 q.length i))=W2 at *;have c0:W2.cell? (O bt 0)=some (qS a1 q.length i):=by rw[Bn C];rfl
 go_wp2_with (at_builtin;refine wpList_append_own _ rfl _ _ 29 rfl (bt+1) 5 i0 (.int .u8 0) 1 1 Tryz.underlying29 Q p n m rfl (by decide) _ _ _ rfl (y.alloc _) (O W2.heap.size 0) 1 1 [Value.int .u8 32] rfl rfl (by intro j u' H;match j,H with | 0,H=>simp at H;subst H;simp[Addr.add]) (by intro u' r;simp at r;subst r;rfl) (by unfold maxLen;omega) (by omega) (by simp;omega) ?_;intro v3 w3 d o _;refine Hid.out ?_);refine Lib.hid ?_;have B:(q++[32]).length=q.length+1:=by simp
 have e3:Lib.byteCells q++[Value.int .u8 32]=Lib.byteCells (q++[32]):=by simp[Lib.byteCells]
 rw[e3,← B] at d;have z:(W2.alloc (qC #[.int .u8 32] 5)).heap[bt]?=some (qC #[qS a1 q.length i] 194 (0,0)):=(Below.heap_alloc _ _ _ F).trans C;obtain⟨f3,S3,K3⟩:=xu3 S1 (WrK.of_below (Nat.le_of_lt F) (Bg W2 (qC #[.int .u8 32] 5))) z o (xvM y) (λg G=>⟨(y.lt g G).1,Lib.ownsRow_kind (y.alloc _) g G⟩) d;obtain⟨a3,u,rfl⟩:=Qn d;have d0:w3.cell? (O bt 0)=some (qS a1 q.length i):=by rw[Bn f3];rfl
 have df:=BN f3;rw[B] at S3 K3;have K:=hid S3;have N:=hid K3;clear c0 y d e3 B o z S3 K3;go_wp2;refine bodyPost_end (v:=.tuple #[]) (by simp[results,Tryz.results205,go_sem]) rfl ⟨rfl,?_,K1.trans N.out⟩;have S3:=K.out;have e:=R.out;subst e;unfold GX;rw[← List.append_assoc];exact S3
theorem xu8 {s:ByteArray}(h:DC s=true):s.size<=12:=by
 unfold DC at h;simp only[Bool.and_eq_true,decide_eq_true_eq] at h;exact h.1.2
theorem xxz {a b:ByteArray}(h:CD a b=true):b.size=a.size:=by
 have e:a.toList=b.toList:=by simpa [CD] using h
 rw[ByteArray.toList_eq,ByteArray.toList_eq] at e;have:=congrArg List.length e;simpa using this.symm
def MD (x:QI):Prop:=x.name.size<=12
def xvK (m:QM):Prop:=m.name.size<=12/\∀x∈m.code,MD x
def QD (c:QC):Prop:=c.name.size<=12/\∀m∈c.mz,xvK m
theorem xwB {S n:Int}{m:QM}{x:QI}(h:DD S n m x=0):MD x:=by
 unfold DD at h;split at h
 ·cases h
 split at h
 ·cases h
 split at h
 ·cases h
 rename_i b;simp only[not_or,Decidable.not_not,Bool.not_eq_false] at b;obtain⟨a,c,d⟩:=b;unfold MD;unfold Kf at a;split at a
 ·exact xu8 a
 rw[xvP a];decide
theorem xuD {X:QW}(h:BM X=0):∀c∈X.cz,QD c:=by
 obtain⟨s,z,u,D⟩:=Gx h;obtain⟨z1,z2,z3,z4,z5⟩:=s;intro x B;obtain⟨k,o⟩:=List.getElem?_of_mem B;have f:=Bz o;have j:=z k x f o;have e:=u k x f o
 have n:DC x.name=true:=by
  unfold CY at j;split at j
  ·cases j
  rename_i C;simpa using C
 unfold Dm at e;split at e
 ·cases e
 split at e
 ·cases e
 have t:=Hm e;refine⟨xu8 n,λm r=>?_⟩;obtain⟨i,v⟩:=List.getElem?_of_mem r;have d:=t i m v;unfold Dn at d;split at d
 ·cases d
 split at d
 ·rename_i l;unfold Ft at l;rw[List.any_eq_true] at l;obtain⟨p,a,b⟩:=l;simp only[Bool.and_eq_true,decide_eq_true_eq] at b;obtain⟨⟨⟨⟨⟨-,e1⟩,e2⟩,e3⟩,e4⟩,e5⟩:=b
  have q:p.name.size<=12:=by
   unfold xrh at a;simp only[Zm,Zn,or_false] at a;rcases a with rfl | rfl | rfl | rfl | rfl<;>decide
  refine⟨by rw[xxz e1];exact q,λy g=>?_⟩;have:m.code=[]:=List.eq_nil_of_length_eq_zero e5;rw[this] at g
  cases g
 obtain⟨c1,c2,-⟩:=xvG d;obtain⟨-,n1,-,-,-⟩:=xxJ c1;exact⟨xu8 n1,λy g=>xwB (c2 y g)⟩
theorem Eg {n:Int}(h:Fd n):(CQ n).length<=22:=by
 unfold CQ;rw[List.length_append];have:=Lib.itoa_length_le n h.1 h.2;simp;omega
theorem PG (s:ByteArray):(GX s).length=s.size+1:=by
 unfold GX;rw[List.length_append];rfl
theorem xuN {α:Type}{enc:α->List UInt8}{k:Nat}:∀ {xs:List α},(∀x∈xs,(enc x).length<=k)->(DH enc xs).length<=xs.length*k
 | [],_=>by simp[DH]
 | x :: xs,h=>by
  have b:=h x (by simp);have c:=xuN (enc:=enc) (k:=k) (xs:=xs) (λy a=>h y (by simp[a]));unfold DH at *;rw[List.flatMap_cons,List.length_append,List.length_cons,Nat.add_mul];omega
theorem PZ {α:Type}{enc:α->List UInt8}{k n:Nat}{xs:List α}(a:xs.length<=n)(c:n<=1000)(h:∀x∈xs,(enc x).length<=k):(Hc enc xs).length<=22+n*k:=by
 unfold Hc;rw[List.length_append];have b:=Eg (n:=xs.length) ⟨by omega,by omega⟩;have d:=xuN h;have e:=Nat.mul_le_mul_right k a;omega
theorem xuZ {x:QI}(h:ND x)(c:MD x):(FT x).length<=57:=by
 obtain⟨b,a,-⟩:=h;unfold FT MD at *;have l1:=Eg b;have l2:=Eg a;rw[List.length_append,List.length_append];split
 ·rw[PG];omega
 simp;omega
theorem xu9 {m:QM}(h:Qd m)(a:xvK m):(GC m).length<=3600:=by
 obtain⟨-,c,f,g,d,e⟩:=h;have l1:=Eg c;have l2:=Eg f;have l3:=Eg g;have l4:=PZ (enc:=FT) (k:=57) d (by omega) (λx b=>xuZ (e x b) (a.2 x b));have l5:=a.1;unfold GC;simp only[List.length_append,PG];omega
theorem xuY {c:QC}(h:QP c)(a:QD c):(Gk c).length<=30000:=by
 obtain⟨-,d,g,e,f⟩:=h;have l1:=Eg d;have l2:=Eg g;have l4:=PZ (enc:=GC) (k:=3600) e (by omega) (λx b=>xu9 (f x b) (a.2 x b));have l5:=a.1;unfold Gk;simp only[List.length_append,PG];omega
theorem xvD {o:QO}(h:PN o):(GH o).length<=400:=by
 obtain⟨e,f,c⟩:=h;have l1:=Eg e
 have l4:=PZ (enc:=Gz) (k:=44) f (by omega) (λx d=>by
  have a:=Eg (c x d).1;have b:=Eg (c x d).2;unfold Gz;rw[List.length_append];omega)
 unfold GH;rw[List.length_append];omega
theorem xvU {X:QW}(h:BM X=0):(Ef X).length<=1000000:=by
 have b:=xuD h;obtain⟨c,⟨f,g⟩,d,e⟩:=xup h;have l1:=Eg c;have l2:=PZ (enc:=Gk) (k:=30000) f (by omega) (λx a=>xuY (g x a) (b x a));have l3:=PZ (enc:=GH) (k:=400) d (by omega) (λx a=>xvD (e x a));unfold Ef;simp only[List.length_append];omega
end Go.Proofs.YtbafokihegegiaaGreatDoor
