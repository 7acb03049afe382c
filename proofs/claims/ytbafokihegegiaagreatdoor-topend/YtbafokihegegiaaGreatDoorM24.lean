/- A part. -/
import Derived.Test.YtbafokihegegiaaGreatDoorM21
import Derived.Test.YtbafokihegegiaaGreatDoorM23
namespace Go.Proofs.YtbafokihegegiaaGreatDoor
open Go.ChangeShapes Go.WideShapes Go.ChangeAt Go.RowKit
set_option linter.unusedSimpArgs false
set_option linter.unusedVariables false
set_option maxHeartbeats 8000000
set_option maxRecDepth 8000
theorem xsH {w:World}{b:Nat}{x0 x1 x2 x3 x4 x5 x6 x7 x8 x9 x10:Value}{t:TypeId}(h:w.heap[b]?=some (.cells #[x0,x1,x2,x3,x4,x5,x6,x7,x8,x9,x10] t (0,0))):(∀ o,w.frozen? ⟨b,o,none⟩=false)/\w.cell? ⟨b,0,none⟩=some x0/\w.cell? ⟨b,1,none⟩=some x1/\w.cell? ⟨b,2,none⟩=some x2/\w.cell? ⟨b,3,none⟩=some x3/\w.cell? ⟨b,4,none⟩=some x4/\w.cell? ⟨b,5,none⟩=some x5/\w.cell? ⟨b,6,none⟩=some x6/\w.cell? ⟨b,7,none⟩=some x7/\w.cell? ⟨b,8,none⟩=some x8/\w.cell? ⟨b,9,none⟩=some x9/\w.cell? ⟨b,10,none⟩=some x10:=by
 refine⟨xaq h,?_,?_,?_,?_,?_,?_,?_,?_,?_,?_,?_⟩<;>(rw[qzB h];rfl)
theorem xsM {w:World}{b:Nat}{x0 x1 x2 x3 x4 x5 x6 x7 x8 x9 x10:Value}{t:TypeId}(h:w.heap[b]?=some (.cells #[x0,x1,x2,x3,x4,x5,x6,x7,x8,x9,x10] t (0,0)))(u0 u1 u2 u3 u4 u5 u6 u7 u8 u9 u10:Value):(((((((((((w.setCell ⟨b,0,none⟩ u0).setCell ⟨b,1,none⟩ u1).setCell ⟨b,2,none⟩ u2).setCell ⟨b,3,none⟩ u3).setCell ⟨b,4,none⟩ u4).setCell ⟨b,5,none⟩ u5).setCell ⟨b,6,none⟩ u6).setCell ⟨b,7,none⟩ u7).setCell ⟨b,8,none⟩ u8).setCell ⟨b,9,none⟩ u9).setCell ⟨b,10,none⟩ u10).heap[b]?=some (.cells #[u0,u1,u2,u3,u4,u5,u6,u7,u8,u9,u10] t (0,0))/\Chg b w (((((((((((w.setCell ⟨b,0,none⟩ u0).setCell ⟨b,1,none⟩ u1).setCell ⟨b,2,none⟩ u2).setCell ⟨b,3,none⟩ u3).setCell ⟨b,4,none⟩ u4).setCell ⟨b,5,none⟩ u5).setCell ⟨b,6,none⟩ u6).setCell ⟨b,7,none⟩ u7).setCell ⟨b,8,none⟩ u8).setCell ⟨b,9,none⟩ u9).setCell ⟨b,10,none⟩ u10):=
 ⟨by rw[xae (xae (xae (xae (xae (xae (xae (xae (xae (xae (xae h _) _) _) _) _) _) _) _) _) _) _];simp only[List.setIfInBounds_toArray,List.set_cons_zero,List.set_cons_succ],((((((((((((Chg.refl _ _).set _ _).set _ _).set _ _).set _ _).set _ _).set _ _).set _ _).set _ _).set _ _).set _ _).set _ _)⟩
def CacC (W:World)(X:QW)(r:Ran × CSt)(v5:Value)(wx:World):Prop:=
 ∃ (bA:Nat) (cv hv lv tv:Value),v5=.pointer (some ⟨bA,0,none⟩)/\wx.heap[bA]?=some (.cells #[cv,hv,.int .i64 X.ez,.int .i64 r.1.v.k,.int .i64 r.1.v.n,.int .i64 r.1.err,.int .i64 r.1.sz_,lv,tv,.int .i64 r.2.hits,.int .i64 r.2.nots] 100 (0,0))/\W.heap.size<=bA/\Below W.heap.size W wx/\xag (fun b=>W.heap.size<=b) wx cv X.cz/\xav (fun b=>W.heap.size<=b) wx hv r.1.heap/\xbG (fun b=>W.heap.size<=b) wx lv r.2.cells/\xaI (fun b=>W.heap.size<=b) wx tv r.2.ts
theorem Chg.dr {b:Nat}{w U:World}(h:Chg b w U):Chg b w U.drew:=⟨h.os,h.tape,h.output,h.size,h.blk⟩
theorem xgO {w:World}{b:Nat}{o:Obj}(h:w.heap[b]?=some o):w.drew.heap[b]?=some o:=h
structure A5 (bA:Nat)(x0 x1 x2 x3 x4:Value)(w':World):Prop where
 c0:w'.cell? ⟨bA,0,none⟩=some x0
 c1:w'.cell? ⟨bA,1,none⟩=some x1
 c2:w'.cell? ⟨bA,2,none⟩=some x2
 c7:w'.cell? ⟨bA,7,none⟩=some x3
 c8:w'.cell? ⟨bA,8,none⟩=some x4
theorem A5.set {bA:Nat}{x0 x1 x2 x3 x4:Value}{w':World}(h:A5 bA x0 x1 x2 x3 x4 w'){b:Nat}(hb:b≠bA)(o:Nat)(u:Value):A5 bA x0 x1 x2 x3 x4 (w'.setCell ⟨b,o,none⟩ u):=⟨(World.cell?_setCell_far _ _ _ _ (by simpa using hb)).trans h.c0,(World.cell?_setCell_far _ _ _ _ (by simpa using hb)).trans h.c1,(World.cell?_setCell_far _ _ _ _ (by simpa using hb)).trans h.c2,(World.cell?_setCell_far _ _ _ _ (by simpa using hb)).trans h.c7,(World.cell?_setCell_far _ _ _ _ (by simpa using hb)).trans h.c8⟩
theorem A5.dr {bA:Nat}{x0 x1 x2 x3 x4:Value}{w':World}(h:A5 bA x0 x1 x2 x3 x4 w'):A5 bA x0 x1 x2 x3 x4 w'.drew:=⟨h.c0,h.c1,h.c2,h.c7,h.c8⟩
theorem A5.al {bA:Nat}{x0 x1 x2 x3 x4:Value}{w':World}(h:A5 bA x0 x1 x2 x3 x4 w'):w'.cell? ⟨bA,0,none⟩=some x0/\w'.cell? ⟨bA,1,none⟩=some x1/\w'.cell? ⟨bA,2,none⟩=some x2/\w'.cell? ⟨bA,7,none⟩=some x3/\w'.cell? ⟨bA,8,none⟩=some x4:=⟨h.c0,h.c1,h.c2,h.c7,h.c8⟩
theorem xsO {w:World}{sb:Nat}{cv hv:Value}{ep:Int}{lv tv sv:Value}(h:w.heap[sb]?=some (SeO cv hv ep lv tv sv))(u0 u1:Value)(ep':Int)(u3 u4:Value):(((((w.setCell ⟨sb,0,none⟩ u0).setCell ⟨sb,1,none⟩ u1).setCell ⟨sb,2,none⟩ (.int .i64 ep')).setCell ⟨sb,3,none⟩ u3).setCell ⟨sb,4,none⟩ u4).heap[sb]?=some (SeO u0 u1 ep' u3 u4 sv)/\Chg sb w (((((w.setCell ⟨sb,0,none⟩ u0).setCell ⟨sb,1,none⟩ u1).setCell ⟨sb,2,none⟩ (.int .i64 ep')).setCell ⟨sb,3,none⟩ u3).setCell ⟨sb,4,none⟩ u4):=
 ⟨by rw[xae (xae (xae (xae (xae h _) _) _) _) _];rfl,(((((Chg.refl _ _).set _ _).set _ _).set _ _).set _ _).set _ _⟩
theorem xip {P Q:Nat->Prop}(s:Sn)(hX:xau s.X=0)(v:QV)(name:ByteArray)(args:List QV)(cv hv lv tv sv av:Value)(w:World)(sb:Nat)(hbx:w.heap[sb]?=some (SeO cv hv s.X.ez lv tv sv))(hS:SesAt P w cv hv lv tv s)(hP:∀ b,P b->b≠sb)(hA:xaV Q w av args)(hn:name.size<=140737488351232)(hf:CFew ⟨s.cells,s.ts,0,0⟩ 400) :
  Calls Tryz.prog 56 #[.pointer (some ⟨sb,0,none⟩),ClV v name av] w fun e w'=>xct P w sb sv ⟨⟨s.X.cz,(xcb (xay s.X 400) s.X ⟨s.cells,s.ts,0,0⟩ v name args 400).1.heap,s.X.ez⟩,(xcb (xay s.X 400) s.X ⟨s.cells,s.ts,0,0⟩ v name args 400).2.cells,(xcb (xay s.X 400) s.X ⟨s.cells,s.ts,0,0⟩ v name args 400).2.ts,s.saved⟩ (xeR (xcb (xay s.X 400) s.X ⟨s.cells,s.ts,0,0⟩ v name args 400).1) e w':=by
 have hpl:=fun (w':World) (hb:Below w.heap.size w w')=>xmQ s.X hX v name args 400 s.cells s.ts cv hv av lv tv w' (hS.c.later xax hb) (hS.h.later xaB hb) (hA.later xa7 hb) (hS.l.later xbF hb) (hS.t.later xbD hb) hn hf
 obtain⟨r,hr⟩:∃ r,xcb (xay s.X 400) s.X ⟨s.cells,s.ts,0,0⟩ v name args 400=r:=⟨_,rfl⟩;rw[hr] at hpl ⊢;clear hr;obtain⟨ac,cc,rfl,-⟩:=id hS.c;obtain⟨ah,ch,rfl,-⟩:=id hS.h;obtain⟨al,kl,rfl,-⟩:=id hS.l;obtain⟨at',kt,rfl,-⟩:=id hS.t;obtain⟨aa,ca,rfl,-⟩:=id hA;have hbW:=xbp w (.cells #[.int .i64 v.k,.int .i64 v.n,.string name,.slice aa args.length ca] 54) (.cells #[.int .i64 0,.int .i64 0,.int .i64 0,.int .i64 0] 43);have hlt:=xam hbx;have hR:BxR sb (.slice ac s.X.cz.length cc) (.slice ah s.X.heap.length ch) s.X.ez (.slice al s.cells.length kl) (.slice at' s.ts.length kt) sv w.heap.size v name (.slice aa args.length ca) ((w.alloc (.cells #[.int .i64 v.k,.int .i64 v.n,.string name,.slice aa args.length ca] 54)).alloc (.cells #[.int .i64 0,.int .i64 0,.int .i64 0,.int .i64 0] 43)):=⟨xaa hbx hbW,xaa (heap_alloc_new w _) (xai _ _),xaR _ _ _ (by simp)⟩
 have HS:=hid hS;clear hS hA hbx;go_enter Tryz.func56,Tryz.ntmps56
 go_upto_region 1 with (fail)
 have hWn:w.heap.size+2<=((w.alloc (.cells #[.int .i64 v.k,.int .i64 v.n,.string name,.slice aa args.length ca] 54)).alloc (.cells #[.int .i64 0,.int .i64 0,.int .i64 0,.int .i64 0] 43)).heap.size:=by simp
 generalize ((w.alloc (.cells #[.int .i64 v.k,.int .i64 v.n,.string name,.slice aa args.length ca] 54)).alloc (.cells #[.int .i64 0,.int .i64 0,.int .i64 0,.int .i64 0] 43))=W at *;have hSl:∀ W':World,Below W.heap.size W W'->xdN sb (.slice ac s.X.cz.length cc) (.slice ah s.X.heap.length ch) s.X.ez (.slice al s.cells.length kl) (.slice at' s.ts.length kt) sv W'/\W'.cell? ⟨w.heap.size,0,none⟩=some (.int .i64 v.k)/\W'.cell? ⟨w.heap.size,1,none⟩=some (.int .i64 v.n)/\W'.cell? ⟨w.heap.size,2,none⟩=some (.string name)/\W'.cell? ⟨w.heap.size,3,none⟩=some (.slice aa args.length ca):=fun W' hb=>(hR.later hb).al
 go_cut [5] (fun v5 wx=>CacC W s.X r v5 wx)
 case first=>
  refine xat (S:=fun w'=>xdN sb (.slice ac s.X.cz.length cc) (.slice ah s.X.heap.length ch) s.X.ez (.slice al s.cells.length kl) (.slice at' s.ts.length kt) sv w'/\w'.cell? ⟨w.heap.size,0,none⟩=some (.int .i64 v.k)/\w'.cell? ⟨w.heap.size,1,none⟩=some (.int .i64 v.n)/\w'.cell? ⟨w.heap.size,2,none⟩=some (.string name)/\w'.cell? ⟨w.heap.size,3,none⟩=some (.slice aa args.length ca)) [] (by kernel_rfl) ?_
  have hb:Below W.heap.size W W.drew:=(Below.refl _ W).drew;generalize W.drew=U at *
  repeat' first
   | (
     refine tk 0 (⟨some 6,.move (.tmp 0),86,_,_,none⟩) (.pointer (some ⟨sb,0,none⟩)) rfl (hSl _ hb) (fun _ _ _ h=>h) rfl ?_ ?_ ?_
     ·decide +kernel
     ·intro w hSw;obtain⟨⟨q0,q1,q2,q3,q4,q5⟩,p0,p1,p2,p3⟩:=hSw;go_simp
     try simp only[Act.put,qzF,qzG,qzH])
   | (
     refine tk 1 (⟨some 7,.nilCheck (.tmp 6),0,_,_,none⟩) (.pointer (some ⟨sb,0,none⟩)) rfl (hSl _ hb) (fun _ _ _ h=>h) rfl ?_ ?_ ?_
     ·decide +kernel
     ·intro w hSw;obtain⟨⟨q0,q1,q2,q3,q4,q5⟩,p0,p1,p2,p3⟩:=hSw;go_simp
     try simp only[Act.put,qzF,qzG,qzH])
   | (
     refine tk 2 (⟨some 8,.fieldAddr 31 (.tmp 7) 0,0,_,_,none⟩) (.pointer (some ⟨sb,0,none⟩)) rfl (hSl _ hb) (fun _ _ _ h=>h) rfl ?_ ?_ ?_
     ·decide +kernel
     ·intro w hSw;obtain⟨⟨q0,q1,q2,q3,q4,q5⟩,p0,p1,p2,p3⟩:=hSw;go_simp
     try simp only[Act.put,qzF,qzG,qzH])
   | (
     refine tk 3 (⟨some 9,.load 26 (.tmp 8),26,_,_,none⟩) (WV (.slice ac s.X.cz.length cc) (.slice ah s.X.heap.length ch) s.X.ez) rfl (hSl _ hb) (fun _ _ _ h=>h) rfl ?_ ?_ ?_
     ·decide +kernel
     ·intro w hSw;obtain⟨⟨q0,q1,q2,q3,q4,q5⟩,p0,p1,p2,p3⟩:=hSw;go_simp
     try simp only[Act.put,qzF,qzG,qzH])
   | (
     refine tk 4 (⟨some 10,.load 54 (.tmp 3),54,_,_,none⟩) (ClV v name (.slice aa args.length ca)) rfl (hSl _ hb) (fun _ _ _ h=>h) rfl ?_ ?_ ?_
     ·decide +kernel
     ·intro w hSw;obtain⟨⟨q0,q1,q2,q3,q4,q5⟩,p0,p1,p2,p3⟩:=hSw;go_simp
     try simp only[Act.put,qzF,qzG,qzH])
   | (
     refine tk 5 (⟨some 11,.move (.tmp 0),86,_,_,none⟩) (.pointer (some ⟨sb,0,none⟩)) rfl (hSl _ hb) (fun _ _ _ h=>h) rfl ?_ ?_ ?_
     ·decide +kernel
     ·intro w hSw;obtain⟨⟨q0,q1,q2,q3,q4,q5⟩,p0,p1,p2,p3⟩:=hSw;go_simp
     try simp only[Act.put,qzF,qzG,qzH])
   | (
     refine tk 6 (⟨some 12,.nilCheck (.tmp 11),0,_,_,none⟩) (.pointer (some ⟨sb,0,none⟩)) rfl (hSl _ hb) (fun _ _ _ h=>h) rfl ?_ ?_ ?_
     ·decide +kernel
     ·intro w hSw;obtain⟨⟨q0,q1,q2,q3,q4,q5⟩,p0,p1,p2,p3⟩:=hSw;go_simp
     try simp only[Act.put,qzF,qzG,qzH])
   | (
     refine tk 7 (⟨some 13,.fieldAddr 31 (.tmp 12) 1,0,_,_,none⟩) (.pointer (some ⟨sb,3,none⟩)) rfl (hSl _ hb) (fun _ _ _ h=>h) rfl ?_ ?_ ?_
     ·decide +kernel
     ·intro w hSw;obtain⟨⟨q0,q1,q2,q3,q4,q5⟩,p0,p1,p2,p3⟩:=hSw;go_simp
     try simp only[Act.put,qzF,qzG,qzH])
   | (
     refine tk 8 (⟨some 14,.load 27 (.tmp 13),27,_,_,none⟩) (.slice al s.cells.length kl) rfl (hSl _ hb) (fun _ _ _ h=>h) rfl ?_ ?_ ?_
     ·decide +kernel
     ·intro w hSw;obtain⟨⟨q0,q1,q2,q3,q4,q5⟩,p0,p1,p2,p3⟩:=hSw;go_simp
     try simp only[Act.put,qzF,qzG,qzH])
   | (
     refine tk 9 (⟨some 15,.move (.tmp 0),86,_,_,none⟩) (.pointer (some ⟨sb,0,none⟩)) rfl (hSl _ hb) (fun _ _ _ h=>h) rfl ?_ ?_ ?_
     ·decide +kernel
     ·intro w hSw;obtain⟨⟨q0,q1,q2,q3,q4,q5⟩,p0,p1,p2,p3⟩:=hSw;go_simp
     try simp only[Act.put,qzF,qzG,qzH])
   | (
     refine tk 10 (⟨some 16,.nilCheck (.tmp 15),0,_,_,none⟩) (.pointer (some ⟨sb,0,none⟩)) rfl (hSl _ hb) (fun _ _ _ h=>h) rfl ?_ ?_ ?_
     ·decide +kernel
     ·intro w hSw;obtain⟨⟨q0,q1,q2,q3,q4,q5⟩,p0,p1,p2,p3⟩:=hSw;go_simp
     try simp only[Act.put,qzF,qzG,qzH])
   | (
     refine tk 11 (⟨some 17,.fieldAddr 31 (.tmp 16) 2,0,_,_,none⟩) (.pointer (some ⟨sb,4,none⟩)) rfl (hSl _ hb) (fun _ _ _ h=>h) rfl ?_ ?_ ?_
     ·decide +kernel
     ·intro w hSw;obtain⟨⟨q0,q1,q2,q3,q4,q5⟩,p0,p1,p2,p3⟩:=hSw;go_simp
     try simp only[Act.put,qzF,qzG,qzH])
   | (
     refine tk 12 (⟨some 18,.load 28 (.tmp 17),28,_,_,none⟩) (.slice at' s.ts.length kt) rfl (hSl _ hb) (fun _ _ _ h=>h) rfl ?_ ?_ ?_
     ·decide +kernel
     ·intro w hSw;obtain⟨⟨q0,q1,q2,q3,q4,q5⟩,p0,p1,p2,p3⟩:=hSw;go_simp
     try simp only[Act.put,qzF,qzG,qzH])
   | (
     refine rdy [13,14] rfl ?_ ⟨?_,?_,trivial⟩
     ·decide +kernel)
   | (
     refine rdy [13] rfl ?_ ⟨?_,trivial⟩
     ·decide +kernel)
   | (
     refine rdy [14] rfl ?_ ⟨?_,trivial⟩
     ·decide +kernel)
   | (
     refine rdy [15] rfl ?_ ⟨?_,trivial⟩
     ·decide +kernel)
   | (
     refine xa0 (o:=⟨some 19,.call ⟨.value (.func 86),#[.tmp 9,.tmp 10,.const (.int .i64 400),.tmp 14,.tmp 18],#[26,54,3,27,28]⟩,100,_,_,none⟩) rfl (fun K' hK=>?_)
     have hm0:=hb.size
     (try have hoA:=hlA)
     have hcall:=hpl U (xaf hbW hb);obtain⟨lo,hlo⟩:∃ lo,U.heap.size=lo:=⟨_,rfl⟩;rw[hlo] at hm0
     (try rw[hlo] at hoA)
     refine xa1 rfl 86 (.func 86) #[.tmp 9,.tmp 10,.const (.int .i64 400),.tmp 14,.tmp 18] _ rfl #[] rfl #[WV (.slice ac s.X.cz.length cc) (.slice ah s.X.heap.length ch) s.X.ez,ClV v name (.slice aa args.length ca),.int .i64 400,.slice al s.cells.length kl,.slice at' s.ts.length kt] (by simp[Act.eval,Act.put]) (xda Tryz.func86 (by kernel_rfl) (by kernel_rfl) _ _) ?_
     refine (show Calls Tryz.prog 86 #[WV (.slice ac s.X.cz.length cc) (.slice ah s.X.heap.length ch) s.X.ez,ClV v name (.slice aa args.length ca),.int .i64 400,.slice al s.cells.length kl,.slice at' s.ts.length kt] U _ from hcall.mono ?_)
     rintro e U ⟨hcV,cv2,hv2,lv2,tv2,rfl,hC1,hH1,hL1,hT1⟩;rw[hlo] at hC1 hH1 hL1 hT1;obtain⟨a3,k3,rfl,-⟩:=id hC1;obtain⟨a4,k4,rfl,-⟩:=id hH1;obtain⟨a5,k5,rfl,-⟩:=id hL1;obtain⟨a6,k6,rfl,-⟩:=id hT1;refine⟨_,rfl,?_⟩;replace hb:=xaf hb hcV;refine hK _ _ (fun _=>?_) ?_
     ·exact hSl _ hb
     clear hK K' hcall
     try simp only[Act.put,qzF,qzG,qzH]
     (try replace hZA:=xaa hZA hcV)
     (try replace hlA:=qzE hlA hcV.size)
     obtain⟨V,⟨hC2,hH2,hL2,hT2⟩,hag,hmV,hu⟩:∃ V:World,(xag (fun c=>lo<=c) V (.slice a3 s.X.cz.length k3) s.X.cz/\xav (fun c=>lo<=c) V (.slice a4 r.1.heap.length k4) r.1.heap/\xbG (fun c=>lo<=c) V (.slice a5 r.2.cells.length k5) r.2.cells/\xaI (fun c=>lo<=c) V (.slice a6 r.2.ts.length k6) r.2.ts)/\(∀ c,lo<=c->c<V.heap.size->U.heap[c]?=V.heap[c]?)/\V.heap.size<=U.heap.size/\lo<=V.heap.size:=⟨U,⟨hC1,hH1,hL1,hT1⟩,fun _ _ _=>rfl,qzC _,by rw[← hlo];exact hcV.size⟩
     clear hC1 hH1 hL1 hT1 hcV hlo)
   | (
     refine xa0 (o:=⟨some 5,.alloc 100,0,_,_,none⟩) rfl (fun K' hK=>?_)
     go_simp;refine hK _ _ (fun _=>?_) ?_
     ·exact hSl _ (xaf hb (xai _ _))
     clear hK K'
     try simp only[Act.put,qzF,qzG,qzH]
     have hZA:(U.alloc (.cells #[.slice none 0 0,.slice none 0 0,.int .i64 0,.int .i64 0,.int .i64 0,.int .i64 0,.int .i64 0,.slice none 0 0,.slice none 0 0,.int .i64 0,.int .i64 0] 100)).heap[U.heap.size]?=some (.cells #[.slice none 0 0,.slice none 0 0,.int .i64 0,.int .i64 0,.int .i64 0,.int .i64 0,.int .i64 0,.slice none 0 0,.slice none 0 0,.int .i64 0,.int .i64 0] 100 (0,0)):=heap_alloc_new _ _;have hk:=xai U (.cells #[.slice none 0 0,.slice none 0 0,.int .i64 0,.int .i64 0,.int .i64 0,.int .i64 0,.int .i64 0,.slice none 0 0,.slice none 0 0,.int .i64 0,.int .i64 0] 100);have hzA:=hb.size;have hlA:U.heap.size<(U.alloc (.cells #[.slice none 0 0,.slice none 0 0,.int .i64 0,.int .i64 0,.int .i64 0,.int .i64 0,.int .i64 0,.slice none 0 0,.slice none 0 0,.int .i64 0,.int .i64 0] 100)).heap.size:=by simp
     replace hb:=xaf hb hk
     (try replace hag:=fun c h1 h2=>(hk.block c (qzE h2 hmV)).trans (hag c h1 h2))
     (try have hoA:U.heap.size<lo\/V.heap.size<=U.heap.size:=.inr hmV)
     (try replace hmV:=qzD hmV hk.size)
     clear hk;generalize U.heap.size=bA at *;generalize U.alloc (.cells #[.slice none 0 0,.slice none 0 0,.int .i64 0,.int .i64 0,.int .i64 0,.int .i64 0,.int .i64 0,.slice none 0 0,.slice none 0 0,.int .i64 0,.int .i64 0] 100)=U at *)
   | (
     refine xa0 (o:=⟨none,.store 100 (.tmp 5) (.tmp 19),0,_,_,none⟩) rfl (fun K' hK=>?_)
     have q:=xsH hZA;have rf:=q.1;have r0:=q.2.1;have r1:=q.2.2.1;have r2:=q.2.2.2.1;have r3:=q.2.2.2.2.1;have r4:=q.2.2.2.2.2.1;have r5:=q.2.2.2.2.2.2.1;have r6:=q.2.2.2.2.2.2.2.1;have r7:=q.2.2.2.2.2.2.2.2.1;have r8:=q.2.2.2.2.2.2.2.2.2.1;have r9:=q.2.2.2.2.2.2.2.2.2.2.1;have r10:=q.2.2.2.2.2.2.2.2.2.2.2;obtain⟨hZn,hch⟩:=xsM hZA (.slice a3 s.X.cz.length k3) (.slice a4 r.1.heap.length k4) (.int .i64 s.X.ez) (.int .i64 r.1.v.k) (.int .i64 r.1.v.n) (.int .i64 r.1.err) (.int .i64 r.1.sz_) (.slice a5 r.2.cells.length k5) (.slice a6 r.2.ts.length k6) (.int .i64 r.2.hits) (.int .i64 r.2.nots);go_simp
     refine hK _ _ (fun _=>?_) ?_
     ·exact hSl _ (hb.trans (hch.below hzA))
     clear hK K' q rf r0 r1 r2 r3 r4 r5 r6 r7 r8 r9 r10
     try simp only[Act.put,qzF,qzG,qzH]
     replace hZA:=hZn;clear hZn;replace hb:=hb.trans (hch.below hzA);replace hag:=fun c h1 h2=>(hch.blk c (by omega)).trans (hag c h1 h2)
     clear hch;generalize (((((((((((U.setCell ⟨bA,0,none⟩ (.slice a3 s.X.cz.length k3)).setCell ⟨bA,1,none⟩ (.slice a4 r.1.heap.length k4)).setCell ⟨bA,2,none⟩ (.int .i64 s.X.ez)).setCell ⟨bA,3,none⟩ (.int .i64 r.1.v.k)).setCell ⟨bA,4,none⟩ (.int .i64 r.1.v.n)).setCell ⟨bA,5,none⟩ (.int .i64 r.1.err)).setCell ⟨bA,6,none⟩ (.int .i64 r.1.sz_)).setCell ⟨bA,7,none⟩ (.slice a5 r.2.cells.length k5)).setCell ⟨bA,8,none⟩ (.slice a6 r.2.ts.length k6)).setCell ⟨bA,9,none⟩ (.int .i64 r.2.hits)).setCell ⟨bA,10,none⟩ (.int .i64 r.2.nots))=U at *)
   | (
     refine xaE ?_ ?_ _
     ·decide +kernel
     try simp only[Act.put,qzF,qzG,qzH]
     have HFIN:Hid (CacC W s.X r (.pointer (some ⟨bA,0,none⟩)) U):=⟨bA,_,_,_,_,rfl,hZA,hzA,hb,hC2.keep xax (Keeps.of_block hag) (fun c h1=>qzD hm0 h1),hH2.keep xaB (Keeps.of_block hag) (fun c h1=>qzD hm0 h1),hL2.keep xbF (Keeps.of_block hag) (fun c h1=>qzD hm0 h1),hT2.keep xbD (Keeps.of_block hag) (fun c h1=>qzD hm0 h1)⟩
     go_wp2_with fail
     go_meet
     case rel=>exact HFIN.out)
   | fail
 case rest=>
  obtain⟨bA,cv3,hv3,lv3,tv3,rfl,hZA,hzA,hbF,hC3,hH3,hL3,hT3⟩:=hcut;obtain⟨a3,k3,rfl,-⟩:=id hC3;obtain⟨a4,k4,rfl,-⟩:=id hH3;obtain⟨a5,k5,rfl,-⟩:=id hL3;obtain⟨a6,k6,rfl,-⟩:=id hT3;have hRc:=hR.later hbF;obtain⟨-,f0,f1,f2,f3,f4,f5,f6,f7,f8,f9,f10⟩:=xsH hZA;obtain⟨s0,s1,s2,s3,s4,s5⟩:=xdY hRc.box;have sf:=xaq hRc.box;have hnb:¬ bA=sb:=by omega
  have hnb':¬ sb=bA:=by omega
  have hnb'':sb≠bA:=by omega
  obtain⟨hbY,hcY⟩:=xsO hRc.box (.slice a3 s.X.cz.length k3) (.slice a4 r.1.heap.length k4) s.X.ez (.slice a5 r.2.cells.length k5) (.slice a6 r.2.ts.length k6);have HRC:=hid hRc
  go_upto_region 2 with (fail)
  have h5:A5 bA (.slice a3 s.X.cz.length k3) (.slice a4 r.1.heap.length k4) (.int .i64 s.X.ez) (.slice a5 r.2.cells.length k5) (.slice a6 r.2.ts.length k6) wc:=⟨f0,f1,f2,f7,f8⟩
  go_region_held3 (fun w'=>w'.cell? ⟨bA,0,none⟩=some (.slice a3 s.X.cz.length k3)/\w'.cell? ⟨bA,1,none⟩=some (.slice a4 r.1.heap.length k4)/\w'.cell? ⟨bA,2,none⟩=some (.int .i64 s.X.ez)/\w'.cell? ⟨bA,7,none⟩=some (.slice a5 r.2.cells.length k5)/\w'.cell? ⟨bA,8,none⟩=some (.slice a6 r.2.ts.length k6))
   (first | with_reducible exact h5.dr.al | with_reducible exact (((h5.set hnb'' _ _).set hnb'' _ _).set hnb'' _ _).dr.al | with_reducible exact ((((h5.set hnb'' _ _).set hnb'' _ _).set hnb'' _ _).set hnb'' _ _).dr.al | with_reducible exact (((((h5.set hnb'' _ _).set hnb'' _ _).set hnb'' _ _).set hnb'' _ _).set hnb'' _ _).dr.al)
   (fail)
  replace hcY:=hcY.dr;replace hbY:=xgO hbY;generalize (((((wc.setCell ⟨sb,0,none⟩ (.slice a3 s.X.cz.length k3)).setCell ⟨sb,1,none⟩ (.slice a4 r.1.heap.length k4)).setCell ⟨sb,2,none⟩ (.int .i64 s.X.ez)).setCell ⟨sb,3,none⟩ (.slice a5 r.2.cells.length k5)).setCell ⟨sb,4,none⟩ (.slice a6 r.2.ts.length k6)).drew=Y at *;clear f0 f1 f2 f3 f4 f5 f6 f7 f8 f9 f10 s0 s1 s2 s3 s4 s5 sf h5;have hZY:=hcY.held hZA hnb;have hre:=hcY.held HRC.out.re (by omega)
  obtain⟨-,-,-,-,g3,g4,g5,g6,-⟩:=xsH hZY;have hrp:=fun w'=>xeI r.1 w'
  go_wp2_with fail;refine (hrp _).mono ?_;rintro e Z ⟨rfl,hbZ⟩;have hreZ:=xaa hre hbZ;obtain⟨rf,r0,r1,r2,r3⟩:=bx4 hreZ;obtain⟨hF,hcF⟩:=xk4 hreZ (.int .i64 (xeR r.1).err) (.int .i64 (xeR r.1).n) (.int .i64 (xeR r.1).v.k) (.int .i64 (xeR r.1).v.n);have HF:=hid (xjZ (xaf hbW hbF) hcY hbZ hcF (by omega))
  have hbZY:=xaa hbY hbZ;have HBF:=hid (hcF.held hbZY (by omega))
  clear hbZY g3 g4 g5 g6;go_wp2;refine bodyPost_ret (v:=ReV (xeR r.1)) ?_ rfl ⟨rfl,⟨_,_,_,_,HBF.out,⟨hC3.keep xax (HF.out.keeps _ fun b hb=>⟨by omega,by omega⟩) fun b hb=>.inr (by omega),hH3.keep xaB (HF.out.keeps _ fun b hb=>⟨by omega,by omega⟩) fun b hb=>.inr (by omega),hL3.keep xbF (HF.out.keeps _ fun b hb=>⟨by omega,by omega⟩) fun b hb=>.inr (by omega),hT3.keep xbD (HF.out.keeps _ fun b hb=>⟨by omega,by omega⟩) fun b hb=>.inr (by omega)⟩⟩,HF.out.kp⟩
  simp[results,Tryz.results56,go_sem,r0,r1,r2,r3]
theorem xqT {P:Nat->Prop}{w W Z F:World}{sb rb:Nat}{sv:Value}{s:Sn}{r:ReE}{e:Ending}(h1:Below w.heap.size w W)(ha:xct P W sb sv s r e Z)(hc:Chg rb Z F)(hr:w.heap.size<=rb)(hrW:rb<W.heap.size)(hs:sb<w.heap.size)(hPl:∀ b,P b->b<w.heap.size):xct P w sb sv s r e F:=by
 obtain⟨he,⟨cv,hv,lv,tv,hb,hS⟩,hk⟩:=ha;have hz:=h1.size;refine⟨he,⟨cv,hv,lv,tv,hc.held hb (by omega),hS.keep (hc.keeps fun h=>?_) fun b h=>?_⟩,hc.os.trans (hk.os.trans h1.os),hc.tape.trans (hk.tape.trans h1.tape),hc.output.trans (hk.output.trans h1.output),?_,fun b hb hn=>?_⟩
 ·rcases h with h | h
  ·have:=hPl _ h;omega
  ·omega
 ·rcases h with h | h
  ·exact .inl h
  ·exact .inr (by omega)
 ·have:=hc.size;have:=hk.size;omega
 ·rw[hc.blk b (by omega),hk.blk b (by omega) hn,h1.block b hb]
theorem xsG {w:World}{b:Nat}{x0 x1 x2 x3 x4 x5 x6 x7 x8 x9 x10 x11 x12:Value}{t:TypeId}(h:w.heap[b]?=some (.cells #[x0,x1,x2,x3,x4,x5,x6,x7,x8,x9,x10,x11,x12] t (0,0))):w.cell? ⟨b,0,none⟩=some x0/\w.cell? ⟨b,1,none⟩=some x1/\w.cell? ⟨b,2,none⟩=some x2/\w.cell? ⟨b,3,none⟩=some x3/\w.cell? ⟨b,4,none⟩=some x4/\w.cell? ⟨b,5,none⟩=some x5/\w.cell? ⟨b,6,none⟩=some x6/\w.cell? ⟨b,7,none⟩=some x7/\w.cell? ⟨b,8,none⟩=some x8/\w.cell? ⟨b,9,none⟩=some x9/\w.cell? ⟨b,10,none⟩=some x10/\w.cell? ⟨b,11,none⟩=some x11/\w.cell? ⟨b,12,none⟩=some x12:=by
 refine⟨?_,?_,?_,?_,?_,?_,?_,?_,?_,?_,?_,?_,?_⟩<;>(rw[qzB h];rfl)
theorem xqE (s:Sn)(x:StE)(hx:x.kind=2):doE s x=xm3 s x.cls x.meth:=by
 unfold doE xm3 erI inX;rw[if_neg (by omega),if_pos hx]
 split
 ·rfl
 ·cases xa8 s.X.cz x.cls with
  | none=>simp
  | some y=>simp only;split<;>simp_all
theorem xpm {P Q:Nat->Prop}{i:Nat}(s:Sn)(hI:SInv i s)(hf:xoZ s 400)(x:StE)(hk:1<=x.kind/\x.kind<=6)(hN:NamesOk x)(cv hv lv tv sv mv av:Value)(w:World)(sb:Nat)(hbx:w.heap[sb]?=some (SeO cv hv s.X.ez lv tv sv))(hS:SesAt P w cv hv lv tv s)(hP:∀ b,P b->b≠sb)(hPl:∀ b,P b->b<w.heap.size)(hM:xaG Q w mv x.meth.code)(hA:xaV Q w av x.args):Calls Tryz.prog 37 #[.pointer (some ⟨sb,0,none⟩),StV x mv av] w fun e w'=>xct P w sb sv (doE s x).1 (doE s x).2 e w':=by
 obtain⟨kind,cls,slots,name,meth,sf,cname,args⟩:=x;obtain⟨n0,n1,n2⟩:=hN;simp only at hk n0 n1 n2 hM hA;have A1:Hid (∃ R,doE s ⟨1,cls,slots,name,meth,sf,cname,args⟩=R/\∀ w':World,Below w.heap.size w w'->Calls Tryz.prog 52 #[.pointer (some ⟨sb,0,none⟩),StV ⟨1,cls,slots,name,meth,sf,cname,args⟩ mv av] w' fun e w''=>xct P w' sb sv R.1 R.2 e w''):=⟨mkR s ⟨1,cls,slots,name,meth,sf,cname,args⟩,by unfold doE mkR;rw[if_pos rfl],fun w' hb=>xiK s (xcn hI.right) ⟨1,cls,slots,name,meth,sf,cname,args⟩ cv hv lv tv sv mv av w' sb (xaa hbx hb) (hS.keep (Keeps.of_below hb) fun _ h=>h) hP (hM.later xaU hb) (hA.later xa7 hb) n0⟩
 have A2:Hid (∃ R,doE s ⟨2,cls,slots,name,meth,sf,cname,args⟩=R/\∀ w':World,Below w.heap.size w w'->Calls Tryz.prog 53 #[.pointer (some ⟨sb,0,none⟩),.int .i64 cls,MV meth mv] w' fun e w''=>xct P w' sb sv R.1 R.2 e w''):=⟨xm3 s cls meth,xqE s ⟨2,cls,slots,name,meth,sf,cname,args⟩ rfl,fun w' hb=>xkX s cls meth cv hv lv tv sv mv w' sb (xaa hbx hb) (hS.keep (Keeps.of_below hb) fun _ h=>h) hP (hM.later xaU hb) n1⟩
 have A3:Hid (∃ R,doE s ⟨3,cls,slots,name,meth,sf,cname,args⟩=R/\∀ w':World,Below w.heap.size w w'->Calls Tryz.prog 54 #[.pointer (some ⟨sb,0,none⟩),.int .i64 cls] w' fun e w''=>xct P w' sb sv R.1 R.2 e w''):=⟨obR s cls,by unfold doE obR;rw[if_neg (by simp),if_neg (by simp),if_pos rfl],fun w' hb=>xhy s hI.right cls cv hv lv tv sv w' sb (xaa hbx hb) (hS.keep (Keeps.of_below hb) fun _ h=>h) hP⟩
 have A4:Hid (∃ R,doE s ⟨4,cls,slots,name,meth,sf,cname,args⟩=R/\∀ w':World,Below w.heap.size w w'->Calls Tryz.prog 55 #[.pointer (some ⟨sb,0,none⟩),ClV sf cname av] w' fun e w''=>xct P w' sb sv R.1 R.2 e w''):=⟨(⟨⟨s.X.cz,(xa2 s.X sf cname args 400).heap,s.X.ez⟩,s.cells,s.ts,s.saved⟩,xeR (xa2 s.X sf cname args 400)),by unfold doE;rw[if_neg (by simp),if_neg (by simp),if_neg (by simp),if_pos (by simp)],fun w' hb=>xke s hI.right sf cname args cv hv lv tv sv av w' sb (xaa hbx hb) (hS.keep (Keeps.of_below hb) fun _ h=>h) hP (hA.later xa7 hb) n2⟩
 have A5:Hid (∃ R,doE s ⟨5,cls,slots,name,meth,sf,cname,args⟩=R/\∀ w':World,Below w.heap.size w w'->Calls Tryz.prog 56 #[.pointer (some ⟨sb,0,none⟩),ClV sf cname av] w' fun e w''=>xct P w' sb sv R.1 R.2 e w''):=⟨(⟨⟨s.X.cz,(xcb (xay s.X 400) s.X ⟨s.cells,s.ts,0,0⟩ sf cname args 400).1.heap,s.X.ez⟩,(xcb (xay s.X 400) s.X ⟨s.cells,s.ts,0,0⟩ sf cname args 400).2.cells,(xcb (xay s.X 400) s.X ⟨s.cells,s.ts,0,0⟩ sf cname args 400).2.ts,s.saved⟩,xeR (xcb (xay s.X 400) s.X ⟨s.cells,s.ts,0,0⟩ sf cname args 400).1),by unfold doE;rw[if_neg (by simp),if_neg (by simp),if_neg (by simp),if_neg (by simp),if_pos rfl],fun w' hb=>xip s hI.right sf cname args cv hv lv tv sv av w' sb (xaa hbx hb) (hS.keep (Keeps.of_below hb) fun _ h=>h) hP (hA.later xa7 hb) n2 hf⟩
 have A6:Hid (∃ R,doE s ⟨6,cls,slots,name,meth,sf,cname,args⟩=R/\∀ w':World,Below w.heap.size w w'->Calls Tryz.prog 57 #[.pointer (some ⟨sb,0,none⟩),ClV sf cname av] w' fun e w''=>xct P w' sb sv R.1 R.2 e w''):=⟨(⟨⟨s.X.cz,(xa2 s.X sf cname args 400).heap,s.X.ez⟩,s.cells,s.ts,s.saved⟩,xeR (xa2 s.X sf cname args 400)),by unfold doE;rw[if_neg (by simp),if_neg (by simp),if_neg (by simp),if_pos (by simp)],fun w' hb=>xkL s hI.right sf cname args cv hv lv tv sv av w' sb (xaa hbx hb) (hS.keep (Keeps.of_below hb) fun _ h=>h) hP (hA.later xa7 hb) n2⟩
 obtain⟨am,cm,rfl,-⟩:=id hM;obtain⟨aa,ca,rfl,-⟩:=id hA;have hlt:=xam hbx;clear hbx hS hM hA hf hI n0 n1 n2;have hbW:=xbp w (.cells #[.int .i64 kind,.string name,.int .i64 cls,.int .i64 slots,.string meth.name,.int .i64 meth.args,.int .i64 meth.temps,.int .i64 meth.prim,.slice am meth.code.length cm,.int .i64 sf.k,.int .i64 sf.n,.string cname,.slice aa args.length ca] 56) (.cells #[.int .i64 0,.int .i64 0,.int .i64 0,.int .i64 0] 43);have hre0:((w.alloc (.cells #[.int .i64 kind,.string name,.int .i64 cls,.int .i64 slots,.string meth.name,.int .i64 meth.args,.int .i64 meth.temps,.int .i64 meth.prim,.slice am meth.code.length cm,.int .i64 sf.k,.int .i64 sf.n,.string cname,.slice aa args.length ca] 56)).alloc (.cells #[.int .i64 0,.int .i64 0,.int .i64 0,.int .i64 0] 43)).heap[w.heap.size+1]?=some (.cells #[.int .i64 0,.int .i64 0,.int .i64 0,.int .i64 0] 43 (0,0)):=xaR _ _ _ (by simp)
 have hp0:((w.alloc (.cells #[.int .i64 kind,.string name,.int .i64 cls,.int .i64 slots,.string meth.name,.int .i64 meth.args,.int .i64 meth.temps,.int .i64 meth.prim,.slice am meth.code.length cm,.int .i64 sf.k,.int .i64 sf.n,.string cname,.slice aa args.length ca] 56)).alloc (.cells #[.int .i64 0,.int .i64 0,.int .i64 0,.int .i64 0] 43)).heap[w.heap.size]?=some (.cells #[.int .i64 kind,.string name,.int .i64 cls,.int .i64 slots,.string meth.name,.int .i64 meth.args,.int .i64 meth.temps,.int .i64 meth.prim,.slice am meth.code.length cm,.int .i64 sf.k,.int .i64 sf.n,.string cname,.slice aa args.length ca] 56 (0,0)):=xaa (heap_alloc_new w _) (xai _ _)
 have hWn:w.heap.size+2<=((w.alloc (.cells #[.int .i64 kind,.string name,.int .i64 cls,.int .i64 slots,.string meth.name,.int .i64 meth.args,.int .i64 meth.temps,.int .i64 meth.prim,.slice am meth.code.length cm,.int .i64 sf.k,.int .i64 sf.n,.string cname,.slice aa args.length ca] 56)).alloc (.cells #[.int .i64 0,.int .i64 0,.int .i64 0,.int .i64 0] 43)).heap.size:=by simp
 obtain⟨W,hW⟩:∃ W,(w.alloc (.cells #[.int .i64 kind,.string name,.int .i64 cls,.int .i64 slots,.string meth.name,.int .i64 meth.args,.int .i64 meth.temps,.int .i64 meth.prim,.slice am meth.code.length cm,.int .i64 sf.k,.int .i64 sf.n,.string cname,.slice aa args.length ca] 56)).alloc (.cells #[.int .i64 0,.int .i64 0,.int .i64 0,.int .i64 0] 43)=W:=⟨_,rfl⟩;rw[hW] at hbW hre0 hp0 hWn;replace hW:=hid hW;have:kind=1\/kind=2\/kind=3\/kind=4\/kind=5\/kind=6:=by omega
 rcases this with rfl | rfl | rfl | rfl | rfl | rfl
 all_goals
  first
   | (obtain⟨R,hR,hc⟩:=A1.out;rw[hR])
   | (obtain⟨R,hR,hc⟩:=A2.out;rw[hR])
   | (obtain⟨R,hR,hc⟩:=A3.out;rw[hR])
   | (obtain⟨R,hR,hc⟩:=A4.out;rw[hR])
   | (obtain⟨R,hR,hc⟩:=A5.out;rw[hR])
   | (obtain⟨R,hR,hc⟩:=A6.out;rw[hR])
  clear A1 A2 A3 A4 A5 A6 hR;obtain⟨p0,p1,p2,p3,p4,p5,p6,p7,p8,p9,p10,p11,p12⟩:=xsG hp0;go_enter Tryz.func37,Tryz.ntmps37
  go_upto_region 1 with (fail)
  rw[hW.out];go_wp2_with fail;refine (hc W hbW).mono ?_;rintro e Z ha;obtain rfl:=ha.1;have hre:Z.heap[w.heap.size+1]?=some (.cells #[.int .i64 0,.int .i64 0,.int .i64 0,.int .i64 0] 43 (0,0)):=(ha.2.2.blk _ (by omega) (by rw[xbi (by omega)];omega)).trans hre0
  obtain⟨rf,r0,r1,r2,r3⟩:=bx4 hre;obtain⟨hF,hcF⟩:=xk4 hre (.int .i64 R.2.err) (.int .i64 R.2.n) (.int .i64 R.2.v.k) (.int .i64 R.2.v.n);have HF:=hid (xqT hbW ha hcF (Nat.le_succ _) (by omega) hlt hPl)
  clear ha hre0 hp0 p0 p1 p2 p3 p4 p5 p6 p7 p8 p9 p10 p11 p12 hc hW;go_wp2;refine bodyPost_ret (v:=ReV R.2) ?_ rfl HF.out
  simp[results,Tryz.results37,go_sem,r0,r1,r2,r3]
theorem bx6 {w:World}{b:Nat}{x0 x1 x2 x3 x4 x5:Value}{t:TypeId}(h:w.heap[b]?=some (.cells #[x0,x1,x2,x3,x4,x5] t (0,0))):(∀ o,w.frozen? ⟨b,o,none⟩=false)/\w.cell? ⟨b,0,none⟩=some x0/\w.cell? ⟨b,1,none⟩=some x1/\w.cell? ⟨b,2,none⟩=some x2/\w.cell? ⟨b,3,none⟩=some x3/\w.cell? ⟨b,4,none⟩=some x4/\w.cell? ⟨b,5,none⟩=some x5:=by
 refine⟨xaq h,?_,?_,?_,?_,?_,?_⟩<;>(rw[qzB h];rfl)
theorem xr3 {w:World}{b:Nat}{x0 x1 x2 x3 x4 x5:Value}{t:TypeId}(h:w.heap[b]?=some (.cells #[x0,x1,x2,x3,x4,x5] t (0,0)))(u0 u1 u2 u3 u4 u5:Value):((((((w.setCell ⟨b,0,none⟩ u0).setCell ⟨b,1,none⟩ u1).setCell ⟨b,2,none⟩ u2).setCell ⟨b,3,none⟩ u3).setCell ⟨b,4,none⟩ u4).setCell ⟨b,5,none⟩ u5).heap[b]?=some (.cells #[u0,u1,u2,u3,u4,u5] t (0,0))/\Chg b w ((((((w.setCell ⟨b,0,none⟩ u0).setCell ⟨b,1,none⟩ u1).setCell ⟨b,2,none⟩ u2).setCell ⟨b,3,none⟩ u3).setCell ⟨b,4,none⟩ u4).setCell ⟨b,5,none⟩ u5):=
 ⟨by rw[xae (xae (xae (xae (xae (xae h _) _) _) _) _) _];rfl,((((((Chg.refl _ _).set _ _).set _ _).set _ _).set _ _).set _ _).set _ _⟩
theorem xsB {P:Nat->Prop}(X:QW)(cv hv:Value)(w:World)(h1:xag P w cv X.cz)(h2:xav P w hv X.heap):Calls Tryz.prog 32 #[WV cv hv X.ez] w fun e w'=>Below w.heap.size w w'/\∃ g gh,e=.returned (WV (.slice (some ⟨g,0,none⟩) X.cz.length X.cz.length) (.slice (some ⟨gh,0,none⟩) X.heap.length X.heap.length) X.ez)/\xag (fun b=>w.heap.size<=b/\b<w'.heap.size) w' (.slice (some ⟨g,0,none⟩) X.cz.length X.cz.length) X.cz/\xav (fun b=>w.heap.size<=b/\b<w'.heap.size) w' (.slice (some ⟨gh,0,none⟩) X.heap.length X.heap.length) X.heap:=by
 obtain⟨-,-,-,-,-,hby,-⟩:=id h2;refine (xlT X cv hv w h1 h2).mono ?_;rintro e w' ⟨g,gh,sh,rfl,hC,hR,hg,hb⟩;have hH:=hR.heap hby (T:=fun b=>if gh<=b then 2 else 0) fun b h _=>by rw[if_pos h]
 have hgl:=hH.there;refine⟨hb,g,gh,rfl,hC.mono xax fun b h=>⟨h.1,by omega⟩,hH.heap.mono xaB fun b h=>⟨?_,h.1⟩⟩
 have h2:=h.2;dsimp only at h2
 split at h2
 ·omega
 ·cases h2
theorem xsL {P:Nat->Prop}{l:List QE}{ts:List QT}{n:Nat}(hf:CFew ⟨l,ts,0,0⟩ n)(v:Value)(w:World)(h:xbG P w v l):Calls Tryz.prog 33 #[v] w fun e w'=>Below w.heap.size w w'/\∃ g,e=.returned (.slice (some ⟨g,0,none⟩) l.length l.length)/\xbG (fun b=>w.heap.size<=b/\b<w'.heap.size) w' (.slice (some ⟨g,0,none⟩) l.length l.length) l:=by
 refine (xdl l _ w h (by have:=hf.c;simp only at this;omega) (fun x hx=>by have:=hf.cl x hx;omega)).mono ?_
 rintro e w' ⟨g,rfl,ho,hg,hb⟩
 exact⟨hb,g,rfl,(xcw (ho.row0 xcN (by unfold maxLen;have:=hf.c;simp only at this;omega))).mono xbF fun b h=>⟨qzD hg h.1,h.2⟩⟩
theorem xsC {P:Nat->Prop}{l:List QE}{ts:List QT}{n:Nat}(hf:CFew ⟨l,ts,0,0⟩ n)(v:Value)(w:World)(h:xaI P w v ts):Calls Tryz.prog 34 #[v] w fun e w'=>Below w.heap.size w w'/\∃ g,e=.returned (.slice (some ⟨g,0,none⟩) ts.length ts.length)/\xaI (fun b=>w.heap.size<=b/\b<w'.heap.size) w' (.slice (some ⟨g,0,none⟩) ts.length ts.length) ts:=by
 refine (xg4 ts _ w h (by have:=hf.t;simp only at this;omega) (fun x hx=>by have:=hf.tl x hx;omega)).mono ?_
 rintro e w' ⟨g,gs,rfl,ho,hg,hb⟩
 exact⟨hb,g,rfl,ho.tallies (by unfold maxLen;have:=hf.t;simp only at this;omega) (fun x hx=>by unfold maxLen;have:=hf.tl x hx;omega) fun b h1 h2=>⟨qzD hg h1,h2⟩⟩
def Two (a b:Nat)(o p:Obj)(w:World):Prop:=w.heap[a]?=some o/\w.heap[b]?=some p
theorem Two.later {a b:Nat}{o p:Obj}{w w':World}(h:Two a b o p w)(hb:Below w.heap.size w w'):Two a b o p w':=⟨xaa h.1 hb,xaa h.2 hb⟩
theorem xp5 {P:Nat->Prop}(s:Sn){n:Nat}(hf:xoZ s n)(cv hv lv tv:Value)(w:World)(hS:SesAt P w cv hv lv tv s):Calls Tryz.prog 14 #[SeV cv hv s.X.ez lv tv (.slice none 0 0)] w fun e w'=>∃ cv' hv' lv' tv':Value,e=.returned (SeV cv' hv' s.X.ez lv' tv' (.slice none 0 0))/\SesAt (fun b=>w.heap.size<=b/\b<w'.heap.size) w' cv' hv' lv' tv' s/\Below w.heap.size w w':=by
 have hc1:=fun (w':World) (hb:Below w.heap.size w w')=>xsB s.X cv hv w' (hS.c.later xax hb) (hS.h.later xaB hb)
 have hc2:=fun (w':World) (hb:Below w.heap.size w w')=>xsL hf lv w' (hS.l.later xbF hb)
 have hc3:=fun (w':World) (hb:Below w.heap.size w w')=>xsC hf tv w' (hS.t.later xbD hb)
 obtain⟨ac,cc,rfl,-⟩:=id hS.c;obtain⟨ah,ch,rfl,-⟩:=id hS.h;obtain⟨al,kl,rfl,-⟩:=id hS.l;obtain⟨at',kt,rfl,-⟩:=id hS.t;clear hS;have hbW:=xbp w (.cells #[.slice ac s.X.cz.length cc,.slice ah s.X.heap.length ch,.int .i64 s.X.ez,.slice al s.cells.length kl,.slice at' s.ts.length kt,.slice none 0 0] 31) (.cells #[.slice none 0 0,.slice none 0 0,.int .i64 0,.slice none 0 0,.slice none 0 0,.slice none 0 0] 31);have hR0:((w.alloc (.cells #[.slice ac s.X.cz.length cc,.slice ah s.X.heap.length ch,.int .i64 s.X.ez,.slice al s.cells.length kl,.slice at' s.ts.length kt,.slice none 0 0] 31)).alloc (.cells #[.slice none 0 0,.slice none 0 0,.int .i64 0,.slice none 0 0,.slice none 0 0,.slice none 0 0] 31)).heap[w.heap.size]?=some (.cells #[.slice ac s.X.cz.length cc,.slice ah s.X.heap.length ch,.int .i64 s.X.ez,.slice al s.cells.length kl,.slice at' s.ts.length kt,.slice none 0 0] 31 (0,0))/\((w.alloc (.cells #[.slice ac s.X.cz.length cc,.slice ah s.X.heap.length ch,.int .i64 s.X.ez,.slice al s.cells.length kl,.slice at' s.ts.length kt,.slice none 0 0] 31)).alloc (.cells #[.slice none 0 0,.slice none 0 0,.int .i64 0,.slice none 0 0,.slice none 0 0,.slice none 0 0] 31)).heap[w.heap.size+1]?=some (.cells #[.slice none 0 0,.slice none 0 0,.int .i64 0,.slice none 0 0,.slice none 0 0,.slice none 0 0] 31 (0,0)):=⟨xaa (heap_alloc_new w _) (xai _ _),xaR _ _ _ (by simp)⟩
 go_enter Tryz.func14,Tryz.ntmps14
 go_upto_region 1 with (fail)
 have hWn:w.heap.size+2<=((w.alloc (.cells #[.slice ac s.X.cz.length cc,.slice ah s.X.heap.length ch,.int .i64 s.X.ez,.slice al s.cells.length kl,.slice at' s.ts.length kt,.slice none 0 0] 31)).alloc (.cells #[.slice none 0 0,.slice none 0 0,.int .i64 0,.slice none 0 0,.slice none 0 0,.slice none 0 0] 31)).heap.size:=by simp
 generalize ((w.alloc (.cells #[.slice ac s.X.cz.length cc,.slice ah s.X.heap.length ch,.int .i64 s.X.ez,.slice al s.cells.length kl,.slice at' s.ts.length kt,.slice none 0 0] 31)).alloc (.cells #[.slice none 0 0,.slice none 0 0,.int .i64 0,.slice none 0 0,.slice none 0 0,.slice none 0 0] 31))=W at *;have hR:Two w.heap.size (w.heap.size+1) (.cells #[.slice ac s.X.cz.length cc,.slice ah s.X.heap.length ch,.int .i64 s.X.ez,.slice al s.cells.length kl,.slice at' s.ts.length kt,.slice none 0 0] 31 (0,0)) (.cells #[.slice none 0 0,.slice none 0 0,.int .i64 0,.slice none 0 0,.slice none 0 0,.slice none 0 0] 31 (0,0)) W:=hR0
 clear hR0;have hSl:∀ W':World,Below W.heap.size W W'->xdN w.heap.size (.slice ac s.X.cz.length cc) (.slice ah s.X.heap.length ch) s.X.ez (.slice al s.cells.length kl) (.slice at' s.ts.length kt) (.slice none 0 0) W':=fun W' hb=>xdY (hR.later hb).1
 refine xat (S:=fun w'=>xdN w.heap.size (.slice ac s.X.cz.length cc) (.slice ah s.X.heap.length ch) s.X.ez (.slice al s.cells.length kl) (.slice at' s.ts.length kt) (.slice none 0 0) w') [] (by kernel_rfl) ?_
 have hb:Below W.heap.size W W.drew:=(Below.refl _ W).drew;generalize W.drew=U at *
 repeat' first
  | (
    refine tk 0 (⟨some 3,.fieldAddr 31 (.tmp 1) 0,0,_,_,none⟩) (.pointer (some ⟨w.heap.size,0,none⟩)) rfl (hSl _ hb) (fun _ _ _ h=>h) rfl ?_ ?_ ?_
    ·decide +kernel
    ·intro w hSw;obtain⟨q0,q1,q2,q3,q4,q5⟩:=hSw;go_simp
    try simp only[Act.put,qzF,qzG,qzH])
  | (
    refine tk 1 (⟨some 4,.load 26 (.tmp 3),26,_,_,none⟩) (WV (.slice ac s.X.cz.length cc) (.slice ah s.X.heap.length ch) s.X.ez) rfl (hSl _ hb) (fun _ _ _ h=>h) rfl ?_ ?_ ?_
    ·decide +kernel
    ·intro w hSw;obtain⟨q0,q1,q2,q3,q4,q5⟩:=hSw;go_simp
    try simp only[Act.put,qzF,qzG,qzH])
  | (
    refine tk 3 (⟨some 6,.fieldAddr 31 (.tmp 1) 1,0,_,_,none⟩) (.pointer (some ⟨w.heap.size,3,none⟩)) rfl (hSl _ hb) (fun _ _ _ h=>h) rfl ?_ ?_ ?_
    ·decide +kernel
    ·intro w hSw;obtain⟨q0,q1,q2,q3,q4,q5⟩:=hSw;go_simp
    try simp only[Act.put,qzF,qzG,qzH])
  | (
    refine tk 4 (⟨some 7,.load 27 (.tmp 6),27,_,_,none⟩) (.slice al s.cells.length kl) rfl (hSl _ hb) (fun _ _ _ h=>h) rfl ?_ ?_ ?_
    ·decide +kernel
    ·intro w hSw;obtain⟨q0,q1,q2,q3,q4,q5⟩:=hSw;go_simp
    try simp only[Act.put,qzF,qzG,qzH])
  | (
    refine tk 6 (⟨some 9,.fieldAddr 31 (.tmp 1) 2,0,_,_,none⟩) (.pointer (some ⟨w.heap.size,4,none⟩)) rfl (hSl _ hb) (fun _ _ _ h=>h) rfl ?_ ?_ ?_
    ·decide +kernel
    ·intro w hSw;obtain⟨q0,q1,q2,q3,q4,q5⟩:=hSw;go_simp
    try simp only[Act.put,qzF,qzG,qzH])
  | (
    refine tk 7 (⟨some 10,.load 28 (.tmp 9),28,_,_,none⟩) (.slice at' s.ts.length kt) rfl (hSl _ hb) (fun _ _ _ h=>h) rfl ?_ ?_ ?_
    ·decide +kernel
    ·intro w hSw;obtain⟨q0,q1,q2,q3,q4,q5⟩:=hSw;go_simp
    try simp only[Act.put,qzF,qzG,qzH])
  | (
    refine tk 9 (⟨some 12,.fieldAddr 31 (.tmp 1) 3,0,_,_,none⟩) (.pointer (some ⟨w.heap.size,5,none⟩)) rfl (hSl _ hb) (fun _ _ _ h=>h) rfl ?_ ?_ ?_
    ·decide +kernel
    ·intro w hSw;obtain⟨q0,q1,q2,q3,q4,q5⟩:=hSw;go_simp
    try simp only[Act.put,qzF,qzG,qzH])
  | (
    refine tk 10 (⟨some 13,.load 29 (.tmp 12),29,_,_,none⟩) (.slice none 0 0) rfl (hSl _ hb) (fun _ _ _ h=>h) rfl ?_ ?_ ?_
    ·decide +kernel
    ·intro w hSw;obtain⟨q0,q1,q2,q3,q4,q5⟩:=hSw;go_simp
    try simp only[Act.put,qzF,qzG,qzH])
  | (
    refine tk 11 (⟨some 14,.call ⟨.builtin .append,#[.const (Value.slice none 0 0),.tmp 13],#[29,29]⟩,29,_,_,none⟩) (.slice none 0 0) rfl (hSl _ hb) (fun _ _ _ h=>h) rfl ?_ ?_ ?_
    ·decide +kernel
    ·intro w hSw;obtain⟨q0,q1,q2,q3,q4,q5⟩:=hSw;go_simp
    try simp only[Act.put,qzF,qzG,qzH])
  | (
    refine tk 12 (⟨some 15,.build 31 #[(0,.tmp 5),(1,.tmp 8),(2,.tmp 11),(3,.tmp 14)],31,_,_,none⟩) (SeV (.slice (some ⟨g,0,none⟩) s.X.cz.length s.X.cz.length) (.slice (some ⟨gh,0,none⟩) s.X.heap.length s.X.heap.length) s.X.ez (.slice (some ⟨gl,0,none⟩) s.cells.length s.cells.length) (.slice (some ⟨gt,0,none⟩) s.ts.length s.ts.length) (.slice none 0 0)) rfl (hSl _ hb) (fun _ _ _ h=>h) rfl ?_ ?_ ?_
    ·decide +kernel
    ·intro w hSw;obtain⟨q0,q1,q2,q3,q4,q5⟩:=hSw;go_simp
    try simp only[Act.put,qzF,qzG,qzH])
  | (
    refine rdy [2] rfl ?_ ⟨?_,trivial⟩
    ·decide +kernel)
  | (
    refine rdy [5] rfl ?_ ⟨?_,trivial⟩
    ·decide +kernel)
  | (
    refine rdy [8] rfl ?_ ⟨?_,trivial⟩
    ·decide +kernel)
  | (
    refine rdy [13] rfl ?_ ⟨?_,trivial⟩
    ·decide +kernel)
  | (
    refine xa0 (o:=⟨some 5,.call ⟨.value (.func 32),#[.tmp 4],#[26]⟩,26,_,_,none⟩) rfl (fun K' hK=>?_)
    have hm0:=hb.size;have hcall:=hc1 U (xaf hbW hb);refine xa1 rfl 32 (.func 32) #[.tmp 4] _ rfl #[] rfl #[WV (.slice ac s.X.cz.length cc) (.slice ah s.X.heap.length ch) s.X.ez] (by simp[Act.eval,Act.put]) (xda Tryz.func32 (by kernel_rfl) (by kernel_rfl) _ _) ?_
    refine (show Calls Tryz.prog 32 #[WV (.slice ac s.X.cz.length cc) (.slice ah s.X.heap.length ch) s.X.ez] U _ from hcall.mono ?_)
    rintro e U ⟨hcV,g,gh,rfl,hC,hH⟩;refine⟨_,rfl,?_⟩;replace hb:=xaf hb hcV;refine hK _ _ (fun _=>?_) ?_
    ·exact hSl _ hb
    clear hK K' hcall
    try simp only[Act.put,qzF,qzG,qzH]
    replace hC:=hC.mono xax fun b (h:_/\_)=>(⟨qzD hm0 h.1,h.2⟩:W.heap.size<=b/\b<U.heap.size)
    replace hH:=hH.mono xaB fun b (h:_/\_)=>(⟨qzD hm0 h.1,h.2⟩:W.heap.size<=b/\b<U.heap.size)
    clear hcV hm0)
  | (
    refine xa0 (o:=⟨some 8,.call ⟨.value (.func 33),#[.tmp 7],#[27]⟩,27,_,_,none⟩) rfl (fun K' hK=>?_)
    have hm0:=hb.size;have hcall:=hc2 U (xaf hbW hb);refine xa1 rfl 33 (.func 33) #[.tmp 7] _ rfl #[] rfl #[.slice al s.cells.length kl] (by simp[Act.eval,Act.put]) (xda Tryz.func33 (by kernel_rfl) (by kernel_rfl) _ _) ?_
    refine (show Calls Tryz.prog 33 #[.slice al s.cells.length kl] U _ from hcall.mono ?_)
    rintro e U ⟨hcV,gl,rfl,hL⟩;refine⟨_,rfl,?_⟩;replace hb:=xaf hb hcV;refine hK _ _ (fun _=>?_) ?_
    ·exact hSl _ hb
    clear hK K' hcall
    try simp only[Act.put,qzF,qzG,qzH]
    replace hL:=hL.mono xbF fun b (h:_/\_)=>(⟨qzD hm0 h.1,h.2⟩:W.heap.size<=b/\b<U.heap.size)
    replace hC:=(hC.later xax hcV).mono xax fun b (h:_/\_)=>(⟨h.1,qzE h.2 hcV.size⟩:W.heap.size<=b/\b<U.heap.size)
    replace hH:=(hH.later xaB hcV).mono xaB fun b (h:_/\_)=>(⟨h.1,qzE h.2 hcV.size⟩:W.heap.size<=b/\b<U.heap.size)
    clear hcV hm0)
  | (
    refine xa0 (o:=⟨some 11,.call ⟨.value (.func 34),#[.tmp 10],#[28]⟩,28,_,_,none⟩) rfl (fun K' hK=>?_)
    have hm0:=hb.size;have hcall:=hc3 U (xaf hbW hb);refine xa1 rfl 34 (.func 34) #[.tmp 10] _ rfl #[] rfl #[.slice at' s.ts.length kt] (by simp[Act.eval,Act.put]) (xda Tryz.func34 (by kernel_rfl) (by kernel_rfl) _ _) ?_
    refine (show Calls Tryz.prog 34 #[.slice at' s.ts.length kt] U _ from hcall.mono ?_)
    rintro e U ⟨hcV,gt,rfl,hT⟩;refine⟨_,rfl,?_⟩;replace hb:=xaf hb hcV;refine hK _ _ (fun _=>?_) ?_
    ·exact hSl _ hb
    clear hK K' hcall
    try simp only[Act.put,qzF,qzG,qzH]
    replace hT:=hT.mono xbD fun b (h:_/\_)=>(⟨qzD hm0 h.1,h.2⟩:W.heap.size<=b/\b<U.heap.size)
    replace hC:=(hC.later xax hcV).mono xax fun b (h:_/\_)=>(⟨h.1,qzE h.2 hcV.size⟩:W.heap.size<=b/\b<U.heap.size)
    replace hH:=(hH.later xaB hcV).mono xaB fun b (h:_/\_)=>(⟨h.1,qzE h.2 hcV.size⟩:W.heap.size<=b/\b<U.heap.size)
    replace hL:=(hL.later xbF hcV).mono xbF fun b (h:_/\_)=>(⟨h.1,qzE h.2 hcV.size⟩:W.heap.size<=b/\b<U.heap.size)
    clear hcV hm0)
  | (
    refine xa0 (o:=⟨none,.store 31 (.tmp 2) (.tmp 15),0,_,_,none⟩) rfl (fun K' hK=>?_)
    have hZR:=(hR.later hb).2;have q:=bx6 hZR;have rf:=q.1;have r0:=q.2.1;have r1:=q.2.2.1;have r2:=q.2.2.2.1;have r3:=q.2.2.2.2.1;have r4:=q.2.2.2.2.2.1;have r5:=q.2.2.2.2.2.2;obtain⟨hZn,hch⟩:=xr3 hZR (.slice (some ⟨g,0,none⟩) s.X.cz.length s.X.cz.length) (.slice (some ⟨gh,0,none⟩) s.X.heap.length s.X.heap.length) (.int .i64 s.X.ez) (.slice (some ⟨gl,0,none⟩) s.cells.length s.cells.length) (.slice (some ⟨gt,0,none⟩) s.ts.length s.ts.length) (.slice none 0 0);go_simp;refine hK _ _ (fun _=>?_) ?_
    ·exact xdY (hch.held (hR.later hb).1 (by omega))
    clear hK K' q
    try simp only[Act.put,qzF,qzG,qzH])
  | (
    refine xaE ?_ ?_ _
    ·decide +kernel
    try simp only[Act.put,qzF,qzG,qzH]
    obtain⟨F,hF⟩:∃ F,((((((U.setCell ⟨w.heap.size+1,0,none⟩ (.slice (some ⟨g,0,none⟩) s.X.cz.length s.X.cz.length)).setCell ⟨w.heap.size+1,1,none⟩ (.slice (some ⟨gh,0,none⟩) s.X.heap.length s.X.heap.length)).setCell ⟨w.heap.size+1,2,none⟩ (.int .i64 s.X.ez)).setCell ⟨w.heap.size+1,3,none⟩ (.slice (some ⟨gl,0,none⟩) s.cells.length s.cells.length)).setCell ⟨w.heap.size+1,4,none⟩ (.slice (some ⟨gt,0,none⟩) s.ts.length s.ts.length)).setCell ⟨w.heap.size+1,5,none⟩ (.slice none 0 0))=F:=⟨_,rfl⟩;rw[hF] at hch;have hFs:=hch.size;have HFin:=hid (show ∃ cv' hv' lv' tv':Value,SeV (.slice (some ⟨g,0,none⟩) s.X.cz.length s.X.cz.length) (.slice (some ⟨gh,0,none⟩) s.X.heap.length s.X.heap.length) s.X.ez (.slice (some ⟨gl,0,none⟩) s.cells.length s.cells.length) (.slice (some ⟨gt,0,none⟩) s.ts.length s.ts.length) (.slice none 0 0)=SeV cv' hv' s.X.ez lv' tv' (.slice none 0 0)/\SesAt (fun b=>w.heap.size<=b/\b<F.heap.size) F cv' hv' lv' tv' s/\Below w.heap.size w F from ⟨_,_,_,_,rfl,⟨hC.keep xax (hch.keeps (by omega)) fun b h=>⟨by omega,by omega⟩,hH.keep xaB (hch.keeps (by omega)) fun b h=>⟨by omega,by omega⟩,hL.keep xbF (hch.keeps (by omega)) fun b h=>⟨by omega,by omega⟩,hT.keep xbD (hch.keeps (by omega)) fun b h=>⟨by omega,by omega⟩⟩,(xaf hbW hb).trans (hch.below (by omega))⟩)
    rw[← hF] at HFin;clear hF;go_wp2;refine bodyPost_ret (v:=SeV (.slice (some ⟨g,0,none⟩) s.X.cz.length s.X.cz.length) (.slice (some ⟨gh,0,none⟩) s.X.heap.length s.X.heap.length) s.X.ez (.slice (some ⟨gl,0,none⟩) s.cells.length s.cells.length) (.slice (some ⟨gt,0,none⟩) s.ts.length s.ts.length) (.slice none 0 0)) ?_ rfl ?_
    ·simp[results,Tryz.results14,go_sem,r0,r1,r2,r3,r4,r5]
    ·obtain⟨a,b,c,d,h1,h2⟩:=HFin.out
     exact⟨a,b,c,d,by rw[h1],h2⟩)
theorem xsk {P Q:Nat->Prop}{i:Nat}(s:Sn)(hI:SInv i s)(hf:xoZ s 400)(x:StE)(hk:1<=x.kind/\x.kind<=6)(hN:NamesOk x)(cv hv lv tv mv av:Value)(w:World)(hS:SesAt P w cv hv lv tv s)(hM:xaG Q w mv x.meth.code)(hA:xaV Q w av x.args) :
  Calls Tryz.prog 19 #[SeV cv hv s.X.ez lv tv (.slice none 0 0),StV x mv av] w fun e w'=>∃ cv' hv' lv' tv':Value,e=.returned (.tuple #[SeV cv' hv' (doE s x).1.X.ez lv' tv' (.slice none 0 0),ReV (doE s x).2])/\SesAt (fun b=>w.heap.size<=b) w' cv' hv' lv' tv' (doE s x).1/\Below w.heap.size w w':=by
 have hown:=fun (w':World) (hb:Below w.heap.size w w')=>xp5 s hf cv hv lv tv w' (hS.keep (Keeps.of_below hb) fun _ h=>h)
 have hst:=fun (w':World) (hb:Below w.heap.size w w') (P:Nat->Prop) (cv hv lv tv:Value) (sb:Nat) (hbx:w'.heap[sb]?=some (SeO cv hv s.X.ez lv tv (.slice none 0 0))) (hS':SesAt P w' cv hv lv tv s) (hP:∀ b,P b->b≠sb) (hPl:∀ b,P b->b<w'.heap.size)=>xpm s hI hf x hk hN cv hv lv tv (.slice none 0 0) mv av w' sb hbx hS' hP hPl (hM.later xaU hb) (hA.later xa7 hb)
 obtain⟨ac,cc,rfl,-⟩:=id hS.c;obtain⟨ah,ch,rfl,-⟩:=id hS.h;obtain⟨al,kl,rfl,-⟩:=id hS.l;obtain⟨at',kt,rfl,-⟩:=id hS.t;obtain⟨am,cm,rfl,-⟩:=id hM;obtain⟨aa,ca,rfl,-⟩:=id hA;generalize doE s x=R at *;clear hS hM hA hI hf hN hk;have hbW:Below w.heap.size w ((((w.alloc (.cells #[.slice ac s.X.cz.length cc,.slice ah s.X.heap.length ch,.int .i64 s.X.ez,.slice al s.cells.length kl,.slice at' s.ts.length kt,.slice none 0 0] 31)).alloc (.cells #[.int .i64 x.kind,.string x.name,.int .i64 x.cls,.int .i64 x.slots,.string x.meth.name,.int .i64 x.meth.args,.int .i64 x.meth.temps,.int .i64 x.meth.prim,.slice am x.meth.code.length cm,.int .i64 x.sf.k,.int .i64 x.sf.n,.string x.cname,.slice aa x.args.length ca] 56)).alloc (.cells #[.slice none 0 0,.slice none 0 0,.int .i64 0,.slice none 0 0,.slice none 0 0,.slice none 0 0] 31)).alloc (.cells #[.int .i64 0,.int .i64 0,.int .i64 0,.int .i64 0] 43)):=xaf (xbp _ _ _) (xbp _ _ _)
 have hb0:((((w.alloc (.cells #[.slice ac s.X.cz.length cc,.slice ah s.X.heap.length ch,.int .i64 s.X.ez,.slice al s.cells.length kl,.slice at' s.ts.length kt,.slice none 0 0] 31)).alloc (.cells #[.int .i64 x.kind,.string x.name,.int .i64 x.cls,.int .i64 x.slots,.string x.meth.name,.int .i64 x.meth.args,.int .i64 x.meth.temps,.int .i64 x.meth.prim,.slice am x.meth.code.length cm,.int .i64 x.sf.k,.int .i64 x.sf.n,.string x.cname,.slice aa x.args.length ca] 56)).alloc (.cells #[.slice none 0 0,.slice none 0 0,.int .i64 0,.slice none 0 0,.slice none 0 0,.slice none 0 0] 31)).alloc (.cells #[.int .i64 0,.int .i64 0,.int .i64 0,.int .i64 0] 43)).heap[w.heap.size]?=some (.cells #[.slice ac s.X.cz.length cc,.slice ah s.X.heap.length ch,.int .i64 s.X.ez,.slice al s.cells.length kl,.slice at' s.ts.length kt,.slice none 0 0] 31 (0,0)):=xaa (xaa (heap_alloc_new w _) (xai _ _)) (xbp _ _ _)
 have hb1:((((w.alloc (.cells #[.slice ac s.X.cz.length cc,.slice ah s.X.heap.length ch,.int .i64 s.X.ez,.slice al s.cells.length kl,.slice at' s.ts.length kt,.slice none 0 0] 31)).alloc (.cells #[.int .i64 x.kind,.string x.name,.int .i64 x.cls,.int .i64 x.slots,.string x.meth.name,.int .i64 x.meth.args,.int .i64 x.meth.temps,.int .i64 x.meth.prim,.slice am x.meth.code.length cm,.int .i64 x.sf.k,.int .i64 x.sf.n,.string x.cname,.slice aa x.args.length ca] 56)).alloc (.cells #[.slice none 0 0,.slice none 0 0,.int .i64 0,.slice none 0 0,.slice none 0 0,.slice none 0 0] 31)).alloc (.cells #[.int .i64 0,.int .i64 0,.int .i64 0,.int .i64 0] 43)).heap[w.heap.size+1]?=some (.cells #[.int .i64 x.kind,.string x.name,.int .i64 x.cls,.int .i64 x.slots,.string x.meth.name,.int .i64 x.meth.args,.int .i64 x.meth.temps,.int .i64 x.meth.prim,.slice am x.meth.code.length cm,.int .i64 x.sf.k,.int .i64 x.sf.n,.string x.cname,.slice aa x.args.length ca] 56 (0,0)):=xaa (xaR _ _ _ (by simp)) (xbp _ _ _)
 have hA0:((((w.alloc (.cells #[.slice ac s.X.cz.length cc,.slice ah s.X.heap.length ch,.int .i64 s.X.ez,.slice al s.cells.length kl,.slice at' s.ts.length kt,.slice none 0 0] 31)).alloc (.cells #[.int .i64 x.kind,.string x.name,.int .i64 x.cls,.int .i64 x.slots,.string x.meth.name,.int .i64 x.meth.args,.int .i64 x.meth.temps,.int .i64 x.meth.prim,.slice am x.meth.code.length cm,.int .i64 x.sf.k,.int .i64 x.sf.n,.string x.cname,.slice aa x.args.length ca] 56)).alloc (.cells #[.slice none 0 0,.slice none 0 0,.int .i64 0,.slice none 0 0,.slice none 0 0,.slice none 0 0] 31)).alloc (.cells #[.int .i64 0,.int .i64 0,.int .i64 0,.int .i64 0] 43)).heap[w.heap.size+2]?=some (.cells #[.slice none 0 0,.slice none 0 0,.int .i64 0,.slice none 0 0,.slice none 0 0,.slice none 0 0] 31 (0,0)):=xaa (xaR _ _ _ (by simp)) (xai _ _)
 have hB0:((((w.alloc (.cells #[.slice ac s.X.cz.length cc,.slice ah s.X.heap.length ch,.int .i64 s.X.ez,.slice al s.cells.length kl,.slice at' s.ts.length kt,.slice none 0 0] 31)).alloc (.cells #[.int .i64 x.kind,.string x.name,.int .i64 x.cls,.int .i64 x.slots,.string x.meth.name,.int .i64 x.meth.args,.int .i64 x.meth.temps,.int .i64 x.meth.prim,.slice am x.meth.code.length cm,.int .i64 x.sf.k,.int .i64 x.sf.n,.string x.cname,.slice aa x.args.length ca] 56)).alloc (.cells #[.slice none 0 0,.slice none 0 0,.int .i64 0,.slice none 0 0,.slice none 0 0,.slice none 0 0] 31)).alloc (.cells #[.int .i64 0,.int .i64 0,.int .i64 0,.int .i64 0] 43)).heap[w.heap.size+3]?=some (.cells #[.int .i64 0,.int .i64 0,.int .i64 0,.int .i64 0] 43 (0,0)):=xaR _ _ _ (by simp)
 have hWn:w.heap.size+4<=((((w.alloc (.cells #[.slice ac s.X.cz.length cc,.slice ah s.X.heap.length ch,.int .i64 s.X.ez,.slice al s.cells.length kl,.slice at' s.ts.length kt,.slice none 0 0] 31)).alloc (.cells #[.int .i64 x.kind,.string x.name,.int .i64 x.cls,.int .i64 x.slots,.string x.meth.name,.int .i64 x.meth.args,.int .i64 x.meth.temps,.int .i64 x.meth.prim,.slice am x.meth.code.length cm,.int .i64 x.sf.k,.int .i64 x.sf.n,.string x.cname,.slice aa x.args.length ca] 56)).alloc (.cells #[.slice none 0 0,.slice none 0 0,.int .i64 0,.slice none 0 0,.slice none 0 0,.slice none 0 0] 31)).alloc (.cells #[.int .i64 0,.int .i64 0,.int .i64 0,.int .i64 0] 43)).heap.size:=by simp
 go_enter Tryz.func19,Tryz.ntmps19
 go_upto_region 1 with (fail)
 generalize (((w.alloc (.cells #[.slice ac s.X.cz.length cc,.slice ah s.X.heap.length ch,.int .i64 s.X.ez,.slice al s.cells.length kl,.slice at' s.ts.length kt,.slice none 0 0] 31)).alloc (.cells #[.int .i64 x.kind,.string x.name,.int .i64 x.cls,.int .i64 x.slots,.string x.meth.name,.int .i64 x.meth.args,.int .i64 x.meth.temps,.int .i64 x.meth.prim,.slice am x.meth.code.length cm,.int .i64 x.sf.k,.int .i64 x.sf.n,.string x.cname,.slice aa x.args.length ca] 56)).alloc (.cells #[.slice none 0 0,.slice none 0 0,.int .i64 0,.slice none 0 0,.slice none 0 0,.slice none 0 0] 31)).alloc (.cells #[.int .i64 0,.int .i64 0,.int .i64 0,.int .i64 0] 43)=W at *
 obtain⟨-,e0,e1,e2,e3,e4,e5⟩:=bx6 hb0;go_wp2_with fail;refine (hown W hbW).mono ?_;rintro e W1 ⟨cv1,hv1,lv1,tv1,rfl,hS1,hbo⟩;obtain⟨a1,k1,rfl,-⟩:=id hS1.c;obtain⟨a2,k2,rfl,-⟩:=id hS1.h;obtain⟨a3,k3,rfl,-⟩:=id hS1.l;obtain⟨a4,k4,rfl,-⟩:=id hS1.t;clear e0 e1 e2 e3 e4 e5 hb0;have hbO:=xai W1 (.cells #[.slice a1 s.X.cz.length k1,.slice a2 s.X.heap.length k2,.int .i64 s.X.ez,.slice a3 s.cells.length k3,.slice a4 s.ts.length k4,.slice none 0 0] 31);have hbx:(W1.alloc (.cells #[.slice a1 s.X.cz.length k1,.slice a2 s.X.heap.length k2,.int .i64 s.X.ez,.slice a3 s.cells.length k3,.slice a4 s.ts.length k4,.slice none 0 0] 31)).heap[W1.heap.size]?=some (.cells #[.slice a1 s.X.cz.length k1,.slice a2 s.X.heap.length k2,.int .i64 s.X.ez,.slice a3 s.cells.length k3,.slice a4 s.ts.length k4,.slice none 0 0] 31 (0,0)):=heap_alloc_new _ _
 have hW1:=hbo.size;have hW2:W1.heap.size<(W1.alloc (.cells #[.slice a1 s.X.cz.length k1,.slice a2 s.X.heap.length k2,.int .i64 s.X.ez,.slice a3 s.cells.length k3,.slice a4 s.ts.length k4,.slice none 0 0] 31)).heap.size:=by simp
 replace hS1:=hS1.keep (Keeps.of_below hbO) fun _ h=>h
 replace hb1:=xaa (xaa hb1 hbo) hbO;replace hA0:=xaa (xaa hA0 hbo) hbO;replace hB0:=xaa (xaa hB0 hbo) hbO;replace hbW:=xaf (xaf hbW hbo) hbO
 go_upto_region 2 with (fail)
 clear hbO hbo;generalize W1.alloc (.cells #[.slice a1 s.X.cz.length k1,.slice a2 s.X.heap.length k2,.int .i64 s.X.ez,.slice a3 s.cells.length k3,.slice a4 s.ts.length k4,.slice none 0 0] 31)=W2 at *;generalize W1.heap.size=sb at *;obtain⟨p0,p1,p2,p3,p4,p5,p6,p7,p8,p9,p10,p11,p12⟩:=xsG hb1;have hcall:=hst W2 hbW _ _ _ _ _ sb hbx hS1 (fun b h=>Nat.ne_of_lt h.2) fun b h=>Nat.lt_trans h.2 hW2
 go_wp2_with fail;refine hcall.mono ?_;rintro e Z ⟨rfl,⟨cv2,hv2,lv2,tv2,hO,hSe⟩,hkp⟩;obtain⟨b1,j1,rfl,-⟩:=id hSe.c;obtain⟨b2,j2,rfl,-⟩:=id hSe.h;obtain⟨b3,j3,rfl,-⟩:=id hSe.l;obtain⟨b4,j4,rfl,-⟩:=id hSe.t;clear p0 p1 p2 p3 p4 p5 p6 p7 p8 p9 p10 p11 p12 hb1 hcall hst hown hbx;have hkz:=hkp.size;have hA1:=(hkp.blk _ (by omega) (by rw[xbi (by omega)];omega)).trans hA0
 have hB1:=(hkp.blk _ (by omega) (by rw[xbi (by omega)];omega)).trans hB0
 have hbZ:Below w.heap.size w Z:=⟨hkp.os.trans hbW.os,hkp.tape.trans hbW.tape,hkp.output.trans hbW.output,by have:=hbW.size;omega,fun b hb=>(hkp.blk b (by have:=hbW.size;omega) (by rw[xbi (by omega)];omega)).trans (hbW.block b hb)⟩
 have hbR:=xai Z (.cells #[.int .i64 R.2.err,.int .i64 R.2.n,.int .i64 R.2.v.k,.int .i64 R.2.v.n] 43);have hRp:(Z.alloc (.cells #[.int .i64 R.2.err,.int .i64 R.2.n,.int .i64 R.2.v.k,.int .i64 R.2.v.n] 43)).heap[Z.heap.size]?=some (.cells #[.int .i64 R.2.err,.int .i64 R.2.n,.int .i64 R.2.v.k,.int .i64 R.2.v.n] 43 (0,0)):=heap_alloc_new _ _;replace hO:=xaa hO hbR;replace hA0:=xaa hA1 hbR;replace hB0:=xaa hB1 hbR;have hb:=xaf hbZ hbR;replace hSe:=hSe.keep (Keeps.of_below hbR) fun _ h=>h
 clear hA1 hB1 hS1
 go_upto_region 3 with (fail)
 have hZn:W2.heap.size<=Z.heap.size:=hkz;clear hbR hkp hbZ hbW hkz;generalize Z.alloc (.cells #[.int .i64 R.2.err,.int .i64 R.2.n,.int .i64 R.2.v.k,.int .i64 R.2.v.n] 43)=Y at *;generalize Z.heap.size=rp at *;generalize W.heap.size=sl at *;obtain⟨sg,hsg⟩:∃ sg,W2.heap.size=sg:=⟨_,rfl⟩;rw[hsg] at hSe hW2 hZn;refine xat (S:=fun w'=>xdN sb (.slice b1 R.1.X.cz.length j1) (.slice b2 R.1.X.heap.length j2) R.1.X.ez (.slice b3 R.1.cells.length j3) (.slice b4 R.1.ts.length j4) (.slice none 0 0) w'/\w'.cell? ⟨rp,0,none⟩=some (.int .i64 R.2.err)/\w'.cell? ⟨rp,1,none⟩=some (.int .i64 R.2.n)/\w'.cell? ⟨rp,2,none⟩=some (.int .i64 R.2.v.k)/\w'.cell? ⟨rp,3,none⟩=some (.int .i64 R.2.v.n)) [] (by kernel_rfl) ?_
 replace hb:=hb.drew;replace hO:=xgO hO;replace hRp:=xgO hRp;replace hA0:=xgO hA0;replace hB0:=xgO hB0;replace hSe:=hSe.keep (w':=Y.drew) (Keeps.of_below (Below.refl _ Y).drew) fun _ h=>h
 generalize Y.drew=U at *
 repeat' first
  | (
    refine tk 0 (⟨some 12,.load 31 (.tmp 6),31,_,_,none⟩) (SeV (.slice b1 R.1.X.cz.length j1) (.slice b2 R.1.X.heap.length j2) R.1.X.ez (.slice b3 R.1.cells.length j3) (.slice b4 R.1.ts.length j4) (.slice none 0 0)) rfl ⟨xdY hO,(bx4 hRp).2⟩ (fun _ _ _ h=>h) rfl ?_ ?_ ?_
    ·decide +kernel
    ·intro w hSw;obtain⟨⟨q0,q1,q2,q3,q4,q5⟩,p0,p1,p2,p3⟩:=hSw;go_simp
    try simp only[Act.put,qzF,qzG,qzH])
  | (
    refine tk 1 (⟨some 13,.load 43 (.tmp 7),43,_,_,none⟩) (ReV R.2) rfl ⟨xdY hO,(bx4 hRp).2⟩ (fun _ _ _ h=>h) rfl ?_ ?_ ?_
    ·decide +kernel
    ·intro w hSw;obtain⟨⟨q0,q1,q2,q3,q4,q5⟩,p0,p1,p2,p3⟩:=hSw;go_simp
    try simp only[Act.put,qzF,qzG,qzH])
  | (
    refine rdy [2] rfl ?_ ⟨?_,trivial⟩
    ·decide +kernel)
  | (
    refine rdy [3] rfl ?_ ⟨?_,trivial⟩
    ·decide +kernel)
  | (
    refine xa0 (o:=⟨none,.store 31 (.tmp 4) (.tmp 12),0,_,_,none⟩) rfl (fun K' hK=>?_)
    have q:=bx6 hA0;have rf:=q.1;have r0:=q.2.1;have r1:=q.2.2.1;have r2:=q.2.2.2.1;have r3:=q.2.2.2.2.1;have r4:=q.2.2.2.2.2.1;have r5:=q.2.2.2.2.2.2;obtain⟨hZn,hch⟩:=xr3 hA0 (.slice b1 R.1.X.cz.length j1) (.slice b2 R.1.X.heap.length j2) (.int .i64 R.1.X.ez) (.slice b3 R.1.cells.length j3) (.slice b4 R.1.ts.length j4) (.slice none 0 0);go_simp;refine hK _ _ (fun _=>?_) ?_
    ·exact⟨xdY (hch.held hO (by omega)),(bx4 (hch.held hRp (by omega))).2⟩
    clear hK K' q rf r0 r1 r2 r3 r4 r5
    try simp only[Act.put,qzF,qzG,qzH]
    replace hA0:=hZn;replace hO:=hch.held hO (by omega)
    replace hRp:=hch.held hRp (by omega)
    replace hSe:=hSe.keep (hch.keeps (by show ¬ (sl<=w.heap.size+2/\w.heap.size+2<sb\/sg<=w.heap.size+2);omega)) fun _ h=>h
    replace hb:=hb.trans (hch.below (by omega))
    replace hB0:=hch.held hB0 (by omega)
    clear hZn hch;generalize ((((((U.setCell ⟨w.heap.size+2,0,none⟩ (.slice b1 R.1.X.cz.length j1)).setCell ⟨w.heap.size+2,1,none⟩ (.slice b2 R.1.X.heap.length j2)).setCell ⟨w.heap.size+2,2,none⟩ (.int .i64 R.1.X.ez)).setCell ⟨w.heap.size+2,3,none⟩ (.slice b3 R.1.cells.length j3)).setCell ⟨w.heap.size+2,4,none⟩ (.slice b4 R.1.ts.length j4)).setCell ⟨w.heap.size+2,5,none⟩ (.slice none 0 0))=U at *)
  | (
    refine xa0 (o:=⟨none,.store 43 (.tmp 5) (.tmp 13),0,_,_,none⟩) rfl (fun K' hK=>?_)
    have q:=bx4 hB0;have rf:=q.1;have r0:=q.2.1;have r1:=q.2.2.1;have r2:=q.2.2.2.1;have r3:=q.2.2.2.2;obtain⟨hZn,hch⟩:=xk4 hB0 (.int .i64 R.2.err) (.int .i64 R.2.n) (.int .i64 R.2.v.k) (.int .i64 R.2.v.n);go_simp;refine hK _ _ (fun _=>?_) ?_
    ·exact⟨xdY (hch.held hO (by omega)),(bx4 (hch.held hRp (by omega))).2⟩
    clear hK K' q rf r0 r1 r2 r3
    try simp only[Act.put,qzF,qzG,qzH]
    replace hB0:=hZn;replace hO:=hch.held hO (by omega)
    replace hRp:=hch.held hRp (by omega)
    replace hSe:=hSe.keep (hch.keeps (by show ¬ (sl<=w.heap.size+3/\w.heap.size+3<sb\/sg<=w.heap.size+3);omega)) fun _ h=>h
    replace hb:=hb.trans (hch.below (by omega))
    replace hA0:=hch.held hA0 (by omega)
    clear hZn hch;generalize ((((U.setCell ⟨w.heap.size+3,0,none⟩ (.int .i64 R.2.err)).setCell ⟨w.heap.size+3,1,none⟩ (.int .i64 R.2.n)).setCell ⟨w.heap.size+3,2,none⟩ (.int .i64 R.2.v.k)).setCell ⟨w.heap.size+3,3,none⟩ (.int .i64 R.2.v.n))=U at *)
  | (
    refine xaE ?_ ?_ _
    ·decide +kernel
    try simp only[Act.put,qzF,qzG,qzH]
    have HFin:=hid (show Below w.heap.size w U/\SesAt (fun b=>sl<=b/\b<sb\/sg<=b) U (.slice b1 R.1.X.cz.length j1) (.slice b2 R.1.X.heap.length j2) (.slice b3 R.1.cells.length j3) (.slice b4 R.1.ts.length j4) R.1 from ⟨hb,hSe⟩)
    have ra:=(bx6 hA0).2;have rb:=(bx4 hB0).2;go_wp2;refine bodyPost_ret (v:=.tuple #[SeV (.slice b1 R.1.X.cz.length j1) (.slice b2 R.1.X.heap.length j2) R.1.X.ez (.slice b3 R.1.cells.length j3) (.slice b4 R.1.ts.length j4) (.slice none 0 0),ReV R.2]) ?_ rfl ⟨_,_,_,_,rfl,HFin.out.2.keep (Keeps.refl _ _) fun b h=>by omega,HFin.out.1⟩
    simp[results,Tryz.results19,go_sem,ra,rb])
theorem xpN (w:World):Calls Tryz.prog 35 #[] w fun e w'=>∃ cv hv,e=.returned (WV cv hv 0)/\xag (fun b=>w.heap.size<=b/\b<w.heap.size+3) w' cv xlV.cz/\xav (fun b=>w.heap.size<=b/\b<w.heap.size+3) w' hv []/\w.heap.size+3<=w'.heap.size/\Below w.heap.size w w':=by
 go_enter Tryz.func35,Tryz.ntmps35;go_wp2;refine bodyPost_ret (v:=WV (.slice (some ⟨w.heap.size+1+1,0,none⟩) 4 4) (.slice none 0 0) 0) ?_ rfl ⟨_,_,rfl,?_,xb9,by simp,xeQ _ _ _ _⟩
 ·simp[results,Tryz.results35,go_sem]
 ·refine Cells.row (cs:=xqn (.slice (some ⟨w.heap.size+1,0,none⟩) 5 5)) (xmq ?_) xax (by omega) (xaR _ _ _ (by simp)) rfl (by decide) (by unfold maxLen;omega) (by decide)
  refine IsRow.later ?_ xbj (xai _ _)
  exact Cells.row xmx xbj (by omega) (xaR _ _ _ (by simp)) rfl (by decide) (by unfold maxLen;omega) (by decide)
theorem xrn:(Tryz.prog.info? 43).map (fun i=>(i.zero,i.size,i.bytes))=some (some (.agg #[.int .i64 0,.int .i64 0,.int .i64 0,.int .i64 0]),4,32):=by kernel_rfl
theorem xjn (n:Nat)(hb:n*32<=281474976710656):xeT 32 43 #[.int .i64 0,.int .i64 0,.int .i64 0,.int .i64 0] 4 n:=fun w=>xgb Tryz.underlying32 xrn (by omega) n hb rfl w
abbrev xcU:Sn:=⟨xlV,[],[],[]⟩
theorem xcB {α:Type}{E:Lay α}{sz bytes:Nat}{P:Nat->Prop}{w:World}:IsRow E sz bytes P w (.slice none 0 0) ([]:List α):=⟨none,0,rfl,qzC _,by unfold maxLen;omega,by simp,fun i x hx=>by simp at hx⟩
theorem xpJ (w:World):Calls Tryz.prog 15 #[] w fun e w'=>∃ cv hv,e=.returned (SeV cv hv 0 (.slice none 0 0) (.slice none 0 0) (.slice none 0 0))/\SesAt (fun b=>w.heap.size<=b/\b<w'.heap.size) w' cv hv (.slice none 0 0) (.slice none 0 0) xcU/\Below w.heap.size w w':=by
 have hz:(w.alloc (.cells #[.slice none 0 0,.slice none 0 0,.int .i64 0,.slice none 0 0,.slice none 0 0,.slice none 0 0] 31)).heap[w.heap.size]?=some (.cells #[.slice none 0 0,.slice none 0 0,.int .i64 0,.slice none 0 0,.slice none 0 0,.slice none 0 0] 31 (0,0)):=heap_alloc_new _ _;go_enter Tryz.func15,Tryz.ntmps15;go_wp2_with fail;refine (xpN _).mono ?_;rintro e w1 ⟨cv,hv,rfl,hC,hH,h3,hb⟩;have hb':=xaf (xai w _) hb;obtain⟨a1,k1,rfl,-⟩:=id hC;obtain⟨a2,k2,rfl,-⟩:=id hH;obtain⟨rf,r0,r1,r2,r3,r4,r5⟩:=bx6 (xaa hz hb);obtain⟨-,hch⟩:=xr3 (xaa hz hb) (.slice a1 xlV.cz.length k1) (.slice a2 ([]:List QO).length k2) (.int .i64 0) (.slice none 0 0) (.slice none 0 0) (.slice none 0 0)
 have hlt:w.heap.size<(w.alloc (.cells #[.slice none 0 0,.slice none 0 0,.int .i64 0,.slice none 0 0,.slice none 0 0,.slice none 0 0] 31)).heap.size:=by simp
 obtain⟨F,hF⟩:∃ F,((((((w1.setCell ⟨w.heap.size,0,none⟩ (.slice a1 xlV.cz.length k1)).setCell ⟨w.heap.size,1,none⟩ (.slice a2 ([]:List QO).length k2)).setCell ⟨w.heap.size,2,none⟩ (.int .i64 0)).setCell ⟨w.heap.size,3,none⟩ (.slice none 0 0)).setCell ⟨w.heap.size,4,none⟩ (.slice none 0 0)).setCell ⟨w.heap.size,5,none⟩ (.slice none 0 0))=F:=⟨_,rfl⟩;rw[hF] at hch;have hFs:=hch.size;have HF:=hid (show SesAt (fun b=>w.heap.size<=b/\b<F.heap.size) F _ _ (.slice none 0 0) (.slice none 0 0) xcU/\Below w.heap.size w F from ⟨⟨hC.keep xax (hch.keeps (by omega)) fun b h=>by omega,hH.keep xaB (hch.keeps (by omega)) fun b h=>by omega,xcB,xcB⟩,hb'.trans (hch.below (qzC _))⟩)
 rw[← hF] at HF;clear hF;go_wp2;refine bodyPost_ret (v:=SeV (.slice a1 xlV.cz.length k1) (.slice a2 ([]:List QO).length k2) 0 (.slice none 0 0) (.slice none 0 0) (.slice none 0 0)) ?_ rfl ⟨_,_,rfl,HF.out⟩
 simp[results,Tryz.results15,go_sem,r0,r1,r2,r3,r4,r5]
theorem xdv:∀ (l:List StE) (s:Sn),(xaW s l).length=l.length
 | [],_=>rfl
 | x :: l,s=>by simp[xaW,xdv l]
theorem xhd:∀ (l:List StE) (s:Sn) (j:Nat) (x:StE),l[j]?=some x->(xaW s l)[j]?=some (doE (xcs s (l.take j)) x).2
 | [],_,_,_,h=>by simp at h
 | y :: l,s,0,x,h=>by
  simp at h
  subst h
  rfl
 | y :: l,s,j+1,x,h=>by
  have:=xhd l (doE s y).1 j x (by simpa using h)
  show (xaW (doE s y).1 l)[j]?=_
  rw[this]
  rfl
theorem xmZ {l:List StE}{s:Sn}{j:Nat}{x:StE}(h:l[j]?=some x):xcs s (l.take (j+1))=(doE (xcs s (l.take j)) x).1:=by
 have:l.take (j+1)=l.take j++[x]:=by
  rw[List.take_add_one,h]
  rfl
 rw[this];unfold xcs;rw[List.foldl_append]
 rfl
structure PlayR (l:List StE)(w:World)(gr sb:Nat)(j:Nat)(wr:World)(s:Sn)(cv hv lv tv:Value):Prop where
 st:s=xcs xcU (l.take j)
 inv:SInv j s
 few:xoZ s (400+401*(l.length-j))
 bel:Below w.heap.size w wr
 box:wr.heap[sb]?=some (SeO cv hv s.X.ez lv tv (.slice none 0 0))
 ses:SesAt (fun b=>w.heap.size<=b/\b≠sb/\b≠gr/\b≠w.heap.size) wr cv hv lv tv s
 own:OwnSt ReC 4 43 wr gr (xaW xcU l) j
 res:wr.heap[w.heap.size]?=some (.cells #[.slice none 0 0,.slice none 0 0,.int .i64 0,.slice none 0 0,.slice none 0 0,.slice none 0 0] 31 (0,0))
 ls:w.heap.size<sb/\sb<gr/\gr<wr.heap.size
theorem xng {l:List StE}{w W Z Y:World}{gr sb j:Nat}{R:Sn × ReE}{cv hv lv tv:Value}(hsj:R.1=xcs xcU (l.take (j+1)))(hinv:SInv (j+1) R.1)(hfew:xoZ R.1 (400+401*(l.length-(j+1))))(hbel:Below w.heap.size w Z)(hcY:Chg sb Z Y)(hY:Y.heap[sb]?=some (SeO cv hv R.1.X.ez lv tv (.slice none 0 0)))(hSe:SesAt (fun b=>W.heap.size<=b) Z cv hv lv tv R.1)(hown:OwnSt ReC 4 43 Z gr (xaW xcU l) j)(hrj:(xaW xcU l)[j]?=some R.2)(hres:Z.heap[w.heap.size]?=some (.cells #[.slice none 0 0,.slice none 0 0,.int .i64 0,.slice none 0 0,.slice none 0 0,.slice none 0 0] 31 (0,0)))(h0:w.heap.size<sb)(h1:sb<gr)(h2:gr<W.heap.size/\W.heap.size<=Z.heap.size) :
  PlayR l w gr sb (j+1) (((((Y.setCell ⟨gr,j*4,none⟩ (.int .i64 R.2.err)).setCell ⟨gr,j*4+1,none⟩ (.int .i64 R.2.n)).setCell ⟨gr,j*4+2,none⟩ (.int .i64 R.2.v.k)).setCell ⟨gr,j*4+3,none⟩ (.int .i64 R.2.v.n))) R.1 cv hv lv tv:=by
 have hcF:Chg gr Y (((((Y.setCell ⟨gr,j*4,none⟩ (.int .i64 R.2.err)).setCell ⟨gr,j*4+1,none⟩ (.int .i64 R.2.n)).setCell ⟨gr,j*4+2,none⟩ (.int .i64 R.2.v.k)).setCell ⟨gr,j*4+3,none⟩ (.int .i64 R.2.v.n))):=((((Chg.refl _ _).set _ _).set _ _).set _ _).set _ _;have hs:=hcY.size;have ho:OwnSt ReC 4 43 Y gr (xaW xcU l) j:=hown.ofBlock xh5 (by omega) fun b h _=>hcY.blk b (by omega)
 have hO:OwnSt ReC 4 43 (((((Y.setCell ⟨gr,j*4,none⟩ (.int .i64 R.2.err)).setCell ⟨gr,j*4+1,none⟩ (.int .i64 R.2.n)).setCell ⟨gr,j*4+2,none⟩ (.int .i64 R.2.v.k)).setCell ⟨gr,j*4+3,none⟩ (.int .i64 R.2.v.n))) gr (xaW xcU l) (j+1):=ho.step xh5 hrj (vs:=[.int .i64 R.2.err,.int .i64 R.2.n,.int .i64 R.2.v.k,.int .i64 R.2.v.n]) rfl ⟨rfl,rfl,rfl,rfl⟩;generalize ((((Y.setCell ⟨gr,j*4,none⟩ (.int .i64 R.2.err)).setCell ⟨gr,j*4+1,none⟩ (.int .i64 R.2.n)).setCell ⟨gr,j*4+2,none⟩ (.int .i64 R.2.v.k)).setCell ⟨gr,j*4+3,none⟩ (.int .i64 R.2.v.n))=F at *;have hs2:=hcF.size
 exact⟨hsj,hinv,hfew,(hbel.trans (hcY.below (by omega))).trans (hcF.below (by omega)),hcF.held hY (by omega),(hSe.keep (hcY.keeps (by omega)) fun _ h=>h).keep (hcF.keeps (by omega)) fun b h=>by omega,hO,hcF.held (hcY.held hres (by omega)) (by omega),h0,h1,by omega⟩
theorem xp6 {P:Nat->Prop}(l:List StE)(hk:∀ x∈l,1<=x.kind/\x.kind<=6)(hlen:l.length<=60)(v:Value)(w:World)(hl:xg2 P w v l) :
  Calls Tryz.prog 11 #[v] w fun e w'=>∃ (cv hv lv tv:Value) (g:Nat),e=.returned (.tuple #[SeV cv hv (xcs xcU l).X.ez lv tv (.slice none 0 0),.slice (some ⟨g,0,none⟩) l.length l.length,.int .i64 0])/\SesAt (fun b=>w.heap.size<=b) w' cv hv lv tv (xcs xcU l)/\xhg (fun b=>w.heap.size<=b) w' (.slice (some ⟨g,0,none⟩) l.length l.length) (xaW xcU l)/\Below w.heap.size w w':=by
 obtain⟨ad,cap,rfl,hl1,hcap,hby,hrow⟩:=hl;have hmk:=xjn l.length (by omega)
 have h60:¬ (60:Int)<(l.length:Int):=by omega
 have hz0:(w.alloc (.cells #[.slice none 0 0,.slice none 0 0,.int .i64 0,.slice none 0 0,.slice none 0 0,.slice none 0 0] 31)).heap[w.heap.size]?=some (.cells #[.slice none 0 0,.slice none 0 0,.int .i64 0,.slice none 0 0,.slice none 0 0,.slice none 0 0] 31 (0,0)):=heap_alloc_new _ _;have hn:=fun w'=>xpJ w'
 go_enter Tryz.func11,Tryz.ntmps11;go_wp2_with fail;refine (hn _).mono ?_;rintro e w1 ⟨cv,hv,rfl,hS,hb⟩;obtain⟨a1,k1,rfl,-⟩:=id hS.c;obtain⟨a2,k2,rfl,-⟩:=id hS.h;replace hz0:=xaa hz0 hb;have hbw:=xaf (xai w _) hb;have hw1:w.heap.size<w1.heap.size:=by have:=hb.size;simp at this;omega
 clear hb hn;have hS2:SesAt (fun b=>w.heap.size<=b/\b<w1.heap.size/\b≠w.heap.size) w1 (.slice a1 xlV.cz.length k1) (.slice a2 xlV.heap.length k2) (.slice none 0 0) (.slice none 0 0) xcU:=hS.keep (Keeps.refl _ _) fun b h=>by simp at h;omega
 clear hS;go_wp2
 go_loopg [19] l.length (fun g c wr=>∃ (j:Nat) (s:Sn) (cv hv lv tv:Value),j+g=l.length/\c=.int .i64 j/\PlayR l w (w1.heap.size+1) w1.heap.size j wr s cv hv lv tv)
 case atStart=>
  refine⟨0,xcU,_,_,_,_,by omega,rfl,rfl,xiT,xqO.mono (by omega),xaf hbw (xbp _ _ _),xaa (heap_alloc_new w1 _) (xai _ _),hS2.keep (Keeps.of_below (xbp _ _ _)) fun b h=>by omega,?_,xaa hz0 (xbp _ _ _),by simp;omega⟩
  refine⟨⟨_,xaR _ _ _ (by simp),?_⟩,fun i x hi=>by omega⟩
  rw[size_madeCells,xdv]
 case round=>
  obtain⟨j,s,cv,hv,lv,tv,hj,rfl,hP⟩:=hrel;clear hmk hS2 hz0 hbw;obtain⟨hls0,hls1,hls2⟩:=hP.ls;obtain⟨ac,cc,rfl,-⟩:=id hP.ses.c;obtain⟨ah,ch,rfl,-⟩:=id hP.ses.h;obtain⟨al,kl,rfl,-⟩:=id hP.ses.l;obtain⟨at',kt,rfl,-⟩:=id hP.ses.t;have HP:=hid hP;obtain⟨sf,s0,s1,s2,s3,s4,s5⟩:=bx6 hP.box
  by_cases hlt:j<l.length
  ·obtain⟨b,o,rfl,-,hv0,hv1,hv2,hv3,hv4,hv5,hv6,hv7,hv9,hv10,hv11,hN,mv,av,hv8,hM,hv12,hA⟩:=hrow j l[j] (by simp[hlt])
   have hxj:Hid (l[j]?=some l[j]):=by show _=_;simp[hlt]
   have hkx:=hk l[j] (by simp)
   generalize l[j]=x at *;simp only[Nat.add_zero] at hv0;have u0:=qzA hP.bel hv0;have u1:=qzA hP.bel hv1;have u2:=qzA hP.bel hv2;have u3:=qzA hP.bel hv3;have u4:=qzA hP.bel hv4;have u5:=qzA hP.bel hv5;have u6:=qzA hP.bel hv6;have u7:=qzA hP.bel hv7;have u8:=qzA hP.bel hv8;have u9:=qzA hP.bel hv9;have u10:=qzA hP.bel hv10;have u11:=qzA hP.bel hv11;have u12:=qzA hP.bel hv12;replace hM:=hM.later xaU hP.bel;replace hA:=hA.later xa7 hP.bel;obtain⟨am,cm,rfl,-⟩:=id hM;obtain⟨aa,ca,rfl,-⟩:=id hA;clear hv0 hv1 hv2 hv3 hv4 hv5 hv6 hv7 hv8 hv9 hv10 hv11 hv12 hrow hP hk;have hj1:(j:Int)<(l.length:Int):=by omega
   have hj0:(0:Int)<=(j:Int):=by omega
   have hbB:=xai wr (.cells #[.int .i64 x.kind,.string x.name,.int .i64 x.cls,.int .i64 x.slots,.string x.meth.name,.int .i64 x.meth.args,.int .i64 x.meth.temps,.int .i64 x.meth.prim,.slice am x.meth.code.length cm,.int .i64 x.sf.k,.int .i64 x.sf.n,.string x.cname,.slice aa x.args.length ca] 56);have hdo:=xsk s HP.out.inv (HP.out.few.mono (by omega)) x hkx hN (.slice ac s.X.cz.length cc) (.slice ah s.X.heap.length ch) (.slice al s.cells.length kl) (.slice at' s.ts.length kt) _ _ _ (HP.out.ses.keep (Keeps.of_below hbB) fun _ h=>h) (hM.later xaU hbB) (hA.later xa7 hbB)
   have hbx:=xaa HP.out.box hbB;have hpx:(wr.alloc (.cells #[.int .i64 x.kind,.string x.name,.int .i64 x.cls,.int .i64 x.slots,.string x.meth.name,.int .i64 x.meth.args,.int .i64 x.meth.temps,.int .i64 x.meth.prim,.slice am x.meth.code.length cm,.int .i64 x.sf.k,.int .i64 x.sf.n,.string x.cname,.slice aa x.args.length ca] 56)).heap[wr.heap.size]?=some (.cells #[.int .i64 x.kind,.string x.name,.int .i64 x.cls,.int .i64 x.slots,.string x.meth.name,.int .i64 x.meth.args,.int .i64 x.meth.temps,.int .i64 x.meth.prim,.slice am x.meth.code.length cm,.int .i64 x.sf.k,.int .i64 x.sf.n,.string x.cname,.slice aa x.args.length ca] 56 (0,0)):=heap_alloc_new _ _
   have hown:=HP.out.own.later xh5 hbB;have hres:=xaa HP.out.res hbB;have hbel:=HP.out.bel.trans (hbB.mono (by have:=HP.out.bel.size;omega))
   have hz3:(wr.alloc (.cells #[.int .i64 x.kind,.string x.name,.int .i64 x.cls,.int .i64 x.slots,.string x.meth.name,.int .i64 x.meth.args,.int .i64 x.meth.temps,.int .i64 x.meth.prim,.slice am x.meth.code.length cm,.int .i64 x.sf.k,.int .i64 x.sf.n,.string x.cname,.slice aa x.args.length ca] 56)).heap.size=wr.heap.size+1:=by simp
   clear sf s0 s1 s2 s3 s4 s5
   go_upto_region 8 with (fail)
   clear u0 u1 u2 u3 u4 u5 u6 u7 u8 u9 u10 u11 u12 hbB hM hA;generalize wr.alloc (.cells #[.int .i64 x.kind,.string x.name,.int .i64 x.cls,.int .i64 x.slots,.string x.meth.name,.int .i64 x.meth.args,.int .i64 x.meth.temps,.int .i64 x.meth.prim,.slice am x.meth.code.length cm,.int .i64 x.sf.k,.int .i64 x.sf.n,.string x.cname,.slice aa x.args.length ca] 56)=W at *;obtain⟨-,s0,s1,s2,s3,s4,s5⟩:=bx6 hbx;obtain⟨p0,p1,p2,p3,p4,p5,p6,p7,p8,p9,p10,p11,p12⟩:=xsG hpx
   have hrj:Hid ((xaW xcU l)[j]?=some (doE s x).2):=by
    show _=_
    rw[xhd l xcU j x hxj.out,← HP.out.st]
   have hsj:Hid ((doE s x).1=xcs xcU (l.take (j+1))):=by
    show _=_
    rw[xmZ hxj.out,← HP.out.st]
   have hinv:Hid (SInv (j+1) (doE s x).1):=(xpl HP.out.inv (by omega) x).inv
   have hfew:Hid (xoZ (doE s x).1 (400+401*(l.length-(j+1)))):=xsc HP.out.inv (HP.out.few.mono (by omega)) x
   generalize doE s x=R at *;go_wp2_with fail;refine hdo.mono ?_;rintro e Z ⟨cv',hv',lv',tv',rfl,hSe,hbZ⟩;obtain⟨b1,j1,rfl,-⟩:=id hSe.c;obtain⟨b2,j2,rfl,-⟩:=id hSe.h;obtain⟨b3,j3,rfl,-⟩:=id hSe.l;obtain⟨b4,j4,rfl,-⟩:=id hSe.t;clear s0 s1 s2 s3 s4 s5 p0 p1 p2 p3 p4 p5 p6 p7 p8 p9 p10 p11 p12 hdo;replace hbx:=xaa hbx hbZ;replace hown:=hown.later xh5 hbZ;replace hres:=xaa hres hbZ;replace hbel:=hbel.trans (hbZ.mono (by have:=hbel.size;omega))
   have hzZ:=hbZ.size;obtain⟨sf,s0,s1,s2,s3,s4,s5⟩:=bx6 hbx;obtain⟨hY,hcY⟩:=xr3 hbx (.slice b1 R.1.X.cz.length j1) (.slice b2 R.1.X.heap.length j2) (.int .i64 R.1.X.ez) (.slice b3 R.1.cells.length j3) (.slice b4 R.1.ts.length j4) (.slice none 0 0);obtain⟨⟨cur,k1',k2'⟩,k3'⟩:=id hown;rw[xdv] at k2';have f1:∀ o,Z.frozen? ⟨w1.heap.size+1,o,none⟩=false:=xaq k1';have e0:Z.cell? ⟨w1.heap.size+1,j*4,none⟩=some (cur[j*4]'(by omega)):=(by rw[qzB k1'];simp)
   have e1:Z.cell? ⟨w1.heap.size+1,j*4+1,none⟩=some (cur[j*4+1]'(by omega)):=(by rw[qzB k1'];simp)
   have e2:Z.cell? ⟨w1.heap.size+1,j*4+2,none⟩=some (cur[j*4+2]'(by omega)):=(by rw[qzB k1'];simp)
   have e3:Z.cell? ⟨w1.heap.size+1,j*4+3,none⟩=some (cur[j*4+3]'(by omega)):=(by rw[qzB k1'];simp)
   clear hbZ;go_wp2
   go_roundg (gk-1)
   case measure=>omega
   case rel=>exact⟨j+1,R.1,_,_,_,_,by omega,by go_num,xng (W:=W) hsj.out hinv.out hfew.out hbel hcY hY hSe hown hrj.out hres hls0 (by omega) (by omega)⟩
  ·obtain rfl:j=l.length:=by omega
   have hst:Hid (s=xcs xcU l):=by
    show _=_
    rw[hP.st,List.take_length]
   obtain⟨rf,r0,r1,r2,r3,r4,r5⟩:=bx6 hP.res;obtain⟨hF,hcF⟩:=xr3 hP.res (.slice ac s.X.cz.length cc) (.slice ah s.X.heap.length ch) (.int .i64 s.X.ez) (.slice al s.cells.length kl) (.slice at' s.ts.length kt) (.slice none 0 0);have hlr:=xdv l xcU;have hown':OwnSt ReC 4 43 wr (w1.heap.size+1) (xaW xcU l) (xaW xcU l).length:=by rw[hlr];exact hP.own
   have hrow':=hown'.row (bytes:=32) xh5 (by rw[hlr];omega) (by omega)
   rw[hlr] at hrow';clear hlr hown';have HF:=hid (And.intro (hP.ses.keep (Q:=fun b=>w.heap.size<=b) (hcF.keeps (by omega)) fun b h=>h.1) (And.intro (hrow'.keep xh5 (Q:=fun b=>w.heap.size<=b) (hcF.keeps (by omega)) fun b h=>by omega) (hP.bel.trans (hcF.below (qzC _)))))
   clear hrow' hrow hP HP hk;go_wp2;refine bodyPost_ret (v:=.tuple #[SeV (.slice ac s.X.cz.length cc) (.slice ah s.X.heap.length ch) s.X.ez (.slice al s.cells.length kl) (.slice at' s.ts.length kt) (.slice none 0 0),.slice (some ⟨w1.heap.size+1,0,none⟩) l.length l.length,.int .i64 0]) ?_ rfl (by rw[← hst.out];exact⟨_,_,_,_,_,rfl,HF.out⟩)
   simp[results,Tryz.results11,go_sem,r0,r1,r2,r3,r4,r5]
end Go.Proofs.YtbafokihegegiaaGreatDoor
