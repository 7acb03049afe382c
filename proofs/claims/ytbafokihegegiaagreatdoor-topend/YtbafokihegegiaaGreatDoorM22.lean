/- A part. -/
import Derived.Test.YtbafokihegegiaaGreatDoorM10
namespace Go.Proofs.YtbafokihegegiaaGreatDoor
open Go.ChangeShapes Go.WideShapes Go.ChangeAt Go.RowKit
set_option linter.unusedSimpArgs false
set_option linter.unusedVariables false
set_option maxHeartbeats 8000000
theorem CFew.fold (X:QW):∀ (q:List Ask) (st:CSt) (n:Nat),CFew st (n+q.length)->CFew (xcT X st q) n
 | [],st,n,h=>h
 | a :: r,st,n,h=>CFew.fold X r (xcK X st a.1 a.2.1 a.2.2).1 n (CFew.look (by rw[List.length_cons] at h;exact h) X a.1 a.2.1 a.2.2)
theorem xm1 {X:QW}(hX:xau X=0)(s:QV)(name:ByteArray)(args:List QV){l:List QE}{ts:List QT}(ht:TrueS X l){n:Nat}(h:CFew ⟨l,ts,0,0⟩ (n+401)):CFew ⟨(xcb (xay X 400) X ⟨l,ts,0,0⟩ s name args 400).2.cells,(xcb (xay X 400) X ⟨l,ts,0,0⟩ s name args 400).2.ts,0,0⟩ n:=by
 have hz:∀ st:CSt,CFew st n->CFew ⟨st.cells,st.ts,0,0⟩ n:=fun st h=>⟨h.c,h.cl,h.t,h.tl,by have:=h.h;simp;omega,by have:=h.k;simp;omega⟩
 unfold xcb
 split
 ·exact hz _ (h.mono (by omega))
 ·refine hz _ ?_;have ht:TrueS X (⟨l,ts,0,0⟩:CSt).cells:=ht;obtain⟨q,hq⟩:=xfP hX 400 ht 20 (xak X.cz (xap X.heap s) name).1 (xak X.cz (xap X.heap s) name).2 s args;have hr:=hq _ ht;have hle:=(xl7 (xbk X 400) 20 ⟨X.heap,0,0,()⟩ (xak X.cz (xap X.heap s) name).1 (xak X.cz (xap X.heap s) name).2 s args (by show (0:Int)<=400;decide)).1
  have hl:(q.length:Int)<=401:=by have:=hr.few;have h2:(xbk X 400).fuel=400:=rfl;rw[h2] at hle;omega
  show CFew (xcL (xay X 400) X ⟨l,ts,0,0⟩ s name args).1.st n
  have e:(xcL (xay X 400) X ⟨l,ts,0,0⟩ s name args).1.st=xcT X ⟨l,ts,0,0⟩ q:=hr.st;rw[e]
  exact CFew.fold X q _ n (h.mono (by omega))
abbrev xoZ (s:Sn)(n:Nat):Prop:=CFew ⟨s.cells,s.ts,0,0⟩ n
theorem xqO:xoZ ⟨xlV,[],[],[]⟩ 1000000:=⟨by decide,(fun x hx=>by cases hx),by decide,(fun x hx=>by cases hx),by decide,by decide⟩
theorem xsc {i:Nat}{s:Sn}(hI:SInv i s){n:Nat}(h:xoZ s (n+401))(x:StE):xoZ (doE s x).1 n:=by
 have h0:xoZ s n:=h.mono (by omega)
 unfold doE
 split
 ·split<;>exact h0
 split
 ·split
  ·exact h0
  ·split
   ·exact h0
   ·split<;>exact h0
 split
 ·split
  ·exact h0
  ·split<;>exact h0
 split
 ·exact h0
 split
 ·exact xm1 hI.right _ _ _ hI.tru h
 ·exact h0
set_option maxRecDepth 8000
def xss (W:World)(X:QW)(r:Ran)(v5 v6:Value)(wx:World):Prop:=
 ∃ (bA bB:Nat) (cv hv:Value),v5=.pointer (some ⟨bA,0,none⟩)/\v6=.pointer (some ⟨bB,0,none⟩)/\wx.heap[bA]?=some (.cells #[cv,hv,.int .i64 X.ez] 26 (0,0))/\wx.heap[bB]?=some (.cells #[.int .i64 r.v.k,.int .i64 r.v.n,.int .i64 r.err,.int .i64 r.sz_] 98 (0,0))/\W.heap.size<=bA/\W.heap.size<=bB/\Below W.heap.size W wx/\xag (fun b=>W.heap.size<=b) wx cv X.cz/\xav (fun b=>W.heap.size<=b) wx hv r.heap
theorem xke {P Q:Nat->Prop}(s:Sn)(hX:xau s.X=0)(v:QV)(name:ByteArray)(args:List QV)(cv hv lv tv sv av:Value)(w:World)(sb:Nat)(hbx:w.heap[sb]?=some (SeO cv hv s.X.ez lv tv sv))(hS:SesAt P w cv hv lv tv s)(hP:∀ b,P b->b≠sb)(hA:xaV Q w av args)(hn:name.size<=140737488351232) :
  Calls Tryz.prog 55 #[.pointer (some ⟨sb,0,none⟩),ClV v name av] w fun e w'=>xct P w sb sv ⟨⟨s.X.cz,(xa2 s.X v name args 400).heap,s.X.ez⟩,s.cells,s.ts,s.saved⟩ (xeR (xa2 s.X v name args 400)) e w':=by
 have hpl:=fun (w':World) (hb:Below w.heap.size w w')=>xnC s.X hX v name args 400 cv hv av w' (hS.c.later xax hb) (hS.h.later xaB hb) (hA.later xa7 hb) hn
 obtain⟨r,hr⟩:∃ r,xa2 s.X v name args 400=r:=⟨_,rfl⟩;rw[hr] at hpl ⊢;clear hr;obtain⟨ac,cc,rfl,-⟩:=id hS.c;obtain⟨ah,ch,rfl,-⟩:=id hS.h;obtain⟨al,kl,rfl,-⟩:=id hS.l;obtain⟨at',kt,rfl,-⟩:=id hS.t;obtain⟨aa,ca,rfl,-⟩:=id hA;have hbW:=xbp w (.cells #[.int .i64 v.k,.int .i64 v.n,.string name,.slice aa args.length ca] 54) (.cells #[.int .i64 0,.int .i64 0,.int .i64 0,.int .i64 0] 43);have hlt:=xam hbx;have hR:BxR sb (.slice ac s.X.cz.length cc) (.slice ah s.X.heap.length ch) s.X.ez (.slice al s.cells.length kl) (.slice at' s.ts.length kt) sv w.heap.size v name (.slice aa args.length ca) ((w.alloc (.cells #[.int .i64 v.k,.int .i64 v.n,.string name,.slice aa args.length ca] 54)).alloc (.cells #[.int .i64 0,.int .i64 0,.int .i64 0,.int .i64 0] 43)):=⟨xaa hbx hbW,xaa (heap_alloc_new w _) (xai _ _),xaR _ _ _ (by simp)⟩
 have HS:=hid hS;clear hS hA hbx;go_enter Tryz.func55,Tryz.ntmps55
 go_upto_region 1 with (fail)
 have hWn:w.heap.size+2<=((w.alloc (.cells #[.int .i64 v.k,.int .i64 v.n,.string name,.slice aa args.length ca] 54)).alloc (.cells #[.int .i64 0,.int .i64 0,.int .i64 0,.int .i64 0] 43)).heap.size:=by simp
 generalize ((w.alloc (.cells #[.int .i64 v.k,.int .i64 v.n,.string name,.slice aa args.length ca] 54)).alloc (.cells #[.int .i64 0,.int .i64 0,.int .i64 0,.int .i64 0] 43))=W at *;have hSl:∀ W':World,Below W.heap.size W W'->xdN sb (.slice ac s.X.cz.length cc) (.slice ah s.X.heap.length ch) s.X.ez (.slice al s.cells.length kl) (.slice at' s.ts.length kt) sv W'/\W'.cell? ⟨w.heap.size,0,none⟩=some (.int .i64 v.k)/\W'.cell? ⟨w.heap.size,1,none⟩=some (.int .i64 v.n)/\W'.cell? ⟨w.heap.size,2,none⟩=some (.string name)/\W'.cell? ⟨w.heap.size,3,none⟩=some (.slice aa args.length ca):=fun W' hb=>(hR.later hb).al
 go_cut [5,6] (fun v5 v6 wx=>xss W s.X r v5 v6 wx)
 case first=>
  refine xat (S:=fun w'=>xdN sb (.slice ac s.X.cz.length cc) (.slice ah s.X.heap.length ch) s.X.ez (.slice al s.cells.length kl) (.slice at' s.ts.length kt) sv w'/\w'.cell? ⟨w.heap.size,0,none⟩=some (.int .i64 v.k)/\w'.cell? ⟨w.heap.size,1,none⟩=some (.int .i64 v.n)/\w'.cell? ⟨w.heap.size,2,none⟩=some (.string name)/\w'.cell? ⟨w.heap.size,3,none⟩=some (.slice aa args.length ca)) [] (by kernel_rfl) ?_
  have hb:Below W.heap.size W W.drew:=(Below.refl _ W).drew;generalize W.drew=U at *
  repeat' first
   | (
     refine tk 0 (⟨some 8,.move (.tmp 0),86,_,_,none⟩) (.pointer (some ⟨sb,0,none⟩)) rfl (hSl _ hb) (fun _ _ _ h=>h) rfl ?_ ?_ ?_
     ·decide +kernel
     ·intro w hSw;obtain⟨⟨q0,q1,q2,q3,q4,q5⟩,p0,p1,p2,p3⟩:=hSw;go_simp
     try simp only[Act.put,qzF,qzG,qzH])
   | (
     refine tk 1 (⟨some 9,.nilCheck (.tmp 8),0,_,_,none⟩) (.pointer (some ⟨sb,0,none⟩)) rfl (hSl _ hb) (fun _ _ _ h=>h) rfl ?_ ?_ ?_
     ·decide +kernel
     ·intro w hSw;obtain⟨⟨q0,q1,q2,q3,q4,q5⟩,p0,p1,p2,p3⟩:=hSw;go_simp
     try simp only[Act.put,qzF,qzG,qzH])
   | (
     refine tk 2 (⟨some 10,.fieldAddr 31 (.tmp 9) 0,0,_,_,none⟩) (.pointer (some ⟨sb,0,none⟩)) rfl (hSl _ hb) (fun _ _ _ h=>h) rfl ?_ ?_ ?_
     ·decide +kernel
     ·intro w hSw;obtain⟨⟨q0,q1,q2,q3,q4,q5⟩,p0,p1,p2,p3⟩:=hSw;go_simp
     try simp only[Act.put,qzF,qzG,qzH])
   | (
     refine tk 3 (⟨some 11,.load 26 (.tmp 10),26,_,_,none⟩) (WV (.slice ac s.X.cz.length cc) (.slice ah s.X.heap.length ch) s.X.ez) rfl (hSl _ hb) (fun _ _ _ h=>h) rfl ?_ ?_ ?_
     ·decide +kernel
     ·intro w hSw;obtain⟨⟨q0,q1,q2,q3,q4,q5⟩,p0,p1,p2,p3⟩:=hSw;go_simp
     try simp only[Act.put,qzF,qzG,qzH])
   | (
     refine tk 4 (⟨some 12,.load 54 (.tmp 3),54,_,_,none⟩) (ClV v name (.slice aa args.length ca)) rfl (hSl _ hb) (fun _ _ _ h=>h) rfl ?_ ?_ ?_
     ·decide +kernel
     ·intro w hSw;obtain⟨⟨q0,q1,q2,q3,q4,q5⟩,p0,p1,p2,p3⟩:=hSw;go_simp
     try simp only[Act.put,qzF,qzG,qzH])
   | (
     refine tk 6 (⟨some 7,.move (.tmp 13),153,_,_,none⟩) (.tuple #[WV (.slice a3 s.X.cz.length k3) (.slice a4 r.heap.length k4) s.X.ez,RnV r]) rfl (hSl _ hb) (fun _ _ _ h=>h) rfl ?_ ?_ ?_
     ·decide +kernel
     ·intro w hSw;obtain⟨⟨q0,q1,q2,q3,q4,q5⟩,p0,p1,p2,p3⟩:=hSw;go_simp
     try simp only[Act.put,qzF,qzG,qzH])
   | (
     refine tk 7 (⟨some 14,.extract (.tmp 7) 0,26,_,_,none⟩) (WV (.slice a3 s.X.cz.length k3) (.slice a4 r.heap.length k4) s.X.ez) rfl (hSl _ hb) (fun _ _ _ h=>h) rfl ?_ ?_ ?_
     ·decide +kernel
     ·intro w hSw;obtain⟨⟨q0,q1,q2,q3,q4,q5⟩,p0,p1,p2,p3⟩:=hSw;go_simp
     try simp only[Act.put,qzF,qzG,qzH])
   | (
     refine tk 8 (⟨some 15,.extract (.tmp 7) 1,98,_,_,none⟩) (RnV r) rfl (hSl _ hb) (fun _ _ _ h=>h) rfl ?_ ?_ ?_
     ·decide +kernel
     ·intro w hSw;obtain⟨⟨q0,q1,q2,q3,q4,q5⟩,p0,p1,p2,p3⟩:=hSw;go_simp
     try simp only[Act.put,qzF,qzG,qzH])
   | (
     refine rdy [5,9,10] rfl ?_ ⟨?_,?_,?_,trivial⟩
     ·decide +kernel)
   | (
     refine rdy [5,9] rfl ?_ ⟨?_,?_,trivial⟩
     ·decide +kernel)
   | (
     refine rdy [5,10] rfl ?_ ⟨?_,?_,trivial⟩
     ·decide +kernel)
   | (
     refine rdy [9,10] rfl ?_ ⟨?_,?_,trivial⟩
     ·decide +kernel)
   | (
     refine rdy [5] rfl ?_ ⟨?_,trivial⟩
     ·decide +kernel)
   | (
     refine rdy [9] rfl ?_ ⟨?_,trivial⟩
     ·decide +kernel)
   | (
     refine rdy [10] rfl ?_ ⟨?_,trivial⟩
     ·decide +kernel)
   | (
     refine rdy [11] rfl ?_ ⟨?_,trivial⟩
     ·decide +kernel)
   | (
     refine rdy [12] rfl ?_ ⟨?_,trivial⟩
     ·decide +kernel)
   | (
     refine xa0 (o:=⟨some 13,.call ⟨.value (.func 84),#[.tmp 11,.tmp 12,.const (.int .i64 400)],#[26,54,3]⟩,153,_,_,none⟩) rfl (fun K' hK=>?_)
     have hm0:=hb.size
     (try have hoA:=hlA)
     (try have hoB:=hlB)
     have hcall:=hpl U (xaf hbW hb);obtain⟨lo,hlo⟩:∃ lo,U.heap.size=lo:=⟨_,rfl⟩;rw[hlo] at hm0
     (try rw[hlo] at hoA)
     (try rw[hlo] at hoB)
     refine xa1 rfl 84 (.func 84) #[.tmp 11,.tmp 12,.const (.int .i64 400)] _ rfl #[] rfl #[WV (.slice ac s.X.cz.length cc) (.slice ah s.X.heap.length ch) s.X.ez,ClV v name (.slice aa args.length ca),.int .i64 400] (by simp[Act.eval,Act.put]) (xda Tryz.func84 (by kernel_rfl) (by kernel_rfl) _ _) ?_
     refine (show Calls Tryz.prog 84 #[WV (.slice ac s.X.cz.length cc) (.slice ah s.X.heap.length ch) s.X.ez,ClV v name (.slice aa args.length ca),.int .i64 400] U _ from hcall.mono ?_)
     rintro e U ⟨hcV,cv2,hv2,rfl,hC1,hH1⟩;rw[hlo] at hC1 hH1;obtain⟨a3,k3,rfl,-⟩:=id hC1;obtain⟨a4,k4,rfl,-⟩:=id hH1;refine⟨_,rfl,?_⟩;replace hb:=xaf hb hcV;refine hK _ _ (fun _=>?_) ?_
     ·exact hSl _ hb
     clear hK K' hcall
     try simp only[Act.put,qzF,qzG,qzH]
     (try replace hZA:=xaa hZA hcV)
     (try replace hlA:=qzE hlA hcV.size)
     (try replace hZB:=xaa hZB hcV)
     (try replace hlB:=qzE hlB hcV.size)
     obtain⟨V,hC2,hH2,hag,hmV,hu⟩:∃ V:World,xag (fun c=>lo<=c) V (.slice a3 s.X.cz.length k3) s.X.cz/\xav (fun c=>lo<=c) V (.slice a4 r.heap.length k4) r.heap/\(∀ c,lo<=c->c<V.heap.size->U.heap[c]?=V.heap[c]?)/\V.heap.size<=U.heap.size/\lo<=V.heap.size:=⟨U,hC1,hH1,fun _ _ _=>rfl,qzC _,by rw[← hlo];exact hcV.size⟩
     clear hC1 hH1 hcV hlo)
   | (
     refine xa0 (o:=⟨some 5,.alloc 26,0,_,_,none⟩) rfl (fun K' hK=>?_)
     go_simp;refine hK _ _ (fun _=>?_) ?_
     ·exact hSl _ (xaf hb (xai _ _))
     clear hK K'
     try simp only[Act.put,qzF,qzG,qzH]
     have hZA:(U.alloc (.cells #[.slice none 0 0,.slice none 0 0,.int .i64 0] 26)).heap[U.heap.size]?=some (.cells #[.slice none 0 0,.slice none 0 0,.int .i64 0] 26 (0,0)):=heap_alloc_new _ _;have hk:=xai U (.cells #[.slice none 0 0,.slice none 0 0,.int .i64 0] 26);have hzA:=hb.size;have hlA:U.heap.size<(U.alloc (.cells #[.slice none 0 0,.slice none 0 0,.int .i64 0] 26)).heap.size:=by simp
     replace hb:=xaf hb hk
     (try have hdAB:U.heap.size≠bB:=(Nat.ne_of_lt hlB).symm)
     (try replace hZB:=xaa hZB hk)
     (try replace hlB:=qzE hlB hk.size)
     (try replace hag:=fun c h1 h2=>(hk.block c (qzE h2 hmV)).trans (hag c h1 h2))
     (try have hoA:U.heap.size<lo\/V.heap.size<=U.heap.size:=.inr hmV)
     (try replace hmV:=qzD hmV hk.size)
     clear hk;generalize U.heap.size=bA at *;generalize U.alloc (.cells #[.slice none 0 0,.slice none 0 0,.int .i64 0] 26)=U at *)
   | (
     refine xa0 (o:=⟨some 6,.alloc 98,0,_,_,none⟩) rfl (fun K' hK=>?_)
     go_simp;refine hK _ _ (fun _=>?_) ?_
     ·exact hSl _ (xaf hb (xai _ _))
     clear hK K'
     try simp only[Act.put,qzF,qzG,qzH]
     have hZB:(U.alloc (.cells #[.int .i64 0,.int .i64 0,.int .i64 0,.int .i64 0] 98)).heap[U.heap.size]?=some (.cells #[.int .i64 0,.int .i64 0,.int .i64 0,.int .i64 0] 98 (0,0)):=heap_alloc_new _ _;have hk:=xai U (.cells #[.int .i64 0,.int .i64 0,.int .i64 0,.int .i64 0] 98);have hzB:=hb.size;have hlB:U.heap.size<(U.alloc (.cells #[.int .i64 0,.int .i64 0,.int .i64 0,.int .i64 0] 98)).heap.size:=by simp
     replace hb:=xaf hb hk
     (try have hdAB:U.heap.size≠bA:=(Nat.ne_of_lt hlA).symm)
     (try replace hZA:=xaa hZA hk)
     (try replace hlA:=qzE hlA hk.size)
     (try replace hag:=fun c h1 h2=>(hk.block c (qzE h2 hmV)).trans (hag c h1 h2))
     (try have hoB:U.heap.size<lo\/V.heap.size<=U.heap.size:=.inr hmV)
     (try replace hmV:=qzD hmV hk.size)
     clear hk;generalize U.heap.size=bB at *;generalize U.alloc (.cells #[.int .i64 0,.int .i64 0,.int .i64 0,.int .i64 0] 98)=U at *)
   | (
     refine xa0 (o:=⟨none,.store 26 (.tmp 5) (.tmp 14),0,_,_,none⟩) rfl (fun K' hK=>?_)
     have q:=bx3 hZA;have rf:=q.1;have r0:=q.2.1;have r1:=q.2.2.1;have r2:=q.2.2.2;obtain⟨hZn,hch⟩:=xsq hZA (.slice a3 s.X.cz.length k3) (.slice a4 r.heap.length k4) (.int .i64 s.X.ez);go_simp;refine hK _ _ (fun _=>?_) ?_
     ·exact hSl _ (hb.trans (hch.below hzA))
     clear hK K' q rf r0 r1 r2
     try simp only[Act.put,qzF,qzG,qzH]
     replace hZA:=hZn;clear hZn;replace hb:=hb.trans (hch.below hzA);replace hag:=fun c h1 h2=>(hch.blk c (by omega)).trans (hag c h1 h2)
     replace hZB:=hch.held hZB (by omega)
     clear hch;generalize (((U.setCell ⟨bA,0,none⟩ (.slice a3 s.X.cz.length k3)).setCell ⟨bA,1,none⟩ (.slice a4 r.heap.length k4)).setCell ⟨bA,2,none⟩ (.int .i64 s.X.ez))=U at *)
   | (
     refine xa0 (o:=⟨none,.store 98 (.tmp 6) (.tmp 15),0,_,_,none⟩) rfl (fun K' hK=>?_)
     have q:=bx4 hZB;have rf:=q.1;have r0:=q.2.1;have r1:=q.2.2.1;have r2:=q.2.2.2.1;have r3:=q.2.2.2.2;obtain⟨hZn,hch⟩:=xk4 hZB (.int .i64 r.v.k) (.int .i64 r.v.n) (.int .i64 r.err) (.int .i64 r.sz_);go_simp;refine hK _ _ (fun _=>?_) ?_
     ·exact hSl _ (hb.trans (hch.below hzB))
     clear hK K' q rf r0 r1 r2 r3
     try simp only[Act.put,qzF,qzG,qzH]
     replace hZB:=hZn;clear hZn;replace hb:=hb.trans (hch.below hzB);replace hag:=fun c h1 h2=>(hch.blk c (by omega)).trans (hag c h1 h2)
     replace hZA:=hch.held hZA (by omega)
     clear hch;generalize ((((U.setCell ⟨bB,0,none⟩ (.int .i64 r.v.k)).setCell ⟨bB,1,none⟩ (.int .i64 r.v.n)).setCell ⟨bB,2,none⟩ (.int .i64 r.err)).setCell ⟨bB,3,none⟩ (.int .i64 r.sz_))=U at *)
   | (
     refine xaE ?_ ?_ _
     ·decide +kernel
     try simp only[Act.put,qzF,qzG,qzH]
     have HFIN:Hid (xss W s.X r (.pointer (some ⟨bA,0,none⟩)) (.pointer (some ⟨bB,0,none⟩)) U):=⟨bA,bB,_,_,rfl,rfl,hZA,hZB,hzA,hzB,hb,hC2.keep xax (Keeps.of_block hag) (fun c h1=>qzD hm0 h1),hH2.keep xaB (Keeps.of_block hag) (fun c h1=>qzD hm0 h1)⟩
     go_wp2_with fail
     go_meet
     case rel=>exact HFIN.out)
 case rest=>
  obtain⟨bA,bB,cv3,hv3,rfl,rfl,hZA,hZB,hzA,hzB,hbF,hC3,hH3⟩:=hcut;obtain⟨a3,k3,rfl,-⟩:=id hC3;obtain⟨a4,k4,rfl,-⟩:=id hH3;have hRc:=hR.later hbF;have fA:=(bx3 hZA).2;obtain⟨fA0,fA1,fA2⟩:=fA;obtain⟨s0,s1,s2,s3,s4,s5⟩:=xdY hRc.box;have sf:=xaq hRc.box;obtain⟨hbY,hcY⟩:=xsw hRc.box (.slice a3 s.X.cz.length k3) (.slice a4 r.heap.length k4) s.X.ez;have HRC:=hid hRc
  go_upto_region 3 with (fail)
  generalize (((wc.setCell ⟨sb,0,none⟩ (.slice a3 s.X.cz.length k3)).setCell ⟨sb,1,none⟩ (.slice a4 r.heap.length k4)).setCell ⟨sb,2,none⟩ (.int .i64 s.X.ez))=Y at *;clear fA0 fA1 fA2 s0 s1 s2 s3 s4 s5 sf;have hZY:=hcY.held hZB (by omega)
  have hre:=hcY.held HRC.out.re (by omega)
  obtain⟨-,g0,g1,g2,g3⟩:=bx4 hZY;have hrp:=fun w'=>xeI r w'
  go_wp2_with fail;refine (hrp _).mono ?_;rintro e Z ⟨rfl,hbZ⟩;have hreZ:=xaa hre hbZ;obtain⟨rf,r0,r1,r2,r3⟩:=bx4 hreZ;obtain⟨hF,hcF⟩:=xk4 hreZ (.int .i64 (xeR r).err) (.int .i64 (xeR r).n) (.int .i64 (xeR r).v.k) (.int .i64 (xeR r).v.n);have HF:=hid (xjZ (xaf hbW hbF) hcY hbZ hcF (by omega))
  have hbZY:=xaa hbY hbZ;have HBF:=hid (hcF.held hbZY (by omega))
  clear hbZY g0 g1 g2 g3;go_wp2;refine bodyPost_ret (v:=ReV (xeR r)) ?_ rfl ⟨rfl,⟨_,_,_,_,HBF.out,⟨hC3.keep xax (HF.out.keeps _ fun b hb=>⟨by omega,by omega⟩) fun b hb=>.inr (by omega),hH3.keep xaB (HF.out.keeps _ fun b hb=>⟨by omega,by omega⟩) fun b hb=>.inr (by omega),?_,?_⟩⟩,HF.out.kp⟩
  ·simp[results,Tryz.results55,go_sem,r0,r1,r2,r3]
  ·exact HS.out.l.keep xbF (Keeps.of_block fun b hb hl=>HF.out.kp.blk b hl (by rw[xbi (hP b hb)];omega)) fun b hb=>.inl hb
  ·exact HS.out.t.keep xbD (Keeps.of_block fun b hb hl=>HF.out.kp.blk b hl (by rw[xbi (hP b hb)];omega)) fun b hb=>.inl hb
end Go.Proofs.YtbafokihegegiaaGreatDoor
