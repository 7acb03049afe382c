/- A part. -/
import Derived.Test.YtbafokihegegiaaGreatDoorM14
namespace Go.Proofs.YtbafokihegegiaaGreatDoor
open Go.ChangeShapes Go.WideShapes Go.ChangeAt Go.RowKit
set_option linter.unusedSimpArgs false
set_option linter.unusedVariables false
set_option maxHeartbeats 8000000
set_option maxRecDepth 8000
theorem xsz {w:World}{B:Nat}{x y z:Value}{t:TypeId}(h:w.heap[B]?=some (.cells #[x,y,z] t (0,0))):(w.cell? ⟨B,0,none⟩=some x/\w.cell? ⟨B,1,none⟩=some y/\w.cell? ⟨B,2,none⟩=some z)/\(∀ o,w.frozen? ⟨B,o,none⟩=false):=by
 refine⟨⟨?_,?_,?_⟩,fun o=>by unfold World.frozen?;simp[h]⟩<;>rw[qzB h]<;>rfl
theorem xrk (args:Array Value)(w:World):(callFunc 114 args).run Tryz.prog w=.ok (.enter 114 args) w:=xda Tryz.func114 (by kernel_rfl) (by kernel_rfl) args w
theorem xsl (args:Array Value)(w:World):(callFunc 115 args).run Tryz.prog w=.ok (.enter 115 args) w:=xda Tryz.func115 (by kernel_rfl) (by kernel_rfl) args w
theorem xo2 {w:World}{B:Nat}{x y z u v:Value}{t:TypeId}(h:w.heap[B]?=some (.cells #[x,y,z,u,v] t (0,0))):w.cell? ⟨B,0,none⟩=some x/\w.cell? ⟨B,1,none⟩=some y/\w.cell? ⟨B,2,none⟩=some z/\w.cell? ⟨B,3,none⟩=some u/\w.cell? ⟨B,4,none⟩=some v:=by
 refine⟨?_,?_,?_,?_,?_⟩<;>rw[qzB h]<;>rfl
def AlC (wr:World)(r:Fst × Bool)(pv ov:Value)(wx:World):Prop:=
 ∃ (bf:Nat) (a:Option Addr) (cap:Nat),pv=.pointer (some ⟨bf,0,none⟩)/\ov=.bool r.2/\wx.heap[bf]?=some (.cells #[.int .i64 r.1.cls,.string r.1.name,.int .i64 r.1.ez,.int .i64 r.1.temps,.slice a r.1.code.length cap] 187 (0,0))/\Below wr.heap.size wr wx/\xaG (fun b=>wr.heap.size<=b) wx (.slice a r.1.code.length cap) r.1.code
theorem xn1 {wr U:World}{r:Fst × Bool}{bf:Nat}{a:Option Addr}{cap:Nat}{P:Nat->Prop}{u0 u1 u2 u3 u4:Value}(hb:Below wr.heap.size wr U)(hbf:wr.heap.size<=bf)(hU:U.heap[bf]?=some (.cells #[u0,u1,u2,u3,u4] 187 (0,0)))(hc:xaG P U (.slice a r.1.code.length cap) r.1.code)(hP:∀ b,P b->wr.heap.size<=b/\b≠bf):AlC wr r (.pointer (some ⟨bf,0,none⟩)) (.bool r.2) (xmT U bf (.int .i64 r.1.cls) (.string r.1.name) (.int .i64 r.1.ez) (.int .i64 r.1.temps) (.slice a r.1.code.length cap)):=by
 refine⟨bf,a,cap,rfl,rfl,?_,xsA hb hbf,hc.keep xaU (Keeps.of_block fun b hb' _=>xsN (hP b hb').2) fun b hb'=>(hP b hb').1⟩
 unfold xmT;rw[xae (xae (xae (xae (xae hU _) _) _) _) _];rfl
theorem xp9 {P P2:Nat->Prop}(X:QW)(hX:xau X=0)(t:List QT)(cv hv tv:Value)(w:World)(hC:xag P w cv X.cz)(hH:xav P w hv X.heap)(hT:xaI P2 w tv t) :
  Calls Tryz.prog 88 #[WV cv hv X.ez,tv] w fun e w'=>∃ a cap,e=.returned (.slice a (xgT X t X.cz.length).length cap)/\xeF (fun b=>w.heap.size<=b) w' (.slice a (xgT X t X.cz.length).length cap) (xgT X t X.cz.length)/\Below w.heap.size w w':=by
 obtain⟨ac,cc,rfl,hlc,hcc,-,hrowC0⟩:=id hC;obtain⟨ah,ch,rfl,-⟩:=id hH;obtain⟨att,ct,rfl,-⟩:=id hT;unfold maxLen at hcc;have h12:=xjU hX;have h8:=xkH hX
 obtain⟨b1,o1,rfl⟩:∃ b1 o1,ac=some ⟨b1,o1,none⟩:=by
  have hl4:0<X.cz.length:=by
   unfold xau at hX
   split at hX
   ·cases hX
   ·omega
  obtain⟨b,o,e,-⟩:=hrowC0 0 X.cz[0] (List.getElem?_eq_getElem hl4)
  exact⟨b,o,e⟩
 clear hrowC0;have hL0:=xrr w (.cells #[.slice (some ⟨b1,o1,none⟩) X.cz.length cc,.slice ah X.heap.length ch,.int .i64 X.ez] 26);have hb0:=xai w (.cells #[.slice (some ⟨b1,o1,none⟩) X.cz.length cc,.slice ah X.heap.length ch,.int .i64 X.ez] 26);have kb:(w.alloc (.cells #[.slice (some ⟨b1,o1,none⟩) X.cz.length cc,.slice ah X.heap.length ch,.int .i64 X.ez] 26)).heap[w.heap.size]?=some (.cells #[.slice (some ⟨b1,o1,none⟩) X.cz.length cc,.slice ah X.heap.length ch,.int .i64 X.ez] 26 (0,0)):=heap_alloc_new _ _;go_enter Tryz.func88,Tryz.ntmps88
 go_upto_region 2 with (fail)
 generalize w.alloc (.cells #[.slice (some ⟨b1,o1,none⟩) X.cz.length cc,.slice ah X.heap.length ch,.int .i64 X.ez] 26)=W0 at *;obtain⟨⟨k0,k1,k2⟩,-⟩:=xsz kb;go_wp2;clear k0 k1 k2
 go_loopg [5,13] X.cz.length (fun g v iv wr=>∃ (j:Nat) (cs:List Value),j+g=X.cz.length/\iv=.int .i64 (j:Int)/\FaL W0 (w.heap.size+1) (xgT X t j) cs v wr)
 case atStart=>exact⟨0,[],by omega,rfl,by simpa [xgT] using hL0⟩
 case round=>
  clear hL0;obtain⟨j,cs,hj,rfl,hL⟩:=hrel;rename_i vo _;obtain⟨a,cap,rfl,hal,hac⟩:=hL.form;have hbw:Below w.heap.size w wr:=hb0.trans ⟨hL.bel.os,hL.bel.tape,hL.bel.output,hL.bel.size,fun b hb=>hL.bel.block b (by omega)⟩
  by_cases hlt:j<X.cz.length
  ·obtain⟨x,hx⟩:∃ x,X.cz[j]?=some x:=⟨_,List.getElem?_eq_getElem hlt⟩;have HX:=xcE hx;obtain⟨ac2,cc2,e2,-,-,-,hrowC⟩:=hC.later xax hbw
   cases e2
   obtain⟨b2,o2,e3,-,u0,u1,u2,-,mv,u3,hms⟩:=hrowC j x hx
   cases e3
   obtain⟨am,cm,rfl,hlm,hcm,-,-⟩:=hms;simp only[Nat.add_zero] at u0;unfold maxLen at hcm;have HNM:Hid (xjC X j=x.mz.length):=by show _=_;unfold xjC;rw[hx]
   have hm8:x.mz.length<=8:=by rw[← HNM.out];exact h8 j
   have hj1:(j:Int)<(X.cz.length:Int):=by omega
   have hj0:(0:Int)<=(j:Int):=by omega
   have kb1:=(hL.bel.block w.heap.size (by omega)).trans kb
   obtain⟨⟨k0,k1,k2⟩,-⟩:=xsz kb1;have HJ:=xcE hj;have hL1:=hL;clear hrowC hx;go_wp2;clear u0 u1 u2 u3 k0 k1 k2 kb1
   go_loopg [5,23] x.mz.length (fun g v iv wr2=>∃ (i:Nat) (cs:List Value),i+g=x.mz.length/\iv=.int .i64 (i:Int)/\FaL W0 (w.heap.size+1) (xgT X t j++xkP X t j i) cs v wr2)
   case atStart=>exact⟨0,cs,by omega,rfl,by simpa [xkP] using hL1⟩
   case round=>
    clear hL hL1 hbw;obtain⟨i,cs,hi,rfl,hL⟩:=hrel;rename_i vo2 _;obtain⟨a,cap,e5,hal,hac⟩:=hL.form;subst e5;have hbw:Below w.heap.size w wr:=hb0.trans ⟨hL.bel.os,hL.bel.tape,hL.bel.output,hL.bel.size,fun b hb=>hL.bel.block b (by omega)⟩
    have hwl:=hL.sz
    by_cases hlt2:i<x.mz.length
    ·have hln:(xgT X t j++xkP X t j i).length<=200:=by
      rw[List.length_append];have:=xiM (X:=X) (t:=t) h8 j;have:=xiQ (X:=X) (t:=t) j i
      omega
     have kb1:=(hL.bel.block w.heap.size (by omega)).trans kb
     obtain⟨⟨k0,k1,k2⟩,-⟩:=xsz kb1;have HI:=xcE hi;obtain⟨fs,HFS⟩:∃ fs,Hid (fs=xgT X t j++xkP X t j i):=⟨_,rfl⟩;rw[← HFS.out] at hL hln hal ⊢
     go_upto_region 8 with (fail)
     have hSl:∀ w',Below wr.heap.size wr w'->w'.cell? ⟨w.heap.size,0,none⟩=some (.slice (some ⟨b1,o1,none⟩) X.cz.length cc)/\w'.cell? ⟨w.heap.size,1,none⟩=some (.slice ah X.heap.length ch)/\w'.cell? ⟨w.heap.size,2,none⟩=some (.int .i64 X.ez):=fun w' hb=>⟨qzA hb k0,qzA hb k1,qzA hb k2⟩
     have hd1:Below wr.heap.size wr wr.drew:=(Below.refl _ wr).drew;have hS0:=hSl _ hd1;clear k0 k1 k2 kb1
     go_cut [8,9] (fun pv ov wx=>AlC wr (xcA X (j:Int) (i:Int) (xbz X t (j:Int) (i:Int))) pv ov wx)
     case first=>
      refine xat (S:=fun w'=>w'.cell? ⟨w.heap.size,0,none⟩=some (.slice (some ⟨b1,o1,none⟩) X.cz.length cc)/\w'.cell? ⟨w.heap.size,1,none⟩=some (.slice ah X.heap.length ch)/\w'.cell? ⟨w.heap.size,2,none⟩=some (.int .i64 X.ez)) [] (by kernel_rfl) ?_
      refine tk 0 (⟨some 27,.load 26 (.tmp 2),26,_,_,none⟩) (WV (.slice (some ⟨b1,o1,none⟩) X.cz.length cc) (.slice ah X.heap.length ch) X.ez) rfl (hS0) (fun _ _ _ h=>h) rfl (by kernel_rfl) ?_ ?_
      ·intro w hSw;obtain⟨q0,q1,q2⟩:=hSw;go_simp
      try simp only[Act.put,qzF,qzG,qzH]
      refine tk 1 (⟨some 28,.move (.tmp 6),3,_,_,none⟩) (.int .i64 (j:Int)) rfl (hS0) (fun _ _ _ h=>h) rfl (by kernel_rfl) ?_ ?_
      ·intro w hSw;obtain⟨q0,q1,q2⟩:=hSw;go_simp
      try simp only[Act.put,qzF,qzG,qzH]
      refine tk 2 (⟨some 29,.move (.tmp 7),3,_,_,none⟩) (.int .i64 (i:Int)) rfl (hS0) (fun _ _ _ h=>h) rfl (by kernel_rfl) ?_ ?_
      ·intro w hSw;obtain⟨q0,q1,q2⟩:=hSw;go_simp
      try simp only[Act.put,qzF,qzG,qzH]
      refine tk 3 (⟨some 30,.load 26 (.tmp 2),26,_,_,none⟩) (WV (.slice (some ⟨b1,o1,none⟩) X.cz.length cc) (.slice ah X.heap.length ch) X.ez) rfl (hS0) (fun _ _ _ h=>h) rfl (by kernel_rfl) ?_ ?_
      ·intro w hSw;obtain⟨q0,q1,q2⟩:=hSw;go_simp
      try simp only[Act.put,qzF,qzG,qzH]
      refine tk 4 (⟨some 31,.move (.tmp 1),28,_,_,none⟩) (.slice att t.length ct) rfl (hS0) (fun _ _ _ h=>h) rfl (by kernel_rfl) ?_ ?_
      ·intro w hSw;obtain⟨q0,q1,q2⟩:=hSw;go_simp
      try simp only[Act.put,qzF,qzG,qzH]
      refine tk 5 (⟨some 32,.move (.tmp 6),3,_,_,none⟩) (.int .i64 (j:Int)) rfl (hS0) (fun _ _ _ h=>h) rfl (by kernel_rfl) ?_ ?_
      ·intro w hSw;obtain⟨q0,q1,q2⟩:=hSw;go_simp
      try simp only[Act.put,qzF,qzG,qzH]
      refine tk 6 (⟨some 33,.move (.tmp 7),3,_,_,none⟩) (.int .i64 (i:Int)) rfl (hS0) (fun _ _ _ h=>h) rfl (by kernel_rfl) ?_ ?_
      ·intro w hSw;obtain⟨q0,q1,q2⟩:=hSw;go_simp
      try simp only[Act.put,qzF,qzG,qzH]
      refine xao (rs:=[7,12]) (by kernel_rfl) (by simp) ?_
      intro i hi;simp only[List.mem_cons,List.not_mem_nil,or_false] at hi
      rcases hi with hi | hi
      ·subst hi;refine xa0 (o:=⟨some 34,.call ⟨.value (.func 115),#[.tmp 30,.tmp 31,.tmp 32,.tmp 33],#[26,28,3,3]⟩,47,_,_,none⟩) rfl (fun K' hK=>?_)
       refine xa1 rfl 115 (.func 115) #[.tmp 30,.tmp 31,.tmp 32,.tmp 33] _ rfl #[] rfl #[WV (.slice (some ⟨b1,o1,none⟩) X.cz.length cc) (.slice ah X.heap.length ch) X.ez,.slice att t.length ct,.int .i64 (j:Int),.int .i64 (i:Int)] (by simp[Act.eval,Act.put]) (xsl _ _) ?_
       refine (show Calls Tryz.prog 115 #[WV (.slice (some ⟨b1,o1,none⟩) X.cz.length cc) (.slice ah X.heap.length ch) X.ez,.slice att t.length ct,.int .i64 (j:Int),.int .i64 (i:Int)] wr.drew _ from (xjQ X t (j:Int) (i:Int) _ _ _ wr.drew (hC.later xax (xaf hbw hd1)) (hH.later xaB (xaf hbw hd1)) (hT.later xbD (xaf hbw hd1))).mono ?_)
       rintro e w2 ⟨as_,cs,rfl,hSi,hbS⟩;refine⟨_,rfl,?_⟩;have hb2:Below wr.heap.size wr w2:=xaf hd1 hbS;refine hK _ _ (fun _=>?_) ?_
       ·exact hSl _ hb2
       clear hK K'
       try simp only[Act.put,qzF,qzG,qzH]
       refine xao (rs:=[8,12]) (by kernel_rfl) (by simp) ?_
       intro i hi;simp only[List.mem_cons,List.not_mem_nil,or_false] at hi
       rcases hi with hi | hi
       ·subst hi;refine xa0 (o:=⟨some 35,.call ⟨.value (.func 114),#[.tmp 27,.tmp 28,.tmp 29,.tmp 34],#[26,3,3,47]⟩,188,_,_,none⟩) rfl (fun K' hK=>?_)
        refine xa1 rfl 114 (.func 114) #[.tmp 27,.tmp 28,.tmp 29,.tmp 34] _ rfl #[] rfl #[WV (.slice (some ⟨b1,o1,none⟩) X.cz.length cc) (.slice ah X.heap.length ch) X.ez,.int .i64 (j:Int),.int .i64 (i:Int),.slice as_ (xbz X t (j:Int) (i:Int)).length cs] (by simp[Act.eval,Act.put]) (xrk _ _) ?_
        refine (show Calls Tryz.prog 114 #[WV (.slice (some ⟨b1,o1,none⟩) X.cz.length cc) (.slice ah X.heap.length ch) X.ez,.int .i64 (j:Int),.int .i64 (i:Int),.slice as_ (xbz X t (j:Int) (i:Int)).length cs] w2 _ from (xeB X hX (j:Int) (i:Int) (xbz X t (j:Int) (i:Int)) _ _ _ w2 (hC.later xax (xaf hbw hb2)) (hH.later xaB (xaf hbw hb2)) hSi).mono ?_)
        rintro e w3 ⟨af,cf,rfl,hKf,hbF⟩;refine⟨_,rfl,?_⟩;have hb3:Below wr.heap.size wr w3:=xaf hb2 hbF;refine hK _ _ (fun _=>?_) ?_
        ·exact hSl _ hb3
        clear hK K'
        try simp only[Act.put,qzF,qzG,qzH]
        obtain⟨R,HM⟩:∃ R,Hid (R=xcA X (j:Int) (i:Int) (xbz X t (j:Int) (i:Int))):=⟨_,rfl⟩;simp only[← HM.out] at hKf ⊢;refine tk 9 (⟨some 26,.move (.tmp 35),188,_,_,none⟩) (.tuple #[FsV R.1 (.slice af R.1.code.length cf),.bool R.2]) rfl (hSl _ hb3) (fun _ _ _ h=>h) rfl (by kernel_rfl) ?_ ?_
        ·intro w hSw;obtain⟨q0,q1,q2⟩:=hSw;go_simp
        try simp only[Act.put,qzF,qzG,qzH]
        refine tk 10 (⟨some 36,.extract (.tmp 26) 0,187,_,_,none⟩) (FsV R.1 (.slice af R.1.code.length cf)) rfl (hSl _ hb3) (fun _ _ _ h=>h) rfl (by kernel_rfl) ?_ ?_
        ·intro w hSw;obtain⟨q0,q1,q2⟩:=hSw;go_simp
        try simp only[Act.put,qzF,qzG,qzH]
        refine tk 11 (⟨some 37,.extract (.tmp 26) 1,4,_,_,none⟩) (.bool R.2) rfl (hSl _ hb3) (fun _ _ _ h=>h) rfl (by kernel_rfl) ?_ ?_
        ·intro w hSw;obtain⟨q0,q1,q2⟩:=hSw;go_simp
        try simp only[Act.put,qzF,qzG,qzH]
        refine xao (rs:=[12]) (by kernel_rfl) (by simp) ?_
        intro i hi;simp only[List.mem_cons,List.not_mem_nil,or_false] at hi;subst hi;refine xa0 (o:=⟨some 8,.alloc 187,0,_,_,none⟩) rfl (fun K' hK=>?_)
        go_simp;refine hK _ _ (fun _=>?_) ?_
        ·exact hSl _ (xaf hb3 (xai _ _))
        clear hK K'
        try simp only[Act.put,qzF,qzG,qzH]
        have hUb:(w3.alloc (.cells #[.int .i64 0,.string ⟨#[]⟩,.int .i64 0,.int .i64 0,.slice none 0 0] 187)).heap[w3.heap.size]?=some (.cells #[.int .i64 0,.string ⟨#[]⟩,.int .i64 0,.int .i64 0,.slice none 0 0] 187 (0,0)):=heap_alloc_new _ _;have hbU:Below wr.heap.size wr (w3.alloc (.cells #[.int .i64 0,.string ⟨#[]⟩,.int .i64 0,.int .i64 0,.slice none 0 0] 187)):=xaf hb3 (xai _ _);have hUl:w3.heap.size<(w3.alloc (.cells #[.int .i64 0,.string ⟨#[]⟩,.int .i64 0,.int .i64 0,.slice none 0 0] 187)).heap.size:=by simp
        have hUw:wr.heap.size<=w3.heap.size:=hb3.size;have hUk:Below w3.heap.size w3 (w3.alloc (.cells #[.int .i64 0,.string ⟨#[]⟩,.int .i64 0,.int .i64 0,.slice none 0 0] 187)):=xai _ _;generalize w3.alloc (.cells #[.int .i64 0,.string ⟨#[]⟩,.int .i64 0,.int .i64 0,.slice none 0 0] 187)=U at *;obtain⟨bf,HBF⟩:∃ bf,Hid (bf=w3.heap.size):=⟨_,rfl⟩;rw[← HBF.out] at hUb hUl hUw ⊢;obtain⟨r0,r1,r2,r3,r4⟩:=xo2 hUb;have rf:=fun o=>xb5 hUb o
        have HFIN:Hid (AlC wr R (.pointer (some ⟨bf,0,none⟩)) (.bool R.2) (xmT U bf (.int .i64 R.1.cls) (.string R.1.name) (.int .i64 R.1.ez) (.int .i64 R.1.temps) (.slice af R.1.code.length cf))):=xn1 hbU hUw hUb (hKf.later xaU hUk) (fun b hb=>⟨by have:=hb.1;have:=hb2.size;omega,by have:=hb.2;have:=HBF.out;omega⟩)
        refine xao (rs:=[13]) (by kernel_rfl) (by simp) ?_
        intro i hi;simp only[List.mem_cons,List.not_mem_nil,or_false] at hi;subst hi;refine xa0 (o:=⟨none,.store 187 (.tmp 8) (.tmp 36),0,_,_,none⟩) rfl (fun K' hK=>?_)
        go_simp;refine hK _ _ (fun _=>?_) ?_
        ·exact⟨xdd (hSl _ hbU).1 (by have:=hUw;have:=hwl;omega),xdd (hSl _ hbU).2.1 (by have:=hUw;have:=hwl;omega),xdd (hSl _ hbU).2.2 (by have:=hUw;have:=hwl;omega)⟩
        clear hK K'
        try simp only[Act.put,qzF,qzG,qzH]
        refine tk 14 (⟨some 9,.assign (.tmp 37),4,_,_,none⟩) (.bool R.2) rfl (⟨xdd (hSl _ hbU).1 (by have:=hUw;have:=hwl;omega),xdd (hSl _ hbU).2.1 (by have:=hUw;have:=hwl;omega),xdd (hSl _ hbU).2.2 (by have:=hUw;have:=hwl;omega)⟩) (fun _ _ _ h=>h) rfl (by kernel_rfl) ?_ ?_
        ·intro w hSw;obtain⟨q0,q1,q2⟩:=hSw;go_simp
        try simp only[Act.put,qzF,qzG,qzH]
        refine xaE (by kernel_rfl) ?_ _
        try simp only[Act.put,qzF,qzG,qzH]
        go_wp2_with fail
        go_meet
        case rel=>rw[← HM.out];exact HFIN.out
       ·subst hi;refine xa0 (o:=⟨some 8,.alloc 187,0,_,_,none⟩) rfl (fun K' hK=>?_)
        go_simp;refine hK _ _ (fun _=>?_) ?_
        ·exact hSl _ (xaf hb2 (xai _ _))
        clear hK K'
        try simp only[Act.put,qzF,qzG,qzH]
        have hUb:(w2.alloc (.cells #[.int .i64 0,.string ⟨#[]⟩,.int .i64 0,.int .i64 0,.slice none 0 0] 187)).heap[w2.heap.size]?=some (.cells #[.int .i64 0,.string ⟨#[]⟩,.int .i64 0,.int .i64 0,.slice none 0 0] 187 (0,0)):=heap_alloc_new _ _;have hbU:Below wr.heap.size wr (w2.alloc (.cells #[.int .i64 0,.string ⟨#[]⟩,.int .i64 0,.int .i64 0,.slice none 0 0] 187)):=xaf hb2 (xai _ _);have hUl:w2.heap.size<(w2.alloc (.cells #[.int .i64 0,.string ⟨#[]⟩,.int .i64 0,.int .i64 0,.slice none 0 0] 187)).heap.size:=by simp
        have hUw:wr.heap.size<=w2.heap.size:=hb2.size;have hUk:Below w2.heap.size w2 (w2.alloc (.cells #[.int .i64 0,.string ⟨#[]⟩,.int .i64 0,.int .i64 0,.slice none 0 0] 187)):=xai _ _;generalize w2.alloc (.cells #[.int .i64 0,.string ⟨#[]⟩,.int .i64 0,.int .i64 0,.slice none 0 0] 187)=U at *;obtain⟨bf,HBF⟩:∃ bf,Hid (bf=w2.heap.size):=⟨_,rfl⟩;rw[← HBF.out] at hUb hUl hUw ⊢;refine xao (rs:=[8]) (by kernel_rfl) (by simp) ?_
        intro i hi;simp only[List.mem_cons,List.not_mem_nil,or_false] at hi;subst hi;refine xa0 (o:=⟨some 35,.call ⟨.value (.func 114),#[.tmp 27,.tmp 28,.tmp 29,.tmp 34],#[26,3,3,47]⟩,188,_,_,none⟩) rfl (fun K' hK=>?_)
        refine xa1 rfl 114 (.func 114) #[.tmp 27,.tmp 28,.tmp 29,.tmp 34] _ rfl #[] rfl #[WV (.slice (some ⟨b1,o1,none⟩) X.cz.length cc) (.slice ah X.heap.length ch) X.ez,.int .i64 (j:Int),.int .i64 (i:Int),.slice as_ (xbz X t (j:Int) (i:Int)).length cs] (by simp[Act.eval,Act.put]) (xrk _ _) ?_
        refine (show Calls Tryz.prog 114 #[WV (.slice (some ⟨b1,o1,none⟩) X.cz.length cc) (.slice ah X.heap.length ch) X.ez,.int .i64 (j:Int),.int .i64 (i:Int),.slice as_ (xbz X t (j:Int) (i:Int)).length cs] U _ from (xeB X hX (j:Int) (i:Int) (xbz X t (j:Int) (i:Int)) _ _ _ U (hC.later xax (xaf hbw hbU)) (hH.later xaB (xaf hbw hbU)) (hSi.later xrH hUk)).mono ?_)
        rintro e w3 ⟨af,cf,rfl,hKf,hbF⟩;refine⟨_,rfl,?_⟩;have hb3:Below wr.heap.size wr w3:=xaf hbU hbF;refine hK _ _ (fun _=>?_) ?_
        ·exact hSl _ hb3
        clear hK K'
        try simp only[Act.put,qzF,qzG,qzH]
        obtain⟨R,HM⟩:∃ R,Hid (R=xcA X (j:Int) (i:Int) (xbz X t (j:Int) (i:Int))):=⟨_,rfl⟩;simp only[← HM.out] at hKf ⊢;refine tk 9 (⟨some 26,.move (.tmp 35),188,_,_,none⟩) (.tuple #[FsV R.1 (.slice af R.1.code.length cf),.bool R.2]) rfl (hSl _ hb3) (fun _ _ _ h=>h) rfl (by kernel_rfl) ?_ ?_
        ·intro w hSw;obtain⟨q0,q1,q2⟩:=hSw;go_simp
        try simp only[Act.put,qzF,qzG,qzH]
        refine tk 10 (⟨some 36,.extract (.tmp 26) 0,187,_,_,none⟩) (FsV R.1 (.slice af R.1.code.length cf)) rfl (hSl _ hb3) (fun _ _ _ h=>h) rfl (by kernel_rfl) ?_ ?_
        ·intro w hSw;obtain⟨q0,q1,q2⟩:=hSw;go_simp
        try simp only[Act.put,qzF,qzG,qzH]
        refine tk 11 (⟨some 37,.extract (.tmp 26) 1,4,_,_,none⟩) (.bool R.2) rfl (hSl _ hb3) (fun _ _ _ h=>h) rfl (by kernel_rfl) ?_ ?_
        ·intro w hSw;obtain⟨q0,q1,q2⟩:=hSw;go_simp
        try simp only[Act.put,qzF,qzG,qzH]
        obtain⟨r0,r1,r2,r3,r4⟩:=xo2 (xaa hUb hbF);have rf:=fun o=>xb5 (xaa hUb hbF) o
        have HFIN:Hid (AlC wr R (.pointer (some ⟨bf,0,none⟩)) (.bool R.2) (xmT w3 bf (.int .i64 R.1.cls) (.string R.1.name) (.int .i64 R.1.ez) (.int .i64 R.1.temps) (.slice af R.1.code.length cf))):=xn1 hb3 hUw (xaa hUb hbF) hKf (fun b hb=>⟨by have:=hb.1;have:=hbU.size;omega,by have:=hb.1;omega⟩)
        refine xao (rs:=[13]) (by kernel_rfl) (by simp) ?_
        intro i hi;simp only[List.mem_cons,List.not_mem_nil,or_false] at hi;subst hi;refine xa0 (o:=⟨none,.store 187 (.tmp 8) (.tmp 36),0,_,_,none⟩) rfl (fun K' hK=>?_)
        go_simp;refine hK _ _ (fun _=>?_) ?_
        ·exact⟨xdd (hSl _ hb3).1 (by have:=hUw;have:=hwl;omega),xdd (hSl _ hb3).2.1 (by have:=hUw;have:=hwl;omega),xdd (hSl _ hb3).2.2 (by have:=hUw;have:=hwl;omega)⟩
        clear hK K'
        try simp only[Act.put,qzF,qzG,qzH]
        refine tk 14 (⟨some 9,.assign (.tmp 37),4,_,_,none⟩) (.bool R.2) rfl (⟨xdd (hSl _ hb3).1 (by have:=hUw;have:=hwl;omega),xdd (hSl _ hb3).2.1 (by have:=hUw;have:=hwl;omega),xdd (hSl _ hb3).2.2 (by have:=hUw;have:=hwl;omega)⟩) (fun _ _ _ h=>h) rfl (by kernel_rfl) ?_ ?_
        ·intro w hSw;obtain⟨q0,q1,q2⟩:=hSw;go_simp
        try simp only[Act.put,qzF,qzG,qzH]
        refine xaE (by kernel_rfl) ?_ _
        try simp only[Act.put,qzF,qzG,qzH]
        go_wp2_with fail
        go_meet
        case rel=>rw[← HM.out];exact HFIN.out
      ·subst hi;refine xa0 (o:=⟨some 8,.alloc 187,0,_,_,none⟩) rfl (fun K' hK=>?_)
       go_simp;refine hK _ _ (fun _=>?_) ?_
       ·exact hSl _ (xai wr (.cells #[.int .i64 0,.string ⟨#[]⟩,.int .i64 0,.int .i64 0,.slice none 0 0] 187)).drew
       clear hK K'
       try simp only[Act.put,qzF,qzG,qzH]
       have hUb:((wr.alloc (.cells #[.int .i64 0,.string ⟨#[]⟩,.int .i64 0,.int .i64 0,.slice none 0 0] 187)).drew).heap[wr.heap.size]?=some (.cells #[.int .i64 0,.string ⟨#[]⟩,.int .i64 0,.int .i64 0,.slice none 0 0] 187 (0,0)):=heap_alloc_new wr _;have hbU:Below wr.heap.size wr ((wr.alloc (.cells #[.int .i64 0,.string ⟨#[]⟩,.int .i64 0,.int .i64 0,.slice none 0 0] 187)).drew):=(xai wr _).drew;have hUl:wr.heap.size<((wr.alloc (.cells #[.int .i64 0,.string ⟨#[]⟩,.int .i64 0,.int .i64 0,.slice none 0 0] 187)).drew).heap.size:=by show wr.heap.size<(wr.alloc _).heap.size;simp
       generalize (wr.alloc (.cells #[.int .i64 0,.string ⟨#[]⟩,.int .i64 0,.int .i64 0,.slice none 0 0] 187)).drew=U at *;obtain⟨bf,HBF⟩:∃ bf,Hid (bf=wr.heap.size):=⟨_,rfl⟩;have hUw:wr.heap.size<=bf:=by rw[HBF.out];exact qzC _
       rw[← HBF.out] at hUb hUl ⊢;refine xao (rs:=[7]) (by kernel_rfl) (by simp) ?_
       intro i hi;simp only[List.mem_cons,List.not_mem_nil,or_false] at hi;subst hi;refine xa0 (o:=⟨some 34,.call ⟨.value (.func 115),#[.tmp 30,.tmp 31,.tmp 32,.tmp 33],#[26,28,3,3]⟩,47,_,_,none⟩) rfl (fun K' hK=>?_)
       refine xa1 rfl 115 (.func 115) #[.tmp 30,.tmp 31,.tmp 32,.tmp 33] _ rfl #[] rfl #[WV (.slice (some ⟨b1,o1,none⟩) X.cz.length cc) (.slice ah X.heap.length ch) X.ez,.slice att t.length ct,.int .i64 (j:Int),.int .i64 (i:Int)] (by simp[Act.eval,Act.put]) (xsl _ _) ?_
       refine (show Calls Tryz.prog 115 #[WV (.slice (some ⟨b1,o1,none⟩) X.cz.length cc) (.slice ah X.heap.length ch) X.ez,.slice att t.length ct,.int .i64 (j:Int),.int .i64 (i:Int)] U _ from (xjQ X t (j:Int) (i:Int) _ _ _ U (hC.later xax (xaf hbw hbU)) (hH.later xaB (xaf hbw hbU)) (hT.later xbD (xaf hbw hbU))).mono ?_)
       rintro e w2 ⟨as_,cs,rfl,hSi,hbS⟩;refine⟨_,rfl,?_⟩;have hb2:Below wr.heap.size wr w2:=xaf hbU hbS;refine hK _ _ (fun _=>?_) ?_
       ·exact hSl _ hb2
       clear hK K'
       try simp only[Act.put,qzF,qzG,qzH]
       refine xao (rs:=[8]) (by kernel_rfl) (by simp) ?_
       intro i hi;simp only[List.mem_cons,List.not_mem_nil,or_false] at hi;subst hi;refine xa0 (o:=⟨some 35,.call ⟨.value (.func 114),#[.tmp 27,.tmp 28,.tmp 29,.tmp 34],#[26,3,3,47]⟩,188,_,_,none⟩) rfl (fun K' hK=>?_)
       refine xa1 rfl 114 (.func 114) #[.tmp 27,.tmp 28,.tmp 29,.tmp 34] _ rfl #[] rfl #[WV (.slice (some ⟨b1,o1,none⟩) X.cz.length cc) (.slice ah X.heap.length ch) X.ez,.int .i64 (j:Int),.int .i64 (i:Int),.slice as_ (xbz X t (j:Int) (i:Int)).length cs] (by simp[Act.eval,Act.put]) (xrk _ _) ?_
       refine (show Calls Tryz.prog 114 #[WV (.slice (some ⟨b1,o1,none⟩) X.cz.length cc) (.slice ah X.heap.length ch) X.ez,.int .i64 (j:Int),.int .i64 (i:Int),.slice as_ (xbz X t (j:Int) (i:Int)).length cs] w2 _ from (xeB X hX (j:Int) (i:Int) (xbz X t (j:Int) (i:Int)) _ _ _ w2 (hC.later xax (xaf hbw hb2)) (hH.later xaB (xaf hbw hb2)) hSi).mono ?_)
       rintro e w3 ⟨af,cf,rfl,hKf,hbF⟩;refine⟨_,rfl,?_⟩;have hb3:Below wr.heap.size wr w3:=xaf hb2 hbF;refine hK _ _ (fun _=>?_) ?_
       ·exact hSl _ hb3
       clear hK K'
       try simp only[Act.put,qzF,qzG,qzH]
       obtain⟨R,HM⟩:∃ R,Hid (R=xcA X (j:Int) (i:Int) (xbz X t (j:Int) (i:Int))):=⟨_,rfl⟩;simp only[← HM.out] at hKf ⊢;refine tk 9 (⟨some 26,.move (.tmp 35),188,_,_,none⟩) (.tuple #[FsV R.1 (.slice af R.1.code.length cf),.bool R.2]) rfl (hSl _ hb3) (fun _ _ _ h=>h) rfl (by kernel_rfl) ?_ ?_
       ·intro w hSw;obtain⟨q0,q1,q2⟩:=hSw;go_simp
       try simp only[Act.put,qzF,qzG,qzH]
       refine tk 10 (⟨some 36,.extract (.tmp 26) 0,187,_,_,none⟩) (FsV R.1 (.slice af R.1.code.length cf)) rfl (hSl _ hb3) (fun _ _ _ h=>h) rfl (by kernel_rfl) ?_ ?_
       ·intro w hSw;obtain⟨q0,q1,q2⟩:=hSw;go_simp
       try simp only[Act.put,qzF,qzG,qzH]
       refine tk 11 (⟨some 37,.extract (.tmp 26) 1,4,_,_,none⟩) (.bool R.2) rfl (hSl _ hb3) (fun _ _ _ h=>h) rfl (by kernel_rfl) ?_ ?_
       ·intro w hSw;obtain⟨q0,q1,q2⟩:=hSw;go_simp
       try simp only[Act.put,qzF,qzG,qzH]
       obtain⟨r0,r1,r2,r3,r4⟩:=xo2 (xaa hUb (xaf hbS hbF));have rf:=fun o=>xb5 (xaa hUb (xaf hbS hbF)) o
       have HFIN:Hid (AlC wr R (.pointer (some ⟨bf,0,none⟩)) (.bool R.2) (xmT w3 bf (.int .i64 R.1.cls) (.string R.1.name) (.int .i64 R.1.ez) (.int .i64 R.1.temps) (.slice af R.1.code.length cf))):=xn1 hb3 hUw (xaa hUb (xaf hbS hbF)) hKf (fun b hb=>⟨by have:=hb.1;have:=hb2.size;omega,by have:=hb.1;have:=hbS.size;omega⟩)
       refine xao (rs:=[13]) (by kernel_rfl) (by simp) ?_
       intro i hi;simp only[List.mem_cons,List.not_mem_nil,or_false] at hi;subst hi;refine xa0 (o:=⟨none,.store 187 (.tmp 8) (.tmp 36),0,_,_,none⟩) rfl (fun K' hK=>?_)
       go_simp;refine hK _ _ (fun _=>?_) ?_
       ·exact⟨xdd (hSl _ hb3).1 (by have:=hUw;have:=hwl;omega),xdd (hSl _ hb3).2.1 (by have:=hUw;have:=hwl;omega),xdd (hSl _ hb3).2.2 (by have:=hUw;have:=hwl;omega)⟩
       clear hK K'
       try simp only[Act.put,qzF,qzG,qzH]
       refine tk 14 (⟨some 9,.assign (.tmp 37),4,_,_,none⟩) (.bool R.2) rfl (⟨xdd (hSl _ hb3).1 (by have:=hUw;have:=hwl;omega),xdd (hSl _ hb3).2.1 (by have:=hUw;have:=hwl;omega),xdd (hSl _ hb3).2.2 (by have:=hUw;have:=hwl;omega)⟩) (fun _ _ _ h=>h) rfl (by kernel_rfl) ?_ ?_
       ·intro w hSw;obtain⟨q0,q1,q2⟩:=hSw;go_simp
       try simp only[Act.put,qzF,qzG,qzH]
       refine xaE (by kernel_rfl) ?_ _
       try simp only[Act.put,qzF,qzG,qzH]
       go_wp2_with fail
       go_meet
       case rel=>rw[← HM.out];exact HFIN.out
     case rest=>
      obtain⟨R,HM⟩:∃ R,Hid (xcA X (j:Int) (i:Int) (xbz X t (j:Int) (i:Int))=R):=⟨_,rfl⟩;rw[HM.out] at hcut;obtain⟨f,ok⟩:=R;obtain⟨bf,af,cf,rfl,rfl,hbx,hbc,hcf⟩:=hcut;dsimp only at hbx hcf ⊢;have hL2:=hL.later hbc;have hsz2:=hL2.sz;have hLv:=fun g hg=>(hL.own.lt g hg).2
      cases ok with
      | false=>
       have HE:Hid (fs=xgT X t j++xkP X t j (i+1)):=by show _=_;rw[HFS.out,xg3,xrl HM.out];simp
       go_wp2
       go_roundg (x.mz.length-(i+1))
       case measure=>omega
       case rel=>exact⟨i+1,cs,by omega,by go_num,by rw[← HE.out];exact hL2⟩
      | true=>
       have HE:Hid (fs++[f]=xgT X t j++xkP X t j (i+1)):=by show _=_;rw[HFS.out,xg3,xpA HM.out,List.append_assoc]
       obtain⟨r0,r1,r2,r3,r4⟩:=xo2 hbx
       go_wp2_with (at_builtin;refine xbS rfl (.tmp 39) (.tmp 41) 157 187 _ 5 64 rfl Tryz.underlying157 xqP rfl (by omega) (w.heap.size+1) fs.length (.slice a fs.length cap) cs rfl (hL2.own.alloc _) wc.heap.size rfl [.int .i64 f.cls,.string f.name,.int .i64 f.ez,.int .i64 f.temps,.slice af f.code.length cf] rfl (heap_alloc_new _ _) (by intro u hu;simp only[List.mem_cons,List.not_mem_nil,or_false] at hu;rcases hu with h | h | h | h | h<;>(subst h;rfl)) (by unfold maxLen;omega) (by omega) (qzD hsz2 (by simp)) ?_;intro a3 cap3 w3 s1 s2 s3 s4;have hN:=xcE ((hL2.later (xai wc (.cells #[.int .i64 f.cls,.string f.name,.int .i64 f.ez,.int .i64 f.temps,.slice af f.code.length cf] 187))).add (f:=f) (kv:=.slice af f.code.length cf) (L:=wr.heap.size) (hcf.later xaU (xai wc _)) (fun b hb=>hb) hwl hLv s1 s2 s3 s4);clear s1 s2 s3 s4)
       go_roundg (x.mz.length-(i+1))
       case measure=>omega
       case rel=>exact⟨i+1,_,by omega,by go_num,by rw[← HE.out];exact hN.out⟩
    ·obtain rfl:i=x.mz.length:=by omega
     have HE:Hid (xgT X t j++xkP X t j x.mz.length=xgT X t (j+1)):=by show _=_;rw[xkg,HNM.out]
     rw[HE.out] at hL ⊢;go_wp2
     go_roundg (X.cz.length-(j+1))
     case measure=>have:=HJ.out;omega
     case rel=>exact⟨j+1,cs,by omega,by go_num,hL⟩
  ·obtain rfl:j=X.cz.length:=by omega
   have hF:=hL.fasts (by have:=xiM (X:=X) (t:=t) h8 X.cz.length;omega)
   have HQ:=xcE (hF.mono xiC (Q:=fun b=>w.heap.size<=b) fun b hb=>by omega)
   go_wp2
   go_ret
   exact⟨a,cap,rfl,HQ.out,hbw⟩
def GdB (y:QI):Prop:=y.op=18->0<=y.b/\y.b<=1000
theorem xoJ {X:QW}(h:xau X=0){sites:List Int}{m:QM}(hm:Sml m):∀ {k:Nat},k<=m.code.length->∀ y∈(xah X.cz sites m k).code,GdB y
 | 0,_,y,hy=>by simp[xah] at hy
 | k+1,hk,y,hy=>by
  have ih:=xoJ h hm (sites:=sites) (k:=k) (by omega)
  have hx:m.code[k]?=some m.code[k]:=List.getElem?_eq_getElem (by omega)
  have hxm:m.code[k]∈m.code:=List.getElem_mem _;rw[xbm hx] at hy;generalize xah X.cz sites m k=s at *;generalize m.code[k]=x at *;obtain⟨p1,p2,-⟩:=hm.plain x hxm;unfold xdP at hy
  cases hw:xee X.cz sites m.code.length s.code.length s.temps k x with
  | none=>
   rw[hw] at hy;have hso:(xbn x (k:Int)).op=x.op:=by unfold xbn;split<;>rfl
   rcases List.mem_append.1 hy with h' | h'
   ·exact ih y h'
   ·rw[List.mem_singleton] at h';subst h';intro ho;rw[hso] at ho
    omega
  | some leaf=>
   rw[hw] at hy
   have hst:xaY X.cz sites k x=some leaf:=by
    unfold xee at hw
    split at hw
    ·cases hw
    ·rename_i l hl
     split at hw
     ·cases hw;exact hl
     ·cases hw
   obtain⟨hs,-⟩:=xbA h hst
   rcases List.mem_append.1 hy with h' | h'
   ·exact ih y h'
   ·rcases xhS hs (ins 18 (sites.getD k (-1)) leaf.args k) s.temps s.code.length (by omega) y h' with rfl | ⟨g1,-⟩
    ·intro _;have:=hs.args
     exact⟨this.1,by show leaf.args<=1000;omega⟩
    ·intro e;exact absurd e g1
theorem xr6 {begins:List Int}{plain code:List QI}(h:∀ y∈code,GdB y):∀ k,∀ y∈xdQ begins plain code k,GdB y
 | 0,y,hy=>h y hy
 | k+1,y,hy=>by
  have ih:=xr6 h (begins:=begins) (plain:=plain) k;unfold xdQ at hy
  split at hy
  ·split at hy
   ·rcases xh3 hy with h' | ⟨z,hz,rfl⟩
    ·exact ih y h'
    ·exact fun e=>ih z (List.mem_of_getElem? hz) e
   ·exact ih y hy
  ·exact ih y hy
theorem xpR {X:QW}(hX:xau X=0){f:Fst}(h:xd5 X f):f.code.length<=500/\∀ x∈f.code,x.op=18->0<=x.b/\x.b<=1000:=by
 obtain⟨c,k,mt,sites,hm,hf⟩:=h;have hs:=xdn hX hm;have hok:(xcr X c mt sites).2=true:=by rw[hf]
 have hg:=(xnK hX hs hok).1;rw[hf] at hg;refine⟨by simp only at hg;omega,?_⟩
 have hb:=xoJ hX hs (sites:=sites) (qzC mt.code.length);unfold xcr at hf;simp only at hf
 split at hf
 ·cases hf
 ·cases hf
  exact fun x hx=>xr6 hb _ x hx
theorem xlD {X:QW}{t:List QT}{n:Nat}:∀ f∈xgT X t n,xd5 X f:=by
 intro f hf;unfold xgT at hf;obtain⟨c,-,hf⟩:=List.mem_flatMap.1 hf;unfold xkP at hf;obtain⟨k,-,hf⟩:=List.mem_flatMap.1 hf;unfold xpn at hf
 split at hf
 ·rename_i hok;rw[List.mem_singleton] at hf;subst hf
  exact xjm (c:=(c:Int)) (k:=(k:Int)) (sites:=xbz X t c k) (by rw[← hok])
 ·cases hf
theorem xrB {X:QW}(hX:xau X=0){t:List QT}{n:Nat}:FewF (xgT X t n):=⟨fun f hf=>xpR hX (xlD f hf)⟩
end Go.Proofs.YtbafokihegegiaaGreatDoor
