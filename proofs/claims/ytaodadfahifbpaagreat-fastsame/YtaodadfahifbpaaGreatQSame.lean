/- FastSame: fast or plain it is the same: whatever tallies say, a call by fast code comes to what it does without. For every input. -/
import Derived.Test.YtaodadfahifbpaaGreatQ22
import Derived.ChangeMaps5
namespace Go.Proofs.YtaodadfahifbpaaGreat
open Go.ChangeShapes Go.WideShapes Go.ChangeAt Go.RowKit
set_option linter.unusedSimpArgs false
set_option linter.unusedVariables false
set_option maxHeartbeats 8000000
set_option maxRecDepth 8000
theorem xkP {w:World}{B:Nat}{x y z:Value}{t:TypeId}(h:w.heap[B]?=some (.cells #[x,y,z] t (0,0))):(w.cell? ⟨B,0,none⟩=some x/\w.cell? ⟨B,1,none⟩=some y/\w.cell? ⟨B,2,none⟩=some z)/\(∀ o,w.frozen? ⟨B,o,none⟩=false):=by
 refine⟨⟨?_,?_,?_⟩,fun o=>by unfold World.frozen?;simp[h]⟩<;>rw[qzB h]<;>rfl
theorem xqe (args:Array Value)(w:World):(callFunc 22 args).run Tryz.prog w=.ok (.enter 22 args) w:=xdN Tryz.func22 (by kernel_rfl) (by kernel_rfl) args w
theorem xry (args:Array Value)(w:World):(callFunc 23 args).run Tryz.prog w=.ok (.enter 23 args) w:=xdN Tryz.func23 (by kernel_rfl) (by kernel_rfl) args w
theorem xn4 {w:World}{B:Nat}{x y z u v:Value}{t:TypeId}(h:w.heap[B]?=some (.cells #[x,y,z,u,v] t (0,0))):w.cell? ⟨B,0,none⟩=some x/\w.cell? ⟨B,1,none⟩=some y/\w.cell? ⟨B,2,none⟩=some z/\w.cell? ⟨B,3,none⟩=some u/\w.cell? ⟨B,4,none⟩=some v:=by
 refine⟨?_,?_,?_,?_,?_⟩<;>rw[qzB h]<;>rfl
def AlC (wr:World)(r:Fst × Bool)(pv ov:Value)(wx:World):Prop:=
 ∃ (bf:Nat) (a:Option Addr) (cap:Nat),pv=.pointer (some ⟨bf,0,none⟩)/\ov=.bool r.2/\wx.heap[bf]?=some (.cells #[.int .i64 r.1.cls,.string r.1.name,.int .i64 r.1.ez,.int .i64 r.1.temps,.slice a r.1.code.length cap] 49 (0,0))/\Below wr.heap.size wr wx/\xaR (fun b=>wr.heap.size<=b) wx (.slice a r.1.code.length cap) r.1.code
theorem xm7 {wr U:World}{r:Fst × Bool}{bf:Nat}{a:Option Addr}{cap:Nat}{P:Nat->Prop}{u0 u1 u2 u3 u4:Value}(hb:Below wr.heap.size wr U)(hbf:wr.heap.size<=bf)(hU:U.heap[bf]?=some (.cells #[u0,u1,u2,u3,u4] 49 (0,0)))(hc:xaR P U (.slice a r.1.code.length cap) r.1.code)(hP:∀ b,P b->wr.heap.size<=b/\b≠bf):AlC wr r (.pointer (some ⟨bf,0,none⟩)) (.bool r.2) (xk4 U bf (.int .i64 r.1.cls) (.string r.1.name) (.int .i64 r.1.ez) (.int .i64 r.1.temps) (.slice a r.1.code.length cap)):=by
 refine⟨bf,a,cap,rfl,rfl,?_,xrN hb hbf,hc.keep xa2 (Keeps.of_block fun b hb' _=>xr2 (hP b hb').2) fun b hb'=>(hP b hb').1⟩
 unfold xk4;rw[xag (xag (xag (xag (xag hU _) _) _) _) _];rfl
theorem xkD {P P2:Nat->Prop}(X:QW)(hX:xaH X=0)(t:List QT)(cv hv tv:Value)(w:World)(hC:xai P w cv X.cz)(hH:xaD P w hv X.heap)(hT:xbi P2 w tv t) :
  Calls Tryz.prog 9 #[WV cv hv X.ez,tv] w fun e w'=>∃ a cap,e=.returned (.slice a (xd4 X t X.cz.length).length cap)/\xdl (fun b=>w.heap.size<=b) w' (.slice a (xd4 X t X.cz.length).length cap) (xd4 X t X.cz.length)/\Below w.heap.size w w':=by
 obtain⟨ac,cc,rfl,hlc,hcc,-,hrowC0⟩:=id hC;obtain⟨ah,ch,rfl,-⟩:=id hH;obtain⟨att,ct,rfl,-⟩:=id hT;unfold maxLen at hcc;have h12:=xnm hX;have h8:=xjK hX
 obtain⟨b1,o1,rfl⟩:∃ b1 o1,ac=some ⟨b1,o1,none⟩:=by
  have hl4:0<X.cz.length:=by
   unfold xaH at hX
   split at hX
   ·cases hX
   ·omega
  obtain⟨b,o,e,-⟩:=hrowC0 0 X.cz[0] (List.getElem?_eq_getElem hl4)
  exact⟨b,o,e⟩
 clear hrowC0;have hL0:=xp1 w (.cells #[.slice (some ⟨b1,o1,none⟩) X.cz.length cc,.slice ah X.heap.length ch,.int .i64 X.ez] 25);have hb0:=xak w (.cells #[.slice (some ⟨b1,o1,none⟩) X.cz.length cc,.slice ah X.heap.length ch,.int .i64 X.ez] 25);have kb:(w.alloc (.cells #[.slice (some ⟨b1,o1,none⟩) X.cz.length cc,.slice ah X.heap.length ch,.int .i64 X.ez] 25)).heap[w.heap.size]?=some (.cells #[.slice (some ⟨b1,o1,none⟩) X.cz.length cc,.slice ah X.heap.length ch,.int .i64 X.ez] 25 (0,0)):=qzJ _ _;go_enter Tryz.func9,Tryz.ntmps9
 go_upto_region 2 with (fail)
 generalize w.alloc (.cells #[.slice (some ⟨b1,o1,none⟩) X.cz.length cc,.slice ah X.heap.length ch,.int .i64 X.ez] 25)=W0 at *;obtain⟨⟨k0,k1,k2⟩,-⟩:=xkP kb;go_wp2;clear k0 k1 k2
 go_loopg [5,13] X.cz.length (fun g v iv wr=>∃ (j:Nat) (cs:List Value),j+g=X.cz.length/\iv=.int .i64 (j:Int)/\FaL W0 (w.heap.size+1) (xd4 X t j) cs v wr)
 case atStart=>exact⟨0,[],by omega,rfl,by simpa [xd4] using hL0⟩
 case round=>
  clear hL0;obtain⟨j,cs,hj,rfl,hL⟩:=hrel;rename_i vo _;obtain⟨a,cap,rfl,hal,hac⟩:=hL.form;have hbw:Below w.heap.size w wr:=hb0.trans ⟨hL.bel.os,hL.bel.tape,hL.bel.output,hL.bel.size,fun b hb=>hL.bel.block b (by omega)⟩
  by_cases hlt:j<X.cz.length
  ·obtain⟨x,hx⟩:∃ x,X.cz[j]?=some x:=⟨_,List.getElem?_eq_getElem hlt⟩;have HX:=xcr hx;obtain⟨ac2,cc2,e2,-,-,-,hrowC⟩:=hC.later xaA hbw
   cases e2
   obtain⟨b2,o2,e3,-,u0,u1,u2,-,mv,u3,hms⟩:=hrowC j x hx
   cases e3
   obtain⟨am,cm,rfl,hlm,hcm,-,-⟩:=hms;simp only[Nat.add_zero] at u0;unfold maxLen at hcm;have HNM:Hid (xjc X j=x.mz.length):=by show _=_;unfold xjc;rw[hx]
   have hm8:x.mz.length<=8:=by rw[← HNM.out];exact h8 j
   have hj1:(j:Int)<(X.cz.length:Int):=by omega
   have hj0:(0:Int)<=(j:Int):=by omega
   have kb1:=(hL.bel.block w.heap.size (by omega)).trans kb
   obtain⟨⟨k0,k1,k2⟩,-⟩:=xkP kb1;have HJ:=xcr hj;have hL1:=hL;clear hrowC hx;go_wp2;clear u0 u1 u2 u3 k0 k1 k2 kb1
   go_loopg [5,23] x.mz.length (fun g v iv wr2=>∃ (i:Nat) (cs:List Value),i+g=x.mz.length/\iv=.int .i64 (i:Int)/\FaL W0 (w.heap.size+1) (xd4 X t j++xjJ X t j i) cs v wr2)
   case atStart=>exact⟨0,cs,by omega,rfl,by simpa [xjJ] using hL1⟩
   case round=>
    clear hL hL1 hbw;obtain⟨i,cs,hi,rfl,hL⟩:=hrel;rename_i vo2 _;obtain⟨a,cap,e5,hal,hac⟩:=hL.form;subst e5;have hbw:Below w.heap.size w wr:=hb0.trans ⟨hL.bel.os,hL.bel.tape,hL.bel.output,hL.bel.size,fun b hb=>hL.bel.block b (by omega)⟩
    have hwl:=hL.sz
    by_cases hlt2:i<x.mz.length
    ·have hln:(xd4 X t j++xjJ X t j i).length<=200:=by
      rw[List.length_append];have:=xhI (X:=X) (t:=t) h8 j;have:=xhQ (X:=X) (t:=t) j i
      omega
     have kb1:=(hL.bel.block w.heap.size (by omega)).trans kb
     obtain⟨⟨k0,k1,k2⟩,-⟩:=xkP kb1;have HI:=xcr hi;obtain⟨fs,HFS⟩:∃ fs,Hid (fs=xd4 X t j++xjJ X t j i):=⟨_,rfl⟩;rw[← HFS.out] at hL hln hal ⊢
     go_upto_region 8 with (fail)
     have iS:∀ w',Below wr.heap.size wr w'->w'.cell? ⟨w.heap.size,0,none⟩=some (.slice (some ⟨b1,o1,none⟩) X.cz.length cc)/\w'.cell? ⟨w.heap.size,1,none⟩=some (.slice ah X.heap.length ch)/\w'.cell? ⟨w.heap.size,2,none⟩=some (.int .i64 X.ez):=fun w' hb=>⟨qzA hb k0,qzA hb k1,qzA hb k2⟩
     have hd1:Below wr.heap.size wr wr.drew:=(qzL _ wr).drew;have hS0:=iS _ hd1;clear k0 k1 k2 kb1
     go_cut [8,9] (fun pv ov wx=>AlC wr (xch X (j:Int) (i:Int) (xbs X t (j:Int) (i:Int))) pv ov wx)
     case first=>
      refine xav (S:=fun w'=>w'.cell? ⟨w.heap.size,0,none⟩=some (.slice (some ⟨b1,o1,none⟩) X.cz.length cc)/\w'.cell? ⟨w.heap.size,1,none⟩=some (.slice ah X.heap.length ch)/\w'.cell? ⟨w.heap.size,2,none⟩=some (.int .i64 X.ez)) [] (by kernel_rfl) ?_
      refine tj 0 (⟨some 27,.load 25 (.tmp 2),25,_,_,none⟩) (WV (.slice (some ⟨b1,o1,none⟩) X.cz.length cc) (.slice ah X.heap.length ch) X.ez) (hS0) ?_ ?_
      ·rintro w⟨q0,q1,q2⟩;go_simp
      try simp only[Act.put,qzF,qzG,qzH]
      refine tj 1 (⟨some 28,.move (.tmp 6),3,_,_,none⟩) (.int .i64 (j:Int)) (hS0) ?_ ?_
      ·rintro w⟨q0,q1,q2⟩;go_simp
      try simp only[Act.put,qzF,qzG,qzH]
      refine tj 2 (⟨some 29,.move (.tmp 7),3,_,_,none⟩) (.int .i64 (i:Int)) (hS0) ?_ ?_
      ·rintro w⟨q0,q1,q2⟩;go_simp
      try simp only[Act.put,qzF,qzG,qzH]
      refine tj 3 (⟨some 30,.load 25 (.tmp 2),25,_,_,none⟩) (WV (.slice (some ⟨b1,o1,none⟩) X.cz.length cc) (.slice ah X.heap.length ch) X.ez) (hS0) ?_ ?_
      ·rintro w⟨q0,q1,q2⟩;go_simp
      try simp only[Act.put,qzF,qzG,qzH]
      refine tj 4 (⟨some 31,.move (.tmp 1),31,_,_,none⟩) (.slice att t.length ct) (hS0) ?_ ?_
      ·rintro w⟨q0,q1,q2⟩;go_simp
      try simp only[Act.put,qzF,qzG,qzH]
      refine tj 5 (⟨some 32,.move (.tmp 6),3,_,_,none⟩) (.int .i64 (j:Int)) (hS0) ?_ ?_
      ·rintro w⟨q0,q1,q2⟩;go_simp
      try simp only[Act.put,qzF,qzG,qzH]
      refine tj 6 (⟨some 33,.move (.tmp 7),3,_,_,none⟩) (.int .i64 (i:Int)) (hS0) ?_ ?_
      ·rintro w⟨q0,q1,q2⟩;go_simp
      try simp only[Act.put,qzF,qzG,qzH]
      refine xab (rs:=[7,12]) (by kernel_rfl) (by simp) ?_
      intro i hi;simp only[List.mem_cons,List.not_mem_nil,or_false] at hi
      rcases hi with hi | hi
      ·subst hi;refine xaN (o:=⟨some 34,.call ⟨.value (.func 23),#[.tmp 30,.tmp 31,.tmp 32,.tmp 33],#[25,31,3,3]⟩,87,_,_,none⟩) rfl (fun K' hK=>?_)
       refine xaZ rfl 23 (.func 23) #[.tmp 30,.tmp 31,.tmp 32,.tmp 33] _ rfl #[] rfl #[WV (.slice (some ⟨b1,o1,none⟩) X.cz.length cc) (.slice ah X.heap.length ch) X.ez,.slice att t.length ct,.int .i64 (j:Int),.int .i64 (i:Int)] (by simp[Act.eval,Act.put]) (xry _ _) ?_
       refine (show Calls Tryz.prog 23 #[WV (.slice (some ⟨b1,o1,none⟩) X.cz.length cc) (.slice ah X.heap.length ch) X.ez,.slice att t.length ct,.int .i64 (j:Int),.int .i64 (i:Int)] wr.drew _ from (xi5 X t (j:Int) (i:Int) _ _ _ wr.drew (hC.later xaA (xaf hbw hd1)) (hH.later xaE (xaf hbw hd1)) (hT.later xd3 (xaf hbw hd1))).mono ?_)
       rintro e w2 ⟨as_,cs,rfl,hSi,hbS⟩;refine⟨_,rfl,?_⟩;have hb2:Below wr.heap.size wr w2:=xaf hd1 hbS;refine hK _ _ (fun _=>?_) ?_
       ·exact iS _ hb2
       clear hK K'
       try simp only[Act.put,qzF,qzG,qzH]
       refine xab (rs:=[8,12]) (by kernel_rfl) (by simp) ?_
       intro i hi;simp only[List.mem_cons,List.not_mem_nil,or_false] at hi
       rcases hi with hi | hi
       ·subst hi;refine xaN (o:=⟨some 35,.call ⟨.value (.func 22),#[.tmp 27,.tmp 28,.tmp 29,.tmp 34],#[25,3,3,87]⟩,85,_,_,none⟩) rfl (fun K' hK=>?_)
        refine xaZ rfl 22 (.func 22) #[.tmp 27,.tmp 28,.tmp 29,.tmp 34] _ rfl #[] rfl #[WV (.slice (some ⟨b1,o1,none⟩) X.cz.length cc) (.slice ah X.heap.length ch) X.ez,.int .i64 (j:Int),.int .i64 (i:Int),.slice as_ (xbs X t (j:Int) (i:Int)).length cs] (by simp[Act.eval,Act.put]) (xqe _ _) ?_
        refine (show Calls Tryz.prog 22 #[WV (.slice (some ⟨b1,o1,none⟩) X.cz.length cc) (.slice ah X.heap.length ch) X.ez,.int .i64 (j:Int),.int .i64 (i:Int),.slice as_ (xbs X t (j:Int) (i:Int)).length cs] w2 _ from (xej X hX (j:Int) (i:Int) (xbs X t (j:Int) (i:Int)) _ _ _ w2 (hC.later xaA (xaf hbw hb2)) (hH.later xaE (xaf hbw hb2)) hSi).mono ?_)
        rintro e w3 ⟨af,cf,rfl,hKf,hbF⟩;refine⟨_,rfl,?_⟩;have i3:Below wr.heap.size wr w3:=xaf hb2 hbF;refine hK _ _ (fun _=>?_) ?_
        ·exact iS _ i3
        clear hK K'
        try simp only[Act.put,qzF,qzG,qzH]
        obtain⟨R,HM⟩:∃ R,Hid (R=xch X (j:Int) (i:Int) (xbs X t (j:Int) (i:Int))):=⟨_,rfl⟩;simp only[← HM.out] at hKf ⊢;refine tj 9 (⟨some 26,.move (.tmp 35),85,_,_,none⟩) (.tuple #[FsV R.1 (.slice af R.1.code.length cf),.bool R.2]) (iS _ i3) ?_ ?_
        ·rintro w⟨q0,q1,q2⟩;go_simp
        try simp only[Act.put,qzF,qzG,qzH]
        refine tj 10 (⟨some 36,.extract (.tmp 26) 0,49,_,_,none⟩) (FsV R.1 (.slice af R.1.code.length cf)) (iS _ i3) ?_ ?_
        ·rintro w⟨q0,q1,q2⟩;go_simp
        try simp only[Act.put,qzF,qzG,qzH]
        refine tj 11 (⟨some 37,.extract (.tmp 26) 1,4,_,_,none⟩) (.bool R.2) (iS _ i3) ?_ ?_
        ·rintro w⟨q0,q1,q2⟩;go_simp
        try simp only[Act.put,qzF,qzG,qzH]
        refine xab (rs:=[12]) (by kernel_rfl) (by simp) ?_
        intro i hi;simp only[List.mem_cons,List.not_mem_nil,or_false] at hi;subst hi;refine xaN (o:=⟨some 8,.alloc 49,0,_,_,none⟩) rfl (fun K' hK=>?_)
        go_simp;refine hK _ _ (fun _=>?_) ?_
        ·exact iS _ (xaf i3 (xak _ _))
        clear hK K'
        try simp only[Act.put,qzF,qzG,qzH]
        have hUb:(w3.alloc (.cells #[.int .i64 0,.string ⟨#[]⟩,.int .i64 0,.int .i64 0,.slice none 0 0] 49)).heap[w3.heap.size]?=some (.cells #[.int .i64 0,.string ⟨#[]⟩,.int .i64 0,.int .i64 0,.slice none 0 0] 49 (0,0)):=qzJ _ _;have hbU:Below wr.heap.size wr (w3.alloc (.cells #[.int .i64 0,.string ⟨#[]⟩,.int .i64 0,.int .i64 0,.slice none 0 0] 49)):=xaf i3 (xak _ _);have hUl:w3.heap.size<(w3.alloc (.cells #[.int .i64 0,.string ⟨#[]⟩,.int .i64 0,.int .i64 0,.slice none 0 0] 49)).heap.size:=by simp
        have iU:wr.heap.size<=w3.heap.size:=i3.size;have hUk:Below w3.heap.size w3 (w3.alloc (.cells #[.int .i64 0,.string ⟨#[]⟩,.int .i64 0,.int .i64 0,.slice none 0 0] 49)):=xak _ _;generalize w3.alloc (.cells #[.int .i64 0,.string ⟨#[]⟩,.int .i64 0,.int .i64 0,.slice none 0 0] 49)=U at *;obtain⟨bf,HBF⟩:∃ bf,Hid (bf=w3.heap.size):=⟨_,rfl⟩;rw[← HBF.out] at hUb hUl iU ⊢;obtain⟨r0,r1,r2,r3,r4⟩:=xn4 hUb;have rf:=fun o=>xbT hUb o
        have iF:Hid (AlC wr R (.pointer (some ⟨bf,0,none⟩)) (.bool R.2) (xk4 U bf (.int .i64 R.1.cls) (.string R.1.name) (.int .i64 R.1.ez) (.int .i64 R.1.temps) (.slice af R.1.code.length cf))):=xm7 hbU iU hUb (hKf.later xa2 hUk) (fun b hb=>⟨by have:=hb.1;have:=hb2.size;omega,by have:=hb.2;have:=HBF.out;omega⟩)
        refine xab (rs:=[13]) (by kernel_rfl) (by simp) ?_
        intro i hi;simp only[List.mem_cons,List.not_mem_nil,or_false] at hi;subst hi;refine xaN (o:=⟨none,.store 49 (.tmp 8) (.tmp 36),0,_,_,none⟩) rfl (fun K' hK=>?_)
        go_simp;refine hK _ _ (fun _=>?_) ?_
        ·exact⟨xc2 (iS _ hbU).1 (by have:=iU;have:=hwl;omega),xc2 (iS _ hbU).2.1 (by have:=iU;have:=hwl;omega),xc2 (iS _ hbU).2.2 (by have:=iU;have:=hwl;omega)⟩
        clear hK K'
        try simp only[Act.put,qzF,qzG,qzH]
        refine tj 14 (⟨some 9,.assign (.tmp 37),4,_,_,none⟩) (.bool R.2) (⟨xc2 (iS _ hbU).1 (by have:=iU;have:=hwl;omega),xc2 (iS _ hbU).2.1 (by have:=iU;have:=hwl;omega),xc2 (iS _ hbU).2.2 (by have:=iU;have:=hwl;omega)⟩) ?_ ?_
        ·rintro w⟨q0,q1,q2⟩;go_simp
        try simp only[Act.put,qzF,qzG,qzH]
        refine xaz (by kernel_rfl) ?_ _
        try simp only[Act.put,qzF,qzG,qzH]
        go_wp2_with fail
        go_meet
        case rel=>rw[← HM.out];exact iF.out
       ·subst hi;refine xaN (o:=⟨some 8,.alloc 49,0,_,_,none⟩) rfl (fun K' hK=>?_)
        go_simp;refine hK _ _ (fun _=>?_) ?_
        ·exact iS _ (xaf hb2 (xak _ _))
        clear hK K'
        try simp only[Act.put,qzF,qzG,qzH]
        have hUb:(w2.alloc (.cells #[.int .i64 0,.string ⟨#[]⟩,.int .i64 0,.int .i64 0,.slice none 0 0] 49)).heap[w2.heap.size]?=some (.cells #[.int .i64 0,.string ⟨#[]⟩,.int .i64 0,.int .i64 0,.slice none 0 0] 49 (0,0)):=qzJ _ _;have hbU:Below wr.heap.size wr (w2.alloc (.cells #[.int .i64 0,.string ⟨#[]⟩,.int .i64 0,.int .i64 0,.slice none 0 0] 49)):=xaf hb2 (xak _ _);have hUl:w2.heap.size<(w2.alloc (.cells #[.int .i64 0,.string ⟨#[]⟩,.int .i64 0,.int .i64 0,.slice none 0 0] 49)).heap.size:=by simp
        have iU:wr.heap.size<=w2.heap.size:=hb2.size;have hUk:Below w2.heap.size w2 (w2.alloc (.cells #[.int .i64 0,.string ⟨#[]⟩,.int .i64 0,.int .i64 0,.slice none 0 0] 49)):=xak _ _;generalize w2.alloc (.cells #[.int .i64 0,.string ⟨#[]⟩,.int .i64 0,.int .i64 0,.slice none 0 0] 49)=U at *;obtain⟨bf,HBF⟩:∃ bf,Hid (bf=w2.heap.size):=⟨_,rfl⟩;rw[← HBF.out] at hUb hUl iU ⊢;refine xab (rs:=[8]) (by kernel_rfl) (by simp) ?_
        intro i hi;simp only[List.mem_cons,List.not_mem_nil,or_false] at hi;subst hi;refine xaN (o:=⟨some 35,.call ⟨.value (.func 22),#[.tmp 27,.tmp 28,.tmp 29,.tmp 34],#[25,3,3,87]⟩,85,_,_,none⟩) rfl (fun K' hK=>?_)
        refine xaZ rfl 22 (.func 22) #[.tmp 27,.tmp 28,.tmp 29,.tmp 34] _ rfl #[] rfl #[WV (.slice (some ⟨b1,o1,none⟩) X.cz.length cc) (.slice ah X.heap.length ch) X.ez,.int .i64 (j:Int),.int .i64 (i:Int),.slice as_ (xbs X t (j:Int) (i:Int)).length cs] (by simp[Act.eval,Act.put]) (xqe _ _) ?_
        refine (show Calls Tryz.prog 22 #[WV (.slice (some ⟨b1,o1,none⟩) X.cz.length cc) (.slice ah X.heap.length ch) X.ez,.int .i64 (j:Int),.int .i64 (i:Int),.slice as_ (xbs X t (j:Int) (i:Int)).length cs] U _ from (xej X hX (j:Int) (i:Int) (xbs X t (j:Int) (i:Int)) _ _ _ U (hC.later xaA (xaf hbw hbU)) (hH.later xaE (xaf hbw hbU)) (hSi.later xil hUk)).mono ?_)
        rintro e w3 ⟨af,cf,rfl,hKf,hbF⟩;refine⟨_,rfl,?_⟩;have i3:Below wr.heap.size wr w3:=xaf hbU hbF;refine hK _ _ (fun _=>?_) ?_
        ·exact iS _ i3
        clear hK K'
        try simp only[Act.put,qzF,qzG,qzH]
        obtain⟨R,HM⟩:∃ R,Hid (R=xch X (j:Int) (i:Int) (xbs X t (j:Int) (i:Int))):=⟨_,rfl⟩;simp only[← HM.out] at hKf ⊢;refine tj 9 (⟨some 26,.move (.tmp 35),85,_,_,none⟩) (.tuple #[FsV R.1 (.slice af R.1.code.length cf),.bool R.2]) (iS _ i3) ?_ ?_
        ·rintro w⟨q0,q1,q2⟩;go_simp
        try simp only[Act.put,qzF,qzG,qzH]
        refine tj 10 (⟨some 36,.extract (.tmp 26) 0,49,_,_,none⟩) (FsV R.1 (.slice af R.1.code.length cf)) (iS _ i3) ?_ ?_
        ·rintro w⟨q0,q1,q2⟩;go_simp
        try simp only[Act.put,qzF,qzG,qzH]
        refine tj 11 (⟨some 37,.extract (.tmp 26) 1,4,_,_,none⟩) (.bool R.2) (iS _ i3) ?_ ?_
        ·rintro w⟨q0,q1,q2⟩;go_simp
        try simp only[Act.put,qzF,qzG,qzH]
        obtain⟨r0,r1,r2,r3,r4⟩:=xn4 (xad hUb hbF);have rf:=fun o=>xbT (xad hUb hbF) o
        have iF:Hid (AlC wr R (.pointer (some ⟨bf,0,none⟩)) (.bool R.2) (xk4 w3 bf (.int .i64 R.1.cls) (.string R.1.name) (.int .i64 R.1.ez) (.int .i64 R.1.temps) (.slice af R.1.code.length cf))):=xm7 i3 iU (xad hUb hbF) hKf (fun b hb=>⟨by have:=hb.1;have:=hbU.size;omega,by have:=hb.1;omega⟩)
        refine xab (rs:=[13]) (by kernel_rfl) (by simp) ?_
        intro i hi;simp only[List.mem_cons,List.not_mem_nil,or_false] at hi;subst hi;refine xaN (o:=⟨none,.store 49 (.tmp 8) (.tmp 36),0,_,_,none⟩) rfl (fun K' hK=>?_)
        go_simp;refine hK _ _ (fun _=>?_) ?_
        ·exact⟨xc2 (iS _ i3).1 (by have:=iU;have:=hwl;omega),xc2 (iS _ i3).2.1 (by have:=iU;have:=hwl;omega),xc2 (iS _ i3).2.2 (by have:=iU;have:=hwl;omega)⟩
        clear hK K'
        try simp only[Act.put,qzF,qzG,qzH]
        refine tj 14 (⟨some 9,.assign (.tmp 37),4,_,_,none⟩) (.bool R.2) (⟨xc2 (iS _ i3).1 (by have:=iU;have:=hwl;omega),xc2 (iS _ i3).2.1 (by have:=iU;have:=hwl;omega),xc2 (iS _ i3).2.2 (by have:=iU;have:=hwl;omega)⟩) ?_ ?_
        ·rintro w⟨q0,q1,q2⟩;go_simp
        try simp only[Act.put,qzF,qzG,qzH]
        refine xaz (by kernel_rfl) ?_ _
        try simp only[Act.put,qzF,qzG,qzH]
        go_wp2_with fail
        go_meet
        case rel=>rw[← HM.out];exact iF.out
      ·subst hi;refine xaN (o:=⟨some 8,.alloc 49,0,_,_,none⟩) rfl (fun K' hK=>?_)
       go_simp;refine hK _ _ (fun _=>?_) ?_
       ·exact iS _ (xak wr (.cells #[.int .i64 0,.string ⟨#[]⟩,.int .i64 0,.int .i64 0,.slice none 0 0] 49)).drew
       clear hK K'
       try simp only[Act.put,qzF,qzG,qzH]
       have hUb:((wr.alloc (.cells #[.int .i64 0,.string ⟨#[]⟩,.int .i64 0,.int .i64 0,.slice none 0 0] 49)).drew).heap[wr.heap.size]?=some (.cells #[.int .i64 0,.string ⟨#[]⟩,.int .i64 0,.int .i64 0,.slice none 0 0] 49 (0,0)):=qzJ wr _;have hbU:Below wr.heap.size wr ((wr.alloc (.cells #[.int .i64 0,.string ⟨#[]⟩,.int .i64 0,.int .i64 0,.slice none 0 0] 49)).drew):=(xak wr _).drew;have hUl:wr.heap.size<((wr.alloc (.cells #[.int .i64 0,.string ⟨#[]⟩,.int .i64 0,.int .i64 0,.slice none 0 0] 49)).drew).heap.size:=by show wr.heap.size<(wr.alloc _).heap.size;simp
       generalize (wr.alloc (.cells #[.int .i64 0,.string ⟨#[]⟩,.int .i64 0,.int .i64 0,.slice none 0 0] 49)).drew=U at *;obtain⟨bf,HBF⟩:∃ bf,Hid (bf=wr.heap.size):=⟨_,rfl⟩;have iU:wr.heap.size<=bf:=by rw[HBF.out];exact qzC _
       rw[← HBF.out] at hUb hUl ⊢;refine xab (rs:=[7]) (by kernel_rfl) (by simp) ?_
       intro i hi;simp only[List.mem_cons,List.not_mem_nil,or_false] at hi;subst hi;refine xaN (o:=⟨some 34,.call ⟨.value (.func 23),#[.tmp 30,.tmp 31,.tmp 32,.tmp 33],#[25,31,3,3]⟩,87,_,_,none⟩) rfl (fun K' hK=>?_)
       refine xaZ rfl 23 (.func 23) #[.tmp 30,.tmp 31,.tmp 32,.tmp 33] _ rfl #[] rfl #[WV (.slice (some ⟨b1,o1,none⟩) X.cz.length cc) (.slice ah X.heap.length ch) X.ez,.slice att t.length ct,.int .i64 (j:Int),.int .i64 (i:Int)] (by simp[Act.eval,Act.put]) (xry _ _) ?_
       refine (show Calls Tryz.prog 23 #[WV (.slice (some ⟨b1,o1,none⟩) X.cz.length cc) (.slice ah X.heap.length ch) X.ez,.slice att t.length ct,.int .i64 (j:Int),.int .i64 (i:Int)] U _ from (xi5 X t (j:Int) (i:Int) _ _ _ U (hC.later xaA (xaf hbw hbU)) (hH.later xaE (xaf hbw hbU)) (hT.later xd3 (xaf hbw hbU))).mono ?_)
       rintro e w2 ⟨as_,cs,rfl,hSi,hbS⟩;refine⟨_,rfl,?_⟩;have hb2:Below wr.heap.size wr w2:=xaf hbU hbS;refine hK _ _ (fun _=>?_) ?_
       ·exact iS _ hb2
       clear hK K'
       try simp only[Act.put,qzF,qzG,qzH]
       refine xab (rs:=[8]) (by kernel_rfl) (by simp) ?_
       intro i hi;simp only[List.mem_cons,List.not_mem_nil,or_false] at hi;subst hi;refine xaN (o:=⟨some 35,.call ⟨.value (.func 22),#[.tmp 27,.tmp 28,.tmp 29,.tmp 34],#[25,3,3,87]⟩,85,_,_,none⟩) rfl (fun K' hK=>?_)
       refine xaZ rfl 22 (.func 22) #[.tmp 27,.tmp 28,.tmp 29,.tmp 34] _ rfl #[] rfl #[WV (.slice (some ⟨b1,o1,none⟩) X.cz.length cc) (.slice ah X.heap.length ch) X.ez,.int .i64 (j:Int),.int .i64 (i:Int),.slice as_ (xbs X t (j:Int) (i:Int)).length cs] (by simp[Act.eval,Act.put]) (xqe _ _) ?_
       refine (show Calls Tryz.prog 22 #[WV (.slice (some ⟨b1,o1,none⟩) X.cz.length cc) (.slice ah X.heap.length ch) X.ez,.int .i64 (j:Int),.int .i64 (i:Int),.slice as_ (xbs X t (j:Int) (i:Int)).length cs] w2 _ from (xej X hX (j:Int) (i:Int) (xbs X t (j:Int) (i:Int)) _ _ _ w2 (hC.later xaA (xaf hbw hb2)) (hH.later xaE (xaf hbw hb2)) hSi).mono ?_)
       rintro e w3 ⟨af,cf,rfl,hKf,hbF⟩;refine⟨_,rfl,?_⟩;have i3:Below wr.heap.size wr w3:=xaf hb2 hbF;refine hK _ _ (fun _=>?_) ?_
       ·exact iS _ i3
       clear hK K'
       try simp only[Act.put,qzF,qzG,qzH]
       obtain⟨R,HM⟩:∃ R,Hid (R=xch X (j:Int) (i:Int) (xbs X t (j:Int) (i:Int))):=⟨_,rfl⟩;simp only[← HM.out] at hKf ⊢;refine tj 9 (⟨some 26,.move (.tmp 35),85,_,_,none⟩) (.tuple #[FsV R.1 (.slice af R.1.code.length cf),.bool R.2]) (iS _ i3) ?_ ?_
       ·rintro w⟨q0,q1,q2⟩;go_simp
       try simp only[Act.put,qzF,qzG,qzH]
       refine tj 10 (⟨some 36,.extract (.tmp 26) 0,49,_,_,none⟩) (FsV R.1 (.slice af R.1.code.length cf)) (iS _ i3) ?_ ?_
       ·rintro w⟨q0,q1,q2⟩;go_simp
       try simp only[Act.put,qzF,qzG,qzH]
       refine tj 11 (⟨some 37,.extract (.tmp 26) 1,4,_,_,none⟩) (.bool R.2) (iS _ i3) ?_ ?_
       ·rintro w⟨q0,q1,q2⟩;go_simp
       try simp only[Act.put,qzF,qzG,qzH]
       obtain⟨r0,r1,r2,r3,r4⟩:=xn4 (xad hUb (xaf hbS hbF));have rf:=fun o=>xbT (xad hUb (xaf hbS hbF)) o
       have iF:Hid (AlC wr R (.pointer (some ⟨bf,0,none⟩)) (.bool R.2) (xk4 w3 bf (.int .i64 R.1.cls) (.string R.1.name) (.int .i64 R.1.ez) (.int .i64 R.1.temps) (.slice af R.1.code.length cf))):=xm7 i3 iU (xad hUb (xaf hbS hbF)) hKf (fun b hb=>⟨by have:=hb.1;have:=hb2.size;omega,by have:=hb.1;have:=hbS.size;omega⟩)
       refine xab (rs:=[13]) (by kernel_rfl) (by simp) ?_
       intro i hi;simp only[List.mem_cons,List.not_mem_nil,or_false] at hi;subst hi;refine xaN (o:=⟨none,.store 49 (.tmp 8) (.tmp 36),0,_,_,none⟩) rfl (fun K' hK=>?_)
       go_simp;refine hK _ _ (fun _=>?_) ?_
       ·exact⟨xc2 (iS _ i3).1 (by have:=iU;have:=hwl;omega),xc2 (iS _ i3).2.1 (by have:=iU;have:=hwl;omega),xc2 (iS _ i3).2.2 (by have:=iU;have:=hwl;omega)⟩
       clear hK K'
       try simp only[Act.put,qzF,qzG,qzH]
       refine tj 14 (⟨some 9,.assign (.tmp 37),4,_,_,none⟩) (.bool R.2) (⟨xc2 (iS _ i3).1 (by have:=iU;have:=hwl;omega),xc2 (iS _ i3).2.1 (by have:=iU;have:=hwl;omega),xc2 (iS _ i3).2.2 (by have:=iU;have:=hwl;omega)⟩) ?_ ?_
       ·rintro w⟨q0,q1,q2⟩;go_simp
       try simp only[Act.put,qzF,qzG,qzH]
       refine xaz (by kernel_rfl) ?_ _
       try simp only[Act.put,qzF,qzG,qzH]
       go_wp2_with fail
       go_meet
       case rel=>rw[← HM.out];exact iF.out
     case rest=>
      obtain⟨R,HM⟩:∃ R,Hid (xch X (j:Int) (i:Int) (xbs X t (j:Int) (i:Int))=R):=⟨_,rfl⟩;rw[HM.out] at hcut;obtain⟨f,ok⟩:=R;obtain⟨bf,af,cf,rfl,rfl,hbx,hbc,hcf⟩:=hcut;dsimp only at hbx hcf ⊢;have hL2:=hL.later hbc;have hsz2:=hL2.sz;have hLv:=fun g hg=>(hL.own.lt g hg).2
      cases ok with
      | false=>
       have HE:Hid (fs=xd4 X t j++xjJ X t j (i+1)):=by show _=_;rw[HFS.out,xf2,xqS HM.out];simp
       go_wp2
       go_roundg (x.mz.length-(i+1))
       case measure=>omega
       case rel=>exact⟨i+1,cs,by omega,by go_num,by rw[← HE.out];exact hL2⟩
      | true=>
       have HE:Hid (fs++[f]=xd4 X t j++xjJ X t j (i+1)):=by show _=_;rw[HFS.out,xf2,xoV HM.out,List.append_assoc]
       obtain⟨r0,r1,r2,r3,r4⟩:=xn4 hbx
       go_wp2_with (at_builtin;refine xbf rfl (.tmp 39) (.tmp 41) 40 49 _ 5 64 rfl Tryz.underlying40 xru rfl (by omega) (w.heap.size+1) fs.length (.slice a fs.length cap) cs rfl (hL2.own.alloc _) wc.heap.size rfl [.int .i64 f.cls,.string f.name,.int .i64 f.ez,.int .i64 f.temps,.slice af f.code.length cf] rfl (qzJ _ _) (by intro u hu;simp only[List.mem_cons,List.not_mem_nil,or_false] at hu;rcases hu with h | h | h | h | h<;>(subst h;rfl)) (by unfold maxLen;omega) (by omega) (qzD hsz2 (by simp)) ?_;intro a3 cap3 w3 s1 s2 s3 s4;have hN:=xcr ((hL2.later (xak wc (.cells #[.int .i64 f.cls,.string f.name,.int .i64 f.ez,.int .i64 f.temps,.slice af f.code.length cf] 49))).add (f:=f) (kv:=.slice af f.code.length cf) (L:=wr.heap.size) (hcf.later xa2 (xak wc _)) (fun b hb=>hb) hwl hLv s1 s2 s3 s4);clear s1 s2 s3 s4)
       go_roundg (x.mz.length-(i+1))
       case measure=>omega
       case rel=>exact⟨i+1,_,by omega,by go_num,by rw[← HE.out];exact hN.out⟩
    ·obtain rfl:i=x.mz.length:=by omega
     have HE:Hid (xd4 X t j++xjJ X t j x.mz.length=xd4 X t (j+1)):=by show _=_;rw[xh8,HNM.out]
     rw[HE.out] at hL ⊢;go_wp2
     go_roundg (X.cz.length-(j+1))
     case measure=>have:=HJ.out;omega
     case rel=>exact⟨j+1,cs,by omega,by go_num,hL⟩
  ·obtain rfl:j=X.cz.length:=by omega
   have hF:=hL.fasts (by have:=xhI (X:=X) (t:=t) h8 X.cz.length;omega)
   have HQ:=xcr (hF.mono xhR (Q:=fun b=>w.heap.size<=b) fun b hb=>by omega)
   go_wp2
   go_ret
   exact⟨a,cap,rfl,HQ.out,hbw⟩
theorem xra (d:Nat)(k n k' n':Int)(w:World):(Op.equalIn (d+2) 27 (.agg #[.int .i64 k,.int .i64 n]) (.agg #[.int .i64 k',.int .i64 n'])).run Tryz.prog w=.ok (k == k' && n == n') w:=by
 have u3:=Tryz.underlying3;have a3:=Tryz.isAgg3;have z3:=Tryz.sizeOf3;have hS:Tryz.prog.underlying 27=some (.struct (Tryz.prog.fieldsOf 27)):=by kernel_rfl
 have hp:Tryz.prog.stoodInHeld 27=false:=by kernel_rfl
 rw[run_equalIn_struct w (d+1) 27 _ _ hS hp];simp only[Program.fieldsOf,Tryz.underlying27];go_simp
 by_cases h1:k=k'<;>by_cases h3:n=n'<;>simp[h1,h3]
theorem xrb (x y:Ran)(w:World):(Op.equalIn 10000 37 (RnV x) (RnV y)).run Tryz.prog w=.ok (x.v.k == y.v.k && x.v.n == y.v.n && x.err == y.err && x.sz_ == y.sz_) w:=by
 have u3:=Tryz.underlying3;have a3:=Tryz.isAgg3;have z3:=Tryz.sizeOf3;have u31:=Tryz.underlying33;have a31:=Tryz.isAgg33;have z31:=Tryz.sizeOf33;have a27:=Tryz.isAgg27;have z27:=Tryz.sizeOf27;have hV:=xra 9997;have hS:Tryz.prog.underlying 37=some (.struct (Tryz.prog.fieldsOf 37)):=by kernel_rfl
 have hp:Tryz.prog.stoodInHeld 37=false:=by kernel_rfl
 rw[show (10000:Nat)=9999+1 from rfl,run_equalIn_struct w 9999 37 _ _ hS hp]
 simp only[Program.fieldsOf,Tryz.underlying37];clear hS hp;go_simp
 by_cases h1:x.v.k=y.v.k<;>by_cases h2:x.v.n=y.v.n<;>by_cases h3:x.err=y.err<;>by_cases h4:x.sz_=y.sz_<;>simp[h1,h2,h3,h4]
theorem eqlR (x y:Ran)(w:World):(binOp .eql 37 (RnV x) (RnV y)).run Tryz.prog w=.ok (.bool (x.v.k == y.v.k && x.v.n == y.v.n && x.err == y.err && x.sz_ == y.sz_)) w:=by
 rw[run_eql_struct,xrb]
 rfl
theorem xkv (x:Ran):(x.v.k == x.v.k && x.v.n == x.v.n && x.err == x.err && x.sz_ == x.sz_)=true:=by simp
theorem xkr {α:Type}{E:Lay α}{sz bytes:Nat}(G:Good E sz)(hE:∀ {P:Nat->Prop} {w:World} {f:Nat->Option Value} {x:α},E P w f x->E (In w) w f x){P:Nat->Prop}{w:World}{v:Value}{xs:List α}(h:IsRow E sz bytes P w v xs):IsRow E sz bytes (In w) w v xs:=by
 obtain⟨ad,cap,h1,h2,h3,h4,h5⟩:=h;refine⟨ad,cap,h1,h2,h3,h4,fun i x hx=>?_⟩
 obtain⟨b,o,e1,-,e3⟩:=h5 i x hx;obtain⟨u,hu,-⟩:=G.there e3 0 G.pos
 exact⟨b,o,e1,World.block_lt_of_cell? w _ hu,hE e3⟩
theorem xnR {P:Nat->Prop}{w:World}{v:Value}{xs:List QM}(h:xbm P w v xs):xbm (In w) w v xs:=
 xkr xbq (fun ⟨h0,h1,h2,h3,h4,v,h5,h6⟩=>⟨h0,h1,h2,h3,h4,v,h5,(xgl h6).mono xa2 fun _ h=>h.2⟩) h
theorem xlg {P:Nat->Prop}{w:World}{v:Value}{xs:List QC}(h:xai P w v xs):xai (In w) w v xs:=
 xkr xaA (fun ⟨h0,h1,h2,h3,v,h5,h6⟩=>⟨h0,h1,h2,h3,v,h5,xnR h6⟩) h
theorem xpE {P:Nat->Prop}{w:World}{v:Value}{xs:List QV}(h:xaO P w v xs):xaO (In w) w v xs:=xkr xa1 (fun h=>h) h
theorem xqs {P:Nat->Prop}{w:World}{v:Value}{xs:List QO}(h:xaD P w v xs):xaD (In w) w v xs:=
 xkr xaE (fun ⟨h0,v,h5,h6⟩=>⟨h0,v,h5,xpE h6⟩) h
def a9G:QM:=⟨⟨#[103]⟩,0,0,0,[⟨5,7,0,0,⟨#[]⟩⟩,⟨17,0,0,0,⟨#[]⟩⟩]⟩
def a9M:QM:=⟨⟨#[109]⟩,0,0,0,[⟨1,0,0,0,⟨#[]⟩⟩,⟨14,0,0,0,⟨#[103]⟩⟩,⟨17,0,0,0,⟨#[]⟩⟩]⟩
def a9X (ms:List QM)(ep:Int):QW:=⟨xio++[⟨⟨#[65]⟩,0,0,ms⟩],[],ep⟩
theorem xrI:xcM xrh.cz ⟨#[65]⟩ 0 0=0:=by kernel_rfl
theorem xjR {xs:List QC}(h:xs.all (fun x=>decide (0<=x.slots) && decide (x.slots<=6))=true):xbY xs:=fun i x hx=>by
 have:=List.all_eq_true.1 h x (List.mem_of_getElem? hx)
 simpa using this
theorem xrK:xbY xrh.cz:=xjR (by kernel_rfl)
theorem xrW:xii (a9X [] 0) 4 ⟨⟨#[65]⟩,0,0,[]⟩ a9G=a9X [a9G] 1:=by kernel_rfl
theorem xrQ:xii (a9X [a9G] 1) 4 ⟨⟨#[65]⟩,0,0,[a9G]⟩ a9M=a9X [a9G,a9M] 2:=by kernel_rfl
def xkI:List QM->Bool
 | []=>true
 | [_]=>true
 | a :: b :: r=>ltN a.name b.name && xkI (b :: r)
theorem xic:∀ {xs:List QM},xkI xs=true->RisesM xs
 | [],_=>fun i x y hx _=>by simp at hx
 | [a],_=>fun i x y hx hy=>by simp at hy
 | a :: b :: r,h=>fun i x y hx hy=>by
  unfold xkI at h;simp only[Bool.and_eq_true] at h
  cases i with
  | zero=>simp at hx hy;subst hx hy;exact h.1
  | succ i=>exact xic h.2 i x y (by simpa using hx) (by simpa using hy)
theorem xgS {xs:List QC}(h:xs.all (fun x=>xkI x.mz)=true):xiX xs:=fun i x hx=>xic (List.all_eq_true.1 h x (List.mem_of_getElem? hx))
theorem xrU:xiX (a9X [] 0).cz:=xgS (by kernel_rfl)
theorem xrH:xiX (a9X [a9G] 1).cz:=xgS (by kernel_rfl)
theorem xrd {P:Nat->Prop}(cv hv:Value)(w:World)(hh:xai P w cv xrh.cz)(hH:xaD P w hv []):Calls Tryz.prog 12 #[WV cv hv 0,.string ⟨#[65]⟩,.int .i64 0,.int .i64 0] w fun e w'=>∃ a k,e=.returned (.tuple #[WV (.slice a 5 k) hv 0,.int .i64 4,.int .i64 0])/\xai (In w') w' (.slice a 5 k) (a9X [] 0).cz/\xaD (In w') w' hv []/\Below w.heap.size w w':=by
 refine (xnE xrh ⟨#[65]⟩ 0 0 cv hv w (by decide) hh hH xrK).mono ?_
 rintro e w' ⟨⟨h,-⟩ | ⟨h,cv',rfl,hC⟩,hb⟩
 ·exact absurd xrI h
 ·obtain⟨a,k,rfl⟩:=hC.get
  exact⟨a,k,rfl,xlg hC,xqs (hH.later xaE hb),hb⟩
theorem xpn {P:Nat->Prop}(X Y:QW)(x:QC)(m:QM)(cv hv mv:Value)(w:World)(ep:Int)(hep:X.ez=ep)(ep':Int)(hep':Y.ez=ep')(hx:X.cz[4]?=some x)(hno:¬ (xcw x.mz m.name<0/\8<=x.mz.length))(hY:xii X 4 x m=Y)(hl:Y.cz.length=5)(hn:m.name.size<=140737488351232)(hR:xiX X.cz)(hXh:X.heap=[])
  (hh:xai P w cv X.cz) (hH:xaD P w hv []) (hM:xaR P w mv m.code):Calls Tryz.prog 14 #[WV cv hv ep,.int .i64 4,MV m mv] w fun e w'=>∃ a k,e=.returned (.tuple #[WV (.slice a 5 k) hv ep',.int .i64 0])/\xai (fun b=>P b\/w.heap.size<=b) w' (.slice a 5 k) Y.cz/\Below w.heap.size w w':=by
 subst hep hep';refine (xik X 4 m cv hv mv w hh (by rw[hXh];exact hH) hM hn hR).mono ?_
 rintro e w' ⟨⟨h,-⟩ | ⟨k,x',hk,hx',h⟩,hb⟩
 ·have:=xae hx
  simp[xgI] at h
  omega
 ·obtain rfl:k=4:=by omega
  rw[hx] at hx';cases hx'
  rcases h with ⟨h1,h2,-⟩ | ⟨-,cv',rfl,hC⟩
  ·exact absurd ⟨h1,h2⟩ hno
  ·rw[hY] at hC;obtain⟨a,k',rfl⟩:=hC.get;rw[hl] at hC ⊢;refine⟨a,k',?_,hC,hb⟩;rw[← hY];rfl
theorem xrF {α:Type}{E:Lay α}{sz bytes:Nat}(G:Good E sz){P:Nat->Prop}(w:World)(cs:List Value)(t:TypeId)(xs:List α)(h:∀ w',Cells E sz P w' cs xs)(hP:P w.heap.size)(hs:xs.length*bytes<=140737488351232)(hm:xs.length<=maxLen):IsRow E sz bytes P (w.alloc (.cells cs.toArray t)) (.slice (some ⟨w.heap.size,0,none⟩) xs.length xs.length) xs:=
 Cells.row (h _) G hP (qzJ w _) (by rw[List.take_of_length_le (by simp[(h w).1])]) (qzC _) hm hs
def a9Gc:List Value:=[.int .i64 5,.int .i64 7,.int .i64 0,.int .i64 0,.string ⟨#[]⟩,.int .i64 17,.int .i64 0,.int .i64 0,.int .i64 0,.string ⟨#[]⟩]
def a9Mc:List Value:=[.int .i64 1,.int .i64 0,.int .i64 0,.int .i64 0,.string ⟨#[]⟩,.int .i64 14,.int .i64 0,.int .i64 0,.int .i64 0,.string ⟨#[103]⟩,.int .i64 17,.int .i64 0,.int .i64 0,.int .i64 0,.string ⟨#[]⟩]
theorem xdK {P:Nat->Prop}{w:World}(x:QI)(h:x.name.size<=140737488351232):Cells xeu 5 P w [.int .i64 x.op,.int .i64 x.a,.int .i64 x.b,.int .i64 x.c,.string x.name] [x]:=
 Cells.one xa2 rfl ⟨rfl,rfl,rfl,rfl,rfl,h⟩
theorem xnJ {P:Nat->Prop}(w:World):Cells xeu 5 P w a9Gc a9G.code:=
 (xdK (w:=w) ⟨5,7,0,0,⟨#[]⟩⟩ (by decide)).append xa2 (xdK ⟨17,0,0,0,⟨#[]⟩⟩ (by decide))
theorem xlP {P:Nat->Prop}(w:World):Cells xeu 5 P w a9Mc a9M.code:=
 ((xdK (w:=w) ⟨1,0,0,0,⟨#[]⟩⟩ (by decide)).append xa2 (xdK ⟨14,0,0,0,⟨#[103]⟩⟩ (by decide))).append xa2 (xdK ⟨17,0,0,0,⟨#[]⟩⟩ (by decide))
theorem bxl {w w':World}{B:Nat}{o:Obj}(h:w.heap[B]?=some o)(hb:Below w.heap.size w w'):w'.heap[B]?=some o:=by rw[hb.block _ (xal h)];exact h
theorem xoS {w:World}{B:Nat}{x y z u v r:Value}{t:TypeId}(h:w.heap[B]?=some (.cells #[x,y,z] t (0,0))):(((w.setCell ⟨B,0,none⟩ u).setCell ⟨B,1,none⟩ v).setCell ⟨B,2,none⟩ r).heap[B]?=some (.cells #[u,v,r] t (0,0)):=by
 rw[xag (xag (xag h _) _) _];rfl
structure A9 (w:World)(B:Nat)(cv hv:Value)(X:QW)(w':World):Prop where
 box:w'.heap[B]?=some (.cells #[cv,hv,.int .i64 X.ez] 25 (0,0))
 C:xai (fun b=>b≠B) w' cv X.cz
 H:xaD (fun b=>b≠B) w' hv []
 bel:Below w.heap.size w w'
theorem A9.later {w:World}{B:Nat}{cv hv:Value}{X:QW}{w' w'':World}(h:A9 w B cv hv X w')(hb:Below w'.heap.size w' w''):A9 w B cv hv X w'':=
 ⟨bxl h.box hb,h.C.later xaA hb,h.H.later xaE hb,xaf h.bel hb⟩
theorem A9.set {w:World}{B:Nat}{cv hv cv':Value}{X Y:QW}{w1 w':World}(h:A9 w B cv hv X w1)(hb:Below w1.heap.size w1 w')(hC:xai (fun b=>b≠B\/w1.heap.size<=b) w' cv' Y.cz)(hB:w.heap.size<=B):A9 w B cv' hv Y (((w'.setCell ⟨B,0,none⟩ cv').setCell ⟨B,1,none⟩ hv).setCell ⟨B,2,none⟩ (.int .i64 Y.ez)):=by
 have hk:Keeps (fun b=>b≠B) w' (((w'.setCell ⟨B,0,none⟩ cv').setCell ⟨B,1,none⟩ hv).setCell ⟨B,2,none⟩ (.int .i64 Y.ez)):=
  xaC (xaC (xaC (Keeps.refl _ _) (by simp) _) (by simp) _) (by simp) _
 have hlt:=xal h.box;refine⟨xoS (bxl h.box hb),(hC.mono (Q:=fun b=>b≠B) xaA fun b hb=>?_).keep xaA hk fun _ h=>h,(h.H.later xaE hb).keep xaE hk fun _ h=>h,xbd (xaf h.bel hb) hB _ _ _⟩
 rcases hb with h | h
 ·exact h
 ·omega
abbrev a9Z:QW:=⟨(a9X [a9G,a9M] 2).cz,[⟨4,[]⟩],2⟩
theorem xhW:xaH a9Z=0:=by kernel_rfl
def a9T:List QT:=[⟨⟨4,⟨#[109]⟩,1⟩,[⟨4,9⟩]⟩]
theorem xrz:(xd4 a9Z a9T 5).length=1:=by kernel_rfl
theorem xpL:((xd4 a9Z a9T 5)[0]?.map Fst.name)=some ⟨#[109]⟩:=by kernel_rfl
theorem xrt:(xh1 (xb6 a9Z 9 (xc0 a9Z (epB a9Z) (xd4 a9Z a9T 5))) a9Z () ⟨4,0⟩ ⟨#[109]⟩ [] 9).1=⟨[⟨4,[]⟩],⟨3,7⟩,0,2⟩:=by kernel_rfl
theorem xqF:(xd4 a9Z a9T 5).all (xqO a9Z)=true:=by kernel_rfl
theorem xrf (w:World):(binOp .eql 37 (RnV ⟨[⟨4,[]⟩],⟨3,7⟩,0,2⟩) (RnV ⟨[⟨4,[]⟩],⟨3,7⟩,0,2⟩)).run Tryz.prog w=.ok (.bool true) w:=by rw[eqlR,xkv]
theorem xrJ {P R:Nat->Prop}{l:List Fst}(hl:l=xd4 a9Z a9T 5)(cv hv fv:Value)(w:World)(hC:xai P w cv a9Z.cz)(hH:xaD P w hv a9Z.heap)(hF:xdl R w fv l) :
  Calls Tryz.prog 8 #[WV cv hv 2,ClV ⟨4,0⟩ ⟨#[109]⟩ (.slice none 0 0),.int .i64 9,fv] w fun e w'=>PlPost w a9Z ⟨[⟨4,[]⟩],⟨3,7⟩,0,2⟩ e w':=by
 subst hl
 exact xo8 (Q:=fun _=>True) a9Z xhW ⟨4,0⟩ ⟨#[109]⟩ [] 9 (xlX xhW fun f hf _=>List.all_eq_true.1 xqF f hf) _ xrt cv hv (.slice none 0 0) fv w hC hH xbn hF (by decide)
theorem xjo (w:World):Calls Tryz.prog 5 #[] w fun e w'=>e=.returned (.bool true)/\Below w.heap.size w w':=by
 go_enter Tryz.func5,Tryz.ntmps5;go_wp2_with fail;refine (xkT _).mono ?_;rintro e w1 ⟨cv,hv,rfl,hC,hH,hB⟩;obtain⟨x1,y1,rfl⟩:=hC.get;obtain⟨x2,y2,rfl⟩:=hH.get;go_wp2_with fail;refine (xrd _ _ _ hC hH).mono ?_;rintro e w2 ⟨a1,k1,rfl,hC1,hH1,hb⟩;replace hB:=xaf hB hb;clear hb hC hH
 have hA0:A9 w w2.heap.size (.slice a1 5 k1) (.slice x2 0 y2) (a9X [] 0) (w2.alloc (.cells #[.slice a1 5 k1,.slice x2 0 y2,.int .i64 0] 25)):=
  ⟨qzJ _ _,(hC1.later xaA (xak _ _)).mono xaA fun b h=>by have h':b<w2.heap.size:=h;omega,(hH1.later xaE (xak _ _)).mono xaE fun b h=>by have h':b<w2.heap.size:=h;omega,xaf hB (xak _ _)⟩
 have hz:w.heap.size<=w2.heap.size:=hB.size;clear hB hC1 hH1
 go_upto_region 2 with (fail)
 generalize (w2.alloc (.cells #[.slice a1 5 k1,.slice x2 0 y2,.int .i64 0] 25))=W3 at *;generalize w2.heap.size=B at *;obtain⟨⟨q0,q1,q2⟩,qf⟩:=xkP hA0.box;have hlt:=xal hA0.box
 have hG:xaR (fun b=>b≠B) (W3.alloc (.cells #[.int .i64 5,.int .i64 7,.int .i64 0,.int .i64 0,.string ⟨#[]⟩,.int .i64 17,.int .i64 0,.int .i64 0,.int .i64 0,.string ⟨#[]⟩] 57)) (.slice (some ⟨W3.heap.size,0,none⟩) 2 2) a9G.code:=
  xrF xa2 W3 a9Gc 57 a9G.code (fun w'=>xnJ w') (by omega) (by decide) (by decide)
 have i3:=xak W3 (.cells #[.int .i64 5,.int .i64 7,.int .i64 0,.int .i64 0,.string ⟨#[]⟩,.int .i64 17,.int .i64 0,.int .i64 0,.int .i64 0,.string ⟨#[]⟩] 57);replace hA0:=hA0.later i3;go_wp2_with fail;clear q0 q1 q2 qf;refine (xpn (a9X [] 0) (a9X [a9G] 1) ⟨⟨#[65]⟩,0,0,[]⟩ a9G _ _ _ _ 0 rfl 1 rfl rfl (by simp) xrW rfl (by decide) xrU rfl hA0.C hA0.H hG).mono ?_
 rintro e w4 ⟨a2,k2,rfl,hC2,hb4⟩;have hA1:A9 w B (.slice a2 5 k2) (.slice x2 0 y2) (a9X [a9G] 1) (((w4.setCell ⟨B,0,none⟩ (.slice a2 5 k2)).setCell ⟨B,1,none⟩ (.slice x2 0 y2)).setCell ⟨B,2,none⟩ (.int .i64 1)):=hA0.set (Y:=a9X [a9G] 1) hb4 hC2 hz;obtain⟨⟨q0,q1,q2⟩,qf⟩:=xkP (bxl hA0.box hb4);clear hC2 hG hA0 hb4 i3 hlt
 go_upto_region 3 with (fail)
 generalize (((w4.setCell ⟨B,0,none⟩ (.slice a2 5 k2)).setCell ⟨B,1,none⟩ (.slice x2 0 y2)).setCell ⟨B,2,none⟩ (.int .i64 1))=W5 at *;clear q0 q1 q2 qf;obtain⟨⟨q0,q1,q2⟩,qf⟩:=xkP hA1.box;have hlt:=xal hA1.box
 have hG:xaR (fun b=>b≠B) (W5.alloc (.cells #[.int .i64 1,.int .i64 0,.int .i64 0,.int .i64 0,.string ⟨#[]⟩,.int .i64 14,.int .i64 0,.int .i64 0,.int .i64 0,.string ⟨#[103]⟩,.int .i64 17,.int .i64 0,.int .i64 0,.int .i64 0,.string ⟨#[]⟩] 57)) (.slice (some ⟨W5.heap.size,0,none⟩) 3 3) a9M.code:=
  xrF xa2 W5 a9Mc 57 a9M.code (fun w'=>xlP w') (by omega) (by decide) (by decide)
 have hb5:=xak W5 (.cells #[.int .i64 1,.int .i64 0,.int .i64 0,.int .i64 0,.string ⟨#[]⟩,.int .i64 14,.int .i64 0,.int .i64 0,.int .i64 0,.string ⟨#[103]⟩,.int .i64 17,.int .i64 0,.int .i64 0,.int .i64 0,.string ⟨#[]⟩] 57);replace hA1:=hA1.later hb5;go_wp2_with fail;clear q0 q1 q2 qf;refine (xpn (a9X [a9G] 1) (a9X [a9G,a9M] 2) ⟨⟨#[65]⟩,0,0,[a9G]⟩ a9M _ _ _ _ 1 rfl 2 rfl rfl (by simp) xrQ rfl (by decide) xrH rfl hA1.C hA1.H hG).mono ?_
 rintro e w6 ⟨a3,k3,rfl,hC3,hb6⟩;have hA2:A9 w B (.slice a3 5 k3) (.slice x2 0 y2) (a9X [a9G,a9M] 2) (((w6.setCell ⟨B,0,none⟩ (.slice a3 5 k3)).setCell ⟨B,1,none⟩ (.slice x2 0 y2)).setCell ⟨B,2,none⟩ (.int .i64 2)):=hA1.set (Y:=a9X [a9G,a9M] 2) hb6 hC3 hz;obtain⟨⟨q0,q1,q2⟩,qf⟩:=xkP (bxl hA1.box hb6);clear hC3 hG hA1 hb5 hb6 hlt
 go_upto_region 4 with (fail)
 generalize (((w6.setCell ⟨B,0,none⟩ (.slice a3 5 k3)).setCell ⟨B,1,none⟩ (.slice x2 0 y2)).setCell ⟨B,2,none⟩ (.int .i64 2))=W7 at *;clear q0 q1 q2 qf;have hb7:=xak W7 (.cells #[.int .i64 4,.slice none 0 0] 61);obtain⟨⟨q0,q1,q2⟩,qf⟩:=xkP hA2.box;have hlt:=xal hA2.box
 have hHp:xaD (fun b=>b≠B) (W7.alloc (.cells #[.int .i64 4,.slice none 0 0] 61)) (.slice (some ⟨W7.heap.size,0,none⟩) 1 1) [⟨4,[]⟩]:=
  xrF xaE W7 [.int .i64 4,.slice none 0 0] 61 [⟨4,[]⟩] (fun w'=>Cells.one xaE rfl ⟨rfl,_,rfl,xbn⟩) (by omega) (by decide) (by decide)
 replace hA2:=hA2.later hb7;obtain⟨⟨q0',q1',q2'⟩,qf'⟩:=xkP hA2.box;have hk:Keeps (fun b=>b≠B) (W7.alloc (.cells #[.int .i64 4,.slice none 0 0] 61)) ((W7.alloc (.cells #[.int .i64 4,.slice none 0 0] 61)).setCell ⟨B,1,none⟩ (.slice (some ⟨W7.heap.size,0,none⟩) 1 1)):=xaC (Keeps.refl _ _) (by simp) _
 have hbx:((W7.alloc (.cells #[.int .i64 4,.slice none 0 0] 61)).setCell ⟨B,1,none⟩ (.slice (some ⟨W7.heap.size,0,none⟩) 1 1)).heap[B]?=some (.cells #[.slice a3 5 k3,.slice (some ⟨W7.heap.size,0,none⟩) 1 1,.int .i64 2] 25 (0,0)):=by
  rw[xag hA2.box];rfl
 have hCz:=hA2.C.keep xaA hk fun _ h=>h
 have hHz:=hHp.keep xaE hk fun _ h=>h
 have ib:Below w.heap.size w ((W7.alloc (.cells #[.int .i64 4,.slice none 0 0] 61)).setCell ⟨B,1,none⟩ (.slice (some ⟨W7.heap.size,0,none⟩) 1 1)):=hA2.bel.setCell (by simpa using hz) _
 clear hA2 hHp hk hb7
 go_upto_region 5 with (fail)
 rw[World.setCell_alloc_past _ _ _ _ hlt] at hbx hCz hHz ib;generalize ((W7.setCell ⟨B,1,none⟩ (.slice (some ⟨W7.heap.size,0,none⟩) 1 1)).alloc (.cells #[.int .i64 4,.slice none 0 0] 61))=F at *;generalize W7.heap.size=gO at *;clear q0 q1 q2 qf q0' q1' q2' qf';obtain⟨⟨q0,q1,q2⟩,qf⟩:=xkP hbx
 have hT:xbi (fun _=>True) ((F.alloc (.cells #[.int .i64 4,.int .i64 9] 65)).alloc (.cells #[.int .i64 4,.string ⟨#[109]⟩,.int .i64 1,.slice (some ⟨F.heap.size,0,none⟩) 1 1] 68)) (.slice (some ⟨F.heap.size+1,0,none⟩) 1 1) a9T:=by
  have hL:∀ w',Below (F.alloc (.cells #[.int .i64 4,.int .i64 9] 65)).heap.size (F.alloc (.cells #[.int .i64 4,.int .i64 9] 65)) w'->xek (fun _=>True) w' (.slice (some ⟨F.heap.size,0,none⟩) 1 1) [⟨4,9⟩]:=fun w' hb=>(xrF xff F [.int .i64 4,.int .i64 9] 65 [⟨4,9⟩] (fun w'=>Cells.one xff rfl ⟨rfl,rfl⟩) trivial (by decide) (by decide)).later xff hb
  have hg:((F.alloc (.cells #[.int .i64 4,.int .i64 9] 65)).alloc (.cells #[.int .i64 4,.string ⟨#[109]⟩,.int .i64 1,.slice (some ⟨F.heap.size,0,none⟩) 1 1] 68)).heap[F.heap.size+1]?=some (.cells #[.int .i64 4,.string ⟨#[109]⟩,.int .i64 1,.slice (some ⟨F.heap.size,0,none⟩) 1 1] 68 (0,0)):=by
   have:=qzJ (F.alloc (.cells #[.int .i64 4,.int .i64 9] 65)) (.cells #[.int .i64 4,.string ⟨#[109]⟩,.int .i64 1,.slice (some ⟨F.heap.size,0,none⟩) 1 1] 68)
   simpa using this
  have hc:∀ k,((F.alloc (.cells #[.int .i64 4,.int .i64 9] 65)).alloc (.cells #[.int .i64 4,.string ⟨#[109]⟩,.int .i64 1,.slice (some ⟨F.heap.size,0,none⟩) 1 1] 68)).cell? ⟨F.heap.size+1,k,none⟩=(#[.int .i64 4,.string ⟨#[109]⟩,.int .i64 1,.slice (some ⟨F.heap.size,0,none⟩) 1 1]:Array Value)[k]?:=fun k=>qzB hg
  refine⟨_,_,rfl,by decide,by decide,by decide,fun i x hx=>⟨F.heap.size+1,0,rfl,trivial,?_⟩⟩
  match i,hx with
  | 0,hx=>cases hx;exact⟨hc 0,hc 1,hc 2,.slice (some ⟨F.heap.size,0,none⟩) 1 1,hc 3,hL _ (xak _ _)⟩
  | i+1,hx=>simp[a9T] at hx
 have hb8:=xbP F (.cells #[.int .i64 4,.int .i64 9] 65) (.cells #[.int .i64 4,.string ⟨#[109]⟩,.int .i64 1,.slice (some ⟨F.heap.size,0,none⟩) 1 1] 68);have hbx2:=bxl hbx hb8;have hC2:=hCz.later xaA hb8;have hH2:=hHz.later xaE hb8;have hbel2:=xaf ib hb8;clear hbx hCz hHz ib hb8;go_wp2_with fail;refine (xkD a9Z xhW a9T _ _ _ _ hC2 hH2 hT).mono ?_;rintro e w8 ⟨a,cap,rfl,hFs,hb9⟩;have hl1:(xd4 a9Z a9T a9Z.cz.length).length=1:=xrz;have hL:Hid (xd4 a9Z a9T a9Z.cz.length=xd4 a9Z a9T 5):=hid rfl;have hnm:((xd4 a9Z a9T a9Z.cz.length)[0]?.map Fst.name)=some ⟨#[109]⟩:=xpL;generalize xd4 a9Z a9T a9Z.cz.length=L at *
 rw[hl1] at hFs ⊢;have hbel3:=xaf hbel2 hb9;have hbx3:=bxl hbx2 hb9;have hC3:=hC2.later xaA hb9;have hH3:=hH2.later xaE hb9;clear q0 q1 q2 qf hbx2 hC2 hH2 hbel2 hT hb9;obtain⟨⟨q0,q1,q2⟩,qf⟩:=xkP hbx3;go_wp2_with fail;refine (xrJ hL.out _ _ _ w8 hC3 hH3 hFs).mono ?_;rintro e wA ⟨hb10,cvA,hvA,rfl,hCA,hHA⟩;obtain⟨f1,f2,rfl⟩:∃ a c,cvA=.slice a 5 c:=hCA.get;obtain⟨f3,f4,rfl⟩:∃ a c,hvA=.slice a 1 c:=hHA.get;obtain⟨a',cap',e',h1,h2,-,hrow⟩:=id hFs;simp only[Value.slice.injEq] at e';obtain⟨rfl,-,rfl⟩:=e'
 obtain⟨y,hy0⟩:∃ y,L[0]?=some y:=by cases h:L[0]? with
  | none=>rw[h] at hnm;cases hnm
  | some y=>exact⟨y,rfl⟩
 have hyn:y.name=⟨#[109]⟩:=by rw[hy0] at hnm;simpa using hnm
 obtain⟨g,o,rfl,-,-,y1,-⟩:=hrow 0 y hy0;simp only[Nat.zero_mul,Nat.add_zero] at y1;rw[hyn] at y1;have hb11:=xbP wA (.cells #[.slice f1 5 f2,.slice f3 1 f4,.int .i64 2] 25) (.cells #[.int .i64 3,.int .i64 7,.int .i64 0,.int .i64 2] 37);have z1:=qzA hb11 (qzA hb10 y1);have hbel4:=xaf (xaf hbel3 hb10) hb11
 have hrB:((wA.alloc (.cells #[.slice f1 5 f2,.slice f3 1 f4,.int .i64 2] 25)).alloc (.cells #[.int .i64 3,.int .i64 7,.int .i64 0,.int .i64 2] 37)).heap[wA.heap.size+1]?=some (.cells #[.int .i64 3,.int .i64 7,.int .i64 0,.int .i64 2] 37 (0,0)):=by
  have:=qzJ (wA.alloc (.cells #[.slice f1 5 f2,.slice f3 1 f4,.int .i64 2] 25)) (.cells #[.int .i64 3,.int .i64 7,.int .i64 0,.int .i64 2] 37)
  simpa using this
 clear q0 q1 q2 qf;dsimp only
 go_upto_region 7 with (fail)
 generalize ((wA.alloc (.cells #[.slice f1 5 f2,.slice f3 1 f4,.int .i64 2] 25)).alloc (.cells #[.int .i64 3,.int .i64 7,.int .i64 0,.int .i64 2] 37))=U at *;have r0:U.cell? ⟨wA.heap.size+1,0,none⟩=some (.int .i64 3):=by rw[qzB hrB];rfl
 have r1:U.cell? ⟨wA.heap.size+1,1,none⟩=some (.int .i64 7):=by rw[qzB hrB];rfl
 have r2:U.cell? ⟨wA.heap.size+1,2,none⟩=some (.int .i64 0):=by rw[qzB hrB];rfl
 have r3:U.cell? ⟨wA.heap.size+1,3,none⟩=some (.int .i64 2):=by rw[qzB hrB];rfl
 have hq:=xrf;clear hrB hCA hHA hFs hrow;go_wp2
 go_ret
 exact⟨rfl,hbel4⟩
theorem bx4 {w:World}{z:Nat}{a b c d:Value}{t:TypeId}(h:w.heap[z]?=some (.cells #[a,b,c,d] t (0,0))):w.cell? ⟨z,0,none⟩=some a/\w.cell? ⟨z,1,none⟩=some b/\w.cell? ⟨z,2,none⟩=some c/\w.cell? ⟨z,3,none⟩=some d:=
 ⟨by rw[qzB h];rfl,by rw[qzB h];rfl,by rw[qzB h];rfl,by rw[qzB h];rfl⟩
structure TwoR (X:QW)(w:World)(B D:Nat)(s:QV)(name:ByteArray)(cv hv av:Value)(w':World):Prop where
 bel:Below w.heap.size w w'
 bw:w'.heap[B]?=some (.cells #[cv,hv,.int .i64 X.ez] 25 (0,0))
 bc:w'.heap[D]?=some (.cells #[.int .i64 s.k,.int .i64 s.n,.string name,av] 30 (0,0))
theorem TwoR.later {X:QW}{w:World}{B D:Nat}{s:QV}{name:ByteArray}{cv hv av:Value}{w' w'':World}(h:TwoR X w B D s name cv hv av w')(hb:Below w'.heap.size w' w''):TwoR X w B D s name cv hv av w'':=⟨xaf h.bel hb,xad h.bw hb,xad h.bc hb⟩
theorem TwoR.al {X:QW}{w:World}{B D:Nat}{s:QV}{name:ByteArray}{cv hv av:Value}{w':World}(h:TwoR X w B D s name cv hv av w'):(w'.cell? ⟨B,0,none⟩=some cv/\w'.cell? ⟨B,1,none⟩=some hv/\w'.cell? ⟨B,2,none⟩=some (.int .i64 X.ez))/\w'.cell? ⟨D,0,none⟩=some (.int .i64 s.k)/\w'.cell? ⟨D,1,none⟩=some (.int .i64 s.n)/\w'.cell? ⟨D,2,none⟩=some (.string name)/\w'.cell? ⟨D,3,none⟩=some av:=⟨(xkP h.bw).1,bx4 h.bc⟩
structure TwoB (b:Nat)(v0 v1 v2 u0 u1 u2 u3:Value)(w:World):Prop where
 bw:w.heap[b]?=some (.cells #[v0,v1,v2] 25 (0,0))
 bc:w.heap[b+1]?=some (.cells #[u0,u1,u2,u3] 37 (0,0))
theorem TwoB.al {b:Nat}{v0 v1 v2 u0 u1 u2 u3:Value}{w:World}(h:TwoB b v0 v1 v2 u0 u1 u2 u3 w):(w.cell? ⟨b,0,none⟩=some v0/\w.cell? ⟨b,1,none⟩=some v1/\w.cell? ⟨b,2,none⟩=some v2)/\w.cell? ⟨b+1,0,none⟩=some u0/\w.cell? ⟨b+1,1,none⟩=some u1/\w.cell? ⟨b+1,2,none⟩=some u2/\w.cell? ⟨b+1,3,none⟩=some u3:=⟨(xkP h.bw).1,bx4 h.bc⟩
theorem xqU (w:World)(v0 v1 v2 u0 u1 u2 u3:Value):TwoB w.heap.size v0 v1 v2 u0 u1 u2 u3 ((w.alloc (.cells #[v0,v1,v2] 25)).alloc (.cells #[u0,u1,u2,u3] 37)):=by
 refine⟨xad (qzJ w _) (xak _ _),?_⟩;have:=qzJ (w.alloc (.cells #[v0,v1,v2] 25)) (.cells #[u0,u1,u2,u3] 37)
 simpa using this
structure FewF (l:List Fst):Prop where
 few:∀ f∈l,f.code.length<=500/\∀ x∈f.code,x.op=18->0<=x.b/\x.b<=1000
theorem xli {X:QW}(hX:xaH X=0){l:List Fst}(hl:∀ f∈l,xd7 X f)(s:QV)(name:ByteArray)(args:List QV)(fuel:Int):(xh1 (xb6 X fuel (xc0 X (epB X) l)) X () s name args fuel).1=xdG X s name args fuel:=by
 rw[← xlv];unfold xh1
 split
 ·rfl
 ·have:xeR (xb6 X fuel (xc0 X (epB X) l)) X () s name args=xeR (xe1 X fuel) X () s name args:=xlT hX (epB X) hl s name args fuel;rw[this]
theorem xjL {X:QW}(hX:xaH X=0){l:List Fst}(hl:∀ f∈l,xd7 X f)(hfw:FewF l):PickOk X l:=
 ⟨fun fuel=>xoU hX (epB X) (fun f h _=>hl f h) fuel,fun c k q h=>by
  obtain⟨f,h1,-,-,-,rfl⟩:=xet h
  exact hfw.few f h1⟩
theorem xoY {P Q R:Nat->Prop}(X:QW)(hX:xaH X=0)(s:QV)(name:ByteArray)(args:List QV)(fuel:Int){l:List Fst}(hl:∀ f∈l,xd7 X f)(hfw:FewF l)(cv hv av fv:Value)(w:World)(hC:xai P w cv X.cz)(hH:xaD P w hv X.heap)(hA:xaO Q w av args)(hF:xdl R w fv l)(hn:name.size<=140737488351232) :
  Calls Tryz.prog 8 #[WV cv hv X.ez,ClV s name av,.int .i64 fuel,fv] w fun e w'=>PlPost w X (xdG X s name args fuel) e w':=
 xo8 X hX s name args fuel (xjL hX hl hfw) _ (xli hX hl s name args fuel) cv hv av fv w hC hH hA hF hn
def GdB (y:QI):Prop:=y.op=18->0<=y.b/\y.b<=1000
theorem xl7 {X:QW}(h:xaH X=0){sites:List Int}{m:QM}(hm:Sml m):∀ {k:Nat},k<=m.code.length->∀ y∈(xah X.cz sites m k).code,GdB y
 | 0,_,y,hy=>by simp[xah] at hy
 | k+1,hk,y,hy=>by
  have ih:=xl7 h hm (sites:=sites) (k:=k) (by omega)
  have hx:m.code[k]?=some m.code[k]:=List.getElem?_eq_getElem (by omega)
  have hxm:m.code[k]∈m.code:=List.getElem_mem _;rw[xbg hx] at hy;generalize xah X.cz sites m k=s at *;generalize m.code[k]=x at *;obtain⟨p1,p2,-⟩:=hm.plain x hxm;unfold xdA at hy
  cases hw:xdZ X.cz sites m.code.length s.code.length s.temps k x with
  | none=>
   rw[hw] at hy;have hso:(xbh x (k:Int)).op=x.op:=by unfold xbh;split<;>rfl
   rcases List.mem_append.1 hy with h' | h'
   ·exact ih y h'
   ·rw[List.mem_singleton] at h';subst h';intro ho;rw[hso] at ho
    omega
  | some leaf=>
   rw[hw] at hy
   have hst:xa3 X.cz sites k x=some leaf:=by
    unfold xdZ at hw
    split at hw
    ·cases hw
    ·rename_i l hl
     split at hw
     ·cases hw;exact hl
     ·cases hw
   obtain⟨hs,-⟩:=xbv h hst
   rcases List.mem_append.1 hy with h' | h'
   ·exact ih y h'
   ·rcases xg0 hs (ins 18 (sites.getD k (-1)) leaf.args k) s.temps s.code.length (by omega) y h' with rfl | ⟨g1,-⟩
    ·intro _;have:=hs.args
     exact⟨this.1,by show leaf.args<=1000;omega⟩
    ·intro e;exact absurd e g1
theorem xq8 {begins:List Int}{plain code:List QI}(h:∀ y∈code,GdB y):∀ k,∀ y∈xdC begins plain code k,GdB y
 | 0,y,hy=>h y hy
 | k+1,y,hy=>by
  have ih:=xq8 h (begins:=begins) (plain:=plain) k;unfold xdC at hy
  split at hy
  ·split at hy
   ·rcases xhn hy with h' | ⟨z,hz,rfl⟩
    ·exact ih y h'
    ·exact fun e=>ih z (List.mem_of_getElem? hz) e
   ·exact ih y hy
  ·exact ih y hy
theorem xog {X:QW}(hX:xaH X=0){f:Fst}(h:xd7 X f):f.code.length<=500/\∀ x∈f.code,x.op=18->0<=x.b/\x.b<=1000:=by
 obtain⟨c,k,mt,sites,hm,hf⟩:=h;have hs:=xda hX hm;have hok:(xce X c mt sites).2=true:=by rw[hf]
 have hg:=(xnr hX hs hok).1;rw[hf] at hg;refine⟨by simp only at hg;omega,?_⟩
 have hb:=xl7 hX hs (sites:=sites) (qzC mt.code.length);unfold xce at hf;simp only at hf
 split at hf
 ·cases hf
 ·cases hf
  exact fun x hx=>xq8 hb _ x hx
theorem xke {X:QW}{t:List QT}{n:Nat}:∀ f∈xd4 X t n,xd7 X f:=by
 intro f hf;unfold xd4 at hf;obtain⟨c,-,hf⟩:=List.mem_flatMap.1 hf;unfold xjJ at hf;obtain⟨k,-,hf⟩:=List.mem_flatMap.1 hf;unfold xol at hf
 split at hf
 ·rename_i hok;rw[List.mem_singleton] at hf;subst hf
  exact xig (c:=(c:Int)) (k:=(k:Int)) (sites:=xbs X t c k) (by rw[← hok])
 ·cases hf
theorem xpK {X:QW}(hX:xaH X=0){t:List QT}{n:Nat}:FewF (xd4 X t n):=⟨fun f hf=>xog hX (xke f hf)⟩
def xey (t:List QT):Bool:=t.all fun x=>x.lz.all fun y=>decide (0<=y.found/\y.found<=1000000)
theorem xmU {t:List QT}(h:xey t=true):∀ x∈t,∀ y∈x.lz,0<=y.found/\y.found<=1000000:=by
 intro x hx y hy;have:=List.all_eq_true.1 (List.all_eq_true.1 h x hx) y hy
 simpa using this
theorem xkK {t:List QT}{j q:Nat}{x:QT}{y:QL}(hx:t[j]?=some x)(hy:x.lz[q]?=some y)(h:¬ (0<=y.found/\y.found<=1000000)):xey t=false:=by
 cases hs:xey t with
 | false=>rfl
 | true=>exact absurd (xmU hs x (List.mem_of_getElem? hx) y (List.mem_of_getElem? hy)) h
theorem xnB {t:List QT}(h:∀ (j:Nat) (x:QT),t[j]?=some x->∀ (q:Nat) (y:QL),x.lz[q]?=some y->0<=y.found/\y.found<=1000000):xey t=true:=by
 refine List.all_eq_true.2 fun x hx=>List.all_eq_true.2 fun y hy=>?_
 obtain⟨j,hj,rfl⟩:=List.mem_iff_getElem.1 hx;obtain⟨q,hq,rfl⟩:=List.mem_iff_getElem.1 hy
 simpa using h j _ (by rw[List.getElem?_eq_getElem hj]) q _ (by rw[List.getElem?_eq_getElem hq])
theorem xm3 {P:Nat->Prop}(xs:List QT)(v:Value)(w:World)(hh:xbi P w v xs):Calls Tryz.prog 7 #[v] w fun e w'=>e=.returned (.bool (xey xs))/\Below w.heap.size w w':=by
 obtain⟨ad,cap,rfl,hl,hcap,-,hrow⟩:=hh;unfold maxLen at hcap;go_enter Tryz.func7,Tryz.ntmps7;go_wp2
 go_loopg [9] xs.length (fun g i wr=>∃ j:Nat,j+g=xs.length/\i=.int .i64 j/\Below w.heap.size w wr/\∀ (j':Nat) (x:QT),j'<j->xs[j']?=some x->∀ (q:Nat) (y:QL),x.lz[q]?=some y->0<=y.found/\y.found<=1000000)
 case atStart=>exact⟨0,by omega,rfl,qzL _ _,fun j' x h=>by omega⟩
 case round=>
  obtain⟨j,hj,rfl,hR,hno⟩:=hrel;have HN:Hid (∀ (j':Nat) (x:QT),j'<j->xs[j']?=some x->∀ (q:Nat) (y:QL),x.lz[q]?=some y->0<=y.found/\y.found<=1000000):=hno;clear hno
  by_cases hlt:j<xs.length
  ·obtain⟨b,o,rfl,-,q0,q1,q2,lv,q3,ql⟩:=hrow j xs[j] (by simp[hlt])
   have hxj:Hid (xs[j]?=some xs[j]):=by show _=_;simp[hlt]
   generalize xs[j]=x at *;simp only[Nat.add_zero] at q0;obtain⟨ad2,cap2,rfl,hl2,hcap2,-,-⟩:=id ql;unfold maxLen at hcap2;have hj1:(j:Int)<(xs.length:Int):=by omega
   have hj0:(0:Int)<=(j:Int):=by omega
   have v0:=qzA hR q0;have v1:=qzA hR q1;have v2:=qzA hR q2;have v3:=qzA hR q3;have hbx:=xak wr (Obj.cells #[Value.int .i64 x.site.cls,Value.string x.site.name,Value.int .i64 x.site.at',Value.slice ad2 x.lz.length cap2] 68);clear hrow;go_wp2;have hR1:=xaf hR hbx;have hl1:=ql.later xff hR1;generalize (wr.alloc (Obj.cells #[Value.int .i64 x.site.cls,Value.string x.site.name,Value.int .i64 x.site.at',Value.slice ad2 x.lz.length cap2] 68))=W1 at *;clear q0 q1 q2 q3 ql hR v0 v1 v2 v3 hbx
   go_loopg [16] x.lz.length (fun g i wr=>∃ q:Nat,q+g=x.lz.length/\i=.int .i64 q/\Below w.heap.size w wr/\xek P wr (.slice ad2 x.lz.length cap2) x.lz/\∀ (q':Nat) (y:QL),q'<q->x.lz[q']?=some y->0<=y.found/\y.found<=1000000)
   case atStart=>exact⟨0,by omega,rfl,hR1,hl1,fun q' y h=>by omega⟩
   case round=>
    obtain⟨q,hq,rfl,hR,hlq,hno⟩:=hrel;have HQ:Hid (∀ (q':Nat) (y:QL),q'<q->x.lz[q']?=some y->0<=y.found/\y.found<=1000000):=hno;clear hR1 hl1 hno
    by_cases hltq:q<x.lz.length
    ·obtain⟨ad3,cap3,e3,-,-,-,hrow3⟩:=id hlq;simp only[Value.slice.injEq] at e3;obtain⟨rfl,-,-⟩:=e3;obtain⟨b3,o3,rfl,-,y0,y1⟩:=hrow3 q x.lz[q] (by simp[hltq])
     have hyq:Hid (x.lz[q]?=some x.lz[q]):=by show _=_;simp[hltq]
     generalize x.lz[q]=y at *;simp only[Nat.add_zero] at y0;have hq1:(q:Int)<(x.lz.length:Int):=by omega
     have hq0:(0:Int)<=(q:Int):=by omega
     have hby:=xak wr (Obj.cells #[Value.int .i64 y.cls,Value.int .i64 y.found] 65);clear hrow3
     by_cases hA:y.found<0
     ·have hd:decide (y.found<0)=true:=by simpa using hA
      have HF:Hid (xey xs=false):=xkK hxj.out hyq.out (by omega)
      clear hA;go_wp2
      go_ret
      exact⟨xby HF.out.symm,xaf hR hby⟩
     ·have hd:decide (y.found<0)=false:=by simpa using hA
      by_cases hB:1000000<y.found
      ·have hd2:decide (1000000<y.found)=true:=by simpa using hB
       have HF:Hid (xey xs=false):=xkK hxj.out hyq.out (by omega)
       clear hA hB;go_wp2
       go_ret
       exact⟨xby HF.out.symm,xaf hR hby⟩
      ·have hd2:decide (1000000<y.found)=false:=by simpa using hB
       have HF:Hid (0<=y.found/\y.found<=1000000):=⟨by omega,by omega⟩
       clear hA hB;go_wp2
       go_roundg (x.lz.length-(q+1))
       case measure=>omega
       case rel=>
        refine⟨q+1,by omega,by go_num,xaf hR hby,hlq.later xff hby,fun q' z hq' hz=>?_⟩
        by_cases h:q'=q
        ·subst h;rw[hyq.out] at hz;cases hz;exact HF.out
        ·exact HQ.out q' z (by omega) hz
    ·obtain rfl:q=x.lz.length:=by omega
     go_wp2
     go_roundg (xs.length-(j+1))
     case measure=>omega
     case rel=>
      refine⟨j+1,by omega,by go_num,hR,fun j' z hj' hz=>?_⟩
      by_cases h:j'=j
      ·subst h;rw[hxj.out] at hz;cases hz;exact fun q' y hy=>HQ.out q' y (xae hy) hy
      ·exact HN.out j' z (by omega) hz
  ·obtain rfl:j=xs.length:=by omega
   have HF:Hid (xey xs=true):=xnB fun j x hx=>HN.out j x (xae hx) hx
   go_wp2
   go_ret
   exact⟨xby HF.out.symm,hR⟩
structure Chg (b:Nat)(w U:World):Prop where
 os:U.os=w.os
 tape:U.tape=w.tape
 output:U.output=w.output
 size:U.heap.size=w.heap.size
 blk:∀ b',b'≠b->U.heap[b']?=w.heap[b']?
theorem Chg.refl (b:Nat)(w:World):Chg b w w:=⟨rfl,rfl,rfl,rfl,fun _ _=>rfl⟩
theorem Chg.set {b:Nat}{w U:World}(h:Chg b w U)(o:Nat)(u:Value):Chg b w (U.setCell ⟨b,o,none⟩ u):=by
 have k:Below b U (U.setCell ⟨b,o,none⟩ u):=(qzL _ _).setCell (by simp) _
 exact⟨k.os.trans h.os,k.tape.trans h.tape,k.output.trans h.output,(by simp:(U.setCell ⟨b,o,none⟩ u).heap.size=U.heap.size).trans h.size,fun b' hb=>(xac hb _).trans (h.blk b' hb)⟩
theorem Chg.below {b n:Nat}{w U:World}(h:Chg b w U)(hn:n<=b):Below n w U:=⟨h.os,h.tape,h.output,Nat.le_of_eq h.size.symm,fun b' hb=>h.blk b' (by omega)⟩
theorem Chg.held {b:Nat}{w U:World}(h:Chg b w U){b':Nat}{o:Obj}(ho:w.heap[b']?=some o)(hb:b'≠b):U.heap[b']?=some o:=by rw[h.blk b' hb];exact ho
theorem set3 {w:World}{b:Nat}{x y z:Value}{t:TypeId}(h:w.heap[b]?=some (.cells #[x,y,z] t (0,0)))(u0 u1 u2:Value):(((w.setCell ⟨b,0,none⟩ u0).setCell ⟨b,1,none⟩ u1).setCell ⟨b,2,none⟩ u2).heap[b]?=some (.cells #[u0,u1,u2] t (0,0))/\Chg b w (((w.setCell ⟨b,0,none⟩ u0).setCell ⟨b,1,none⟩ u1).setCell ⟨b,2,none⟩ u2):=
 ⟨by rw[xag (xag (xag h _) _) _];rfl,(((Chg.refl _ _).set _ _).set _ _).set _ _⟩
theorem set4 {w:World}{b:Nat}{x y z a:Value}{t:TypeId}(h:w.heap[b]?=some (.cells #[x,y,z,a] t (0,0)))(u0 u1 u2 u3:Value):((((w.setCell ⟨b,0,none⟩ u0).setCell ⟨b,1,none⟩ u1).setCell ⟨b,2,none⟩ u2).setCell ⟨b,3,none⟩ u3).heap[b]?=some (.cells #[u0,u1,u2,u3] t (0,0))/\Chg b w ((((w.setCell ⟨b,0,none⟩ u0).setCell ⟨b,1,none⟩ u1).setCell ⟨b,2,none⟩ u2).setCell ⟨b,3,none⟩ u3):=
 ⟨by rw[xag (xag (xag (xag h _) _) _) _];rfl,((((Chg.refl _ _).set _ _).set _ _).set _ _).set _ _⟩
theorem bq3 {w:World}{b:Nat}{x y z:Value}{t:TypeId}(h:w.heap[b]?=some (.cells #[x,y,z] t (0,0))):(∀ o,w.frozen? ⟨b,o,none⟩=false)/\w.cell? ⟨b,0,none⟩=some x/\w.cell? ⟨b,1,none⟩=some y/\w.cell? ⟨b,2,none⟩=some z:=by
 refine⟨xap h,?_,?_,?_⟩<;>(rw[qzB h];rfl)
theorem bq4 {w:World}{b:Nat}{x y z a:Value}{t:TypeId}(h:w.heap[b]?=some (.cells #[x,y,z,a] t (0,0))):(∀ o,w.frozen? ⟨b,o,none⟩=false)/\w.cell? ⟨b,0,none⟩=some x/\w.cell? ⟨b,1,none⟩=some y/\w.cell? ⟨b,2,none⟩=some z/\w.cell? ⟨b,3,none⟩=some a:=by
 refine⟨xap h,?_,?_,?_,?_⟩<;>(rw[qzB h];rfl)
def RunC (W:World)(X:QW)(r:Ran)(v5 v6:Value)(wx:World):Prop:=
 ∃ (bA bB:Nat) (cv hv:Value),v5=.pointer (some ⟨bA,0,none⟩)/\v6=.pointer (some ⟨bB,0,none⟩)/\wx.heap[bA]?=some (.cells #[cv,hv,.int .i64 X.ez] 25 (0,0))/\wx.heap[bB]?=some (.cells #[.int .i64 r.v.k,.int .i64 r.v.n,.int .i64 r.err,.int .i64 r.sz_] 37 (0,0))/\W.heap.size<=bA/\W.heap.size<=bB/\Below W.heap.size W wx/\xai (fun b=>W.heap.size<=b) wx cv X.cz/\xaD (fun b=>W.heap.size<=b) wx hv r.heap
theorem xiC {P Q R:Nat->Prop}(X:QW)(s:QV)(name:ByteArray)(args:List QV)(fuel:Int)(t:List QT)(cv hv av tv:Value)(w:World)(hC:xai P w cv X.cz)(hH:xaD P w hv X.heap)(hA:xaO Q w av args)(hn:name.size<=140737488351232)(hT:xbi R w tv t) :
  Calls Tryz.prog 3 #[WV cv hv X.ez,ClV s name av,.int .i64 fuel,tv] w fun e w'=>e=.returned (.bool true)/\Below w.heap.size w w':=by
 obtain⟨ac,cc,rfl,-⟩:=id hC;obtain⟨ah,ch,rfl,-⟩:=id hH;obtain⟨aa,ca,rfl,-⟩:=id hA;obtain⟨at',kt,rfl,-⟩:=id hT
 have hR:TwoR X w w.heap.size (w.heap.size+1) s name (.slice ac X.cz.length cc) (.slice ah X.heap.length ch) (.slice aa args.length ca) ((w.alloc (.cells #[.slice ac X.cz.length cc,.slice ah X.heap.length ch,.int .i64 X.ez] 25)).alloc (.cells #[.int .i64 s.k,.int .i64 s.n,.string name,.slice aa args.length ca] 30)):=by
  refine⟨xbP _ _ _,xad (qzJ w _) (xak _ _),?_⟩;have:=qzJ (w.alloc (.cells #[.slice ac X.cz.length cc,.slice ah X.heap.length ch,.int .i64 X.ez] 25)) (.cells #[.int .i64 s.k,.int .i64 s.n,.string name,.slice aa args.length ca] 30)
  simpa using this
 go_enter Tryz.func3,Tryz.ntmps3;go_wp2_with fail;generalize ((w.alloc (.cells #[.slice ac X.cz.length cc,.slice ah X.heap.length ch,.int .i64 X.ez] 25)).alloc (.cells #[.int .i64 s.k,.int .i64 s.n,.string name,.slice aa args.length ca] 30))=W0 at *;refine (xjo _).mono ?_;rintro e w1 ⟨rfl,hb1⟩;replace hR:=hR.later hb1;clear hb1;obtain⟨⟨s0,s1,s2⟩,p0,p1,p2,p3⟩:=hR.al;go_wp2_with fail;refine (xlK X _ _ _ (hC.later xaA hR.bel) (hH.later xaE hR.bel)).mono ?_;rintro e w2 ⟨rfl,hb2⟩;replace hR:=hR.later hb2;clear hb2 s0 s1 s2 p0 p1 p2 p3;obtain⟨⟨s0,s1,s2⟩,p0,p1,p2,p3⟩:=hR.al
 by_cases hX:xaH X=0
 ·rw[hX];go_wp2_with fail;refine (xm3 t _ _ (hT.later xd3 hR.bel)).mono ?_;rintro e W ⟨rfl,hbS⟩;replace hR:=hR.later hbS;clear hbS s0 s1 s2 p0 p1 p2 p3
  cases xey t with
  | false=>
   go_wp2;refine qzK (v:=.bool true) ?_ rfl ⟨rfl,hR.bel⟩
   simp[results,Tryz.results3,go_sem]
  | true=>
   have hpl:=fun (w':World) (hb:Below w.heap.size w w') (R:Nat->Prop) (fv:Value) (hF:xdl R w' fv (xd4 X t X.cz.length))=>xoY X hX s name args fuel xke (xpK hX) (.slice ac X.cz.length cc) (.slice ah X.heap.length ch) (.slice aa args.length ca) fv w' (hC.later xaA hb) (hH.later xaE hb) (hA.later xa1 hb) hF hn
   have hfa:=fun (w':World) (hb:Below w.heap.size w w')=>xkD X hX t (.slice ac X.cz.length cc) (.slice ah X.heap.length ch) (.slice at' t.length kt) w' (hC.later xaA hb) (hH.later xaE hb) (hT.later xd3 hb)
   obtain⟨r,hr⟩:∃ r,xdG X s name args fuel=r:=⟨_,rfl⟩;rw[hr] at hpl;have HPR:=hid hr;clear hr;have hbW:=hR.bel
   go_upto_region 5 with (fail)
   have iS:∀ W':World,Below W.heap.size W W'->(W'.cell? ⟨w.heap.size,0,none⟩=some (.slice ac X.cz.length cc)/\W'.cell? ⟨w.heap.size,1,none⟩=some (.slice ah X.heap.length ch)/\W'.cell? ⟨w.heap.size,2,none⟩=some (.int .i64 X.ez))/\W'.cell? ⟨w.heap.size+1,0,none⟩=some (.int .i64 s.k)/\W'.cell? ⟨w.heap.size+1,1,none⟩=some (.int .i64 s.n)/\W'.cell? ⟨w.heap.size+1,2,none⟩=some (.string name)/\W'.cell? ⟨w.heap.size+1,3,none⟩=some (.slice aa args.length ca):=fun W' hb=>(hR.later hb).al
   go_cut [9,10] (fun v5 v6 wx=>RunC W X r v5 v6 wx)
   case first=>
    refine xav (S:=fun w'=>(w'.cell? ⟨w.heap.size,0,none⟩=some (.slice ac X.cz.length cc)/\w'.cell? ⟨w.heap.size,1,none⟩=some (.slice ah X.heap.length ch)/\w'.cell? ⟨w.heap.size,2,none⟩=some (.int .i64 X.ez))/\w'.cell? ⟨w.heap.size+1,0,none⟩=some (.int .i64 s.k)/\w'.cell? ⟨w.heap.size+1,1,none⟩=some (.int .i64 s.n)/\w'.cell? ⟨w.heap.size+1,2,none⟩=some (.string name)/\w'.cell? ⟨w.heap.size+1,3,none⟩=some (.slice aa args.length ca)) [] (by kernel_rfl) ?_
    have hb:Below W.heap.size W W.drew:=(qzL _ W).drew;generalize W.drew=U at *
    repeat' first
     | (
       refine tk 0 (⟨some 25,.load 25 (.tmp 4),25,_,_,none⟩) (WV (.slice ac X.cz.length cc) (.slice ah X.heap.length ch) X.ez) rfl (iS _ hb) (fun _ _ _ h=>h) rfl ?_ ?_ ?_
       ·decide +kernel
       ·rintro w⟨⟨q0,q1,q2⟩,p0,p1,p2,p3⟩;go_simp
       try simp only[Act.put,qzF,qzG,qzH])
     | (
       refine tk 1 (⟨some 26,.load 30 (.tmp 5),30,_,_,none⟩) (ClV s name (.slice aa args.length ca)) rfl (iS _ hb) (fun _ _ _ h=>h) rfl ?_ ?_ ?_
       ·decide +kernel
       ·rintro w⟨⟨q0,q1,q2⟩,p0,p1,p2,p3⟩;go_simp
       try simp only[Act.put,qzF,qzG,qzH])
     | (
       refine tk 2 (⟨some 27,.move (.tmp 2),3,_,_,none⟩) (.int .i64 fuel) rfl (iS _ hb) (fun _ _ _ h=>h) rfl ?_ ?_ ?_
       ·decide +kernel
       ·rintro w⟨⟨q0,q1,q2⟩,p0,p1,p2,p3⟩;go_simp
       try simp only[Act.put,qzF,qzG,qzH])
     | (
       refine tk 3 (⟨some 28,.load 25 (.tmp 4),25,_,_,none⟩) (WV (.slice ac X.cz.length cc) (.slice ah X.heap.length ch) X.ez) rfl (iS _ hb) (fun _ _ _ h=>h) rfl ?_ ?_ ?_
       ·decide +kernel
       ·rintro w⟨⟨q0,q1,q2⟩,p0,p1,p2,p3⟩;go_simp
       try simp only[Act.put,qzF,qzG,qzH])
     | (
       refine tk 4 (⟨some 29,.move (.tmp 3),31,_,_,none⟩) (.slice at' t.length kt) rfl (iS _ hb) (fun _ _ _ h=>h) rfl ?_ ?_ ?_
       ·decide +kernel
       ·rintro w⟨⟨q0,q1,q2⟩,p0,p1,p2,p3⟩;go_simp
       try simp only[Act.put,qzF,qzG,qzH])
     | (
       refine tk 7 (⟨some 24,.move (.tmp 31),38,_,_,none⟩) (.tuple #[WV (.slice a3 X.cz.length k3) (.slice a4 r.heap.length k4) X.ez,RnV r]) rfl (iS _ hb) (fun _ _ _ h=>h) rfl ?_ ?_ ?_
       ·decide +kernel
       ·rintro w⟨⟨q0,q1,q2⟩,p0,p1,p2,p3⟩;go_simp
       try simp only[Act.put,qzF,qzG,qzH])
     | (
       refine tk 8 (⟨some 32,.extract (.tmp 24) 0,25,_,_,none⟩) (WV (.slice a3 X.cz.length k3) (.slice a4 r.heap.length k4) X.ez) rfl (iS _ hb) (fun _ _ _ h=>h) rfl ?_ ?_ ?_
       ·decide +kernel
       ·rintro w⟨⟨q0,q1,q2⟩,p0,p1,p2,p3⟩;go_simp
       try simp only[Act.put,qzF,qzG,qzH])
     | (
       refine tk 9 (⟨some 33,.extract (.tmp 24) 1,37,_,_,none⟩) (RnV r) rfl (iS _ hb) (fun _ _ _ h=>h) rfl ?_ ?_ ?_
       ·decide +kernel
       ·rintro w⟨⟨q0,q1,q2⟩,p0,p1,p2,p3⟩;go_simp
       try simp only[Act.put,qzF,qzG,qzH])
     | (
       refine rdy [5,10,11] rfl ?_ ⟨?_,?_,?_,trivial⟩
       ·decide +kernel)
     | (
       refine rdy [6,10,11] rfl ?_ ⟨?_,?_,?_,trivial⟩
       ·decide +kernel)
     | (
       refine rdy [5,10] rfl ?_ ⟨?_,?_,trivial⟩
       ·decide +kernel)
     | (
       refine rdy [5,11] rfl ?_ ⟨?_,?_,trivial⟩
       ·decide +kernel)
     | (
       refine rdy [6,10] rfl ?_ ⟨?_,?_,trivial⟩
       ·decide +kernel)
     | (
       refine rdy [6,11] rfl ?_ ⟨?_,?_,trivial⟩
       ·decide +kernel)
     | (
       refine rdy [10,11] rfl ?_ ⟨?_,?_,trivial⟩
       ·decide +kernel)
     | (
       refine rdy [5] rfl ?_ ⟨?_,trivial⟩
       ·decide +kernel)
     | (
       refine rdy [6] rfl ?_ ⟨?_,trivial⟩
       ·decide +kernel)
     | (
       refine rdy [10] rfl ?_ ⟨?_,trivial⟩
       ·decide +kernel)
     | (
       refine rdy [11] rfl ?_ ⟨?_,trivial⟩
       ·decide +kernel)
     | (
       refine rdy [12] rfl ?_ ⟨?_,trivial⟩
       ·decide +kernel)
     | (
       refine rdy [13] rfl ?_ ⟨?_,trivial⟩
       ·decide +kernel)
     | (
       refine xaN (o:=⟨some 30,.call ⟨.value (.func 9),#[.tmp 28,.tmp 29],#[25,31]⟩,40,_,_,none⟩) rfl (fun K' hK=>?_)
       have ic:=hfa U (xaf hbW hb);refine xaZ rfl 9 (.func 9) #[.tmp 28,.tmp 29] _ rfl #[] rfl #[WV (.slice ac X.cz.length cc) (.slice ah X.heap.length ch) X.ez,.slice at' t.length kt] (by simp[Act.eval,Act.put]) (xdN Tryz.func9 (by kernel_rfl) (by kernel_rfl) _ _) ?_
       refine (show Calls Tryz.prog 9 #[WV (.slice ac X.cz.length cc) (.slice ah X.heap.length ch) X.ez,.slice at' t.length kt] U _ from ic.mono ?_)
       rintro e U ⟨af,cf,rfl,hFs,hcV⟩;refine⟨_,rfl,?_⟩;replace hb:=xaf hb hcV;refine hK _ _ (fun _=>?_) ?_
       ·exact iS _ hb
       clear hK K' ic
       try simp only[Act.put,qzF,qzG,qzH]
       (try replace hZA:=xad hZA hcV)
       (try replace hlA:=qzE hlA hcV.size)
       (try replace hZB:=xad hZB hcV)
       (try replace hlB:=qzE hlB hcV.size)
       clear hcV)
     | (
       refine xaN (o:=⟨some 31,.call ⟨.value (.func 8),#[.tmp 25,.tmp 26,.tmp 27,.tmp 30],#[25,30,3,40]⟩,38,_,_,none⟩) rfl (fun K' hK=>?_)
       have hm0:=hb.size
       (try have hoA:=hlA)
       (try have hoB:=hlB)
       have ic:=hpl U (xaf hbW hb) _ _ hFs;obtain⟨lo,hlo⟩:∃ lo,U.heap.size=lo:=⟨_,rfl⟩;rw[hlo] at hm0
       (try rw[hlo] at hoA)
       (try rw[hlo] at hoB)
       refine xaZ rfl 8 (.func 8) #[.tmp 25,.tmp 26,.tmp 27,.tmp 30] _ rfl #[] rfl #[WV (.slice ac X.cz.length cc) (.slice ah X.heap.length ch) X.ez,ClV s name (.slice aa args.length ca),.int .i64 fuel,.slice af (xd4 X t X.cz.length).length cf] (by simp[Act.eval,Act.put]) (xdN Tryz.func8 (by kernel_rfl) (by kernel_rfl) _ _) ?_
       refine (show Calls Tryz.prog 8 #[WV (.slice ac X.cz.length cc) (.slice ah X.heap.length ch) X.ez,ClV s name (.slice aa args.length ca),.int .i64 fuel,.slice af (xd4 X t X.cz.length).length cf] U _ from ic.mono ?_)
       rintro e U ⟨hcV,cv2,hv2,rfl,hC1,hH1⟩;rw[hlo] at hC1 hH1;obtain⟨a3,k3,rfl,-⟩:=id hC1;obtain⟨a4,k4,rfl,-⟩:=id hH1;refine⟨_,rfl,?_⟩;replace hb:=xaf hb hcV;refine hK _ _ (fun _=>?_) ?_
       ·exact iS _ hb
       clear hK K' ic
       try simp only[Act.put,qzF,qzG,qzH]
       (try replace hZA:=xad hZA hcV)
       (try replace hlA:=qzE hlA hcV.size)
       (try replace hZB:=xad hZB hcV)
       (try replace hlB:=qzE hlB hcV.size)
       obtain⟨V,hC2,hH2,hag,hmV,hu⟩:∃ V:World,xai (fun c=>lo<=c) V (.slice a3 X.cz.length k3) X.cz/\xaD (fun c=>lo<=c) V (.slice a4 r.heap.length k4) r.heap/\(∀ c,lo<=c->c<V.heap.size->U.heap[c]?=V.heap[c]?)/\V.heap.size<=U.heap.size/\lo<=V.heap.size:=⟨U,hC1,hH1,fun _ _ _=>rfl,qzC _,by rw[← hlo];exact hcV.size⟩
       clear hC1 hH1 hcV hlo hFs)
     | (
       refine xaN (o:=⟨some 9,.alloc 25,0,_,_,none⟩) rfl (fun K' hK=>?_)
       go_simp;refine hK _ _ (fun _=>?_) ?_
       ·exact iS _ (xaf hb (xak _ _))
       clear hK K'
       try simp only[Act.put,qzF,qzG,qzH]
       have hZA:(U.alloc (.cells #[.slice none 0 0,.slice none 0 0,.int .i64 0] 25)).heap[U.heap.size]?=some (.cells #[.slice none 0 0,.slice none 0 0,.int .i64 0] 25 (0,0)):=qzJ _ _;have hk:=xak U (.cells #[.slice none 0 0,.slice none 0 0,.int .i64 0] 25);have hzA:=hb.size;have hlA:U.heap.size<(U.alloc (.cells #[.slice none 0 0,.slice none 0 0,.int .i64 0] 25)).heap.size:=by simp
       replace hb:=xaf hb hk
       (try have hdAB:U.heap.size≠bB:=(Nat.ne_of_lt hlB).symm)
       (try replace hZB:=xad hZB hk)
       (try replace hlB:=qzE hlB hk.size)
       (try replace hag:=fun c h1 h2=>(hk.block c (qzE h2 hmV)).trans (hag c h1 h2))
       (try have hoA:U.heap.size<lo\/V.heap.size<=U.heap.size:=.inr hmV)
       (try replace hmV:=qzD hmV hk.size)
       (try replace hFs:=hFs.later xhR hk)
       clear hk;generalize U.heap.size=bA at *;generalize U.alloc (.cells #[.slice none 0 0,.slice none 0 0,.int .i64 0] 25)=U at *)
     | (
       refine xaN (o:=⟨some 10,.alloc 37,0,_,_,none⟩) rfl (fun K' hK=>?_)
       go_simp;refine hK _ _ (fun _=>?_) ?_
       ·exact iS _ (xaf hb (xak _ _))
       clear hK K'
       try simp only[Act.put,qzF,qzG,qzH]
       have hZB:(U.alloc (.cells #[.int .i64 0,.int .i64 0,.int .i64 0,.int .i64 0] 37)).heap[U.heap.size]?=some (.cells #[.int .i64 0,.int .i64 0,.int .i64 0,.int .i64 0] 37 (0,0)):=qzJ _ _;have hk:=xak U (.cells #[.int .i64 0,.int .i64 0,.int .i64 0,.int .i64 0] 37);have hzB:=hb.size;have hlB:U.heap.size<(U.alloc (.cells #[.int .i64 0,.int .i64 0,.int .i64 0,.int .i64 0] 37)).heap.size:=by simp
       replace hb:=xaf hb hk
       (try have hdAB:U.heap.size≠bA:=(Nat.ne_of_lt hlA).symm)
       (try replace hZA:=xad hZA hk)
       (try replace hlA:=qzE hlA hk.size)
       (try replace hag:=fun c h1 h2=>(hk.block c (qzE h2 hmV)).trans (hag c h1 h2))
       (try have hoB:U.heap.size<lo\/V.heap.size<=U.heap.size:=.inr hmV)
       (try replace hmV:=qzD hmV hk.size)
       (try replace hFs:=hFs.later xhR hk)
       clear hk;generalize U.heap.size=bB at *;generalize U.alloc (.cells #[.int .i64 0,.int .i64 0,.int .i64 0,.int .i64 0] 37)=U at *)
     | (
       refine xaN (o:=⟨none,.store 25 (.tmp 9) (.tmp 32),0,_,_,none⟩) rfl (fun K' hK=>?_)
       have q:=bq3 hZA;have rf:=q.1;have r0:=q.2.1;have r1:=q.2.2.1;have r2:=q.2.2.2;obtain⟨hZn,hch⟩:=set3 hZA (.slice a3 X.cz.length k3) (.slice a4 r.heap.length k4) (.int .i64 X.ez);go_simp;refine hK _ _ (fun _=>?_) ?_
       ·exact iS _ (hb.trans (hch.below hzA))
       clear hK K' q rf r0 r1 r2
       try simp only[Act.put,qzF,qzG,qzH]
       replace hZA:=hZn;clear hZn;replace hb:=hb.trans (hch.below hzA);replace hag:=fun c h1 h2=>(hch.blk c (by omega)).trans (hag c h1 h2)
       replace hZB:=hch.held hZB (by omega)
       clear hch;generalize (((U.setCell ⟨bA,0,none⟩ (.slice a3 X.cz.length k3)).setCell ⟨bA,1,none⟩ (.slice a4 r.heap.length k4)).setCell ⟨bA,2,none⟩ (.int .i64 X.ez))=U at *)
     | (
       refine xaN (o:=⟨none,.store 37 (.tmp 10) (.tmp 33),0,_,_,none⟩) rfl (fun K' hK=>?_)
       have q:=bq4 hZB;have rf:=q.1;have r0:=q.2.1;have r1:=q.2.2.1;have r2:=q.2.2.2.1;have r3:=q.2.2.2.2;obtain⟨hZn,hch⟩:=set4 hZB (.int .i64 r.v.k) (.int .i64 r.v.n) (.int .i64 r.err) (.int .i64 r.sz_);go_simp;refine hK _ _ (fun _=>?_) ?_
       ·exact iS _ (hb.trans (hch.below hzB))
       clear hK K' q rf r0 r1 r2 r3
       try simp only[Act.put,qzF,qzG,qzH]
       replace hZB:=hZn;clear hZn;replace hb:=hb.trans (hch.below hzB);replace hag:=fun c h1 h2=>(hch.blk c (by omega)).trans (hag c h1 h2)
       replace hZA:=hch.held hZA (by omega)
       clear hch;generalize ((((U.setCell ⟨bB,0,none⟩ (.int .i64 r.v.k)).setCell ⟨bB,1,none⟩ (.int .i64 r.v.n)).setCell ⟨bB,2,none⟩ (.int .i64 r.err)).setCell ⟨bB,3,none⟩ (.int .i64 r.sz_))=U at *)
     | (
       refine xaz ?_ ?_ _
       ·decide +kernel
       try simp only[Act.put,qzF,qzG,qzH]
       have iF:Hid (RunC W X r (.pointer (some ⟨bA,0,none⟩)) (.pointer (some ⟨bB,0,none⟩)) U):=⟨bA,bB,_,_,rfl,rfl,hZA,hZB,hzA,hzB,hb,hC2.keep xaA (Keeps.of_block hag) (fun c h1=>qzD hm0 h1),hH2.keep xaE (Keeps.of_block hag) (fun c h1=>qzD hm0 h1)⟩
       go_wp2_with fail
       go_meet
       case rel=>exact iF.out)
     | fail
   case rest=>
    obtain⟨bA,bB,cv3,hv3,rfl,rfl,hZA,hZB,hzA,hzB,hbF,hCA,hHA⟩:=hcut;obtain⟨x1,y1,rfl⟩:∃ a c,cv3=.slice a X.cz.length c:=hCA.get;obtain⟨x2,y2,rfl⟩:∃ a c,hv3=.slice a r.heap.length c:=hHA.get;have hR4:=hR.later hbF;clear hbW iS hpl hfa hR hbF;obtain⟨⟨s0,s1,s2⟩,p0,p1,p2,p3⟩:=hR4.al;go_wp2_with fail;refine (xo5 X hX s name args fuel _ _ _ wc (hC.later xaA hR4.bel) (hH.later xaE hR4.bel) (hA.later xa1 hR4.bel) hn).mono ?_;rintro e w5 ⟨hb5,cv5,hv5,T5,mm,deep,err,hv',sv,ov,rfl,hCB,hHB,-,-⟩;dsimp only;rw[HPR.out] at hHB ⊢;obtain⟨x3,y3,rfl⟩:∃ a c,cv5=.slice a X.cz.length c:=hCB.get;obtain⟨x4,y4,rfl⟩:∃ a c,hv5=.slice a r.heap.length c:=hHB.get
    clear s0 s1 s2 p0 p1 p2 p3;have hb6:=xbP w5 (.cells #[.slice x3 X.cz.length y3,.slice x4 r.heap.length y4,.int .i64 X.ez] 25) (.cells #[.int .i64 r.v.k,.int .i64 r.v.n,.int .i64 r.err,.int .i64 r.sz_] 37);have hB6:=xqU w5 (.slice x3 X.cz.length y3) (.slice x4 r.heap.length y4) (.int .i64 X.ez) (.int .i64 r.v.k) (.int .i64 r.v.n) (.int .i64 r.err) (.int .i64 r.sz_);have hb56:=xaf hb5 hb6;replace hZA:=xad hZA hb56;replace hZB:=xad hZB hb56;replace hCA:=hCA.later xaA hb56;replace hHA:=hHA.later xaE hb56;replace hCB:=hCB.later xaA hb6;replace hHB:=hHB.later xaE hb6;have hbU:=xaf hR4.bel hb56;clear hb5 hb6 hb56 hR4
    go_upto_region 7 with (fail)
    generalize ((w5.alloc (.cells #[.slice x3 X.cz.length y3,.slice x4 r.heap.length y4,.int .i64 X.ez] 25)).alloc (.cells #[.int .i64 r.v.k,.int .i64 r.v.n,.int .i64 r.err,.int .i64 r.sz_] 37))=U at *;generalize w5.heap.size=bB at *;obtain⟨s0,s1,s2⟩:=(xkP hZA).1;obtain⟨p0,p1,p2,p3⟩:=bx4 hZB;obtain⟨⟨t0,t1,t2⟩,z0,z1,z2,z3⟩:=hB6.al;have hqr:∀ w,(binOp .eql 37 (RnV r) (RnV r)).run Tryz.prog w=.ok (.bool true) w:=fun w=>by rw[eqlR,xkv]
    go_wp2_with fail;refine (xon ⟨X.cz,r.heap,X.ez⟩ _ _ _ _ U hCA hHA hCB hHB).mono ?_;rintro e F ⟨rfl,hbF⟩;have ib:=xaf hbU hbF;clear s0 s1 s2 p0 p1 p2 p3 t0 t1 t2 z0 z1 z2 z3 hCA hHA hCB hHB;go_wp2;refine qzK (v:=.bool true) ?_ rfl ⟨rfl,ib⟩
    simp[results,Tryz.results3,go_sem]
 ·go_wp2;refine qzK (v:=.bool true) ?_ rfl ⟨rfl,hR.bel⟩
  simp[results,Tryz.results3,go_sem]
theorem bytes65:Tryz.prog.bytesOf 65=16:=by kernel_rfl
theorem bytes68:Tryz.prog.bytesOf 68=56:=by kernel_rfl
theorem cells63:Tryz.prog.cellsOf 63=3:=by kernel_rfl
theorem cells65:Tryz.prog.cellsOf 65=2:=by kernel_rfl
theorem cells68:Tryz.prog.cellsOf 68=4:=by kernel_rfl
theorem cells66:Tryz.prog.cellsOf 66=1:=by kernel_rfl
theorem IsRow.weak {α:Type}{E:Lay α}{sz bytes:Nat}{P:Nat->Prop}{w:World}{v:Value}{xs:List α}(h:IsRow E sz bytes P w v xs):IsRow E sz 0 P w v xs/\xs.length*bytes<=140737488351232:=by
 obtain⟨ad,cap,h1,h2,h3,h4,h5⟩:=h
 exact⟨⟨ad,cap,h1,h2,h3,by simp,h5⟩,h4⟩
section
variable {H:Type} {enc:TypeId × Value->H} {w:World} {base:Nat} {spare:Nat->Bool} {held:Bool}
theorem read_site {n:Nat}{cs:List Value}{x:DataW H × List MemPlace}(hl:cs.length=3)(h:DataW.trod enc Tryz.prog w base spare held n 63 cs=some x):∃ y,xrR Tru w (fun k=>cs[k]?) y:=by
 obtain⟨xs,k,hk,hxy,_,hxl,hf⟩:=DataW.trod_struct Tryz.underlying63 h
 match xs,hxl,cs,hl with
 | [y0,y1,y2],_,[v0,v1,v2],_=>
  have g0:=hf 0 _ rfl;have g1:=hf 1 _ rfl;have g2:=hf 2 _ rfl
  simp[xgG,xh7] at g0 g1 g2
  obtain⟨a,e0,-,-⟩:=DataW.trod_int Tryz.underlying3 g0;obtain⟨s,e1,-,-⟩:=DataW.trod_string Tryz.underlying9 g1;obtain⟨b,e2,-,-⟩:=DataW.trod_int Tryz.underlying3 g2
  simp at e0 e1 e2
  subst e0 e1 e2
  exact⟨⟨a,s,b⟩,rfl,rfl,rfl⟩
theorem read_line {n:Nat}{cs:List Value}{x:DataW H × List MemPlace}(hl:cs.length=2)(h:DataW.trod enc Tryz.prog w base spare held n 65 cs=some x):∃ y,xn8 Tru w (fun k=>cs[k]?) y:=by
 obtain⟨xs,k,hk,hxy,_,hxl,hf⟩:=DataW.trod_struct Tryz.underlying65 h
 match xs,hxl,cs,hl with
 | [y0,y1],_,[v0,v1],_=>
  have g0:=hf 0 _ rfl;have g1:=hf 1 _ rfl
  simp[xgG] at g0 g1
  obtain⟨a,e0,-,-⟩:=DataW.trod_int Tryz.underlying3 g0;obtain⟨b,e1,-,-⟩:=DataW.trod_int Tryz.underlying3 g1
  simp at e0 e1
  subst e0 e1
  exact⟨⟨a,b⟩,rfl,rfl⟩
theorem read_lines {fuel:Nat}{v:Value}{x:DataW H × List MemPlace}(h:DataW.trod enc Tryz.prog w base spare held fuel 66 [v]=some x)(hw:∀ n∈x.1.weights Tryz.prog 66,n<=140737488351232):∃ xs,IsRow xn8 2 16 Tru w v xs:=
 xdm xff Tryz.underlying66 cells65 bytes65 (by omega) (fun n cs x hl h hw=>read_line hl h) h hw
theorem read_tally {n:Nat}{cs:List Value}{x:DataW H × List MemPlace}(hl:cs.length=4)(h:DataW.trod enc Tryz.prog w base spare held n 68 cs=some x)(hw:∀ n∈x.1.weights Tryz.prog 68,n<=140737488351232):∃ y,xmu Tru w (fun k=>cs[k]?) y:=by
 obtain⟨xs,k,hk,hxy,_,hxl,hf⟩:=DataW.trod_struct Tryz.underlying68 h
 match xs,hxl,cs,hl with
 | [y0,y1],_,[v0,v1,v2,v3],_=>
  have g0:=hf 0 _ rfl;have g1:=hf 1 _ rfl
  simp[cells63,cells66] at g0 g1
  obtain⟨s,q0,q1,q2⟩:=read_site rfl g0;rw[hxy] at hw;obtain⟨ls,hls⟩:=read_lines g1 (fun q hq=>hw q (xbC (j:=1) (xs:=[y0,y1]) Tryz.underlying68 rfl rfl q hq))
  exact⟨⟨s,ls⟩,q0,q1,q2,_,rfl,hls.weak.1⟩
theorem open_tallies {r:Reach}{b0:Nat}{v:Value}{d:DataW H}{p:List MemPlace}(hv:Value.okWide Tryz.prog w r b0 31 v)(h:DataW.Trod enc Tryz.prog w base spare held 31 v d p)(hw:∀ n∈d.weights Tryz.prog 31,n<=140737488351232):∃ xs,xbi Tru w v xs:=by
 obtain⟨fuel,hf⟩:=h;obtain⟨a,len,cap,rfl⟩:=okWide_slice Tryz.underlying31 hv;obtain⟨xs,hx⟩:=xdm xd3 Tryz.underlying31 cells68 bytes68 (by omega) (fun n cs x hl h hw=>read_tally hl h hw) hf hw
 exact⟨xs,hx.weak.1⟩
end
set_option maxRecDepth 100000 in
theorem rs_lifted (os:Os)(started:os.Started)(H:Type)(enc:TypeId × Value->H) :
  ReturnsInHanded {} Tryz.checked os 3 .any (Rows.fastSameSpec.pre6 enc Tryz.prog Tryz.f3 Rows.fastSameRow.domain false) (Rows.fastSameSpec.post enc Tryz.prog Tryz.f3 false true false false):=by
 refine returnsInHanded_of_change_sized (C:=Tryz.checked) own started (by kernel_rfl) Tryz.func3
  (ChangeSpec.witness6 (enc:=enc) (C:=Tryz.checked) false ⟨#[],#[WV (.slice none 0 0) (.slice none 0 0) 0,ClV ⟨0,0⟩ ⟨#[]⟩ (.slice none 0 0),.int .i64 0,.slice none 0 0],[]⟩ 8 (by kernel_rfl) (by kernel_rfl) (by kernel_rfl) (by kernel_rfl)) ?_
 intro W base args ds gs before hval0 hW hcnd hsz0 _;have hval:∀ (j:Nat) t v,Tryz.f3.params[j]?=some t->args[j]?=some v->Value.okWide Tryz.prog W .any base t v:=hval0;have hsz:(DataW.weightsEach Tryz.prog (Tryz.f3.params.toList++Rows.fastSameSpec.plain.varTypes Tryz.prog) (ds++gs)).all (·<=reachBytes)=true:=hsz0;have hW':=hW;obtain⟨p,q,hA0,hV,rfl,hfz,hnd⟩:=hW;have hA:DataW.TrodAll enc Tryz.prog W 0 (fun _=>true) true Tryz.f3.params.toList args.toList ds p:=hA0
 rw[Tryz.params3] at hA hval hsz;obtain⟨v0,vs0,d0,ds0,p0,q0,hargs,rfl,rfl,h0,r0⟩:=trodAll_cons hA;obtain⟨v1,vs1,d1,ds1,p1,q1,rfl,rfl,rfl,h1,r1⟩:=trodAll_cons r0;obtain⟨v2,vs2,d2,ds2,p2,q2,rfl,rfl,rfl,h2,r2⟩:=trodAll_cons r1;obtain⟨v3,vs3,d3,ds3,p3,q3,rfl,rfl,rfl,h3,r3⟩:=trodAll_cons r2;obtain⟨rfl,rfl,rfl⟩:=trodAll_nil r3;obtain rfl:args=#[v0,v1,v2,v3]:=by cases args;simp_all
 obtain⟨rfl,rfl⟩:=trodVars_none hV;have lt:∀ {t:TypeId} {v:Value} {d:DataW H} {p:List MemPlace},DataW.Trod enc Tryz.prog W 0 (fun _=>true) true t v d p->∀ x∈p,x.block<W.heap.size:=fun h=>by obtain⟨m,hm⟩:=h;exact DataW.trod_lt m _ _ _ hm
 have big:∀ {j:Nat} {t:TypeId} {d:DataW H},([25,30,3,31]:List TypeId)[j]?=some t->[d0,d1,d2,d3][j]?=some d->∀ n∈d.weights Tryz.prog t,n<=140737488351232:=fun {j t d} ht hd n hn=>by
  have:=List.all_eq_true.1 hsz _ (DataW.weights_mem_each (j:=j) (t:=t) (by exact ht) (by exact hd) n hn)
  exact of_decide_eq_true this
 have k0:=h0;have k1:=h1;have k2:=h2;have k3:=h3;obtain⟨X0,cv0,hv0,rfl,hC0,hH0⟩:=xlc (hval 0 25 v0 rfl rfl) h0 (big (j:=0) rfl rfl);obtain⟨s1,n1,av1,l1,rfl,hn1,hA1⟩:=xmV (hval 1 30 v1 rfl rfl) h1 (big (j:=1) rfl rfl);obtain⟨a2,rfl,-,-,-⟩:=open_int Tryz.underlying3 (hval 2 3 v2 rfl rfl) h2;obtain⟨l3,hF3⟩:=open_tallies (hval 3 31 v3 rfl rfl) h3 (big (j:=3) rfl rfl);clear hA0 hval0;refine (xiC X0 s1 n1 l1 a2 l3 _ _ _ _ W hC0 hH0 hA1 hn1 hF3).mono fun e W' ⟨he,bel⟩=>?_
 subst he;have i9:∀ {t:TypeId} {v:Value} {d:DataW H} {p:List MemPlace},Tryz.prog.readableRec t=true->t<Tryz.prog.types.size->DataW.Trod enc Tryz.prog W 0 (fun _=>true) true t v d p->DataW.Trod enc Tryz.prog W' 0 (fun b=>decide (b<W.heap.size)) true t v d p:=fun hr ht h=>Below.trod xqu hr ht h bel (lt h)
 exact⟨_,rfl,_,_,_,[],_,[],hW',trodAll_mk1 (shut_bool Tryz.underlying4 _),(trodAll_cons_mk (i9 (by kernel_rfl) (of_decide_eq_true (by kernel_rfl)) k0) (trodAll_cons_mk (i9 (by kernel_rfl) (of_decide_eq_true (by kernel_rfl)) k1) (trodAll_cons_mk (i9 (by kernel_rfl) (of_decide_eq_true (by kernel_rfl)) k2) (trodAll_cons_mk (i9 (by kernel_rfl) (of_decide_eq_true (by kernel_rfl)) k3) trodAll_mk0)))),rfl,bel.frame _,fun h=>by cases h⟩
theorem rs_over:Rows.fastSameRow.holds Tryz.pinned (OpenSpec.ofChange Rows.fastSameSpec):=
 OpenClaim.holds_of_wide 3 Tryz.f3 rfl rfl rfl rfl rfl rfl rfl ⟨rfl,rfl,rfl,rfl,rfl⟩ rfl rfl rfl rfl rfl (by kernel_rfl) Tryz.func3 (by kernel_rfl)
  (of_decide_eq_true (by kernel_rfl)) (by unfold Func.isWrapper;first | (rw[if_pos (by decide +kernel)];kernel_rfl) | (rw[if_neg (by decide +kernel)];exact⟨rfl,rfl⟩))
  (fun os started H enc _=>rs_lifted os started H enc)
theorem fastSame_holds:Rows.FastSameSaid:=rs_over
#print axioms fastSame_holds
end Go.Proofs.YtaodadfahifbpaaGreat
