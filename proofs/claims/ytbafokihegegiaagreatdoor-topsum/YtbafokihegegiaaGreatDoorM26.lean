/- A part. -/
import Derived.Test.YtbafokihegegiaaGreatDoorM25
namespace Go.Proofs.YtbafokihegegiaaGreatDoor
open Go.ChangeShapes Go.WideShapes Go.ChangeAt Go.RowKit
set_option linter.unusedSimpArgs false
set_option linter.unusedVariables false
set_option maxHeartbeats 8000000
set_option maxRecDepth 100000
theorem xrK:(Tryz.prog.info? 56).map (fun i=>(i.zero,i.size,i.bytes))=some (some (.agg #[.int .i64 0,.string ⟨#[]⟩,.int .i64 0,.int .i64 0,.string ⟨#[]⟩,.int .i64 0,.int .i64 0,.int .i64 0,.slice none 0 0,.int .i64 0,.int .i64 0,.string ⟨#[]⟩,.slice none 0 0]),13,160):=by kernel_rfl
section
variable {α:Type} {E:Lay α} {sz:Nat} {P:Nat->Prop} {w:World} {o:Oper} {a:Act} {Q:Exit->Act->World->Prop} {K:Act->World->Prop}
theorem xhx (G:Good E sz)(s x:Operand)(T:TypeId)(ho:o.op=.call { callee:=.builtin .append,args:=#[s,x],argTypes:=#[T,T] })
  (e:TypeId) (z:Value) (bytes:Nat) (hu:Tryz.prog.underlying T=some (.slice e)) (hI:(Tryz.prog.info? e).map (fun i=>(i.zero,i.size,i.bytes))=some (some z,sz,bytes)) (hz:z.cells.size=sz)
  (xs ys:List α) (b1 b2:Addr) (c2:Nat) (hs:a.eval s=.slice (some b1) xs.length xs.length) (hrow:IsRow E sz bytes P w (.slice (some b1) xs.length xs.length) xs) (hx:a.eval x=.slice (some b2) ys.length c2) (hrow2:IsRow E sz bytes P w (.slice (some b2) ys.length c2) ys)
  (hne:0<ys.length) (nn:Nat) (hnn:xs.length+ys.length=nn) (hb1:nn<=maxLen) (hb2:nn*bytes<=140737488351232)
  (h:∀ g cap w',IsRow E sz bytes (fun b=>P b\/w.heap.size<=b) w' (.slice (some ⟨g,0,none⟩) nn cap) (xs++ys)->Below w.heap.size w w'->K (a.put o.dst (.slice (some ⟨g,0,none⟩) nn cap)) w'):Oper.wp Tryz.prog o a w K Q:=by
 subst hnn;obtain⟨i0,hi,hz0,hz1,hz2⟩:=xbu hI;obtain⟨ad,cap0,e0,hl,hcap,-,hr⟩:=hrow;obtain⟨ad2,cap2,e2,hl2,hcap2,-,hr2⟩:=hrow2;simp only[Value.slice.injEq] at e0 e2;obtain⟨rfl,-,-⟩:=e0;obtain⟨rfl,-,-⟩:=e2;obtain⟨cs,hcs,hsrc⟩:=hr.cells G;obtain⟨ds,hds,hsrc2⟩:=hr2.cells G;have hp:=G.pos;obtain⟨v',w',hrun,hown,hgr⟩:=run_append_arg_grows (P:=Tryz.prog) w T o.type e i0 z sz bytes hu hi hz0 hz1 hz2 hz hp b1 xs.length xs.length cs hcs.1 (fun j u hj=>by obtain⟨a',e',h'⟩:=hsrc j u hj;cases e';exact h') b2 ys.length c2 ds hds.1 (fun j u hj=>by obtain⟨a',e',h'⟩:=hsrc2 j u hj;cases e';exact h') (by omega) hb1 (by omega)
 unfold Oper.wp
 simp[execOp,ho,resolve,invoke,builtin,hs,hx,hrun,Result.andThen]
 have hbel:Below w.heap.size w w':=(Below.refl _ _).grown hgr (qzC _) (fun k hk=>by cases hk)
 obtain⟨hl',⟨rfl,h0⟩ | ⟨g,cap,cur,rfl,h1,h2,h3,h4,h5,h6⟩⟩:=id hown
 ·omega
 ·have hC:Cells E sz (fun b=>P b\/w.heap.size<=b) w' (cs++ds) (xs++ys):=Cells.append (hcs.keep G (.of_below hbel) fun b h=>.inl h) G (hds.keep G (.of_below hbel) fun b h=>.inl h)
  have:=hC.row G (g:=g) (cap:=cap) (bytes:=bytes) (.inr h1) h2 (by simpa using h6) (by simpa using h3) h4 (by simpa using hb2)
  exact h g cap w' (by simpa using this) hbel
end
theorem xhf {k:Int}{v:QV}{name:ByteArray}{args:List QV}(h:name.size<=100):NamesOk (xdj k v name args):=⟨by show ByteArray.size ⟨#[]⟩<=_;decide,by show ByteArray.size ⟨#[]⟩<=_;decide,by show name.size<=_;omega⟩
theorem xnm {n t:Int}(h0:-1000<=n)(h1:n<=1000)(ht0:0<=t)(ht1:t<=60):-60000<=n*t/\n*t<=60000:=by
 have a:=Int.mul_le_mul_of_nonneg_right h1 ht0;have b:=Int.mul_le_mul_of_nonneg_right h0 ht0
 omega
theorem xmw (n t k:Int)(w:World):Calls Tryz.prog 7 #[.int .i64 n,.int .i64 t,.int .i64 k] w fun e w'=>e=.returned (.bool true)/\Below w.heap.size w w':=by
 have hal:=fun w'=>xoa w'
 have hsm:=fun w'=>xqA w'
 go_enter Tryz.func7,Tryz.ntmps7;go_wp2_with fail;refine (hal _).mono ?_;rintro e U ⟨rfl,hb⟩;clear hal
 go_upto_region 3 with (fail)
 by_cases a0:n < -1000
 ·go_wp2;refine bodyPost_ret (v:=.bool true) ?_ rfl ⟨rfl,hb⟩
  simp[results,Tryz.results7,go_sem]
 by_cases a1:1000<n
 ·go_wp2;refine bodyPost_ret (v:=.bool true) ?_ rfl ⟨rfl,hb⟩
  simp[results,Tryz.results7,go_sem]
 by_cases a2:t<0
 ·go_wp2;refine bodyPost_ret (v:=.bool true) ?_ rfl ⟨rfl,hb⟩
  simp[results,Tryz.results7,go_sem]
 by_cases a3:60<t
 ·go_wp2;refine bodyPost_ret (v:=.bool true) ?_ rfl ⟨rfl,hb⟩
  simp[results,Tryz.results7,go_sem]
 by_cases a4:k<4
 ·go_wp2;refine bodyPost_ret (v:=.bool true) ?_ rfl ⟨rfl,hb⟩
  simp[results,Tryz.results7,go_sem]
 by_cases a5:6<k
 ·go_wp2;refine bodyPost_ret (v:=.bool true) ?_ rfl ⟨rfl,hb⟩
  simp[results,Tryz.results7,go_sem]
 have hrs:=xqL (n:=n) (t:=t) (k:=k) (by omega) (by omega) (by omega) (by omega) (by omega)
 obtain⟨m0,m1⟩:=xnm (n:=n) (t:=t) (by omega) (by omega) (by omega) (by omega)
 go_wp2_with fail;refine (hsm _).mono ?_;rintro e U ⟨gs,rfl,hSm,hk⟩;have hgs:=hb.size;replace hSm:=hSm.mono xbR fun b h=>qzD hgs h
 replace hb:=xaf hb hk;clear hk hsm hgs;go_wp2_with fail;refine (xkQ _ _).mono ?_;rintro e U ⟨rfl,hk⟩;replace hb:=xaf hb hk;replace hSm:=hSm.later xbR hk;clear hk;go_wp2_with fail;refine (xeA _ _).mono ?_;rintro e U ⟨rfl,hk⟩;replace hb:=xaf hb hk;replace hSm:=hSm.later xbR hk;clear hk;go_wp2_with fail;refine (xgl _ ⟨4,0⟩ _ _ _ _ _ [⟨3,n⟩]).mono ?_;rintro e V ⟨rfl,hk⟩;have hG1:=xaa (heap_alloc_new U _) hk;have hg1:=hb.size;replace hSm:=(hSm.later xbR (xai _ _)).later xbR hk;replace hb:=xbo hb hk;clear hk;generalize U.heap.size=g1 at *;generalize V=U at *;go_wp2_with fail;refine (xkQ _ _).mono ?_
 rintro e U ⟨rfl,hk⟩;replace hb:=xaf hb hk;replace hSm:=hSm.later xbR hk;replace hG1:=xaa hG1 hk;clear hk;go_wp2_with fail;refine (xeA _ _).mono ?_;rintro e U ⟨rfl,hk⟩;replace hb:=xaf hb hk;replace hSm:=hSm.later xbR hk;replace hG1:=xaa hG1 hk;clear hk;go_wp2_with fail;refine (xgl _ ⟨4,0⟩ _ _ _ _ _ [⟨3,3⟩]).mono ?_;rintro e V ⟨rfl,hk⟩;have hG2:=xaa (heap_alloc_new U _) hk;have hg2:=hb.size;replace hSm:=(hSm.later xbR (xai _ _)).later xbR hk;replace hG1:=xaa (xaa hG1 (xai _ _)) hk;replace hb:=xbo hb hk;clear hk;generalize U.heap.size=g2 at *;generalize V=U at *;go_wp2_with fail;refine (xkQ _ _).mono ?_
 rintro e U ⟨rfl,hk⟩;replace hb:=xaf hb hk;replace hSm:=hSm.later xbR hk;replace hG1:=xaa hG1 hk;replace hG2:=xaa hG2 hk;clear hk;go_wp2_with fail;refine (xeA _ _).mono ?_;rintro e U ⟨rfl,hk⟩;replace hb:=xaf hb hk;replace hSm:=hSm.later xbR hk;replace hG1:=xaa hG1 hk;replace hG2:=xaa hG2 hk;clear hk;go_wp2_with fail;refine (xgl _ ⟨4,0⟩ _ _ _ _ _ [⟨3,t⟩]).mono ?_;rintro e V ⟨rfl,hk⟩;have hG3:=xaa (heap_alloc_new U _) hk;have hg3:=hb.size;replace hSm:=(hSm.later xbR (xai _ _)).later xbR hk;replace hG1:=xaa (xaa hG1 (xai _ _)) hk;replace hG2:=xaa (xaa hG2 (xai _ _)) hk;replace hb:=xbo hb hk;clear hk
 generalize U.heap.size=g3 at *;generalize V=U at *;have hS2:xg2 (fun b=>w.heap.size<=b) (U.alloc (.cells (xdV (xdj 4 ⟨4,0⟩ xlb [⟨3,n⟩]) (.slice none 0 0) (.slice (some ⟨g1,0,none⟩) 1 1)++xdV (xdj 5 ⟨4,0⟩ xgg [⟨3,3⟩]) (.slice none 0 0) (.slice (some ⟨g2,0,none⟩) 1 1)++xdV (xdj k ⟨4,0⟩ xgg [⟨3,t⟩]) (.slice none 0 0) (.slice (some ⟨g3,0,none⟩) 1 1)).toArray 56)) (.slice (some ⟨U.heap.size,0,none⟩) 3 3) [xdj 4 ⟨4,0⟩ xlb [⟨3,n⟩],xdj 5 ⟨4,0⟩ xgg [⟨3,3⟩],xdj k ⟨4,0⟩ xgg [⟨3,t⟩]]:=Cells.row (((xcS (xhf (by decide)) xcB (xgc (xaa hG1 (xai U _)) hg1)).append xbR (xcS (xhf (by decide)) xcB (xgc (xaa hG2 (xai U _)) hg2))).append xbR (xcS (xhf (by decide)) xcB (xgc (xaa hG3 (xai U _)) hg3))) xbR hb.size (heap_alloc_new U _) rfl (qzC _) (by unfold maxLen;decide) (by simp)
 replace hSm:=hSm.later xbR (xai U (.cells (xdV (xdj 4 ⟨4,0⟩ xlb [⟨3,n⟩]) (.slice none 0 0) (.slice (some ⟨g1,0,none⟩) 1 1)++xdV (xdj 5 ⟨4,0⟩ xgg [⟨3,3⟩]) (.slice none 0 0) (.slice (some ⟨g2,0,none⟩) 1 1)++xdV (xdj k ⟨4,0⟩ xgg [⟨3,t⟩]) (.slice none 0 0) (.slice (some ⟨g3,0,none⟩) 1 1)).toArray 56));replace hb:=xaf hb (xai U (.cells (xdV (xdj 4 ⟨4,0⟩ xlb [⟨3,n⟩]) (.slice none 0 0) (.slice (some ⟨g1,0,none⟩) 1 1)++xdV (xdj 5 ⟨4,0⟩ xgg [⟨3,3⟩]) (.slice none 0 0) (.slice (some ⟨g2,0,none⟩) 1 1)++xdV (xdj k ⟨4,0⟩ xgg [⟨3,t⟩]) (.slice none 0 0) (.slice (some ⟨g3,0,none⟩) 1 1)).toArray 56));clear hG1 hG2 hG3
 go_wp2_with fail;refine xhx xbR (.tmp 35) (.tmp 51) 22 rfl 56 _ 160 Tryz.underlying22 xrK rfl xik [xdj 4 ⟨4,0⟩ xlb [⟨3,n⟩],xdj 5 ⟨4,0⟩ xgg [⟨3,3⟩],xdj k ⟨4,0⟩ xgg [⟨3,t⟩]] ⟨gs,0,none⟩ ⟨U.heap.size,0,none⟩ 3 rfl hSm rfl hS2 (by simp) 8 rfl (by unfold maxLen;decide) (by decide) ?_
 intro gl cl w3 hAll hk;replace hb:=xaf hb hk;clear hk hSm hS2
 have hkk:∀ x∈xik++[xdj 4 ⟨4,0⟩ xlb [⟨3,n⟩],xdj 5 ⟨4,0⟩ xgg [⟨3,3⟩],xdj k ⟨4,0⟩ xgg [⟨3,t⟩]],1<=x.kind/\x.kind<=6:=by
  intro x hx;simp only[xik,List.mem_append,List.mem_cons,List.not_mem_nil,or_false] at hx
  rcases hx with (rfl | rfl | rfl | rfl | rfl) | rfl | rfl | rfl<;>simp[clsS,xrb,newS,xdj]<;>omega
 go_wp2_with fail;refine (xlI (xik++[xdj 4 ⟨4,0⟩ xlb [⟨3,n⟩],xdj 5 ⟨4,0⟩ xgg [⟨3,3⟩],xdj k ⟨4,0⟩ xgg [⟨3,t⟩]]) hkk 8 rfl (by decide) _ _ hAll _ hrs).mono ?_
 rintro e W ⟨b1,b2,b3,b4,n1,j1,n2,j2,n3,j3,n4,j4,ep,g,rfl,hRe,hk⟩;replace hb:=xaf hb hk;have q:=xlM hRe (j:=7) rfl;simp only[Nat.reduceMul,Nat.reduceAdd] at q;obtain⟨q0,-,q1,q2⟩:=q;clear hRe hk hAll hkk hrs;have hbA:=xai W (.cells #[.slice b1 n1 j1,.slice b2 n2 j2,.int .i64 ep,.slice b3 n3 j3,.slice b4 n4 j4,.slice none 0 0] 31);have hbW:=xaf hb hbA;have hSl:=fun (W':World) (hb:Below (W.alloc (.cells #[.slice b1 n1 j1,.slice b2 n2 j2,.int .i64 ep,.slice b3 n3 j3,.slice b4 n4 j4,.slice none 0 0] 31)).heap.size (W.alloc (.cells #[.slice b1 n1 j1,.slice b2 n2 j2,.int .i64 ep,.slice b3 n3 j3,.slice b4 n4 j4,.slice none 0 0] 31)) W')=>(⟨qzA (xaf hbA hb) q0,qzA (xaf hbA hb) q1,qzA (xaf hbA hb) q2⟩:W'.cell? ⟨g,28,none⟩=some (.int .i64 0)/\W'.cell? ⟨g,30,none⟩=some (.int .i64 3)/\W'.cell? ⟨g,31,none⟩=some (.int .i64 (n*t)))
 clear q0 q1 q2
 go_upto_region 7 with (fail)
 clear hbA hb;generalize W.alloc (.cells #[.slice b1 n1 j1,.slice b2 n2 j2,.int .i64 ep,.slice b3 n3 j3,.slice b4 n4 j4,.slice none 0 0] 31)=W at *;refine xat (S:=fun w'=>w'.cell? ⟨g,28,none⟩=some (.int .i64 0)/\w'.cell? ⟨g,30,none⟩=some (.int .i64 3)/\w'.cell? ⟨g,31,none⟩=some (.int .i64 (n*t))) [] (by kernel_rfl) ?_
 have hb:Below W.heap.size W W.drew:=(Below.refl _ W).drew;generalize W.drew=U at *;refine tk 0 (⟨some 59,.move (.tmp 10),33,_,_,none⟩) (.int .i64 0) rfl (hSl _ hb) (fun _ _ _ h=>h) rfl ?_ ?_ ?_
 ·kernel_rfl
 ·intro w hSw;obtain⟨q0,q1,q2⟩:=hSw;go_simp
  all_goals (first | rfl | exact xal (by omega) (by omega))
 try simp only[Act.put,qzF,qzG,qzH]
 refine tk 1 (⟨some 60,.binOp .eql 33 (.tmp 59) (.const (.int .i64 0)) 33,4,_,_,none⟩) (.bool true) rfl (hSl _ hb) (fun _ _ _ h=>h) rfl ?_ ?_ ?_
 ·kernel_rfl
 ·intro w hSw;obtain⟨q0,q1,q2⟩:=hSw;go_simp
  all_goals (first | rfl | exact xal (by omega) (by omega))
 try simp only[Act.put,qzF,qzG,qzH]
 refine tk 2 (⟨some 61,.move (.tmp 60),4,_,_,none⟩) (.bool true) rfl (hSl _ hb) (fun _ _ _ h=>h) rfl ?_ ?_ ?_
 ·kernel_rfl
 ·intro w hSw;obtain⟨q0,q1,q2⟩:=hSw;go_simp
  all_goals (first | rfl | exact xal (by omega) (by omega))
 try simp only[Act.put,qzF,qzG,qzH]
 refine tk 3 (⟨some 62,.move (.tmp 9),32,_,_,some (2,true)⟩) (.slice (some ⟨g,0,none⟩) 8 8) rfl (hSl _ hb) (fun _ _ _ h=>h) rfl ?_ ?_ ?_
 ·kernel_rfl
 ·intro w hSw;obtain⟨q0,q1,q2⟩:=hSw;go_simp
  all_goals (first | rfl | exact xal (by omega) (by omega))
 try simp only[Act.put,qzF,qzG,qzH]
 refine tk 4 (⟨some 63,.call ⟨.builtin .len,#[.tmp 62],#[32]⟩,3,_,_,some (2,true)⟩) (.int .i64 8) rfl (hSl _ hb) (fun _ _ _ h=>h) rfl ?_ ?_ ?_
 ·kernel_rfl
 ·intro w hSw;obtain⟨q0,q1,q2⟩:=hSw;go_simp
  all_goals (first | rfl | exact xal (by omega) (by omega))
 try simp only[Act.put,qzF,qzG,qzH]
 refine tk 5 (⟨some 64,.move (.tmp 7),22,_,_,some (2,true)⟩) (.slice (some ⟨gl,0,none⟩) 8 cl) rfl (hSl _ hb) (fun _ _ _ h=>h) rfl ?_ ?_ ?_
 ·kernel_rfl
 ·intro w hSw;obtain⟨q0,q1,q2⟩:=hSw;go_simp
  all_goals (first | rfl | exact xal (by omega) (by omega))
 try simp only[Act.put,qzF,qzG,qzH]
 refine tk 6 (⟨some 65,.call ⟨.builtin .len,#[.tmp 64],#[22]⟩,3,_,_,some (2,true)⟩) (.int .i64 8) rfl (hSl _ hb) (fun _ _ _ h=>h) rfl ?_ ?_ ?_
 ·kernel_rfl
 ·intro w hSw;obtain⟨q0,q1,q2⟩:=hSw;go_simp
  all_goals (first | rfl | exact xal (by omega) (by omega))
 try simp only[Act.put,qzF,qzG,qzH]
 refine tk 7 (⟨some 66,.binOp .eql 3 (.tmp 63) (.tmp 65) 3,4,_,_,some (2,true)⟩) (.bool true) rfl (hSl _ hb) (fun _ _ _ h=>h) rfl ?_ ?_ ?_
 ·kernel_rfl
 ·intro w hSw;obtain⟨q0,q1,q2⟩:=hSw;go_simp
  all_goals (first | rfl | exact xal (by omega) (by omega))
 try simp only[Act.put,qzF,qzG,qzH]
 refine tk 8 (⟨some 67,.pick (.tmp 61) (.tmp 66) (.const (.bool false)),4,_,_,none⟩) (.bool true) rfl (hSl _ hb) (fun _ _ _ h=>h) rfl ?_ ?_ ?_
 ·kernel_rfl
 ·intro w hSw;obtain⟨q0,q1,q2⟩:=hSw;go_simp
  all_goals (first | rfl | exact xal (by omega) (by omega))
 try simp only[Act.put,qzF,qzG,qzH]
 refine tk 9 (⟨some 68,.move (.tmp 67),4,_,_,none⟩) (.bool true) rfl (hSl _ hb) (fun _ _ _ h=>h) rfl ?_ ?_ ?_
 ·kernel_rfl
 ·intro w hSw;obtain⟨q0,q1,q2⟩:=hSw;go_simp
  all_goals (first | rfl | exact xal (by omega) (by omega))
 try simp only[Act.put,qzF,qzG,qzH]
 refine tk 10 (⟨some 69,.move (.tmp 9),32,_,_,some (9,true)⟩) (.slice (some ⟨g,0,none⟩) 8 8) rfl (hSl _ hb) (fun _ _ _ h=>h) rfl ?_ ?_ ?_
 ·kernel_rfl
 ·intro w hSw;obtain⟨q0,q1,q2⟩:=hSw;go_simp
  all_goals (first | rfl | exact xal (by omega) (by omega))
 try simp only[Act.put,qzF,qzG,qzH]
 refine tk 11 (⟨some 70,.move (.tmp 7),22,_,_,some (9,true)⟩) (.slice (some ⟨gl,0,none⟩) 8 cl) rfl (hSl _ hb) (fun _ _ _ h=>h) rfl ?_ ?_ ?_
 ·kernel_rfl
 ·intro w hSw;obtain⟨q0,q1,q2⟩:=hSw;go_simp
  all_goals (first | rfl | exact xal (by omega) (by omega))
 try simp only[Act.put,qzF,qzG,qzH]
 refine tk 12 (⟨some 71,.call ⟨.builtin .len,#[.tmp 70],#[22]⟩,3,_,_,some (9,true)⟩) (.int .i64 8) rfl (hSl _ hb) (fun _ _ _ h=>h) rfl ?_ ?_ ?_
 ·kernel_rfl
 ·intro w hSw;obtain⟨q0,q1,q2⟩:=hSw;go_simp
  all_goals (first | rfl | exact xal (by omega) (by omega))
 try simp only[Act.put,qzF,qzG,qzH]
 refine tk 13 (⟨some 72,.binOp .sub 3 (.tmp 71) (.const (.int .i64 1)) 3,3,_,_,some (9,true)⟩) (.int .i64 7) rfl (hSl _ hb) (fun _ _ _ h=>h) rfl ?_ ?_ ?_
 ·kernel_rfl
 ·intro w hSw;obtain⟨q0,q1,q2⟩:=hSw;go_simp
  all_goals (first | rfl | exact xal (by omega) (by omega))
 try simp only[Act.put,qzF,qzG,qzH]
 refine tk 14 (⟨some 73,.indexAddr 32 (.tmp 69) (.tmp 72),0,_,_,some (9,true)⟩) (.pointer (some ⟨g,28,none⟩)) rfl (hSl _ hb) (fun _ _ _ h=>h) rfl ?_ ?_ ?_
 ·kernel_rfl
 ·intro w hSw;obtain⟨q0,q1,q2⟩:=hSw;go_simp
  all_goals (first | rfl | exact xal (by omega) (by omega))
 try simp only[Act.put,qzF,qzG,qzH]
 refine tk 15 (⟨some 74,.fieldAddr 43 (.tmp 73) 0,0,_,_,some (9,true)⟩) (.pointer (some ⟨g,28,none⟩)) rfl (hSl _ hb) (fun _ _ _ h=>h) rfl ?_ ?_ ?_
 ·kernel_rfl
 ·intro w hSw;obtain⟨q0,q1,q2⟩:=hSw;go_simp
  all_goals (first | rfl | exact xal (by omega) (by omega))
 try simp only[Act.put,qzF,qzG,qzH]
 refine tk 16 (⟨some 75,.load 33 (.tmp 74),33,_,_,some (9,true)⟩) (.int .i64 0) rfl (hSl _ hb) (fun _ _ _ h=>h) rfl ?_ ?_ ?_
 ·kernel_rfl
 ·intro w hSw;obtain⟨q0,q1,q2⟩:=hSw;go_simp
  all_goals (first | rfl | exact xal (by omega) (by omega))
 try simp only[Act.put,qzF,qzG,qzH]
 refine tk 17 (⟨some 76,.binOp .eql 33 (.tmp 75) (.const (.int .i64 0)) 33,4,_,_,some (9,true)⟩) (.bool true) rfl (hSl _ hb) (fun _ _ _ h=>h) rfl ?_ ?_ ?_
 ·kernel_rfl
 ·intro w hSw;obtain⟨q0,q1,q2⟩:=hSw;go_simp
  all_goals (first | rfl | exact xal (by omega) (by omega))
 try simp only[Act.put,qzF,qzG,qzH]
 refine tk 18 (⟨some 77,.pick (.tmp 68) (.tmp 76) (.const (.bool false)),4,_,_,none⟩) (.bool true) rfl (hSl _ hb) (fun _ _ _ h=>h) rfl ?_ ?_ ?_
 ·kernel_rfl
 ·intro w hSw;obtain⟨q0,q1,q2⟩:=hSw;go_simp
  all_goals (first | rfl | exact xal (by omega) (by omega))
 try simp only[Act.put,qzF,qzG,qzH]
 refine tk 19 (⟨some 78,.move (.tmp 77),4,_,_,none⟩) (.bool true) rfl (hSl _ hb) (fun _ _ _ h=>h) rfl ?_ ?_ ?_
 ·kernel_rfl
 ·intro w hSw;obtain⟨q0,q1,q2⟩:=hSw;go_simp
  all_goals (first | rfl | exact xal (by omega) (by omega))
 try simp only[Act.put,qzF,qzG,qzH]
 refine tk 20 (⟨some 79,.move (.tmp 9),32,_,_,some (19,true)⟩) (.slice (some ⟨g,0,none⟩) 8 8) rfl (hSl _ hb) (fun _ _ _ h=>h) rfl ?_ ?_ ?_
 ·kernel_rfl
 ·intro w hSw;obtain⟨q0,q1,q2⟩:=hSw;go_simp
  all_goals (first | rfl | exact xal (by omega) (by omega))
 try simp only[Act.put,qzF,qzG,qzH]
 refine tk 21 (⟨some 80,.move (.tmp 7),22,_,_,some (19,true)⟩) (.slice (some ⟨gl,0,none⟩) 8 cl) rfl (hSl _ hb) (fun _ _ _ h=>h) rfl ?_ ?_ ?_
 ·kernel_rfl
 ·intro w hSw;obtain⟨q0,q1,q2⟩:=hSw;go_simp
  all_goals (first | rfl | exact xal (by omega) (by omega))
 try simp only[Act.put,qzF,qzG,qzH]
 refine tk 22 (⟨some 81,.call ⟨.builtin .len,#[.tmp 80],#[22]⟩,3,_,_,some (19,true)⟩) (.int .i64 8) rfl (hSl _ hb) (fun _ _ _ h=>h) rfl ?_ ?_ ?_
 ·kernel_rfl
 ·intro w hSw;obtain⟨q0,q1,q2⟩:=hSw;go_simp
  all_goals (first | rfl | exact xal (by omega) (by omega))
 try simp only[Act.put,qzF,qzG,qzH]
 refine tk 23 (⟨some 82,.binOp .sub 3 (.tmp 81) (.const (.int .i64 1)) 3,3,_,_,some (19,true)⟩) (.int .i64 7) rfl (hSl _ hb) (fun _ _ _ h=>h) rfl ?_ ?_ ?_
 ·kernel_rfl
 ·intro w hSw;obtain⟨q0,q1,q2⟩:=hSw;go_simp
  all_goals (first | rfl | exact xal (by omega) (by omega))
 try simp only[Act.put,qzF,qzG,qzH]
 refine tk 24 (⟨some 83,.indexAddr 32 (.tmp 79) (.tmp 82),0,_,_,some (19,true)⟩) (.pointer (some ⟨g,28,none⟩)) rfl (hSl _ hb) (fun _ _ _ h=>h) rfl ?_ ?_ ?_
 ·kernel_rfl
 ·intro w hSw;obtain⟨q0,q1,q2⟩:=hSw;go_simp
  all_goals (first | rfl | exact xal (by omega) (by omega))
 try simp only[Act.put,qzF,qzG,qzH]
 refine tk 25 (⟨some 84,.fieldAddr 43 (.tmp 83) 2,0,_,_,some (19,true)⟩) (.pointer (some ⟨g,30,none⟩)) rfl (hSl _ hb) (fun _ _ _ h=>h) rfl ?_ ?_ ?_
 ·kernel_rfl
 ·intro w hSw;obtain⟨q0,q1,q2⟩:=hSw;go_simp
  all_goals (first | rfl | exact xal (by omega) (by omega))
 try simp only[Act.put,qzF,qzG,qzH]
 refine tk 26 (⟨some 85,.load 41 (.tmp 84),41,_,_,some (19,true)⟩) (VV ⟨3,n*t⟩) rfl (hSl _ hb) (fun _ _ _ h=>h) rfl ?_ ?_ ?_
 ·kernel_rfl
 ·intro w hSw;obtain⟨q0,q1,q2⟩:=hSw;go_simp
  all_goals (first | rfl | exact xal (by omega) (by omega))
 try simp only[Act.put,qzF,qzG,qzH]
 refine tk 27 (⟨some 86,.move (.tmp 0),3,_,_,some (19,true)⟩) (.int .i64 n) rfl (hSl _ hb) (fun _ _ _ h=>h) rfl ?_ ?_ ?_
 ·kernel_rfl
 ·intro w hSw;obtain⟨q0,q1,q2⟩:=hSw;go_simp
  all_goals (first | rfl | exact xal (by omega) (by omega))
 try simp only[Act.put,qzF,qzG,qzH]
 refine tk 28 (⟨some 87,.move (.tmp 1),3,_,_,some (19,true)⟩) (.int .i64 t) rfl (hSl _ hb) (fun _ _ _ h=>h) rfl ?_ ?_ ?_
 ·kernel_rfl
 ·intro w hSw;obtain⟨q0,q1,q2⟩:=hSw;go_simp
  all_goals (first | rfl | exact xal (by omega) (by omega))
 try simp only[Act.put,qzF,qzG,qzH]
 refine tk 29 (⟨some 88,.binOp .mul 3 (.tmp 86) (.tmp 87) 3,3,_,_,some (19,true)⟩) (.int .i64 (n*t)) rfl (hSl _ hb) (fun _ _ _ h=>h) rfl ?_ ?_ ?_
 ·kernel_rfl
 ·intro w hSw;obtain⟨q0,q1,q2⟩:=hSw;go_simp
  all_goals (first | rfl | exact xal (by omega) (by omega))
 try simp only[Act.put,qzF,qzG,qzH]
 refine rdy [30] rfl ?_ ⟨?_,trivial⟩
 ·kernel_rfl
 refine xa0 (o:=⟨some 89,.call ⟨.value (.func 25),#[.tmp 88],#[3]⟩,41,_,_,some (19,true)⟩) rfl (fun K' hK=>?_)
 have hcall:=xeA (n*t) U;refine xft rfl 25 (.func 25) #[.tmp 88] _ rfl #[] rfl #[.int .i64 (n*t)] (by simp[Act.eval,Act.put]) (xda Tryz.func25 (by kernel_rfl) (by kernel_rfl) _ _) ?_
 refine (show Calls Tryz.prog 25 #[.int .i64 (n*t)] U _ from hcall.mono ?_)
 rintro e U ⟨rfl,hcV⟩;refine⟨_,rfl,?_⟩;replace hb:=xaf hb hcV;refine hK _ _ (fun _=>?_) ?_
 ·exact hSl _ hb
 clear hK K' hcall hcV
 try simp only[Act.put,qzF,qzG,qzH]
 refine tk 31 (⟨some 90,.binOp .eql 41 (.tmp 85) (.tmp 89) 41,4,_,_,some (19,true)⟩) (.bool true) rfl (hSl _ hb) (fun _ _ _ h=>h) rfl ?_ ?_ ?_
 ·kernel_rfl
 ·intro w hSw;obtain⟨q0,q1,q2⟩:=hSw;go_simp
  all_goals (first | rfl | exact xal (by omega) (by omega))
 try simp only[Act.put,qzF,qzG,qzH]
 refine tk 32 (⟨some 91,.pick (.tmp 78) (.tmp 90) (.const (.bool false)),4,_,_,none⟩) (.bool true) rfl (hSl _ hb) (fun _ _ _ h=>h) rfl ?_ ?_ ?_
 ·kernel_rfl
 ·intro w hSw;obtain⟨q0,q1,q2⟩:=hSw;go_simp
  all_goals (first | rfl | exact xal (by omega) (by omega))
 try simp only[Act.put,qzF,qzG,qzH]
 refine tk 33 (⟨some 6,.assign (.tmp 91),4,_,_,none⟩) (.bool true) rfl (hSl _ hb) (fun _ _ _ h=>h) rfl ?_ ?_ ?_
 ·kernel_rfl
 ·intro w hSw;obtain⟨q0,q1,q2⟩:=hSw;go_simp
  all_goals (first | rfl | exact xal (by omega) (by omega))
 try simp only[Act.put,qzF,qzG,qzH]
 refine xaE ?_ ?_ _
 ·kernel_rfl
 try simp only[Act.put,qzF,qzG,qzH]
 go_wp2;refine bodyPost_ret (v:=.bool true) ?_ rfl ⟨rfl,xaf hbW hb⟩
 simp[results,Tryz.results7,go_sem]
end Go.Proofs.YtbafokihegegiaaGreatDoor
