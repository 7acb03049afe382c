/- A part. -/
import Derived.Test.YtbafokihegegiaaGreatDoorM26
namespace Go.Proofs.YtbafokihegegiaaGreatDoor
open Go.ChangeShapes Go.WideShapes Go.ChangeAt Go.RowKit
set_option linter.unusedSimpArgs false
set_option linter.unusedVariables false
set_option maxHeartbeats 8000000
set_option maxRecDepth 100000
theorem xtw {k:Int}(h:k=4\/k=5\/k=6):xaW xcU ([xtd (nm [65]) 0 0,xrb 4 dpN 0 0 [in_ 1 0,sd dpN 0,in_ 17 0],xrb 4 tnN 0 0 [in_ 15 0],xtb 4]++[xdj k ⟨4,0⟩ dpN [],xdj k ⟨4,0⟩ dpN []])=[⟨0,4,xa4⟩,⟨0,0,xa4⟩,⟨0,0,xa4⟩,⟨0,0,⟨4,0⟩⟩,⟨14,20,xa4⟩,⟨14,20,xa4⟩]:=by
 rcases h with rfl | rfl | rfl<;>kernel_rfl
theorem xtv (k:Int)(w:World):Calls Tryz.prog 10 #[.int .i64 k,.bool false] w fun e w'=>e=.returned (.bool true)/\Below w.heap.size w w':=by
 have hal:=fun w'=>xoa w'
 go_enter Tryz.func10,Tryz.ntmps10;go_wp2_with fail;refine (hal _).mono ?_;rintro e U ⟨rfl,hb⟩;clear hal
 go_upto_region 3 with (fail)
 by_cases a0:k<4
 ·go_wp2;refine bodyPost_ret (v:=.bool true) ?_ rfl ⟨rfl,hb⟩
  simp[results,Tryz.results10,go_sem]
 by_cases a1:6<k
 ·go_wp2;refine bodyPost_ret (v:=.bool true) ?_ rfl ⟨rfl,hb⟩
  simp[results,Tryz.results10,go_sem]
 have hrs:=xtw (k:=k) (by omega)
 go_wp2_with fail;refine (xca _ _ _).mono ?_;rintro e U ⟨rfl,hk⟩;replace hb:=xaf hb hk;clear hk;go_wp2_with fail;refine (xe4 _ _ _).mono ?_;rintro e U ⟨rfl,hk⟩;replace hb:=xaf hb hk;clear hk;go_wp2_with fail;refine (xca _ _ _).mono ?_;rintro e U ⟨rfl,hk⟩;replace hb:=xaf hb hk;clear hk;go_wp2_with fail;refine (xeK _ _ _ _ _ _ _ _ [in_ 1 0,sd dpN 0,in_ 17 0]).mono ?_;rintro e V ⟨rfl,hk⟩;have hG1:=xaa (heap_alloc_new U _) hk;have hg1:=hb.size;replace hb:=xbo hb hk;clear hk;generalize U.heap.size=g1 at *;generalize V=U at *;go_wp2_with fail;refine (xca _ _ _).mono ?_;rintro e U ⟨rfl,hk⟩;replace hb:=xaf hb hk
 replace hG1:=xaa hG1 hk;clear hk;go_wp2_with fail;refine (xeK _ _ _ _ _ _ _ _ [in_ 15 0]).mono ?_;rintro e V ⟨rfl,hk⟩;have hG2:=xaa (heap_alloc_new U _) hk;have hg2:=hb.size;replace hG1:=xaa (xaa hG1 (xai _ _)) hk;replace hb:=xbo hb hk;clear hk;generalize U.heap.size=g2 at *;generalize V=U at *;have hSm:xg2 (fun b=>w.heap.size<=b) (U.alloc (.cells (xdV (xtd (nm [65]) 0 0) (.slice none 0 0) (.slice none 0 0)++xdV (xrb 4 dpN 0 0 [in_ 1 0,sd dpN 0,in_ 17 0]) (.slice (some ⟨g1,0,none⟩) 3 3) (.slice none 0 0)++xdV (xrb 4 tnN 0 0 [in_ 15 0]) (.slice (some ⟨g2,0,none⟩) 1 1) (.slice none 0 0)++xdV (xtb 4) (.slice none 0 0) (.slice none 0 0)).toArray 56)) (.slice (some ⟨U.heap.size,0,none⟩) 4 4) [xtd (nm [65]) 0 0,xrb 4 dpN 0 0 [in_ 1 0,sd dpN 0,in_ 17 0],xrb 4 tnN 0 0 [in_ 15 0],xtb 4]:=Cells.row ((((xcS (xl5 (by decide)) xcB xcB).append xbR (xcS (xl5 (by decide)) (xi4 (xaa hG1 (xai U _)) (code:=[in_ 1 0,sd dpN 0,in_ 17 0]) rfl (by decide) (by decide) hg1) xcB)).append xbR (xcS (xl5 (by decide)) (xi4 (xaa hG2 (xai U _)) (code:=[in_ 15 0]) rfl (by decide) (by decide) hg2) xcB)).append xbR (xcS (xl5 (by decide)) xcB xcB)) xbR hb.size (heap_alloc_new U _) rfl (qzC _) (by unfold maxLen;decide) (by decide)
 replace hb:=xaf hb (xai U (.cells (xdV (xtd (nm [65]) 0 0) (.slice none 0 0) (.slice none 0 0)++xdV (xrb 4 dpN 0 0 [in_ 1 0,sd dpN 0,in_ 17 0]) (.slice (some ⟨g1,0,none⟩) 3 3) (.slice none 0 0)++xdV (xrb 4 tnN 0 0 [in_ 15 0]) (.slice (some ⟨g2,0,none⟩) 1 1) (.slice none 0 0)++xdV (xtb 4) (.slice none 0 0) (.slice none 0 0)).toArray 56));clear hG1 hG2;go_wp2_with fail;refine (xkQ _ _).mono ?_;rintro e V ⟨rfl,hk⟩;replace hSm:=hSm.later xbR hk;replace hb:=xaf hb hk;clear hk;generalize U.heap.size=gs at *;generalize V=U at *;go_wp2_with fail;refine (xgl _ ⟨4,0⟩ _ _ _ _ _ []).mono ?_;rintro e U ⟨rfl,hk⟩
 replace hb:=xaf hb hk;replace hSm:=hSm.later xbR hk;clear hk;go_wp2_with fail;refine (xkQ _ _).mono ?_;rintro e U ⟨rfl,hk⟩;replace hb:=xaf hb hk;replace hSm:=hSm.later xbR hk;clear hk;go_wp2_with fail;refine (xgl _ ⟨4,0⟩ _ _ _ _ _ []).mono ?_;rintro e U ⟨rfl,hk⟩;replace hb:=xaf hb hk;replace hSm:=hSm.later xbR hk;clear hk;have hS2:xg2 (fun b=>w.heap.size<=b) (U.alloc (.cells (xdV (xdj k ⟨4,0⟩ dpN []) (.slice none 0 0) (.slice none 0 0)++xdV (xdj k ⟨4,0⟩ dpN []) (.slice none 0 0) (.slice none 0 0)).toArray 56)) (.slice (some ⟨U.heap.size,0,none⟩) 2 2) [xdj k ⟨4,0⟩ dpN [],xdj k ⟨4,0⟩ dpN []]:=Cells.row ((xcS (xhf (by decide)) xcB xcB).append xbR (xcS (xhf (by decide)) xcB xcB)) xbR hb.size (heap_alloc_new U _) rfl (qzC _) (by unfold maxLen;decide) (by simp)
 replace hSm:=hSm.later xbR (xai U (.cells (xdV (xdj k ⟨4,0⟩ dpN []) (.slice none 0 0) (.slice none 0 0)++xdV (xdj k ⟨4,0⟩ dpN []) (.slice none 0 0) (.slice none 0 0)).toArray 56));replace hb:=xaf hb (xai U (.cells (xdV (xdj k ⟨4,0⟩ dpN []) (.slice none 0 0) (.slice none 0 0)++xdV (xdj k ⟨4,0⟩ dpN []) (.slice none 0 0) (.slice none 0 0)).toArray 56))
 go_wp2_with (at_builtin;refine xts xbR rfl (.tmp 31) (.tmp 40) 22 rfl 56 _ 160 Tryz.underlying22 xrK rfl [xtd (nm [65]) 0 0,xrb 4 dpN 0 0 [in_ 1 0,sd dpN 0,in_ 17 0],xrb 4 tnN 0 0 [in_ 15 0],xtb 4] [xdj k ⟨4,0⟩ dpN [],xdj k ⟨4,0⟩ dpN []] ⟨gs,0,none⟩ ⟨U.heap.size,0,none⟩ 2 rfl hSm rfl hS2 (by simp) (by unfold maxLen;simp) (by simp) ?_;intro gl cl w3 hAll hk)
 replace hb:=xaf hb hk;clear hk hSm hS2
 have hkk:∀ x∈[xtd (nm [65]) 0 0,xrb 4 dpN 0 0 [in_ 1 0,sd dpN 0,in_ 17 0],xrb 4 tnN 0 0 [in_ 15 0],xtb 4]++[xdj k ⟨4,0⟩ dpN [],xdj k ⟨4,0⟩ dpN []],1<=x.kind/\x.kind<=6:=by
  intro x hx;simp only[List.mem_append,List.mem_cons,List.not_mem_nil,or_false] at hx
  rcases hx with (rfl | rfl | rfl | rfl) | rfl | rfl<;>simp[xtd,xrb,xtb,xdj]<;>omega
 refine (xlI ([xtd (nm [65]) 0 0,xrb 4 dpN 0 0 [in_ 1 0,sd dpN 0,in_ 17 0],xrb 4 tnN 0 0 [in_ 15 0],xtb 4]++[xdj k ⟨4,0⟩ dpN [],xdj k ⟨4,0⟩ dpN []]) hkk 6 rfl (by decide) _ _ hAll _ hrs).mono ?_
 rintro e W ⟨b1,b2,b3,b4,n1,j1,n2,j2,n3,j3,n4,j4,ep,g,rfl,hRe,hk⟩;replace hb:=xaf hb hk;have q:=xlM hRe (j:=4) rfl;simp only[Nat.reduceMul,Nat.reduceAdd] at q;obtain⟨q0,q1,q2,q3⟩:=q;have q:=xlM hRe (j:=5) rfl;simp only[Nat.reduceMul,Nat.reduceAdd] at q;obtain⟨q4,q5,q6,q7⟩:=q;clear hRe hk hAll hkk hrs;have hbA:=xai W (.cells #[.slice b1 n1 j1,.slice b2 n2 j2,.int .i64 ep,.slice b3 n3 j3,.slice b4 n4 j4,.slice none 0 0] 31);have hbW:=xaf hb hbA;have hSl:=fun (W':World) (hb:Below (W.alloc (.cells #[.slice b1 n1 j1,.slice b2 n2 j2,.int .i64 ep,.slice b3 n3 j3,.slice b4 n4 j4,.slice none 0 0] 31)).heap.size (W.alloc (.cells #[.slice b1 n1 j1,.slice b2 n2 j2,.int .i64 ep,.slice b3 n3 j3,.slice b4 n4 j4,.slice none 0 0] 31)) W')=>(⟨qzA (xaf hbA hb) q0,qzA (xaf hbA hb) q1,qzA (xaf hbA hb) q2,qzA (xaf hbA hb) q3,qzA (xaf hbA hb) q4,qzA (xaf hbA hb) q5,qzA (xaf hbA hb) q6,qzA (xaf hbA hb) q7⟩:W'.cell? ⟨g,16,none⟩=some (.int .i64 14)/\W'.cell? ⟨g,17,none⟩=some (.int .i64 20)/\W'.cell? ⟨g,18,none⟩=some (.int .i64 0)/\W'.cell? ⟨g,19,none⟩=some (.int .i64 0)/\W'.cell? ⟨g,20,none⟩=some (.int .i64 14)/\W'.cell? ⟨g,21,none⟩=some (.int .i64 20)/\W'.cell? ⟨g,22,none⟩=some (.int .i64 0)/\W'.cell? ⟨g,23,none⟩=some (.int .i64 0))
 clear q0 q1 q2 q3 q4 q5 q6 q7
 go_upto_region 11 with (fail)
 clear hbA hb;generalize W.alloc (.cells #[.slice b1 n1 j1,.slice b2 n2 j2,.int .i64 ep,.slice b3 n3 j3,.slice b4 n4 j4,.slice none 0 0] 31)=W at *;refine xat (S:=fun w'=>w'.cell? ⟨g,16,none⟩=some (.int .i64 14)/\w'.cell? ⟨g,17,none⟩=some (.int .i64 20)/\w'.cell? ⟨g,18,none⟩=some (.int .i64 0)/\w'.cell? ⟨g,19,none⟩=some (.int .i64 0)/\w'.cell? ⟨g,20,none⟩=some (.int .i64 14)/\w'.cell? ⟨g,21,none⟩=some (.int .i64 20)/\w'.cell? ⟨g,22,none⟩=some (.int .i64 0)/\w'.cell? ⟨g,23,none⟩=some (.int .i64 0)) [] (by kernel_rfl) ?_
 have hb:Below W.heap.size W W.drew:=(Below.refl _ W).drew;generalize W.drew=U at *;refine tk 0 (⟨some 48,.move (.tmp 10),33,_,_,none⟩) (.int .i64 0) rfl (hSl _ hb) (fun _ _ _ h=>h) rfl ?_ ?_ ?_
 ·kernel_rfl
 ·intro w hSw;obtain⟨q0,q1,q2,q3,q4,q5,q6,q7⟩:=hSw;go_simp
  all_goals (first | rfl | exact xal (by omega) (by omega))
 try simp only[Act.put,qzF,qzG,qzH]
 refine tk 1 (⟨some 49,.binOp .eql 33 (.tmp 48) (.const (.int .i64 0)) 33,4,_,_,none⟩) (.bool true) rfl (hSl _ hb) (fun _ _ _ h=>h) rfl ?_ ?_ ?_
 ·kernel_rfl
 ·intro w hSw;obtain⟨q0,q1,q2,q3,q4,q5,q6,q7⟩:=hSw;go_simp
  all_goals (first | rfl | exact xal (by omega) (by omega))
 try simp only[Act.put,qzF,qzG,qzH]
 refine tk 2 (⟨some 50,.move (.tmp 49),4,_,_,none⟩) (.bool true) rfl (hSl _ hb) (fun _ _ _ h=>h) rfl ?_ ?_ ?_
 ·kernel_rfl
 ·intro w hSw;obtain⟨q0,q1,q2,q3,q4,q5,q6,q7⟩:=hSw;go_simp
  all_goals (first | rfl | exact xal (by omega) (by omega))
 try simp only[Act.put,qzF,qzG,qzH]
 refine tk 3 (⟨some 51,.move (.tmp 9),32,_,_,some (2,true)⟩) (.slice (some ⟨g,0,none⟩) 6 6) rfl (hSl _ hb) (fun _ _ _ h=>h) rfl ?_ ?_ ?_
 ·kernel_rfl
 ·intro w hSw;obtain⟨q0,q1,q2,q3,q4,q5,q6,q7⟩:=hSw;go_simp
  all_goals (first | rfl | exact xal (by omega) (by omega))
 try simp only[Act.put,qzF,qzG,qzH]
 refine tk 4 (⟨some 52,.call ⟨.builtin .len,#[.tmp 51],#[32]⟩,3,_,_,some (2,true)⟩) (.int .i64 6) rfl (hSl _ hb) (fun _ _ _ h=>h) rfl ?_ ?_ ?_
 ·kernel_rfl
 ·intro w hSw;obtain⟨q0,q1,q2,q3,q4,q5,q6,q7⟩:=hSw;go_simp
  all_goals (first | rfl | exact xal (by omega) (by omega))
 try simp only[Act.put,qzF,qzG,qzH]
 refine tk 5 (⟨some 53,.binOp .eql 3 (.tmp 52) (.const (.int .i64 6)) 3,4,_,_,some (2,true)⟩) (.bool true) rfl (hSl _ hb) (fun _ _ _ h=>h) rfl ?_ ?_ ?_
 ·kernel_rfl
 ·intro w hSw;obtain⟨q0,q1,q2,q3,q4,q5,q6,q7⟩:=hSw;go_simp
  all_goals (first | rfl | exact xal (by omega) (by omega))
 try simp only[Act.put,qzF,qzG,qzH]
 refine tk 6 (⟨some 54,.pick (.tmp 50) (.tmp 53) (.const (.bool false)),4,_,_,none⟩) (.bool true) rfl (hSl _ hb) (fun _ _ _ h=>h) rfl ?_ ?_ ?_
 ·kernel_rfl
 ·intro w hSw;obtain⟨q0,q1,q2,q3,q4,q5,q6,q7⟩:=hSw;go_simp
  all_goals (first | rfl | exact xal (by omega) (by omega))
 try simp only[Act.put,qzF,qzG,qzH]
 refine tk 7 (⟨some 55,.move (.tmp 54),4,_,_,none⟩) (.bool true) rfl (hSl _ hb) (fun _ _ _ h=>h) rfl ?_ ?_ ?_
 ·kernel_rfl
 ·intro w hSw;obtain⟨q0,q1,q2,q3,q4,q5,q6,q7⟩:=hSw;go_simp
  all_goals (first | rfl | exact xal (by omega) (by omega))
 try simp only[Act.put,qzF,qzG,qzH]
 refine tk 8 (⟨some 56,.move (.tmp 9),32,_,_,some (7,true)⟩) (.slice (some ⟨g,0,none⟩) 6 6) rfl (hSl _ hb) (fun _ _ _ h=>h) rfl ?_ ?_ ?_
 ·kernel_rfl
 ·intro w hSw;obtain⟨q0,q1,q2,q3,q4,q5,q6,q7⟩:=hSw;go_simp
  all_goals (first | rfl | exact xal (by omega) (by omega))
 try simp only[Act.put,qzF,qzG,qzH]
 refine tk 9 (⟨some 57,.indexAddr 32 (.tmp 56) (.const (.int .i64 4)),0,_,_,some (7,true)⟩) (.pointer (some ⟨g,16,none⟩)) rfl (hSl _ hb) (fun _ _ _ h=>h) rfl ?_ ?_ ?_
 ·kernel_rfl
 ·intro w hSw;obtain⟨q0,q1,q2,q3,q4,q5,q6,q7⟩:=hSw;go_simp
  all_goals (first | rfl | exact xal (by omega) (by omega))
 try simp only[Act.put,qzF,qzG,qzH]
 refine tk 10 (⟨some 58,.fieldAddr 43 (.tmp 57) 0,0,_,_,some (7,true)⟩) (.pointer (some ⟨g,16,none⟩)) rfl (hSl _ hb) (fun _ _ _ h=>h) rfl ?_ ?_ ?_
 ·kernel_rfl
 ·intro w hSw;obtain⟨q0,q1,q2,q3,q4,q5,q6,q7⟩:=hSw;go_simp
  all_goals (first | rfl | exact xal (by omega) (by omega))
 try simp only[Act.put,qzF,qzG,qzH]
 refine tk 11 (⟨some 59,.load 33 (.tmp 58),33,_,_,some (7,true)⟩) (.int .i64 14) rfl (hSl _ hb) (fun _ _ _ h=>h) rfl ?_ ?_ ?_
 ·kernel_rfl
 ·intro w hSw;obtain⟨q0,q1,q2,q3,q4,q5,q6,q7⟩:=hSw;go_simp
  all_goals (first | rfl | exact xal (by omega) (by omega))
 try simp only[Act.put,qzF,qzG,qzH]
 refine tk 12 (⟨some 60,.move (.tmp 7),33,_,_,some (7,true)⟩) (.int .i64 14) rfl (hSl _ hb) (fun _ _ _ h=>h) rfl ?_ ?_ ?_
 ·kernel_rfl
 ·intro w hSw;obtain⟨q0,q1,q2,q3,q4,q5,q6,q7⟩:=hSw;go_simp
  all_goals (first | rfl | exact xal (by omega) (by omega))
 try simp only[Act.put,qzF,qzG,qzH]
 refine tk 13 (⟨some 61,.binOp .eql 33 (.tmp 59) (.tmp 60) 33,4,_,_,some (7,true)⟩) (.bool true) rfl (hSl _ hb) (fun _ _ _ h=>h) rfl ?_ ?_ ?_
 ·kernel_rfl
 ·intro w hSw;obtain⟨q0,q1,q2,q3,q4,q5,q6,q7⟩:=hSw;go_simp
  all_goals (first | rfl | exact xal (by omega) (by omega))
 try simp only[Act.put,qzF,qzG,qzH]
 refine tk 14 (⟨some 62,.pick (.tmp 55) (.tmp 61) (.const (.bool false)),4,_,_,none⟩) (.bool true) rfl (hSl _ hb) (fun _ _ _ h=>h) rfl ?_ ?_ ?_
 ·kernel_rfl
 ·intro w hSw;obtain⟨q0,q1,q2,q3,q4,q5,q6,q7⟩:=hSw;go_simp
  all_goals (first | rfl | exact xal (by omega) (by omega))
 try simp only[Act.put,qzF,qzG,qzH]
 refine tk 15 (⟨some 63,.move (.tmp 62),4,_,_,none⟩) (.bool true) rfl (hSl _ hb) (fun _ _ _ h=>h) rfl ?_ ?_ ?_
 ·kernel_rfl
 ·intro w hSw;obtain⟨q0,q1,q2,q3,q4,q5,q6,q7⟩:=hSw;go_simp
  all_goals (first | rfl | exact xal (by omega) (by omega))
 try simp only[Act.put,qzF,qzG,qzH]
 refine tk 16 (⟨some 64,.move (.tmp 9),32,_,_,some (15,true)⟩) (.slice (some ⟨g,0,none⟩) 6 6) rfl (hSl _ hb) (fun _ _ _ h=>h) rfl ?_ ?_ ?_
 ·kernel_rfl
 ·intro w hSw;obtain⟨q0,q1,q2,q3,q4,q5,q6,q7⟩:=hSw;go_simp
  all_goals (first | rfl | exact xal (by omega) (by omega))
 try simp only[Act.put,qzF,qzG,qzH]
 refine tk 17 (⟨some 65,.indexAddr 32 (.tmp 64) (.const (.int .i64 5)),0,_,_,some (15,true)⟩) (.pointer (some ⟨g,20,none⟩)) rfl (hSl _ hb) (fun _ _ _ h=>h) rfl ?_ ?_ ?_
 ·kernel_rfl
 ·intro w hSw;obtain⟨q0,q1,q2,q3,q4,q5,q6,q7⟩:=hSw;go_simp
  all_goals (first | rfl | exact xal (by omega) (by omega))
 try simp only[Act.put,qzF,qzG,qzH]
 refine tk 18 (⟨some 66,.load 43 (.tmp 65),43,_,_,some (15,true)⟩) (ReV ⟨14,20,xa4⟩) rfl (hSl _ hb) (fun _ _ _ h=>h) rfl ?_ ?_ ?_
 ·kernel_rfl
 ·intro w hSw;obtain⟨q0,q1,q2,q3,q4,q5,q6,q7⟩:=hSw;go_simp
  all_goals (first | rfl | exact xal (by omega) (by omega))
 try simp only[Act.put,qzF,qzG,qzH]
 refine tk 19 (⟨some 67,.move (.tmp 9),32,_,_,some (15,true)⟩) (.slice (some ⟨g,0,none⟩) 6 6) rfl (hSl _ hb) (fun _ _ _ h=>h) rfl ?_ ?_ ?_
 ·kernel_rfl
 ·intro w hSw;obtain⟨q0,q1,q2,q3,q4,q5,q6,q7⟩:=hSw;go_simp
  all_goals (first | rfl | exact xal (by omega) (by omega))
 try simp only[Act.put,qzF,qzG,qzH]
 refine tk 20 (⟨some 68,.indexAddr 32 (.tmp 67) (.const (.int .i64 4)),0,_,_,some (15,true)⟩) (.pointer (some ⟨g,16,none⟩)) rfl (hSl _ hb) (fun _ _ _ h=>h) rfl ?_ ?_ ?_
 ·kernel_rfl
 ·intro w hSw;obtain⟨q0,q1,q2,q3,q4,q5,q6,q7⟩:=hSw;go_simp
  all_goals (first | rfl | exact xal (by omega) (by omega))
 try simp only[Act.put,qzF,qzG,qzH]
 refine tk 21 (⟨some 69,.load 43 (.tmp 68),43,_,_,some (15,true)⟩) (ReV ⟨14,20,xa4⟩) rfl (hSl _ hb) (fun _ _ _ h=>h) rfl ?_ ?_ ?_
 ·kernel_rfl
 ·intro w hSw;obtain⟨q0,q1,q2,q3,q4,q5,q6,q7⟩:=hSw;go_simp
  all_goals (first | rfl | exact xal (by omega) (by omega))
 try simp only[Act.put,qzF,qzG,qzH]
 refine tk 22 (⟨some 70,.binOp .eql 43 (.tmp 66) (.tmp 69) 43,4,_,_,some (15,true)⟩) (.bool true) rfl (hSl _ hb) (fun _ _ _ h=>h) rfl ?_ ?_ ?_
 ·kernel_rfl
 ·intro w hSw;obtain⟨q0,q1,q2,q3,q4,q5,q6,q7⟩:=hSw;go_simp
  all_goals (first | rfl | exact xal (by omega) (by omega))
 try simp only[Act.put,qzF,qzG,qzH]
 refine tk 23 (⟨some 71,.pick (.tmp 63) (.tmp 70) (.const (.bool false)),4,_,_,none⟩) (.bool true) rfl (hSl _ hb) (fun _ _ _ h=>h) rfl ?_ ?_ ?_
 ·kernel_rfl
 ·intro w hSw;obtain⟨q0,q1,q2,q3,q4,q5,q6,q7⟩:=hSw;go_simp
  all_goals (first | rfl | exact xal (by omega) (by omega))
 try simp only[Act.put,qzF,qzG,qzH]
 refine tk 24 (⟨some 4,.assign (.tmp 71),4,_,_,none⟩) (.bool true) rfl (hSl _ hb) (fun _ _ _ h=>h) rfl ?_ ?_ ?_
 ·kernel_rfl
 ·intro w hSw;obtain⟨q0,q1,q2,q3,q4,q5,q6,q7⟩:=hSw;go_simp
  all_goals (first | rfl | exact xal (by omega) (by omega))
 try simp only[Act.put,qzF,qzG,qzH]
 refine xaE ?_ ?_ _
 ·kernel_rfl
 try simp only[Act.put,qzF,qzG,qzH]
 go_wp2;refine bodyPost_ret (v:=.bool true) ?_ rfl ⟨rfl,xaf hbW hb⟩
 simp[results,Tryz.results10,go_sem]
theorem xtx {k:Int}(h:k=4\/k=5\/k=6):xaW xcU ([xtd (nm [65]) 0 0,xrb 4 dpN 0 0 [in_ 1 0,sd dpN 0,in_ 17 0],xrb 4 tnN 0 0 [in_ 15 0],xtb 4]++[xdj k ⟨4,0⟩ tnN [],xdj k ⟨4,0⟩ tnN []])=[⟨0,4,xa4⟩,⟨0,0,xa4⟩,⟨0,0,xa4⟩,⟨0,0,⟨4,0⟩⟩,⟨16,1,xa4⟩,⟨16,1,xa4⟩]:=by
 rcases h with rfl | rfl | rfl<;>kernel_rfl
theorem xtu (k:Int)(w:World):Calls Tryz.prog 10 #[.int .i64 k,.bool true] w fun e w'=>e=.returned (.bool true)/\Below w.heap.size w w':=by
 have hal:=fun w'=>xoa w'
 go_enter Tryz.func10,Tryz.ntmps10;go_wp2_with fail;refine (hal _).mono ?_;rintro e U ⟨rfl,hb⟩;clear hal
 go_upto_region 3 with (fail)
 by_cases a0:k<4
 ·go_wp2;refine bodyPost_ret (v:=.bool true) ?_ rfl ⟨rfl,hb⟩
  simp[results,Tryz.results10,go_sem]
 by_cases a1:6<k
 ·go_wp2;refine bodyPost_ret (v:=.bool true) ?_ rfl ⟨rfl,hb⟩
  simp[results,Tryz.results10,go_sem]
 have hrs:=xtx (k:=k) (by omega)
 go_wp2_with fail;refine (xca _ _ _).mono ?_;rintro e U ⟨rfl,hk⟩;replace hb:=xaf hb hk;clear hk;go_wp2_with fail;refine (xe4 _ _ _).mono ?_;rintro e U ⟨rfl,hk⟩;replace hb:=xaf hb hk;clear hk;go_wp2_with fail;refine (xca _ _ _).mono ?_;rintro e U ⟨rfl,hk⟩;replace hb:=xaf hb hk;clear hk;go_wp2_with fail;refine (xeK _ _ _ _ _ _ _ _ [in_ 1 0,sd dpN 0,in_ 17 0]).mono ?_;rintro e V ⟨rfl,hk⟩;have hG1:=xaa (heap_alloc_new U _) hk;have hg1:=hb.size;replace hb:=xbo hb hk;clear hk;generalize U.heap.size=g1 at *;generalize V=U at *;go_wp2_with fail;refine (xca _ _ _).mono ?_;rintro e U ⟨rfl,hk⟩;replace hb:=xaf hb hk
 replace hG1:=xaa hG1 hk;clear hk;go_wp2_with fail;refine (xeK _ _ _ _ _ _ _ _ [in_ 15 0]).mono ?_;rintro e V ⟨rfl,hk⟩;have hG2:=xaa (heap_alloc_new U _) hk;have hg2:=hb.size;replace hG1:=xaa (xaa hG1 (xai _ _)) hk;replace hb:=xbo hb hk;clear hk;generalize U.heap.size=g2 at *;generalize V=U at *;have hSm:xg2 (fun b=>w.heap.size<=b) (U.alloc (.cells (xdV (xtd (nm [65]) 0 0) (.slice none 0 0) (.slice none 0 0)++xdV (xrb 4 dpN 0 0 [in_ 1 0,sd dpN 0,in_ 17 0]) (.slice (some ⟨g1,0,none⟩) 3 3) (.slice none 0 0)++xdV (xrb 4 tnN 0 0 [in_ 15 0]) (.slice (some ⟨g2,0,none⟩) 1 1) (.slice none 0 0)++xdV (xtb 4) (.slice none 0 0) (.slice none 0 0)).toArray 56)) (.slice (some ⟨U.heap.size,0,none⟩) 4 4) [xtd (nm [65]) 0 0,xrb 4 dpN 0 0 [in_ 1 0,sd dpN 0,in_ 17 0],xrb 4 tnN 0 0 [in_ 15 0],xtb 4]:=Cells.row ((((xcS (xl5 (by decide)) xcB xcB).append xbR (xcS (xl5 (by decide)) (xi4 (xaa hG1 (xai U _)) (code:=[in_ 1 0,sd dpN 0,in_ 17 0]) rfl (by decide) (by decide) hg1) xcB)).append xbR (xcS (xl5 (by decide)) (xi4 (xaa hG2 (xai U _)) (code:=[in_ 15 0]) rfl (by decide) (by decide) hg2) xcB)).append xbR (xcS (xl5 (by decide)) xcB xcB)) xbR hb.size (heap_alloc_new U _) rfl (qzC _) (by unfold maxLen;decide) (by decide)
 replace hb:=xaf hb (xai U (.cells (xdV (xtd (nm [65]) 0 0) (.slice none 0 0) (.slice none 0 0)++xdV (xrb 4 dpN 0 0 [in_ 1 0,sd dpN 0,in_ 17 0]) (.slice (some ⟨g1,0,none⟩) 3 3) (.slice none 0 0)++xdV (xrb 4 tnN 0 0 [in_ 15 0]) (.slice (some ⟨g2,0,none⟩) 1 1) (.slice none 0 0)++xdV (xtb 4) (.slice none 0 0) (.slice none 0 0)).toArray 56));clear hG1 hG2;go_wp2_with fail;refine (xkQ _ _).mono ?_;rintro e V ⟨rfl,hk⟩;replace hSm:=hSm.later xbR hk;replace hb:=xaf hb hk;clear hk;generalize U.heap.size=gs at *;generalize V=U at *;go_wp2_with fail;refine (xgl _ ⟨4,0⟩ _ _ _ _ _ []).mono ?_;rintro e U ⟨rfl,hk⟩
 replace hb:=xaf hb hk;replace hSm:=hSm.later xbR hk;clear hk;go_wp2_with fail;refine (xkQ _ _).mono ?_;rintro e U ⟨rfl,hk⟩;replace hb:=xaf hb hk;replace hSm:=hSm.later xbR hk;clear hk;go_wp2_with fail;refine (xgl _ ⟨4,0⟩ _ _ _ _ _ []).mono ?_;rintro e U ⟨rfl,hk⟩;replace hb:=xaf hb hk;replace hSm:=hSm.later xbR hk;clear hk;have hS2:xg2 (fun b=>w.heap.size<=b) (U.alloc (.cells (xdV (xdj k ⟨4,0⟩ tnN []) (.slice none 0 0) (.slice none 0 0)++xdV (xdj k ⟨4,0⟩ tnN []) (.slice none 0 0) (.slice none 0 0)).toArray 56)) (.slice (some ⟨U.heap.size,0,none⟩) 2 2) [xdj k ⟨4,0⟩ tnN [],xdj k ⟨4,0⟩ tnN []]:=Cells.row ((xcS (xhf (by decide)) xcB xcB).append xbR (xcS (xhf (by decide)) xcB xcB)) xbR hb.size (heap_alloc_new U _) rfl (qzC _) (by unfold maxLen;decide) (by simp)
 replace hSm:=hSm.later xbR (xai U (.cells (xdV (xdj k ⟨4,0⟩ tnN []) (.slice none 0 0) (.slice none 0 0)++xdV (xdj k ⟨4,0⟩ tnN []) (.slice none 0 0) (.slice none 0 0)).toArray 56));replace hb:=xaf hb (xai U (.cells (xdV (xdj k ⟨4,0⟩ tnN []) (.slice none 0 0) (.slice none 0 0)++xdV (xdj k ⟨4,0⟩ tnN []) (.slice none 0 0) (.slice none 0 0)).toArray 56))
 go_wp2_with (at_builtin;refine xts xbR rfl (.tmp 31) (.tmp 40) 22 rfl 56 _ 160 Tryz.underlying22 xrK rfl [xtd (nm [65]) 0 0,xrb 4 dpN 0 0 [in_ 1 0,sd dpN 0,in_ 17 0],xrb 4 tnN 0 0 [in_ 15 0],xtb 4] [xdj k ⟨4,0⟩ tnN [],xdj k ⟨4,0⟩ tnN []] ⟨gs,0,none⟩ ⟨U.heap.size,0,none⟩ 2 rfl hSm rfl hS2 (by simp) (by unfold maxLen;simp) (by simp) ?_;intro gl cl w3 hAll hk)
 replace hb:=xaf hb hk;clear hk hSm hS2
 have hkk:∀ x∈[xtd (nm [65]) 0 0,xrb 4 dpN 0 0 [in_ 1 0,sd dpN 0,in_ 17 0],xrb 4 tnN 0 0 [in_ 15 0],xtb 4]++[xdj k ⟨4,0⟩ tnN [],xdj k ⟨4,0⟩ tnN []],1<=x.kind/\x.kind<=6:=by
  intro x hx;simp only[List.mem_append,List.mem_cons,List.not_mem_nil,or_false] at hx
  rcases hx with (rfl | rfl | rfl | rfl) | rfl | rfl<;>simp[xtd,xrb,xtb,xdj]<;>omega
 refine (xlI ([xtd (nm [65]) 0 0,xrb 4 dpN 0 0 [in_ 1 0,sd dpN 0,in_ 17 0],xrb 4 tnN 0 0 [in_ 15 0],xtb 4]++[xdj k ⟨4,0⟩ tnN [],xdj k ⟨4,0⟩ tnN []]) hkk 6 rfl (by decide) _ _ hAll _ hrs).mono ?_
 rintro e W ⟨b1,b2,b3,b4,n1,j1,n2,j2,n3,j3,n4,j4,ep,g,rfl,hRe,hk⟩;replace hb:=xaf hb hk;have q:=xlM hRe (j:=4) rfl;simp only[Nat.reduceMul,Nat.reduceAdd] at q;obtain⟨q0,q1,q2,q3⟩:=q;have q:=xlM hRe (j:=5) rfl;simp only[Nat.reduceMul,Nat.reduceAdd] at q;obtain⟨q4,q5,q6,q7⟩:=q;clear hRe hk hAll hkk hrs;have hbA:=xai W (.cells #[.slice b1 n1 j1,.slice b2 n2 j2,.int .i64 ep,.slice b3 n3 j3,.slice b4 n4 j4,.slice none 0 0] 31);have hbW:=xaf hb hbA;have hSl:=fun (W':World) (hb:Below (W.alloc (.cells #[.slice b1 n1 j1,.slice b2 n2 j2,.int .i64 ep,.slice b3 n3 j3,.slice b4 n4 j4,.slice none 0 0] 31)).heap.size (W.alloc (.cells #[.slice b1 n1 j1,.slice b2 n2 j2,.int .i64 ep,.slice b3 n3 j3,.slice b4 n4 j4,.slice none 0 0] 31)) W')=>(⟨qzA (xaf hbA hb) q0,qzA (xaf hbA hb) q1,qzA (xaf hbA hb) q2,qzA (xaf hbA hb) q3,qzA (xaf hbA hb) q4,qzA (xaf hbA hb) q5,qzA (xaf hbA hb) q6,qzA (xaf hbA hb) q7⟩:W'.cell? ⟨g,16,none⟩=some (.int .i64 16)/\W'.cell? ⟨g,17,none⟩=some (.int .i64 1)/\W'.cell? ⟨g,18,none⟩=some (.int .i64 0)/\W'.cell? ⟨g,19,none⟩=some (.int .i64 0)/\W'.cell? ⟨g,20,none⟩=some (.int .i64 16)/\W'.cell? ⟨g,21,none⟩=some (.int .i64 1)/\W'.cell? ⟨g,22,none⟩=some (.int .i64 0)/\W'.cell? ⟨g,23,none⟩=some (.int .i64 0))
 clear q0 q1 q2 q3 q4 q5 q6 q7
 go_upto_region 11 with (fail)
 clear hbA hb;generalize W.alloc (.cells #[.slice b1 n1 j1,.slice b2 n2 j2,.int .i64 ep,.slice b3 n3 j3,.slice b4 n4 j4,.slice none 0 0] 31)=W at *;refine xat (S:=fun w'=>w'.cell? ⟨g,16,none⟩=some (.int .i64 16)/\w'.cell? ⟨g,17,none⟩=some (.int .i64 1)/\w'.cell? ⟨g,18,none⟩=some (.int .i64 0)/\w'.cell? ⟨g,19,none⟩=some (.int .i64 0)/\w'.cell? ⟨g,20,none⟩=some (.int .i64 16)/\w'.cell? ⟨g,21,none⟩=some (.int .i64 1)/\w'.cell? ⟨g,22,none⟩=some (.int .i64 0)/\w'.cell? ⟨g,23,none⟩=some (.int .i64 0)) [] (by kernel_rfl) ?_
 have hb:Below W.heap.size W W.drew:=(Below.refl _ W).drew;generalize W.drew=U at *;refine tk 0 (⟨some 48,.move (.tmp 10),33,_,_,none⟩) (.int .i64 0) rfl (hSl _ hb) (fun _ _ _ h=>h) rfl ?_ ?_ ?_
 ·kernel_rfl
 ·intro w hSw;obtain⟨q0,q1,q2,q3,q4,q5,q6,q7⟩:=hSw;go_simp
  all_goals (first | rfl | exact xal (by omega) (by omega))
 try simp only[Act.put,qzF,qzG,qzH]
 refine tk 1 (⟨some 49,.binOp .eql 33 (.tmp 48) (.const (.int .i64 0)) 33,4,_,_,none⟩) (.bool true) rfl (hSl _ hb) (fun _ _ _ h=>h) rfl ?_ ?_ ?_
 ·kernel_rfl
 ·intro w hSw;obtain⟨q0,q1,q2,q3,q4,q5,q6,q7⟩:=hSw;go_simp
  all_goals (first | rfl | exact xal (by omega) (by omega))
 try simp only[Act.put,qzF,qzG,qzH]
 refine tk 2 (⟨some 50,.move (.tmp 49),4,_,_,none⟩) (.bool true) rfl (hSl _ hb) (fun _ _ _ h=>h) rfl ?_ ?_ ?_
 ·kernel_rfl
 ·intro w hSw;obtain⟨q0,q1,q2,q3,q4,q5,q6,q7⟩:=hSw;go_simp
  all_goals (first | rfl | exact xal (by omega) (by omega))
 try simp only[Act.put,qzF,qzG,qzH]
 refine tk 3 (⟨some 51,.move (.tmp 9),32,_,_,some (2,true)⟩) (.slice (some ⟨g,0,none⟩) 6 6) rfl (hSl _ hb) (fun _ _ _ h=>h) rfl ?_ ?_ ?_
 ·kernel_rfl
 ·intro w hSw;obtain⟨q0,q1,q2,q3,q4,q5,q6,q7⟩:=hSw;go_simp
  all_goals (first | rfl | exact xal (by omega) (by omega))
 try simp only[Act.put,qzF,qzG,qzH]
 refine tk 4 (⟨some 52,.call ⟨.builtin .len,#[.tmp 51],#[32]⟩,3,_,_,some (2,true)⟩) (.int .i64 6) rfl (hSl _ hb) (fun _ _ _ h=>h) rfl ?_ ?_ ?_
 ·kernel_rfl
 ·intro w hSw;obtain⟨q0,q1,q2,q3,q4,q5,q6,q7⟩:=hSw;go_simp
  all_goals (first | rfl | exact xal (by omega) (by omega))
 try simp only[Act.put,qzF,qzG,qzH]
 refine tk 5 (⟨some 53,.binOp .eql 3 (.tmp 52) (.const (.int .i64 6)) 3,4,_,_,some (2,true)⟩) (.bool true) rfl (hSl _ hb) (fun _ _ _ h=>h) rfl ?_ ?_ ?_
 ·kernel_rfl
 ·intro w hSw;obtain⟨q0,q1,q2,q3,q4,q5,q6,q7⟩:=hSw;go_simp
  all_goals (first | rfl | exact xal (by omega) (by omega))
 try simp only[Act.put,qzF,qzG,qzH]
 refine tk 6 (⟨some 54,.pick (.tmp 50) (.tmp 53) (.const (.bool false)),4,_,_,none⟩) (.bool true) rfl (hSl _ hb) (fun _ _ _ h=>h) rfl ?_ ?_ ?_
 ·kernel_rfl
 ·intro w hSw;obtain⟨q0,q1,q2,q3,q4,q5,q6,q7⟩:=hSw;go_simp
  all_goals (first | rfl | exact xal (by omega) (by omega))
 try simp only[Act.put,qzF,qzG,qzH]
 refine tk 7 (⟨some 55,.move (.tmp 54),4,_,_,none⟩) (.bool true) rfl (hSl _ hb) (fun _ _ _ h=>h) rfl ?_ ?_ ?_
 ·kernel_rfl
 ·intro w hSw;obtain⟨q0,q1,q2,q3,q4,q5,q6,q7⟩:=hSw;go_simp
  all_goals (first | rfl | exact xal (by omega) (by omega))
 try simp only[Act.put,qzF,qzG,qzH]
 refine tk 8 (⟨some 56,.move (.tmp 9),32,_,_,some (7,true)⟩) (.slice (some ⟨g,0,none⟩) 6 6) rfl (hSl _ hb) (fun _ _ _ h=>h) rfl ?_ ?_ ?_
 ·kernel_rfl
 ·intro w hSw;obtain⟨q0,q1,q2,q3,q4,q5,q6,q7⟩:=hSw;go_simp
  all_goals (first | rfl | exact xal (by omega) (by omega))
 try simp only[Act.put,qzF,qzG,qzH]
 refine tk 9 (⟨some 57,.indexAddr 32 (.tmp 56) (.const (.int .i64 4)),0,_,_,some (7,true)⟩) (.pointer (some ⟨g,16,none⟩)) rfl (hSl _ hb) (fun _ _ _ h=>h) rfl ?_ ?_ ?_
 ·kernel_rfl
 ·intro w hSw;obtain⟨q0,q1,q2,q3,q4,q5,q6,q7⟩:=hSw;go_simp
  all_goals (first | rfl | exact xal (by omega) (by omega))
 try simp only[Act.put,qzF,qzG,qzH]
 refine tk 10 (⟨some 58,.fieldAddr 43 (.tmp 57) 0,0,_,_,some (7,true)⟩) (.pointer (some ⟨g,16,none⟩)) rfl (hSl _ hb) (fun _ _ _ h=>h) rfl ?_ ?_ ?_
 ·kernel_rfl
 ·intro w hSw;obtain⟨q0,q1,q2,q3,q4,q5,q6,q7⟩:=hSw;go_simp
  all_goals (first | rfl | exact xal (by omega) (by omega))
 try simp only[Act.put,qzF,qzG,qzH]
 refine tk 11 (⟨some 59,.load 33 (.tmp 58),33,_,_,some (7,true)⟩) (.int .i64 16) rfl (hSl _ hb) (fun _ _ _ h=>h) rfl ?_ ?_ ?_
 ·kernel_rfl
 ·intro w hSw;obtain⟨q0,q1,q2,q3,q4,q5,q6,q7⟩:=hSw;go_simp
  all_goals (first | rfl | exact xal (by omega) (by omega))
 try simp only[Act.put,qzF,qzG,qzH]
 refine tk 12 (⟨some 60,.move (.tmp 7),33,_,_,some (7,true)⟩) (.int .i64 16) rfl (hSl _ hb) (fun _ _ _ h=>h) rfl ?_ ?_ ?_
 ·kernel_rfl
 ·intro w hSw;obtain⟨q0,q1,q2,q3,q4,q5,q6,q7⟩:=hSw;go_simp
  all_goals (first | rfl | exact xal (by omega) (by omega))
 try simp only[Act.put,qzF,qzG,qzH]
 refine tk 13 (⟨some 61,.binOp .eql 33 (.tmp 59) (.tmp 60) 33,4,_,_,some (7,true)⟩) (.bool true) rfl (hSl _ hb) (fun _ _ _ h=>h) rfl ?_ ?_ ?_
 ·kernel_rfl
 ·intro w hSw;obtain⟨q0,q1,q2,q3,q4,q5,q6,q7⟩:=hSw;go_simp
  all_goals (first | rfl | exact xal (by omega) (by omega))
 try simp only[Act.put,qzF,qzG,qzH]
 refine tk 14 (⟨some 62,.pick (.tmp 55) (.tmp 61) (.const (.bool false)),4,_,_,none⟩) (.bool true) rfl (hSl _ hb) (fun _ _ _ h=>h) rfl ?_ ?_ ?_
 ·kernel_rfl
 ·intro w hSw;obtain⟨q0,q1,q2,q3,q4,q5,q6,q7⟩:=hSw;go_simp
  all_goals (first | rfl | exact xal (by omega) (by omega))
 try simp only[Act.put,qzF,qzG,qzH]
 refine tk 15 (⟨some 63,.move (.tmp 62),4,_,_,none⟩) (.bool true) rfl (hSl _ hb) (fun _ _ _ h=>h) rfl ?_ ?_ ?_
 ·kernel_rfl
 ·intro w hSw;obtain⟨q0,q1,q2,q3,q4,q5,q6,q7⟩:=hSw;go_simp
  all_goals (first | rfl | exact xal (by omega) (by omega))
 try simp only[Act.put,qzF,qzG,qzH]
 refine tk 16 (⟨some 64,.move (.tmp 9),32,_,_,some (15,true)⟩) (.slice (some ⟨g,0,none⟩) 6 6) rfl (hSl _ hb) (fun _ _ _ h=>h) rfl ?_ ?_ ?_
 ·kernel_rfl
 ·intro w hSw;obtain⟨q0,q1,q2,q3,q4,q5,q6,q7⟩:=hSw;go_simp
  all_goals (first | rfl | exact xal (by omega) (by omega))
 try simp only[Act.put,qzF,qzG,qzH]
 refine tk 17 (⟨some 65,.indexAddr 32 (.tmp 64) (.const (.int .i64 5)),0,_,_,some (15,true)⟩) (.pointer (some ⟨g,20,none⟩)) rfl (hSl _ hb) (fun _ _ _ h=>h) rfl ?_ ?_ ?_
 ·kernel_rfl
 ·intro w hSw;obtain⟨q0,q1,q2,q3,q4,q5,q6,q7⟩:=hSw;go_simp
  all_goals (first | rfl | exact xal (by omega) (by omega))
 try simp only[Act.put,qzF,qzG,qzH]
 refine tk 18 (⟨some 66,.load 43 (.tmp 65),43,_,_,some (15,true)⟩) (ReV ⟨16,1,xa4⟩) rfl (hSl _ hb) (fun _ _ _ h=>h) rfl ?_ ?_ ?_
 ·kernel_rfl
 ·intro w hSw;obtain⟨q0,q1,q2,q3,q4,q5,q6,q7⟩:=hSw;go_simp
  all_goals (first | rfl | exact xal (by omega) (by omega))
 try simp only[Act.put,qzF,qzG,qzH]
 refine tk 19 (⟨some 67,.move (.tmp 9),32,_,_,some (15,true)⟩) (.slice (some ⟨g,0,none⟩) 6 6) rfl (hSl _ hb) (fun _ _ _ h=>h) rfl ?_ ?_ ?_
 ·kernel_rfl
 ·intro w hSw;obtain⟨q0,q1,q2,q3,q4,q5,q6,q7⟩:=hSw;go_simp
  all_goals (first | rfl | exact xal (by omega) (by omega))
 try simp only[Act.put,qzF,qzG,qzH]
 refine tk 20 (⟨some 68,.indexAddr 32 (.tmp 67) (.const (.int .i64 4)),0,_,_,some (15,true)⟩) (.pointer (some ⟨g,16,none⟩)) rfl (hSl _ hb) (fun _ _ _ h=>h) rfl ?_ ?_ ?_
 ·kernel_rfl
 ·intro w hSw;obtain⟨q0,q1,q2,q3,q4,q5,q6,q7⟩:=hSw;go_simp
  all_goals (first | rfl | exact xal (by omega) (by omega))
 try simp only[Act.put,qzF,qzG,qzH]
 refine tk 21 (⟨some 69,.load 43 (.tmp 68),43,_,_,some (15,true)⟩) (ReV ⟨16,1,xa4⟩) rfl (hSl _ hb) (fun _ _ _ h=>h) rfl ?_ ?_ ?_
 ·kernel_rfl
 ·intro w hSw;obtain⟨q0,q1,q2,q3,q4,q5,q6,q7⟩:=hSw;go_simp
  all_goals (first | rfl | exact xal (by omega) (by omega))
 try simp only[Act.put,qzF,qzG,qzH]
 refine tk 22 (⟨some 70,.binOp .eql 43 (.tmp 66) (.tmp 69) 43,4,_,_,some (15,true)⟩) (.bool true) rfl (hSl _ hb) (fun _ _ _ h=>h) rfl ?_ ?_ ?_
 ·kernel_rfl
 ·intro w hSw;obtain⟨q0,q1,q2,q3,q4,q5,q6,q7⟩:=hSw;go_simp
  all_goals (first | rfl | exact xal (by omega) (by omega))
 try simp only[Act.put,qzF,qzG,qzH]
 refine tk 23 (⟨some 71,.pick (.tmp 63) (.tmp 70) (.const (.bool false)),4,_,_,none⟩) (.bool true) rfl (hSl _ hb) (fun _ _ _ h=>h) rfl ?_ ?_ ?_
 ·kernel_rfl
 ·intro w hSw;obtain⟨q0,q1,q2,q3,q4,q5,q6,q7⟩:=hSw;go_simp
  all_goals (first | rfl | exact xal (by omega) (by omega))
 try simp only[Act.put,qzF,qzG,qzH]
 refine tk 24 (⟨some 4,.assign (.tmp 71),4,_,_,none⟩) (.bool true) rfl (hSl _ hb) (fun _ _ _ h=>h) rfl ?_ ?_ ?_
 ·kernel_rfl
 ·intro w hSw;obtain⟨q0,q1,q2,q3,q4,q5,q6,q7⟩:=hSw;go_simp
  all_goals (first | rfl | exact xal (by omega) (by omega))
 try simp only[Act.put,qzF,qzG,qzH]
 refine xaE ?_ ?_ _
 ·kernel_rfl
 try simp only[Act.put,qzF,qzG,qzH]
 go_wp2;refine bodyPost_ret (v:=.bool true) ?_ rfl ⟨rfl,xaf hbW hb⟩
 simp[results,Tryz.results10,go_sem]
theorem xtt (k:Int)(b:Bool)(w:World):Calls Tryz.prog 10 #[.int .i64 k,.bool b] w fun e w'=>e=.returned (.bool true)/\Below w.heap.size w w':=by
 cases b
 ·exact xtv k w
 ·exact xtu k w
end Go.Proofs.YtbafokihegegiaaGreatDoor
