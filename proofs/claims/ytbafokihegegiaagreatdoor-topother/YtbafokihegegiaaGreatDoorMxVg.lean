/- A part. -/
import Derived.Test.YtbafokihegegiaaGreatDoorMxVf
namespace Go.Proofs.YtbafokihegegiaaGreatDoor
open Go.ChangeShapes Go.WideShapes Go.ChangeAt Go.RowKit
set_option linter.unusedSimpArgs false
set_option linter.unusedVariables false
set_option maxHeartbeats 8000000
set_option maxRecDepth 100000
theorem xs8 (n m t:Int)(w:World):Calls Tryz.prog 9 #[.int .i64 n,.int .i64 m,.int .i64 t] w fun e w'=>e=.returned (.bool true)/\Below w.heap.size w w':=by
 have hal:=fun w'=>xoa w'
 have hsm:=fun w'=>xqA w'
 go_enter Tryz.func9,Tryz.ntmps9;go_wp2_with fail;refine (hal _).mono ?_;rintro e U ⟨rfl,hb⟩;clear hal
 go_upto_region 3 with (fail)
 by_cases a0:n < -1000
 ·go_wp2;refine bodyPost_ret (v:=.bool true) ?_ rfl ⟨rfl,hb⟩
  simp[results,Tryz.results9,go_sem]
 by_cases a1:1000<n
 ·go_wp2;refine bodyPost_ret (v:=.bool true) ?_ rfl ⟨rfl,hb⟩
  simp[results,Tryz.results9,go_sem]
 by_cases a2:m < -1000
 ·go_wp2;refine bodyPost_ret (v:=.bool true) ?_ rfl ⟨rfl,hb⟩
  simp[results,Tryz.results9,go_sem]
 by_cases a3:1000<m
 ·go_wp2;refine bodyPost_ret (v:=.bool true) ?_ rfl ⟨rfl,hb⟩
  simp[results,Tryz.results9,go_sem]
 by_cases a4:t<0
 ·go_wp2;refine bodyPost_ret (v:=.bool true) ?_ rfl ⟨rfl,hb⟩
  simp[results,Tryz.results9,go_sem]
 by_cases a5:60<t
 ·go_wp2;refine bodyPost_ret (v:=.bool true) ?_ rfl ⟨rfl,hb⟩
  simp[results,Tryz.results9,go_sem]
 have hrs:=xte (n:=n) (m:=m) (t:=t) (by omega) (by omega) (by omega) (by omega) (by omega) (by omega)
 obtain⟨m0,m1⟩:=xnm (n:=n) (t:=t) (by omega) (by omega) (by omega) (by omega)
 obtain⟨m2,m3⟩:=xnm (n:=m) (t:=t) (by omega) (by omega) (by omega) (by omega)
 go_wp2_with fail;refine (hsm _).mono ?_;rintro e U ⟨gs,rfl,hSm,hk⟩;have hgs:=hb.size;replace hSm:=hSm.mono xbR fun b h=>qzD hgs h
 replace hb:=xaf hb hk;clear hk hsm hgs;go_wp2_with fail;refine (xca _ _ _).mono ?_;rintro e U ⟨rfl,hk⟩;replace hb:=xaf hb hk;replace hSm:=hSm.later xbR hk;clear hk;go_wp2_with fail;refine (xca _ _ _).mono ?_;rintro e U ⟨rfl,hk⟩;replace hb:=xaf hb hk;replace hSm:=hSm.later xbR hk;clear hk;go_wp2_with fail;refine (xeK _ _ _ _ _ _ _ _ [in_ 5 m,in_ 17 0]).mono ?_;rintro e V ⟨rfl,hk⟩;have hG2:=xaa (heap_alloc_new U _) hk;have hg2:=hb.size;replace hSm:=(hSm.later xbR (xai _ _)).later xbR hk;replace hb:=xbo hb hk;clear hk;generalize U.heap.size=g2 at *;generalize V=U at *;go_wp2_with fail;refine (xkQ _ _).mono ?_
 rintro e U ⟨rfl,hk⟩;replace hb:=xaf hb hk;replace hSm:=hSm.later xbR hk;replace hG2:=xaa hG2 hk;clear hk;go_wp2_with fail;refine (xeA _ _).mono ?_;rintro e U ⟨rfl,hk⟩;replace hb:=xaf hb hk;replace hSm:=hSm.later xbR hk;replace hG2:=xaa hG2 hk;clear hk;go_wp2_with fail;refine (xgl _ ⟨4,0⟩ _ _ _ _ _ [⟨3,n⟩]).mono ?_;rintro e V ⟨rfl,hk⟩;have hG4:=xaa (heap_alloc_new U _) hk;have hg4:=hb.size;replace hSm:=(hSm.later xbR (xai _ _)).later xbR hk;replace hG2:=xaa (xaa hG2 (xai _ _)) hk;replace hb:=xbo hb hk;clear hk;generalize U.heap.size=g4 at *;generalize V=U at *;go_wp2_with fail;refine (xkQ _ _).mono ?_
 rintro e U ⟨rfl,hk⟩;replace hb:=xaf hb hk;replace hSm:=hSm.later xbR hk;replace hG2:=xaa hG2 hk;replace hG4:=xaa hG4 hk;clear hk;go_wp2_with fail;refine (xeA _ _).mono ?_;rintro e U ⟨rfl,hk⟩;replace hb:=xaf hb hk;replace hSm:=hSm.later xbR hk;replace hG2:=xaa hG2 hk;replace hG4:=xaa hG4 hk;clear hk;go_wp2_with fail;refine (xgl _ ⟨4,1⟩ _ _ _ _ _ [⟨3,n⟩]).mono ?_;rintro e V ⟨rfl,hk⟩;have hG5:=xaa (heap_alloc_new U _) hk;have hg5:=hb.size;replace hSm:=(hSm.later xbR (xai _ _)).later xbR hk;replace hG2:=xaa (xaa hG2 (xai _ _)) hk;replace hG4:=xaa (xaa hG4 (xai _ _)) hk;replace hb:=xbo hb hk;clear hk
 generalize U.heap.size=g5 at *;generalize V=U at *;go_wp2_with fail;refine (xkQ _ _).mono ?_;rintro e U ⟨rfl,hk⟩;replace hb:=xaf hb hk;replace hSm:=hSm.later xbR hk;replace hG2:=xaa hG2 hk;replace hG4:=xaa hG4 hk;replace hG5:=xaa hG5 hk;clear hk;go_wp2_with fail;refine (xeA _ _).mono ?_;rintro e U ⟨rfl,hk⟩;replace hb:=xaf hb hk;replace hSm:=hSm.later xbR hk;replace hG2:=xaa hG2 hk;replace hG4:=xaa hG4 hk;replace hG5:=xaa hG5 hk;clear hk;go_wp2_with fail;refine (xgl _ ⟨4,0⟩ _ _ _ _ _ [⟨3,5⟩]).mono ?_;rintro e V ⟨rfl,hk⟩;have hG6:=xaa (heap_alloc_new U _) hk;have hg6:=hb.size;replace hSm:=(hSm.later xbR (xai _ _)).later xbR hk
 replace hG2:=xaa (xaa hG2 (xai _ _)) hk;replace hG4:=xaa (xaa hG4 (xai _ _)) hk;replace hG5:=xaa (xaa hG5 (xai _ _)) hk;replace hb:=xbo hb hk;clear hk;generalize U.heap.size=g6 at *;generalize V=U at *;go_wp2_with fail;refine (xkQ _ _).mono ?_;rintro e U ⟨rfl,hk⟩;replace hb:=xaf hb hk;replace hSm:=hSm.later xbR hk;replace hG2:=xaa hG2 hk;replace hG4:=xaa hG4 hk;replace hG5:=xaa hG5 hk;replace hG6:=xaa hG6 hk;clear hk;go_wp2_with fail;refine (xeA _ _).mono ?_;rintro e U ⟨rfl,hk⟩;replace hb:=xaf hb hk;replace hSm:=hSm.later xbR hk;replace hG2:=xaa hG2 hk;replace hG4:=xaa hG4 hk;replace hG5:=xaa hG5 hk
 replace hG6:=xaa hG6 hk;clear hk;go_wp2_with fail;refine (xgl _ ⟨4,1⟩ _ _ _ _ _ [⟨3,t⟩]).mono ?_;rintro e V ⟨rfl,hk⟩;have hG7:=xaa (heap_alloc_new U _) hk;have hg7:=hb.size;replace hSm:=(hSm.later xbR (xai _ _)).later xbR hk;replace hG2:=xaa (xaa hG2 (xai _ _)) hk;replace hG4:=xaa (xaa hG4 (xai _ _)) hk;replace hG5:=xaa (xaa hG5 (xai _ _)) hk;replace hG6:=xaa (xaa hG6 (xai _ _)) hk;replace hb:=xbo hb hk;clear hk;generalize U.heap.size=g7 at *;generalize V=U at *;go_wp2_with fail;refine (xkQ _ _).mono ?_;rintro e U ⟨rfl,hk⟩;replace hb:=xaf hb hk;replace hSm:=hSm.later xbR hk;replace hG2:=xaa hG2 hk
 replace hG4:=xaa hG4 hk;replace hG5:=xaa hG5 hk;replace hG6:=xaa hG6 hk;replace hG7:=xaa hG7 hk;clear hk;go_wp2_with fail;refine (xeA _ _).mono ?_;rintro e U ⟨rfl,hk⟩;replace hb:=xaf hb hk;replace hSm:=hSm.later xbR hk;replace hG2:=xaa hG2 hk;replace hG4:=xaa hG4 hk;replace hG5:=xaa hG5 hk;replace hG6:=xaa hG6 hk;replace hG7:=xaa hG7 hk;clear hk;go_wp2_with fail;refine (xgl _ ⟨4,0⟩ _ _ _ _ _ [⟨3,t⟩]).mono ?_;rintro e V ⟨rfl,hk⟩;have hG8:=xaa (heap_alloc_new U _) hk;have hg8:=hb.size;replace hSm:=(hSm.later xbR (xai _ _)).later xbR hk;replace hG2:=xaa (xaa hG2 (xai _ _)) hk;replace hG4:=xaa (xaa hG4 (xai _ _)) hk
 replace hG5:=xaa (xaa hG5 (xai _ _)) hk;replace hG6:=xaa (xaa hG6 (xai _ _)) hk;replace hG7:=xaa (xaa hG7 (xai _ _)) hk;replace hb:=xbo hb hk;clear hk;generalize U.heap.size=g8 at *;generalize V=U at *;have hS2:xg2 (fun b=>w.heap.size<=b) (U.alloc (.cells (xdV (xtd xtc 4 0) (.slice none 0 0) (.slice none 0 0)++xdV (xrb 5 xo5 0 0 [in_ 5 m,in_ 17 0]) (.slice (some ⟨g2,0,none⟩) 2 2) (.slice none 0 0)++xdV (xtb 5) (.slice none 0 0) (.slice none 0 0)++xdV (xdj 4 ⟨4,0⟩ xlb [⟨3,n⟩]) (.slice none 0 0) (.slice (some ⟨g4,0,none⟩) 1 1)++xdV (xdj 4 ⟨4,1⟩ xlb [⟨3,n⟩]) (.slice none 0 0) (.slice (some ⟨g5,0,none⟩) 1 1)++xdV (xdj 5 ⟨4,0⟩ xgg [⟨3,5⟩]) (.slice none 0 0) (.slice (some ⟨g6,0,none⟩) 1 1)++xdV (xdj 6 ⟨4,1⟩ xgg [⟨3,t⟩]) (.slice none 0 0) (.slice (some ⟨g7,0,none⟩) 1 1)++xdV (xdj 6 ⟨4,0⟩ xgg [⟨3,t⟩]) (.slice none 0 0) (.slice (some ⟨g8,0,none⟩) 1 1)).toArray 56)) (.slice (some ⟨U.heap.size,0,none⟩) 8 8) [xtd xtc 4 0,xrb 5 xo5 0 0 [in_ 5 m,in_ 17 0],xtb 5,xdj 4 ⟨4,0⟩ xlb [⟨3,n⟩],xdj 4 ⟨4,1⟩ xlb [⟨3,n⟩],xdj 5 ⟨4,0⟩ xgg [⟨3,5⟩],xdj 6 ⟨4,1⟩ xgg [⟨3,t⟩],xdj 6 ⟨4,0⟩ xgg [⟨3,t⟩]]:=Cells.row ((((((((xcS (xl5 (by decide)) xcB xcB).append xbR (xcS (xsU (by decide)) (xi4 (xaa hG2 (xai U _)) (code:=[in_ 5 m,in_ 17 0]) rfl (xsX m) (by simp) hg2) xcB)).append xbR (xcS (xl5 (by decide)) xcB xcB)).append xbR (xcS (xhf (by decide)) xcB (xgc (xaa hG4 (xai U _)) hg4))).append xbR (xcS (xhf (by decide)) xcB (xgc (xaa hG5 (xai U _)) hg5))).append xbR (xcS (xhf (by decide)) xcB (xgc (xaa hG6 (xai U _)) hg6))).append xbR (xcS (xhf (by decide)) xcB (xgc (xaa hG7 (xai U _)) hg7))).append xbR (xcS (xhf (by decide)) xcB (xgc (xaa hG8 (xai U _)) hg8))) xbR hb.size (heap_alloc_new U _) rfl (qzC _) (by unfold maxLen;decide) (by simp)
 replace hSm:=hSm.later xbR (xai U (.cells (xdV (xtd xtc 4 0) (.slice none 0 0) (.slice none 0 0)++xdV (xrb 5 xo5 0 0 [in_ 5 m,in_ 17 0]) (.slice (some ⟨g2,0,none⟩) 2 2) (.slice none 0 0)++xdV (xtb 5) (.slice none 0 0) (.slice none 0 0)++xdV (xdj 4 ⟨4,0⟩ xlb [⟨3,n⟩]) (.slice none 0 0) (.slice (some ⟨g4,0,none⟩) 1 1)++xdV (xdj 4 ⟨4,1⟩ xlb [⟨3,n⟩]) (.slice none 0 0) (.slice (some ⟨g5,0,none⟩) 1 1)++xdV (xdj 5 ⟨4,0⟩ xgg [⟨3,5⟩]) (.slice none 0 0) (.slice (some ⟨g6,0,none⟩) 1 1)++xdV (xdj 6 ⟨4,1⟩ xgg [⟨3,t⟩]) (.slice none 0 0) (.slice (some ⟨g7,0,none⟩) 1 1)++xdV (xdj 6 ⟨4,0⟩ xgg [⟨3,t⟩]) (.slice none 0 0) (.slice (some ⟨g8,0,none⟩) 1 1)).toArray 56))
 replace hb:=xaf hb (xai U (.cells (xdV (xtd xtc 4 0) (.slice none 0 0) (.slice none 0 0)++xdV (xrb 5 xo5 0 0 [in_ 5 m,in_ 17 0]) (.slice (some ⟨g2,0,none⟩) 2 2) (.slice none 0 0)++xdV (xtb 5) (.slice none 0 0) (.slice none 0 0)++xdV (xdj 4 ⟨4,0⟩ xlb [⟨3,n⟩]) (.slice none 0 0) (.slice (some ⟨g4,0,none⟩) 1 1)++xdV (xdj 4 ⟨4,1⟩ xlb [⟨3,n⟩]) (.slice none 0 0) (.slice (some ⟨g5,0,none⟩) 1 1)++xdV (xdj 5 ⟨4,0⟩ xgg [⟨3,5⟩]) (.slice none 0 0) (.slice (some ⟨g6,0,none⟩) 1 1)++xdV (xdj 6 ⟨4,1⟩ xgg [⟨3,t⟩]) (.slice none 0 0) (.slice (some ⟨g7,0,none⟩) 1 1)++xdV (xdj 6 ⟨4,0⟩ xgg [⟨3,t⟩]) (.slice none 0 0) (.slice (some ⟨g8,0,none⟩) 1 1)).toArray 56))
 clear hG2 hG4 hG5 hG6 hG7 hG8;go_wp2_with fail;refine xhx xbR (.tmp 35) (.tmp 67) 22 rfl 56 _ 160 Tryz.underlying22 xrK rfl xik [xtd xtc 4 0,xrb 5 xo5 0 0 [in_ 5 m,in_ 17 0],xtb 5,xdj 4 ⟨4,0⟩ xlb [⟨3,n⟩],xdj 4 ⟨4,1⟩ xlb [⟨3,n⟩],xdj 5 ⟨4,0⟩ xgg [⟨3,5⟩],xdj 6 ⟨4,1⟩ xgg [⟨3,t⟩],xdj 6 ⟨4,0⟩ xgg [⟨3,t⟩]] ⟨gs,0,none⟩ ⟨U.heap.size,0,none⟩ 8 rfl hSm rfl hS2 (by simp) 13 rfl (by unfold maxLen;decide) (by decide) ?_
 intro gl cl w3 hAll hk;replace hb:=xaf hb hk;clear hk hSm hS2
 have hkk:∀ x∈xik++[xtd xtc 4 0,xrb 5 xo5 0 0 [in_ 5 m,in_ 17 0],xtb 5,xdj 4 ⟨4,0⟩ xlb [⟨3,n⟩],xdj 4 ⟨4,1⟩ xlb [⟨3,n⟩],xdj 5 ⟨4,0⟩ xgg [⟨3,5⟩],xdj 6 ⟨4,1⟩ xgg [⟨3,t⟩],xdj 6 ⟨4,0⟩ xgg [⟨3,t⟩]],1<=x.kind/\x.kind<=6:=by
  intro x hx;simp only[xik,List.mem_append,List.mem_cons,List.not_mem_nil,or_false] at hx
  rcases hx with (rfl | rfl | rfl | rfl | rfl) | rfl | rfl | rfl | rfl | rfl | rfl | rfl | rfl<;>simp[xtd,xrb,xtb,xdj]
 go_wp2_with fail;refine (xlI (xik++[xtd xtc 4 0,xrb 5 xo5 0 0 [in_ 5 m,in_ 17 0],xtb 5,xdj 4 ⟨4,0⟩ xlb [⟨3,n⟩],xdj 4 ⟨4,1⟩ xlb [⟨3,n⟩],xdj 5 ⟨4,0⟩ xgg [⟨3,5⟩],xdj 6 ⟨4,1⟩ xgg [⟨3,t⟩],xdj 6 ⟨4,0⟩ xgg [⟨3,t⟩]]) hkk 13 rfl (by decide) _ _ hAll _ hrs).mono ?_
 rintro e W ⟨b1,b2,b3,b4,n1,j1,n2,j2,n3,j3,n4,j4,ep,g,rfl,hRe,hk⟩;replace hb:=xaf hb hk;have q:=xlM hRe (j:=11) rfl;simp only[Nat.reduceMul,Nat.reduceAdd] at q;obtain⟨-,-,q0,q1⟩:=q;have q:=xlM hRe (j:=12) rfl;simp only[Nat.reduceMul,Nat.reduceAdd] at q;obtain⟨-,-,q2,q3⟩:=q;clear hRe hk hAll hkk hrs;have hbA:=xai W (.cells #[.slice b1 n1 j1,.slice b2 n2 j2,.int .i64 ep,.slice b3 n3 j3,.slice b4 n4 j4,.slice none 0 0] 31);have hbW:=xaf hb hbA;have hSl:=fun (W':World) (hb:Below (W.alloc (.cells #[.slice b1 n1 j1,.slice b2 n2 j2,.int .i64 ep,.slice b3 n3 j3,.slice b4 n4 j4,.slice none 0 0] 31)).heap.size (W.alloc (.cells #[.slice b1 n1 j1,.slice b2 n2 j2,.int .i64 ep,.slice b3 n3 j3,.slice b4 n4 j4,.slice none 0 0] 31)) W')=>(⟨qzA (xaf hbA hb) q0,qzA (xaf hbA hb) q1,qzA (xaf hbA hb) q2,qzA (xaf hbA hb) q3⟩:W'.cell? ⟨g,46,none⟩=some (.int .i64 3)/\W'.cell? ⟨g,47,none⟩=some (.int .i64 (m*t))/\W'.cell? ⟨g,50,none⟩=some (.int .i64 3)/\W'.cell? ⟨g,51,none⟩=some (.int .i64 (n*t)))
 clear q0 q1 q2 q3
 go_upto_region 9 with (fail)
 clear hbA hb;generalize W.alloc (.cells #[.slice b1 n1 j1,.slice b2 n2 j2,.int .i64 ep,.slice b3 n3 j3,.slice b4 n4 j4,.slice none 0 0] 31)=W at *;refine xat (S:=fun w'=>w'.cell? ⟨g,46,none⟩=some (.int .i64 3)/\w'.cell? ⟨g,47,none⟩=some (.int .i64 (m*t))/\w'.cell? ⟨g,50,none⟩=some (.int .i64 3)/\w'.cell? ⟨g,51,none⟩=some (.int .i64 (n*t))) [] (by kernel_rfl) ?_
 have hb:Below W.heap.size W W.drew:=(Below.refl _ W).drew;generalize W.drew=U at *;refine tk 0 (⟨some 84,.move (.tmp 9),32,_,_,none⟩) (.slice (some ⟨g,0,none⟩) 13 13) rfl (hSl _ hb) (fun _ _ _ h=>h) rfl ?_ ?_ ?_
 ·kernel_rfl
 ·intro w hSw;obtain⟨q0,q1,q2,q3⟩:=hSw;go_simp
  all_goals (first | rfl | exact xal (by omega) (by omega))
 try simp only[Act.put,qzF,qzG,qzH]
 refine tk 1 (⟨some 85,.move (.tmp 7),22,_,_,none⟩) (.slice (some ⟨gl,0,none⟩) 13 cl) rfl (hSl _ hb) (fun _ _ _ h=>h) rfl ?_ ?_ ?_
 ·kernel_rfl
 ·intro w hSw;obtain⟨q0,q1,q2,q3⟩:=hSw;go_simp
  all_goals (first | rfl | exact xal (by omega) (by omega))
 try simp only[Act.put,qzF,qzG,qzH]
 refine tk 2 (⟨some 86,.call ⟨.builtin .len,#[.tmp 85],#[22]⟩,3,_,_,none⟩) (.int .i64 13) rfl (hSl _ hb) (fun _ _ _ h=>h) rfl ?_ ?_ ?_
 ·kernel_rfl
 ·intro w hSw;obtain⟨q0,q1,q2,q3⟩:=hSw;go_simp
  all_goals (first | rfl | exact xal (by omega) (by omega))
 try simp only[Act.put,qzF,qzG,qzH]
 refine tk 3 (⟨some 87,.binOp .sub 3 (.tmp 86) (.const (.int .i64 2)) 3,3,_,_,none⟩) (.int .i64 11) rfl (hSl _ hb) (fun _ _ _ h=>h) rfl ?_ ?_ ?_
 ·kernel_rfl
 ·intro w hSw;obtain⟨q0,q1,q2,q3⟩:=hSw;go_simp
  all_goals (first | rfl | exact xal (by omega) (by omega))
 try simp only[Act.put,qzF,qzG,qzH]
 refine tk 4 (⟨some 88,.indexAddr 32 (.tmp 84) (.tmp 87),0,_,_,none⟩) (.pointer (some ⟨g,44,none⟩)) rfl (hSl _ hb) (fun _ _ _ h=>h) rfl ?_ ?_ ?_
 ·kernel_rfl
 ·intro w hSw;obtain⟨q0,q1,q2,q3⟩:=hSw;go_simp
  all_goals (first | rfl | exact xal (by omega) (by omega))
 try simp only[Act.put,qzF,qzG,qzH]
 refine tk 5 (⟨some 89,.fieldAddr 43 (.tmp 88) 2,0,_,_,none⟩) (.pointer (some ⟨g,46,none⟩)) rfl (hSl _ hb) (fun _ _ _ h=>h) rfl ?_ ?_ ?_
 ·kernel_rfl
 ·intro w hSw;obtain⟨q0,q1,q2,q3⟩:=hSw;go_simp
  all_goals (first | rfl | exact xal (by omega) (by omega))
 try simp only[Act.put,qzF,qzG,qzH]
 refine tk 6 (⟨some 90,.load 41 (.tmp 89),41,_,_,none⟩) (VV ⟨3,m*t⟩) rfl (hSl _ hb) (fun _ _ _ h=>h) rfl ?_ ?_ ?_
 ·kernel_rfl
 ·intro w hSw;obtain⟨q0,q1,q2,q3⟩:=hSw;go_simp
  all_goals (first | rfl | exact xal (by omega) (by omega))
 try simp only[Act.put,qzF,qzG,qzH]
 refine tk 7 (⟨some 91,.move (.tmp 1),3,_,_,none⟩) (.int .i64 m) rfl (hSl _ hb) (fun _ _ _ h=>h) rfl ?_ ?_ ?_
 ·kernel_rfl
 ·intro w hSw;obtain⟨q0,q1,q2,q3⟩:=hSw;go_simp
  all_goals (first | rfl | exact xal (by omega) (by omega))
 try simp only[Act.put,qzF,qzG,qzH]
 refine tk 8 (⟨some 92,.move (.tmp 2),3,_,_,none⟩) (.int .i64 t) rfl (hSl _ hb) (fun _ _ _ h=>h) rfl ?_ ?_ ?_
 ·kernel_rfl
 ·intro w hSw;obtain⟨q0,q1,q2,q3⟩:=hSw;go_simp
  all_goals (first | rfl | exact xal (by omega) (by omega))
 try simp only[Act.put,qzF,qzG,qzH]
 refine tk 9 (⟨some 93,.binOp .mul 3 (.tmp 91) (.tmp 92) 3,3,_,_,none⟩) (.int .i64 (m*t)) rfl (hSl _ hb) (fun _ _ _ h=>h) rfl ?_ ?_ ?_
 ·kernel_rfl
 ·intro w hSw;obtain⟨q0,q1,q2,q3⟩:=hSw;go_simp
  all_goals (first | rfl | exact xal (by omega) (by omega))
 try simp only[Act.put,qzF,qzG,qzH]
 refine rdy [10] rfl ?_ ⟨?_,trivial⟩
 ·kernel_rfl
 refine xa0 (o:=⟨some 94,.call ⟨.value (.func 25),#[.tmp 93],#[3]⟩,41,_,_,none⟩) rfl (fun K' hK=>?_)
 have hcall:=xeA (m*t) U;refine xft rfl 25 (.func 25) #[.tmp 93] _ rfl #[] rfl #[.int .i64 (m*t)] (by simp[Act.eval,Act.put]) (xda Tryz.func25 (by kernel_rfl) (by kernel_rfl) _ _) ?_
 refine (show Calls Tryz.prog 25 #[.int .i64 (m*t)] U _ from hcall.mono ?_)
 rintro e U ⟨rfl,hcV⟩;refine⟨_,rfl,?_⟩;replace hb:=xaf hb hcV;refine hK _ _ (fun _=>?_) ?_
 ·exact hSl _ hb
 clear hK K' hcall hcV
 try simp only[Act.put,qzF,qzG,qzH]
 refine tk 11 (⟨some 95,.binOp .eql 41 (.tmp 90) (.tmp 94) 41,4,_,_,none⟩) (.bool true) rfl (hSl _ hb) (fun _ _ _ h=>h) rfl ?_ ?_ ?_
 ·kernel_rfl
 ·intro w hSw;obtain⟨q0,q1,q2,q3⟩:=hSw;go_simp
  all_goals (first | rfl | exact xal (by omega) (by omega))
 try simp only[Act.put,qzF,qzG,qzH]
 refine tk 12 (⟨some 96,.move (.tmp 95),4,_,_,none⟩) (.bool true) rfl (hSl _ hb) (fun _ _ _ h=>h) rfl ?_ ?_ ?_
 ·kernel_rfl
 ·intro w hSw;obtain⟨q0,q1,q2,q3⟩:=hSw;go_simp
  all_goals (first | rfl | exact xal (by omega) (by omega))
 try simp only[Act.put,qzF,qzG,qzH]
 refine tk 13 (⟨some 97,.move (.tmp 9),32,_,_,some (12,true)⟩) (.slice (some ⟨g,0,none⟩) 13 13) rfl (hSl _ hb) (fun _ _ _ h=>h) rfl ?_ ?_ ?_
 ·kernel_rfl
 ·intro w hSw;obtain⟨q0,q1,q2,q3⟩:=hSw;go_simp
  all_goals (first | rfl | exact xal (by omega) (by omega))
 try simp only[Act.put,qzF,qzG,qzH]
 refine tk 14 (⟨some 98,.move (.tmp 7),22,_,_,some (12,true)⟩) (.slice (some ⟨gl,0,none⟩) 13 cl) rfl (hSl _ hb) (fun _ _ _ h=>h) rfl ?_ ?_ ?_
 ·kernel_rfl
 ·intro w hSw;obtain⟨q0,q1,q2,q3⟩:=hSw;go_simp
  all_goals (first | rfl | exact xal (by omega) (by omega))
 try simp only[Act.put,qzF,qzG,qzH]
 refine tk 15 (⟨some 99,.call ⟨.builtin .len,#[.tmp 98],#[22]⟩,3,_,_,some (12,true)⟩) (.int .i64 13) rfl (hSl _ hb) (fun _ _ _ h=>h) rfl ?_ ?_ ?_
 ·kernel_rfl
 ·intro w hSw;obtain⟨q0,q1,q2,q3⟩:=hSw;go_simp
  all_goals (first | rfl | exact xal (by omega) (by omega))
 try simp only[Act.put,qzF,qzG,qzH]
 refine tk 16 (⟨some 100,.binOp .sub 3 (.tmp 99) (.const (.int .i64 1)) 3,3,_,_,some (12,true)⟩) (.int .i64 12) rfl (hSl _ hb) (fun _ _ _ h=>h) rfl ?_ ?_ ?_
 ·kernel_rfl
 ·intro w hSw;obtain⟨q0,q1,q2,q3⟩:=hSw;go_simp
  all_goals (first | rfl | exact xal (by omega) (by omega))
 try simp only[Act.put,qzF,qzG,qzH]
 refine tk 17 (⟨some 101,.indexAddr 32 (.tmp 97) (.tmp 100),0,_,_,some (12,true)⟩) (.pointer (some ⟨g,48,none⟩)) rfl (hSl _ hb) (fun _ _ _ h=>h) rfl ?_ ?_ ?_
 ·kernel_rfl
 ·intro w hSw;obtain⟨q0,q1,q2,q3⟩:=hSw;go_simp
  all_goals (first | rfl | exact xal (by omega) (by omega))
 try simp only[Act.put,qzF,qzG,qzH]
 refine tk 18 (⟨some 102,.fieldAddr 43 (.tmp 101) 2,0,_,_,some (12,true)⟩) (.pointer (some ⟨g,50,none⟩)) rfl (hSl _ hb) (fun _ _ _ h=>h) rfl ?_ ?_ ?_
 ·kernel_rfl
 ·intro w hSw;obtain⟨q0,q1,q2,q3⟩:=hSw;go_simp
  all_goals (first | rfl | exact xal (by omega) (by omega))
 try simp only[Act.put,qzF,qzG,qzH]
 refine tk 19 (⟨some 103,.load 41 (.tmp 102),41,_,_,some (12,true)⟩) (VV ⟨3,n*t⟩) rfl (hSl _ hb) (fun _ _ _ h=>h) rfl ?_ ?_ ?_
 ·kernel_rfl
 ·intro w hSw;obtain⟨q0,q1,q2,q3⟩:=hSw;go_simp
  all_goals (first | rfl | exact xal (by omega) (by omega))
 try simp only[Act.put,qzF,qzG,qzH]
 refine tk 20 (⟨some 104,.move (.tmp 0),3,_,_,some (12,true)⟩) (.int .i64 n) rfl (hSl _ hb) (fun _ _ _ h=>h) rfl ?_ ?_ ?_
 ·kernel_rfl
 ·intro w hSw;obtain⟨q0,q1,q2,q3⟩:=hSw;go_simp
  all_goals (first | rfl | exact xal (by omega) (by omega))
 try simp only[Act.put,qzF,qzG,qzH]
 refine tk 21 (⟨some 105,.move (.tmp 2),3,_,_,some (12,true)⟩) (.int .i64 t) rfl (hSl _ hb) (fun _ _ _ h=>h) rfl ?_ ?_ ?_
 ·kernel_rfl
 ·intro w hSw;obtain⟨q0,q1,q2,q3⟩:=hSw;go_simp
  all_goals (first | rfl | exact xal (by omega) (by omega))
 try simp only[Act.put,qzF,qzG,qzH]
 refine tk 22 (⟨some 106,.binOp .mul 3 (.tmp 104) (.tmp 105) 3,3,_,_,some (12,true)⟩) (.int .i64 (n*t)) rfl (hSl _ hb) (fun _ _ _ h=>h) rfl ?_ ?_ ?_
 ·kernel_rfl
 ·intro w hSw;obtain⟨q0,q1,q2,q3⟩:=hSw;go_simp
  all_goals (first | rfl | exact xal (by omega) (by omega))
 try simp only[Act.put,qzF,qzG,qzH]
 refine rdy [23] rfl ?_ ⟨?_,trivial⟩
 ·kernel_rfl
 refine xa0 (o:=⟨some 107,.call ⟨.value (.func 25),#[.tmp 106],#[3]⟩,41,_,_,some (12,true)⟩) rfl (fun K' hK=>?_)
 have hcall:=xeA (n*t) U;refine xft rfl 25 (.func 25) #[.tmp 106] _ rfl #[] rfl #[.int .i64 (n*t)] (by simp[Act.eval,Act.put]) (xda Tryz.func25 (by kernel_rfl) (by kernel_rfl) _ _) ?_
 refine (show Calls Tryz.prog 25 #[.int .i64 (n*t)] U _ from hcall.mono ?_)
 rintro e U ⟨rfl,hcV⟩;refine⟨_,rfl,?_⟩;replace hb:=xaf hb hcV;refine hK _ _ (fun _=>?_) ?_
 ·exact hSl _ hb
 clear hK K' hcall hcV
 try simp only[Act.put,qzF,qzG,qzH]
 refine tk 24 (⟨some 108,.binOp .eql 41 (.tmp 103) (.tmp 107) 41,4,_,_,some (12,true)⟩) (.bool true) rfl (hSl _ hb) (fun _ _ _ h=>h) rfl ?_ ?_ ?_
 ·kernel_rfl
 ·intro w hSw;obtain⟨q0,q1,q2,q3⟩:=hSw;go_simp
  all_goals (first | rfl | exact xal (by omega) (by omega))
 try simp only[Act.put,qzF,qzG,qzH]
 refine tk 25 (⟨some 109,.pick (.tmp 96) (.tmp 108) (.const (.bool false)),4,_,_,none⟩) (.bool true) rfl (hSl _ hb) (fun _ _ _ h=>h) rfl ?_ ?_ ?_
 ·kernel_rfl
 ·intro w hSw;obtain⟨q0,q1,q2,q3⟩:=hSw;go_simp
  all_goals (first | rfl | exact xal (by omega) (by omega))
 try simp only[Act.put,qzF,qzG,qzH]
 refine tk 26 (⟨some 6,.assign (.tmp 109),4,_,_,none⟩) (.bool true) rfl (hSl _ hb) (fun _ _ _ h=>h) rfl ?_ ?_ ?_
 ·kernel_rfl
 ·intro w hSw;obtain⟨q0,q1,q2,q3⟩:=hSw;go_simp
  all_goals (first | rfl | exact xal (by omega) (by omega))
 try simp only[Act.put,qzF,qzG,qzH]
 refine xaE ?_ ?_ _
 ·kernel_rfl
 try simp only[Act.put,qzF,qzG,qzH]
 go_wp2;refine bodyPost_ret (v:=.bool true) ?_ rfl ⟨rfl,xaf hbW hb⟩
 simp[results,Tryz.results9,go_sem]
end Go.Proofs.YtbafokihegegiaaGreatDoor
