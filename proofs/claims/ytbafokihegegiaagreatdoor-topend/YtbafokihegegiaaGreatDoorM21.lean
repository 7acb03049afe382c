/- A part. -/
import Derived.Test.YtbafokihegegiaaGreatDoorM20
namespace Go.Proofs.YtbafokihegegiaaGreatDoor
open Go.ChangeShapes Go.WideShapes Go.ChangeAt Go.RowKit
set_option linter.unusedSimpArgs false
set_option linter.unusedVariables false
set_option maxHeartbeats 8000000
set_option maxRecDepth 8000
theorem xpr {P:Nat->Prop}(hs:List QO)(hv:Value)(c:Int)(k:Nat)(w:World)(h:xav P w hv hs)(hk:k<=2147483647){er:Int}(her:(if 60<=hs.length then (15:Int) else 0)=er) :
  Calls Tryz.prog 82 #[hv,.int .i64 c,.int .i64 k] w fun e w'=>Below w.heap.size w w'/\∃ (a3:Option Addr) (n3 k3:Nat) (v:QV),e=.returned (.tuple #[.slice a3 n3 k3,VV v,.int .i64 er])/\(er=0->v=⟨4,hs.length⟩/\xav (fun b=>w.heap.size<=b) w' (.slice a3 n3 k3) (hs++[⟨c,List.replicate k xa4⟩])):=by
 refine (xl0 hs hv c k w h).mono ?_;rintro e w' ⟨hb,h1,h2⟩;refine⟨hb,?_⟩
 by_cases h6:60<=hs.length
 ·rw[if_pos h6] at her;subst her
  exact⟨none,0,0,xa4,h1 (.inl h6),fun h0=>absurd h0 (by decide)⟩
 ·rw[if_neg h6] at her;subst her;obtain⟨g,s,cap,rfl,hT⟩:=h2 (by omega)
  have hH:=(hT (fun b=>if b=w.heap.size then 4 else if w.heap.size+1<=b then 2 else 0) (by simp) (fun b hb=>by rw[if_neg (by omega),if_pos hb])).heap
  refine⟨_,_,_,_,rfl,fun _=>⟨rfl,hH.keep xaB (Keeps.refl _ _) fun b hb=>?_⟩⟩
  have h2:=hb.2
  (try simp only at h2)
  split at h2
  ·cases h2
  ·split at h2
   ·omega
   ·cases h2
def ObC (W:World)(hs:List QO)(u:QV)(er:Int)(v5 v6:Value)(wx:World):Prop:=
 ∃ (bA:Nat) (a3:Option Addr) (n3 k3:Nat) (v:QV),v5=.slice a3 n3 k3/\v6=.pointer (some ⟨bA,0,none⟩)/\wx.heap[bA]?=some (.cells #[.int .i64 v.k,.int .i64 v.n] 41 (0,0))/\W.heap.size<=bA/\Below W.heap.size W wx/\(er=0->v=u/\xav (fun b=>W.heap.size<=b) wx (.slice a3 n3 k3) hs)
theorem setH {w:World}{sb:Nat}{cv hv:Value}{ep:Int}{lv tv sv:Value}(h:w.heap[sb]?=some (SeO cv hv ep lv tv sv))(u:Value):(w.setCell ⟨sb,1,none⟩ u).heap[sb]?=some (SeO cv u ep lv tv sv)/\Chg sb w (w.setCell ⟨sb,1,none⟩ u):=
 ⟨by rw[xae h _];rfl,(Chg.refl _ _).set _ _⟩
theorem xrx {P:Nat->Prop}{w wc Y Z F:World}{sb rb:Nat}{cv hv lv tv sv hv':Value}{s:Sn}{r:ReE}{H:List QO}{e:Ending}(hS:SesAt P w cv hv lv tv s)(hP:∀ b,P b->b≠sb)(h1:Below w.heap.size w wc)(h2:Chg sb wc Y)(h3:Below Y.heap.size Y Z)(h4:Chg rb Z F)(hr:w.heap.size<=rb)(hs:sb<w.heap.size)(hY:Y.heap[sb]?=some (SeO cv hv' s.X.ez lv tv sv))
  {n:Nat} (hn:w.heap.size<=n) (hrn:rb<n) (hH:xav (fun b=>n<=b) wc hv' H) (he:e=.returned (ReV r)):xct P w sb sv ⟨⟨s.X.cz,H,s.X.ez⟩,s.cells,s.ts,s.saved⟩ r e F:=by
 have HF:=xjZ h1 h2 h3 h4 hr;refine⟨he,⟨cv,hv',lv,tv,h4.held (xaa hY h3) (by omega),⟨?_,hH.keep xaB (HF.keeps _ fun b hb=>⟨by omega,by omega⟩) fun b hb=>.inr (by omega),?_,?_⟩⟩,HF.kp⟩
 ·exact hS.c.keep xax (Keeps.of_block fun b hb hl=>HF.kp.blk b hl (by rw[xbi (hP b hb)];omega)) fun b hb=>.inl hb
 ·exact hS.l.keep xbF (Keeps.of_block fun b hb hl=>HF.kp.blk b hl (by rw[xbi (hP b hb)];omega)) fun b hb=>.inl hb
 ·exact hS.t.keep xbD (Keeps.of_block fun b hb hl=>HF.kp.blk b hl (by rw[xbi (hP b hb)];omega)) fun b hb=>.inl hb
theorem xhC (n:Nat)(ad ah:Option Addr)(cap nh ch:Nat)(ep c:Int)(w:World):Calls Tryz.prog 81 #[WV (.slice ad n cap) (.slice ah nh ch) ep,.int .i64 c] w fun e w'=>e=.returned (.bool (xbx n c))/\Below w.heap.size w w':=by
 by_cases h0:c=0
 ·have hB:xbx n c=true:=by simp[xbx,h0]
  rw[hB];subst h0;go_enter Tryz.func81,Tryz.ntmps81;go_wp2;refine bodyPost_ret (v:=.bool true) ?_ rfl ⟨rfl,xai _ _⟩
  simp[results,Tryz.results81,go_sem]
 ·by_cases h4:4<=c
  ·by_cases hn:c<(n:Int)
   ·have hB:xbx n c=true:=by simp[xbx];omega
    rw[hB];clear hB;go_enter Tryz.func81,Tryz.ntmps81;go_wp2;refine bodyPost_ret (v:=.bool true) ?_ rfl ⟨rfl,xai _ _⟩
    simp[results,Tryz.results81,go_sem,h0]
   ·have hB:xbx n c=false:=by simp[xbx];omega
    rw[hB];clear hB;go_enter Tryz.func81,Tryz.ntmps81;go_wp2;refine bodyPost_ret (v:=.bool false) ?_ rfl ⟨rfl,xai _ _⟩
    simp[results,Tryz.results81,go_sem,h0]
  ·have hB:xbx n c=false:=by simp[xbx];omega
   rw[hB];clear hB;go_enter Tryz.func81,Tryz.ntmps81;go_wp2;refine bodyPost_ret (v:=.bool false) ?_ rfl ⟨rfl,xai _ _⟩
   simp[results,Tryz.results81,go_sem,h0]
def obR (s:Sn)(c:Int):Sn × ReE:=
 if xbx s.X.cz.length c=false then (s,noE 6 0)
 else if 60<=s.X.heap.length then (s,noE 15 0)
 else (⟨⟨s.X.cz,s.X.heap++[⟨c,List.replicate (xbw s.X.cz c).toNat xa4⟩],s.X.ez⟩,s.cells,s.ts,s.saved⟩,⟨0,s.X.heap.length,⟨4,s.X.heap.length⟩⟩)
theorem xhy {P:Nat->Prop}(s:Sn)(hX:xau s.X=0)(c:Int)(cv hv lv tv sv:Value)(w:World)(sb:Nat)(hbx:w.heap[sb]?=some (SeO cv hv s.X.ez lv tv sv))(hS:SesAt P w cv hv lv tv s)(hP:∀ b,P b->b≠sb) :
  Calls Tryz.prog 54 #[.pointer (some ⟨sb,0,none⟩),.int .i64 c] w fun e w'=>xct P w sb sv (obR s c).1 (obR s c).2 e w':=by
 obtain⟨er,her⟩:∃ er,(if 60<=s.X.heap.length then (15:Int) else 0)=er:=⟨_,rfl⟩
 obtain⟨k,hk,hk2⟩:∃ k:Nat,xbw s.X.cz c=(k:Int)/\k<=2147483647:=by
  have ho:=xcn hX;have hl:s.X.cz.length<=12:=xjU hX;have:=xfb ho (s.X.cz.length+1) c 0 (by omega)
  exact⟨(xbw s.X.cz c).toNat,by unfold xbw;omega,by unfold xbw;omega⟩
 have hsl:=fun (w':World) (hb:Below w.heap.size w w')=>xhF s.X c cv hv w' (hS.c.later xax hb) (hS.h.later xaB hb) (xcn hX)
 rw[hk] at hsl;have hnw:=fun (w':World) (hb:Below w.heap.size w w')=>xpr s.X.heap hv c k w' (hS.h.later xaB hb) hk2 her
 have hEr:Hid (60<=s.X.heap.length ↔ er≠0):=by
  show _ ↔ _
  rw[← her]
  split<;>simp_all<;>omega
 have hEv:Hid (er=0\/er=15):=by
  show _\/_
  rw[← her]
  split<;>simp
 have h1:Hid (xbx s.X.cz.length c=false->obR s c=(s,noE 6 0)):=fun h=>by unfold obR;rw[if_pos h]
 have h2:Hid (xbx s.X.cz.length c=true->er≠0->obR s c=(s,noE er 0)):=fun h h'=>by
  unfold obR;rw[if_neg (by simp[h]),if_pos (hEr.out.2 h')]
  rcases hEv.out with e | e
  ·exact absurd e h'
  ·rw[e]
 have h3:Hid (xbx s.X.cz.length c=true->er=0->obR s c=(⟨⟨s.X.cz,s.X.heap++[⟨c,List.replicate k xa4⟩],s.X.ez⟩,s.cells,s.ts,s.saved⟩,⟨0,s.X.heap.length,⟨4,s.X.heap.length⟩⟩)):=fun h h'=>by
  unfold obR;rw[if_neg (by simp[h]),if_neg (fun h6=>hEr.out.1 h6 h'),hk]
  simp
 clear her hk hEr hEv;generalize obR s c=RR at *;obtain⟨ac,cc,rfl,-⟩:=id hS.c;obtain⟨ah,ch,rfl,-⟩:=id hS.h;obtain⟨al,kl,rfl,-⟩:=id hS.l;obtain⟨at',kt,rfl,-⟩:=id hS.t;have hbW:=xai w (.cells #[.int .i64 0,.int .i64 0,.int .i64 0,.int .i64 0] 43);have hlt:=xam hbx;have hR:BxT sb (.slice ac s.X.cz.length cc) (.slice ah s.X.heap.length ch) s.X.ez (.slice al s.cells.length kl) (.slice at' s.ts.length kt) sv w.heap.size w.heap.size (.cells #[.int .i64 0,.int .i64 0,.int .i64 0,.int .i64 0] 43 (0,0)) (w.alloc (.cells #[.int .i64 0,.int .i64 0,.int .i64 0,.int .i64 0] 43)):=⟨xaa hbx hbW,heap_alloc_new w _,heap_alloc_new w _⟩
 have hho:=fun w'=>xhC s.X.cz.length ac ah cc s.X.heap.length ch s.X.ez c w'
 have HS:=hid hS;have HX:=hid hbx;clear hS hbx;go_enter Tryz.func54,Tryz.ntmps54
 go_upto_region 1 with (fail)
 have hWn:w.heap.size+1<=(w.alloc (.cells #[.int .i64 0,.int .i64 0,.int .i64 0,.int .i64 0] 43)).heap.size:=by simp
 generalize (w.alloc (.cells #[.int .i64 0,.int .i64 0,.int .i64 0,.int .i64 0] 43))=W at *;obtain⟨s0,s1,s2,s3,s4,s5⟩:=xdY hR.box;go_wp2_with fail;refine (hho _).mono ?_;rintro e W ⟨rfl,hb1⟩;replace hR:=hR.later hb1;replace hbW:=xaf hbW hb1;have hWn1:w.heap.size+1<=W.heap.size:=qzD hWn hb1.size;clear hb1 hWn s0 s1 s2 s3 s4 s5 hho
 cases hB:xbx s.X.cz.length c
 ·have hRR:=hid (h1.out hB);have hrf:=fun w'=>xdB 6 w'
  go_wp2_with fail;refine (hrf _).mono ?_;rintro e Z ⟨rfl,hbZ⟩;have hreZ:=xaa hR.re hbZ;obtain⟨rf,r0,r1,r2,r3⟩:=bx4 hreZ;obtain⟨hF,hcF⟩:=xk4 hreZ (.int .i64 6) (.int .i64 0) (.int .i64 0) (.int .i64 0);have HF:=hid (xgu HX.out HS.out (xaf hbW hbZ) hcF (qzC _) (r:=noE 6 0) rfl);go_wp2;refine bodyPost_ret (v:=ReV (noE 6 0)) ?_ rfl (by rw[hRR.out];exact HF.out)
  simp[results,Tryz.results54,go_sem,r0,r1,r2,r3]
 ·go_upto_region 3 with (fail)
  have hSl:∀ W':World,Below W.heap.size W W'->xdN sb (.slice ac s.X.cz.length cc) (.slice ah s.X.heap.length ch) s.X.ez (.slice al s.cells.length kl) (.slice at' s.ts.length kt) sv W':=fun W' hb=>xdY (hR.later hb).box
  go_cut [5,6,7] (fun v5 v6 v7 wx=>ObC W (s.X.heap++[⟨c,List.replicate k xa4⟩]) ⟨4,s.X.heap.length⟩ er v5 v6 wx/\v7=.int .i64 er)
  case first=>
    refine xat (S:=fun w'=>xdN sb (.slice ac s.X.cz.length cc) (.slice ah s.X.heap.length ch) s.X.ez (.slice al s.cells.length kl) (.slice at' s.ts.length kt) sv w') [] (by kernel_rfl) ?_
    have hb:Below W.heap.size W W.drew:=(Below.refl _ W).drew;generalize W.drew=U at *
    repeat' first
     | (
       refine tk 0 (⟨some 17,.move (.tmp 0),86,_,_,none⟩) (.pointer (some ⟨sb,0,none⟩)) rfl (hSl _ hb) (fun _ _ _ h=>h) rfl ?_ ?_ ?_
       ·decide +kernel
       ·intro w hSw;obtain⟨q0,q1,q2,q3,q4,q5⟩:=hSw;go_simp
       try simp only[Act.put,qzF,qzG,qzH])
     | (
       refine tk 1 (⟨some 18,.nilCheck (.tmp 17),0,_,_,none⟩) (.pointer (some ⟨sb,0,none⟩)) rfl (hSl _ hb) (fun _ _ _ h=>h) rfl ?_ ?_ ?_
       ·decide +kernel
       ·intro w hSw;obtain⟨q0,q1,q2,q3,q4,q5⟩:=hSw;go_simp
       try simp only[Act.put,qzF,qzG,qzH])
     | (
       refine tk 2 (⟨some 19,.fieldAddr 31 (.tmp 18) 0,0,_,_,none⟩) (.pointer (some ⟨sb,0,none⟩)) rfl (hSl _ hb) (fun _ _ _ h=>h) rfl ?_ ?_ ?_
       ·decide +kernel
       ·intro w hSw;obtain⟨q0,q1,q2,q3,q4,q5⟩:=hSw;go_simp
       try simp only[Act.put,qzF,qzG,qzH])
     | (
       refine tk 3 (⟨some 20,.fieldAddr 26 (.tmp 19) 1,0,_,_,none⟩) (.pointer (some ⟨sb,1,none⟩)) rfl (hSl _ hb) (fun _ _ _ h=>h) rfl ?_ ?_ ?_
       ·decide +kernel
       ·intro w hSw;obtain⟨q0,q1,q2,q3,q4,q5⟩:=hSw;go_simp
       try simp only[Act.put,qzF,qzG,qzH])
     | (
       refine tk 4 (⟨some 21,.load 24 (.tmp 20),24,_,_,none⟩) (.slice ah s.X.heap.length ch) rfl (hSl _ hb) (fun _ _ _ h=>h) rfl ?_ ?_ ?_
       ·decide +kernel
       ·intro w hSw;obtain⟨q0,q1,q2,q3,q4,q5⟩:=hSw;go_simp
       try simp only[Act.put,qzF,qzG,qzH])
     | (
       refine tk 5 (⟨some 22,.move (.tmp 1),3,_,_,none⟩) (.int .i64 c) rfl (hSl _ hb) (fun _ _ _ h=>h) rfl ?_ ?_ ?_
       ·decide +kernel
       ·intro w hSw;obtain⟨q0,q1,q2,q3,q4,q5⟩:=hSw;go_simp
       try simp only[Act.put,qzF,qzG,qzH])
     | (
       refine tk 6 (⟨some 23,.move (.tmp 0),86,_,_,none⟩) (.pointer (some ⟨sb,0,none⟩)) rfl (hSl _ hb) (fun _ _ _ h=>h) rfl ?_ ?_ ?_
       ·decide +kernel
       ·intro w hSw;obtain⟨q0,q1,q2,q3,q4,q5⟩:=hSw;go_simp
       try simp only[Act.put,qzF,qzG,qzH])
     | (
       refine tk 7 (⟨some 24,.nilCheck (.tmp 23),0,_,_,none⟩) (.pointer (some ⟨sb,0,none⟩)) rfl (hSl _ hb) (fun _ _ _ h=>h) rfl ?_ ?_ ?_
       ·decide +kernel
       ·intro w hSw;obtain⟨q0,q1,q2,q3,q4,q5⟩:=hSw;go_simp
       try simp only[Act.put,qzF,qzG,qzH])
     | (
       refine tk 8 (⟨some 25,.fieldAddr 31 (.tmp 24) 0,0,_,_,none⟩) (.pointer (some ⟨sb,0,none⟩)) rfl (hSl _ hb) (fun _ _ _ h=>h) rfl ?_ ?_ ?_
       ·decide +kernel
       ·intro w hSw;obtain⟨q0,q1,q2,q3,q4,q5⟩:=hSw;go_simp
       try simp only[Act.put,qzF,qzG,qzH])
     | (
       refine tk 9 (⟨some 26,.load 26 (.tmp 25),26,_,_,none⟩) (WV (.slice ac s.X.cz.length cc) (.slice ah s.X.heap.length ch) s.X.ez) rfl (hSl _ hb) (fun _ _ _ h=>h) rfl ?_ ?_ ?_
       ·decide +kernel
       ·intro w hSw;obtain⟨q0,q1,q2,q3,q4,q5⟩:=hSw;go_simp
       try simp only[Act.put,qzF,qzG,qzH])
     | (
       refine tk 10 (⟨some 27,.move (.tmp 1),3,_,_,none⟩) (.int .i64 c) rfl (hSl _ hb) (fun _ _ _ h=>h) rfl ?_ ?_ ?_
       ·decide +kernel
       ·intro w hSw;obtain⟨q0,q1,q2,q3,q4,q5⟩:=hSw;go_simp
       try simp only[Act.put,qzF,qzG,qzH])
     | (
       refine tk 13 (⟨some 16,.move (.tmp 29),151,_,_,none⟩) (.tuple #[.slice a3 n3 k3,VV v,.int .i64 er]) rfl (hSl _ hb) (fun _ _ _ h=>h) rfl ?_ ?_ ?_
       ·decide +kernel
       ·intro w hSw;obtain⟨q0,q1,q2,q3,q4,q5⟩:=hSw;go_simp
       try simp only[Act.put,qzF,qzG,qzH])
     | (
       refine tk 14 (⟨some 30,.extract (.tmp 16) 0,24,_,_,none⟩) (.slice a3 n3 k3) rfl (hSl _ hb) (fun _ _ _ h=>h) rfl ?_ ?_ ?_
       ·decide +kernel
       ·intro w hSw;obtain⟨q0,q1,q2,q3,q4,q5⟩:=hSw;go_simp
       try simp only[Act.put,qzF,qzG,qzH])
     | (
       refine tk 15 (⟨some 31,.extract (.tmp 16) 1,41,_,_,none⟩) (VV v) rfl (hSl _ hb) (fun _ _ _ h=>h) rfl ?_ ?_ ?_
       ·decide +kernel
       ·intro w hSw;obtain⟨q0,q1,q2,q3,q4,q5⟩:=hSw;go_simp
       try simp only[Act.put,qzF,qzG,qzH])
     | (
       refine tk 16 (⟨some 32,.extract (.tmp 16) 2,33,_,_,none⟩) (.int .i64 er) rfl (hSl _ hb) (fun _ _ _ h=>h) rfl ?_ ?_ ?_
       ·decide +kernel
       ·intro w hSw;obtain⟨q0,q1,q2,q3,q4,q5⟩:=hSw;go_simp
       try simp only[Act.put,qzF,qzG,qzH])
     | (
       refine tk 18 (⟨some 5,.assign (.tmp 30),24,_,_,none⟩) (.slice a3 n3 k3) rfl (hSl _ hb) (fun _ _ _ h=>h) rfl ?_ ?_ ?_
       ·decide +kernel
       ·intro w hSw;obtain⟨q0,q1,q2,q3,q4,q5⟩:=hSw;go_simp
       try simp only[Act.put,qzF,qzG,qzH])
     | (
       refine tk 20 (⟨some 7,.assign (.tmp 32),33,_,_,none⟩) (.int .i64 er) rfl (hSl _ hb) (fun _ _ _ h=>h) rfl ?_ ?_ ?_
       ·decide +kernel
       ·intro w hSw;obtain⟨q0,q1,q2,q3,q4,q5⟩:=hSw;go_simp
       try simp only[Act.put,qzF,qzG,qzH])
     | (
       refine rdy [11,17] rfl ?_ ⟨?_,?_,trivial⟩
       ·decide +kernel)
     | (
       refine rdy [12,17] rfl ?_ ⟨?_,?_,trivial⟩
       ·decide +kernel)
     | (
       refine rdy [11] rfl ?_ ⟨?_,trivial⟩
       ·decide +kernel)
     | (
       refine rdy [12] rfl ?_ ⟨?_,trivial⟩
       ·decide +kernel)
     | (
       refine rdy [17] rfl ?_ ⟨?_,trivial⟩
       ·decide +kernel)
     | (
       refine rdy [19] rfl ?_ ⟨?_,trivial⟩
       ·decide +kernel)
     | (
       refine xa0 (o:=⟨some 28,.call ⟨.value (.func 83),#[.tmp 26,.tmp 27],#[26,3]⟩,3,_,_,none⟩) rfl (fun K' hK=>?_)
       have hcall:=hsl U (xaf hbW hb);refine xa1 rfl 83 (.func 83) #[.tmp 26,.tmp 27] _ rfl #[] rfl #[WV (.slice ac s.X.cz.length cc) (.slice ah s.X.heap.length ch) s.X.ez,.int .i64 c] (by simp[Act.eval,Act.put]) (xda Tryz.func83 (by kernel_rfl) (by kernel_rfl) _ _) ?_
       refine (show Calls Tryz.prog 83 #[WV (.slice ac s.X.cz.length cc) (.slice ah s.X.heap.length ch) s.X.ez,.int .i64 c] U _ from hcall.mono ?_)
       rintro e U ⟨rfl,hcV⟩;refine⟨_,rfl,?_⟩;replace hb:=xaf hb hcV;refine hK _ _ (fun _=>?_) ?_
       ·exact hSl _ hb
       clear hK K' hcall
       try simp only[Act.put,qzF,qzG,qzH]
       (try replace hZA:=xaa hZA hcV)
       (try replace hlA:=qzE hlA hcV.size)
       clear hcV;have tokS:True:=trivial)
     | (
       refine xa0 (o:=⟨some 29,.call ⟨.value (.func 82),#[.tmp 21,.tmp 22,.tmp 28],#[24,3,3]⟩,151,_,_,none⟩) rfl (fun K' hK=>?_)
       have hm0:=hb.size
       (try have hoA:=hlA)
       have hcall:=hnw U (xaf hbW hb);obtain⟨lo,hlo⟩:∃ lo,U.heap.size=lo:=⟨_,rfl⟩;rw[hlo] at hm0
       (try rw[hlo] at hoA)
       refine xa1 rfl 82 (.func 82) #[.tmp 21,.tmp 22,.tmp 28] _ rfl #[] rfl #[.slice ah s.X.heap.length ch,.int .i64 c,.int .i64 (k:Int)] (by simp[Act.eval,Act.put]) (xda Tryz.func82 (by kernel_rfl) (by kernel_rfl) _ _) ?_
       refine (show Calls Tryz.prog 82 #[.slice ah s.X.heap.length ch,.int .i64 c,.int .i64 (k:Int)] U _ from hcall.mono ?_)
       rintro e U ⟨hcV,a3,n3,k3,v,rfl,hNw⟩;rw[hlo] at hNw;refine⟨_,rfl,?_⟩;replace hb:=xaf hb hcV;refine hK _ _ (fun _=>?_) ?_
       ·exact hSl _ hb
       clear hK K' hcall
       try simp only[Act.put,qzF,qzG,qzH]
       (try replace hZA:=xaa hZA hcV)
       (try replace hlA:=qzE hlA hcV.size)
       obtain⟨V,hNV,hag,hmV,hu⟩:∃ V:World,Hid (er=0->v=⟨4,s.X.heap.length⟩/\xav (fun c=>lo<=c) V (.slice a3 n3 k3) (s.X.heap++[(⟨c,List.replicate k xa4⟩:QO)]))/\(∀ c,lo<=c->c<V.heap.size->U.heap[c]?=V.heap[c]?)/\V.heap.size<=U.heap.size/\lo<=V.heap.size:=⟨U,hNw,fun _ _ _=>rfl,qzC _,by rw[← hlo];exact hcV.size⟩
       clear hNw hcV hlo)
     | (
       refine xa0 (o:=⟨some 6,.alloc 41,0,_,_,none⟩) rfl (fun K' hK=>?_)
       go_simp;refine hK _ _ (fun _=>?_) ?_
       ·exact hSl _ (xaf hb (xai _ _))
       clear hK K'
       try simp only[Act.put,qzF,qzG,qzH]
       have hZA:(U.alloc (.cells #[.int .i64 0,.int .i64 0] 41)).heap[U.heap.size]?=some (.cells #[.int .i64 0,.int .i64 0] 41 (0,0)):=heap_alloc_new _ _;have hk:=xai U (.cells #[.int .i64 0,.int .i64 0] 41);have hzA:=hb.size;have hlA:U.heap.size<(U.alloc (.cells #[.int .i64 0,.int .i64 0] 41)).heap.size:=by simp
       replace hb:=xaf hb hk
       (try replace hag:=fun c h1 h2=>(hk.block c (qzE h2 hmV)).trans (hag c h1 h2))
       (try have hoA:U.heap.size<lo\/V.heap.size<=U.heap.size:=.inr hmV)
       (try replace hmV:=qzD hmV hk.size)
       clear hk;generalize U.heap.size=bA at *;generalize U.alloc (.cells #[.int .i64 0,.int .i64 0] 41)=U at *)
     | (
       refine xa0 (o:=⟨none,.store 41 (.tmp 6) (.tmp 31),0,_,_,none⟩) rfl (fun K' hK=>?_)
       have q:=bx2 hZA;have rf:=q.1;have r0:=q.2.1;have r1:=q.2.2;obtain⟨hZn,hch⟩:=set2 hZA (.int .i64 v.k) (.int .i64 v.n);go_simp;refine hK _ _ (fun _=>?_) ?_
       ·exact hSl _ (hb.trans (hch.below hzA))
       clear hK K' q rf r0 r1
       try simp only[Act.put,qzF,qzG,qzH]
       replace hZA:=hZn;clear hZn;replace hb:=hb.trans (hch.below hzA);replace hag:=fun c h1 h2=>(hch.blk c (by omega)).trans (hag c h1 h2)
       clear hch;generalize ((U.setCell ⟨bA,0,none⟩ (.int .i64 v.k)).setCell ⟨bA,1,none⟩ (.int .i64 v.n))=U at *)
     | (
       refine xaE ?_ ?_ _
       ·decide +kernel
       try simp only[Act.put,qzF,qzG,qzH]
       have HFIN:Hid (ObC W (s.X.heap++[⟨c,List.replicate k xa4⟩]) ⟨4,s.X.heap.length⟩ er (.slice a3 n3 k3) (.pointer (some ⟨bA,0,none⟩)) U):=⟨bA,a3,n3,k3,v,rfl,rfl,hZA,hzA,hb,fun h0=>⟨(hNV.out h0).1,(hNV.out h0).2.keep xaB (Keeps.of_block hag) (fun c h1=>qzD hm0 h1)⟩⟩
       go_wp2_with fail
       go_meet
       case rel=>exact⟨HFIN.out,rfl⟩)
  case rest=>
   obtain⟨⟨bA,a3,n3,k3,v,rfl,rfl,hZA,hzA,hbF,hNF⟩,rfl⟩:=hcut;have hRc:=hR.later hbF
   by_cases he:er=0
   ·subst he;obtain⟨rfl,hH3⟩:=hNF rfl;have hRR:=hid (h3.out hB rfl);obtain⟨s0,s1,s2,s3,s4,s5⟩:=xdY hRc.box;have sf:=xaq hRc.box;obtain⟨hbY,hcY⟩:=setH hRc.box (.slice a3 n3 k3);have hZY:=hcY.held hZA (by omega)
    obtain⟨-,f0,f1⟩:=bx2 hZY;have hre:=hcY.held hRc.re (by omega)
    obtain⟨rf,r0,r1,r2,r3⟩:=bx4 hre;obtain⟨hF,hcF⟩:=xk4 hre (.int .i64 0) (.int .i64 s.X.heap.length) (.int .i64 4) (.int .i64 s.X.heap.length);have HF:=hid (xrx HS.out hP (xaf hbW hbF) hcY (Below.refl _ _) hcF (qzC _) hlt hbY (n:=W.heap.size) (by omega) (by omega) hH3 (r:=⟨0,s.X.heap.length,⟨4,s.X.heap.length⟩⟩) rfl)
    clear hH3 hNF;go_wp2;refine bodyPost_ret (v:=ReV ⟨0,s.X.heap.length,⟨4,s.X.heap.length⟩⟩) ?_ rfl (by rw[hRR.out];exact HF.out)
    simp[results,Tryz.results54,go_sem,r0,r1,r2,r3]
   ·have hRR:=hid (h2.out hB he);have hrf:=fun w'=>xdB er w'
    go_wp2_with fail;refine (hrf _).mono ?_;rintro e Z ⟨rfl,hbZ⟩;have hreZ:=xaa hRc.re hbZ;obtain⟨rf,r0,r1,r2,r3⟩:=bx4 hreZ;obtain⟨hF,hcF⟩:=xk4 hreZ (.int .i64 er) (.int .i64 0) (.int .i64 0) (.int .i64 0);have HF:=hid (xgu HX.out HS.out (xaf (xaf hbW hbF) hbZ) hcF (qzC _) (r:=noE er 0) rfl);go_wp2;refine bodyPost_ret (v:=ReV (noE er 0)) ?_ rfl (by rw[hRR.out];exact HF.out)
    simp[results,Tryz.results54,go_sem,r0,r1,r2,r3]
end Go.Proofs.YtbafokihegegiaaGreatDoor
