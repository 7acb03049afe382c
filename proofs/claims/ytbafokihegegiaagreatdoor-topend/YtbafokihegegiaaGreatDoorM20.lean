/- A part. -/
import Derived.Test.YtbafokihegegiaaGreatDoorM16
import Derived.Test.YtbafokihegegiaaGreatDoorM17
import Derived.Test.YtbafokihegegiaaGreatDoorM19
namespace Go.Proofs.YtbafokihegegiaaGreatDoor
open Go.ChangeShapes Go.WideShapes Go.ChangeAt Go.RowKit
set_option linter.unusedSimpArgs false
set_option linter.unusedVariables false
set_option maxHeartbeats 8000000
set_option maxRecDepth 8000
theorem bx2 {w:World}{b:Nat}{x y:Value}{t:TypeId}(h:w.heap[b]?=some (.cells #[x,y] t (0,0))):(∀ o,w.frozen? ⟨b,o,none⟩=false)/\w.cell? ⟨b,0,none⟩=some x/\w.cell? ⟨b,1,none⟩=some y:=by
 refine⟨xaq h,?_,?_⟩<;>(rw[qzB h];rfl)
theorem set2 {w:World}{b:Nat}{x y:Value}{t:TypeId}(h:w.heap[b]?=some (.cells #[x,y] t (0,0)))(u0 u1:Value):((w.setCell ⟨b,0,none⟩ u0).setCell ⟨b,1,none⟩ u1).heap[b]?=some (.cells #[u0,u1] t (0,0))/\Chg b w ((w.setCell ⟨b,0,none⟩ u0).setCell ⟨b,1,none⟩ u1):=
 ⟨by rw[xae (xae h _) _];rfl,((Chg.refl _ _).set _ _).set _ _⟩
def erI (X:QW)(c:Int)(m:QM):Int:=match xa8 X.cz c with
 | none=>6
 | some y=>if xcR y.mz m.name<0/\8<=y.mz.length then 5 else 0
def inX (X:QW)(c:Int)(m:QM):QW:=match xa8 X.cz c with
 | none=>X
 | some y=>xdf X c.toNat y m
theorem xnw {P:Nat->Prop}(X:QW)(c:Int)(m:QM)(cv hv mv:Value)(w:World)(hh:xag P w cv X.cz)(hH:xav P w hv X.heap)(hM:xaG P w mv m.code)(hmn:m.name.size<=140737488351232){er:Int}(her:erI X c m=er) :
  Calls Tryz.prog 80 #[WV cv hv X.ez,.int .i64 c,MV m mv] w fun e w'=>Below w.heap.size w w'/\∃ (a3:Option Addr) (n3 k3:Nat) (a4:Option Addr) (n4 k4:Nat) (ep:Int),e=.returned (.tuple #[WV (.slice a3 n3 k3) (.slice a4 n4 k4) ep,.int .i64 er])/\(er=0->ep=(inX X c m).ez/\xag (fun b=>w.heap.size<=b) w' (.slice a3 n3 k3) (inX X c m).cz/\xav (fun b=>w.heap.size<=b) w' (.slice a4 n4 k4) X.heap):=by
 unfold erI at her;unfold inX
 cases hc:xa8 X.cz c with
 | none=>
  rw[hc] at her;dsimp only at her;subst her
  have hno:xc3 X.cz.length c=false:=by
   unfold xa8 at hc;unfold xc3
   split at hc
   ·have:=List.getElem?_eq_none_iff.1 hc
    simp;omega
   ·simp;omega
  refine (xi9 X c m cv hv mv w hh hH hM hno).mono ?_;rintro e w' ⟨rfl,hb⟩
  exact⟨hb,none,0,0,none,0,0,0,rfl,fun h0=>absurd h0 (by decide)⟩
 | some y=>
  rw[hc] at her;obtain⟨k,rfl,hx⟩:=xa5 hc;simp only[Int.toNat_natCast] at her ⊢
  by_cases h1:xcR y.mz m.name<0
  ·by_cases h8:8<=y.mz.length
   ·rw[if_pos ⟨h1,h8⟩] at her;subst her;refine (xkf X k y m cv hv mv w hh hH hM hx h1 h8).mono ?_;rintro e w' ⟨rfl,hb⟩
    exact⟨hb,none,0,0,none,0,0,0,rfl,fun h0=>absurd h0 (by decide)⟩
   ·rw[if_neg (fun h=>h8 h.2)] at her
    subst her;refine (xli X k y m cv hv mv w hh hH hM hmn hx h1 (by omega)).mono ?_
    rintro e w' ⟨cv',hv',rfl,hC,hH,hb⟩;obtain⟨a3,k3,rfl,-⟩:=id hC;obtain⟨a4,k4,rfl,-⟩:=id hH
    exact⟨hb,_,_,_,_,_,_,_,rfl,fun _=>⟨rfl,hC,hH⟩⟩
  ·rw[if_neg (fun h=>h1 h.1)] at her
   subst her;refine (xiW X k y m cv hv mv w hh hH hM hmn hx (by omega)).mono ?_
   rintro e w' ⟨cv',hv',rfl,hC,hH,hb⟩;obtain⟨a3,k3,rfl,-⟩:=id hC;obtain⟨a4,k4,rfl,-⟩:=id hH
   exact⟨hb,_,_,_,_,_,_,_,rfl,fun _=>⟨rfl,hC,hH⟩⟩
def xm3 (s:Sn)(c:Int)(m:QM):Sn × ReE:=
 if (xce (xaS s.X.cz c) s.X.cz.length c m).1≠0 then (s,noE (xce (xaS s.X.cz c) s.X.cz.length c m).1 (xce (xaS s.X.cz c) s.X.cz.length c m).2)
 else if erI s.X c m≠0 then (s,noE (erI s.X c m) 0) else (⟨inX s.X c m,s.cells,s.ts,s.saved⟩,noE 0 0)
theorem xkX {P Q:Nat->Prop}(s:Sn)(c:Int)(m:QM)(cv hv lv tv sv mv:Value)(w:World)(sb:Nat)(hbx:w.heap[sb]?=some (SeO cv hv s.X.ez lv tv sv))(hS:SesAt P w cv hv lv tv s)(hP:∀ b,P b->b≠sb)(hM:xaG Q w mv m.code)(hn:m.name.size<=140737488351232) :
  Calls Tryz.prog 53 #[.pointer (some ⟨sb,0,none⟩),.int .i64 c,MV m mv] w fun e w'=>xct P w sb sv (xm3 s c m).1 (xm3 s c m).2 e w':=by
 obtain⟨er,her⟩:∃ er,erI s.X c m=er:=⟨_,rfl⟩;obtain⟨ck,hck0⟩:∃ ck,xce (xaS s.X.cz c) s.X.cz.length c m=ck:=⟨_,rfl⟩;have hM':xaG (fun _=>True) w mv m.code:=hM.keep xaU (Keeps.refl _ _) fun _ _=>trivial
 have hC':xag (fun _=>True) w cv s.X.cz:=hS.c.keep xax (Keeps.refl _ _) fun _ _=>trivial
 have hH':xav (fun _=>True) w hv s.X.heap:=hS.h.keep xaB (Keeps.refl _ _) fun _ _=>trivial
 have hck:=fun (w':World) (hb:Below w.heap.size w w')=>xnu s.X c m cv hv mv w' (hC'.later xax hb) (hH'.later xaB hb) (hM'.later xaU hb) hn
 have hin:=fun (w':World) (hb:Below w.heap.size w w')=>xnw s.X c m cv hv mv w' (hC'.later xax hb) (hH'.later xaB hb) (hM'.later xaU hb) hn her
 rw[hck0] at hck;have h1:Hid (ck.1≠0->xm3 s c m=(s,noE ck.1 ck.2)):=fun h=>by unfold xm3;rw[hck0,if_pos h]
 have h2:Hid (ck.1=0->er≠0->xm3 s c m=(s,noE er 0)):=fun h h'=>by unfold xm3;rw[hck0,if_neg (by simp[h]),her,if_pos h']
 have h3:Hid (ck.1=0->er=0->xm3 s c m=(⟨inX s.X c m,s.cells,s.ts,s.saved⟩,noE 0 0)):=fun h h'=>by unfold xm3;rw[hck0,if_neg (by simp[h]),her,if_neg (by simp[h'])]
 clear her hck0;generalize xm3 s c m=RR at *;obtain⟨ac,cc,rfl,-⟩:=id hS.c;obtain⟨ah,ch,rfl,-⟩:=id hS.h;obtain⟨al,kl,rfl,-⟩:=id hS.l;obtain⟨at',kt,rfl,-⟩:=id hS.t;obtain⟨am,cm,rfl,-⟩:=id hM;have hbW:=xbp w (.cells #[.string m.name,.int .i64 m.args,.int .i64 m.temps,.int .i64 m.prim,.slice am m.code.length cm] 51) (.cells #[.int .i64 0,.int .i64 0,.int .i64 0,.int .i64 0] 43);have hlt:=xam hbx;have hR:BxT sb (.slice ac s.X.cz.length cc) (.slice ah s.X.heap.length ch) s.X.ez (.slice al s.cells.length kl) (.slice at' s.ts.length kt) sv w.heap.size (w.heap.size+1) (.cells #[.string m.name,.int .i64 m.args,.int .i64 m.temps,.int .i64 m.prim,.slice am m.code.length cm] 51 (0,0)) ((w.alloc (.cells #[.string m.name,.int .i64 m.args,.int .i64 m.temps,.int .i64 m.prim,.slice am m.code.length cm] 51)).alloc (.cells #[.int .i64 0,.int .i64 0,.int .i64 0,.int .i64 0] 43)):=⟨xaa hbx hbW,xaa (heap_alloc_new w _) (xai _ _),xaR _ _ _ (by simp)⟩
 have HS:=hid hS;have HX:=hid hbx;clear hS hM hM' hC' hH' hbx;go_enter Tryz.func53,Tryz.ntmps53
 go_upto_region 1 with (fail)
 have hWn:w.heap.size+2<=((w.alloc (.cells #[.string m.name,.int .i64 m.args,.int .i64 m.temps,.int .i64 m.prim,.slice am m.code.length cm] 51)).alloc (.cells #[.int .i64 0,.int .i64 0,.int .i64 0,.int .i64 0] 43)).heap.size:=by simp
 generalize ((w.alloc (.cells #[.string m.name,.int .i64 m.args,.int .i64 m.temps,.int .i64 m.prim,.slice am m.code.length cm] 51)).alloc (.cells #[.int .i64 0,.int .i64 0,.int .i64 0,.int .i64 0] 43))=W at *;have hSl:∀ W':World,Below W.heap.size W W'->xdN sb (.slice ac s.X.cz.length cc) (.slice ah s.X.heap.length ch) s.X.ez (.slice al s.cells.length kl) (.slice at' s.ts.length kt) sv W'/\W'.cell? ⟨w.heap.size,0,none⟩=some (.string m.name)/\W'.cell? ⟨w.heap.size,1,none⟩=some (.int .i64 m.args)/\W'.cell? ⟨w.heap.size,2,none⟩=some (.int .i64 m.temps)/\W'.cell? ⟨w.heap.size,3,none⟩=some (.int .i64 m.prim)/\W'.cell? ⟨w.heap.size,4,none⟩=some (.slice am m.code.length cm):=fun W' hb=>⟨xdY (hR.later hb).box,by rw[qzB (hR.later hb).pa];rfl,by rw[qzB (hR.later hb).pa];rfl,by rw[qzB (hR.later hb).pa];rfl,by rw[qzB (hR.later hb).pa];rfl,by rw[qzB (hR.later hb).pa];rfl⟩
 go_cut [7] (fun v7 wx=>∃ bA:Nat,v7=.pointer (some ⟨bA,0,none⟩)/\wx.heap[bA]?=some (.cells #[.int .i64 ck.1,.int .i64 ck.2] 90 (0,0))/\W.heap.size<=bA/\Below W.heap.size W wx)
 case first=>
  refine xat (S:=fun w'=>xdN sb (.slice ac s.X.cz.length cc) (.slice ah s.X.heap.length ch) s.X.ez (.slice al s.cells.length kl) (.slice at' s.ts.length kt) sv w'/\w'.cell? ⟨w.heap.size,0,none⟩=some (.string m.name)/\w'.cell? ⟨w.heap.size,1,none⟩=some (.int .i64 m.args)/\w'.cell? ⟨w.heap.size,2,none⟩=some (.int .i64 m.temps)/\w'.cell? ⟨w.heap.size,3,none⟩=some (.int .i64 m.prim)/\w'.cell? ⟨w.heap.size,4,none⟩=some (.slice am m.code.length cm)) [] (by kernel_rfl) ?_
  have hb:Below W.heap.size W W.drew:=(Below.refl _ W).drew;generalize W.drew=U at *
  repeat' first
   | (
     refine tk 0 (⟨some 10,.move (.tmp 0),86,_,_,none⟩) (.pointer (some ⟨sb,0,none⟩)) rfl (hSl _ hb) (fun _ _ _ h=>h) rfl ?_ ?_ ?_
     ·decide +kernel
     ·intro w hSw;obtain⟨⟨q0,q1,q2,q3,q4,q5⟩,p0,p1,p2,p3,p4⟩:=hSw;go_simp
     try simp only[Act.put,qzF,qzG,qzH])
   | (
     refine tk 1 (⟨some 11,.nilCheck (.tmp 10),0,_,_,none⟩) (.pointer (some ⟨sb,0,none⟩)) rfl (hSl _ hb) (fun _ _ _ h=>h) rfl ?_ ?_ ?_
     ·decide +kernel
     ·intro w hSw;obtain⟨⟨q0,q1,q2,q3,q4,q5⟩,p0,p1,p2,p3,p4⟩:=hSw;go_simp
     try simp only[Act.put,qzF,qzG,qzH])
   | (
     refine tk 2 (⟨some 12,.fieldAddr 31 (.tmp 11) 0,0,_,_,none⟩) (.pointer (some ⟨sb,0,none⟩)) rfl (hSl _ hb) (fun _ _ _ h=>h) rfl ?_ ?_ ?_
     ·decide +kernel
     ·intro w hSw;obtain⟨⟨q0,q1,q2,q3,q4,q5⟩,p0,p1,p2,p3,p4⟩:=hSw;go_simp
     try simp only[Act.put,qzF,qzG,qzH])
   | (
     refine tk 3 (⟨some 13,.load 26 (.tmp 12),26,_,_,none⟩) (WV (.slice ac s.X.cz.length cc) (.slice ah s.X.heap.length ch) s.X.ez) rfl (hSl _ hb) (fun _ _ _ h=>h) rfl ?_ ?_ ?_
     ·decide +kernel
     ·intro w hSw;obtain⟨⟨q0,q1,q2,q3,q4,q5⟩,p0,p1,p2,p3,p4⟩:=hSw;go_simp
     try simp only[Act.put,qzF,qzG,qzH])
   | (
     refine tk 4 (⟨some 14,.move (.tmp 1),3,_,_,none⟩) (.int .i64 c) rfl (hSl _ hb) (fun _ _ _ h=>h) rfl ?_ ?_ ?_
     ·decide +kernel
     ·intro w hSw;obtain⟨⟨q0,q1,q2,q3,q4,q5⟩,p0,p1,p2,p3,p4⟩:=hSw;go_simp
     try simp only[Act.put,qzF,qzG,qzH])
   | (
     refine tk 5 (⟨some 15,.load 51 (.tmp 5),51,_,_,none⟩) (MV m (.slice am m.code.length cm)) rfl (hSl _ hb) (fun _ _ _ h=>h) rfl ?_ ?_ ?_
     ·decide +kernel
     ·intro w hSw;obtain⟨⟨q0,q1,q2,q3,q4,q5⟩,p0,p1,p2,p3,p4⟩:=hSw;go_simp
     try simp only[Act.put,qzF,qzG,qzH])
   | (
     refine rdy [6,7] rfl ?_ ⟨?_,?_,trivial⟩
     ·decide +kernel)
   | (
     refine rdy [6] rfl ?_ ⟨?_,trivial⟩
     ·decide +kernel)
   | (
     refine rdy [7] rfl ?_ ⟨?_,trivial⟩
     ·decide +kernel)
   | (
     refine rdy [8] rfl ?_ ⟨?_,trivial⟩
     ·decide +kernel)
   | (
     refine xa0 (o:=⟨some 16,.call ⟨.value (.func 79),#[.tmp 13,.tmp 14,.tmp 15],#[26,3,51]⟩,90,_,_,none⟩) rfl (fun K' hK=>?_)
     have hcall:=hck U (xaf hbW hb);refine xa1 rfl 79 (.func 79) #[.tmp 13,.tmp 14,.tmp 15] _ rfl #[] rfl #[WV (.slice ac s.X.cz.length cc) (.slice ah s.X.heap.length ch) s.X.ez,.int .i64 c,MV m (.slice am m.code.length cm)] (by simp[Act.eval,Act.put]) (xda Tryz.func79 (by kernel_rfl) (by kernel_rfl) _ _) ?_
     refine (show Calls Tryz.prog 79 #[WV (.slice ac s.X.cz.length cc) (.slice ah s.X.heap.length ch) s.X.ez,.int .i64 c,MV m (.slice am m.code.length cm)] U _ from hcall.mono ?_)
     rintro e U ⟨rfl,hcV⟩;refine⟨_,rfl,?_⟩;replace hb:=xaf hb hcV;refine hK _ _ (fun _=>?_) ?_
     ·exact hSl _ hb
     clear hK K' hcall
     try simp only[Act.put,qzF,qzG,qzH]
     (try replace hZA:=xaa hZA hcV)
     (try replace hlA:=qzE hlA hcV.size)
     clear hcV;have hag:∀ c:Nat,c<0->c<0->U.heap[c]?=U.heap[c]?:=fun _ _ _=>rfl)
   | (
     refine xa0 (o:=⟨some 7,.alloc 90,0,_,_,none⟩) rfl (fun K' hK=>?_)
     go_simp;refine hK _ _ (fun _=>?_) ?_
     ·exact hSl _ (xaf hb (xai _ _))
     clear hK K'
     try simp only[Act.put,qzF,qzG,qzH]
     have hZA:(U.alloc (.cells #[.int .i64 0,.int .i64 0] 90)).heap[U.heap.size]?=some (.cells #[.int .i64 0,.int .i64 0] 90 (0,0)):=heap_alloc_new _ _;have hk:=xai U (.cells #[.int .i64 0,.int .i64 0] 90);have hzA:=hb.size;have hlA:U.heap.size<(U.alloc (.cells #[.int .i64 0,.int .i64 0] 90)).heap.size:=by simp
     replace hb:=xaf hb hk
     (try replace hag:=fun c h1 h2=>(hk.block c (qzE h2 hmV)).trans (hag c h1 h2))
     (try have hoA:U.heap.size<lo\/V.heap.size<=U.heap.size:=.inr hmV)
     (try replace hmV:=qzD hmV hk.size)
     clear hk;generalize U.heap.size=bA at *;generalize U.alloc (.cells #[.int .i64 0,.int .i64 0] 90)=U at *)
   | (
     refine xa0 (o:=⟨none,.store 90 (.tmp 7) (.tmp 16),0,_,_,none⟩) rfl (fun K' hK=>?_)
     have q:=bx2 hZA;have rf:=q.1;have r0:=q.2.1;have r1:=q.2.2;obtain⟨hZn,hch⟩:=set2 hZA (.int .i64 ck.1) (.int .i64 ck.2);go_simp;refine hK _ _ (fun _=>?_) ?_
     ·exact hSl _ (hb.trans (hch.below hzA))
     clear hK K' q rf r0 r1
     try simp only[Act.put,qzF,qzG,qzH]
     replace hZA:=hZn;clear hZn;replace hb:=hb.trans (hch.below hzA)
     skip
     clear hch;generalize ((U.setCell ⟨bA,0,none⟩ (.int .i64 ck.1)).setCell ⟨bA,1,none⟩ (.int .i64 ck.2))=U at *)
   | (
     refine xaE ?_ ?_ _
     ·decide +kernel
     try simp only[Act.put,qzF,qzG,qzH]
     have HFIN:Hid (∃ bB:Nat,Value.pointer (some ⟨bA,0,none⟩)=.pointer (some ⟨bB,0,none⟩)/\U.heap[bB]?=some (.cells #[.int .i64 ck.1,.int .i64 ck.2] 90 (0,0))/\W.heap.size<=bB/\Below W.heap.size W U):=⟨bA,rfl,hZA,hzA,hb⟩;go_wp2_with fail
     go_meet
     case rel=>exact HFIN.out)
 case rest=>
  obtain⟨bF,rfl,hZF,hzF,hbF⟩:=hcut;have hRc:=hR.later hbF;obtain⟨-,fF0,fF1⟩:=bx2 hZF
  by_cases h0:ck.1=0
  ·rw[h0] at fF0
   go_upto_region 4 with (fail)
   clear fF0 fF1 hZF hck;replace hR:=hRc;replace hbW:=xaf hbW hbF;have hWn2:w.heap.size+2<=wc.heap.size:=qzD hWn hbF.size;replace hSl:=fun (W':World) (hb:Below wc.heap.size wc W')=>hSl W' (xaf hbF hb)
   clear hRc hbF hzF hWn;generalize wc=W at *
   go_cut [8,9] (fun v8 v9 wx=>xsu W (inX s.X c m).ez (inX s.X c m).cz s.X.heap er v8 wx/\v9=.int .i64 er)
   case first=>
    refine xat (S:=fun w'=>xdN sb (.slice ac s.X.cz.length cc) (.slice ah s.X.heap.length ch) s.X.ez (.slice al s.cells.length kl) (.slice at' s.ts.length kt) sv w'/\w'.cell? ⟨w.heap.size,0,none⟩=some (.string m.name)/\w'.cell? ⟨w.heap.size,1,none⟩=some (.int .i64 m.args)/\w'.cell? ⟨w.heap.size,2,none⟩=some (.int .i64 m.temps)/\w'.cell? ⟨w.heap.size,3,none⟩=some (.int .i64 m.prim)/\w'.cell? ⟨w.heap.size,4,none⟩=some (.slice am m.code.length cm)) [] (by kernel_rfl) ?_
    have hb:Below W.heap.size W W.drew:=(Below.refl _ W).drew;generalize W.drew=U at *
    repeat' first
     | (
       refine tk 0 (⟨some 26,.move (.tmp 0),86,_,_,none⟩) (.pointer (some ⟨sb,0,none⟩)) rfl (hSl _ hb) (fun _ _ _ h=>h) rfl ?_ ?_ ?_
       ·decide +kernel
       ·intro w hSw;obtain⟨⟨q0,q1,q2,q3,q4,q5⟩,p0,p1,p2,p3,p4⟩:=hSw;go_simp
       try simp only[Act.put,qzF,qzG,qzH])
     | (
       refine tk 1 (⟨some 27,.nilCheck (.tmp 26),0,_,_,none⟩) (.pointer (some ⟨sb,0,none⟩)) rfl (hSl _ hb) (fun _ _ _ h=>h) rfl ?_ ?_ ?_
       ·decide +kernel
       ·intro w hSw;obtain⟨⟨q0,q1,q2,q3,q4,q5⟩,p0,p1,p2,p3,p4⟩:=hSw;go_simp
       try simp only[Act.put,qzF,qzG,qzH])
     | (
       refine tk 2 (⟨some 28,.fieldAddr 31 (.tmp 27) 0,0,_,_,none⟩) (.pointer (some ⟨sb,0,none⟩)) rfl (hSl _ hb) (fun _ _ _ h=>h) rfl ?_ ?_ ?_
       ·decide +kernel
       ·intro w hSw;obtain⟨⟨q0,q1,q2,q3,q4,q5⟩,p0,p1,p2,p3,p4⟩:=hSw;go_simp
       try simp only[Act.put,qzF,qzG,qzH])
     | (
       refine tk 3 (⟨some 29,.load 26 (.tmp 28),26,_,_,none⟩) (WV (.slice ac s.X.cz.length cc) (.slice ah s.X.heap.length ch) s.X.ez) rfl (hSl _ hb) (fun _ _ _ h=>h) rfl ?_ ?_ ?_
       ·decide +kernel
       ·intro w hSw;obtain⟨⟨q0,q1,q2,q3,q4,q5⟩,p0,p1,p2,p3,p4⟩:=hSw;go_simp
       try simp only[Act.put,qzF,qzG,qzH])
     | (
       refine tk 4 (⟨some 30,.move (.tmp 1),3,_,_,none⟩) (.int .i64 c) rfl (hSl _ hb) (fun _ _ _ h=>h) rfl ?_ ?_ ?_
       ·decide +kernel
       ·intro w hSw;obtain⟨⟨q0,q1,q2,q3,q4,q5⟩,p0,p1,p2,p3,p4⟩:=hSw;go_simp
       try simp only[Act.put,qzF,qzG,qzH])
     | (
       refine tk 5 (⟨some 31,.load 51 (.tmp 5),51,_,_,none⟩) (MV m (.slice am m.code.length cm)) rfl (hSl _ hb) (fun _ _ _ h=>h) rfl ?_ ?_ ?_
       ·decide +kernel
       ·intro w hSw;obtain⟨⟨q0,q1,q2,q3,q4,q5⟩,p0,p1,p2,p3,p4⟩:=hSw;go_simp
       try simp only[Act.put,qzF,qzG,qzH])
     | (
       refine tk 7 (⟨some 25,.move (.tmp 32),95,_,_,none⟩) (.tuple #[WV (.slice a3 n3 k3) (.slice a4 n4 k4) ep,.int .i64 er]) rfl (hSl _ hb) (fun _ _ _ h=>h) rfl ?_ ?_ ?_
       ·decide +kernel
       ·intro w hSw;obtain⟨⟨q0,q1,q2,q3,q4,q5⟩,p0,p1,p2,p3,p4⟩:=hSw;go_simp
       try simp only[Act.put,qzF,qzG,qzH])
     | (
       refine tk 8 (⟨some 33,.extract (.tmp 25) 0,26,_,_,none⟩) (WV (.slice a3 n3 k3) (.slice a4 n4 k4) ep) rfl (hSl _ hb) (fun _ _ _ h=>h) rfl ?_ ?_ ?_
       ·decide +kernel
       ·intro w hSw;obtain⟨⟨q0,q1,q2,q3,q4,q5⟩,p0,p1,p2,p3,p4⟩:=hSw;go_simp
       try simp only[Act.put,qzF,qzG,qzH])
     | (
       refine tk 9 (⟨some 34,.extract (.tmp 25) 1,33,_,_,none⟩) (.int .i64 er) rfl (hSl _ hb) (fun _ _ _ h=>h) rfl ?_ ?_ ?_
       ·decide +kernel
       ·intro w hSw;obtain⟨⟨q0,q1,q2,q3,q4,q5⟩,p0,p1,p2,p3,p4⟩:=hSw;go_simp
       try simp only[Act.put,qzF,qzG,qzH])
     | (
       refine tk 12 (⟨some 9,.assign (.tmp 34),33,_,_,none⟩) (.int .i64 er) rfl (hSl _ hb) (fun _ _ _ h=>h) rfl ?_ ?_ ?_
       ·decide +kernel
       ·intro w hSw;obtain⟨⟨q0,q1,q2,q3,q4,q5⟩,p0,p1,p2,p3,p4⟩:=hSw;go_simp
       try simp only[Act.put,qzF,qzG,qzH])
     | (
       refine rdy [6,10] rfl ?_ ⟨?_,?_,trivial⟩
       ·decide +kernel)
     | (
       refine rdy [6] rfl ?_ ⟨?_,trivial⟩
       ·decide +kernel)
     | (
       refine rdy [10] rfl ?_ ⟨?_,trivial⟩
       ·decide +kernel)
     | (
       refine rdy [11] rfl ?_ ⟨?_,trivial⟩
       ·decide +kernel)
     | (
       refine xa0 (o:=⟨some 32,.call ⟨.value (.func 80),#[.tmp 29,.tmp 30,.tmp 31],#[26,3,51]⟩,95,_,_,none⟩) rfl (fun K' hK=>?_)
       have hm0:=hb.size
       (try have hoA:=hlA)
       have hcall:=hin U (xaf hbW hb);obtain⟨lo,hlo⟩:∃ lo,U.heap.size=lo:=⟨_,rfl⟩;rw[hlo] at hm0
       (try rw[hlo] at hoA)
       refine xa1 rfl 80 (.func 80) #[.tmp 29,.tmp 30,.tmp 31] _ rfl #[] rfl #[WV (.slice ac s.X.cz.length cc) (.slice ah s.X.heap.length ch) s.X.ez,.int .i64 c,MV m (.slice am m.code.length cm)] (by simp[Act.eval,Act.put]) (xda Tryz.func80 (by kernel_rfl) (by kernel_rfl) _ _) ?_
       refine (show Calls Tryz.prog 80 #[WV (.slice ac s.X.cz.length cc) (.slice ah s.X.heap.length ch) s.X.ez,.int .i64 c,MV m (.slice am m.code.length cm)] U _ from hcall.mono ?_)
       rintro e U ⟨hcV,a3,n3,k3,a4,n4,k4,ep,rfl,hNw⟩;rw[hlo] at hNw;refine⟨_,rfl,?_⟩;replace hb:=xaf hb hcV;refine hK _ _ (fun _=>?_) ?_
       ·exact hSl _ hb
       clear hK K' hcall
       try simp only[Act.put,qzF,qzG,qzH]
       (try replace hZA:=xaa hZA hcV)
       (try replace hlA:=qzE hlA hcV.size)
       obtain⟨V,hNV,hag,hmV,hu⟩:∃ V:World,Hid (er=0->ep=(inX s.X c m).ez/\xag (fun c=>lo<=c) V (.slice a3 n3 k3) (inX s.X c m).cz/\xav (fun c=>lo<=c) V (.slice a4 n4 k4) s.X.heap)/\(∀ c,lo<=c->c<V.heap.size->U.heap[c]?=V.heap[c]?)/\V.heap.size<=U.heap.size/\lo<=V.heap.size:=⟨U,hNw,fun _ _ _=>rfl,qzC _,by rw[← hlo];exact hcV.size⟩
       clear hNw hcV hlo)
     | (
       refine xa0 (o:=⟨some 8,.alloc 26,0,_,_,none⟩) rfl (fun K' hK=>?_)
       go_simp;refine hK _ _ (fun _=>?_) ?_
       ·exact hSl _ (xaf hb (xai _ _))
       clear hK K'
       try simp only[Act.put,qzF,qzG,qzH]
       have hZA:(U.alloc (.cells #[.slice none 0 0,.slice none 0 0,.int .i64 0] 26)).heap[U.heap.size]?=some (.cells #[.slice none 0 0,.slice none 0 0,.int .i64 0] 26 (0,0)):=heap_alloc_new _ _;have hk:=xai U (.cells #[.slice none 0 0,.slice none 0 0,.int .i64 0] 26);have hzA:=hb.size;have hlA:U.heap.size<(U.alloc (.cells #[.slice none 0 0,.slice none 0 0,.int .i64 0] 26)).heap.size:=by simp
       replace hb:=xaf hb hk
       (try replace hag:=fun c h1 h2=>(hk.block c (qzE h2 hmV)).trans (hag c h1 h2))
       (try have hoA:U.heap.size<lo\/V.heap.size<=U.heap.size:=.inr hmV)
       (try replace hmV:=qzD hmV hk.size)
       clear hk;generalize U.heap.size=bA at *;generalize U.alloc (.cells #[.slice none 0 0,.slice none 0 0,.int .i64 0] 26)=U at *)
     | (
       refine xa0 (o:=⟨none,.store 26 (.tmp 8) (.tmp 33),0,_,_,none⟩) rfl (fun K' hK=>?_)
       have q:=bx3 hZA;have rf:=q.1;have r0:=q.2.1;have r1:=q.2.2.1;have r2:=q.2.2.2;obtain⟨hZn,hch⟩:=xsq hZA (.slice a3 n3 k3) (.slice a4 n4 k4) (.int .i64 ep);go_simp;refine hK _ _ (fun _=>?_) ?_
       ·exact hSl _ (hb.trans (hch.below hzA))
       clear hK K' q rf r0 r1 r2
       try simp only[Act.put,qzF,qzG,qzH]
       replace hZA:=hZn;clear hZn;replace hb:=hb.trans (hch.below hzA);replace hag:=fun c h1 h2=>(hch.blk c (by omega)).trans (hag c h1 h2)
       clear hch;generalize (((U.setCell ⟨bA,0,none⟩ (.slice a3 n3 k3)).setCell ⟨bA,1,none⟩ (.slice a4 n4 k4)).setCell ⟨bA,2,none⟩ (.int .i64 ep))=U at *)
     | (
       refine xaE ?_ ?_ _
       ·decide +kernel
       try simp only[Act.put,qzF,qzG,qzH]
       have HFIN:Hid (xsu W (inX s.X c m).ez (inX s.X c m).cz s.X.heap er (.pointer (some ⟨bA,0,none⟩)) U):=⟨bA,a3,n3,k3,a4,n4,k4,ep,rfl,hZA,hzA,hb,fun h0=>⟨(hNV.out h0).1,(hNV.out h0).2.1.keep xax (Keeps.of_block hag) (fun c h1=>qzD hm0 h1),(hNV.out h0).2.2.keep xaB (Keeps.of_block hag) (fun c h1=>qzD hm0 h1)⟩⟩
       go_wp2_with fail
       go_meet
       case rel=>exact⟨HFIN.out,rfl⟩)
   case rest=>
    obtain⟨⟨bA,a3,n3,k3,a4,n4,k4,ep,rfl,hZA,hzA,hbF,hNF⟩,rfl⟩:=hcut;have hRc:=hR.later hbF;have HRC:=hid hRc
    by_cases he:er=0
    ·subst he;obtain⟨rfl,hC3,hH3⟩:=hNF rfl;have hRR:=hid (h3.out h0 rfl);obtain⟨-,fA0,fA1,fA2⟩:=bx3 hZA;obtain⟨s0,s1,s2,s3,s4,s5⟩:=xdY hRc.box;have sf:=xaq hRc.box;obtain⟨hbY,hcY⟩:=xsw hRc.box (.slice a3 n3 k3) (.slice a4 n4 k4) (inX s.X c m).ez;have hre:=hcY.held HRC.out.re (by omega)
     obtain⟨rf,r0,r1,r2,r3⟩:=bx4 hre;obtain⟨hF,hcF⟩:=xk4 hre (.int .i64 0) (.int .i64 0) (.int .i64 0) (.int .i64 0);have hHx:(inX s.X c m).heap=s.X.heap:=by unfold inX;split<;>rfl
     have HF:=hid (xqr HS.out hP (xaf hbW hbF) hcY (Below.refl _ _) hcF (Nat.le_succ _) hlt hbY (X:=inX s.X c m) (n:=W.heap.size) (by omega) (by omega) hC3 (by rw[hHx];exact hH3) (r:=noE 0 0) rfl)
     clear hC3 hH3 hNF hHx;go_wp2;refine bodyPost_ret (v:=ReV (noE 0 0)) ?_ rfl (by rw[hRR.out];exact HF.out)
     simp[results,Tryz.results53,go_sem,r0,r1,r2,r3]
    ·have hRR:=hid (h2.out h0 he);have hrf:=fun w'=>xdB er w'
     go_wp2_with fail;refine (hrf _).mono ?_;rintro e Z ⟨rfl,hbZ⟩;have hreZ:=xaa hRc.re hbZ;obtain⟨rf,r0,r1,r2,r3⟩:=bx4 hreZ;obtain⟨hF,hcF⟩:=xk4 hreZ (.int .i64 er) (.int .i64 0) (.int .i64 0) (.int .i64 0);have HF:=hid (xgu HX.out HS.out (xaf (xaf hbW hbF) hbZ) hcF (Nat.le_succ _) (r:=noE er 0) rfl);go_wp2;refine bodyPost_ret (v:=ReV (noE er 0)) ?_ rfl (by rw[hRR.out];exact HF.out)
     simp[results,Tryz.results53,go_sem,r0,r1,r2,r3]
  ·have hRR:=hid (h1.out h0);obtain⟨rf,r0,r1,r2,r3⟩:=bx4 hRc.re;obtain⟨hF,hcF⟩:=xk4 hRc.re (.int .i64 ck.1) (.int .i64 ck.2) (.int .i64 0) (.int .i64 0);have HF:=hid (xgu HX.out HS.out (xaf hbW hbF) hcF (Nat.le_succ _) (r:=noE ck.1 ck.2) rfl);go_wp2;refine bodyPost_ret (v:=ReV (noE ck.1 ck.2)) ?_ rfl (by rw[hRR.out];exact HF.out)
   simp[results,Tryz.results53,go_sem,r0,r1,r2,r3]
end Go.Proofs.YtbafokihegegiaaGreatDoor
