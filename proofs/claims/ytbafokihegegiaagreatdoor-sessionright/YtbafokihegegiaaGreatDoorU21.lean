import Derived.Test.YtbafokihegegiaaGreatDoorU17
import Derived.Test.YtbafokihegegiaaGreatDoorU18
import Derived.Test.YtbafokihegegiaaGreatDoorU20
namespace Go.Proofs.YtbafokihegegiaaGreatDoor
open ChangeShapes WideShapes ChangeAt RowKit
set_option linter.unusedSimpArgs false
set_option linter.unusedVariables false
set_option maxHeartbeats 8000000
set_option maxRecDepth 8000
theorem bx2 {w:qW}{b:Nat}{x y:Value}{t:TypeId}(h:w.heap[b]?=some (qC #[x,y] t (0,0))):(∀o,w.frozen? (O b o)=false)/\w.cell? (O b 0)=some x/\w.cell? (O b 1)=some y:=by
 refine⟨BN h,?_,?_⟩<;>(rw[Bn h];rfl)
theorem set2 {w:qW}{b:Nat}{x y:Value}{t:TypeId}(h:w.heap[b]?=some (qC #[x,y] t (0,0)))(u0 u1:Value):((w.setCell (O b 0) u0).setCell (O b 1) u1).heap[b]?=some (qC #[u0,u1] t (0,0))/\Chg b w ((w.setCell (O b 0) u0).setCell (O b 1) u1):=
 ⟨by rw[BW (BW h _) _];rfl,((Chg.refl _ _).set _ _).set _ _⟩
def NL (X:QW)(c:Int)(m:QM):Int:=match Cy X.cz c with
 | none=>6
 | some y=>if CZ y.mz m.name<0/\8<=y.mz.length then 5 else 0
def Gv (X:QW)(c:Int)(m:QM):QW:=match Cy X.cz c with
 | none=>X
 | some y=>Fs X c.toNat y m
theorem xnw {P:Nat->Prop}(X:QW)(c:Int)(m:QM)(cv hv mv:Value)(w:qW)(o:BK P w cv X.cz)(i:BP P w hv X.heap)(p:Cm P w mv m.code)(d:m.name.size<=140737488351232){er:Int}(a:NL X c m=er) :
  Calls Tryz.prog 80 #[WV cv hv X.ez,J c,MV m mv] w λe w'=>qY w w'/\∃(a3:Option Addr) (n3 k3:Nat) (a4:Option Addr) (n4 k4:Nat) (ep:Int),e=.returned (.tuple #[WV (qS a3 n3 k3) (qS a4 n4 k4) ep,J er])/\(er=0->ep=(Gv X c m).ez/\BK (λb=>w.heap.size<=b) w' (qS a3 n3 k3) (Gv X c m).cz/\BP (λb=>w.heap.size<=b) w' (qS a4 n4 k4) X.heap):=by
 unfold NL at a;unfold Gv
 cases l:Cy X.cz c with
 | none=>
  rw[l] at a;dsimp only at a;subst a
  have r:Dg X.cz.length c=false:=by
   unfold Cy at l;unfold Dg;split at l
   ·have:=List.getElem?_eq_none_iff.1 l;simp;omega
   simp;omega
  refine (xi9 X c m cv hv mv w o i p r).mono ?_;rintro e w' ⟨rfl,j⟩;exact⟨j,none,0,0,none,0,0,0,rfl,λq=>absurd q (by decide)⟩
 | some y=>
  rw[l] at a;obtain⟨k,rfl,s⟩:=Gl l;simp only[Int.toNat_natCast] at a ⊢;by_cases h1:CZ y.mz m.name<0
  ·by_cases h8:8<=y.mz.length
   ·rw[if_pos ⟨h1,h8⟩] at a;subst a;refine (xkf X k y m cv hv mv w o i p s h1 h8).mono ?_;rintro e w' ⟨rfl,j⟩;exact⟨j,none,0,0,none,0,0,0,rfl,λq=>absurd q (by decide)⟩
   rw[if_neg (λh=>h8 h.2)] at a;subst a;refine (xli X k y m cv hv mv w o i p d s h1 (by omega)).mono ?_;rintro e w' ⟨g,f,rfl,n,i,j⟩;obtain⟨a3,k3,rfl,-⟩:=id n;obtain⟨a4,k4,rfl,-⟩:=id i;exact⟨j,_,_,_,_,_,_,_,rfl,λ_=>⟨rfl,n,i⟩⟩
  rw[if_neg (λh=>h1 h.1)] at a;subst a;refine (xiW X k y m cv hv mv w o i p d s (by omega)).mono ?_;rintro e w' ⟨g,f,rfl,n,i,j⟩;obtain⟨a3,k3,rfl,-⟩:=id n;obtain⟨a4,k4,rfl,-⟩:=id i;exact⟨j,_,_,_,_,_,_,_,rfl,λ_=>⟨rfl,n,i⟩⟩
def Kn (s:Sn)(c:Int)(m:QM):Sn × ReE:=
 if (Em (Cs s.X.cz c) s.X.cz.length c m).1≠0 then (s,Ct (Em (Cs s.X.cz c) s.X.cz.length c m).1 (Em (Cs s.X.cz c) s.X.cz.length c m).2)
 else if NL s.X c m≠0 then (s,Ct (NL s.X c m) 0) else (⟨Gv s.X c m,s.cells,s.ts,s.saved⟩,Ct 0 0)
theorem xkX {P Q:Nat->Prop}(s:Sn)(c:Int)(m:QM)(cv hv lv tv sv mv:Value)(w:qW)(sb:Nat)(u:w.heap[sb]?=some (DR cv hv s.X.ez lv tv sv))(hS:SesAt P w cv hv lv tv s)(hP:∀b,P b->b≠sb)(hM:Cm Q w mv m.code)(hn:m.name.size<=140737488351232) :
  Calls Tryz.prog 53 #[qP sb,J c,MV m mv] w λe w'=>ArPost P w sb sv (Kn s c m).1 (Kn s c m).2 e w':=by
 obtain⟨er,p⟩:∃er,NL s.X c m=er:=⟨_,rfl⟩;obtain⟨ck,g⟩:∃ck,Em (Cs s.X.cz c) s.X.cz.length c m=ck:=⟨_,rfl⟩;have af:Cm (λ_=>True) w mv m.code:=hM.keep BR (Keeps.refl _ _) λ_ _=>trivial;have ak:BK (λ_=>True) w cv s.X.cz:=hS.c.keep Bw (Keeps.refl _ _) λ_ _=>trivial;have ai:BP (λ_=>True) w hv s.X.heap:=hS.h.keep BB (Keeps.refl _ _) λ_ _=>trivial;have an:=λ(w':qW) (hb:qY w w')=>xnu s.X c m cv hv mv w' (ak.later Bw hb) (ai.later BB hb) (af.later BR hb) hn;have aw:=λ(w':qW) (hb:qY w w')=>xnw s.X c m cv hv mv w' (ak.later Bw hb) (ai.later BB hb) (af.later BR hb) hn p;rw[g] at an;have h1:Hid (ck.1≠0->Kn s c m=(s,Ct ck.1 ck.2)):=λh=>by unfold Kn;rw[g,if_pos h]
 have h2:Hid (ck.1=0->er≠0->Kn s c m=(s,Ct er 0)):=λh h'=>by unfold Kn;rw[g,if_neg (by simp[h]),p,if_pos h']
 have h3:Hid (ck.1=0->er=0->Kn s c m=(⟨Gv s.X c m,s.cells,s.ts,s.saved⟩,Ct 0 0)):=λh h'=>by unfold Kn;rw[g,if_neg (by simp[h]),p,if_neg (by simp[h'])]
 clear p g;generalize Kn s c m=RR at *;obtain⟨ac,cc,rfl,-⟩:=id hS.c;obtain⟨ah,ch,rfl,-⟩:=id hS.h;obtain⟨al,kl,rfl,-⟩:=id hS.l;obtain⟨at',kt,rfl,-⟩:=id hS.t;obtain⟨am,cm,rfl,-⟩:=id hM;have a7:=BG w (qD m am cm) (qR);have au:=By u;have hR:BxT sb (qS ac s.X.cz.length cc) (qS ah s.X.heap.length ch) s.X.ez (qS al s.cells.length kl) (qS at' s.ts.length kt) sv w.heap.size (w.heap.size+1) (qD m am cm) ((w.alloc (qD m am cm)).alloc (qR)):=⟨Bs u a7,Bs (BH w _) (Bg _ _),Dh _ _ _ (by simp)⟩
 have HS:=hid hS;have HX:=hid u;clear hS hM af ak ai u;go_enter Tryz.func53,Tryz.ntmps53;go_upto_region 1 with (fail);have ap:w.heap.size+2<=((w.alloc (qD m am cm)).alloc (qR)).heap.size:=by simp
 generalize ((w.alloc (qD m am cm)).alloc (qR))=W at *;have a0:∀W':qW,qY W W'->FZ sb (qS ac s.X.cz.length cc) (qS ah s.X.heap.length ch) s.X.ez (qS al s.cells.length kl) (qS at' s.ts.length kt) sv W'/\W'.cell? (O w.heap.size 0)=some (qZ m.name)/\W'.cell? (O w.heap.size 1)=some (J m.args)/\W'.cell? (O w.heap.size 2)=some (J m.temps)/\W'.cell? (O w.heap.size 3)=some (J m.prim)/\W'.cell? (O w.heap.size 4)=some (qS am m.code.length cm):=λW' hb=>⟨Fc (hR.later hb).box,by rw[Bn (hR.later hb).pa];rfl,by rw[Bn (hR.later hb).pa];rfl,by rw[Bn (hR.later hb).pa];rfl,by rw[Bn (hR.later hb).pa];rfl,by rw[Bn (hR.later hb).pa];rfl⟩
 go_cut [7] (λv7 wx=>∃bA:Nat,v7=qP bA/\wx.heap[bA]?=some (qC #[J ck.1,J ck.2] 90 (0,0))/\W.heap.size<=bA/\qY W wx)
 case first=>
  refine Fm (S:=λw'=>FZ sb (qS ac s.X.cz.length cc) (qS ah s.X.heap.length ch) s.X.ez (qS al s.cells.length kl) (qS at' s.ts.length kt) sv w'/\w'.cell? (O w.heap.size 0)=some (qZ m.name)/\w'.cell? (O w.heap.size 1)=some (J m.args)/\w'.cell? (O w.heap.size 2)=some (J m.temps)/\w'.cell? (O w.heap.size 3)=some (J m.prim)/\w'.cell? (O w.heap.size 4)=some (qS am m.code.length cm)) [] (by kernel_rfl) ?_;have hb:qY W W.drew:=(Br _ W).drew;generalize W.drew=U at *
  repeat' first
   | (
     refine tk 0 (⟨some 10,.move (.tmp 0),86,_,_,none⟩) (qP sb) rfl (a0 _ hb) (λ_ _ _ h=>h) rfl ?_ ?_ ?_
     ·decide +kernel
     ·rintro w⟨⟨_,_,_,_,_,_⟩,_,_,_,_,_⟩;go_simp
     try simp only[Act.put,Bj,Bl,Bk])
   | (
     refine tk 1 (⟨some 11,.nilCheck (.tmp 10),0,_,_,none⟩) (qP sb) rfl (a0 _ hb) (λ_ _ _ h=>h) rfl ?_ ?_ ?_
     ·decide +kernel
     ·rintro w⟨⟨_,_,_,_,_,_⟩,_,_,_,_,_⟩;go_simp
     try simp only[Act.put,Bj,Bl,Bk])
   | (
     refine tk 2 (⟨some 12,.fieldAddr 31 (.tmp 11) 0,0,_,_,none⟩) (qP sb) rfl (a0 _ hb) (λ_ _ _ h=>h) rfl ?_ ?_ ?_
     ·decide +kernel
     ·rintro w⟨⟨_,_,_,_,_,_⟩,_,_,_,_,_⟩;go_simp
     try simp only[Act.put,Bj,Bl,Bk])
   | (
     refine tk 3 (⟨some 13,.load 26 (.tmp 12),26,_,_,none⟩) (qV ac cc ah ch s.X) rfl (a0 _ hb) (λ_ _ _ h=>h) rfl ?_ ?_ ?_
     ·decide +kernel
     ·rintro w⟨⟨_,_,_,_,_,_⟩,_,_,_,_,_⟩;go_simp
     try simp only[Act.put,Bj,Bl,Bk])
   | (
     refine tk 4 (⟨some 14,.move (.tmp 1),3,_,_,none⟩) (J c) rfl (a0 _ hb) (λ_ _ _ h=>h) rfl ?_ ?_ ?_
     ·decide +kernel
     ·rintro w⟨⟨_,_,_,_,_,_⟩,_,_,_,_,_⟩;go_simp
     try simp only[Act.put,Bj,Bl,Bk])
   | (
     refine tk 5 (⟨some 15,.load 51 (.tmp 5),51,_,_,none⟩) (MV m (qS am m.code.length cm)) rfl (a0 _ hb) (λ_ _ _ h=>h) rfl ?_ ?_ ?_
     ·decide +kernel
     ·rintro w⟨⟨_,_,_,_,_,_⟩,_,_,_,_,_⟩;go_simp
     try simp only[Act.put,Bj,Bl,Bk])
   | (
     refine CN [6,7] rfl ?_ ⟨?_,?_,trivial⟩
     ·decide +kernel)
   | (
     refine CN [6] rfl ?_ ⟨?_,trivial⟩
     ·decide +kernel)
   | (
     refine CN [7] rfl ?_ ⟨?_,trivial⟩
     ·decide +kernel)
   | (
     refine CN [8] rfl ?_ ⟨?_,trivial⟩
     ·decide +kernel)
   | (
     refine Ck (o:=⟨some 16,.call ⟨.value (.func 79),#[.tmp 13,.tmp 14,.tmp 15],#[26,3,51]⟩,90,_,_,none⟩) rfl (λK' hK=>?_);have a2:=an U (Bh a7 hb);refine EX rfl 79 (.func 79) #[.tmp 13,.tmp 14,.tmp 15] _ rfl #[] rfl #[qV ac cc ah ch s.X,J c,MV m (qS am m.code.length cm)] (by simp[Act.eval,Act.put]) (FN Tryz.func79 (by kernel_rfl) (by kernel_rfl) _ _) ?_;refine (show Calls Tryz.prog 79 #[qV ac cc ah ch s.X,J c,MV m (qS am m.code.length cm)] U _ from a2.mono ?_);rintro e U ⟨rfl,d⟩;refine⟨_,rfl,?_⟩;replace hb:=Bh hb d;refine hK _ _ (λ_=>?_) ?_
     ·exact a0 _ hb
     clear hK K' a2
     try simp only[Act.put,Bj,Bl,Bk]
     (try replace a1:=Bs a1 d)
     (try replace aa:=Cd aa d.size)
     clear d;have a6:∀c:Nat,c<0->c<0->U.heap[c]?=U.heap[c]?:=λ_ _ _=>rfl)
   | (
     refine Ck (o:=⟨some 7,.alloc 90,0,_,_,none⟩) rfl (λK' hK=>?_);go_simp;refine hK _ _ (λ_=>?_) ?_
     ·exact a0 _ (Bh hb (Bg _ _))
     clear hK K'
     try simp only[Act.put,Bj,Bl,Bk]
     have a1:(U.alloc (qC #[J 0,J 0] 90)).heap[U.heap.size]?=some (qC #[J 0,J 0] 90 (0,0)):=BH _ _;have hk:=Bg U (qC #[J 0,J 0] 90);have a8:=hb.size;have aa:U.heap.size<(U.alloc (qC #[J 0,J 0] 90)).heap.size:=by simp
     replace hb:=Bh hb hk
     (try replace a6:=λc h1 h2=>(hk.block c (Cd h2 a9)).trans (a6 c h1 h2))
     (try have aj:U.heap.size<lo\/V.heap.size<=U.heap.size:=.inr a9)
     (try replace a9:=BX a9 hk.size)
     clear hk;generalize U.heap.size=bA at *;generalize U.alloc (qC #[J 0,J 0] 90)=U at *)
   | (
     refine Ck (o:=⟨none,.store 90 (.tmp 7) (.tmp 16),0,_,_,none⟩) rfl (λK' hK=>?_);have q:=bx2 a1;have rf:=q.1;have r0:=q.2.1;have r1:=q.2.2;obtain⟨i,f⟩:=set2 a1 (J ck.1) (J ck.2);go_simp;refine hK _ _ (λ_=>?_) ?_
     ·exact a0 _ (hb.trans (f.below a8))
     clear hK K' q rf r0 r1
     try simp only[Act.put,Bj,Bl,Bk]
     replace a1:=i;clear i;replace hb:=hb.trans (f.below a8)
     skip
     clear f;generalize ((U.setCell (O bA 0) (J ck.1)).setCell (O bA 1) (J ck.2))=U at *)
   | (
     refine EZ ?_ ?_ _
     ·decide +kernel
     try simp only[Act.put,Bj,Bl,Bk]
     have ab:Hid (∃bB:Nat,qP bA=qP bB/\U.heap[bB]?=some (qC #[J ck.1,J ck.2] 90 (0,0))/\W.heap.size<=bB/\qY W U):=⟨bA,rfl,a1,a8,hb⟩;go_wp2_with fail;go_meet
     case rel=>exact ab.out)
 case rest=>
  obtain⟨bF,rfl,F,M,a⟩:=hcut;have a5:=hR.later a;obtain⟨-,K,L⟩:=bx2 F;by_cases h0:ck.1=0
  ·rw[h0] at K;go_upto_region 4 with (fail);clear K L F an;replace hR:=a5;replace a7:=Bh a7 a;have ax:w.heap.size+2<=wc.heap.size:=BX ap a.size;replace a0:=λ(W':qW) (hb:qY wc W')=>a0 W' (Bh a hb);clear a5 a M ap;generalize wc=W at *
   go_cut [8,9] (λv8 v9 wx=>xsu W (Gv s.X c m).ez (Gv s.X c m).cz s.X.heap er v8 wx/\v9=J er)
   case first=>
    refine Fm (S:=λw'=>FZ sb (qS ac s.X.cz.length cc) (qS ah s.X.heap.length ch) s.X.ez (qS al s.cells.length kl) (qS at' s.ts.length kt) sv w'/\w'.cell? (O w.heap.size 0)=some (qZ m.name)/\w'.cell? (O w.heap.size 1)=some (J m.args)/\w'.cell? (O w.heap.size 2)=some (J m.temps)/\w'.cell? (O w.heap.size 3)=some (J m.prim)/\w'.cell? (O w.heap.size 4)=some (qS am m.code.length cm)) [] (by kernel_rfl) ?_;have hb:qY W W.drew:=(Br _ W).drew;generalize W.drew=U at *
    repeat' first
     | (
       refine tk 0 (⟨some 26,.move (.tmp 0),86,_,_,none⟩) (qP sb) rfl (a0 _ hb) (λ_ _ _ h=>h) rfl ?_ ?_ ?_
       ·decide +kernel
       ·rintro w⟨⟨_,_,_,_,_,_⟩,_,_,_,_,_⟩;go_simp
       try simp only[Act.put,Bj,Bl,Bk])
     | (
       refine tk 1 (⟨some 27,.nilCheck (.tmp 26),0,_,_,none⟩) (qP sb) rfl (a0 _ hb) (λ_ _ _ h=>h) rfl ?_ ?_ ?_
       ·decide +kernel
       ·rintro w⟨⟨_,_,_,_,_,_⟩,_,_,_,_,_⟩;go_simp
       try simp only[Act.put,Bj,Bl,Bk])
     | (
       refine tk 2 (⟨some 28,.fieldAddr 31 (.tmp 27) 0,0,_,_,none⟩) (qP sb) rfl (a0 _ hb) (λ_ _ _ h=>h) rfl ?_ ?_ ?_
       ·decide +kernel
       ·rintro w⟨⟨_,_,_,_,_,_⟩,_,_,_,_,_⟩;go_simp
       try simp only[Act.put,Bj,Bl,Bk])
     | (
       refine tk 3 (⟨some 29,.load 26 (.tmp 28),26,_,_,none⟩) (qV ac cc ah ch s.X) rfl (a0 _ hb) (λ_ _ _ h=>h) rfl ?_ ?_ ?_
       ·decide +kernel
       ·rintro w⟨⟨_,_,_,_,_,_⟩,_,_,_,_,_⟩;go_simp
       try simp only[Act.put,Bj,Bl,Bk])
     | (
       refine tk 4 (⟨some 30,.move (.tmp 1),3,_,_,none⟩) (J c) rfl (a0 _ hb) (λ_ _ _ h=>h) rfl ?_ ?_ ?_
       ·decide +kernel
       ·rintro w⟨⟨_,_,_,_,_,_⟩,_,_,_,_,_⟩;go_simp
       try simp only[Act.put,Bj,Bl,Bk])
     | (
       refine tk 5 (⟨some 31,.load 51 (.tmp 5),51,_,_,none⟩) (MV m (qS am m.code.length cm)) rfl (a0 _ hb) (λ_ _ _ h=>h) rfl ?_ ?_ ?_
       ·decide +kernel
       ·rintro w⟨⟨_,_,_,_,_,_⟩,_,_,_,_,_⟩;go_simp
       try simp only[Act.put,Bj,Bl,Bk])
     | (
       refine tk 7 (⟨some 25,.move (.tmp 32),95,_,_,none⟩) (.tuple #[WV (qS a3 n3 k3) (qS a4 n4 k4) ep,J er]) rfl (a0 _ hb) (λ_ _ _ h=>h) rfl ?_ ?_ ?_
       ·decide +kernel
       ·rintro w⟨⟨_,_,_,_,_,_⟩,_,_,_,_,_⟩;go_simp
       try simp only[Act.put,Bj,Bl,Bk])
     | (
       refine tk 8 (⟨some 33,.extract (.tmp 25) 0,26,_,_,none⟩) (WV (qS a3 n3 k3) (qS a4 n4 k4) ep) rfl (a0 _ hb) (λ_ _ _ h=>h) rfl ?_ ?_ ?_
       ·decide +kernel
       ·rintro w⟨⟨_,_,_,_,_,_⟩,_,_,_,_,_⟩;go_simp
       try simp only[Act.put,Bj,Bl,Bk])
     | (
       refine tk 9 (⟨some 34,.extract (.tmp 25) 1,33,_,_,none⟩) (J er) rfl (a0 _ hb) (λ_ _ _ h=>h) rfl ?_ ?_ ?_
       ·decide +kernel
       ·rintro w⟨⟨_,_,_,_,_,_⟩,_,_,_,_,_⟩;go_simp
       try simp only[Act.put,Bj,Bl,Bk])
     | (
       refine tk 12 (⟨some 9,.assign (.tmp 34),33,_,_,none⟩) (J er) rfl (a0 _ hb) (λ_ _ _ h=>h) rfl ?_ ?_ ?_
       ·decide +kernel
       ·rintro w⟨⟨_,_,_,_,_,_⟩,_,_,_,_,_⟩;go_simp
       try simp only[Act.put,Bj,Bl,Bk])
     | (
       refine CN [6,10] rfl ?_ ⟨?_,?_,trivial⟩
       ·decide +kernel)
     | (
       refine CN [6] rfl ?_ ⟨?_,trivial⟩
       ·decide +kernel)
     | (
       refine CN [10] rfl ?_ ⟨?_,trivial⟩
       ·decide +kernel)
     | (
       refine CN [11] rfl ?_ ⟨?_,trivial⟩
       ·decide +kernel)
     | (
       refine Ck (o:=⟨some 32,.call ⟨.value (.func 80),#[.tmp 29,.tmp 30,.tmp 31],#[26,3,51]⟩,95,_,_,none⟩) rfl (λK' hK=>?_);have ag:=hb.size
       (try have aj:=aa)
       have a2:=aw U (Bh a7 hb);obtain⟨lo,k⟩:∃lo,U.heap.size=lo:=⟨_,rfl⟩;rw[k] at ag
       (try rw[k] at aj)
       refine EX rfl 80 (.func 80) #[.tmp 29,.tmp 30,.tmp 31] _ rfl #[] rfl #[qV ac cc ah ch s.X,J c,MV m (qS am m.code.length cm)] (by simp[Act.eval,Act.put]) (FN Tryz.func80 (by kernel_rfl) (by kernel_rfl) _ _) ?_;refine (show Calls Tryz.prog 80 #[qV ac cc ah ch s.X,J c,MV m (qS am m.code.length cm)] U _ from a2.mono ?_);rintro e U ⟨d,a3,n3,k3,a4,n4,k4,ep,rfl,z⟩;rw[k] at z;refine⟨_,rfl,?_⟩;replace hb:=Bh hb d;refine hK _ _ (λ_=>?_) ?_
       ·exact a0 _ hb
       clear hK K' a2
       try simp only[Act.put,Bj,Bl,Bk]
       (try replace a1:=Bs a1 d)
       (try replace aa:=Cd aa d.size)
       obtain⟨V,y,a6,a9,hu⟩:∃V:qW,Hid (er=0->ep=(Gv s.X c m).ez/\BK (λc=>lo<=c) V (qS a3 n3 k3) (Gv s.X c m).cz/\BP (λc=>lo<=c) V (qS a4 n4 k4) s.X.heap)/\(∀c,lo<=c->c<V.heap.size->U.heap[c]?=V.heap[c]?)/\V.heap.size<=U.heap.size/\lo<=V.heap.size:=⟨U,z,λ_ _ _=>rfl,Bq _,by rw[← k];exact d.size⟩
       clear z d k)
     | (
       refine Ck (o:=⟨some 8,.alloc 26,0,_,_,none⟩) rfl (λK' hK=>?_);go_simp;refine hK _ _ (λ_=>?_) ?_
       ·exact a0 _ (Bh hb (Bg _ _))
       clear hK K'
       try simp only[Act.put,Bj,Bl,Bk]
       have a1:(U.alloc (qO)).heap[U.heap.size]?=some (qO):=BH _ _;have hk:=Bg U (qO);have a8:=hb.size;have aa:U.heap.size<(U.alloc (qO)).heap.size:=by simp
       replace hb:=Bh hb hk
       (try replace a6:=λc h1 h2=>(hk.block c (Cd h2 a9)).trans (a6 c h1 h2))
       (try have aj:U.heap.size<lo\/V.heap.size<=U.heap.size:=.inr a9)
       (try replace a9:=BX a9 hk.size)
       clear hk;generalize U.heap.size=bA at *;generalize U.alloc (qO)=U at *)
     | (
       refine Ck (o:=⟨none,.store 26 (.tmp 8) (.tmp 33),0,_,_,none⟩) rfl (λK' hK=>?_);have q:=Kk a1;have rf:=q.1;have r0:=q.2.1;have r1:=q.2.2.1;have r2:=q.2.2.2;obtain⟨i,f⟩:=xsq a1 (qS a3 n3 k3) (qS a4 n4 k4) (J ep);go_simp;refine hK _ _ (λ_=>?_) ?_
       ·exact a0 _ (hb.trans (f.below a8))
       clear hK K' q rf r0 r1 r2
       try simp only[Act.put,Bj,Bl,Bk]
       replace a1:=i;clear i;replace hb:=hb.trans (f.below a8);replace a6:=λc h1 h2=>(f.blk c Zo).trans (a6 c h1 h2);clear f;generalize (((U.setCell (O bA 0) (qS a3 n3 k3)).setCell (O bA 1) (qS a4 n4 k4)).setCell (O bA 2) (J ep))=U at *)
     | (
       refine EZ ?_ ?_ _
       ·decide +kernel
       try simp only[Act.put,Bj,Bl,Bk]
       have ab:Hid (xsu W (Gv s.X c m).ez (Gv s.X c m).cz s.X.heap er (qP bA) U):=⟨bA,a3,n3,k3,a4,n4,k4,ep,rfl,a1,a8,hb,λh0=>⟨(y.out h0).1,(y.out h0).2.1.keep Bw (Keeps.of_block a6) (λc h1=>BX ag h1),(y.out h0).2.2.keep BB (Keeps.of_block a6) (λc h1=>BX ag h1)⟩⟩
       go_wp2_with fail;go_meet
       case rel=>exact⟨ab.out,rfl⟩)
   case rest=>
    obtain⟨⟨bA,a3,n3,k3,a4,n4,k4,ep,rfl,a1,a8,a,G⟩,rfl⟩:=hcut;have a5:=hR.later a;have ar:=hid a5;by_cases he:er=0
    ·subst he;obtain⟨rfl,C,H⟩:=G rfl;have ad:=hid (h3.out h0 rfl);obtain⟨-,Y,R,T⟩:=Kk a1;obtain⟨s0,s1,s2,s3,s4,s5⟩:=Fc a5.box;have sf:=BN a5.box;obtain⟨N,B⟩:=PP a5.box (qS a3 n3 k3) (qS a4 n4 k4) (Gv s.X c m).ez;have aq:=B.held ar.out.re Zo;obtain⟨rf,r0,r1,r2,r3⟩:=Ec aq;obtain⟨hF,j⟩:=Fz aq (J 0) (J 0) (J 0) (J 0);have ao:(Gv s.X c m).heap=s.X.heap:=by unfold Gv;split<;>rfl
     have HF:=hid (xqr HS.out hP (Bh a7 a) B (Br _ _) j (Nat.le_succ _) au N (X:=Gv s.X c m) (n:=W.heap.size) Zo Zo C (by rw[ao];exact H) (r:=Ct 0 0) rfl);clear C H G ao;go_wp2;refine Bt (v:=Ej (Ct 0 0)) ?_ rfl (by rw[ad.out];exact HF.out);simp[results,Tryz.results53,go_sem,r0,r1,r2,r3]
    have ad:=hid (h2.out h0 he);have av:=λw'=>NW er w';go_wp2_with fail;refine (av _).mono ?_;rintro e Z ⟨rfl,D⟩;have ae:=Bs a5.re D;obtain⟨rf,r0,r1,r2,r3⟩:=Ec ae;obtain⟨hF,j⟩:=Fz ae (J er) (J 0) (J 0) (J 0);have HF:=hid (Qm HX.out HS.out (Bh (Bh a7 a) D) j (Nat.le_succ _) (r:=Ct er 0) rfl);go_wp2;refine Bt (v:=Ej (Ct er 0)) ?_ rfl (by rw[ad.out];exact HF.out);simp[results,Tryz.results53,go_sem,r0,r1,r2,r3]
  have ad:=hid (h1.out h0);obtain⟨rf,r0,r1,r2,r3⟩:=Ec a5.re;obtain⟨hF,j⟩:=Fz a5.re (J ck.1) (J ck.2) (J 0) (J 0);have HF:=hid (Qm HX.out HS.out (Bh a7 a) j (Nat.le_succ _) (r:=Ct ck.1 ck.2) rfl);go_wp2;refine Bt (v:=Ej (Ct ck.1 ck.2)) ?_ rfl (by rw[ad.out];exact HF.out);simp[results,Tryz.results53,go_sem,r0,r1,r2,r3]
end Go.Proofs.YtbafokihegegiaaGreatDoor
