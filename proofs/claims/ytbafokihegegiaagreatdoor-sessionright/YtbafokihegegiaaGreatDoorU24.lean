import Derived.Test.YtbafokihegegiaaGreatDoorU16
import Derived.Test.YtbafokihegegiaaGreatDoorU23
namespace Go.Proofs.YtbafokihegegiaaGreatDoor
open ChangeShapes WideShapes ChangeAt RowKit
set_option linter.unusedSimpArgs false
set_option linter.unusedVariables false
set_option maxHeartbeats 8000000
set_option maxRecDepth 8000
theorem xkL {P Q:Nat->Prop}(s:Sn)(hX:BM s.X=0)(v:QV)(name:ByteArray)(a:List QV)(cv hv lv tv sv av:Value)(w:qW)(sb:Nat)(u:w.heap[sb]?=some (DR cv hv s.X.ez lv tv sv))(hS:SesAt P w cv hv lv tv s)(hP:∀b,P b->b≠sb)(hA:CG Q w av a)(hn:name.size<=140737488351232) :
  Calls Tryz.prog 57 #[qP sb,EL v name av] w λe w'=>ArPost P w sb sv ⟨⟨s.X.cz,(xyz s v name a).heap,s.X.ez⟩,s.cells,s.ts,s.saved⟩ (Es (xyz s v name a)) e w':=by
 have aw:=λ(w':qW) (hb:qY w w') (R:Nat->Prop) (fv:Value) (hF:MF R w' fv (ES s.X s.ts s.X.cz.length))=>xpK s.X hX v name a 400 xlD (xrB hX) cv hv av fv w' (hS.c.later Bw hb) (hS.h.later BB hb) (hA.later BZ hb) hF hn;have b0:=λ(w':qW) (hb:qY w w')=>xp9 s.X hX s.ts cv hv tv w' (hS.c.later Bw hb) (hS.h.later BB hb) (hS.t.later xbD hb);obtain⟨r,hr⟩:∃r,xyz s v name a=r:=⟨_,rfl⟩;rw[hr];unfold xyz at hr;rw[hr] at aw;clear hr;obtain⟨ac,cc,rfl,-⟩:=id hS.c;obtain⟨ah,ch,rfl,-⟩:=id hS.h;obtain⟨al,kl,rfl,-⟩:=id hS.l;obtain⟨at',kt,rfl,-⟩:=id hS.t;obtain⟨aa,ca,rfl,-⟩:=id hA;have ai:=BG w (qK v name aa a ca) (qR);have b4:=By u;have hR:BxR sb (qS ac s.X.cz.length cc) (qS ah s.X.heap.length ch) s.X.ez (qS al s.cells.length kl) (qS at' s.ts.length kt) sv w.heap.size v name (qS aa a.length ca) ((w.alloc (qK v name aa a ca)).alloc (qR)):=⟨Bs u ai,Bs (BH w _) (Bg _ _),Dh _ _ _ (by simp)⟩
 have HS:=hid hS;clear hS hA u;go_enter Tryz.func57,Tryz.ntmps57;go_upto_region 1 with (fail);have b3:w.heap.size+2<=((w.alloc (qK v name aa a ca)).alloc (qR)).heap.size:=by simp
 generalize ((w.alloc (qK v name aa a ca)).alloc (qR))=W at *;have a2:∀W':qW,qY W W'->FZ sb (qS ac s.X.cz.length cc) (qS ah s.X.heap.length ch) s.X.ez (qS al s.cells.length kl) (qS at' s.ts.length kt) sv W'/\W'.cell? (O w.heap.size 0)=some (J v.k)/\W'.cell? (O w.heap.size 1)=some (J v.n)/\W'.cell? (O w.heap.size 2)=some (qZ name)/\W'.cell? (O w.heap.size 3)=some (qS aa a.length ca):=λW' hb=>(hR.later hb).al
 go_cut [5,6] (λv5 v6 wx=>xss W s.X r v5 v6 wx)
 case first=>
  refine Fm (S:=λw'=>FZ sb (qS ac s.X.cz.length cc) (qS ah s.X.heap.length ch) s.X.ez (qS al s.cells.length kl) (qS at' s.ts.length kt) sv w'/\w'.cell? (O w.heap.size 0)=some (J v.k)/\w'.cell? (O w.heap.size 1)=some (J v.n)/\w'.cell? (O w.heap.size 2)=some (qZ name)/\w'.cell? (O w.heap.size 3)=some (qS aa a.length ca)) [] (by kernel_rfl) ?_;have hb:qY W W.drew:=(Br _ W).drew;generalize W.drew=U at *
  repeat' first
   | (
     refine tk 0 (⟨some 8,.move (.tmp 0),86,_,_,none⟩) (qP sb) rfl (a2 _ hb) (λ_ _ _ h=>h) rfl ?_ ?_ ?_
     ·decide +kernel
     ·rintro w⟨⟨_,_,_,_,_,_⟩,_,_,_,_⟩;go_simp
     try simp only[Act.put,Bj,Bl,Bk])
   | (
     refine tk 1 (⟨some 9,.nilCheck (.tmp 8),0,_,_,none⟩) (qP sb) rfl (a2 _ hb) (λ_ _ _ h=>h) rfl ?_ ?_ ?_
     ·decide +kernel
     ·rintro w⟨⟨_,_,_,_,_,_⟩,_,_,_,_⟩;go_simp
     try simp only[Act.put,Bj,Bl,Bk])
   | (
     refine tk 2 (⟨some 10,.fieldAddr 31 (.tmp 9) 0,0,_,_,none⟩) (qP sb) rfl (a2 _ hb) (λ_ _ _ h=>h) rfl ?_ ?_ ?_
     ·decide +kernel
     ·rintro w⟨⟨_,_,_,_,_,_⟩,_,_,_,_⟩;go_simp
     try simp only[Act.put,Bj,Bl,Bk])
   | (
     refine tk 3 (⟨some 11,.load 26 (.tmp 10),26,_,_,none⟩) (qV ac cc ah ch s.X) rfl (a2 _ hb) (λ_ _ _ h=>h) rfl ?_ ?_ ?_
     ·decide +kernel
     ·rintro w⟨⟨_,_,_,_,_,_⟩,_,_,_,_⟩;go_simp
     try simp only[Act.put,Bj,Bl,Bk])
   | (
     refine tk 4 (⟨some 12,.load 54 (.tmp 3),54,_,_,none⟩) (EL v name (qS aa a.length ca)) rfl (a2 _ hb) (λ_ _ _ h=>h) rfl ?_ ?_ ?_
     ·decide +kernel
     ·rintro w⟨⟨_,_,_,_,_,_⟩,_,_,_,_⟩;go_simp
     try simp only[Act.put,Bj,Bl,Bk])
   | (
     refine tk 5 (⟨some 13,.move (.tmp 0),86,_,_,none⟩) (qP sb) rfl (a2 _ hb) (λ_ _ _ h=>h) rfl ?_ ?_ ?_
     ·decide +kernel
     ·rintro w⟨⟨_,_,_,_,_,_⟩,_,_,_,_⟩;go_simp
     try simp only[Act.put,Bj,Bl,Bk])
   | (
     refine tk 6 (⟨some 14,.nilCheck (.tmp 13),0,_,_,none⟩) (qP sb) rfl (a2 _ hb) (λ_ _ _ h=>h) rfl ?_ ?_ ?_
     ·decide +kernel
     ·rintro w⟨⟨_,_,_,_,_,_⟩,_,_,_,_⟩;go_simp
     try simp only[Act.put,Bj,Bl,Bk])
   | (
     refine tk 7 (⟨some 15,.fieldAddr 31 (.tmp 14) 0,0,_,_,none⟩) (qP sb) rfl (a2 _ hb) (λ_ _ _ h=>h) rfl ?_ ?_ ?_
     ·decide +kernel
     ·rintro w⟨⟨_,_,_,_,_,_⟩,_,_,_,_⟩;go_simp
     try simp only[Act.put,Bj,Bl,Bk])
   | (
     refine tk 8 (⟨some 16,.load 26 (.tmp 15),26,_,_,none⟩) (qV ac cc ah ch s.X) rfl (a2 _ hb) (λ_ _ _ h=>h) rfl ?_ ?_ ?_
     ·decide +kernel
     ·rintro w⟨⟨_,_,_,_,_,_⟩,_,_,_,_⟩;go_simp
     try simp only[Act.put,Bj,Bl,Bk])
   | (
     refine tk 9 (⟨some 17,.move (.tmp 0),86,_,_,none⟩) (qP sb) rfl (a2 _ hb) (λ_ _ _ h=>h) rfl ?_ ?_ ?_
     ·decide +kernel
     ·rintro w⟨⟨_,_,_,_,_,_⟩,_,_,_,_⟩;go_simp
     try simp only[Act.put,Bj,Bl,Bk])
   | (
     refine tk 10 (⟨some 18,.nilCheck (.tmp 17),0,_,_,none⟩) (qP sb) rfl (a2 _ hb) (λ_ _ _ h=>h) rfl ?_ ?_ ?_
     ·decide +kernel
     ·rintro w⟨⟨_,_,_,_,_,_⟩,_,_,_,_⟩;go_simp
     try simp only[Act.put,Bj,Bl,Bk])
   | (
     refine tk 11 (⟨some 19,.fieldAddr 31 (.tmp 18) 2,0,_,_,none⟩) (.pointer (some (O sb 4))) rfl (a2 _ hb) (λ_ _ _ h=>h) rfl ?_ ?_ ?_
     ·decide +kernel
     ·rintro w⟨⟨_,_,_,_,_,_⟩,_,_,_,_⟩;go_simp
     try simp only[Act.put,Bj,Bl,Bk])
   | (
     refine tk 12 (⟨some 20,.load 28 (.tmp 19),28,_,_,none⟩) (qS at' s.ts.length kt) rfl (a2 _ hb) (λ_ _ _ h=>h) rfl ?_ ?_ ?_
     ·decide +kernel
     ·rintro w⟨⟨_,_,_,_,_,_⟩,_,_,_,_⟩;go_simp
     try simp only[Act.put,Bj,Bl,Bk])
   | (
     refine tk 15 (⟨some 7,.move (.tmp 22),153,_,_,none⟩) (.tuple #[WV (qS a3 s.X.cz.length k3) (qS a4 r.heap.length k4) s.X.ez,Hh r]) rfl (a2 _ hb) (λ_ _ _ h=>h) rfl ?_ ?_ ?_
     ·decide +kernel
     ·rintro w⟨⟨_,_,_,_,_,_⟩,_,_,_,_⟩;go_simp
     try simp only[Act.put,Bj,Bl,Bk])
   | (
     refine tk 16 (⟨some 23,.extract (.tmp 7) 0,26,_,_,none⟩) (WV (qS a3 s.X.cz.length k3) (qS a4 r.heap.length k4) s.X.ez) rfl (a2 _ hb) (λ_ _ _ h=>h) rfl ?_ ?_ ?_
     ·decide +kernel
     ·rintro w⟨⟨_,_,_,_,_,_⟩,_,_,_,_⟩;go_simp
     try simp only[Act.put,Bj,Bl,Bk])
   | (
     refine tk 17 (⟨some 24,.extract (.tmp 7) 1,98,_,_,none⟩) (Hh r) rfl (a2 _ hb) (λ_ _ _ h=>h) rfl ?_ ?_ ?_
     ·decide +kernel
     ·rintro w⟨⟨_,_,_,_,_,_⟩,_,_,_,_⟩;go_simp
     try simp only[Act.put,Bj,Bl,Bk])
   | (
     refine CN [13,18,19] rfl ?_ ⟨?_,?_,?_,trivial⟩
     ·decide +kernel)
   | (
     refine CN [14,18,19] rfl ?_ ⟨?_,?_,?_,trivial⟩
     ·decide +kernel)
   | (
     refine CN [13,18] rfl ?_ ⟨?_,?_,trivial⟩
     ·decide +kernel)
   | (
     refine CN [13,19] rfl ?_ ⟨?_,?_,trivial⟩
     ·decide +kernel)
   | (
     refine CN [14,18] rfl ?_ ⟨?_,?_,trivial⟩
     ·decide +kernel)
   | (
     refine CN [14,19] rfl ?_ ⟨?_,?_,trivial⟩
     ·decide +kernel)
   | (
     refine CN [18,19] rfl ?_ ⟨?_,?_,trivial⟩
     ·decide +kernel)
   | (
     refine CN [13] rfl ?_ ⟨?_,trivial⟩
     ·decide +kernel)
   | (
     refine CN [14] rfl ?_ ⟨?_,trivial⟩
     ·decide +kernel)
   | (
     refine CN [18] rfl ?_ ⟨?_,trivial⟩
     ·decide +kernel)
   | (
     refine CN [19] rfl ?_ ⟨?_,trivial⟩
     ·decide +kernel)
   | (
     refine CN [20] rfl ?_ ⟨?_,trivial⟩
     ·decide +kernel)
   | (
     refine CN [21] rfl ?_ ⟨?_,trivial⟩
     ·decide +kernel)
   | (
     refine Ck (o:=⟨some 21,.call ⟨.value (.func 88),#[.tmp 16,.tmp 20],#[26,28]⟩,157,_,_,none⟩) rfl (λK' hK=>?_);have a7:=b0 U (Bh ai hb);refine EX rfl 88 (.func 88) #[.tmp 16,.tmp 20] _ rfl #[] rfl #[qV ac cc ah ch s.X,qS at' s.ts.length kt] (by simp[Act.eval,Act.put]) (FN Tryz.func88 (by kernel_rfl) (by kernel_rfl) _ _) ?_;refine (show Calls Tryz.prog 88 #[qV ac cc ah ch s.X,qS at' s.ts.length kt] U _ from a7.mono ?_);rintro e U ⟨af,cf,rfl,ae,d⟩;refine⟨_,rfl,?_⟩;replace hb:=Bh hb d;refine hK _ _ (λ_=>?_) ?_
     ·exact a2 _ hb
     clear hK K' a7
     try simp only[Act.put,Bj,Bl,Bk]
     (try replace a5:=Bs a5 d)
     (try replace a9:=Cd a9 d.size)
     (try replace a6:=Bs a6 d)
     (try replace ab:=Cd ab d.size)
     clear d)
   | (
     refine Ck (o:=⟨some 22,.call ⟨.value (.func 87),#[.tmp 11,.tmp 12,.const (J 400),.tmp 21],#[26,54,3,157]⟩,153,_,_,none⟩) rfl (λK' hK=>?_);have ao:=hb.size
     (try have ar:=a9)
     (try have au:=ab)
     have a7:=aw U (Bh ai hb) _ _ ae;obtain⟨lo,g⟩:∃lo,U.heap.size=lo:=⟨_,rfl⟩;rw[g] at ao
     (try rw[g] at ar)
     (try rw[g] at au)
     refine EX rfl 87 (.func 87) #[.tmp 11,.tmp 12,.const (J 400),.tmp 21] _ rfl #[] rfl #[qV ac cc ah ch s.X,EL v name (qS aa a.length ca),J 400,qS af (ES s.X s.ts s.X.cz.length).length cf] (by simp[Act.eval,Act.put]) (FN Tryz.func87 (by kernel_rfl) (by kernel_rfl) _ _) ?_;refine (show Calls Tryz.prog 87 #[qV ac cc ah ch s.X,EL v name (qS aa a.length ca),J 400,qS af (ES s.X s.ts s.X.cz.length).length cf] U _ from a7.mono ?_);rintro e U ⟨d,N,a0,rfl,j,m⟩;rw[g] at j m;obtain⟨a3,k3,rfl,-⟩:=id j;obtain⟨a4,k4,rfl,-⟩:=id m;refine⟨_,rfl,?_⟩;replace hb:=Bh hb d;refine hK _ _ (λ_=>?_) ?_
     ·exact a2 _ hb
     clear hK K' a7
     try simp only[Act.put,Bj,Bl,Bk]
     (try replace a5:=Bs a5 d)
     (try replace a9:=Cd a9 d.size)
     (try replace a6:=Bs a6 d)
     (try replace ab:=Cd ab d.size)
     obtain⟨V,K,L,a8,ad,hu⟩:∃V:qW,BK (λc=>lo<=c) V (qS a3 s.X.cz.length k3) s.X.cz/\BP (λc=>lo<=c) V (qS a4 r.heap.length k4) r.heap/\(∀c,lo<=c->c<V.heap.size->U.heap[c]?=V.heap[c]?)/\V.heap.size<=U.heap.size/\lo<=V.heap.size:=⟨U,j,m,λ_ _ _=>rfl,Bq _,by rw[← g];exact d.size⟩
     clear j m d g ae)
   | (
     refine Ck (o:=⟨some 5,.alloc 26,0,_,_,none⟩) rfl (λK' hK=>?_);go_simp;refine hK _ _ (λ_=>?_) ?_
     ·exact a2 _ (Bh hb (Bg _ _))
     clear hK K'
     try simp only[Act.put,Bj,Bl,Bk]
     have a5:(U.alloc (qO)).heap[U.heap.size]?=some (qO):=BH _ _;have hk:=Bg U (qO);have aj:=hb.size;have a9:U.heap.size<(U.alloc (qO)).heap.size:=by simp
     replace hb:=Bh hb hk
     (try have aq:U.heap.size≠bB:=(Nat.ne_of_lt ab).symm)
     (try replace a6:=Bs a6 hk)
     (try replace ab:=Cd ab hk.size)
     (try replace a8:=λc h1 h2=>(hk.block c (Cd h2 ad)).trans (a8 c h1 h2))
     (try have ar:U.heap.size<lo\/V.heap.size<=U.heap.size:=.inr ad)
     (try replace ad:=BX ad hk.size)
     (try replace ae:=ae.later Ly hk)
     clear hk;generalize U.heap.size=bA at *;generalize U.alloc (qO)=U at *)
   | (
     refine Ck (o:=⟨some 6,.alloc 98,0,_,_,none⟩) rfl (λK' hK=>?_);go_simp;refine hK _ _ (λ_=>?_) ?_
     ·exact a2 _ (Bh hb (Bg _ _))
     clear hK K'
     try simp only[Act.put,Bj,Bl,Bk]
     have a6:(U.alloc (qC #[J 0,J 0,J 0,J 0] 98)).heap[U.heap.size]?=some (qC #[J 0,J 0,J 0,J 0] 98 (0,0)):=BH _ _;have hk:=Bg U (qC #[J 0,J 0,J 0,J 0] 98);have ak:=hb.size;have ab:U.heap.size<(U.alloc (qC #[J 0,J 0,J 0,J 0] 98)).heap.size:=by simp
     replace hb:=Bh hb hk
     (try have aq:U.heap.size≠bA:=(Nat.ne_of_lt a9).symm)
     (try replace a5:=Bs a5 hk)
     (try replace a9:=Cd a9 hk.size)
     (try replace a8:=λc h1 h2=>(hk.block c (Cd h2 ad)).trans (a8 c h1 h2))
     (try have au:U.heap.size<lo\/V.heap.size<=U.heap.size:=.inr ad)
     (try replace ad:=BX ad hk.size)
     (try replace ae:=ae.later Ly hk)
     clear hk;generalize U.heap.size=bB at *;generalize U.alloc (qC #[J 0,J 0,J 0,J 0] 98)=U at *)
   | (
     refine Ck (o:=⟨none,.store 26 (.tmp 5) (.tmp 23),0,_,_,none⟩) rfl (λK' hK=>?_);have q:=Kk a5;have rf:=q.1;have r0:=q.2.1;have r1:=q.2.2.1;have r2:=q.2.2.2;obtain⟨i,f⟩:=xsq a5 (qS a3 s.X.cz.length k3) (qS a4 r.heap.length k4) (J s.X.ez);go_simp;refine hK _ _ (λ_=>?_) ?_
     ·exact a2 _ (hb.trans (f.below aj))
     clear hK K' q rf r0 r1 r2
     try simp only[Act.put,Bj,Bl,Bk]
     replace a5:=i;clear i;replace hb:=hb.trans (f.below aj);replace a8:=λc h1 h2=>(f.blk c Zo).trans (a8 c h1 h2);replace a6:=f.held a6 Zo;clear f;generalize (((U.setCell (O bA 0) (qS a3 s.X.cz.length k3)).setCell (O bA 1) (qS a4 r.heap.length k4)).setCell (O bA 2) (J s.X.ez))=U at *)
   | (
     refine Ck (o:=⟨none,.store 98 (.tmp 6) (.tmp 24),0,_,_,none⟩) rfl (λK' hK=>?_);have q:=Ec a6;have rf:=q.1;have r0:=q.2.1;have r1:=q.2.2.1;have r2:=q.2.2.2.1;have r3:=q.2.2.2.2;obtain⟨i,f⟩:=Fz a6 (J r.v.k) (J r.v.n) (J r.err) (J r.sz_);go_simp;refine hK _ _ (λ_=>?_) ?_
     ·exact a2 _ (hb.trans (f.below ak))
     clear hK K' q rf r0 r1 r2 r3
     try simp only[Act.put,Bj,Bl,Bk]
     replace a6:=i;clear i;replace hb:=hb.trans (f.below ak);replace a8:=λc h1 h2=>(f.blk c Zo).trans (a8 c h1 h2);replace a5:=f.held a5 Zo;clear f;generalize ((((U.setCell (O bB 0) (J r.v.k)).setCell (O bB 1) (J r.v.n)).setCell (O bB 2) (J r.err)).setCell (O bB 3) (J r.sz_))=U at *)
   | (
     refine EZ ?_ ?_ _
     ·decide +kernel
     try simp only[Act.put,Bj,Bl,Bk]
     have ap:Hid (xss W s.X r (qP bA) (qP bB) U):=⟨bA,bB,_,_,rfl,rfl,a5,a6,aj,ak,hb,K.keep Bw (Keeps.of_block a8) (λc h1=>BX ao h1),L.keep BB (Keeps.of_block a8) (λc h1=>BX ao h1)⟩
     go_wp2_with fail;go_meet
     case rel=>exact ap.out)
 case rest=>
  obtain⟨bA,bB,T,a1,rfl,rfl,a5,a6,aj,ak,C,z,B⟩:=hcut;obtain⟨a3,k3,rfl,-⟩:=id z;obtain⟨a4,k4,rfl,-⟩:=id B;have ag:=hR.later C;have fA:=(Kk a5).2;obtain⟨F,G,H⟩:=fA;obtain⟨s0,s1,s2,s3,s4,s5⟩:=Fc ag.box;have sf:=BN ag.box;obtain⟨M,y⟩:=PP ag.box (qS a3 s.X.cz.length k3) (qS a4 r.heap.length k4) s.X.ez;have ay:=hid ag;go_upto_region 3 with (fail);generalize (((wc.setCell (O sb 0) (qS a3 s.X.cz.length k3)).setCell (O sb 1) (qS a4 r.heap.length k4)).setCell (O sb 2) (J s.X.ez))=Y at *;clear F G H s0 s1 s2 s3 s4 s5 sf;have az:=y.held a6 Zo;have b1:=y.held ay.out.re Zo;obtain⟨-,g0,g1,g2,g3⟩:=Ec az;have b2:=λw'=>xeI r w';go_wp2_with fail;refine (b2 _).mono ?_;rintro e Z ⟨rfl,p⟩;have an:=Bs b1 p;obtain⟨rf,r0,r1,r2,r3⟩:=Ec an;obtain⟨hF,D⟩:=Fz an (J (Es r).err) (J (Es r).n) (J (Es r).v.k) (J (Es r).v.n);have HF:=hid (NK (Bh ai C) y p D Zo);have am:=Bs M p;have ax:=hid (D.held am Zo);clear am g0 g1 g2 g3;go_wp2;refine Bt (v:=Ej (Es r)) ?_ rfl ⟨rfl,⟨_,_,_,_,ax.out,⟨z.keep Bw (HF.out.keeps _ λb hb=>⟨by omega,by omega⟩) λb hb=>.inr Zo,B.keep BB (HF.out.keeps _ λb hb=>⟨by omega,by omega⟩) λb hb=>.inr Zo,?_,?_⟩⟩,HF.out.kp⟩
  ·simp[results,Tryz.results57,go_sem,r0,r1,r2,r3]
  ·exact HS.out.l.keep Dc (Keeps.of_block λb hb hl=>HF.out.kp.blk b hl (by rw[Eb (hP b hb)];omega)) λb hb=>.inl hb
  exact HS.out.t.keep xbD (Keeps.of_block λb hb hl=>HF.out.kp.blk b hl (by rw[Eb (hP b hb)];omega)) λb hb=>.inl hb
end Go.Proofs.YtbafokihegegiaaGreatDoor
