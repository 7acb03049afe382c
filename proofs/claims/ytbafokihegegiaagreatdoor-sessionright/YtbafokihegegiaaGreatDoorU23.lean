import Derived.Test.YtbafokihegegiaaGreatDoorU15
namespace Go.Proofs.YtbafokihegegiaaGreatDoor
open ChangeShapes WideShapes ChangeAt RowKit
set_option linter.unusedSimpArgs false
set_option linter.unusedVariables false
set_option maxHeartbeats 8000000
theorem xm1 {X:QW}(i:BM X=0)(s:QV)(name:ByteArray)(a:List QV){l:List QE}{ts:List QT}{n:Nat}(h:CFew ⟨l,ts,0,0⟩ (n+401)):CFew ⟨(DQ (Ds X 400) X ⟨l,ts,0,0⟩ s name a 400).2.cells,(DQ (Ds X 400) X ⟨l,ts,0,0⟩ s name a 400).2.ts,0,0⟩ n:=by
 have b:∀st:CSt,CFew st n->CFew ⟨st.cells,st.ts,0,0⟩ n:=λst h=>⟨h.c,h.cl,h.t,h.tl,by have:=h.h;simp;omega,by have:=h.k;simp;omega⟩
 unfold DQ;split
 ·exact b _ (h.mono (by omega))
 refine b _ ?_;obtain⟨q,d,-,e⟩:=xof (E:=Ds X 400) (P:=λj st=>CFew st j) (λj st s c nm h=>h.look X s c nm) 20 ⟨X.heap,0,0,⟨l,ts,0,0⟩⟩ (BF X.cz (Ch X.heap s) name).1 (BF X.cz (Ch X.heap s) name).2 s a;have f:=(xl7 (Ds X 400) 20 ⟨X.heap,0,0,⟨l,ts,0,0⟩⟩ (BF X.cz (Ch X.heap s) name).1 (BF X.cz (Ch X.heap s) name).2 s a (by show (0:Int)<=400;decide)).1;have g:(Ds X 400).fuel=400:=rfl;rw[g] at f;simp only at e;exact d n (h.mono (by omega))
abbrev Hg (s:Sn)(n:Nat):Prop:=CFew ⟨s.cells,s.ts,0,0⟩ n
theorem xqO:Hg ⟨xlV,[],[],[]⟩ 1000000:=⟨by decide,(λx a=>by cases a),by decide,(λx a=>by cases a),by decide,by decide⟩
theorem xsc {i:Nat}{s:Sn}(b:SInv i s){n:Nat}(h:Hg s (n+401))(x:StE):Hg (Cg s x).1 n:=by
 have a:Hg s n:=h.mono (by omega);unfold Cg;split
 ·split<;>exact a
 split
 ·split
  ·exact a
  split
  ·exact a
  split<;>exact a
 split
 ·split
  ·exact a
  split<;>exact a
 split
 ·exact a
 split
 ·exact xm1 b.right _ _ _ h
 split
 ·exact a
 split
 ·exact a
 split
 ·split
  ·exact a
  split<;>exact a
 ·exact a
set_option maxRecDepth 8000
def xss (W:qW)(X:QW)(r:Ran)(v5 v6:Value)(wx:qW):Prop:=
 ∃(bA bB:Nat) (cv hv:Value),v5=qP bA/\v6=qP bB/\wx.heap[bA]?=some (qC #[cv,hv,J X.ez] 26 (0,0))/\wx.heap[bB]?=some (qC #[J r.v.k,J r.v.n,J r.err,J r.sz_] 98 (0,0))/\W.heap.size<=bA/\W.heap.size<=bB/\qY W wx/\BK (λb=>W.heap.size<=b) wx cv X.cz/\BP (λb=>W.heap.size<=b) wx hv r.heap
theorem xke {P Q:Nat->Prop}(s:Sn)(hX:BM s.X=0)(v:QV)(name:ByteArray)(a:List QV)(cv hv lv tv sv av:Value)(w:qW)(sb:Nat)(u:w.heap[sb]?=some (DR cv hv s.X.ez lv tv sv))(hS:SesAt P w cv hv lv tv s)(hP:∀b,P b->b≠sb)(hA:CG Q w av a)(hn:name.size<=140737488351232) :
  Calls Tryz.prog 55 #[qP sb,EL v name av] w λe w'=>ArPost P w sb sv ⟨⟨s.X.cz,(Dz s.X v name a 400).heap,s.X.ez⟩,s.cells,s.ts,s.saved⟩ (Es (Dz s.X v name a 400)) e w':=by
 have aq:=λ(w':qW) (hb:qY w w')=>xnC s.X hX v name a 400 cv hv av w' (hS.c.later Bw hb) (hS.h.later BB hb) (hA.later BZ hb) hn;obtain⟨r,hr⟩:∃r,Dz s.X v name a 400=r:=⟨_,rfl⟩;rw[hr] at aq ⊢;clear hr;obtain⟨ac,cc,rfl,-⟩:=id hS.c;obtain⟨ah,ch,rfl,-⟩:=id hS.h;obtain⟨al,kl,rfl,-⟩:=id hS.l;obtain⟨at',kt,rfl,-⟩:=id hS.t;obtain⟨aa,ca,rfl,-⟩:=id hA;have aj:=BG w (qK v name aa a ca) (qR);have b0:=By u;have hR:BxR sb (qS ac s.X.cz.length cc) (qS ah s.X.heap.length ch) s.X.ez (qS al s.cells.length kl) (qS at' s.ts.length kt) sv w.heap.size v name (qS aa a.length ca) ((w.alloc (qK v name aa a ca)).alloc (qR)):=⟨Bs u aj,Bs (BH w _) (Bg _ _),Dh _ _ _ (by simp)⟩
 have HS:=hid hS;clear hS hA u;go_enter Tryz.func55,Tryz.ntmps55;go_upto_region 1 with (fail);have az:w.heap.size+2<=((w.alloc (qK v name aa a ca)).alloc (qR)).heap.size:=by simp
 generalize ((w.alloc (qK v name aa a ca)).alloc (qR))=W at *;have a1:∀W':qW,qY W W'->FZ sb (qS ac s.X.cz.length cc) (qS ah s.X.heap.length ch) s.X.ez (qS al s.cells.length kl) (qS at' s.ts.length kt) sv W'/\W'.cell? (O w.heap.size 0)=some (J v.k)/\W'.cell? (O w.heap.size 1)=some (J v.n)/\W'.cell? (O w.heap.size 2)=some (qZ name)/\W'.cell? (O w.heap.size 3)=some (qS aa a.length ca):=λW' hb=>(hR.later hb).al
 go_cut [5,6] (λv5 v6 wx=>xss W s.X r v5 v6 wx)
 case first=>
  refine Fm (S:=λw'=>FZ sb (qS ac s.X.cz.length cc) (qS ah s.X.heap.length ch) s.X.ez (qS al s.cells.length kl) (qS at' s.ts.length kt) sv w'/\w'.cell? (O w.heap.size 0)=some (J v.k)/\w'.cell? (O w.heap.size 1)=some (J v.n)/\w'.cell? (O w.heap.size 2)=some (qZ name)/\w'.cell? (O w.heap.size 3)=some (qS aa a.length ca)) [] (by kernel_rfl) ?_;have hb:qY W W.drew:=(Br _ W).drew;generalize W.drew=U at *
  repeat' first
   | (
     refine tk 0 (⟨some 8,.move (.tmp 0),86,_,_,none⟩) (qP sb) rfl (a1 _ hb) (λ_ _ _ h=>h) rfl ?_ ?_ ?_
     ·decide +kernel
     ·rintro w⟨⟨_,_,_,_,_,_⟩,_,_,_,_⟩;go_simp
     try simp only[Act.put,Bj,Bl,Bk])
   | (
     refine tk 1 (⟨some 9,.nilCheck (.tmp 8),0,_,_,none⟩) (qP sb) rfl (a1 _ hb) (λ_ _ _ h=>h) rfl ?_ ?_ ?_
     ·decide +kernel
     ·rintro w⟨⟨_,_,_,_,_,_⟩,_,_,_,_⟩;go_simp
     try simp only[Act.put,Bj,Bl,Bk])
   | (
     refine tk 2 (⟨some 10,.fieldAddr 31 (.tmp 9) 0,0,_,_,none⟩) (qP sb) rfl (a1 _ hb) (λ_ _ _ h=>h) rfl ?_ ?_ ?_
     ·decide +kernel
     ·rintro w⟨⟨_,_,_,_,_,_⟩,_,_,_,_⟩;go_simp
     try simp only[Act.put,Bj,Bl,Bk])
   | (
     refine tk 3 (⟨some 11,.load 26 (.tmp 10),26,_,_,none⟩) (qV ac cc ah ch s.X) rfl (a1 _ hb) (λ_ _ _ h=>h) rfl ?_ ?_ ?_
     ·decide +kernel
     ·rintro w⟨⟨_,_,_,_,_,_⟩,_,_,_,_⟩;go_simp
     try simp only[Act.put,Bj,Bl,Bk])
   | (
     refine tk 4 (⟨some 12,.load 54 (.tmp 3),54,_,_,none⟩) (EL v name (qS aa a.length ca)) rfl (a1 _ hb) (λ_ _ _ h=>h) rfl ?_ ?_ ?_
     ·decide +kernel
     ·rintro w⟨⟨_,_,_,_,_,_⟩,_,_,_,_⟩;go_simp
     try simp only[Act.put,Bj,Bl,Bk])
   | (
     refine tk 6 (⟨some 7,.move (.tmp 13),153,_,_,none⟩) (.tuple #[WV (qS a3 s.X.cz.length k3) (qS a4 r.heap.length k4) s.X.ez,Hh r]) rfl (a1 _ hb) (λ_ _ _ h=>h) rfl ?_ ?_ ?_
     ·decide +kernel
     ·rintro w⟨⟨_,_,_,_,_,_⟩,_,_,_,_⟩;go_simp
     try simp only[Act.put,Bj,Bl,Bk])
   | (
     refine tk 7 (⟨some 14,.extract (.tmp 7) 0,26,_,_,none⟩) (WV (qS a3 s.X.cz.length k3) (qS a4 r.heap.length k4) s.X.ez) rfl (a1 _ hb) (λ_ _ _ h=>h) rfl ?_ ?_ ?_
     ·decide +kernel
     ·rintro w⟨⟨_,_,_,_,_,_⟩,_,_,_,_⟩;go_simp
     try simp only[Act.put,Bj,Bl,Bk])
   | (
     refine tk 8 (⟨some 15,.extract (.tmp 7) 1,98,_,_,none⟩) (Hh r) rfl (a1 _ hb) (λ_ _ _ h=>h) rfl ?_ ?_ ?_
     ·decide +kernel
     ·rintro w⟨⟨_,_,_,_,_,_⟩,_,_,_,_⟩;go_simp
     try simp only[Act.put,Bj,Bl,Bk])
   | (
     refine CN [5,9,10] rfl ?_ ⟨?_,?_,?_,trivial⟩
     ·decide +kernel)
   | (
     refine CN [5,9] rfl ?_ ⟨?_,?_,trivial⟩
     ·decide +kernel)
   | (
     refine CN [5,10] rfl ?_ ⟨?_,?_,trivial⟩
     ·decide +kernel)
   | (
     refine CN [9,10] rfl ?_ ⟨?_,?_,trivial⟩
     ·decide +kernel)
   | (
     refine CN [5] rfl ?_ ⟨?_,trivial⟩
     ·decide +kernel)
   | (
     refine CN [9] rfl ?_ ⟨?_,trivial⟩
     ·decide +kernel)
   | (
     refine CN [10] rfl ?_ ⟨?_,trivial⟩
     ·decide +kernel)
   | (
     refine CN [11] rfl ?_ ⟨?_,trivial⟩
     ·decide +kernel)
   | (
     refine CN [12] rfl ?_ ⟨?_,trivial⟩
     ·decide +kernel)
   | (
     refine Ck (o:=⟨some 13,.call ⟨.value (.func 84),#[.tmp 11,.tmp 12,.const (J 400)],#[26,54,3]⟩,153,_,_,none⟩) rfl (λK' hK=>?_);have ak:=hb.size
     (try have ao:=a8)
     (try have ap:=a9)
     have ab:=aq U (Bh aj hb);obtain⟨lo,g⟩:∃lo,U.heap.size=lo:=⟨_,rfl⟩;rw[g] at ak
     (try rw[g] at ao)
     (try rw[g] at ap)
     refine EX rfl 84 (.func 84) #[.tmp 11,.tmp 12,.const (J 400)] _ rfl #[] rfl #[qV ac cc ah ch s.X,EL v name (qS aa a.length ca),J 400] (by simp[Act.eval,Act.put]) (FN Tryz.func84 (by kernel_rfl) (by kernel_rfl) _ _) ?_;refine (show Calls Tryz.prog 84 #[qV ac cc ah ch s.X,EL v name (qS aa a.length ca),J 400] U _ from ab.mono ?_);rintro e U ⟨f,N,T,rfl,j,m⟩;rw[g] at j m;obtain⟨a3,k3,rfl,-⟩:=id j;obtain⟨a4,k4,rfl,-⟩:=id m;refine⟨_,rfl,?_⟩;replace hb:=Bh hb f;refine hK _ _ (λ_=>?_) ?_
     ·exact a1 _ hb
     clear hK K' ab
     try simp only[Act.put,Bj,Bl,Bk]
     (try replace a2:=Bs a2 f)
     (try replace a8:=Cd a8 f.size)
     (try replace a5:=Bs a5 f)
     (try replace a9:=Cd a9 f.size)
     obtain⟨V,K,L,a6,a7,hu⟩:∃V:qW,BK (λc=>lo<=c) V (qS a3 s.X.cz.length k3) s.X.cz/\BP (λc=>lo<=c) V (qS a4 r.heap.length k4) r.heap/\(∀c,lo<=c->c<V.heap.size->U.heap[c]?=V.heap[c]?)/\V.heap.size<=U.heap.size/\lo<=V.heap.size:=⟨U,j,m,λ_ _ _=>rfl,Bq _,by rw[← g];exact f.size⟩
     clear j m f g)
   | (
     refine Ck (o:=⟨some 5,.alloc 26,0,_,_,none⟩) rfl (λK' hK=>?_);go_simp;refine hK _ _ (λ_=>?_) ?_
     ·exact a1 _ (Bh hb (Bg _ _))
     clear hK K'
     try simp only[Act.put,Bj,Bl,Bk]
     have a2:(U.alloc (qO)).heap[U.heap.size]?=some (qO):=BH _ _;have hk:=Bg U (qO);have ae:=hb.size;have a8:U.heap.size<(U.alloc (qO)).heap.size:=by simp
     replace hb:=Bh hb hk
     (try have an:U.heap.size≠bB:=(Nat.ne_of_lt a9).symm)
     (try replace a5:=Bs a5 hk)
     (try replace a9:=Cd a9 hk.size)
     (try replace a6:=λc h1 h2=>(hk.block c (Cd h2 a7)).trans (a6 c h1 h2))
     (try have ao:U.heap.size<lo\/V.heap.size<=U.heap.size:=.inr a7)
     (try replace a7:=BX a7 hk.size)
     clear hk;generalize U.heap.size=bA at *;generalize U.alloc (qO)=U at *)
   | (
     refine Ck (o:=⟨some 6,.alloc 98,0,_,_,none⟩) rfl (λK' hK=>?_);go_simp;refine hK _ _ (λ_=>?_) ?_
     ·exact a1 _ (Bh hb (Bg _ _))
     clear hK K'
     try simp only[Act.put,Bj,Bl,Bk]
     have a5:(U.alloc (qC #[J 0,J 0,J 0,J 0] 98)).heap[U.heap.size]?=some (qC #[J 0,J 0,J 0,J 0] 98 (0,0)):=BH _ _;have hk:=Bg U (qC #[J 0,J 0,J 0,J 0] 98);have af:=hb.size;have a9:U.heap.size<(U.alloc (qC #[J 0,J 0,J 0,J 0] 98)).heap.size:=by simp
     replace hb:=Bh hb hk
     (try have an:U.heap.size≠bA:=(Nat.ne_of_lt a8).symm)
     (try replace a2:=Bs a2 hk)
     (try replace a8:=Cd a8 hk.size)
     (try replace a6:=λc h1 h2=>(hk.block c (Cd h2 a7)).trans (a6 c h1 h2))
     (try have ap:U.heap.size<lo\/V.heap.size<=U.heap.size:=.inr a7)
     (try replace a7:=BX a7 hk.size)
     clear hk;generalize U.heap.size=bB at *;generalize U.alloc (qC #[J 0,J 0,J 0,J 0] 98)=U at *)
   | (
     refine Ck (o:=⟨none,.store 26 (.tmp 5) (.tmp 14),0,_,_,none⟩) rfl (λK' hK=>?_);have q:=Kk a2;have rf:=q.1;have r0:=q.2.1;have r1:=q.2.2.1;have r2:=q.2.2.2;obtain⟨i,d⟩:=xsq a2 (qS a3 s.X.cz.length k3) (qS a4 r.heap.length k4) (J s.X.ez);go_simp;refine hK _ _ (λ_=>?_) ?_
     ·exact a1 _ (hb.trans (d.below ae))
     clear hK K' q rf r0 r1 r2
     try simp only[Act.put,Bj,Bl,Bk]
     replace a2:=i;clear i;replace hb:=hb.trans (d.below ae);replace a6:=λc h1 h2=>(d.blk c Zo).trans (a6 c h1 h2);replace a5:=d.held a5 Zo;clear d;generalize (((U.setCell (O bA 0) (qS a3 s.X.cz.length k3)).setCell (O bA 1) (qS a4 r.heap.length k4)).setCell (O bA 2) (J s.X.ez))=U at *)
   | (
     refine Ck (o:=⟨none,.store 98 (.tmp 6) (.tmp 15),0,_,_,none⟩) rfl (λK' hK=>?_);have q:=Ec a5;have rf:=q.1;have r0:=q.2.1;have r1:=q.2.2.1;have r2:=q.2.2.2.1;have r3:=q.2.2.2.2;obtain⟨i,d⟩:=Fz a5 (J r.v.k) (J r.v.n) (J r.err) (J r.sz_);go_simp;refine hK _ _ (λ_=>?_) ?_
     ·exact a1 _ (hb.trans (d.below af))
     clear hK K' q rf r0 r1 r2 r3
     try simp only[Act.put,Bj,Bl,Bk]
     replace a5:=i;clear i;replace hb:=hb.trans (d.below af);replace a6:=λc h1 h2=>(d.blk c Zo).trans (a6 c h1 h2);replace a2:=d.held a2 Zo;clear d;generalize ((((U.setCell (O bB 0) (J r.v.k)).setCell (O bB 1) (J r.v.n)).setCell (O bB 2) (J r.err)).setCell (O bB 3) (J r.sz_))=U at *)
   | (
     refine EZ ?_ ?_ _
     ·decide +kernel
     try simp only[Act.put,Bj,Bl,Bk]
     have am:Hid (xss W s.X r (qP bA) (qP bB) U):=⟨bA,bB,_,_,rfl,rfl,a2,a5,ae,af,hb,K.keep Bw (Keeps.of_block a6) (λc h1=>BX ak h1),L.keep BB (Keeps.of_block a6) (λc h1=>BX ak h1)⟩
     go_wp2_with fail;go_meet
     case rel=>exact am.out)
 case rest=>
  obtain⟨bA,bB,R,a0,rfl,rfl,a2,a5,ae,af,C,z,B⟩:=hcut;obtain⟨a3,k3,rfl,-⟩:=id z;obtain⟨a4,k4,rfl,-⟩:=id B;have ad:=hR.later C;have fA:=(Kk a2).2;obtain⟨F,G,H⟩:=fA;obtain⟨s0,s1,s2,s3,s4,s5⟩:=Fc ad.box;have sf:=BN ad.box;obtain⟨M,y⟩:=PP ad.box (qS a3 s.X.cz.length k3) (qS a4 r.heap.length k4) s.X.ez;have au:=hid ad;go_upto_region 3 with (fail);generalize (((wc.setCell (O sb 0) (qS a3 s.X.cz.length k3)).setCell (O sb 1) (qS a4 r.heap.length k4)).setCell (O sb 2) (J s.X.ez))=Y at *;clear F G H s0 s1 s2 s3 s4 s5 sf;have aw:=y.held a5 Zo;have ax:=y.held au.out.re Zo;obtain⟨-,g0,g1,g2,g3⟩:=Ec aw;have ay:=λw'=>xeI r w';go_wp2_with fail;refine (ay _).mono ?_;rintro e Z ⟨rfl,p⟩;have ai:=Bs ax p;obtain⟨rf,r0,r1,r2,r3⟩:=Ec ai;obtain⟨hF,D⟩:=Fz ai (J (Es r).err) (J (Es r).n) (J (Es r).v.k) (J (Es r).v.n);have HF:=hid (NK (Bh aj C) y p D Zo);have ag:=Bs M p;have ar:=hid (D.held ag Zo);clear ag g0 g1 g2 g3;go_wp2;refine Bt (v:=Ej (Es r)) ?_ rfl ⟨rfl,⟨_,_,_,_,ar.out,⟨z.keep Bw (HF.out.keeps _ λb hb=>⟨by omega,by omega⟩) λb hb=>.inr Zo,B.keep BB (HF.out.keeps _ λb hb=>⟨by omega,by omega⟩) λb hb=>.inr Zo,?_,?_⟩⟩,HF.out.kp⟩
  ·simp[results,Tryz.results55,go_sem,r0,r1,r2,r3]
  ·exact HS.out.l.keep Dc (Keeps.of_block λb hb hl=>HF.out.kp.blk b hl (by rw[Eb (hP b hb)];omega)) λb hb=>.inl hb
  exact HS.out.t.keep xbD (Keeps.of_block λb hb hl=>HF.out.kp.blk b hl (by rw[Eb (hP b hb)];omega)) λb hb=>.inl hb
end Go.Proofs.YtbafokihegegiaaGreatDoor
