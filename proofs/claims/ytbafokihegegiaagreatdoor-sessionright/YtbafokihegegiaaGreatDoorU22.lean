import Derived.Test.YtbafokihegegiaaGreatDoorU21
namespace Go.Proofs.YtbafokihegegiaaGreatDoor
open ChangeShapes WideShapes ChangeAt RowKit
set_option linter.unusedSimpArgs false
set_option linter.unusedVariables false
set_option maxHeartbeats 8000000
set_option maxRecDepth 8000
theorem xpr {P:Nat->Prop}(f:List QO)(hv:Value)(c:Int)(k:Nat)(w:qW)(h:BP P w hv f)(o:k<=2147483647){er:Int}(a:(if 60<=f.length then (15:Int) else 0)=er) :
  Calls Tryz.prog 82 #[hv,J c,J k] w λe w'=>qY w w'/\∃(a3:Option Addr) (n3 k3:Nat) (v:QV),e=.returned (.tuple #[qS a3 n3 k3,VV v,J er])/\(er=0->v=⟨4,f.length⟩/\BP (λb=>w.heap.size<=b) w' (qS a3 n3 k3) (f++[⟨c,List.replicate k BC⟩])):=by
 refine (xl0 f hv c k w h).mono ?_;rintro e w' ⟨i,l,d⟩;refine⟨i,?_⟩;by_cases h6:60<=f.length
 ·rw[if_pos h6] at a;subst a;exact⟨none,0,0,BC,l (.inl h6),λm=>absurd m (by decide)⟩
 rw[if_neg h6] at a;subst a;obtain⟨g,s,cap,rfl,j⟩:=d (by omega);have n:=(j (λb=>if b=w.heap.size then 4 else if w.heap.size+1<=b then 2 else 0) (by simp) (λb i=>by rw[if_neg (by omega),if_pos i])).heap;refine⟨_,_,_,_,rfl,λ_=>⟨rfl,n.keep BB (Keeps.refl _ _) λb i=>?_⟩⟩;have d:=i.2
 (try simp only at d)
 split at d
 ·cases d
 split at d
 ·omega
 cases d
def ObC (W:qW)(hs:List QO)(u:QV)(er:Int)(v5 v6:Value)(wx:qW):Prop:=
 ∃(bA:Nat) (a3:Option Addr) (n3 k3:Nat) (v:QV),v5=qS a3 n3 k3/\v6=qP bA/\wx.heap[bA]?=some (qH v)/\W.heap.size<=bA/\qY W wx/\(er=0->v=u/\BP (λb=>W.heap.size<=b) wx (qS a3 n3 k3) hs)
theorem setH {w:qW}{sb:Nat}{cv hv:Value}{ep:Int}{lv tv sv:Value}(h:w.heap[sb]?=some (DR cv hv ep lv tv sv))(u:Value):(w.setCell (O sb 1) u).heap[sb]?=some (DR cv u ep lv tv sv)/\Chg sb w (w.setCell (O sb 1) u):=
 ⟨by rw[BW h _];rfl,(Chg.refl _ _).set _ _⟩
theorem xrx {P:Nat->Prop}{w wc Y Z F:qW}{sb rb:Nat}{cv hv lv tv sv a:Value}{s:Sn}{r:ReE}{H:List QO}{e:Ending}(j:SesAt P w cv hv lv tv s)(i:∀b,P b->b≠sb)(o:qY w wc)(u:Chg sb wc Y)(m:qY Y Z)(k:Chg rb Z F)(v:w.heap.size<=rb)(z:sb<w.heap.size)(q:Y.heap[sb]?=some (DR cv a s.X.ez lv tv sv))
  {n:Nat} (B:w.heap.size<=n) (d:rb<n) (y:BP (λb=>n<=b) wc a H) (p:e=.returned (Ej r)):ArPost P w sb sv ⟨⟨s.X.cz,H,s.X.ez⟩,s.cells,s.ts,s.saved⟩ r e F:=by
 have g:=NK o u m k v;refine⟨p,⟨cv,a,lv,tv,k.held (Bs q m) (by omega),⟨?_,y.keep BB (g.keeps _ λb f=>⟨by omega,by omega⟩) λb f=>.inr (by omega),?_,?_⟩⟩,g.kp⟩
 ·exact j.c.keep Bw (Keeps.of_block λb f h=>g.kp.blk b h (by rw[Eb (i b f)];omega)) λb f=>.inl f
 ·exact j.l.keep Dc (Keeps.of_block λb f h=>g.kp.blk b h (by rw[Eb (i b f)];omega)) λb f=>.inl f
 exact j.t.keep xbD (Keeps.of_block λb f h=>g.kp.blk b h (by rw[Eb (i b f)];omega)) λb f=>.inl f
theorem xhC (n:Nat)(ad ah:Option Addr)(cap nh ch:Nat)(ep c:Int)(w:qW):Calls Tryz.prog 81 #[WV (qS ad n cap) (qS ah nh ch) ep,J c] w λe w'=>e=.returned (.bool (Dj n c))/\qY w w':=by
 by_cases h0:c=0
 ·have a:Dj n c=true:=by simp[Dj,h0]
  rw[a];subst h0;go_enter Tryz.func81,Tryz.ntmps81;go_wp2;refine Bt (v:=.bool true) ?_ rfl ⟨rfl,Bg _ _⟩;simp[results,Tryz.results81,go_sem]
 by_cases h4:4<=c
 ·by_cases hn:c<(n:Int)
  ·have a:Dj n c=true:=by simp[Dj];omega
   rw[a];clear a;go_enter Tryz.func81,Tryz.ntmps81;go_wp2;refine Bt (v:=.bool true) ?_ rfl ⟨rfl,Bg _ _⟩;simp[results,Tryz.results81,go_sem,h0]
  have a:Dj n c=false:=by simp[Dj];omega
  rw[a];clear a;go_enter Tryz.func81,Tryz.ntmps81;go_wp2;refine Bt (v:=.bool false) ?_ rfl ⟨rfl,Bg _ _⟩;simp[results,Tryz.results81,go_sem,h0]
 have a:Dj n c=false:=by simp[Dj];omega
 rw[a];clear a;go_enter Tryz.func81,Tryz.ntmps81;go_wp2;refine Bt (v:=.bool false) ?_ rfl ⟨rfl,Bg _ _⟩;simp[results,Tryz.results81,go_sem,h0]
def KS (s:Sn)(c:Int):Sn × ReE:=
 if Dj s.X.cz.length c=false then (s,Ct 6 0)
 else if 60<=s.X.heap.length then (s,Ct 15 0)
 else (⟨⟨s.X.cz,s.X.heap++[⟨c,List.replicate (DY s.X.cz c).toNat BC⟩],s.X.ez⟩,s.cells,s.ts,s.saved⟩,⟨0,s.X.heap.length,⟨4,s.X.heap.length⟩⟩)
theorem xhy {P:Nat->Prop}(s:Sn)(hX:BM s.X=0)(c:Int)(cv hv lv tv sv:Value)(w:qW)(sb:Nat)(j:w.heap[sb]?=some (DR cv hv s.X.ez lv tv sv))(hS:SesAt P w cv hv lv tv s)(hP:∀b,P b->b≠sb) :
  Calls Tryz.prog 54 #[qP sb,J c] w λe w'=>ArPost P w sb sv (KS s c).1 (KS s c).2 e w':=by
 obtain⟨er,i⟩:∃er,(if 60<=s.X.heap.length then (15:Int) else 0)=er:=⟨_,rfl⟩
 obtain⟨k,hk,G⟩:∃k:Nat,DY s.X.cz c=(k:Int)/\k<=2147483647:=by
  have ho:=PY hX;have hl:s.X.cz.length<=12:=xjU hX;have:=PD ho (s.X.cz.length+1) c 0 Zo;exact⟨(DY s.X.cz c).toNat,by unfold DY;omega,by unfold DY;omega⟩
 have ae:=λ(w':qW) (L:qY w w')=>xhF s.X c cv hv w' (hS.c.later Bw L) (hS.h.later BB L) (PY hX);rw[hk] at ae;have ai:=λ(w':qW) (L:qY w w')=>xpr s.X.heap hv c k w' (hS.h.later BB L) G i
 have a5:Hid (60<=s.X.heap.length ↔ er≠0):=by
  show _ ↔ _;rw[← i];split<;>simp_all<;>omega
 have ad:Hid (er=0\/er=15):=by
  show _\/_;rw[← i];split<;>simp
 have h1:Hid (Dj s.X.cz.length c=false->KS s c=(s,Ct 6 0)):=λh=>by unfold KS;rw[if_pos h]
 have h2:Hid (Dj s.X.cz.length c=true->er≠0->KS s c=(s,Ct er 0)):=λh h'=>by
  unfold KS;rw[if_neg (by simp[h]),if_pos (a5.out.2 h')];rcases ad.out with e | e
  ·exact absurd e h'
  rw[e]
 have h3:Hid (Dj s.X.cz.length c=true->er=0->KS s c=(⟨⟨s.X.cz,s.X.heap++[⟨c,List.replicate k BC⟩],s.X.ez⟩,s.cells,s.ts,s.saved⟩,⟨0,s.X.heap.length,⟨4,s.X.heap.length⟩⟩)):=λh h'=>by
  unfold KS;rw[if_neg (by simp[h]),if_neg (λh6=>a5.out.1 h6 h'),hk];simp
 clear i hk a5 ad;generalize KS s c=RR at *;obtain⟨ac,cc,rfl,-⟩:=id hS.c;obtain⟨ah,ch,rfl,-⟩:=id hS.h;obtain⟨al,kl,rfl,-⟩:=id hS.l;obtain⟨at',kt,rfl,-⟩:=id hS.t;have Q:=Bg w (qR);have aj:=By j;have hR:BxT sb (qS ac s.X.cz.length cc) (qS ah s.X.heap.length ch) s.X.ez (qS al s.cells.length kl) (qS at' s.ts.length kt) sv w.heap.size w.heap.size (qR) (w.alloc (qR)):=⟨Bs j Q,BH w _,BH w _⟩
 have af:=λw'=>xhC s.X.cz.length ac ah cc s.X.heap.length ch s.X.ez c w';have HS:=hid hS;have HX:=hid j;clear hS j;go_enter Tryz.func54,Tryz.ntmps54;go_upto_region 1 with (fail);have aa:w.heap.size+1<=(w.alloc (qR)).heap.size:=by simp
 generalize (w.alloc (qR))=W at *;obtain⟨s0,s1,s2,s3,s4,s5⟩:=Fc hR.box;go_wp2_with fail;refine (af _).mono ?_;rintro e W ⟨rfl,m⟩;replace hR:=hR.later m;replace Q:=Bh Q m;have ak:w.heap.size+1<=W.heap.size:=BX aa m.size;clear m aa s0 s1 s2 s3 s4 s5 af
 cases hB:Dj s.X.cz.length c
 ·have a0:=hid (h1.out hB);have a6:=λw'=>NW 6 w';go_wp2_with fail;refine (a6 _).mono ?_;rintro e Z ⟨rfl,g⟩;have R:=Bs hR.re g;obtain⟨rf,r0,r1,r2,r3⟩:=Ec R;obtain⟨hF,d⟩:=Fz R (J 6) (J 0) (J 0) (J 0);have HF:=hid (Qm HX.out HS.out (Bh Q g) d (Bq _) (r:=Ct 6 0) rfl);go_wp2;refine Bt (v:=Ej (Ct 6 0)) ?_ rfl (by rw[a0.out];exact HF.out);simp[results,Tryz.results54,go_sem,r0,r1,r2,r3]
 go_upto_region 3 with (fail);have K:∀W':qW,qY W W'->FZ sb (qS ac s.X.cz.length cc) (qS ah s.X.heap.length ch) s.X.ez (qS al s.cells.length kl) (qS at' s.ts.length kt) sv W':=λW' L=>Fc (hR.later L).box
 go_cut [5,6,7] (λv5 v6 v7 wx=>ObC W (s.X.heap++[⟨c,List.replicate k BC⟩]) ⟨4,s.X.heap.length⟩ er v5 v6 wx/\v7=J er)
 case first=>
   refine Fm (S:=λw'=>FZ sb (qS ac s.X.cz.length cc) (qS ah s.X.heap.length ch) s.X.ez (qS al s.cells.length kl) (qS at' s.ts.length kt) sv w') [] (by kernel_rfl) ?_;have L:qY W W.drew:=(Br _ W).drew;generalize W.drew=U at *
   repeat' first
    | (
      refine tk 0 (⟨some 17,.move (.tmp 0),86,_,_,none⟩) (qP sb) rfl (K _ L) (λ_ _ _ h=>h) rfl ?_ ?_ ?_
      ·decide +kernel
      ·rintro w⟨_,_,_,_,_,_⟩;go_simp
      try simp only[Act.put,Bj,Bl,Bk])
    | (
      refine tk 1 (⟨some 18,.nilCheck (.tmp 17),0,_,_,none⟩) (qP sb) rfl (K _ L) (λ_ _ _ h=>h) rfl ?_ ?_ ?_
      ·decide +kernel
      ·rintro w⟨_,_,_,_,_,_⟩;go_simp
      try simp only[Act.put,Bj,Bl,Bk])
    | (
      refine tk 2 (⟨some 19,.fieldAddr 31 (.tmp 18) 0,0,_,_,none⟩) (qP sb) rfl (K _ L) (λ_ _ _ h=>h) rfl ?_ ?_ ?_
      ·decide +kernel
      ·rintro w⟨_,_,_,_,_,_⟩;go_simp
      try simp only[Act.put,Bj,Bl,Bk])
    | (
      refine tk 3 (⟨some 20,.fieldAddr 26 (.tmp 19) 1,0,_,_,none⟩) (.pointer (some (O sb 1))) rfl (K _ L) (λ_ _ _ h=>h) rfl ?_ ?_ ?_
      ·decide +kernel
      ·rintro w⟨_,_,_,_,_,_⟩;go_simp
      try simp only[Act.put,Bj,Bl,Bk])
    | (
      refine tk 4 (⟨some 21,.load 24 (.tmp 20),24,_,_,none⟩) (qS ah s.X.heap.length ch) rfl (K _ L) (λ_ _ _ h=>h) rfl ?_ ?_ ?_
      ·decide +kernel
      ·rintro w⟨_,_,_,_,_,_⟩;go_simp
      try simp only[Act.put,Bj,Bl,Bk])
    | (
      refine tk 5 (⟨some 22,.move (.tmp 1),3,_,_,none⟩) (J c) rfl (K _ L) (λ_ _ _ h=>h) rfl ?_ ?_ ?_
      ·decide +kernel
      ·rintro w⟨_,_,_,_,_,_⟩;go_simp
      try simp only[Act.put,Bj,Bl,Bk])
    | (
      refine tk 6 (⟨some 23,.move (.tmp 0),86,_,_,none⟩) (qP sb) rfl (K _ L) (λ_ _ _ h=>h) rfl ?_ ?_ ?_
      ·decide +kernel
      ·rintro w⟨_,_,_,_,_,_⟩;go_simp
      try simp only[Act.put,Bj,Bl,Bk])
    | (
      refine tk 7 (⟨some 24,.nilCheck (.tmp 23),0,_,_,none⟩) (qP sb) rfl (K _ L) (λ_ _ _ h=>h) rfl ?_ ?_ ?_
      ·decide +kernel
      ·rintro w⟨_,_,_,_,_,_⟩;go_simp
      try simp only[Act.put,Bj,Bl,Bk])
    | (
      refine tk 8 (⟨some 25,.fieldAddr 31 (.tmp 24) 0,0,_,_,none⟩) (qP sb) rfl (K _ L) (λ_ _ _ h=>h) rfl ?_ ?_ ?_
      ·decide +kernel
      ·rintro w⟨_,_,_,_,_,_⟩;go_simp
      try simp only[Act.put,Bj,Bl,Bk])
    | (
      refine tk 9 (⟨some 26,.load 26 (.tmp 25),26,_,_,none⟩) (qV ac cc ah ch s.X) rfl (K _ L) (λ_ _ _ h=>h) rfl ?_ ?_ ?_
      ·decide +kernel
      ·rintro w⟨_,_,_,_,_,_⟩;go_simp
      try simp only[Act.put,Bj,Bl,Bk])
    | (
      refine tk 10 (⟨some 27,.move (.tmp 1),3,_,_,none⟩) (J c) rfl (K _ L) (λ_ _ _ h=>h) rfl ?_ ?_ ?_
      ·decide +kernel
      ·rintro w⟨_,_,_,_,_,_⟩;go_simp
      try simp only[Act.put,Bj,Bl,Bk])
    | (
      refine tk 13 (⟨some 16,.move (.tmp 29),151,_,_,none⟩) (.tuple #[qS a3 n3 k3,VV v,J er]) rfl (K _ L) (λ_ _ _ h=>h) rfl ?_ ?_ ?_
      ·decide +kernel
      ·rintro w⟨_,_,_,_,_,_⟩;go_simp
      try simp only[Act.put,Bj,Bl,Bk])
    | (
      refine tk 14 (⟨some 30,.extract (.tmp 16) 0,24,_,_,none⟩) (qS a3 n3 k3) rfl (K _ L) (λ_ _ _ h=>h) rfl ?_ ?_ ?_
      ·decide +kernel
      ·rintro w⟨_,_,_,_,_,_⟩;go_simp
      try simp only[Act.put,Bj,Bl,Bk])
    | (
      refine tk 15 (⟨some 31,.extract (.tmp 16) 1,41,_,_,none⟩) (VV v) rfl (K _ L) (λ_ _ _ h=>h) rfl ?_ ?_ ?_
      ·decide +kernel
      ·rintro w⟨_,_,_,_,_,_⟩;go_simp
      try simp only[Act.put,Bj,Bl,Bk])
    | (
      refine tk 16 (⟨some 32,.extract (.tmp 16) 2,33,_,_,none⟩) (J er) rfl (K _ L) (λ_ _ _ h=>h) rfl ?_ ?_ ?_
      ·decide +kernel
      ·rintro w⟨_,_,_,_,_,_⟩;go_simp
      try simp only[Act.put,Bj,Bl,Bk])
    | (
      refine tk 18 (⟨some 5,.assign (.tmp 30),24,_,_,none⟩) (qS a3 n3 k3) rfl (K _ L) (λ_ _ _ h=>h) rfl ?_ ?_ ?_
      ·decide +kernel
      ·rintro w⟨_,_,_,_,_,_⟩;go_simp
      try simp only[Act.put,Bj,Bl,Bk])
    | (
      refine tk 20 (⟨some 7,.assign (.tmp 32),33,_,_,none⟩) (J er) rfl (K _ L) (λ_ _ _ h=>h) rfl ?_ ?_ ?_
      ·decide +kernel
      ·rintro w⟨_,_,_,_,_,_⟩;go_simp
      try simp only[Act.put,Bj,Bl,Bk])
    | (
      refine CN [11,17] rfl ?_ ⟨?_,?_,trivial⟩
      ·decide +kernel)
    | (
      refine CN [12,17] rfl ?_ ⟨?_,?_,trivial⟩
      ·decide +kernel)
    | (
      refine CN [11] rfl ?_ ⟨?_,trivial⟩
      ·decide +kernel)
    | (
      refine CN [12] rfl ?_ ⟨?_,trivial⟩
      ·decide +kernel)
    | (
      refine CN [17] rfl ?_ ⟨?_,trivial⟩
      ·decide +kernel)
    | (
      refine CN [19] rfl ?_ ⟨?_,trivial⟩
      ·decide +kernel)
    | (
      refine Ck (o:=⟨some 28,.call ⟨.value (.func 83),#[.tmp 26,.tmp 27],#[26,3]⟩,3,_,_,none⟩) rfl (λK' hK=>?_);have M:=ae U (Bh Q L);refine EX rfl 83 (.func 83) #[.tmp 26,.tmp 27] _ rfl #[] rfl #[qV ac cc ah ch s.X,J c] (by simp[Act.eval,Act.put]) (FN Tryz.func83 (by kernel_rfl) (by kernel_rfl) _ _) ?_;refine (show Calls Tryz.prog 83 #[qV ac cc ah ch s.X,J c] U _ from M.mono ?_);rintro e U ⟨rfl,a⟩;refine⟨_,rfl,?_⟩;replace L:=Bh L a;refine hK _ _ (λ_=>?_) ?_
      ·exact K _ L
      clear hK K' M
      try simp only[Act.put,Bj,Bl,Bk]
      (try replace N:=Bs N a)
      (try replace a1:=Cd a1 a.size)
      clear a;have tokS:True:=trivial)
    | (
      refine Ck (o:=⟨some 29,.call ⟨.value (.func 82),#[.tmp 21,.tmp 22,.tmp 28],#[24,3,3]⟩,151,_,_,none⟩) rfl (λK' hK=>?_);have a7:=L.size
      (try have a9:=a1)
      have M:=ai U (Bh Q L);obtain⟨lo,f⟩:∃lo,U.heap.size=lo:=⟨_,rfl⟩;rw[f] at a7
      (try rw[f] at a9)
      refine EX rfl 82 (.func 82) #[.tmp 21,.tmp 22,.tmp 28] _ rfl #[] rfl #[qS ah s.X.heap.length ch,J c,J (k:Int)] (by simp[Act.eval,Act.put]) (FN Tryz.func82 (by kernel_rfl) (by kernel_rfl) _ _) ?_;refine (show Calls Tryz.prog 82 #[qS ah s.X.heap.length ch,J c,J (k:Int)] U _ from M.mono ?_);rintro e U ⟨a,a3,n3,k3,v,rfl,y⟩;rw[f] at y;refine⟨_,rfl,?_⟩;replace L:=Bh L a;refine hK _ _ (λ_=>?_) ?_
      ·exact K _ L
      clear hK K' M
      try simp only[Act.put,Bj,Bl,Bk]
      (try replace N:=Bs N a)
      (try replace a1:=Cd a1 a.size)
      obtain⟨V,B,Y,a4,hu⟩:∃V:qW,Hid (er=0->v=⟨4,s.X.heap.length⟩/\BP (λc=>lo<=c) V (qS a3 n3 k3) (s.X.heap++[(⟨c,List.replicate k BC⟩:QO)]))/\(∀c,lo<=c->c<V.heap.size->U.heap[c]?=V.heap[c]?)/\V.heap.size<=U.heap.size/\lo<=V.heap.size:=⟨U,y,λ_ _ _=>rfl,Bq _,by rw[← f];exact a.size⟩
      clear y a f)
    | (
      refine Ck (o:=⟨some 6,.alloc 41,0,_,_,none⟩) rfl (λK' hK=>?_);go_simp;refine hK _ _ (λ_=>?_) ?_
      ·exact K _ (Bh L (Bg _ _))
      clear hK K'
      try simp only[Act.put,Bj,Bl,Bk]
      have N:(U.alloc (qQ)).heap[U.heap.size]?=some (qQ):=BH _ _;have hk:=Bg U (qQ);have a2:=L.size;have a1:U.heap.size<(U.alloc (qQ)).heap.size:=by simp
      replace L:=Bh L hk
      (try replace Y:=λc h1 h2=>(hk.block c (Cd h2 a4)).trans (Y c h1 h2))
      (try have a9:U.heap.size<lo\/V.heap.size<=U.heap.size:=.inr a4)
      (try replace a4:=BX a4 hk.size)
      clear hk;generalize U.heap.size=bA at *;generalize U.alloc (qQ)=U at *)
    | (
      refine Ck (o:=⟨none,.store 41 (.tmp 6) (.tmp 31),0,_,_,none⟩) rfl (λK' hK=>?_);have q:=bx2 N;have rf:=q.1;have r0:=q.2.1;have r1:=q.2.2;obtain⟨F,p⟩:=set2 N (J v.k) (J v.n);go_simp;refine hK _ _ (λ_=>?_) ?_
      ·exact K _ (L.trans (p.below a2))
      clear hK K' q rf r0 r1
      try simp only[Act.put,Bj,Bl,Bk]
      replace N:=F;clear F;replace L:=L.trans (p.below a2);replace Y:=λc h1 h2=>(p.blk c Zo).trans (Y c h1 h2);clear p;generalize ((U.setCell (O bA 0) (J v.k)).setCell (O bA 1) (J v.n))=U at *)
    | (
      refine EZ ?_ ?_ _
      ·decide +kernel
      try simp only[Act.put,Bj,Bl,Bk]
      have a8:Hid (ObC W (s.X.heap++[⟨c,List.replicate k BC⟩]) ⟨4,s.X.heap.length⟩ er (qS a3 n3 k3) (qP bA) U):=⟨bA,a3,n3,k3,v,rfl,rfl,N,a2,L,λh0=>⟨(B.out h0).1,(B.out h0).2.keep BB (Keeps.of_block Y) (λc h1=>BX a7 h1)⟩⟩
      go_wp2_with fail;go_meet
      case rel=>exact⟨a8.out,rfl⟩)
 case rest=>
  obtain⟨⟨bA,a3,n3,k3,v,rfl,rfl,N,a2,z,C⟩,rfl⟩:=hcut;have T:=hR.later z;by_cases he:er=0
  ·subst he;obtain⟨rfl,D⟩:=C rfl;have a0:=hid (h3.out hB rfl);obtain⟨s0,s1,s2,s3,s4,s5⟩:=Fc T.box;have sf:=BN T.box;obtain⟨H,u⟩:=setH T.box (qS a3 n3 k3);have ag:=u.held N Zo;obtain⟨-,f0,f1⟩:=bx2 ag;have ab:=u.held T.re Zo;obtain⟨rf,r0,r1,r2,r3⟩:=Ec ab;obtain⟨hF,d⟩:=Fz ab (J 0) (J s.X.heap.length) (J 4) (J s.X.heap.length);have HF:=hid (xrx HS.out hP (Bh Q z) u (Br _ _) d (Bq _) aj H (n:=W.heap.size) Zo Zo D (r:=⟨0,s.X.heap.length,⟨4,s.X.heap.length⟩⟩) rfl);clear D C;go_wp2;refine Bt (v:=Ej ⟨0,s.X.heap.length,⟨4,s.X.heap.length⟩⟩) ?_ rfl (by rw[a0.out];exact HF.out);simp[results,Tryz.results54,go_sem,r0,r1,r2,r3]
  have a0:=hid (h2.out hB he);have a6:=λw'=>NW er w';go_wp2_with fail;refine (a6 _).mono ?_;rintro e Z ⟨rfl,g⟩;have R:=Bs T.re g;obtain⟨rf,r0,r1,r2,r3⟩:=Ec R;obtain⟨hF,d⟩:=Fz R (J er) (J 0) (J 0) (J 0);have HF:=hid (Qm HX.out HS.out (Bh (Bh Q z) g) d (Bq _) (r:=Ct er 0) rfl);go_wp2;refine Bt (v:=Ej (Ct er 0)) ?_ rfl (by rw[a0.out];exact HF.out);simp[results,Tryz.results54,go_sem,r0,r1,r2,r3]
end Go.Proofs.YtbafokihegegiaaGreatDoor
