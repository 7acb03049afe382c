import Derived.Test.YtbafokihegegiaaGreatDoorU16
namespace Go.Proofs.YtbafokihegegiaaGreatDoor
open ChangeShapes WideShapes ChangeAt RowKit
set_option linter.unusedSimpArgs false
set_option linter.unusedVariables false
set_option maxHeartbeats 8000000
set_option maxRecDepth 8000
def xsu (W:qW)(ep:Int)(cs:List QC)(hs:List QO)(er:Int)(v5:Value)(wx:qW):Prop:=
 ∃(bA:Nat) (a3:Option Addr) (n3 k3:Nat) (a4:Option Addr) (n4 k4:Nat) (e:Int),v5=qP bA/\wx.heap[bA]?=some (qC #[qS a3 n3 k3,qS a4 n4 k4,J e] 26 (0,0))/\W.heap.size<=bA/\qY W wx/\(er=0->e=ep/\BK (λb=>W.heap.size<=b) wx (qS a3 n3 k3) cs/\BP (λb=>W.heap.size<=b) wx (qS a4 n4 k4) hs)
structure BxT (sb:Nat)(cv hv:Value)(ep:Int)(lv tv sv:Value)(n m:Nat)(o:Obj)(w':qW):Prop where
 box:w'.heap[sb]?=some (DR cv hv ep lv tv sv)
 pa:w'.heap[n]?=some o
 re:w'.heap[m]?=some (qR)
theorem BxT.later {sb:Nat}{cv hv:Value}{ep:Int}{lv tv sv:Value}{n m:Nat}{o:Obj}{w' w'':qW}(h:BxT sb cv hv ep lv tv sv n m o w')(a:qY w' w''):BxT sb cv hv ep lv tv sv n m o w'':=⟨Bs h.box a,Bs h.pa a,Bs h.re a⟩
theorem Qm {P:Nat->Prop}{w wc F:qW}{sb rb:Nat}{cv hv lv tv sv:Value}{s:Sn}{r:ReE}{e:Ending}(a:w.heap[sb]?=some (DR cv hv s.X.ez lv tv sv))(f:SesAt P w cv hv lv tv s)(d:qY w wc)(h:Chg rb wc F)(i:w.heap.size<=rb)(g:e=.returned (Ej r)):ArPost P w sb sv s r e F:=by
 have c:qY w F:=d.trans (h.below i);exact⟨g,⟨cv,hv,lv,tv,Bs a c,f.keep (Keeps.of_below c) λb d=>.inl d⟩,c.os,c.tape,c.output,c.size,λb d _=>c.block b d⟩
theorem xqr {P:Nat->Prop}{w wc Y Z F:qW}{sb rb:Nat}{cv hv lv tv sv c a:Value}{s:Sn}{r:ReE}{X:QW}{e:Ending}(k:SesAt P w cv hv lv tv s)(i:∀b,P b->b≠sb)(o:qY w wc)(u:Chg sb wc Y)(m:qY Y Z)(j:Chg rb Z F)(y:w.heap.size<=rb)(B:sb<w.heap.size)(q:Y.heap[sb]?=some (DR c a X.ez lv tv sv))
  {n:Nat} (C:w.heap.size<=n) (d:rb<n) (v:BK (λb=>n<=b) wc c X.cz) (z:BP (λb=>n<=b) wc a X.heap) (p:e=.returned (Ej r)):ArPost P w sb sv ⟨X,s.cells,s.ts,s.saved⟩ r e F:=by
 have g:=NK o u m j y;refine⟨p,⟨c,a,lv,tv,j.held (Bs q m) (by omega),⟨v.keep Bw (g.keeps _ λb f=>⟨by omega,by omega⟩) λb f=>.inr (by omega),z.keep BB (g.keeps _ λb f=>⟨by omega,by omega⟩) λb f=>.inr (by omega),?_,?_⟩⟩,g.kp⟩
 ·exact k.l.keep Dc (Keeps.of_block λb f h=>g.kp.blk b h (by rw[Eb (i b f)];omega)) λb f=>.inl f
 exact k.t.keep xbD (Keeps.of_block λb f h=>g.kp.blk b h (by rw[Eb (i b f)];omega)) λb f=>.inl f
theorem xmg {P:Nat->Prop}(X:QW)(name:ByteArray)(b a:Int)(cv hv:Value)(w:qW)(l:name.size<=140737488351232)(h:BK P w cv X.cz)(g:BP P w hv X.heap)(n:Hj X.cz)(k:EF X.cz name b a≠0):Calls Tryz.prog 78 #[WV cv hv X.ez,qZ name,J b,J a] w λe w'=>e=.returned (.tuple #[WV (qN) (qN) 0,J 0,J (EF X.cz name b a)])/\qY w w':=by
 obtain⟨ad,cap,rfl,o,c,d,-⟩:=id h;obtain⟨ah,ch,rfl,-,-,-,-⟩:=id g;have j:(EF X.cz name b a != 0)=true:=by simpa using k
 go_enter Tryz.func78,Tryz.ntmps78;go_wp2_with fail;refine (xet X name b a _ _ _ l (h.later Bw (BG _ _ _)) (g.later BB (BG _ _ _)) n).mono ?_;rintro e w1 ⟨rfl,f⟩;obtain⟨m,p⟩:=Hq f;have i:w.heap.size+1<w1.heap.size:=by have:=f.size;simp at this;omega
 go_wp2;refine Bt (v:=.tuple #[WV (qN) (qN) 0,J 0,J (EF X.cz name b a)]) (by simp[results,Tryz.results78,go_sem,m,i]) rfl ⟨rfl,?_⟩;exact (((Bh (BG _ _ _) f).setCell (by simp) _).setCell (by simp) _).setCell (by simp) _
theorem xmo {P:Nat->Prop}(X:QW)(name:ByteArray)(c a:Int)(cv hv:Value)(w:qW)(V:name.size<=140737488351232)(K:BK P w cv X.cz)(M:BP P w hv X.heap)(ho:Hj X.cz)(N:EF X.cz name c a=0):Calls Tryz.prog 78 #[WV cv hv X.ez,qZ name,J c,J a] w λe w'=>∃cv' hv',e=.returned (.tuple #[WV cv' hv' X.ez,J X.cz.length,J 0])/\BK (λb=>w.heap.size<=b) w' cv' (DZ X name c a).cz/\BP (λb=>w.heap.size<=b) w' hv' X.heap/\qY w w':=by
 obtain⟨ad,cap,rfl,hl,r,n,-⟩:=id K;obtain⟨ah,ch,rfl,-,-,-,-⟩:=id M
 have a2:X.cz.length<12:=by
  unfold EF at N
  (repeat' split at N)<;>omega
 go_enter Tryz.func78,Tryz.ntmps78;go_wp2_with fail;refine (xet X name c a _ _ _ V (K.later Bw (BG _ _ _)) (M.later BB (BG _ _ _)) ho).mono ?_;rintro e w1 ⟨rfl,z⟩;rw[N];obtain⟨F,U⟩:=Hq z;have hz:w.heap.size+1<w1.heap.size:=by have:=z.size;simp at this;omega
 have L:=Bh (BG _ _ _) z;go_wp2_with fail;refine (xiI X _ _ _ (K.later Bw L) (M.later BB L)).mono ?_;rintro e w2 ⟨g,gh,s,rfl,G,m,hg,k⟩;have a0:w1.cell? (O w.heap.size 0)=some (qS ad X.cz.length cap):=by rw[F _ _ (by simp;omega)];simp
 have b0:w1.cell? (O (w.heap.size+1) 0)=some (qN):=by rw[F _ _ (by simp)];simp
 have b1:w1.cell? (O (w.heap.size+1) 1)=some (qN):=by rw[F _ _ (by simp)];simp
 have b2:w1.cell? (O (w.heap.size+1) 2)=some (J 0):=by rw[F _ _ (by simp)];simp
 have bf:∀o,w1.frozen? (O (w.heap.size+1) o)=false:=λo=>by rw[U _ _ (by simp)];simp
 clear F U;obtain⟨⟨cur,f,l⟩,-⟩:=id G;have R:=By f;have a5:=k.size
 go_wp2_with (at_builtin;refine xey rfl (.tmp 25) (.tmp 30) rfl g X.cz.length rfl _ rfl cur (((BG _ _ _).block _ R).trans f) l [qZ name,J c,J a,qN] (Dh _ _ _ (by simp)) rfl (by intro u W;simp at W;rcases W with rfl | rfl | rfl | rfl<;>rfl) Zo ?_;intro g' cap' t w3 n1 n2 p j q d;have y:=Bh k (Bh (BG _ _ _) d);have p0:=Bf y a0;have q0:=Bf y b0;have q1:=Bf y b1;have q2:=Bf y b2;have qf:∀o,w3.frozen? (O (w.heap.size+1) o)=false:=(λo=>(y.frozen (by simp;omega)).trans (bf o));have m0:=Bf d (Bf (Bg _ _) ((Bp w2 #[qG g X.cz.length X.cz.length,qG gh X.heap.length X.heap.length,J X.ez] 26 _ rfl 0).trans rfl));have m1:=Bf d (Bf (Bg _ _) ((Bp w2 #[qG g X.cz.length X.cz.length,qG gh X.heap.length X.heap.length,J X.ez] 26 _ rfl 1).trans rfl));have m2:=Bf d (Bf (Bg _ _) ((Bp w2 #[qG g X.cz.length X.cz.length,qG gh X.heap.length X.heap.length,J X.ez] 26 _ rfl 2).trans rfl));have mf:∀o,w3.frozen? (O w2.heap.size o)=false:=(λo=>(d.frozen (by simp;omega)).trans (((Bg _ _).frozen (by simp)).trans (World.frozen?_alloc_new _ _ _ _)));have ms:=Kw m0 (qG g' (X.cz.length+1) cap');have Y:¬ w2.heap.size=w.heap.size:=Zo;have D:¬ w2.heap.size=w.heap.size+1:=Zo;have C:¬ w.heap.size+1=w2.heap.size:=Zo;have a1:¬ w.heap.size=w2.heap.size:=Zo)
 go_region
 go_wp2;have T:=G.row n;have S:=T.blkCells Bw f l;have B:=Bh (BG w2 (qU g gh X) (qC #[qZ name,J c,J a,qN] 80)) d;have Z:w2.heap.size+1+1<=g':=by simpa using q
 have a4:=G.2.1;have a3:=G.mono 0 X.cz.length Zo (Bq _);refine Bt (v:=.tuple #[WV (qG g' (X.cz.length+1) cap') (qG gh X.heap.length X.heap.length) X.ez,J X.cz.length,J 0]) ?_ rfl ⟨_,_,rfl,?_,?_,?_⟩
 ·simp[results,Tryz.results78,go_sem,q0,q1,q2,D,C]
 ·have h5:Cells Kd 4 (λb=>w1.heap.size<=b/\b≠w2.heap.size) w3 (cur.toList++[qZ name,J c,J a,qN]) (DZ X name c a).cz:=by
   refine ((S.keep Bw (.of_below B) λb z=>⟨by have:=z.1;omega,by have:=z.2;omega⟩).append Bw (Cells.one Bw rfl ?_));exact⟨rfl,rfl,rfl,V,_,rfl,none,0,rfl,Bq _,by unfold maxLen;omega,by simp,λi x hx=>by simp at hx⟩
  have h6:BK (λb=>w1.heap.size<=b/\b≠w2.heap.size) w3 (qG g' (DZ X name c a).cz.length cap') (DZ X name c a).cz:=h5.row Bw ⟨by omega,by omega⟩ p (by simpa [DZ] using j) (by simpa [DZ] using n1) n2 (by simp[DZ];omega);have H:=h6.keep Bw (CK (CK (CK (CK (Keeps.refl _ _) (λh=>h.2 rfl) (qG g' (X.cz.length+1) cap') (o:=0)) (b:=w.heap.size+1) (o:=0) (λh=>by have:=h.1;omega) (qG g' (X.cz.length+1) cap')) (b:=w.heap.size+1) (o:=1) (λh=>by have:=h.1;omega) (qG gh X.heap.length X.heap.length)) (b:=w.heap.size+1) (o:=2) (λh=>by have:=h.1;omega) (J X.ez)) (Q:=λb=>w.heap.size<=b) (λb z=>by have:=z.1;omega);have h8:(DZ X name c a).cz.length=X.cz.length+1:=by simp[DZ]
  rw[h8] at H;exact H.later Bw (Br _ _).drew
 ·have H:=(m.later BB B).keep BB (CK (CK (CK (CK (Keeps.refl _ _) (b:=w2.heap.size) (o:=0) (λh=>by have:=h.2;omega) (qG g' (X.cz.length+1) cap')) (b:=w.heap.size+1) (o:=0) (λh=>by have:=h.1;omega) (qG g' (X.cz.length+1) cap')) (b:=w.heap.size+1) (o:=1) (λh=>by have:=h.1;omega) (qG gh X.heap.length X.heap.length)) (b:=w.heap.size+1) (o:=2) (λh=>by have:=h.1;omega) (J X.ez)) (Q:=λb=>w.heap.size<=b) (λb z=>by have:=z.1;omega);exact H.later BB (Br _ _).drew
 exact Below.drew (((((Bh L y).setCell (by simp;omega) _).setCell (by simp) _).setCell (by simp) _).setCell (by simp) _)
theorem xnQ {P:Nat->Prop}(X:QW)(name:ByteArray)(c a:Int)(cv hv:Value)(w:qW)(k:name.size<=140737488351232)(m:BK P w cv X.cz)(h:BP P w hv X.heap)(l:Hj X.cz){er:Int}(d:EF X.cz name c a=er) :
  Calls Tryz.prog 78 #[WV cv hv X.ez,qZ name,J c,J a] w λe w'=>qY w w'/\∃(a3:Option Addr) (n3 k3:Nat) (a4:Option Addr) (n4 k4:Nat) (ep n:Int),e=.returned (.tuple #[WV (qS a3 n3 k3) (qS a4 n4 k4) ep,J n,J er])/\(er=0->n=X.cz.length/\ep=X.ez/\BK (λb=>w.heap.size<=b) w' (qS a3 n3 k3) (DZ X name c a).cz/\BP (λb=>w.heap.size<=b) w' (qS a4 n4 k4) X.heap):=by
 subst d;by_cases he:EF X.cz name c a=0
 ·refine (xmo X name c a cv hv w k m h l he).mono ?_;rintro e w' ⟨g,f,rfl,j,h,i⟩;obtain⟨a3,k3,rfl,-⟩:=id j;obtain⟨a4,k4,rfl,-⟩:=id h;exact⟨i,_,_,_,_,_,_,_,_,by rw[he],λ_=>⟨rfl,rfl,j,h⟩⟩
 refine (xmg X name c a cv hv w k m h l he).mono ?_;rintro e w' ⟨rfl,i⟩;exact⟨i,none,0,0,none,0,0,0,0,rfl,λo=>absurd o he⟩
def LD (s:Sn)(x:StE):Sn × ReE:=if EF s.X.cz x.name x.cls x.slots≠0 then (s,Ct (EF s.X.cz x.name x.cls x.slots) 0) else (⟨DZ s.X x.name x.cls x.slots,s.cells,s.ts,s.saved⟩,Ct 0 s.X.cz.length)
theorem xiK {P Q:Nat->Prop}(s:Sn)(ho:Hj s.X.cz)(x:StE)(cv hv lv tv sv mv av:Value)(w:qW)(sb:Nat)(j:w.heap[sb]?=some (DR cv hv s.X.ez lv tv sv))(hS:SesAt P w cv hv lv tv s)(hP:∀b,P b->b≠sb)(hM:Cm Q w mv x.meth.code)(hA:CG Q w av x.args)(hn:x.name.size<=140737488351232) :
  Calls Tryz.prog 52 #[qP sb,StV x mv av] w λe w'=>ArPost P w sb sv (LD s x).1 (LD s x).2 e w':=by
 obtain⟨er,f⟩:∃er,EF s.X.cz x.name x.cls x.slots=er:=⟨_,rfl⟩;have ag:=λ(w':qW) (R:qY w w')=>xnQ s.X x.name x.cls x.slots cv hv w' hn (hS.c.later Bw R) (hS.h.later BB R) ho f;have h1:Hid (er≠0->LD s x=(s,Ct er 0)):=λh=>by unfold LD;rw[f,if_pos h]
 have h2:Hid (er=0->LD s x=(⟨DZ s.X x.name x.cls x.slots,s.cells,s.ts,s.saved⟩,Ct 0 s.X.cz.length)):=λh=>by unfold LD;rw[f,if_neg (by simp[h])]
 clear f;generalize LD s x=RR at *;obtain⟨ac,cc,rfl,-⟩:=id hS.c;obtain⟨ah,ch,rfl,-⟩:=id hS.h;obtain⟨al,kl,rfl,-⟩:=id hS.l;obtain⟨at',kt,rfl,-⟩:=id hS.t;obtain⟨am,cm,rfl,-⟩:=id hM;obtain⟨aa,ca,rfl,-⟩:=id hA;have a2:=BG w (qB x am cm aa ca) (qR);have aj:=By j;have hR:BxT sb (qS ac s.X.cz.length cc) (qS ah s.X.heap.length ch) s.X.ez (qS al s.cells.length kl) (qS at' s.ts.length kt) sv w.heap.size (w.heap.size+1) (qB x am cm aa ca) ((w.alloc (qB x am cm aa ca)).alloc (qR)):=⟨Bs j a2,Bs (BH w _) (Bg _ _),Dh _ _ _ (by simp)⟩
 have HS:=hid hS;have HX:=hid j;clear hS hM hA j;go_enter Tryz.func52,Tryz.ntmps52;go_upto_region 1 with (fail);have an:w.heap.size+2<=((w.alloc (qB x am cm aa ca)).alloc (qR)).heap.size:=by simp
 generalize ((w.alloc (qB x am cm aa ca)).alloc (qR))=W at *;have N:∀W':qW,qY W W'->FZ sb (qS ac s.X.cz.length cc) (qS ah s.X.heap.length ch) s.X.ez (qS al s.cells.length kl) (qS at' s.ts.length kt) sv W'/\W'.cell? (O w.heap.size 1)=some (qZ x.name)/\W'.cell? (O w.heap.size 2)=some (J x.cls)/\W'.cell? (O w.heap.size 3)=some (J x.slots):=λW' R=>⟨Fc (hR.later R).box,by rw[Bn (hR.later R).pa];rfl,by rw[Bn (hR.later R).pa];rfl,by rw[Bn (hR.later R).pa];rfl⟩
 go_cut [5,6,7] (λv5 v6 v7 wx=>xsu W s.X.ez (DZ s.X x.name x.cls x.slots).cz s.X.heap er v5 wx/\∃n,v6=J n/\v7=J er/\(er=0->n=s.X.cz.length))
 case first=>
  refine Fm (S:=λw'=>FZ sb (qS ac s.X.cz.length cc) (qS ah s.X.heap.length ch) s.X.ez (qS al s.cells.length kl) (qS at' s.ts.length kt) sv w'/\w'.cell? (O w.heap.size 1)=some (qZ x.name)/\w'.cell? (O w.heap.size 2)=some (J x.cls)/\w'.cell? (O w.heap.size 3)=some (J x.slots)) [] (by kernel_rfl) ?_;have R:qY W W.drew:=(Br _ W).drew;generalize W.drew=U at *
  repeat' first
   | (
     refine tk 0 (⟨some 9,.move (.tmp 0),86,_,_,none⟩) (qP sb) rfl (N _ R) (λ_ _ _ h=>h) rfl ?_ ?_ ?_
     ·decide +kernel
     ·rintro w⟨⟨_,_,_,_,_,_⟩,_,_,_⟩;go_simp
     try simp only[Act.put,Bj,Bl,Bk])
   | (
     refine tk 1 (⟨some 10,.nilCheck (.tmp 9),0,_,_,none⟩) (qP sb) rfl (N _ R) (λ_ _ _ h=>h) rfl ?_ ?_ ?_
     ·decide +kernel
     ·rintro w⟨⟨_,_,_,_,_,_⟩,_,_,_⟩;go_simp
     try simp only[Act.put,Bj,Bl,Bk])
   | (
     refine tk 2 (⟨some 11,.fieldAddr 31 (.tmp 10) 0,0,_,_,none⟩) (qP sb) rfl (N _ R) (λ_ _ _ h=>h) rfl ?_ ?_ ?_
     ·decide +kernel
     ·rintro w⟨⟨_,_,_,_,_,_⟩,_,_,_⟩;go_simp
     try simp only[Act.put,Bj,Bl,Bk])
   | (
     refine tk 3 (⟨some 12,.load 26 (.tmp 11),26,_,_,none⟩) (qV ac cc ah ch s.X) rfl (N _ R) (λ_ _ _ h=>h) rfl ?_ ?_ ?_
     ·decide +kernel
     ·rintro w⟨⟨_,_,_,_,_,_⟩,_,_,_⟩;go_simp
     try simp only[Act.put,Bj,Bl,Bk])
   | (
     refine tk 4 (⟨some 13,.fieldAddr 56 (.tmp 3) 1,0,_,_,none⟩) (.pointer (some (O w.heap.size 1))) rfl (N _ R) (λ_ _ _ h=>h) rfl ?_ ?_ ?_
     ·decide +kernel
     ·rintro w⟨⟨_,_,_,_,_,_⟩,_,_,_⟩;go_simp
     try simp only[Act.put,Bj,Bl,Bk])
   | (
     refine tk 5 (⟨some 14,.load 9 (.tmp 13),9,_,_,none⟩) (qZ x.name) rfl (N _ R) (λ_ _ _ h=>h) rfl ?_ ?_ ?_
     ·decide +kernel
     ·rintro w⟨⟨_,_,_,_,_,_⟩,_,_,_⟩;go_simp
     try simp only[Act.put,Bj,Bl,Bk])
   | (
     refine tk 6 (⟨some 15,.fieldAddr 56 (.tmp 3) 2,0,_,_,none⟩) (.pointer (some (O w.heap.size 2))) rfl (N _ R) (λ_ _ _ h=>h) rfl ?_ ?_ ?_
     ·decide +kernel
     ·rintro w⟨⟨_,_,_,_,_,_⟩,_,_,_⟩;go_simp
     try simp only[Act.put,Bj,Bl,Bk])
   | (
     refine tk 7 (⟨some 16,.load 3 (.tmp 15),3,_,_,none⟩) (J x.cls) rfl (N _ R) (λ_ _ _ h=>h) rfl ?_ ?_ ?_
     ·decide +kernel
     ·rintro w⟨⟨_,_,_,_,_,_⟩,_,_,_⟩;go_simp
     try simp only[Act.put,Bj,Bl,Bk])
   | (
     refine tk 8 (⟨some 17,.fieldAddr 56 (.tmp 3) 3,0,_,_,none⟩) (.pointer (some (O w.heap.size 3))) rfl (N _ R) (λ_ _ _ h=>h) rfl ?_ ?_ ?_
     ·decide +kernel
     ·rintro w⟨⟨_,_,_,_,_,_⟩,_,_,_⟩;go_simp
     try simp only[Act.put,Bj,Bl,Bk])
   | (
     refine tk 9 (⟨some 18,.load 3 (.tmp 17),3,_,_,none⟩) (J x.slots) rfl (N _ R) (λ_ _ _ h=>h) rfl ?_ ?_ ?_
     ·decide +kernel
     ·rintro w⟨⟨_,_,_,_,_,_⟩,_,_,_⟩;go_simp
     try simp only[Act.put,Bj,Bl,Bk])
   | (
     refine tk 11 (⟨some 8,.move (.tmp 19),93,_,_,none⟩) (.tuple #[WV (qS a3 n3 k3) (qS a4 n4 k4) ep,J n,J er]) rfl (N _ R) (λ_ _ _ h=>h) rfl ?_ ?_ ?_
     ·decide +kernel
     ·rintro w⟨⟨_,_,_,_,_,_⟩,_,_,_⟩;go_simp
     try simp only[Act.put,Bj,Bl,Bk])
   | (
     refine tk 12 (⟨some 20,.extract (.tmp 8) 0,26,_,_,none⟩) (WV (qS a3 n3 k3) (qS a4 n4 k4) ep) rfl (N _ R) (λ_ _ _ h=>h) rfl ?_ ?_ ?_
     ·decide +kernel
     ·rintro w⟨⟨_,_,_,_,_,_⟩,_,_,_⟩;go_simp
     try simp only[Act.put,Bj,Bl,Bk])
   | (
     refine tk 13 (⟨some 21,.extract (.tmp 8) 1,3,_,_,none⟩) (J n) rfl (N _ R) (λ_ _ _ h=>h) rfl ?_ ?_ ?_
     ·decide +kernel
     ·rintro w⟨⟨_,_,_,_,_,_⟩,_,_,_⟩;go_simp
     try simp only[Act.put,Bj,Bl,Bk])
   | (
     refine tk 14 (⟨some 22,.extract (.tmp 8) 2,33,_,_,none⟩) (J er) rfl (N _ R) (λ_ _ _ h=>h) rfl ?_ ?_ ?_
     ·decide +kernel
     ·rintro w⟨⟨_,_,_,_,_,_⟩,_,_,_⟩;go_simp
     try simp only[Act.put,Bj,Bl,Bk])
   | (
     refine tk 17 (⟨some 6,.assign (.tmp 21),3,_,_,none⟩) (J n) rfl (N _ R) (λ_ _ _ h=>h) rfl ?_ ?_ ?_
     ·decide +kernel
     ·rintro w⟨⟨_,_,_,_,_,_⟩,_,_,_⟩;go_simp
     try simp only[Act.put,Bj,Bl,Bk])
   | (
     refine tk 18 (⟨some 7,.assign (.tmp 22),33,_,_,none⟩) (J er) rfl (N _ R) (λ_ _ _ h=>h) rfl ?_ ?_ ?_
     ·decide +kernel
     ·rintro w⟨⟨_,_,_,_,_,_⟩,_,_,_⟩;go_simp
     try simp only[Act.put,Bj,Bl,Bk])
   | (
     refine CN [10,15] rfl ?_ ⟨?_,?_,trivial⟩
     ·decide +kernel)
   | (
     refine CN [10] rfl ?_ ⟨?_,trivial⟩
     ·decide +kernel)
   | (
     refine CN [15] rfl ?_ ⟨?_,trivial⟩
     ·decide +kernel)
   | (
     refine CN [16] rfl ?_ ⟨?_,trivial⟩
     ·decide +kernel)
   | (
     refine Ck (o:=⟨some 19,.call ⟨.value (.func 78),#[.tmp 12,.tmp 14,.tmp 16,.tmp 18],#[26,9,3,3]⟩,93,_,_,none⟩) rfl (λK' hK=>?_);have a9:=R.size
     (try have ae:=ad)
     have a1:=ag U (Bh a2 R);obtain⟨lo,a⟩:∃lo,U.heap.size=lo:=⟨_,rfl⟩;rw[a] at a9
     (try rw[a] at ae)
     refine EX rfl 78 (.func 78) #[.tmp 12,.tmp 14,.tmp 16,.tmp 18] _ rfl #[] rfl #[qV ac cc ah ch s.X,qZ x.name,J x.cls,J x.slots] (by simp[Act.eval,Act.put]) (FN Tryz.func78 (by kernel_rfl) (by kernel_rfl) _ _) ?_;refine (show Calls Tryz.prog 78 #[qV ac cc ah ch s.X,qZ x.name,J x.cls,J x.slots] U _ from a1.mono ?_);rintro e U ⟨d,a3,n3,k3,a4,n4,k4,ep,n,rfl,u⟩;rw[a] at u;refine⟨_,rfl,?_⟩;replace R:=Bh R d;refine hK _ _ (λ_=>?_) ?_
     ·exact N _ R
     clear hK K' a1
     try simp only[Act.put,Bj,Bl,Bk]
     (try replace T:=Bs T d)
     (try replace ad:=Cd ad d.size)
     obtain⟨V,i,Y,a6,hu⟩:∃V:qW,Hid (er=0->n=s.X.cz.length/\ep=s.X.ez/\BK (λc=>lo<=c) V (qS a3 n3 k3) (DZ s.X x.name x.cls x.slots).cz/\BP (λc=>lo<=c) V (qS a4 n4 k4) s.X.heap)/\(∀c,lo<=c->c<V.heap.size->U.heap[c]?=V.heap[c]?)/\V.heap.size<=U.heap.size/\lo<=V.heap.size:=⟨U,u,λ_ _ _=>rfl,Bq _,by rw[← a];exact d.size⟩
     clear u d a)
   | (
     refine Ck (o:=⟨some 5,.alloc 26,0,_,_,none⟩) rfl (λK' hK=>?_);go_simp;refine hK _ _ (λ_=>?_) ?_
     ·exact N _ (Bh R (Bg _ _))
     clear hK K'
     try simp only[Act.put,Bj,Bl,Bk]
     have T:(U.alloc (qO)).heap[U.heap.size]?=some (qO):=BH _ _;have hk:=Bg U (qO);have a5:=R.size;have ad:U.heap.size<(U.alloc (qO)).heap.size:=by simp
     replace R:=Bh R hk
     (try replace Y:=λc h1 h2=>(hk.block c (Cd h2 a6)).trans (Y c h1 h2))
     (try have ae:U.heap.size<lo\/V.heap.size<=U.heap.size:=.inr a6)
     (try replace a6:=BX a6 hk.size)
     clear hk;generalize U.heap.size=bA at *;generalize U.alloc (qO)=U at *)
   | (
     refine Ck (o:=⟨none,.store 26 (.tmp 5) (.tmp 20),0,_,_,none⟩) rfl (λK' hK=>?_);have q:=Kk T;have rf:=q.1;have r0:=q.2.1;have r1:=q.2.2.1;have r2:=q.2.2.2;obtain⟨z,g⟩:=xsq T (qS a3 n3 k3) (qS a4 n4 k4) (J ep);go_simp;refine hK _ _ (λ_=>?_) ?_
     ·exact N _ (R.trans (g.below a5))
     clear hK K' q rf r0 r1 r2
     try simp only[Act.put,Bj,Bl,Bk]
     replace T:=z;clear z;replace R:=R.trans (g.below a5);replace Y:=λc h1 h2=>(g.blk c Zo).trans (Y c h1 h2);clear g;generalize (((U.setCell (O bA 0) (qS a3 n3 k3)).setCell (O bA 1) (qS a4 n4 k4)).setCell (O bA 2) (J ep))=U at *)
   | (
     refine EZ ?_ ?_ _
     ·decide +kernel
     try simp only[Act.put,Bj,Bl,Bk]
     have a8:Hid (xsu W s.X.ez (DZ s.X x.name x.cls x.slots).cz s.X.heap er (qP bA) U/\(er=0->n=s.X.cz.length)):=⟨⟨bA,a3,n3,k3,a4,n4,k4,ep,rfl,T,a5,R,λh0=>⟨(i.out h0).2.1,(i.out h0).2.2.1.keep Bw (Keeps.of_block Y) (λc h1=>BX a9 h1),(i.out h0).2.2.2.keep BB (Keeps.of_block Y) (λc h1=>BX a9 h1)⟩⟩,λh0=>(i.out h0).1⟩
     go_wp2_with fail;go_meet
     case rel=>exact⟨a8.out.1,n,rfl,rfl,a8.out.2⟩)
 case rest=>
  obtain⟨⟨bA,a3,n3,k3,a4,n4,k4,ep,rfl,T,a5,p,D⟩,n,rfl,rfl,G⟩:=hcut;have a0:=hR.later p;have ai:=hid a0;by_cases h0:er=0
  ·subst h0;obtain⟨rfl,B,F⟩:=D rfl;obtain rfl:=G rfl;have ab:=hid (h2.out rfl);obtain⟨-,M,K,L⟩:=Kk T;obtain⟨s0,s1,s2,s3,s4,s5⟩:=Fc a0.box;have sf:=BN a0.box;obtain⟨H,y⟩:=PP a0.box (qS a3 n3 k3) (qS a4 n4 k4) s.X.ez;have af:=y.held ai.out.re Zo;obtain⟨rf,r0,r1,r2,r3⟩:=Ec af;obtain⟨hF,m⟩:=Fz af (J 0) (J s.X.cz.length) (J 0) (J 0);have HF:=hid (xqr HS.out hP (Bh a2 p) y (Br _ _) m (Nat.le_succ _) aj H (X:=DZ s.X x.name x.cls x.slots) (n:=W.heap.size) Zo Zo B F (r:=Ct 0 s.X.cz.length) rfl);clear B F D G ag;go_wp2;refine Bt (v:=Ej (Ct 0 s.X.cz.length)) ?_ rfl (by rw[ab.out];exact HF.out);simp[results,Tryz.results52,go_sem,r0,r1,r2,r3]
  have ab:=hid (h1.out h0);have ak:=λw'=>NW er w';go_wp2_with fail;refine (ak _).mono ?_;rintro e Z ⟨rfl,C⟩;have a7:=Bs a0.re C;obtain⟨rf,r0,r1,r2,r3⟩:=Ec a7;obtain⟨hF,m⟩:=Fz a7 (J er) (J 0) (J 0) (J 0);have HF:=hid (Qm HX.out HS.out (Bh (Bh a2 p) C) m (Nat.le_succ _) (r:=Ct er 0) rfl);go_wp2;refine Bt (v:=Ej (Ct er 0)) ?_ rfl (by rw[ab.out];exact HF.out);simp[results,Tryz.results52,go_sem,r0,r1,r2,r3]
end Go.Proofs.YtbafokihegegiaaGreatDoor
