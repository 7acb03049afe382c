/- A part. -/
import Derived.Test.YtbafokihegegiaaGreatDoorM8
namespace Go.Proofs.YtbafokihegegiaaGreatDoor
open Go.ChangeShapes Go.WideShapes Go.ChangeAt Go.RowKit
set_option linter.unusedSimpArgs false
set_option linter.unusedVariables false
set_option maxHeartbeats 8000000
set_option maxRecDepth 8000
def PlPost (w:World)(X:QW)(r:Ran)(e:Ending)(w':World):Prop:=
 Below w.heap.size w w'/\∃ cv hv,e=.returned (.tuple #[WV cv hv X.ez,RnV r])/\xag (fun b=>w.heap.size<=b) w' cv X.cz/\xav (fun b=>w.heap.size<=b) w' hv r.heap
theorem WiPost.plain {σ:Type}{L:(Nat->Nat)->World->σ->Nat->Prop}{w w':World}{X:QW}{r:Ran × σ}{e:Ending}(h:WiPost L (fun _=>0) w X r e w'):PlPost w X r.1 e w':=by
 obtain⟨hk,T',-,-,cv,hv,rfl,h1,h2⟩:=h
 exact⟨hk.below (fun b _=>by omega) (qzC _),cv,hv,rfl,h1.mono xax fun b h=>h.1,h2.mono xaB fun b h=>h.1⟩
theorem PlPost.fin {w U:World}{X:QW}{r:Ran}{cv hv:Value}{P:Nat->Prop}(hb:Below w.heap.size w U)(hC:xag P U cv X.cz)(hH:xav P U hv r.heap)(h2:¬ P (w.heap.size+2))(h3:¬ P (w.heap.size+3))(hP:∀ x,P x->w.heap.size<=x)(u0 u1 u2 v0 v1 v2 v3:Value) :
  PlPost w X r (.returned (.tuple #[WV cv hv X.ez,RnV r])) (((((((U.setCell ⟨w.heap.size+2,0,none⟩ u0).setCell ⟨w.heap.size+2,1,none⟩ u1).setCell ⟨w.heap.size+2,2,none⟩ u2).setCell ⟨w.heap.size+3,0,none⟩ v0).setCell ⟨w.heap.size+3,1,none⟩ v1).setCell ⟨w.heap.size+3,2,none⟩ v2).setCell ⟨w.heap.size+3,3,none⟩ v3):=by
 have k:Keeps P U (((((((U.setCell ⟨w.heap.size+2,0,none⟩ u0).setCell ⟨w.heap.size+2,1,none⟩ u1).setCell ⟨w.heap.size+2,2,none⟩ u2).setCell ⟨w.heap.size+3,0,none⟩ v0).setCell ⟨w.heap.size+3,1,none⟩ v1).setCell ⟨w.heap.size+3,2,none⟩ v2).setCell ⟨w.heap.size+3,3,none⟩ v3):=xas (xas (xas (xas (xas (xas (xas (Keeps.refl _ _) h2 _) h2 _) h2 _) h3 _) h3 _) h3 _) h3 _;refine⟨((((((hb.setCell (by simp) _).setCell (by simp) _).setCell (by simp) _).setCell (by simp) _).setCell (by simp) _).setCell (by simp) _).setCell (by simp) _,cv,hv,rfl,hC.keep xax k hP,hH.keep xaB k hP⟩
structure PnR (w:World)(cv hv:Value)(ep:Int)(s:QV)(name:ByteArray)(av:Value)(w':World):Prop where
 w0:w'.cell? ⟨w.heap.size,0,none⟩=some cv
 w1:w'.cell? ⟨w.heap.size,1,none⟩=some hv
 w2:w'.cell? ⟨w.heap.size,2,none⟩=some (.int .i64 ep)
 c0:w'.cell? ⟨w.heap.size+1,0,none⟩=some (.int .i64 s.k)
 c1:w'.cell? ⟨w.heap.size+1,1,none⟩=some (.int .i64 s.n)
 c2:w'.cell? ⟨w.heap.size+1,2,none⟩=some (.string name)
 c3:w'.cell? ⟨w.heap.size+1,3,none⟩=some av
theorem PnR.set {w:World}{cv hv:Value}{ep:Int}{s:QV}{name:ByteArray}{av:Value}{w':World}(h:PnR w cv hv ep s name av w'){b:Nat}(hb:b=w.heap.size+2\/b=w.heap.size+3)(o:Nat)(u:Value):PnR w cv hv ep s name av (w'.setCell ⟨b,o,none⟩ u):=
 ⟨(World.cell?_setCell_far _ _ _ _ (by simp;omega)).trans h.w0,(World.cell?_setCell_far _ _ _ _ (by simp;omega)).trans h.w1,(World.cell?_setCell_far _ _ _ _ (by simp;omega)).trans h.w2,(World.cell?_setCell_far _ _ _ _ (by simp;omega)).trans h.c0,(World.cell?_setCell_far _ _ _ _ (by simp;omega)).trans h.c1,(World.cell?_setCell_far _ _ _ _ (by simp;omega)).trans h.c2,(World.cell?_setCell_far _ _ _ _ (by simp;omega)).trans h.c3⟩
theorem PnR.al {w:World}{cv hv:Value}{ep:Int}{s:QV}{name:ByteArray}{av:Value}{w':World}(h:PnR w cv hv ep s name av w'):w'.cell? ⟨w.heap.size,0,none⟩=some cv/\w'.cell? ⟨w.heap.size,1,none⟩=some hv/\w'.cell? ⟨w.heap.size,2,none⟩=some (.int .i64 ep)/\w'.cell? ⟨w.heap.size+1,0,none⟩=some (.int .i64 s.k)/\w'.cell? ⟨w.heap.size+1,1,none⟩=some (.int .i64 s.n)/\w'.cell? ⟨w.heap.size+1,2,none⟩=some (.string name)/\w'.cell? ⟨w.heap.size+1,3,none⟩=some av:=⟨h.w0,h.w1,h.w2,h.c0,h.c1,h.c2,h.c3⟩
theorem WtR.pn {w:World}{cv hv:Value}{ep:Int}{s:QV}{name:ByteArray}{av:Value}{w':World}(h:WtR w cv hv ep s name av w'):PnR w cv hv ep s name av w':=⟨h.w0,h.w1,h.w2,h.c0,h.c1,h.c2,h.c3⟩
theorem xmG (cv hv:Value)(ep:Int)(w:World)(h1:∃ a n c,cv=.slice a n c)(h2:∃ a n c,hv=.slice a n c):Calls Tryz.prog 109 #[WV cv hv ep] w fun e w'=>e=.returned (.func (.func 141) #[] #[.pointer (some ⟨w.heap.size,0,none⟩)])/\w'.cell? ⟨w.heap.size,0,none⟩=some cv/\w'.cell? ⟨w.heap.size,1,none⟩=some hv/\w'.cell? ⟨w.heap.size,2,none⟩=some (.int .i64 ep)/\w.heap.size<w'.heap.size/\Below w.heap.size w w':=by
 obtain⟨a,n,c,rfl⟩:=h1;obtain⟨a2,n2,c2,rfl⟩:=h2;go_enter Tryz.func109,Tryz.ntmps109;go_wp2
 go_ret
 exact⟨rfl,xab _ _ _ _ rfl 0,xab _ _ _ _ rfl 1,xab _ _ _ _ rfl 2,by simp,xai _ _⟩
theorem xd7 (X:QW)(b:Nat)(cv hv:Value):Lok (LkP X b cv hv):=⟨fun h e k h0 _=>h.keep e k h0,fun h _=>⟨h.tag,h.lt,h.w0,h.w1,h.w2,h.cls,h.heap⟩⟩
theorem xpX {X:QW}(hX:xau X=0){fuel:Int}(hf:fuel<=400)(b:Nat)(cv hv cv':Value):Cx (⟨xbk X fuel,cv',X.ez,.func (.func 141) #[] #[.pointer (some ⟨b,0,none⟩)],.func (.func 110) #[] #[]⟩:Mp Unit) (LkP X b cv hv) 141 #[.pointer (some ⟨b,0,none⟩)] 110 #[] where
 lv:=rfl
 qv:=rfl
 lcf:=xfu Tryz.func141 (by kernel_rfl) (by kernel_rfl)
 qcf:=xfu Tryz.func110 (by kernel_rfl) (by kernel_rfl)
 ok:=xiV hX fuel _
 fuel:=by show fuel<=_;omega
 keep h e k h0 h3:=h.keep e k h0
 mono h hn:=(xd7 X b cv hv).mono h hn
 look T w st s c name n h:=(xkx h s c name).mono fun e w' hp=>⟨hp.1,⟨T,.refl _ _,(xd7 X b cv hv).mono (h.keep (T':=T) (.refl _ _) (Kp.of_below (S:=fun _=>False) hp.2) id) (Nat.le_succ n)⟩,Kp.of_below hp.2⟩
 quick T w st c k mt n _ _:=xio (fun _ _=>rfl) T w st c k mt n
 few c k mt hm:=⟨by have:=xgI hX hm;omega,fun q h=>by cases h⟩
theorem xrT {P Q:Nat->Prop}(X:QW)(hX:xau X=0)(s:QV)(name:ByteArray)(args:List QV)(fuel:Int)(cv hv av:Value)(w:World)(hC:xag P w cv X.cz)(hH:xav P w hv X.heap)(hA:xaV Q w av args)(hn:name.size<=140737488351232)(b:Nat)(h1:b<w.heap.size)(f0:w.cell? ⟨b,0,none⟩=some cv)(f1:w.cell? ⟨b,1,none⟩=some hv)(f2:w.cell? ⟨b,2,none⟩=some (.int .i64 X.ez)) :
  Calls Tryz.prog 108 #[WV cv hv X.ez,ClV s name av,.int .i64 fuel,.func (.func 141) #[] #[.pointer (some ⟨b,0,none⟩)],.func (.func 110) #[] #[]] w fun e w'=>PlPost w X (xa2 X s name args fuel) e w':=by
 have k3:xag (Fx (fun _=>0) w) w cv X.cz:=(xdx hC).keep xax (Keeps.refl _ _) fun b hb=>⟨hb,rfl⟩
 have k4:xav (Fx (fun _=>0) w) w hv X.heap:=(xfO hH).keep xaB (Keeps.refl _ _) fun b hb=>⟨hb,rfl⟩
 rw[← xef]
 exact (xiL (T0:=fun _=>0) X hX (xbk X fuel) () rfl s name args cv hv av w (fun _ _=>.inl rfl) k3 k4 ((xek hA).keep xa7 (Keeps.refl _ _) fun b hb=>⟨hb,rfl⟩) hn (xd7 X b cv hv) ⟨rfl,h1,f0,f1,f2,k3,k4⟩ (fun _ h4 cv'=>xpX hX h4 b cv hv cv')).mono fun e w' h=>h.plain
theorem xnC {P Q:Nat->Prop}(X:QW)(hX:xau X=0)(s:QV)(name:ByteArray)(args:List QV)(fuel:Int)(cv hv av:Value)(w:World)(hC:xag P w cv X.cz)(hH:xav P w hv X.heap)(hA:xaV Q w av args)(hn:name.size<=140737488351232) :
  Calls Tryz.prog 84 #[WV cv hv X.ez,ClV s name av,.int .i64 fuel] w fun e w'=>PlPost w X (xa2 X s name args fuel) e w':=by
 have hR:=(xkJ w cv hv X.ez s name av).later (Below.refl _ _).drew;have hbW:Below w.heap.size w ((((w.alloc (.cells #[cv,hv,.int .i64 X.ez] 26)).alloc (.cells #[.int .i64 s.k,.int .i64 s.n,.string name,av] 54)).alloc (.cells #[.slice none 0 0,.slice none 0 0,.int .i64 0] 26)).alloc (.cells #[.int .i64 0,.int .i64 0,.int .i64 0,.int .i64 0] 98)).drew:=(xaf (xbp _ _ _) (xbp _ _ _)).drew;obtain⟨ac,cc,rfl,-,-,hby,-⟩:=id hC;obtain⟨ah,ch,rfl,-,-,hbyh,-⟩:=id hH;obtain⟨aa,ca,rfl,-⟩:=id hA;go_enter Tryz.func84,Tryz.ntmps84
 go_upto_region 1 with (fail)
 generalize ((((w.alloc (.cells #[.slice ac X.cz.length cc,.slice ah X.heap.length ch,.int .i64 X.ez] 26)).alloc (.cells #[.int .i64 s.k,.int .i64 s.n,.string name,.slice aa args.length ca] 54)).alloc (.cells #[.slice none 0 0,.slice none 0 0,.int .i64 0] 26)).alloc (.cells #[.int .i64 0,.int .i64 0,.int .i64 0,.int .i64 0] 98))=W at *;have hS0:=hR.pn;have hfd:=xmG (.slice ac X.cz.length cc) (.slice ah X.heap.length ch) X.ez W.drew ⟨_,_,_,rfl⟩ ⟨_,_,_,rfl⟩;have hwi:=fun (w':World) (hb:Below w.heap.size w w') (b:Nat) (h1:b<w'.heap.size) h2 h3 h4=>xrT X hX s name args fuel _ _ _ w' (hC.later xax hb) (hH.later xaB hb) (hA.later xa7 hb) hn b h1 h2 h3 h4
 obtain⟨r,hr⟩:∃ r,xa2 X s name args fuel=r:=⟨_,rfl⟩;rw[hr] at hwi;have HRR:=hid hr;clear hC hH hA hr;simp only[Nat.add_assoc,Nat.reduceAdd] at *;have tokA:True:=trivial
 go_region_held3 (fun w'=>w'.cell? ⟨w.heap.size,0,none⟩=some (.slice ac X.cz.length cc)/\w'.cell? ⟨w.heap.size,1,none⟩=some (.slice ah X.heap.length ch)/\w'.cell? ⟨w.heap.size,2,none⟩=some (.int .i64 X.ez)/\w'.cell? ⟨w.heap.size+1,0,none⟩=some (.int .i64 s.k)/\w'.cell? ⟨w.heap.size+1,1,none⟩=some (.int .i64 s.n)/\w'.cell? ⟨w.heap.size+1,2,none⟩=some (.string name)/\w'.cell? ⟨w.heap.size+1,3,none⟩=some (.slice aa args.length ca))
  (first | with_reducible exact hS0.al | with_reducible exact hS1.al | with_reducible exact hS2.al | with_reducible exact (((hS2.set (Or.inl rfl) _ _).set (Or.inl rfl) _ _).set (Or.inl rfl) _ _).al | with_reducible exact (((((((hS2.set (Or.inl rfl) _ _).set (Or.inl rfl) _ _).set (Or.inl rfl) _ _).set (Or.inr rfl) _ _).set (Or.inr rfl) _ _).set (Or.inr rfl) _ _).set (Or.inr rfl) _ _).al | with_reducible exact ((((hS2.set (Or.inr rfl) _ _).set (Or.inr rfl) _ _).set (Or.inr rfl) _ _).set (Or.inr rfl) _ _).al)
  (first
   | (have _t:=tokA;go_at_call 109;refine hfd.mono ?_;rintro e w2 ⟨rfl,f0,f1,f2,fz,hb2⟩;have hR2:=hR.later hb2;have hS1:=hR2.pn;have hbw2:=xaf hbW hb2;clear tokA;have tokB:True:=trivial)
   | (have _t:=tokB;go_at_call 108;refine (hwi _ hbw2 _ fz f0 f1 f2).mono ?_;rintro e w3 ⟨hb3,cv3,hv3,rfl,hC3,hH3⟩;have hR3:=hR2.later hb3;have hS2:=hR3.pn;have HQ:=hid (fun u0 u1 u2 v0 v1 v2 v3=>PlPost.fin (r:=r) (X:=X) (P:=fun b=>w2.heap.size<=b) (xaf hbw2 hb3) hC3 hH3 (by have:=hR2.sz;omega) (by have:=hR2.sz;omega) (fun x hx=>by have:=hR2.sz;omega) u0 u1 u2 v0 v1 v2 v3);obtain⟨a3,k3,rfl,-⟩:=id hC3;obtain⟨a4,k4,rfl,-⟩:=id hH3;obtain⟨-,-,-,-,-,-,-,a0,a1,a2,af,b0,b1,b2,b3,bf,-⟩:=id hR3;clear hC3 hH3))
 all_goals (
  go_wp2;rw[HRR.out];refine bodyPost_ret (v:=.tuple #[WV (.slice a3 X.cz.length k3) (.slice a4 r.heap.length k4) X.ez,RnV r]) ?_ rfl (HQ.out _ _ _ _ _ _ _)
  simp[results,Tryz.results84,go_sem,a0,a1,a2,b0,b1,b2,b3])
def xr0 (xs:List QC):Prop:=∀ (i:Nat) x,xs[i]?=some x->x.super<(i:Int)
theorem xfx {X:QW}(h:xau X=0):xr0 X.cz:=fun i x hx=>by
 obtain⟨-,hC,-,-⟩:=xbX h;have h1:=hC i x (xad hx) hx;unfold rcE at h1
 split at h1
 ·cases h1
 ·cases hn:xo1[i]? with
  | none=>
   rw[hn] at h1;simp only at h1;have h4:4<=i:=by rw[List.getElem?_eq_none_iff] at hn;simpa [xo1] using hn
   split at h1
   ·cases h1
   ·split at h1
    ·cases h1
    ·rename_i _ hb
     simp[xbx] at hb
     omega
  | some y=>
   rw[hn] at h1;simp only at h1
   split at h1
   ·cases h1
   ·split at h1
    ·cases h1
    ·split at h1
     ·cases h1
     ·rename_i hs;have hs':x.super=y.super:=by simpa using hs
      rw[hs'];have h4:=xad hn;have:i=0\/i=1\/i=2\/i=3:=by simp[xo1] at h4;omega
      rcases this with rfl | rfl | rfl | rfl<;>(simp[xo1] at hn;subst hn;simp)
theorem xiy {σ:Type}{vis vis':σ->Nat->QC->σ × Bool}{xs ys:List QC}(hu:xr0 xs)(hy:∀ (i:Nat) x,xs[i]?=some x->∃ y,ys[i]?=some y/\y.super=x.super/\∀ s,vis' s i y=vis s i x):∀ (N:Nat) (c:Int) (g g':Nat) (s:σ),c<N->c<xs.length->c.toNat<g->c.toNat<g'->upE vis' ys g' c s=upE vis xs g c s
 | 0,c,g+1,g'+1,s,hN,hl,hg,hg'=>by
  have h1:xa8 xs c=none:=by simp[xa8];omega
  have h2:xa8 ys c=none:=by simp[xa8];omega
  unfold upE;rw[h1,h2]
 | N+1,c,g+1,g'+1,s,hN,hl,hg,hg'=>by
  by_cases hc:c<0
  ·have h1:xa8 xs c=none:=by simp[xa8];omega
   have h2:xa8 ys c=none:=by simp[xa8];omega
   unfold upE;rw[h1,h2]
  ·obtain⟨k,rfl⟩:∃ k:Nat,c=(k:Int):=⟨c.toNat,by omega⟩
   obtain⟨x,hx⟩:∃ x,xs[k]?=some x:=⟨_,List.getElem?_eq_getElem (by omega)⟩
   obtain⟨y,hy1,hy2,hy3⟩:=hy k x hx;have hsu:=hu k x hx;unfold upE;rw[xcX,xcX,hx,hy1];simp only[Int.toNat_natCast];rw[hy3,hy2]
   by_cases hv:(vis s k x).2=true
   ·rw[if_pos hv,if_pos hv]
    by_cases h0:x.super<0
    ·have h1:xa8 xs x.super=none:=by simp[xa8];omega
     have h2:xa8 ys x.super=none:=by simp[xa8];omega
     cases g<;>cases g'<;>unfold upE<;>simp only[h1,h2]
    ·exact xiy hu hy N x.super g g' _ (by omega) (by omega) (by omega) (by omega)
   ·rw[if_neg hv,if_neg hv]
theorem xqi {σ:Type}(vis:σ->Nat->QC->σ × Bool){xs:List QC}(hu:xr0 xs)(z:List QC){c:Int}(hc:c<xs.length)(s:σ):upE vis (xs++z) ((xs++z).length+1) c s=upE vis xs (xs.length+1) c s:=
 xiy hu (fun i x hx=>⟨x,by rw[List.getElem?_append_left (xad hx)];exact hx,rfl,fun _=>rfl⟩) xs.length c _ _ s hc hc (by omega) (by rw[List.length_append];omega)
theorem xhN {xs:List QC}(hu:xr0 xs)(z:List QC){c:Int}(hc:c<xs.length):xaS (xs++z) c=xaS xs c:=xqi xcY hu z hc 0
theorem xjY {xs:List QC}(hu:xr0 xs)(z:List QC){c:Int}(hc:c<xs.length)(nm:ByteArray):xak (xs++z) c nm=xak xs c nm:=xqi (xga nm) hu z hc (-1,-1)
theorem xna {S n n':Int}{m:QM}{x:QI}(h:xfq S n m x=0)(hn:n<=n'):xfq S n' m x=0:=by
 unfold xfq at h ⊢
 split at h
 ·cases h
 ·rename_i h1;rw[if_neg h1]
  split at h
  ·cases h
  ·rename_i h2
   have:raE S n' m x=true:=by
    have h2':raE S n m x=true:=by simpa using h2
    unfold raE at h2' ⊢
    repeat' split at h2'
    all_goals try (rename_i k;simp only[k,if_true,if_false];try exact h2')
    all_goals (simp[*] at h2' ⊢;try (simp[inR] at h2' ⊢);try omega)
   rw[if_neg (by simp[this])]
   exact h
theorem xmX {S n n' c:Int}{m:QM}(h:(xce S n c m).1=0)(hn:n<=n'):(xce S n' c m).1=0:=by
 unfold xce at h ⊢
 by_cases hw:wmE n c m=0
 ·have hw':wmE n' c m=0:=by
   unfold wmE at hw ⊢
   split at hw
   ·cases hw
   ·rename_i h1;have:inR c 0 (n'-1)=true:=by simp[inR] at h1 ⊢;omega
    rw[if_neg (by simp[this])]
    exact hw
  rw[if_neg (by simp[hw])] at h
  rw[if_neg (by simp[hw'])]
  cases hb:xkV (xfq S n m) 0 m.code with
  | some f=>rw[hb] at h;exact absurd h (xge hb)
  | none=>
   rw[hb] at h;rw[xgs fun i y hy=>xna (xgn hb y (List.mem_of_getElem? hy)) hn]
   exact h
 ·rw[if_pos hw] at h
  exact absurd h hw
theorem xlY {X:QW}(hs:SizeOk X)(h1:∀ i x,X.cz[i]?=some x->rcE X.cz i x=0)(h2:∀ i x,X.cz[i]?=some x->rkE X i x=0)(h3:HOk X.cz X.heap):xau X=0:=by
 refine xiv hs (fun i x _ hx=>h1 i x hx) (fun i x _ hx=>h2 i x hx) fun i o hi ho=>?_
 obtain⟨e1,e2,e3⟩:=h3.obj o (List.mem_of_getElem? ho);unfold roE;rw[if_neg (by simp[e1,e2])]
 exact xcx fun k v hv=>e3 v (List.mem_of_getElem? hv)
theorem xq3 {X:QW}{k:Nat}{x:QC}(h:rkE X k x=0):xaS X.cz k<=6/\x.mz.length<=8/\∀ (i:Nat) m,x.mz[i]?=some m->rmE X k x.mz i m=0:=by
 unfold rkE at h
 split at h
 ·cases h
 ·split at h
  ·cases h
  ·exact⟨by omega,by omega,fun i m hm=>xbH h i m hm⟩
theorem xo6 {X:QW}{k:Nat}{x:QC}(h1:xaS X.cz k<=6)(h2:x.mz.length<=8)(h3:∀ (i:Nat) m,x.mz[i]?=some m->rmE X k x.mz i m=0):rkE X k x=0:=by
 unfold rkE;rw[if_neg (by omega),if_neg (by omega)]
 exact xcx h3
theorem xis {X:QW}{k:Nat}{ms:List QM}(h:∀ (i:Nat) m,ms[i]?=some m->rmE X k ms i m=0):xlo ms:=fun i a b ha hb=>by
 have:=h (i+1) b hb;unfold rmE at this
 split at this
 ·cases this
 ·rename_i h1;simp only[xhH,ha] at h1
  simpa using h1
def mOk (S:Int)(n:Nat)(k:Nat)(m:QM):Prop:=xmS k m=true\/(xce S n k m).1=0
theorem xri {X:QW}{k:Nat}{ms:List QM}{i:Nat}{m:QM}(h:rmE X k ms i m=0):mOk (xaS X.cz k) X.cz.length k m:=by
 unfold rmE at h
 split at h
 ·cases h
 ·split at h
  ·rename_i hp;exact Or.inl hp
  ·exact Or.inr h
theorem xqJ {X:QW}{k:Nat}{ms:List QM}{i:Nat}{m:QM}(hr:xlo ms)(hm:ms[i]?=some m)(h:mOk (xaS X.cz k) X.cz.length k m):rmE X k ms i m=0:=by
 have ha:xhH ms i m=true:=by
  cases i with
  | zero=>rfl
  | succ i=>
   obtain⟨p,hp⟩:∃ p,ms[i]?=some p:=⟨_,List.getElem?_eq_getElem (by have:=xad hm;omega)⟩
   simp only[xhH,hp]
   exact hr i p m hp hm
 unfold rmE;rw[if_neg (by simp[ha])]
 rcases h with h | h
 ·rw[if_pos h]
 ·split
  ·rfl
  ·exact h
theorem xmY {X:QW}(h:xau X=0){name:ByteArray}{super slots:Int}(hw:xbY X.cz name super slots=0):xau (xcj X name super slots)=0:=by
 obtain⟨hs,hC,hM,-⟩:=xbX h;have hH:=xdk h;have hu:=xfx h;have hso:=xdt h super;unfold xbY at hw
 split at hw
 ·cases hw
 ·rename_i hn
  split at hw
  ·cases hw
  ·rename_i hh
   split at hw
   ·cases hw
   ·rename_i hsl
    split at hw
    ·cases hw
    ·rename_i hl;simp only[not_or,Bool.not_eq_true,Bool.not_eq_false,Int.not_lt] at hn hsl hh;obtain⟨hn1,hn2⟩:=hn;obtain⟨hs1,hs2,hs3⟩:=hsl;have hh':0<=super/\super<X.cz.length:=by simpa [xc3] using hh
     have hp:super=0\/4<=super:=by simp[xhr] at hs3;omega
     have hlen:(xcj X name super slots).cz.length=X.cz.length+1:=by simp[xcj]
     have hcl:(xcj X name super slots).cz=X.cz++[⟨name,super,slots,[]⟩]:=rfl
     have hold:∀ i x,X.cz[i]?=some x->rcE (xcj X name super slots).cz i x=0:=fun i x hx=>by
      have:=hC i x (xad hx) hx
      have e:xm4 (xcj X name super slots).cz i x.name=xm4 X.cz i x.name:=by
       unfold xm4;rw[hcl,List.take_append_of_le_length (by have:=xad hx;omega)]
      unfold rcE at this ⊢;rw[e]
      exact this
     refine xlY ⟨by rw[hlen];have:=hs.few;omega,by rw[hlen];omega,hs.heap,hs.ep0,hs.ep1⟩ (fun i x hx=>?_) (fun i x hx=>?_) ⟨hs.heap,fun o ho=>?_⟩
     ·rw[hcl] at hx
      by_cases hi:i<X.cz.length
      ·rw[List.getElem?_append_left hi] at hx
       exact hold i x hx
      ·have he:i=X.cz.length:=by have:=xad hx;simp at this;omega
       subst he;rw[List.getElem?_append_right (qzC _)] at hx
       simp at hx
       subst hx;have h4:xo1[X.cz.length]?=none:=by rw[List.getElem?_eq_none_iff];have:=hs.few;simpa [xo1] using this
       unfold rcE;simp only;rw[if_neg (by simp[hn1]),h4]
       simp only
       have hd:xm4 (xcj X name super slots).cz X.cz.length name=false:=xro fun i d hi hd=>by
        rw[hcl,List.getElem?_append_left hi] at hd
        cases he:eqN d.name name with
        | false=>rfl
        | true=>
         exfalso;simp only[xhJ,decide_eq_false_iff_not] at hn2
         apply hn2
         unfold xbd
         cases hf:X.cz.findIdx? fun m=>eqN m.name name with
         | some j=>simp
         | none=>
          rw[List.findIdx?_eq_none_iff] at hf;have:=hf d (List.mem_of_getElem? hd);rw[he] at this
          cases this
       rw[if_neg (by simp[hd]),if_neg (by simp[xbx];omega),if_neg (by have:=hso.2;omega)]
     ·rw[hcl] at hx
      by_cases hi:i<X.cz.length
      ·rw[List.getElem?_append_left hi] at hx;obtain⟨r1,r2,r3⟩:=xq3 (hM i x hi hx);have es:xaS (xcj X name super slots).cz i=xaS X.cz i:=xhN hu _ (by omega)
       refine xo6 (by rw[es];exact r1) r2 fun j m hm=>xqJ (xis r3) hm ?_
       rw[es,hlen]
       rcases xri (r3 j m hm) with h | h
       ·exact Or.inl h
       ·exact Or.inr (xmX h (by omega))
      ·have he:i=X.cz.length:=by have:=xad hx;simp at this;omega
       subst he;rw[List.getElem?_append_right (qzC _)] at hx
       simp at hx
       subst hx;refine xo6 ?_ (by simp) fun j m hm=>by simp at hm
       have e1:xaS (xcj X name super slots).cz ((X.cz.length:Nat):Int)=upE xcY (xcj X name super slots).cz (X.cz.length+1) super (IntKind.i64.wrap (0+slots)):=by
        unfold xaS;rw[hlen]
        conv=>lhs;unfold upE
        rw[xcX,hcl,List.getElem?_append_right (qzC _)]
        simp[xcY]
       have hb6:slots<=6:=by have:=hso.2;omega
       have hw0:IntKind.i64.wrap (0+slots)=slots:=by rw[Int.zero_add];exact xal (by omega) (by omega)
       have hsk:xcC (X.cz++[⟨name,super,slots,[]⟩]):=fun i y hy=>by
        by_cases hi:i<X.cz.length
        ·rw[List.getElem?_append_left hi] at hy;exact xcn h i y hy
        ·have he:i=X.cz.length:=by have:=xad hy;simp at this;omega
         subst he;rw[List.getElem?_append_right (qzC _)] at hy
         simp at hy
         subst hy
         exact⟨hs1,hb6⟩
       have hmany:=hs.many;rw[e1,hw0,hcl,xgY hsk (by simp;omega) _ _ _ hs1 (by omega)]
       have e2:upE xdr (X.cz++[⟨name,super,slots,[]⟩]) (X.cz.length+1) super slots=slots+xbw X.cz super:=by
        have e3:upE xdr (X.cz++[⟨name,super,slots,[]⟩]) (X.cz.length+1) super slots=upE xdr X.cz (X.cz.length+1) super slots:=xiy hu (fun i x hx=>⟨x,by rw[List.getElem?_append_left (xad hx)];exact hx,rfl,fun _=>rfl⟩) X.cz.length super _ _ _ hh'.2 hh'.2 (by omega) (by omega)
        rw[e3]
        have e4:∀ (g:Nat) (c s t:Int),upE xdr X.cz g c (s+t)=s+upE xdr X.cz g c t:=fun g=>by
         induction g with
         | zero=>intro c s t;rfl
         | succ g ih=>
          intro c s t;unfold upE
          cases xa8 X.cz c with
          | none=>rfl
          | some x=>
           simp only[xdr,if_true];rw[Int.add_assoc]
           exact ih _ _ _
        have:=e4 (X.cz.length+1) super slots 0;rw[Int.add_zero] at this;rw[this]
        rfl
       rw[e2]
       omega
     ·obtain⟨o1,o2,o3⟩:=hH.obj o ho;refine⟨by rw[hlen];simp[xbx] at o1 ⊢;omega,?_,o3⟩
      rw[o2,hcl,xhN hu _ (by simp[xbx] at o1;omega)]
theorem xfK {α:Type}{p:α->Bool}{xs:List α}(h:0<=xbd p xs):∃ x,xs[(xbd p xs).toNat]?=some x/\p x=true/\∀ i y,i<(xbd p xs).toNat->xs[i]?=some y->p y=false:=by
 unfold xbd at h ⊢
 cases hf:xs.findIdx? p with
 | none=>rw[hf] at h;simp at h
 | some j=>
  simp only[Option.map_some,Option.getD_some,Int.ofNat_eq_natCast,Int.toNat_natCast];rw[List.findIdx?_eq_some_iff_getElem] at hf;obtain⟨hj,hp,hb⟩:=hf;refine⟨xs[j],by simp[hj],hp,fun i y hi hy=>?_⟩
  have hlt:=xad hy;have:=hb i hi;rw[List.getElem?_eq_getElem hlt] at hy
  cases hy
  simpa using this
theorem xlw {α:Type}{p:α->Bool}{xs:List α}(h:xbd p xs<0):∀ y∈xs,p y=false:=by
 unfold xbd at h
 cases hf:xs.findIdx? p with
 | some j=>rw[hf] at h;simp at h;omega
 | none=>rw[List.findIdx?_eq_none_iff] at hf;exact hf
theorem xrR {xs:List QM}{m y:QM}(h:y∈xmC xs m):y=m\/y∈xs:=by
 unfold xmC at h
 split at h
 ·rcases List.mem_or_eq_of_mem_set h with h | h
  ·exact Or.inr h
  ·exact Or.inl h
 ·simp only[List.append_assoc,List.mem_append,List.mem_cons,List.not_mem_nil,or_false] at h
  rcases h with h | h | h
  ·exact Or.inr (List.mem_of_mem_take h)
  ·exact Or.inl h
  ·exact Or.inr (List.mem_of_mem_drop h)
theorem xqN {a b c:ByteArray}(h:eqN a b=true)(k:ltN c a=true):ltN c b=true:=by
 unfold ltN at k ⊢;rw[← xed.1 h]
 exact k
theorem xn5 {xs:List QM}(hr:xlo xs)(m:QM):xlo (xmC xs m):=by
 unfold xmC
 split
 ·rename_i h;obtain⟨x,hx,hp,-⟩:=xfK (p:=fun y:QM=>eqN y.name m.name) h
  have hj:=xad hx;have hx':xs[(xcR xs m.name).toNat]?=some x:=hx;generalize (xcR xs m.name).toNat=j at hx' ⊢;intro i a b ha hb;rw[List.getElem?_set] at ha hb
  by_cases h1:j=i
  ·subst h1;rw[if_pos rfl,if_pos (xad hx')] at ha;rw[if_neg (by omega)] at hb
   cases ha
   exact xr2 hp (hr j x b hx' hb)
  ·rw[if_neg h1] at ha
   by_cases h2:j=i+1
   ·subst h2;rw[if_pos rfl,if_pos (xad hx')] at hb
    cases hb
    exact xqN hp (hr i a x ha hx')
   ·rw[if_neg h2] at hb
    exact hr i a b ha hb
 ·rename_i h;have hno:=xlw (p:=fun y:QM=>eqN y.name m.name) (show xcR xs m.name<0 by omega)
  obtain⟨hp0,hpl⟩:=xgH (xs:=xs) (name:=m.name)
  have hbef:∀ i y,i<(xcM xs m.name).toNat->xs[i]?=some y->ltN y.name m.name=true:=fun i y hi hy=>by
   have hg:gtN y.name m.name=false:=by
    by_cases hk:xbd (fun y:QM=>gtN y.name m.name) xs<0
    ·exact xlw hk y (List.mem_of_getElem? hy)
    ·unfold xcM at hi;rw[if_neg hk] at hi;obtain⟨-,-,-,hb⟩:=xfK (p:=fun y:QM=>gtN y.name m.name) (xs:=xs) (by omega)
     exact hb i y hi hy
   have he:=hno y (List.mem_of_getElem? hy)
   rcases xiH y.name.toList m.name.toList with h | h | h
   ·exact h
   ·rw[xed.2 h] at he;cases he
   ·rw[xoq.2 h] at hg;cases hg
  have hbeh:∀ y,xs[(xcM xs m.name).toNat]?=some y->ltN m.name y.name=true:=fun y hy=>by
   have hk:¬ xbd (fun y:QM=>gtN y.name m.name) xs<0:=fun hk=>by
    unfold xcM at hy;rw[if_pos hk] at hy;have:=xad hy
    simp at this
   obtain⟨x,hx,hp,-⟩:=xfK (p:=fun y:QM=>gtN y.name m.name) (xs:=xs) (by omega)
   unfold xcM at hy;rw[if_neg hk,hx] at hy
   cases hy
   exact xoq.1 hp
  generalize (xcM xs m.name).toNat=p at hpl hbef hbeh;intro i a b ha hb;have hlt:(xs.take p).length=p:=by simp;omega
  have at':∀ k y,(xs.take p++[m]++xs.drop p)[k]?=some y->(k<p/\xs[k]?=some y)\/(k=p/\y=m)\/(p<k/\xs[k-1]?=some y):=fun k y hy=>by
   by_cases h1:k<p
   ·rw[List.append_assoc,List.getElem?_append_left (by omega),List.getElem?_take,if_pos h1] at hy
    exact Or.inl ⟨h1,hy⟩
   ·rw[List.append_assoc,List.getElem?_append_right (by omega),hlt] at hy
    by_cases h2:k=p
    ·subst h2
     simp at hy
     exact Or.inr (Or.inl ⟨rfl,hy.symm⟩)
    ·rw[List.getElem?_append_right (by simp;omega),List.getElem?_drop] at hy
     simp only[List.length_cons,List.length_nil] at hy
     exact Or.inr (Or.inr ⟨by omega,by rw[← hy];congr 1;omega⟩)
  rcases at' i a ha with ⟨h1,ha'⟩ | ⟨h1,rfl⟩ | ⟨h1,ha'⟩
  ·rcases at' (i+1) b hb with ⟨h2,hb'⟩ | ⟨h2,rfl⟩ | ⟨h2,hb'⟩
   ·exact hr i a b ha' hb'
   ·exact hbef i a h1 ha'
   ·omega
  ·rcases at' (i+1) b hb with ⟨h2,hb'⟩ | ⟨h2,rfl⟩ | ⟨h2,hb'⟩
   ·omega
   ·omega
   ·subst h1
    exact hbeh b hb'
  ·rcases at' (i+1) b hb with ⟨h2,hb'⟩ | ⟨h2,rfl⟩ | ⟨h2,hb'⟩
   ·omega
   ·omega
   ·exact hr (i-1) a b ha' (by rw[← hb'];congr 1;omega)
theorem xqV (xs:List QM)(m:QM):(xmC xs m).length<=xs.length+1/\(0<=xcR xs m.name->(xmC xs m).length=xs.length):=by
 unfold xmC
 split
 ·exact⟨by simp,fun _=>by simp⟩
 ·rename_i h;obtain⟨-,hpl⟩:=xgH (xs:=xs) (name:=m.name)
  exact⟨by simp;omega,fun k=>absurd k h⟩
theorem xnn (xs ys:List QC)(h:ys.map (·.name)=xs.map (·.name))(k:Nat)(nm:ByteArray):xm4 ys k nm=xm4 xs k nm:=by
 have e:∀ l:List QC,xm4 l k nm=((l.map (·.name)).take k).any fun d=>eqN d nm:=fun l=>by
  unfold xm4;rw[← List.map_take,List.any_map]
  rfl
 rw[e,e,h]
theorem xoK {xs:List QC}(hu:xr0 xs){c:Nat}{x y:QC}(hx:xs[c]?=some x)(h1:y.super=x.super)(h2:y.slots=x.slots){k:Int}(hk:k<xs.length):xaS (xs.set c y) k=xaS xs k:=by
 have hc:=xad hx;refine xiy hu (fun i z hz=>?_) xs.length k _ _ 0 hk hk (by omega) (by simp;omega)
 rw[List.getElem?_set]
 by_cases h:c=i
 ·subst h;rw[hx] at hz
  cases hz
  rw[if_pos rfl,if_pos hc]
  exact⟨y,rfl,h1,fun s=>by simp[xcY,h2]⟩
 ·rw[if_neg h]
  exact⟨z,hz,rfl,fun _=>rfl⟩
theorem xmk {X:QW}(h:xau X=0){c:Nat}{x:QC}(hx:X.cz[c]?=some x){m:QM}(hm:(xce (xaS X.cz c) X.cz.length c m).1=0)(hroom:0<=xcR x.mz m.name\/x.mz.length<8)(he:X.ez<1073741824):xau (xdf X c x m)=0:=by
 obtain⟨hs,hC,hM,-⟩:=xbX h;have hH:=xdk h;have hu:=xfx h;have hc:=xad hx;have hcl:(xdf X c x m).cz=X.cz.set c { x with mz:=xmC x.mz m }:=rfl
 have hlen:(xdf X c x m).cz.length=X.cz.length:=by simp[xdf]
 have hep:(xdf X c x m).ez=X.ez+1:=by
  show xd8 X.ez=_
  unfold xd8;have:=hs.ep0;unfold wrap64
  omega
 have hsl:∀ k:Int,k<X.cz.length->xaS (xdf X c x m).cz k=xaS X.cz k:=fun k hk=>xoK (y:={ x with mz:=xmC x.mz m }) hu hx rfl rfl hk
 have hnames:(xdf X c x m).cz.map (·.name)=X.cz.map (·.name):=by
  rw[hcl,List.map_set]
  apply List.ext_getElem?
  intro i;rw[List.getElem?_set]
  split
  ·rename_i hi;subst hi;rw[if_pos (by simpa using hc),List.getElem?_map,hx]
   rfl
  ·rfl
 have hrc:∀ i y,X.cz[i]?=some y->∀ z:QC,z.name=y.name->z.super=y.super->z.slots=y.slots->rcE (xdf X c x m).cz i z=0:=fun i y hy z h1 h2 h3=>by
  have:=hC i y (xad hy) hy;unfold rcE at this ⊢;rw[xnn _ _ hnames,h1,h2,h3]
  exact this
 refine xlY ⟨by rw[hlen];exact hs.few,by rw[hlen];exact hs.many,hs.heap,by rw[hep];have:=hs.ep0;omega,by rw[hep];omega⟩ (fun i y hy=>?_) (fun i y hy=>?_) ⟨hs.heap,fun o ho=>?_⟩
 ·have hi:=xad hy;rw[hlen] at hi;rw[hcl,List.getElem?_set] at hy
  by_cases hci:c=i
  ·subst hci;rw[if_pos rfl,if_pos hc] at hy
   cases hy
   exact hrc c x hx _ rfl rfl rfl
  ·rw[if_neg hci] at hy
   exact hrc i y hy y rfl rfl rfl
 ·have hi:=xad hy;rw[hlen] at hi;rw[hcl,List.getElem?_set] at hy
  by_cases hci:c=i
  ·subst hci;rw[if_pos rfl,if_pos hc] at hy
   cases hy
   obtain⟨r1,r2,r3⟩:=xq3 (hM c x hc hx);have hr:=xn5 (xis r3) m;have hl:=xqV x.mz m
   have hl8:(xmC x.mz m).length<=8:=by
    rcases hroom with h | h
    ·rw[hl.2 h];exact r2
    ·omega
   refine xo6 (by rw[hsl _ (by omega)];exact r1) hl8 fun j y hy=>xqJ hr hy ?_
   rw[hsl _ (by omega),hlen]
   rcases xrR (List.mem_of_getElem? hy) with rfl | hy'
   ·exact Or.inr hm
   ·obtain⟨k,hk⟩:=List.getElem?_of_mem hy'
    exact xri (r3 k y hk)
  ·rw[if_neg hci] at hy;obtain⟨r1,r2,r3⟩:=xq3 (hM i y hi hy);refine xo6 (by rw[hsl _ (by omega)];exact r1) r2 fun j z hz=>xqJ (xis r3) hz ?_
   rw[hsl _ (by omega),hlen]
   exact xri (r3 j z hz)
 ·obtain⟨o1,o2,o3⟩:=hH.obj o ho;refine⟨by rw[hlen];exact o1,?_,o3⟩
  have h4:=hs.few;rw[o2,hsl _ (by simp[xbx] at o1;omega)]
theorem xoH {X:QW}(h:xau X=0){c:Int}(hc:xbx X.cz.length c=true)(hl:X.heap.length<60):xau ⟨X.cz,X.heap++[⟨c,List.replicate (xbw X.cz c).toNat xa4⟩],X.ez⟩=0:=
 xhe h ((xdk h).make hc (by have:=xdt h c;omega) hl)
theorem xry {X:QW}(h:xau X=0){e:Int}(h0:0<=e)(h1:e<=1073741824):xau ⟨X.cz,X.heap,e⟩=0:=by
 obtain⟨hs,hC,hM,hO⟩:=xbX h
 exact xiv ⟨hs.few,hs.many,hs.heap,h0,h1⟩ hC hM hO
structure Sn where
 X:QW
 cells:List QE
 ts:List QT
 saved:List UInt8
def xrQ (ep:Int)(l:List QE):Prop:=∀ x∈l,x.ez<=ep
def xfE (n:Nat)(ep:Int)(l:List QE):Prop:=∀ x∈l,x.ez=ep->∀ y∈x.lz,y.cls<(n:Int)/\y.found<(n:Int)
structure SInv (i:Nat)(s:Sn):Prop where
 right:xau s.X=0
 ep0:0<=s.X.ez
 ep1:s.X.ez<=i
 past:xrQ s.X.ez s.cells
 tru:TrueS s.X s.cells
 lz:xfE s.X.cz.length s.X.ez s.cells
theorem SInv.later {i j:Nat}{s:Sn}(h:SInv i s)(hij:i<=j):SInv j s:=
 ⟨h.right,h.ep0,by have:=h.ep1;omega,h.past,h.tru,h.lz⟩
theorem xkK {X:QW}{ep:Int}{l:List QE}(h:xrQ ep l)(hl:ep<X.ez):xrQ X.ez l/\TrueS X l/\xfE X.cz.length X.ez l:=
 ⟨fun x hx=>Int.le_of_lt (Int.lt_of_le_of_lt (h x hx) hl),fun x hx e=>absurd (h x hx) (by omega),fun x hx e=>absurd (h x hx) (by omega)⟩
theorem xiT:SInv 0 ⟨xlV,[],[],[]⟩:=⟨by kernel_rfl,by decide,by decide,fun _ h=>(by cases h),fun _ h=>(by cases h),fun _ h=>(by cases h)⟩
theorem SInv.heap {i:Nat}{s:Sn}(h:SInv i s){H:List QO}(hr:xau ⟨s.X.cz,H,s.X.ez⟩=0):SInv i ⟨⟨s.X.cz,H,s.X.ez⟩,s.cells,s.ts,s.saved⟩:=⟨hr,h.ep0,h.ep1,h.past,h.tru,h.lz⟩
theorem SInv.plain {i:Nat}{s:Sn}(h:SInv i s)(v:QV)(name:ByteArray)(args:List QV)(fuel:Int):SInv i ⟨⟨s.X.cz,(xa2 s.X v name args fuel).heap,s.X.ez⟩,s.cells,s.ts,s.saved⟩:=h.heap (xgU h.right v name args fuel).1
theorem SInv.object {i:Nat}{s:Sn}(h:SInv i s){c:Int}(hc:xbx s.X.cz.length c=true)(hl:s.X.heap.length<60):SInv i ⟨⟨s.X.cz,s.X.heap++[⟨c,List.replicate (xbw s.X.cz c).toNat xa4⟩],s.X.ez⟩,s.cells,s.ts,s.saved⟩:=h.heap (xoH h.right hc hl)
theorem xfW {e:Int}(h0:0<=e)(h1:e<=1000):xd8 e=e+1:=by
 unfold xd8 wrap64
 omega
theorem SInv.inst {i:Nat}{s:Sn}(h:SInv i s)(hi:i<1000){c:Nat}{x:QC}(hx:s.X.cz[c]?=some x){m:QM}(hm:(xce (xaS s.X.cz c) s.X.cz.length c m).1=0)(hroom:0<=xcR x.mz m.name\/x.mz.length<8):SInv (i+1) ⟨xdf s.X c x m,s.cells,s.ts,s.saved⟩:=by
 have e0:=h.ep0;have e1:=h.ep1;have he:(xdf s.X c x m).ez=s.X.ez+1:=xfW e0 (by omega)
 obtain⟨p1,p2,p3⟩:=xkK (X:=xdf s.X c x m) h.past (by omega)
 exact⟨xmk h.right hx hm hroom (by omega),by rw[he];omega,by rw[he];omega,p1,p2,p3⟩
theorem xmO {xs:List QC}{name:ByteArray}{a b c n:Int}{mt:QM}(h:xaz (xs++[⟨name,a,b,[]⟩]) c n=some mt):xaz xs c n=some mt:=by
 unfold xaz at h ⊢
 cases hc:xa8 (xs++[⟨name,a,b,[]⟩]) c with
 | none=>rw[hc] at h;cases h
 | some x=>
  rw[hc] at h;simp only[Option.bind_some] at h;obtain⟨k,rfl,hk⟩:=xa5 hc
  by_cases hl:k<xs.length
  ·rw[List.getElem?_append_left hl] at hk;rw[xcX,hk]
   exact h
  ·have hk2:k<xs.length+1:=by have:=(List.getElem?_eq_some_iff.1 hk).1;simpa using this
   have:k=xs.length:=by omega
   subst this;rw[List.getElem?_append_right (qzC _)] at hk
   simp at hk
   subst hk
   split at h
   ·simp at h
   ·cases h
theorem SInv.made {i:Nat}{s:Sn}(h:SInv i s){name:ByteArray}{super slots:Int}(hw:xbY s.X.cz name super slots=0):SInv i ⟨xcj s.X name super slots,s.cells,s.ts,s.saved⟩:=by
 have hu:=xfx h.right;refine⟨xmY h.right hw,h.ep0,h.ep1,h.past,fun x hx e y hy nm hs=>?_,fun x hx e y hy=>?_⟩
 ·obtain⟨l1,l2⟩:=h.lz x hx e y hy;obtain⟨n,mt,k,z,h1,h2⟩:=hs;have:=h.tru x hx e y hy nm ⟨n,mt,k,z,xmO h1,h2⟩
  show xak (s.X.cz++_) _ _=xak (s.X.cz++_) _ _
  rw[xjY hu _ l2,xjY hu _ l1]
  exact this
 ·obtain⟨l1,l2⟩:=h.lz x hx e y hy;have:(xcj s.X name super slots).cz.length=s.X.cz.length+1:=by simp[xcj]
  rw[this]
  exact⟨by omega,by omega⟩
theorem xom {X:QW}{l:List QE}(h1:xrQ X.ez l)(h2:xfE X.cz.length X.ez l)(s:QS)(c:Int)(nm:ByteArray):xrQ X.ez (xbb l X s c nm).1/\xfE X.cz.length X.ez (xbb l X s c nm).1:=by
 unfold xbb
 split
 ·exact⟨h1,h2⟩
 ·split
  ·exact⟨h1,h2⟩
  ·rename_i hf;have hin:xc3 X.cz.length (xak X.cz c nm).1=true:=xoo _ _ _ hf
   have hc:c<(X.cz.length:Int):=by
    by_cases hc:c<(X.cz.length:Int)
    ·exact hc
    ·exfalso
     apply hf
     have:xa8 X.cz c=none:=by
      unfold xa8
      split
      ·exact List.getElem?_eq_none (by omega)
      ·rfl
     unfold xak upE;rw[this]
     show (-1:Int)<0
     omega
   have hfl:(xak X.cz c nm).1<(X.cz.length:Int):=by simp[xc3] at hin;omega
   constructor
   ·intro z hz
    rcases xgG _ _ _ _ z hz with hz | ⟨-,e,-⟩
    ·exact h1 z hz
    ·omega
   ·intro z hz e y hy
    rcases xgG _ _ _ _ z hz with hz | ⟨-,-,hu⟩
    ·exact h2 z hz e y hy
    ·rcases hu y hy with rfl | ⟨x,hx,-,ex,hyx⟩
     ·exact⟨hc,hfl⟩
     ·exact h2 x hx ex y hyx
theorem xlP {X:QW}:∀ (q:List Ask) (st:CSt),xrQ X.ez st.cells->xfE X.cz.length X.ez st.cells->xrQ X.ez (xcT X st q).cells/\xfE X.cz.length X.ez (xcT X st q).cells
 | [],st,h1,h2=>⟨h1,h2⟩
 | a :: q,st,h1,h2=>by
  obtain⟨k1,k2⟩:=xom h1 h2 a.1 a.2.1 a.2.2
  exact xlP q _ k1 k2
theorem SInv.cached {i:Nat}{s:Sn}(h:SInv i s)(v:QV)(name:ByteArray)(args:List QV)(fuel:Int)(hits nots:Int) :
  (xcb (xay s.X fuel) s.X ⟨s.cells,s.ts,hits,nots⟩ v name args fuel).1=xa2 s.X v name args fuel/\
  SInv i ⟨⟨s.X.cz,(xcb (xay s.X fuel) s.X ⟨s.cells,s.ts,hits,nots⟩ v name args fuel).1.heap,s.X.ez⟩,(xcb (xay s.X fuel) s.X ⟨s.cells,s.ts,hits,nots⟩ v name args fuel).2.cells,(xcb (xay s.X fuel) s.X ⟨s.cells,s.ts,hits,nots⟩ v name args fuel).2.ts,s.saved⟩:=by
 rw[← xef]
 by_cases hw:xaH s.X v name args fuel≠0
 ·unfold xcb;rw[if_pos hw,if_pos hw]
  exact⟨rfl,h.right,h.ep0,h.ep1,h.past,h.tru,h.lz⟩
 ·obtain⟨q,hq⟩:=xfP h.right fuel (st0:=⟨s.cells,s.ts,hits,nots⟩) h.tru 20 (xak s.X.cz (xap s.X.heap v) name).1 (xak s.X.cz (xap s.X.heap v) name).2 v args;have hr:=hq ⟨s.cells,s.ts,hits,nots⟩ h.tru
  have e1:xrY s.X (xcL (xay s.X fuel) s.X ⟨s.cells,s.ts,hits,nots⟩ v name args)=xrY s.X (xcL (xbk s.X fuel) s.X () v name args):=by
   unfold xrY xcL;rw[hr.heap,hr.sz_,hr.res]
  have e2:(xcL (xay s.X fuel) s.X ⟨s.cells,s.ts,hits,nots⟩ v name args).1.st=xcT s.X ⟨s.cells,s.ts,hits,nots⟩ q:=hr.st;have e3:TrueS s.X (xcL (xay s.X fuel) s.X ⟨s.cells,s.ts,hits,nots⟩ v name args).1.st.cells:=hr.tru;obtain⟨k1,k2⟩:=xlP q ⟨s.cells,s.ts,hits,nots⟩ h.past h.lz;have hp:=xgU h.right v name args fuel;rw[← xef] at hp;unfold xcb at hp ⊢;rw[if_neg hw] at hp ⊢;rw[if_neg hw];simp only at hp ⊢;rw[e1];rw[← e2] at k1 k2
  exact⟨rfl,hp.1,h.ep0,h.ep1,k1,e3,k2⟩
structure StE where
 kind:Int
 cls:Int
 slots:Int
 name:ByteArray
 meth:QM
 sf:QV
 cname:ByteArray
 args:List QV
structure ReE where
 err:Int
 n:Int
 v:QV
abbrev noE (e n:Int):ReE:=⟨e,n,xa4⟩
def xeR (r:Ran):ReE:=⟨r.err,r.sz_,r.v⟩
def doE (s:Sn)(x:StE):Sn × ReE:=
 if x.kind=1 then
  if xbY s.X.cz x.name x.cls x.slots≠0 then (s,noE (xbY s.X.cz x.name x.cls x.slots) 0) else (⟨xcj s.X x.name x.cls x.slots,s.cells,s.ts,s.saved⟩,noE 0 s.X.cz.length)
 else if x.kind=2 then
  if (xce (xaS s.X.cz x.cls) s.X.cz.length x.cls x.meth).1≠0 then (s,noE (xce (xaS s.X.cz x.cls) s.X.cz.length x.cls x.meth).1 (xce (xaS s.X.cz x.cls) s.X.cz.length x.cls x.meth).2)
  else match xa8 s.X.cz x.cls with
   | none=>(s,noE 6 0)
   | some y=>if xcR y.mz x.meth.name<0/\8<=y.mz.length then (s,noE 5 0) else (⟨xdf s.X x.cls.toNat y x.meth,s.cells,s.ts,s.saved⟩,noE 0 0)
 else if x.kind=3 then
  if xbx s.X.cz.length x.cls=false then (s,noE 6 0)
  else if 60<=s.X.heap.length then (s,noE 15 0)
  else (⟨⟨s.X.cz,s.X.heap++[⟨x.cls,List.replicate (xbw s.X.cz x.cls).toNat xa4⟩],s.X.ez⟩,s.cells,s.ts,s.saved⟩,⟨0,s.X.heap.length,⟨4,s.X.heap.length⟩⟩)
 else if x.kind=4\/x.kind=6 then
  (⟨⟨s.X.cz,(xa2 s.X x.sf x.cname x.args 400).heap,s.X.ez⟩,s.cells,s.ts,s.saved⟩,xeR (xa2 s.X x.sf x.cname x.args 400))
 else if x.kind=5 then
  (⟨⟨s.X.cz,(xcb (xay s.X 400) s.X ⟨s.cells,s.ts,0,0⟩ x.sf x.cname x.args 400).1.heap,s.X.ez⟩,(xcb (xay s.X 400) s.X ⟨s.cells,s.ts,0,0⟩ x.sf x.cname x.args 400).2.cells,(xcb (xay s.X 400) s.X ⟨s.cells,s.ts,0,0⟩ x.sf x.cname x.args 400).2.ts,s.saved⟩,xeR (xcb (xay s.X 400) s.X ⟨s.cells,s.ts,0,0⟩ x.sf x.cname x.args 400).1)
 else (s,noE 1 0)
structure DoOk (i:Nat)(s:Sn)(r:Sn × ReE):Prop where
 inv:SInv (i+1) r.1
 ep:s.X.ez<=r.1.X.ez
 same:r.2.err≠0->r.1.X=s.X
theorem SInv.stays {i:Nat}{s:Sn}(h:SInv i s)(e:ReE):DoOk i s (s,e):=⟨h.later (Nat.le_succ i),Int.le_refl _,fun _=>rfl⟩
theorem xib {X:QW}{v:QV}{name:ByteArray}{args:List QV}{fuel:Int}(h:(xa2 X v name args fuel).err≠0):(⟨X.cz,(xa2 X v name args fuel).heap,X.ez⟩:QW)=X:=by rw[(xkM h).1]
theorem xpl {i:Nat}{s:Sn}(h:SInv i s)(hi:i<1000)(x:StE):DoOk i s (doE s x):=by
 unfold doE
 split
 ·split
  ·exact h.stays _
  ·rename_i hw
   exact⟨(h.made (by simpa using hw)).later (Nat.le_succ i),Int.le_refl _,fun e=>absurd rfl e⟩
 split
 ·split
  ·exact h.stays _
  ·rename_i hc
   cases hy:xa8 s.X.cz x.cls with
   | none=>exact h.stays _
   | some y=>
    simp only
    split
    ·exact h.stays _
    ·rename_i hroom;obtain⟨k,hk,hx⟩:=xa5 hy;rw[hk] at hc ⊢;simp only[Int.toNat_natCast];have e0:=h.ep0;have e1:=h.ep1;refine⟨h.inst hi hx (by simpa using hc) (by omega),?_,fun e=>absurd rfl e⟩
     have:(xdf s.X k y x.meth).ez=s.X.ez+1:=xfW e0 (by omega)
     simp only
     omega
 split
 ·split
  ·exact h.stays _
  ·split
   ·exact h.stays _
   ·rename_i hb hl
    exact⟨(h.object (by simpa using hb) (by omega)).later (Nat.le_succ i),Int.le_refl _,fun e=>absurd rfl e⟩
 split
 ·exact⟨(h.plain _ _ _ _).later (Nat.le_succ i),Int.le_refl _,fun e=>xib e⟩
 split
 ·obtain⟨k1,k2⟩:=h.cached x.sf x.cname x.args 400 0 0;refine⟨k2.later (Nat.le_succ i),Int.le_refl _,fun e=>?_⟩
  simp only[xeR] at e ⊢;rw[k1] at e ⊢
  exact xib e
 ·exact h.stays _
def xcs (s:Sn)(l:List StE):Sn:=l.foldl (fun s x=>(doE s x).1) s
def xaW:Sn->List StE->List ReE
 | _,[]=>[]
 | s,x :: l=>(doE s x).2 :: xaW (doE s x).1 l
def xaJ (xs:List QT)(s:QS):List QL:=(xs.filter fun t=>eqS t.site s).flatMap (·.lz)
theorem xjH (xs:List QT)(s:QS)(x:QT):xaJ (xs++[x]) s=xaJ xs s++if eqS x.site s then x.lz else []:=by
 unfold xaJ;rw[List.filter_append,List.flatMap_append]
 by_cases h:eqS x.site s<;>simp[List.filter_cons,h]
theorem xfX {xs:List QT}{j:Nat}{x:QT}(hx:xs[j]?=some x)(s:QS):xaJ (xs.take (j+1)) s=xaJ (xs.take j) s++if eqS x.site s then x.lz else []:=by
 have hj:=xad hx;rw[List.take_succ_eq_append_getElem hj,xjH];rw[List.getElem?_eq_getElem hj] at hx
 cases hx
 rfl
theorem xjr {α:Type}{xs:List α}{j:Nat}{x:α}(hx:xs[j]?=some x):xs.take (j+1)=xs.take j++[x]:=by
 have hj:=xad hx;rw[List.take_succ_eq_append_getElem hj];rw[List.getElem?_eq_getElem hj] at hx
 cases hx
 rfl
theorem xoF {P:Nat->Prop}{w:World}{v:Value}{ls:List QL}(h:xbJ P w v ls):xbJ (fun b=>b<w.heap.size) w v ls:=by
 obtain⟨ad,cap,h1,h2,h3,h4,h5⟩:=h;refine⟨ad,cap,h1,h2,h3,h4,fun i x hx=>?_⟩
 obtain⟨b,o,e,-,hE⟩:=h5 i x hx
 exact⟨b,o,e,World.block_lt_of_cell? _ _ hE.1,hE⟩
theorem xgV {P:Nat->Prop}{w:World}{v:Value}{xs:List QT}(h:xaI P w v xs):xaI (fun b=>b<w.heap.size) w v xs:=by
 obtain⟨ad,cap,h1,h2,h3,h4,h5⟩:=h;refine⟨ad,cap,h1,h2,h3,h4,fun i x hx=>?_⟩
 obtain⟨b,o,e,-,k0,k1,k2,lv,k3,kl⟩:=h5 i x hx
 exact⟨b,o,e,World.block_lt_of_cell? _ _ k0,k0,k1,k2,lv,k3,xoF kl⟩
theorem xmU {P:Nat->Prop}(I:List QL->World->Prop)(m:Nat)(cap':Value)(xs:List QT)(s:QS)(v:Value)(w:World)(hI:I [] w)(hm:m<w.heap.size)(hPm:∀ b,P b->b≠m)
  (hX:∀ l w',I l w'->xaI P w' v xs) (hL:∀ l w' w'',I l w'->Below w'.heap.size w' w''->I l w'')
  (hF:∀ l x w',I l w'->Calls Tryz.prog 241 #[LV x,cap'] w' fun e w''=>e=.returned (.tuple #[])/\I (l++[x]) w''/\Keeps (fun b=>b≠m) w' w''/\w'.heap.size<=w''.heap.size) :
  Calls Tryz.prog 240 #[v,SV s,.func (.func 241) #[] #[cap']] w fun e w'=>e=.returned (.tuple #[])/\I (xaJ xs s) w':=by
 obtain⟨ad,cap,rfl,hl,hcap,-,-⟩:=id (hX _ _ hI);unfold maxLen at hcap;have hs0:=xc7 w s 105;have hI0:=hL _ _ _ hI (xai w (.cells #[.int .i64 s.cls,.string s.name,.int .i64 s.at'] 105));have hsz0:w.heap.size<(w.alloc (.cells #[.int .i64 s.cls,.string s.name,.int .i64 s.at'] 105)).heap.size:=by simp
 clear hI;go_enter Tryz.func240,Tryz.ntmps240;go_wp2
 go_loopg [12] xs.length (fun g c wr=>∃ j:Nat,j+g=xs.length/\c=.int .i64 j/\I (xaJ (xs.take j) s) wr/\SiteAt wr w.heap.size s/\w.heap.size<wr.heap.size)
 case atStart=>exact⟨0,by omega,rfl,hI0,hs0,hsz0⟩
 case round=>
  obtain⟨j,hj,rfl,hIj,hsj,hzj⟩:=hrel;clear hI0 hs0 hsz0
  by_cases hlt:j<xs.length
  ·obtain⟨ad',cap'',e',-,-,-,hrow⟩:=hX _ _ hIj;simp only[Value.slice.injEq] at e';obtain⟨rfl,-,-⟩:=e';obtain⟨b,o,rfl,-,v0,v1,v2,sv,v3,hsl⟩:=hrow j xs[j] (by simp[hlt])
   have hxj:Hid (xs[j]?=some xs[j]):=by show _=_;simp[hlt]
   generalize xs[j]=x at *;have HT:Hid (xaJ (xs.take (j+1)) s=xaJ (xs.take j) s++if eqS x.site s then x.lz else []):=xfX hxj.out s;simp only[Nat.add_zero] at v0;obtain⟨ad2,cap2,rfl,hl2,hcap2,-,-⟩:=id hsl;unfold maxLen at hcap2;obtain⟨s0,s1,s2⟩:=id hsj;have s0':=fun y=>qzA (xai wr y) s0
   have s1':=fun y=>qzA (xai wr y) s1
   have s2':=fun y=>qzA (xai wr y) s2
   have he:=fun w=>neqS x.site s w
   clear hrow s0 s1 s2;have hj1:(j:Int)<(xs.length:Int):=by omega
   have hj0:(0:Int)<=(j:Int):=by omega
   have hbx:=xai wr (Obj.cells #[Value.int .i64 x.site.cls,Value.string x.site.name,Value.int .i64 x.site.at',Value.slice ad2 x.lz.length cap2] 111);have hzx:(wr.alloc (Obj.cells #[Value.int .i64 x.site.cls,Value.string x.site.name,Value.int .i64 x.site.at',Value.slice ad2 x.lz.length cap2] 111)).heap.size=wr.heap.size+1:=by simp
   by_cases hp:eqS x.site s=true
   ·have hp':(!eqS x.site s)=false:=by simp[hp]
    have HT':Hid (xaJ (xs.take (j+1)) s=xaJ (xs.take j) s++x.lz):=by show _=_;rw[HT.out,if_pos hp]
    rw[hp'] at he;clear hp hp';have hIx:=hL _ _ _ hIj hbx;have hsx:=hsj.later hbx;have hslx:=hsl.later xbv hbx;go_wp2;generalize (wr.alloc (Obj.cells #[Value.int .i64 x.site.cls,Value.string x.site.name,Value.int .i64 x.site.at',Value.slice ad2 x.lz.length cap2] 111))=W1 at *;clear he s0' s1' s2' v0 v1 v2 v3 hIj hsj hsl
    go_loopg [23] x.lz.length (fun g c ws=>∃ q:Nat,q+g=x.lz.length/\c=.int .i64 q/\I (xaJ (xs.take j) s++x.lz.take q) ws/\SiteAt ws w.heap.size s/\xbJ P ws (.slice ad2 x.lz.length cap2) x.lz/\w.heap.size<ws.heap.size)
    case atStart=>exact⟨0,by omega,rfl,by simpa using hIx,hsx,hslx,by omega⟩
    case round=>
     obtain⟨q,hq,rfl,hIq,hsq,hlq,hzq⟩:=hrel;clear hIx hsx hslx
     by_cases hltq:q<x.lz.length
     ·obtain⟨ad3,cap3,e3,-,-,-,hrow3⟩:=id hlq;simp only[Value.slice.injEq] at e3;obtain⟨rfl,-,-⟩:=e3;obtain⟨b3,o3,rfl,-,y0,y1⟩:=hrow3 q x.lz[q] (by simp[hltq])
      have hyq:Hid (x.lz[q]?=some x.lz[q]):=by show _=_;simp[hltq]
      generalize x.lz[q]=y at *;simp only[Nat.add_zero] at y0;have hq1:(q:Int)<(x.lz.length:Int):=by omega
      have hq0:(0:Int)<=(q:Int):=by omega
      have hby:=xai wr (Obj.cells #[Value.int .i64 y.cls,Value.int .i64 y.found] 147);have hIy:=hL _ _ _ hIq hby;have hsy:=hsq.later hby;clear hrow3;go_wp2_with fail;refine (hF _ y _ hIy).mono ?_;rintro e w1 ⟨rfl,hI1,hK1,hz1⟩;have hz1':wr.heap.size+1<=w1.heap.size:=by simpa using hz1
      go_wp2
      go_roundg (gk-1)
      case measure=>omega
      case rel=>
       have hmw:w.heap.size≠m:=by omega
       refine⟨q+1,by omega,by go_num,?_,?_,?_,by omega⟩
       ·rw[xjr hyq.out,← List.append_assoc];exact hI1
       ·exact⟨hK1 _ _ _ hmw hsy.c0,hK1 _ _ _ hmw hsy.c1,hK1 _ _ _ hmw hsy.c2⟩
       ·exact (hlq.later xbv hby).keep xbv (hK1.mono hPm) fun _ h=>h
     ·obtain rfl:q=x.lz.length:=by omega
      go_wp2
      go_roundg (xs.length-(j+1))
      case measure=>omega
      case rel=>
       rw[List.take_of_length_le (qzC _)] at hIq
       exact⟨j+1,by omega,by go_num,by rw[HT'.out];exact hIq,hsq,hzq⟩
   ·have hp1:eqS x.site s=false:=by simpa using hp
    have hp':(!eqS x.site s)=true:=by simp[hp1]
    have HT':Hid (xaJ (xs.take (j+1)) s=xaJ (xs.take j) s):=by show _=_;rw[HT.out,if_neg (by simp[hp1])];simp
    rw[hp'] at he;clear hp hp' hp1;go_wp2
    go_roundg (gk-1)
    case measure=>omega
    case rel=>exact⟨j+1,by omega,by go_num,by rw[HT'.out];exact hL _ _ _ hIj hbx,hsj.later hbx,by omega⟩
  ·obtain rfl:j=xs.length:=by omega
   go_wp2;refine bodyPost_end (v:=.tuple #[]) (by simp[results,Tryz.results240,go_sem]) rfl ⟨rfl,?_⟩
   rw[List.take_of_length_le (qzC _)] at hIj
   exact hIj
theorem xmP {P:Nat->Prop}(I:List QL->World->Prop)(m:Nat)(cap':Value)(xs:List QT)(s:QS)(v:Value)(w:World)(hI:I [] w)(hm:m<w.heap.size)(hPm:∀ b,P b->b≠m)
  (hX:∀ l w',I l w'->xaI P w' v xs) (hL:∀ l w' w'',I l w'->Below w'.heap.size w' w''->I l w'')
  (hF:∀ l x w',I l w'->Calls Tryz.prog 242 #[LV x,cap'] w' fun e w''=>e=.returned (.tuple #[])/\I (l++[x]) w''/\Keeps (fun b=>b≠m) w' w''/\w'.heap.size<=w''.heap.size) :
  Calls Tryz.prog 240 #[v,SV s,.func (.func 242) #[] #[cap']] w fun e w'=>e=.returned (.tuple #[])/\I (xaJ xs s) w':=by
 obtain⟨ad,cap,rfl,hl,hcap,-,-⟩:=id (hX _ _ hI);unfold maxLen at hcap;have hs0:=xc7 w s 105;have hI0:=hL _ _ _ hI (xai w (.cells #[.int .i64 s.cls,.string s.name,.int .i64 s.at'] 105));have hsz0:w.heap.size<(w.alloc (.cells #[.int .i64 s.cls,.string s.name,.int .i64 s.at'] 105)).heap.size:=by simp
 clear hI;go_enter Tryz.func240,Tryz.ntmps240;go_wp2
 go_loopg [12] xs.length (fun g c wr=>∃ j:Nat,j+g=xs.length/\c=.int .i64 j/\I (xaJ (xs.take j) s) wr/\SiteAt wr w.heap.size s/\w.heap.size<wr.heap.size)
 case atStart=>exact⟨0,by omega,rfl,hI0,hs0,hsz0⟩
 case round=>
  obtain⟨j,hj,rfl,hIj,hsj,hzj⟩:=hrel;clear hI0 hs0 hsz0
  by_cases hlt:j<xs.length
  ·obtain⟨ad',cap'',e',-,-,-,hrow⟩:=hX _ _ hIj;simp only[Value.slice.injEq] at e';obtain⟨rfl,-,-⟩:=e';obtain⟨b,o,rfl,-,v0,v1,v2,sv,v3,hsl⟩:=hrow j xs[j] (by simp[hlt])
   have hxj:Hid (xs[j]?=some xs[j]):=by show _=_;simp[hlt]
   generalize xs[j]=x at *;have HT:Hid (xaJ (xs.take (j+1)) s=xaJ (xs.take j) s++if eqS x.site s then x.lz else []):=xfX hxj.out s;simp only[Nat.add_zero] at v0;obtain⟨ad2,cap2,rfl,hl2,hcap2,-,-⟩:=id hsl;unfold maxLen at hcap2;obtain⟨s0,s1,s2⟩:=id hsj;have s0':=fun y=>qzA (xai wr y) s0
   have s1':=fun y=>qzA (xai wr y) s1
   have s2':=fun y=>qzA (xai wr y) s2
   have he:=fun w=>neqS x.site s w
   clear hrow s0 s1 s2;have hj1:(j:Int)<(xs.length:Int):=by omega
   have hj0:(0:Int)<=(j:Int):=by omega
   have hbx:=xai wr (Obj.cells #[Value.int .i64 x.site.cls,Value.string x.site.name,Value.int .i64 x.site.at',Value.slice ad2 x.lz.length cap2] 111);have hzx:(wr.alloc (Obj.cells #[Value.int .i64 x.site.cls,Value.string x.site.name,Value.int .i64 x.site.at',Value.slice ad2 x.lz.length cap2] 111)).heap.size=wr.heap.size+1:=by simp
   by_cases hp:eqS x.site s=true
   ·have hp':(!eqS x.site s)=false:=by simp[hp]
    have HT':Hid (xaJ (xs.take (j+1)) s=xaJ (xs.take j) s++x.lz):=by show _=_;rw[HT.out,if_pos hp]
    rw[hp'] at he;clear hp hp';have hIx:=hL _ _ _ hIj hbx;have hsx:=hsj.later hbx;have hslx:=hsl.later xbv hbx;go_wp2;generalize (wr.alloc (Obj.cells #[Value.int .i64 x.site.cls,Value.string x.site.name,Value.int .i64 x.site.at',Value.slice ad2 x.lz.length cap2] 111))=W1 at *;clear he s0' s1' s2' v0 v1 v2 v3 hIj hsj hsl
    go_loopg [23] x.lz.length (fun g c ws=>∃ q:Nat,q+g=x.lz.length/\c=.int .i64 q/\I (xaJ (xs.take j) s++x.lz.take q) ws/\SiteAt ws w.heap.size s/\xbJ P ws (.slice ad2 x.lz.length cap2) x.lz/\w.heap.size<ws.heap.size)
    case atStart=>exact⟨0,by omega,rfl,by simpa using hIx,hsx,hslx,by omega⟩
    case round=>
     obtain⟨q,hq,rfl,hIq,hsq,hlq,hzq⟩:=hrel;clear hIx hsx hslx
     by_cases hltq:q<x.lz.length
     ·obtain⟨ad3,cap3,e3,-,-,-,hrow3⟩:=id hlq;simp only[Value.slice.injEq] at e3;obtain⟨rfl,-,-⟩:=e3;obtain⟨b3,o3,rfl,-,y0,y1⟩:=hrow3 q x.lz[q] (by simp[hltq])
      have hyq:Hid (x.lz[q]?=some x.lz[q]):=by show _=_;simp[hltq]
      generalize x.lz[q]=y at *;simp only[Nat.add_zero] at y0;have hq1:(q:Int)<(x.lz.length:Int):=by omega
      have hq0:(0:Int)<=(q:Int):=by omega
      have hby:=xai wr (Obj.cells #[Value.int .i64 y.cls,Value.int .i64 y.found] 147);have hIy:=hL _ _ _ hIq hby;have hsy:=hsq.later hby;clear hrow3;go_wp2_with fail;refine (hF _ y _ hIy).mono ?_;rintro e w1 ⟨rfl,hI1,hK1,hz1⟩;have hz1':wr.heap.size+1<=w1.heap.size:=by simpa using hz1
      go_wp2
      go_roundg (gk-1)
      case measure=>omega
      case rel=>
       have hmw:w.heap.size≠m:=by omega
       refine⟨q+1,by omega,by go_num,?_,?_,?_,by omega⟩
       ·rw[xjr hyq.out,← List.append_assoc];exact hI1
       ·exact⟨hK1 _ _ _ hmw hsy.c0,hK1 _ _ _ hmw hsy.c1,hK1 _ _ _ hmw hsy.c2⟩
       ·exact (hlq.later xbv hby).keep xbv (hK1.mono hPm) fun _ h=>h
     ·obtain rfl:q=x.lz.length:=by omega
      go_wp2
      go_roundg (xs.length-(j+1))
      case measure=>omega
      case rel=>
       rw[List.take_of_length_le (qzC _)] at hIq
       exact⟨j+1,by omega,by go_num,by rw[HT'.out];exact hIq,hsq,hzq⟩
   ·have hp1:eqS x.site s=false:=by simpa using hp
    have hp':(!eqS x.site s)=true:=by simp[hp1]
    have HT':Hid (xaJ (xs.take (j+1)) s=xaJ (xs.take j) s):=by show _=_;rw[HT.out,if_neg (by simp[hp1])];simp
    rw[hp'] at he;clear hp hp' hp1;go_wp2
    go_roundg (gk-1)
    case measure=>omega
    case rel=>exact⟨j+1,by omega,by go_num,by rw[HT'.out];exact hL _ _ _ hIj hbx,hsj.later hbx,by omega⟩
  ·obtain rfl:j=xs.length:=by omega
   go_wp2;refine bodyPost_end (v:=.tuple #[]) (by simp[results,Tryz.results240,go_sem]) rfl ⟨rfl,?_⟩
   rw[List.take_of_length_le (qzC _)] at hIj
   exact hIj
theorem xht (w:World)(cs:Array Value)(t:TypeId)(n j:Nat)(hn:w.heap.size=n):(w.alloc (.cells cs t)).frozen? ⟨n,j,none⟩=false:=by
 subst hn;unfold World.frozen?;rw[show (w.alloc (.cells cs t)).heap[(⟨w.heap.size,j,none⟩:Addr).block]?=some (.cells cs t) from heap_alloc_new w _]
 simp
def xeo (ls:List QL):Int:=ls.foldl (fun n x=>wrap64 (n+x.found)) 0
theorem xju (l:List QL)(x:QL):xeo (l++[x])=wrap64 (xeo l+x.found):=by simp[xeo]
theorem xoA (x:QL)(b:Nat)(n:Int)(w:World)(hc:w.cell? ⟨b,0,none⟩=some (.int .i64 n))(hf:w.frozen? ⟨b,0,none⟩=false):Calls Tryz.prog 241 #[LV x,.pointer (some ⟨b,0,none⟩)] w fun e w'=>e=.returned (.tuple #[])/\Below w.heap.size (w.setCell ⟨b,0,none⟩ (.int .i64 (wrap64 (n+x.found)))) w':=by
 have hbl:=World.block_lt_of_cell? _ _ hc;have k:=fun y=>qzA (xai w y) hc
 have kf:=fun y=>((xai w y).frozen (p:=⟨b,0,none⟩) hbl).trans hf
 go_enter Tryz.func241,Tryz.ntmps241;go_wp2;refine bodyPost_end (v:=.tuple #[]) (by simp[results,Tryz.results241,go_sem]) rfl ⟨rfl,by simpa using xai (w.setCell ⟨b,0,none⟩ (.int .i64 (wrap64 (n+x.found)))) _⟩
structure AllI (w:World)(v:Value)(xs:List QT)(m:Nat)(val:List QL->Int)(l:List QL)(w':World):Prop where
 bel:Below w.heap.size w w'
 there:m<w'.heap.size
 tal:xaI (fun b=>b<w.heap.size) w' v xs
 cell:w'.cell? ⟨m,0,none⟩=some (.int .i64 (val l))
 fz:w'.frozen? ⟨m,0,none⟩=false
theorem AllI.later {w:World}{v:Value}{xs:List QT}{m:Nat}{val:List QL->Int}{l:List QL}{w' w'':World}(h:AllI w v xs m val l w')(hb:Below w'.heap.size w' w''):AllI w v xs m val l w'':=
 ⟨xaf h.bel hb,qzE h.there hb.size,h.tal.later xbD hb,qzA hb h.cell,(hb.frozen (p:=⟨m,0,none⟩) h.there).trans h.fz⟩
theorem xqY {P:Nat->Prop}(xs:List QT)(s:QS)(v:Value)(w:World)(hh:xaI P w v xs):Calls Tryz.prog 201 #[v,SV s] w fun e w'=>e=.returned (.int .i64 (xeo (xaJ xs s)))/\Below w.heap.size w w':=by
 have hm:=hmf;have ho:=xgV hh;obtain⟨ad,cap,rfl,-,-,-,-⟩:=id hh;have hb2:=xbp w (.cells #[.int .i64 s.cls,.string s.name,.int .i64 s.at'] 105) (.cells #[.int .i64 0] 3)
 have hI:AllI w (.slice ad xs.length cap) xs (w.heap.size+1) xeo [] ((w.alloc (.cells #[.int .i64 s.cls,.string s.name,.int .i64 s.at'] 105)).alloc (.cells #[.int .i64 0] 3)):=
  ⟨hb2,by simp,ho.later xbD hb2,by rw[xab _ _ _ _ (by simp)];rfl,xht _ _ _ _ _ (by simp)⟩
 have hs:=(xc7 w s 105).later (xai _ (.cells #[.int .i64 0] 3));obtain⟨s0,s1,s2⟩:=hs;go_enter Tryz.func201,Tryz.ntmps201;go_wp2_with fail;refine (xmU (P:=fun b=>b<w.heap.size) (AllI w (.slice ad xs.length cap) xs (w.heap.size+1) xeo) (w.heap.size+1) _ xs s _ _ hI (by simp) (fun b hb=>by omega) (fun l w' h=>h.tal) (fun l w' w'' h hb=>h.later hb) fun l x w' h=>?_).mono ?_
 ·refine (xoA x _ _ w' h.cell h.fz).mono ?_;rintro e w'' ⟨rfl,hb⟩;have hb':Below (w'.setCell ⟨w.heap.size+1,0,none⟩ (.int .i64 (wrap64 (xeo l+x.found)))).heap.size (w'.setCell ⟨w.heap.size+1,0,none⟩ (.int .i64 (wrap64 (xeo l+x.found)))) w'':=by simpa using hb
  refine⟨rfl,AllI.later ⟨h.bel.setCell (by simp) _,by simpa using h.there,h.tal.keep xbD (Keeps.of_setCell (by simp) _) (fun _ h=>h),?_,?_⟩ hb',?_,?_⟩
  ·rw[xju];exact xa9 h.cell _
  ·simpa using h.fz
  ·exact (Keeps.of_setCell (by simp) _).trans (Keeps.of_below hb')
  ·simpa using hb.size
 ·rintro e w1 ⟨rfl,hI1⟩;have k:=hI1.cell;go_wp2
  go_ret
  exact⟨rfl,hI1.bel⟩
def xbP (p:QL)(x:QL):QL:=if x.found>p.found\/(x.found>0/\x.found=p.found/\x.cls<p.cls) then x else p
def xdO (ls:List QL):QL:=ls.foldl xbP ⟨-1,0⟩
theorem xhM (l:List QL)(x:QL):xdO (l++[x])=xbP (xdO l) x:=by simp[xdO]
structure MostP (w:World)(b:Nat)(q:QL)(w':World):Prop where
 bel:Below b w w'
 keep:Keeps (fun k=>k≠b) w w'
 c0:w'.cell? ⟨b,0,none⟩=some (.int .i64 q.cls)
 c1:w'.cell? ⟨b,1,none⟩=some (.int .i64 q.found)
 fz:∀ o,w'.frozen? ⟨b,o,none⟩=false
theorem MostP.same {w:World}{b:Nat}{p:QL}(h0:w.cell? ⟨b,0,none⟩=some (.int .i64 p.cls))(h1:w.cell? ⟨b,1,none⟩=some (.int .i64 p.found))(hf:∀ o,w.frozen? ⟨b,o,none⟩=false){w':World}(hb:Below w.heap.size w w'):MostP w b p w':=by
 have hbl:=World.block_lt_of_cell? _ _ h0;have hbl':b<w.heap.size:=hbl
 exact⟨hb.mono (by omega),.of_below hb,qzA hb h0,qzA hb h1,fun o=>(hb.frozen (p:=⟨b,o,none⟩) hbl).trans (hf o)⟩
theorem MostP.set {w:World}{b:Nat}{p x:QL}(h0:w.cell? ⟨b,0,none⟩=some (.int .i64 p.cls))(h1:w.cell? ⟨b,1,none⟩=some (.int .i64 p.found))(hf:∀ o,w.frozen? ⟨b,o,none⟩=false){w':World}(hb:Below w.heap.size ((w.setCell ⟨b,0,none⟩ (.int .i64 x.cls)).setCell ⟨b,1,none⟩ (.int .i64 x.found)) w'):MostP w b x w':=by
 have hbl':b<w.heap.size:=World.block_lt_of_cell? _ _ h0;have hb':Below ((w.setCell ⟨b,0,none⟩ (.int .i64 x.cls)).setCell ⟨b,1,none⟩ (.int .i64 x.found)).heap.size ((w.setCell ⟨b,0,none⟩ (.int .i64 x.cls)).setCell ⟨b,1,none⟩ (.int .i64 x.found)) w':=by simpa using hb
 have c0:((w.setCell ⟨b,0,none⟩ (.int .i64 x.cls)).setCell ⟨b,1,none⟩ (.int .i64 x.found)).cell? ⟨b,0,none⟩=some (.int .i64 x.cls):=by
  rw[World.cell?_setCell_other _ _ _ _ (by intro e;injection e with _ e2 _;omega)]
  exact xa9 h0 _
 have c1:((w.setCell ⟨b,0,none⟩ (.int .i64 x.cls)).setCell ⟨b,1,none⟩ (.int .i64 x.found)).cell? ⟨b,1,none⟩=some (.int .i64 x.found):=by
  refine xa9 (v:=.int .i64 p.found) ?_ _;rw[World.cell?_setCell_other _ _ _ _ (by intro e;injection e with _ e2 _;omega)]
  exact h1
 have fz:∀ o,((w.setCell ⟨b,0,none⟩ (.int .i64 x.cls)).setCell ⟨b,1,none⟩ (.int .i64 x.found)).frozen? ⟨b,o,none⟩=false:=fun o=>by simpa using hf o
 have:=MostP.same c0 c1 fz hb'
 exact⟨(((Below.refl b w).setCell (qzC _) _).setCell (qzC _) _).trans this.bel,((Keeps.of_setCell (by simp) _).trans (Keeps.of_setCell (by simp) _)).trans this.keep,this.c0,this.c1,this.fz⟩
theorem xmE (x p:QL)(b:Nat)(w:World)(h0:w.cell? ⟨b,0,none⟩=some (.int .i64 p.cls))(h1:w.cell? ⟨b,1,none⟩=some (.int .i64 p.found))(hf:∀ o,w.frozen? ⟨b,o,none⟩=false):Calls Tryz.prog 242 #[LV x,.pointer (some ⟨b,0,none⟩)] w fun e w'=>e=.returned (.tuple #[])/\MostP w b (xbP p x) w':=by
 have hbl:b<w.heap.size:=World.block_lt_of_cell? _ _ h0;have k0:=fun y=>qzA (xai w y) h0
 have k1:=fun y=>qzA (xai w y) h1
 have kf:=fun y o=>((xai w y).frozen (p:=⟨b,o,none⟩) hbl).trans (hf o)
 by_cases hA:p.found<x.found
 ·have HM:Hid (xbP p x=x):=by show _=_;unfold xbP;rw[if_pos (Or.inl hA)]
  have hd:decide (p.found<x.found)=true:=by simpa using hA
  go_enter Tryz.func242,Tryz.ntmps242;go_wp2;refine bodyPost_end (v:=.tuple #[]) (by simp[results,Tryz.results242,go_sem]) rfl ⟨rfl,?_⟩
  rw[HM.out]
  exact MostP.set h0 h1 hf (by simpa using xai ((w.setCell ⟨b,0,none⟩ (.int .i64 x.cls)).setCell ⟨b,1,none⟩ (.int .i64 x.found)) _)
 ·have hdA:decide (p.found<x.found)=false:=by simpa using hA
  by_cases hB:0<x.found
  ·have hdB:decide (0<x.found)=true:=by simpa using hB
   by_cases hC:x.found=p.found
   ·by_cases hD:x.cls<p.cls
    ·have HM:Hid (xbP p x=x):=by show _=_;unfold xbP;rw[if_pos (Or.inr ⟨hB,hC,hD⟩)]
     have hdD:decide (x.cls<p.cls)=true:=by simpa using hD
     have hdC:(x.found == p.found)=true:=by simpa using hC
     go_enter Tryz.func242,Tryz.ntmps242;go_wp2;refine bodyPost_end (v:=.tuple #[]) (by simp[results,Tryz.results242,go_sem]) rfl ⟨rfl,?_⟩
     rw[HM.out]
     first
     | exact MostP.set h0 h1 hf (by simpa using xai ((w.setCell ⟨b,0,none⟩ (.int .i64 x.cls)).setCell ⟨b,1,none⟩ (.int .i64 x.found)) _)
     | exact MostP.set h0 h1 hf (by simpa [hC] using xai ((w.setCell ⟨b,0,none⟩ (.int .i64 x.cls)).setCell ⟨b,1,none⟩ (.int .i64 x.found)) _)
    ·have HM:Hid (xbP p x=p):=by show _=_;unfold xbP;rw[if_neg (by omega)]
     have hdD:decide (x.cls<p.cls)=false:=by simpa using hD
     have hdC:(x.found == p.found)=true:=by simpa using hC
     go_enter Tryz.func242,Tryz.ntmps242;go_wp2;refine bodyPost_end (v:=.tuple #[]) (by simp[results,Tryz.results242,go_sem]) rfl ⟨rfl,?_⟩
     rw[HM.out]
     exact MostP.same h0 h1 hf (xai _ _)
   ·have HM:Hid (xbP p x=p):=by show _=_;unfold xbP;rw[if_neg (by omega)]
    have hdC:(x.found == p.found)=false:=by simpa using hC
    go_enter Tryz.func242,Tryz.ntmps242;go_wp2;refine bodyPost_end (v:=.tuple #[]) (by simp[results,Tryz.results242,go_sem]) rfl ⟨rfl,?_⟩
    rw[HM.out]
    exact MostP.same h0 h1 hf (xai _ _)
  ·have HM:Hid (xbP p x=p):=by show _=_;unfold xbP;rw[if_neg (by omega)]
   have hdB:decide (0<x.found)=false:=by simpa using hB
   go_enter Tryz.func242,Tryz.ntmps242;go_wp2;refine bodyPost_end (v:=.tuple #[]) (by simp[results,Tryz.results242,go_sem]) rfl ⟨rfl,?_⟩
   rw[HM.out]
   exact MostP.same h0 h1 hf (xai _ _)
structure MostI (w:World)(v:Value)(xs:List QT)(m:Nat)(l:List QL)(w':World):Prop where
 bel:Below w.heap.size w w'
 there:m<w'.heap.size
 tal:xaI (fun b=>b<w.heap.size) w' v xs
 c0:w'.cell? ⟨m,0,none⟩=some (.int .i64 (xdO l).cls)
 c1:w'.cell? ⟨m,1,none⟩=some (.int .i64 (xdO l).found)
 fz:∀ o,w'.frozen? ⟨m,o,none⟩=false
theorem MostI.later {w:World}{v:Value}{xs:List QT}{m:Nat}{l:List QL}{w' w'':World}(h:MostI w v xs m l w')(hb:Below w'.heap.size w' w''):MostI w v xs m l w'':=
 ⟨xaf h.bel hb,qzE h.there hb.size,h.tal.later xbD hb,qzA hb h.c0,qzA hb h.c1,fun o=>(hb.frozen (p:=⟨m,o,none⟩) h.there).trans (h.fz o)⟩
theorem xo4 {P:Nat->Prop}(xs:List QT)(s:QS)(v:Value)(w:World)(hh:xaI P w v xs):Calls Tryz.prog 202 #[v,SV s] w fun e w'=>e=.returned (.tuple #[.int .i64 (xdO (xaJ xs s)).cls,.int .i64 (xdO (xaJ xs s)).found])/\Below w.heap.size w w':=by
 have hm:=hmf;have ho:=xgV hh;obtain⟨ad,cap,rfl,-,-,-,-⟩:=id hh;have hb2:=xbp w (.cells #[.int .i64 s.cls,.string s.name,.int .i64 s.at'] 105) (.cells #[.int .i64 (-1),.int .i64 0] 147)
 have hI:MostI w (.slice ad xs.length cap) xs (w.heap.size+1) [] ((w.alloc (.cells #[.int .i64 s.cls,.string s.name,.int .i64 s.at'] 105)).alloc (.cells #[.int .i64 (-1),.int .i64 0] 147)):=
  ⟨hb2,by simp,ho.later xbD hb2,by rw[xab _ _ _ _ (by simp)];rfl,by rw[xab _ _ _ _ (by simp)];rfl,fun o=>xht _ _ _ _ _ (by simp)⟩
 have hs:=(xc7 w s 105).later (xai _ (.cells #[.int .i64 (-1),.int .i64 0] 147));obtain⟨s0,s1,s2⟩:=hs;go_enter Tryz.func202,Tryz.ntmps202;go_wp2_with fail;refine (xmP (P:=fun b=>b<w.heap.size) (MostI w (.slice ad xs.length cap) xs (w.heap.size+1)) (w.heap.size+1) _ xs s _ _ hI (by simp) (fun b hb=>by omega) (fun l w' h=>h.tal) (fun l w' w'' h hb=>h.later hb) fun l x w' h=>?_).mono ?_
 ·refine (xmE x (xdO l) _ w' h.c0 h.c1 h.fz).mono ?_;rintro e w'' ⟨rfl,hp⟩;refine⟨rfl,⟨h.bel.trans (hp.bel.mono (by omega)),qzE h.there hp.bel.size,h.tal.keep xbD (hp.keep.mono (fun b hb=>by omega)) (fun _ h=>h),?_,?_,hp.fz⟩,hp.keep,hp.bel.size⟩
  ·rw[xhM];exact hp.c0
  ·rw[xhM];exact hp.c1
 ·rintro e w1 ⟨rfl,hI1⟩;have k0:=hI1.c0;have k1:=hI1.c1;go_wp2
  go_quiet (fail)
  go_wp2
  go_ret2
  exact⟨rfl,below_drewN hI1.bel _⟩
def xcZ (i:QI):Bool:=i.op == 14 || i.op == 13
def xdw (m:QM):Bool:=m.prim == 0 && !m.code.any xcZ
theorem xmn (x:QI)(w:World):Calls Tryz.prog 239 #[IV x] w fun e w'=>e=.returned (.bool (xcZ x))/\Below w.heap.size w w':=by
 by_cases h:x.op=14
 ·have hd:(x.op == 14)=true:=by simpa using h
  have HS:Hid (xcZ x=true):=by show _=_;simp[xcZ,h]
  clear h;go_enter Tryz.func239,Tryz.ntmps239;go_wp2
  go_ret
  exact⟨xbg HS.out.symm,xai _ _⟩
 ·have hd:(x.op == 14)=false:=by simpa using h
  have HS:Hid (xcZ x=(x.op == 13)):=by show _=_;simp[xcZ,h]
  clear h;go_enter Tryz.func239,Tryz.ntmps239;go_wp2
  go_ret
  exact⟨xbg HS.out.symm,xai _ _⟩
theorem xmp {P:Nat->Prop}(xs:List QI)(v:Value)(w:World)(hh:xaG P w v xs) :
  Calls Tryz.prog 262 #[v,.func (.func 239) #[] #[]] w fun e w'=>e=.returned (.int .i64 (xbd xcZ xs))/\Below w.heap.size w w':=by
 obtain⟨ad,cap,rfl,hl,hcap,hby,hrow⟩:=hh;go_enter Tryz.func262,Tryz.ntmps262;go_wp2
 go_loopg [8] xs.length (fun g c wr=>∃ j:Nat,j+g=xs.length/\c=.int .i64 j/\Below w.heap.size w wr/\∀ i y,i<j->xs[i]?=some y->xcZ y=false)
 case atStart=>exact⟨0,by omega,rfl,Below.refl _ _,fun i y hi=>by omega⟩
 case round=>
  obtain⟨j,hj,rfl,hbel,hno⟩:=hrel;have HN:Hid (∀ i y,i<j->xs[i]?=some y->xcZ y=false):=hno;clear hno
  by_cases hlt:j<xs.length
  ·obtain⟨b,o,rfl,-,hv0,hv1,hv2,hv3,hv4,hsz⟩:=hrow j xs[j] (by simp[hlt])
   have hxj:Hid (xs[j]?=some xs[j]):=by show _=_;simp[hlt]
   generalize xs[j]=x at *;simp only[Nat.add_zero] at hv0;have u0:=qzA hbel hv0;have u1:=qzA hbel hv1;have u2:=qzA hbel hv2;have u3:=qzA hbel hv3;have u4:=qzA hbel hv4;clear hv0 hv1 hv2 hv3 hv4 hrow;have hj1:(j:Int)<(xs.length:Int):=by omega
   have hj0:(0:Int)<=(j:Int):=by omega
   go_wp2_with fail;refine (xmn x _).mono ?_;rintro e w1 ⟨rfl,hb⟩
   by_cases hp:xcZ x=true
   ·go_wp2
    go_ret
    exact⟨xa6 (xcp hxj.out hp HN.out).symm,xaf hbel hb⟩
   ·have hp':xcZ x=false:=by simpa using hp
    clear hp;go_wp2
    go_roundg (gk-1)
    case measure=>omega
    case rel=>
     refine⟨j+1,by omega,by go_num,xaf hbel hb,fun i y hi hy=>?_⟩
     by_cases hij:i=j
     ·subst hij;rw[hxj.out] at hy;cases hy;exact hp'
     ·exact HN.out i y (by omega) hy
  ·obtain rfl:j=xs.length:=by omega
   go_wp2
   go_ret
   exact⟨xa6 (xb8 fun i y hy=>HN.out i y (xad hy) hy).symm,hbel⟩
theorem xn8 {α:Type}(p:α->Bool)(xs:List α):decide (0<=xbd p xs)=xs.any p:=by
 unfold xbd
 cases h:xs.findIdx? p with
 | none=>
  rw[List.findIdx?_eq_none_iff] at h
  have:xs.any p=false:=by
   rw[List.any_eq_false];intro x hx
   simp[h x hx]
  simp[this]
 | some j=>
  rw[List.findIdx?_eq_some_iff_getElem] at h;obtain⟨h1,h2,-⟩:=h
  have:xs.any p=true:=by
   rw[List.any_eq_true]
   exact⟨_,List.getElem_mem h1,h2⟩
  rw[this]
  simp
theorem xjy {P:Nat->Prop}(xs:List QI)(v:Value)(w:World)(hh:xaG P w v xs) :
  Calls Tryz.prog 238 #[v,.func (.func 239) #[] #[]] w fun e w'=>e=.returned (.bool (xs.any xcZ))/\Below w.heap.size w w':=by
 go_enter Tryz.func238,Tryz.ntmps238;go_wp2_with fail;refine (xmp xs v _ hh).mono ?_;rintro e w1 ⟨rfl,hb⟩;go_wp2
 go_ret
 exact⟨xbg (xn8 xcZ xs),hb⟩
theorem xlq {P:Nat->Prop}(x:QM)(v:Value)(w:World)(hh:xaG P w v x.code):Calls Tryz.prog 198 #[MV x v] w fun e w'=>e=.returned (.bool (xdw x))/\Below w.heap.size w w':=by
 obtain⟨ad,cap,rfl,-⟩:=id hh
 by_cases h:x.prim=0
 ·have hd:(x.prim == 0)=true:=by simpa using h
  have HS:Hid (xdw x=!x.code.any xcZ):=by show _=_;simp[xdw,h]
  clear h;go_enter Tryz.func198,Tryz.ntmps198;go_wp2_with fail;refine (xjy x.code _ _ (hh.later xaU (xai _ _))).mono ?_;rintro e w1 ⟨rfl,hb⟩;go_wp2
  go_ret
  exact⟨xbg HS.out.symm,xbo (Below.refl _ _) hb⟩
 ·have hd:(x.prim == 0)=false:=by simpa using h
  have HS:Hid (xdw x=false):=by show _=_;simp[xdw,h]
  clear h;go_enter Tryz.func198,Tryz.ntmps198;go_wp2
  go_ret
  exact⟨xbg HS.out.symm,xai _ _⟩
theorem xlp {xs:List QC}{name:ByteArray}:∀ (l:List Int),0<=(xdi xs name l).2->(xdi xs name l).2=xcR (xcJ xs (xdi xs name l).1) name
 | [],h=>by simp[xdi] at h
 | k :: r,h=>by
  unfold xdi at h ⊢
  by_cases hk:0<=xcR (xcJ xs k) name
  ·rw[if_pos hk]
  ·rw[if_neg hk] at h ⊢
   exact xlp r h
theorem xjD {xs:List QC}{k:Int}{name:ByteArray}(h:0<=xcR (xcJ xs k) name):∃ (q:Nat) (x:QC),k=(q:Int)/\xs[q]?=some x/\xcJ xs k=x.mz:=by
 unfold xcJ at h ⊢
 cases hx:xa8 xs k with
 | none=>rw[hx] at h;simp[xcR,xbd] at h
 | some x=>
  obtain⟨q,rfl,hq⟩:=xa5 hx
  exact⟨q,x,rfl,hq,rfl⟩
theorem xih {xs:List QC}{name:ByteArray}:∀ {l:List Int},(∀ k∈l,0<=k)->((xdi xs name l).1<0/\(xdi xs name l).2<0)\/(0<=(xdi xs name l).1/\0<=(xdi xs name l).2)
 | [],_=>Or.inl (by simp[xdi])
 | k :: r,h=>by
  unfold xdi
  split
  ·rename_i hk
   exact Or.inr ⟨h k (by simp),hk⟩
  ·exact xih fun q hq=>h q (by simp[hq])
theorem xmA (xs:List QC)(c:Int)(name:ByteArray):((xak xs c name).1<0/\(xak xs c name).2<0)\/(0<=(xak xs c name).1/\0<=(xak xs c name).2):=by
 rw[xfS];refine xih fun k hk=>?_
 obtain⟨i,hi,rfl⟩:=List.mem_iff_getElem.1 hk;obtain⟨q,x,e,-⟩:=xgf _ _ i _ (by rw[List.getElem?_eq_getElem hi])
 rw[e];omega
theorem xmB {xs:List QC}{k:Int}{name:ByteArray}(h:0<=(xak xs k name).2):∃ (q:Nat) (x:QC) (t:Nat) (y:QM),xak xs k name=((q:Int),(t:Int))/\xs[q]?=some x/\x.mz[t]?=some y:=by
 rw[xfS] at h ⊢;generalize xnP xs (xs.length+1) k=l at *;have h1:=xlp l h;have h2:0<=xcR (xcJ xs (xdi xs name l).1) name:=by omega
 obtain⟨q,x,hq,hx,hm⟩:=xjD h2;rw[hm] at h1 h2
 rcases xch (fun m:QM=>eqN m.name name) x.mz with h3 | ⟨t,y,ht,hy,hp,-⟩
 ·have:xcR x.mz name=-1:=h3
  omega
 ·have ht':xcR x.mz name=(t:Int):=ht;refine⟨q,x,t,y,?_,hx,hy⟩;rw[ht'] at h1
  exact Prod.ext hq h1
theorem xfs (xs:List QC)(k:Int)(name:ByteArray):((xak xs k name).1<0/\(xak xs k name).2<0)\/∃ (q:Nat) (x:QC) (t:Nat) (y:QM),xak xs k name=((q:Int),(t:Int))/\xs[q]?=some x/\x.mz[t]?=some y:=by
 rcases xmA xs k name with h | h
 ·exact Or.inl h
 ·exact Or.inr (xmB h.2)
def xcO (xs:List QC)(c:Int)(name:ByteArray)(args:Int):Bool:=
 if (xak xs c name).2<0 then false else
 match (xs[(xak xs c name).1.toNat]?).bind fun x=>x.mz[(xak xs c name).2.toNat]? with
 | some m=>m.args == args && xdw m
 | none=>false
theorem xob {xs:List QC}{c:Int}{name:ByteArray}(args:Int)(h:(xak xs c name).2<0):xcO xs c name args=false:=by simp[xcO,h]
theorem xmt {xs:List QC}{c:Int}{name:ByteArray}(args:Int){q t:Nat}{x:QC}{m:QM}(h:xak xs c name=((q:Int),(t:Int)))(hx:xs[q]?=some x)(hm:x.mz[t]?=some m):xcO xs c name args=(m.args == args && xdw m):=by
 unfold xcO;rw[h]
 simp[hx,hm]
theorem xe7 {P:Nat->Prop}(X:QW)(c:Int)(name:ByteArray)(args:Int)(cv hv:Value)(w:World)(hC:xag P w cv X.cz)(hH:xav P w hv X.heap) :
  Calls Tryz.prog 203 #[WV cv hv X.ez,.int .i64 c,.string name,.int .i64 args] w fun e w'=>e=.returned (.bool (xcO X.cz c name args))/\Below w.heap.size w w':=by
 obtain⟨ad,cap,rfl,hl,hcap,hby,hrow⟩:=id hC;obtain⟨ah,ch,rfl,-,-,-,-⟩:=id hH;have hb0:=xai w (.cells #[.slice ad X.cz.length cap,.slice ah X.heap.length ch,.int .i64 X.ez] 26);have k0:(w.alloc (.cells #[.slice ad X.cz.length cap,.slice ah X.heap.length ch,.int .i64 X.ez] 26)).cell? ⟨w.heap.size,0,none⟩=some (.slice ad X.cz.length cap):=by rw[xab _ _ _ _ rfl];rfl
 go_enter Tryz.func203,Tryz.ntmps203;go_wp2_with fail;refine (xc4 X c name _ _ _ (hC.later xax (xai _ _)) (hH.later xaB (xai _ _))).mono ?_;rintro e w1 ⟨rfl,hb⟩;replace k0:=qzA hb k0;have hB:=xaf hb0 hb;clear hb0 hb
 rcases xfs X.cz c name with ⟨h1,h2⟩ | ⟨q,x,t,m,he,hx,hm⟩
 ·have HS:Hid (xcO X.cz c name args=false):=xob args h2;have hd:decide ((xak X.cz c name).1<0)=true:=by simpa using h1
  generalize xak X.cz c name=f at *;obtain⟨f1,f2⟩:=f;go_wp2
  go_ret
  exact⟨xbg HS.out.symm,hB⟩
 ·have HS:Hid (xcO X.cz c name args=(m.args == args && xdw m)):=xmt args he hx hm;rw[he];have hq:=xad hx;have ht:=xad hm;obtain⟨b,o,rfl,-,-,-,-,-,mv,hv3,hms⟩:=hrow q x hx;obtain⟨am,cm,rfl,hlm,hcm,-,hrm⟩:=hms;obtain⟨b2,o2,rfl,-,y0,y1,y2,y3,-,sv,y4,hco⟩:=hrm t m hm;obtain⟨ac,cc,rfl,-,-,-,-⟩:=id hco;simp only[Nat.add_zero] at y0;have u3:=qzA hB hv3;have z0:=qzA hB y0;have z1:=qzA hB y1;have z2:=qzA hB y2;have z3:=qzA hB y3;have z4:=qzA hB y4;have hcl:=hco.later xaU hB;unfold maxLen at hcap hcm;have hq1:(q:Int)<(X.cz.length:Int):=by omega
  have hq0:(0:Int)<=(q:Int):=by omega
  have ht1:(t:Int)<(x.mz.length:Int):=by omega
  have ht0:(0:Int)<=(t:Int):=by omega
  have hqn:decide ((q:Int)<0)=false:=by simp
  clear hrow hrm hx hm he hv3 y0 y1 y2 y3 y4 hco hC hH
  by_cases ha:m.args=args
  ·have hd:(m.args == args)=true:=by simpa using ha
   have HL:Hid (xcO X.cz c name args=xdw m):=by show _=_;rw[HS.out,hd];simp
   subst ha;clear hd HS;go_wp2_with fail;refine (xlq m _ _ (hcl.later xaU (xai _ _))).mono ?_;rintro e w2 ⟨rfl,hb2⟩;go_wp2
   go_ret
   exact⟨xbg HL.out.symm,xaf hB (xbo (Below.refl _ _) hb2)⟩
  ·have hd:(m.args == args)=false:=by simpa using ha
   have HL:Hid (xcO X.cz c name args=false):=by show _=_;rw[HS.out,hd];simp
   clear HS ha;go_wp2
   go_ret
   exact⟨xbg HL.out.symm,xaf hB (xai _ _)⟩
theorem xoV (ls:List QL):0<=(xdO ls).found:=by
 have:∀ (l:List QL) (p:QL),0<=p.found->0<=(l.foldl xbP p).found:=by
  intro l
  induction l with
  | nil=>exact fun p h=>h
  | cons x r ih=>
   intro p h;refine ih _ ?_;unfold xbP
   split<;>omega
 exact this ls _ (by simp)
theorem xmV (ls:List QL):-9223372036854775808<=xeo ls/\xeo ls<9223372036854775808:=by
 rcases List.eq_nil_or_concat ls with rfl | ⟨r,x,rfl⟩
 ·simp[xeo]
 ·rw[List.concat_eq_append,xju];unfold wrap64;omega
theorem xnc {a n:Int}(h2:¬ a<2)(hi:a<9223372036854775808):n<=wrap64 (a.tdiv 2) ↔ n+n<=a:=by
 rw[Int.tdiv_eq_ediv_of_nonneg (by omega)]
 unfold wrap64
 omega
def xhz (X:QW)(t:List QT)(s:QS)(name:ByteArray)(args:Int):Int:=
 if xeo (xaJ t s)<2\/(xdO (xaJ t s)).found+(xdO (xaJ t s)).found<=xeo (xaJ t s)\/xcO X.cz (xdO (xaJ t s)).cls name args=false then -1 else (xdO (xaJ t s)).cls
structure SiteB (w:World)(ad:Option Addr)(n cap:Nat)(ah:Option Addr)(nh ch:Nat)(ep:Int)(b:Nat)(s:QS)(w':World):Prop where
 k0:w'.cell? ⟨b,0,none⟩=some (.slice ad n cap)
 k1:w'.cell? ⟨b,1,none⟩=some (.slice ah nh ch)
 k2:w'.cell? ⟨b,2,none⟩=some (.int .i64 ep)
 s:SiteAt w' (b+1) s
 bel:Below w.heap.size w w'
theorem SiteB.later {w:World}{ad:Option Addr}{n cap:Nat}{ah:Option Addr}{nh ch:Nat}{ep:Int}{b:Nat}{s:QS}{w' w'':World}(h:SiteB w ad n cap ah nh ch ep b s w')(hb:Below w'.heap.size w' w''):SiteB w ad n cap ah nh ch ep b s w'':=
 ⟨qzA hb h.k0,qzA hb h.k1,qzA hb h.k2,h.s.later hb,xaf h.bel hb⟩
theorem xoB (w:World)(ad:Option Addr)(n cap:Nat)(ah:Option Addr)(nh ch:Nat)(ep:Int)(s:QS):SiteB w ad n cap ah nh ch ep w.heap.size s ((w.alloc (.cells #[.slice ad n cap,.slice ah nh ch,.int .i64 ep] 26)).alloc (.cells #[.int .i64 s.cls,.string s.name,.int .i64 s.at'] 105)):=by
 refine⟨?_,?_,?_,?_,xbp _ _ _⟩
 ·exact qzA (xai _ _) (by rw[xab _ _ _ _ rfl];rfl)
 ·exact qzA (xai _ _) (by rw[xab _ _ _ _ rfl];rfl)
 ·exact qzA (xai _ _) (by rw[xab _ _ _ _ rfl];rfl)
 ·have:=xc7 (w.alloc (.cells #[.slice ad n cap,.slice ah nh ch,.int .i64 ep] 26)) s 105
  simpa using this
theorem xm7 {P P2:Nat->Prop}(X:QW)(t:List QT)(s:QS)(name:ByteArray)(args:Int)(cv hv tv:Value)(w:World)(hC:xag P w cv X.cz)(hH:xav P w hv X.heap)(hT:xaI P2 w tv t) :
  Calls Tryz.prog 158 #[WV cv hv X.ez,tv,SV s,.string name,.int .i64 args] w fun e w'=>e=.returned (.int .i64 (xhz X t s name args))/\Below w.heap.size w w':=by
 obtain⟨ad,cap,rfl,-⟩:=id hC;obtain⟨ah,ch,rfl,-⟩:=id hH;have hB:=xoB w ad X.cz.length cap ah X.heap.length ch X.ez s;go_enter Tryz.func158,Tryz.ntmps158
 go_upto_region 1 with (fail)
 generalize (w.alloc (.cells #[.slice ad X.cz.length cap,.slice ah X.heap.length ch,.int .i64 X.ez] 26)).alloc (.cells #[.int .i64 s.cls,.string s.name,.int .i64 s.at'] 105)=W0 at *;have hT0:=hT.later xbD hB.bel;have hC0:=hC.later xax hB.bel;have hH0:=hH.later xaB hB.bel;obtain⟨s0,s1,s2⟩:=hB.s;go_wp2_with fail;refine (xqY t s _ _ hT0).mono ?_;rintro e w1 ⟨rfl,hb1⟩;replace hB:=hB.later hb1;replace hT0:=hT0.later xbD hb1;clear hb1 s0 s1 s2;obtain⟨s0,s1,s2⟩:=hB.s;go_wp2_with fail;refine (xo4 t s _ _ hT0).mono ?_;rintro e w2 ⟨rfl,hb2⟩;replace hB:=hB.later hb2;clear hb2 s0 s1 s2 hT0;have HE:Hid (xhz X t s name args=if xeo (xaJ t s)<2\/(xdO (xaJ t s)).found+(xdO (xaJ t s)).found<=xeo (xaJ t s)\/xcO X.cz (xdO (xaJ t s)).cls name args=false then -1 else (xdO (xaJ t s)).cls):=rfl
 have hhi:=(xmV (xaJ t s)).2;have hlow:=xoV (xaJ t s);generalize xeo (xaJ t s)=a at *;generalize xdO (xaJ t s)=p at *;obtain⟨pc,pn⟩:=p;simp only at *;have hC2:=hC.later xax hB.bel;have hH2:=hH.later xaB hB.bel;clear hT hC0 hH0;obtain⟨k0,k1,k2,-,hbel⟩:=hB
 by_cases h1:a<2
 ·have hd:decide (a<2)=true:=by simpa using h1
  have HR:Hid (xhz X t s name args=-1):=by show _=_;rw[HE.out,if_pos (Or.inl h1)]
  clear HE;go_wp2
  go_ret
  exact⟨xa6 HR.out.symm,hbel⟩
 ·have hd:decide (a<2)=false:=by simpa using h1
  by_cases h2:pn+pn<=a
  ·have hd2:decide (pn<=wrap64 (a.tdiv 2))=true:=by simpa using (xnc h1 hhi).2 h2
   have HR:Hid (xhz X t s name args=-1):=by show _=_;rw[HE.out,if_pos (Or.inr (Or.inl h2))]
   clear HE h1 h2;go_wp2
   go_ret
   exact⟨xa6 HR.out.symm,hbel⟩
  ·have hd2:decide (pn<=wrap64 (a.tdiv 2))=false:=by
    have:=fun h=>h2 ((xnc h1 hhi).1 h)
    simpa using this
   cases hlf:xcO X.cz pc name args
   ·have HR:Hid (xhz X t s name args=-1):=by show _=_;rw[HE.out,if_pos (Or.inr (Or.inr hlf))]
    have HL:Hid (xcO X.cz pc name args=false):=hlf;clear HE h1 h2 hlf;go_wp2_with fail;refine (xe7 X pc name args _ _ _ hC2 hH2).mono ?_;rintro e w3 ⟨rfl,hb3⟩;rw[HL.out];go_wp2
    go_ret
    exact⟨xa6 HR.out.symm,xaf hbel hb3⟩
   ·have HR:Hid (xhz X t s name args=pc):=by show _=_;rw[HE.out,if_neg (by simp[h1,h2,hlf])]
    have HL:Hid (xcO X.cz pc name args=true):=hlf;clear HE h1 h2 hlf;go_wp2_with fail;refine (xe7 X pc name args _ _ _ hC2 hH2).mono ?_;rintro e w3 ⟨rfl,hb3⟩;rw[HL.out];go_wp2
    go_ret
    exact⟨xa6 HR.out.symm,xaf hbel hb3⟩
end Go.Proofs.YtbafokihegegiaaGreatDoor
