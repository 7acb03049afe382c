/- A part. -/
import Derived.Test.YtbafokihegegiaaGreatDoorT11
import Derived.Lib.AtoiAll
import Derived.Lib.AtoiAllCases
import Derived.Lib.ItoaMem
import Derived.Laws.Strings
namespace Go.Proofs.YtbafokihegegiaaGreatDoor
open Go.ChangeShapes Go.WideShapes Go.ChangeAt Go.RowKit
set_option linter.unusedSimpArgs false
set_option linter.unusedVariables false
set_option maxHeartbeats 8000000
set_option maxRecDepth 8000
def PlPost (w:qW)(X:QW)(r:Ran)(e:Ending)(w':qW):Prop:=
 qY w w'/\∃cv hv,e=.returned (.tuple #[WV cv hv X.ez,Hh r])/\BK (λb=>w.heap.size<=b) w' cv X.cz/\BP (λb=>w.heap.size<=b) w' hv r.heap
theorem WiPost.plain {σ:Type}{L:(Nat->Nat)->World->σ->Nat->Prop}{w w':qW}{X:QW}{r:Ran × σ}{e:Ending}(h:WiPost L (λ_=>0) w X r e w'):PlPost w X r.1 e w':=by
 obtain⟨d,T',-,-,cv,hv,rfl,a,c⟩:=h;exact⟨d.below (λb _=>by omega) (Bq _),cv,hv,rfl,a.mono Bw λb h=>h.1,c.mono BB λb h=>h.1⟩
theorem PlPost.fin {w U:qW}{X:QW}{r:Ran}{cv hv:Value}{P:Nat->Prop}(e:qY w U)(d:BK P U cv X.cz)(f:BP P U hv r.heap)(b:¬ P (w.heap.size+2))(a:¬ P (w.heap.size+3))(c:∀x,P x->w.heap.size<=x)(u0 u1 u2 v0 v1 v2 v3:Value) :
  PlPost w X r (.returned (.tuple #[WV cv hv X.ez,Hh r])) (((((((U.setCell (O (w.heap.size+2) 0) u0).setCell (O (w.heap.size+2) 1) u1).setCell (O (w.heap.size+2) 2) u2).setCell (O (w.heap.size+3) 0) v0).setCell (O (w.heap.size+3) 1) v1).setCell (O (w.heap.size+3) 2) v2).setCell (O (w.heap.size+3) 3) v3):=by
 have k:Keeps P U (((((((U.setCell (O (w.heap.size+2) 0) u0).setCell (O (w.heap.size+2) 1) u1).setCell (O (w.heap.size+2) 2) u2).setCell (O (w.heap.size+3) 0) v0).setCell (O (w.heap.size+3) 1) v1).setCell (O (w.heap.size+3) 2) v2).setCell (O (w.heap.size+3) 3) v3):=CK (CK (CK (CK (CK (CK (CK (Keeps.refl _ _) b _) b _) b _) a _) a _) a _) a _;refine⟨((((((e.setCell (by simp) _).setCell (by simp) _).setCell (by simp) _).setCell (by simp) _).setCell (by simp) _).setCell (by simp) _).setCell (by simp) _,cv,hv,rfl,d.keep Bw k c,f.keep BB k c⟩
structure PnR (w:qW)(cv hv:Value)(ep:Int)(s:QV)(name:ByteArray)(av:Value)(w':qW):Prop where
 w0:w'.cell? (O w.heap.size 0)=some cv
 w1:w'.cell? (O w.heap.size 1)=some hv
 w2:w'.cell? (O w.heap.size 2)=some (J ep)
 c0:w'.cell? (O (w.heap.size+1) 0)=some (J s.k)
 c1:w'.cell? (O (w.heap.size+1) 1)=some (J s.n)
 c2:w'.cell? (O (w.heap.size+1) 2)=some (qZ name)
 c3:w'.cell? (O (w.heap.size+1) 3)=some av
theorem PnR.set {w:qW}{cv hv:Value}{ep:Int}{s:QV}{name:ByteArray}{av:Value}{w':qW}(h:PnR w cv hv ep s name av w'){b:Nat}(a:b=w.heap.size+2\/b=w.heap.size+3)(o:Nat)(u:Value):PnR w cv hv ep s name av (w'.setCell (O b o) u):=
 ⟨(BV _ _ _ _ (by simp;omega)).trans h.w0,(BV _ _ _ _ (by simp;omega)).trans h.w1,(BV _ _ _ _ (by simp;omega)).trans h.w2,(BV _ _ _ _ (by simp;omega)).trans h.c0,(BV _ _ _ _ (by simp;omega)).trans h.c1,(BV _ _ _ _ (by simp;omega)).trans h.c2,(BV _ _ _ _ (by simp;omega)).trans h.c3⟩
theorem PnR.al {w:qW}{cv hv:Value}{ep:Int}{s:QV}{name:ByteArray}{av:Value}{w':qW}(h:PnR w cv hv ep s name av w'):w'.cell? (O w.heap.size 0)=some cv/\w'.cell? (O w.heap.size 1)=some hv/\w'.cell? (O w.heap.size 2)=some (J ep)/\w'.cell? (O (w.heap.size+1) 0)=some (J s.k)/\w'.cell? (O (w.heap.size+1) 1)=some (J s.n)/\w'.cell? (O (w.heap.size+1) 2)=some (qZ name)/\w'.cell? (O (w.heap.size+1) 3)=some av:=⟨h.w0,h.w1,h.w2,h.c0,h.c1,h.c2,h.c3⟩
theorem WtR.pn {w:qW}{cv hv:Value}{ep:Int}{s:QV}{name:ByteArray}{av:Value}{w':qW}(h:WtR w cv hv ep s name av w'):PnR w cv hv ep s name av w':=⟨h.w0,h.w1,h.w2,h.c0,h.c1,h.c2,h.c3⟩
theorem xmG (cv hv:Value)(ep:Int)(w:qW)(b:∃a n c,cv=qS a n c)(d:∃a n c,hv=qS a n c):Calls Tryz.prog 109 #[WV cv hv ep] w λe w'=>e=.returned (.func (.func 141) #[] #[qP w.heap.size])/\w'.cell? (O w.heap.size 0)=some cv/\w'.cell? (O w.heap.size 1)=some hv/\w'.cell? (O w.heap.size 2)=some (J ep)/\w.heap.size<w'.heap.size/\qY w w':=by
 obtain⟨a,n,c,rfl⟩:=b;obtain⟨a2,n2,c2,rfl⟩:=d;go_enter Tryz.func109,Tryz.ntmps109;go_wp2;go_ret;exact⟨rfl,Bp _ _ _ _ rfl 0,Bp _ _ _ _ rfl 1,Bp _ _ _ _ rfl 2,by simp,Bg _ _⟩
theorem PM (X:QW)(b:Nat)(cv hv:Value):Lok (LkP X b cv hv):=⟨λh e k a _=>h.keep e k a,λh _=>⟨h.tag,h.lt,h.w0,h.w1,h.w2,h.cls,h.heap⟩⟩
theorem xpX {X:QW}(f:BM X=0){fuel:Int}(g:fuel<=400)(b:Nat)(cv hv a:Value):Cx (⟨Ht X fuel,a,X.ez,.func (.func 141) #[] #[qP b],.func (.func 110) #[] #[]⟩:Mp Unit) (LkP X b cv hv) 141 #[qP b] 110 #[] where
 lv:=rfl
 qv:=rfl
 lcf:=Pg Tryz.func141 (by kernel_rfl) (by kernel_rfl)
 qcf:=Pg Tryz.func110 (by kernel_rfl) (by kernel_rfl)
 ok:=xiV f fuel _
 fuel:=by show fuel<=_;omega
 keep h e k h0 h3:=h.keep e k h0
 mono h hn:=(PM X b cv hv).mono h hn
 look T w st s c name n h:=(xkx h s c name).mono λe w' d=>⟨d.1,⟨T,.refl _ _,(PM X b cv hv).mono (h.keep (T':=T) (.refl _ _) (Kp.of_below (S:=λ_=>False) d.2) id) (Nat.le_succ n)⟩,Kp.of_below d.2⟩
 quick T w st c k mt n _ _:=xio (λ_ _=>rfl) T w st c k mt n
 few c k mt hm:=⟨by have:=xgI f hm;omega,λq h=>by cases h⟩
theorem xrT {P Q:Nat->Prop}(X:QW)(d:BM X=0)(s:QV)(name:ByteArray)(a:List QV)(fuel:Int)(cv hv av:Value)(w:qW)(j:BK P w cv X.cz)(l:BP P w hv X.heap)(k:CG Q w av a)(i:name.size<=140737488351232)(b:Nat)(f:b<w.heap.size)(f0:w.cell? (O b 0)=some cv)(f1:w.cell? (O b 1)=some hv)(f2:w.cell? (O b 2)=some (J X.ez)) :
  Calls Tryz.prog 108 #[WV cv hv X.ez,EL s name av,J fuel,.func (.func 141) #[] #[qP b],.func (.func 110) #[] #[]] w λe w'=>PlPost w X (Dz X s name a fuel) e w':=by
 have k3:BK (Fx (λ_=>0) w) w cv X.cz:=(xdx j).keep Bw (Keeps.refl _ _) λb c=>⟨c,rfl⟩
 have k4:BP (Fx (λ_=>0) w) w hv X.heap:=(xfO l).keep BB (Keeps.refl _ _) λb c=>⟨c,rfl⟩
 rw[← xef];exact (xiL (T0:=λ_=>0) X d (Ht X fuel) () rfl s name a cv hv av w (λ_ _=>.inl rfl) k3 k4 ((xek k).keep BZ (Keeps.refl _ _) λb c=>⟨c,rfl⟩) i (PM X b cv hv) ⟨rfl,f,f0,f1,f2,k3,k4⟩ (λ_ g cv'=>xpX d g b cv hv cv')).mono λe w' h=>h.plain
theorem xnC {P Q:Nat->Prop}(X:QW)(L:BM X=0)(s:QV)(name:ByteArray)(a:List QV)(fuel:Int)(cv hv av:Value)(w:qW)(G:BK P w cv X.cz)(F:BP P w hv X.heap)(C:CG Q w av a)(M:name.size<=140737488351232) :
  Calls Tryz.prog 84 #[WV cv hv X.ez,EL s name av,J fuel] w λe w'=>PlPost w X (Dz X s name a fuel) e w':=by
 have K:=(xkJ w cv hv X.ez s name av).later (Br _ _).drew;have y:qY w ((((w.alloc (qC #[cv,hv,J X.ez] 26)).alloc (qC #[J s.k,J s.n,qZ name,av] 54)).alloc (qO)).alloc (qC #[J 0,J 0,J 0,J 0] 98)).drew:=(Bh (BG _ _ _) (BG _ _ _)).drew;obtain⟨ac,cc,rfl,-,-,l,-⟩:=id G;obtain⟨ah,ch,rfl,-,-,h,-⟩:=id F;obtain⟨aa,ca,rfl,-⟩:=id C;go_enter Tryz.func84,Tryz.ntmps84;go_upto_region 1 with (fail);generalize ((((w.alloc (qA ac cc ah ch X)).alloc (qK s name aa a ca)).alloc (qO)).alloc (qC #[J 0,J 0,J 0,J 0] 98))=W at *;have B:=K.pn;have u:=xmG (qS ac X.cz.length cc) (qS ah X.heap.length ch) X.ez W.drew ⟨_,_,_,rfl⟩ ⟨_,_,_,rfl⟩;have q:=λ(w':qW) (hb:qY w w') (b:Nat) (h1:b<w'.heap.size) h2 h3 h4=>xrT X L s name a fuel _ _ _ w' (G.later Bw hb) (F.later BB hb) (C.later BZ hb) M b h1 h2 h3 h4;obtain⟨r,D⟩:∃r,Dz X s name a fuel=r:=⟨_,rfl⟩;rw[D] at q;have z:=hid D;clear G F C D;simp only[Nat.add_assoc,Nat.reduceAdd] at *;have tokA:True:=trivial
 go_region_held3 (λw'=>w'.cell? (O w.heap.size 0)=some (qS ac X.cz.length cc)/\w'.cell? (O w.heap.size 1)=some (qS ah X.heap.length ch)/\w'.cell? (O w.heap.size 2)=some (J X.ez)/\w'.cell? (O (w.heap.size+1) 0)=some (J s.k)/\w'.cell? (O (w.heap.size+1) 1)=some (J s.n)/\w'.cell? (O (w.heap.size+1) 2)=some (qZ name)/\w'.cell? (O (w.heap.size+1) 3)=some (qS aa a.length ca))
  (first | with_reducible exact B.al | with_reducible exact H.al | with_reducible exact o.al | with_reducible exact (((o.set (Or.inl rfl) _ _).set (Or.inl rfl) _ _).set (Or.inl rfl) _ _).al | with_reducible exact (((((((o.set (Or.inl rfl) _ _).set (Or.inl rfl) _ _).set (Or.inl rfl) _ _).set (Or.inr rfl) _ _).set (Or.inr rfl) _ _).set (Or.inr rfl) _ _).set (Or.inr rfl) _ _).al | with_reducible exact ((((o.set (Or.inr rfl) _ _).set (Or.inr rfl) _ _).set (Or.inr rfl) _ _).set (Or.inr rfl) _ _).al)
  (first
   | (have _t:=tokA;go_at_call 109;refine u.mono ?_;rintro e w2 ⟨rfl,f0,f1,f2,fz,f⟩;have m:=K.later f;have H:=m.pn;have p:=Bh y f;clear tokA;have tokB:True:=trivial)
   | (have _t:=tokB;go_at_call 108;refine (q _ p _ fz f0 f1 f2).mono ?_;rintro e w3 ⟨g,j,i,rfl,d,c⟩;have t:=m.later g;have o:=t.pn;have N:=hid (λu0 u1 u2 v0 v1 v2 v3=>PlPost.fin (r:=r) (X:=X) (P:=λb=>w2.heap.size<=b) (Bh p g) d c (by have:=m.sz;omega) (by have:=m.sz;omega) (λx R=>by have:=m.sz;omega) u0 u1 u2 v0 v1 v2 v3);obtain⟨a3,k3,rfl,-⟩:=id d;obtain⟨a4,k4,rfl,-⟩:=id c;obtain⟨-,-,-,-,-,-,-,a0,a1,a2,af,b0,b1,b2,b3,bf,-⟩:=id t;clear d c))
 all_goals (
  go_wp2;rw[z.out];refine Bt (v:=.tuple #[WV (qS a3 X.cz.length k3) (qS a4 r.heap.length k4) X.ez,Hh r]) ?_ rfl (N.out _ _ _ _ _ _ _);simp[results,Tryz.results84,go_sem,a0,a1,a2,b0,b1,b2,b3])
def Pd (xs:List QC):Prop:=∀(i:Nat) x,xs[i]?=some x->x.super<(i:Int)
theorem xfx {X:QW}(h:BM X=0):Pd X.cz:=λi x e=>by
 obtain⟨-,g,-,-⟩:=Gx h;have a:=g i x (Bz e) e;unfold CY at a;split at a
 ·cases a
 cases b:xo1[i]? with
 | none=>
  rw[b] at a;simp only at a;have d:4<=i:=by rw[List.getElem?_eq_none_iff] at b;simpa [xo1] using b
  split at a
  ·cases a
  split at a
  ·cases a
  rename_i _ j;simp[Dj] at j;omega
 | some y=>
  rw[b] at a;simp only at a;split at a
  ·cases a
  split at a
  ·cases a
  split at a
  ·cases a
  rename_i f;have c:x.super=y.super:=by simpa using f
  rw[c];have d:=Bz b;have:i=0\/i=1\/i=2\/i=3:=by simp[xo1] at d;omega
  rcases this with rfl | rfl | rfl | rfl<;>(simp[xo1] at b;subst b;simp)
theorem xiy {σ:Type}{b a:σ->Nat->QC->σ × Bool}{xs ys:List QC}(n:Pd xs)(m:∀(i:Nat) x,xs[i]?=some x->∃y,ys[i]?=some y/\y.super=x.super/\∀s,a s i y=b s i x):∀(N:Nat) (c:Int) (g g':Nat) (s:σ),c<N->c<xs.length->c.toNat<g->c.toNat<g'->Df a ys g' c s=Df b xs g c s
 | 0,c,g+1,g'+1,s,hN,hl,hg,hg'=>by
  have h:Cy xs c=none:=by simp[Cy];omega
  have j:Cy ys c=none:=by simp[Cy];omega
  unfold Df;rw[h,j]
 | N+1,c,g+1,g'+1,s,hN,hl,hg,hg'=>by
  by_cases hc:c<0
  ·have h:Cy xs c=none:=by simp[Cy];omega
   have j:Cy ys c=none:=by simp[Cy];omega
   unfold Df;rw[h,j]
  obtain⟨k,rfl⟩:∃k:Nat,c=(k:Int):=⟨c.toNat,by omega⟩
  obtain⟨x,l⟩:∃x,xs[k]?=some x:=⟨_,List.getElem?_eq_getElem (by omega)⟩
  obtain⟨y,e,d,f⟩:=m k x l;have o:=n k x l;unfold Df;rw[Mv,Mv,l,e];simp only[Int.toNat_natCast];rw[f,d];by_cases hv:(b s k x).2=true
  ·rw[if_pos hv,if_pos hv];by_cases h0:x.super<0
   ·have h:Cy xs x.super=none:=by simp[Cy];omega
    have j:Cy ys x.super=none:=by simp[Cy];omega
    cases g<;>cases g'<;>unfold Df<;>simp only[h,j]
   ·exact xiy n m N x.super g g' _ (by omega) (by omega) (by omega) (by omega)
  rw[if_neg hv,if_neg hv]
theorem xqi {σ:Type}(a:σ->Nat->QC->σ × Bool){xs:List QC}(e:Pd xs)(z:List QC){c:Int}(d:c<xs.length)(s:σ):Df a (xs++z) ((xs++z).length+1) c s=Df a xs (xs.length+1) c s:=
 xiy e (λi x b=>⟨x,by rw[List.getElem?_append_left (Bz b)];exact b,rfl,λ_=>rfl⟩) xs.length c _ _ s d d (by omega) (by rw[List.length_append];omega)
theorem xhN {xs:List QC}(a:Pd xs)(z:List QC){c:Int}(b:c<xs.length):Cs (xs++z) c=Cs xs c:=xqi Kt a z b 0
theorem xjY {xs:List QC}(a:Pd xs)(z:List QC){c:Int}(b:c<xs.length)(nm:ByteArray):BF (xs++z) c nm=BF xs c nm:=xqi (Kr nm) a z b (-1,-1)
theorem xna {S n n':Int}{m:QM}{x:QI}(h:DD S n m x=0)(d:n<=n'):DD S n' m x=0:=by
 unfold DD at h ⊢;split at h
 ·cases h
 rename_i b;rw[if_neg b];split at h
 ·cases h
 rename_i c
 have:Ew S n' m x=true:=by
  have a:Ew S n m x=true:=by simpa using c
  unfold Ew at a ⊢
  repeat' split at a
  all_goals try (rename_i k;simp only[k,if_true,if_false];try exact a)
  all_goals (simp[*] at a ⊢;try (simp[Cj] at a ⊢);try omega)
 rw[if_neg (by simp[this])];exact h
theorem xmX {S n n' c:Int}{m:QM}(h:(Em S n c m).1=0)(e:n<=n'):(Em S n' c m).1=0:=by
 unfold Em at h ⊢;by_cases hw:DF n c m=0
 ·have b:DF n' c m=0:=by
   unfold DF at hw ⊢;split at hw
   ·cases hw
   rename_i d;have:Cj c 0 (n'-1)=true:=by simp[Cj] at d ⊢;omega
   rw[if_neg (by simp[this])];exact hw
  rw[if_neg (by simp[hw])] at h;rw[if_neg (by simp[b])]
  cases a:FX (DD S n m) 0 m.code with
  | some f=>rw[a] at h;exact absurd h (xge a)
  | none=>
   rw[a] at h;rw[xgs λi y g=>xna (PR a y (List.mem_of_getElem? g)) e];exact h
 rw[if_pos hw] at h;exact absurd h hw
theorem xlY {X:QW}(b:SizeOk X)(c:∀i x,X.cz[i]?=some x->CY X.cz i x=0)(d:∀i x,X.cz[i]?=some x->Dm X i x=0)(f:HOk X.cz X.heap):BM X=0:=by
 refine xiv b (λi x _ a=>c i x a) (λi x _ a=>d i x a) λi o g e=>?_;obtain⟨e1,e2,e3⟩:=f.obj o (List.mem_of_getElem? e);unfold Ev;rw[if_neg (by simp[e1,e2])];exact KL λk v hv=>e3 v (List.mem_of_getElem? hv)
theorem xq3 {X:QW}{k:Nat}{x:QC}(h:Dm X k x=0):Cs X.cz k<=6/\x.mz.length<=8/\∀(i:Nat) m,x.mz[i]?=some m->Dn X k x.mz i m=0:=by
 unfold Dm at h;split at h
 ·cases h
 split at h
 ·cases h
 exact⟨by omega,by omega,λi m a=>Hm h i m a⟩
theorem xo6 {X:QW}{k:Nat}{x:QC}(b:Cs X.cz k<=6)(c:x.mz.length<=8)(a:∀(i:Nat) m,x.mz[i]?=some m->Dn X k x.mz i m=0):Dm X k x=0:=by
 unfold Dm;rw[if_neg (by omega),if_neg (by omega)];exact KL a
theorem xis {X:QW}{k:Nat}{ms:List QM}(h:∀(i:Nat) m,ms[i]?=some m->Dn X k ms i m=0):xlo ms:=λi a b d e=>by
 have:=h (i+1) b e;unfold Dn at this;split at this
 ·cases this
 rename_i c;simp only[GW,d] at c;simpa using c
def mOk (S:Int)(n:Nat)(k:Nat)(m:QM):Prop:=Ft k m=true\/(Em S n k m).1=0
theorem xri {X:QW}{k:Nat}{ms:List QM}{i:Nat}{m:QM}(h:Dn X k ms i m=0):mOk (Cs X.cz k) X.cz.length k m:=by
 unfold Dn at h;split at h
 ·cases h
 split at h
 ·rename_i a;exact Or.inl a
 exact Or.inr h
theorem xqJ {X:QW}{k:Nat}{ms:List QM}{i:Nat}{m:QM}(c:xlo ms)(a:ms[i]?=some m)(h:mOk (Cs X.cz k) X.cz.length k m):Dn X k ms i m=0:=by
 have d:GW ms i m=true:=by
  cases i with
  | zero=>rfl
  | succ i=>
   obtain⟨p,b⟩:∃p,ms[i]?=some p:=⟨_,List.getElem?_eq_getElem (by have:=Bz a;omega)⟩
   simp only[GW,b];exact c i p m b a
 unfold Dn;rw[if_neg (by simp[d])];rcases h with h | h
 ·rw[if_pos h]
 split
 ·rfl
 exact h
theorem xmY {X:QW}(h:BM X=0){name:ByteArray}{super slots:Int}(u:EF X.cz name super slots=0):BM (DZ X name super slots)=0:=by
 obtain⟨z,Y,hM,-⟩:=Gx h;have W:=Pp h;have Q:=xfx h;have F:=xdt h super;unfold EF at u;split at u
 ·cases u
 rename_i U;split at u
 ·cases u
 rename_i T;split at u
 ·cases u
 rename_i f;split at u
 ·cases u
 rename_i hl;simp only[not_or,Bool.not_eq_true,Bool.not_eq_false,Int.not_lt] at U f T;obtain⟨l,a⟩:=U;obtain⟨b,n,k⟩:=f;have D:0<=super/\super<X.cz.length:=by simpa [Dg] using T
 have hp:super=0\/4<=super:=by simp[ML] at k;omega
 have q:(DZ X name super slots).cz.length=X.cz.length+1:=by simp[DZ]
 have r:(DZ X name super slots).cz=X.cz++[⟨name,super,slots,[]⟩]:=rfl
 have G:∀i x,X.cz[i]?=some x->CY (DZ X name super slots).cz i x=0:=λi x p=>by
  have:=Y i x (Bz p) p
  have e:Gh (DZ X name super slots).cz i x.name=Gh X.cz i x.name:=by
   unfold Gh;rw[r,List.take_append_of_le_length (by have:=Bz p;omega)]
  unfold CY at this ⊢;rw[e];exact this
 refine xlY ⟨by rw[q];have:=z.few;omega,by rw[q];omega,z.heap,z.ep0,z.ep1⟩ (λi x p=>?_) (λi x p=>?_) ⟨z.heap,λo V=>?_⟩
 ·rw[r] at p;by_cases v:i<X.cz.length
  ·rw[List.getElem?_append_left v] at p;exact G i x p
  have B:i=X.cz.length:=by have:=Bz p;simp at this;omega
  subst B;rw[List.getElem?_append_right (Bq _)] at p;simp at p;subst p;have Z:xo1[X.cz.length]?=none:=by rw[List.getElem?_eq_none_iff];have:=z.few;simpa [xo1] using this
  unfold CY;simp only;rw[if_neg (by simp[l]),Z];simp only
  have H:Gh (DZ X name super slots).cz X.cz.length name=false:=xro λi d v H=>by
   rw[r,List.getElem?_append_left v] at H
   cases B:CD d.name name with
   | false=>rfl
   | true=>
    exfalso;simp only[NC,decide_eq_false_iff_not] at a
    apply a
    unfold CB
    cases S:X.cz.findIdx? λm=>CD m.name name with
    | some j=>simp
    | none=>
     rw[List.findIdx?_eq_none_iff] at S;have:=S d (List.mem_of_getElem? H);rw[B] at this
     cases this
  rw[if_neg (by simp[H]),if_neg (by simp[Dj];omega),if_neg (by have:=F.2;omega)]
 ·rw[r] at p;by_cases v:i<X.cz.length
  ·rw[List.getElem?_append_left v] at p;obtain⟨r1,r2,r3⟩:=xq3 (hM i x v p);have es:Cs (DZ X name super slots).cz i=Cs X.cz i:=xhN Q _ (by omega);refine xo6 (by rw[es];exact r1) r2 λj m K=>xqJ (xis r3) K ?_;rw[es,q];rcases xri (r3 j m K) with h | h
   ·exact Or.inl h
   exact Or.inr (xmX h (by omega))
  have B:i=X.cz.length:=by have:=Bz p;simp at this;omega
  subst B;rw[List.getElem?_append_right (Bq _)] at p;simp at p;subst p;refine xo6 ?_ (by simp) λj m K=>by simp at K
  have e1:Cs (DZ X name super slots).cz ((X.cz.length:Nat):Int)=Df Kt (DZ X name super slots).cz (X.cz.length+1) super (IntKind.i64.wrap (0+slots)):=by
   unfold Cs;rw[q]
   conv=>lhs;unfold Df
   rw[Mv,r,List.getElem?_append_right (Bq _)];simp[Kt]
  have N:slots<=6:=by have:=F.2;omega
  have R:IntKind.i64.wrap (0+slots)=slots:=by rw[Int.zero_add];exact CM (by omega) (by omega)
  have M:Hj (X.cz++[⟨name,super,slots,[]⟩]):=λi y C=>by
   by_cases v:i<X.cz.length
   ·rw[List.getElem?_append_left v] at C;exact PY h i y C
   have B:i=X.cz.length:=by have:=Bz C;simp at this;omega
   subst B;rw[List.getElem?_append_right (Bq _)] at C;simp at C;subst C;exact⟨b,N⟩
  have L:=z.many;rw[e1,R,r,xgY M (by simp;omega) _ _ _ b (by omega)]
  have e2:Df Hy (X.cz++[⟨name,super,slots,[]⟩]) (X.cz.length+1) super slots=slots+DY X.cz super:=by
   have e3:Df Hy (X.cz++[⟨name,super,slots,[]⟩]) (X.cz.length+1) super slots=Df Hy X.cz (X.cz.length+1) super slots:=xiy Q (λi x p=>⟨x,by rw[List.getElem?_append_left (Bz p)];exact p,rfl,λ_=>rfl⟩) X.cz.length super _ _ _ D.2 D.2 (by omega) (by omega);rw[e3]
   have e4:∀(g:Nat) (c s t:Int),Df Hy X.cz g c (s+t)=s+Df Hy X.cz g c t:=λg=>by
    induction g with
    | zero=>intro c s t;rfl
    | succ g ih=>
     intro c s t;unfold Df
     cases Cy X.cz c with
     | none=>rfl
     | some x=>
      simp only[Hy,if_true];rw[Int.add_assoc];exact ih _ _ _
   have:=e4 (X.cz.length+1) super slots 0;rw[Int.add_zero] at this;rw[this];rfl
  rw[e2];omega
 obtain⟨o1,o2,o3⟩:=W.obj o V;refine⟨by rw[q];simp[Dj] at o1 ⊢;omega,?_,o3⟩;rw[o2,r,xhN Q _ (by simp[Dj] at o1;omega)]
theorem xfK {α:Type}{p:α->Bool}{xs:List α}(h:0<=CB p xs):∃x,xs[(CB p xs).toNat]?=some x/\p x=true/\∀i y,i<(CB p xs).toNat->xs[i]?=some y->p y=false:=by
 unfold CB at h ⊢
 cases b:xs.findIdx? p with
 | none=>rw[b] at h;simp at h
 | some j=>
  simp only[Option.map_some,Option.getD_some,Int.ofNat_eq_natCast,Int.toNat_natCast];rw[List.findIdx?_eq_some_iff_getElem] at b;obtain⟨e,d,g⟩:=b;refine⟨xs[j],by simp[e],d,λi y f c=>?_⟩;have a:=Bz c;have:=g i f;rw[List.getElem?_eq_getElem a] at c
  cases c;simpa using this
theorem xlw {α:Type}{p:α->Bool}{xs:List α}(h:CB p xs<0):∀y∈xs,p y=false:=by
 unfold CB at h
 cases a:xs.findIdx? p with
 | some j=>rw[a] at h;simp at h;omega
 | none=>rw[List.findIdx?_eq_none_iff] at a;exact a
theorem xrR {xs:List QM}{m y:QM}(h:y∈HW xs m):y=m\/y∈xs:=by
 unfold HW at h;split at h
 ·rcases List.mem_or_eq_of_mem_set h with h | h
  ·exact Or.inr h
  exact Or.inl h
 simp only[List.append_assoc,List.mem_append,List.mem_cons,List.not_mem_nil,or_false] at h;rcases h with h | h | h
 ·exact Or.inr (List.mem_of_mem_take h)
 ·exact Or.inl h
 exact Or.inr (List.mem_of_mem_drop h)
theorem xqN {a b c:ByteArray}(h:CD a b=true)(k:FK c a=true):FK c b=true:=by
 unfold FK at k ⊢;rw[← xed.1 h];exact k
theorem xn5 {xs:List QM}(v:xlo xs)(m:QM):xlo (HW xs m):=by
 unfold HW;split
 ·rename_i h;obtain⟨x,z,B,-⟩:=xfK (p:=λy:QM=>CD y.name m.name) h;have K:=Bz z;have n:xs[(CZ xs m.name).toNat]?=some x:=z;generalize (CZ xs m.name).toNat=j at n ⊢;intro i a b t g;rw[List.getElem?_set] at t g;by_cases o:j=i
  ·subst o;rw[if_pos rfl,if_pos (Bz n)] at t;rw[if_neg (by omega)] at g
   cases t;exact xr2 B (v j x b n g)
  rw[if_neg o] at t;by_cases l:j=i+1
  ·subst l;rw[if_pos rfl,if_pos (Bz n)] at g
   cases g;exact xqN B (v i a x t n)
  rw[if_neg l] at g;exact v i a b t g
 rename_i h;have D:=xlw (p:=λy:QM=>CD y.name m.name) (show CZ xs m.name<0 by omega);obtain⟨d,c⟩:=xgH (xs:=xs) (name:=m.name)
 have r:∀i y,i<(GB xs m.name).toNat->xs[i]?=some y->FK y.name m.name=true:=λi y F e=>by
  have G:GK y.name m.name=false:=by
   by_cases u:CB (λy:QM=>GK y.name m.name) xs<0
   ·exact xlw u y (List.mem_of_getElem? e)
   unfold GB at F;rw[if_neg u] at F;obtain⟨-,-,-,g⟩:=xfK (p:=λy:QM=>GK y.name m.name) (xs:=xs) (by omega);exact g i y F e
  have H:=D y (List.mem_of_getElem? e);rcases xiH y.name.toList m.name.toList with h | h | h
  ·exact h
  ·rw[xed.2 h] at H;cases H
  rw[xoq.2 h] at G;cases G
 have s:∀y,xs[(GB xs m.name).toNat]?=some y->FK m.name y.name=true:=λy e=>by
  have u:¬ CB (λy:QM=>GK y.name m.name) xs<0:=λu=>by
   unfold GB at e;rw[if_pos u] at e;have:=Bz e;simp at this
  obtain⟨x,z,B,-⟩:=xfK (p:=λy:QM=>GK y.name m.name) (xs:=xs) (by omega);unfold GB at e;rw[if_neg u,z] at e
  cases e;exact xoq.1 B
 generalize (GB xs m.name).toNat=p at c r s;intro i a b t g;have C:(xs.take p).length=p:=by simp;omega
 have at':∀k y,(xs.take p++[m]++xs.drop p)[k]?=some y->(k<p/\xs[k]?=some y)\/(k=p/\y=m)\/(p<k/\xs[k-1]?=some y):=λk y e=>by
  by_cases o:k<p
  ·rw[List.append_assoc,List.getElem?_append_left (by omega),List.getElem?_take,if_pos o] at e;exact Or.inl ⟨o,e⟩
  rw[List.append_assoc,List.getElem?_append_right (by omega),C] at e;by_cases l:k=p
  ·subst l;simp at e;exact Or.inr (Or.inl ⟨rfl,e.symm⟩)
  rw[List.getElem?_append_right (by simp;omega),List.getElem?_drop] at e;simp only[List.length_cons,List.length_nil] at e;exact Or.inr (Or.inr ⟨by omega,by rw[← e];congr 1;omega⟩)
 rcases at' i a t with ⟨o,q⟩ | ⟨o,rfl⟩ | ⟨o,q⟩
 ·rcases at' (i+1) b g with ⟨l,f⟩ | ⟨l,rfl⟩ | ⟨l,f⟩
  ·exact v i a b q f
  ·exact r i a o q
  omega
 ·rcases at' (i+1) b g with ⟨l,f⟩ | ⟨l,rfl⟩ | ⟨l,f⟩
  ·omega
  ·omega
  subst o;exact s b f
 rcases at' (i+1) b g with ⟨l,f⟩ | ⟨l,rfl⟩ | ⟨l,f⟩
 ·omega
 ·omega
 exact v (i-1) a b q (by rw[← f];congr 1;omega)
theorem xqV (xs:List QM)(m:QM):(HW xs m).length<=xs.length+1/\(0<=CZ xs m.name->(HW xs m).length=xs.length):=by
 unfold HW;split
 ·exact⟨by simp,λ_=>by simp⟩
 rename_i h;obtain⟨-,a⟩:=xgH (xs:=xs) (name:=m.name);exact⟨by simp;omega,λk=>absurd k h⟩
theorem xnn (xs ys:List QC)(h:ys.map (·.name)=xs.map (·.name))(k:Nat)(nm:ByteArray):Gh ys k nm=Gh xs k nm:=by
 have e:∀l:List QC,Gh l k nm=((l.map (·.name)).take k).any λd=>CD d nm:=λl=>by
  unfold Gh;rw[← List.map_take,List.any_map];rfl
 rw[e,e,h]
theorem xoK {xs:List QC}(j:Pd xs){c:Nat}{x y:QC}(d:xs[c]?=some x)(e:y.super=x.super)(f:y.slots=x.slots){k:Int}(b:k<xs.length):Cs (xs.set c y) k=Cs xs k:=by
 have g:=Bz d;refine xiy j (λi z a=>?_) xs.length k _ _ 0 b b (by omega) (by simp;omega);rw[List.getElem?_set];by_cases h:c=i
 ·subst h;rw[d] at a
  cases a;rw[if_pos rfl,if_pos g];exact⟨y,rfl,e,λs=>by simp[Kt,f]⟩
 rw[if_neg h];exact⟨z,a,rfl,λ_=>rfl⟩
theorem xmk {X:QW}(h:BM X=0){c:Nat}{x:QC}(p:X.cz[c]?=some x){m:QM}(F:(Em (Cs X.cz c) X.cz.length c m).1=0)(a:0<=CZ x.mz m.name\/x.mz.length<8)(S:X.ez<1073741824):BM (Fs X c x m)=0:=by
 obtain⟨g,N,C,-⟩:=Gx h;have L:=Pp h;have H:=xfx h;have s:=Bz p;have l:(Fs X c x m).cz=X.cz.set c { x with mz:=HW x.mz m }:=rfl;have b:(Fs X c x m).cz.length=X.cz.length:=by simp[Fs]
 have r:(Fs X c x m).ez=X.ez+1:=by
  show KG X.ez=_;unfold KG;have:=g.ep0;unfold wrap64;omega
 have e:∀k:Int,k<X.cz.length->Cs (Fs X c x m).cz k=Cs X.cz k:=λk t=>xoK (y:={ x with mz:=HW x.mz m }) H p rfl rfl t
 have f:(Fs X c x m).cz.map (·.name)=X.cz.map (·.name):=by
  rw[l,List.map_set]
  apply List.ext_getElem?
  intro i;rw[List.getElem?_set];split
  ·rename_i n;subst n;rw[if_pos (by simpa using s),List.getElem?_map,p];rfl
  rfl
 have q:∀i y,X.cz[i]?=some y->∀z:QC,z.name=y.name->z.super=y.super->z.slots=y.slots->CY (Fs X c x m).cz i z=0:=λi y d z M Q R=>by
  have:=N i y (Bz d) d;unfold CY at this ⊢;rw[xnn _ _ f,M,Q,R];exact this
 refine xlY ⟨by rw[b];exact g.few,by rw[b];exact g.many,g.heap,by rw[r];have:=g.ep0;omega,by rw[r];omega⟩ (λi y d=>?_) (λi y d=>?_) ⟨g.heap,λo G=>?_⟩
 ·have n:=Bz d;rw[b] at n;rw[l,List.getElem?_set] at d;by_cases hci:c=i
  ·subst hci;rw[if_pos rfl,if_pos s] at d
   cases d;exact q c x p _ rfl rfl rfl
  rw[if_neg hci] at d;exact q i y d y rfl rfl rfl
 ·have n:=Bz d;rw[b] at n;rw[l,List.getElem?_set] at d;by_cases hci:c=i
  ·subst hci;rw[if_pos rfl,if_pos s] at d
   cases d;obtain⟨r1,r2,r3⟩:=xq3 (C c x s p);have K:=xn5 (xis r3) m;have D:=xqV x.mz m
   have u:(HW x.mz m).length<=8:=by
    rcases a with h | h
    ·rw[D.2 h];exact r2
    omega
   refine xo6 (by rw[e _ (by omega)];exact r1) u λj y d=>xqJ K d ?_;rw[e _ (by omega),b];rcases xrR (List.mem_of_getElem? d) with rfl | v
   ·exact Or.inr F
   obtain⟨k,t⟩:=List.getElem?_of_mem v;exact xri (r3 k y t)
  rw[if_neg hci] at d;obtain⟨r1,r2,r3⟩:=xq3 (C i y n d);refine xo6 (by rw[e _ (by omega)];exact r1) r2 λj z B=>xqJ (xis r3) B ?_;rw[e _ (by omega),b];exact xri (r3 j z B)
 obtain⟨o1,o2,o3⟩:=L.obj o G;refine⟨by rw[b];exact o1,?_,o3⟩;have T:=g.few;rw[o2,e _ (by simp[Dj] at o1;omega)]
theorem xoH {X:QW}(h:BM X=0){c:Int}(b:Dj X.cz.length c=true)(a:X.heap.length<60):BM ⟨X.cz,X.heap++[⟨c,List.replicate (DY X.cz c).toNat BC⟩],X.ez⟩=0:=
 xhe h ((Pp h).make b (by have:=xdt h c;omega) a)
theorem xry {X:QW}(h:BM X=0){e:Int}(d:0<=e)(c:e<=1073741824):BM ⟨X.cz,X.heap,e⟩=0:=by
 obtain⟨a,f,g,b⟩:=Gx h;exact xiv ⟨a.few,a.many,a.heap,d,c⟩ f g b
theorem xt6 {d:Nat}(h:d<10):(UInt8.ofNat (48+d)).toNat=48+d:=by
 simp only[UInt8.toNat_ofNat'];omega
theorem xwi (u:Nat):Lib.decDigits u≠[]:=by
 rw[Lib.decDigits];split
 ·simp
 simp
theorem xuu (u:Nat):∀c∈Lib.decDigits u,48<=c.toNat/\c.toNat<=57:=by
 induction u using Nat.strongRecOn with
 | _ u ih=>
  intro c a;rw[Lib.decDigits] at a;split at a
  ·rename_i h;rw[List.mem_singleton] at a;subst a;rw[xt6 h];omega
  rename_i h;rw[List.mem_append,List.mem_singleton] at a;rcases a with a | a
  ·exact ih (u / 10) (by omega) c a
  subst a;rw[xt6 (Nat.mod_lt _ (by omega))];have:=Nat.mod_lt u (show 10>0 by omega);omega
theorem xuv:∀(l r:List UInt8) (a u:Nat),Lib.parseUint10 a l=.ok u->Lib.parseUint10 a (l++r)=Lib.parseUint10 u r
 | [],r,a,u,h=>by
  simp only[Lib.parseUint10] at h;injection h with h
  subst h;rfl
 | c :: l,r,a,u,h=>by
  simp only[Lib.parseUint10,List.cons_append] at h ⊢;split at h
  ·rename_i b;rw[if_pos b];split at h
   ·cases h
   rename_i d;rw[if_neg d];split at h
   ·cases h
   rename_i e;rw[if_neg e];exact xuv l r _ u h
  cases h
theorem xwG (u:Nat)(b:u<18446744073709551616):Lib.parseUint10 0 (Lib.decDigits u)=.ok u:=by
 induction u using Nat.strongRecOn with
 | _ u ih=>
  rw[Lib.decDigits];split
  ·rename_i h;simp only[Lib.parseUint10];rw[xt6 h,if_pos (by omega),if_neg (by omega),if_neg (by omega)]
   congr 1
   omega
  rename_i h;rw[xuv _ _ 0 (u / 10) (ih (u / 10) (by omega) (by omega))];simp only[Lib.parseUint10];have a:=Nat.mod_lt u (show 10>0 by omega);rw[xt6 a,if_pos (by omega),if_neg (by omega),if_neg (by omega)]
  congr 1
  omega
theorem xwH (u:Nat)(a:u<18446744073709551616):Lib.parseMag (Lib.decDigits u)=.ok u:=by
 unfold Lib.parseMag;rw[if_neg (xwi u),xwG u a]
theorem xwE {n:Int}(g:-9223372036854775808<=n)(f:n<=9223372036854775807):Lib.atoiAll (Lib.itoa n)=.ok n:=by
 unfold Lib.itoa;split
 ·rename_i h;unfold Lib.atoiAll;have a:(45:UInt8).toNat=45:=rfl;simp only[a];rw[if_pos (Or.inr trivial),xwH _ (by omega)];simp only;rw[if_neg (by simp),if_neg (by omega),if_pos trivial]
  congr 1
  omega
 rename_i h;have d:=xuu n.toNat;have e:=xwH n.toNat (by omega)
 cases b:Lib.decDigits n.toNat with
 | nil=>exact absurd b (xwi _)
 | cons c r=>
  rw[b] at d e;obtain⟨c1,c2⟩:=d c (by simp);unfold Lib.atoiAll;simp only;rw[if_neg (by omega),e];simp only;rw[if_neg (by omega),if_neg (by omega),if_neg (by omega)]
  congr 1
  omega
theorem xxd (n:Int):Lib.itoa n≠[]:=by
 unfold Lib.itoa;split
 ·simp
 exact xwi _
theorem xwt (n:Int):(32:UInt8) ∉ Lib.itoa n:=by
 intro h;unfold Lib.itoa at h;split at h
 ·simp at h;have:=xuu _ _ h;simp at this
 have:=xuu _ _ h;simp at this
def GF (l:List UInt8):Option (List UInt8 × List UInt8):=
 match l.idxOf? 32 with
 | none=>none
 | some 0=>none
 | some (i+1)=>some (l.take (i+1),l.drop (i+2))
theorem xuQ {l w r:List UInt8}(h:GF l=some (w,r)):l=w++32 :: r/\w≠[]/\(32:UInt8) ∉ w:=by
 unfold GF at h;split at h
 ·cases h
 ·cases h
 rename_i i c
 cases h;rw[List.idxOf?,List.findIdx?_eq_some_iff_getElem] at c;obtain⟨f,d,k⟩:=c;have o:l[i+1]=32:=by simpa using d
 refine⟨?_,?_,?_⟩
 ·have e:=List.take_append_drop (i+1) l;rw[List.drop_eq_getElem_cons f,o] at e;exact e.symm
 ·intro m;have:=congrArg List.length m;rw[List.length_take,List.length_nil] at this;omega
 intro g;obtain⟨j,n,a⟩:=List.mem_iff_getElem.1 g;rw[List.getElem_take] at a;have b:j<i+1:=by simp at n;omega
 have:=k j b;rw[a] at this;simp at this
theorem xuM {w r:List UInt8}(c:w≠[])(f:(32:UInt8) ∉ w):GF (w++32 :: r)=some (w,r):=by
 have g:0<w.length:=List.length_pos_iff.2 c
 have e:(w++32 :: r).idxOf? 32=some w.length:=by
  rw[List.idxOf?,List.findIdx?_eq_some_iff_getElem];refine⟨by simp,by simp,λj b=>?_⟩;rw[List.getElem_append_left b];have:w[j]≠32:=λd=>f (d ▸ List.getElem_mem b);simpa using this
 unfold GF;rw[e];obtain⟨k,a⟩:∃k,w.length=k+1:=⟨w.length-1,by omega⟩
 rw[a];simp only[Option.some.injEq,Prod.mk.injEq];constructor
 ·rw[← a,List.take_left]
 rw[show k+2=w.length+1 by omega,← List.drop_drop,List.drop_left];rfl
def Dd (l:List UInt8):Option (Int × List UInt8):=
 match GF l with
 | none=>none
 | some (w,r)=>match Lib.atoiAll w with
  | .ok n=>if Lib.itoa n=w then some (n,r) else none
  | _=>none
theorem xv3 {l r:List UInt8}{n:Int}(h:Dd l=some (n,r)):l=Lib.itoa n++32 :: r/\-9223372036854775808<=n/\n<=9223372036854775807:=by
 unfold Dd at h;split at h
 ·cases h
 rename_i w r' a;split at h
 ·rename_i n' b;split at h
  ·rename_i c
   cases h;exact⟨by rw[c];exact (xuQ a).1,Lib.atoiAll_bounds b⟩
  cases h
 cases h
theorem xv5 {n:Int}(a:-9223372036854775808<=n)(b:n<=9223372036854775807)(r:List UInt8):Dd (Lib.itoa n++32 :: r)=some (n,r):=by
 unfold Dd;rw[xuM (xxd n) (xwt n)];simp only;rw[xwE a b];simp
structure Codec {α:Type}(f:List UInt8->Option (α × List UInt8))(enc:α->List UInt8)(ok:α->Prop):Prop where
 wr:∀x r,ok x->f (enc x++r)=some (x,r)
 is:∀l x r,f l=some (x,r)->l=enc x++r/\ok x
def Fd (n:Int):Prop:=-9223372036854775808<=n/\n<=9223372036854775807
def CQ (n:Int):List UInt8:=Lib.itoa n++[32]
theorem xtL:Codec Dd CQ Fd where
 wr n r h:=by unfold CQ;rw[List.append_assoc];exact xv5 h.1 h.2 r
 is l n r h:=by obtain⟨e,a,b⟩:=xv3 h;exact⟨by unfold CQ;rw[List.append_assoc];exact e,a,b⟩
def Fp (l:List UInt8):Option (ByteArray × List UInt8):=(GF l).bind λp=>some (⟨p.1.toArray⟩,p.2)
def GX (s:ByteArray):List UInt8:=s.data.toList++[32]
def KZ (s:ByteArray):Prop:=s.data.toList≠[]/\(32:UInt8) ∉ s.data.toList
theorem xu1:Codec Fp GX KZ where
 wr s r h:=by
  unfold GX Fp;rw[List.append_assoc,List.singleton_append,xuM h.1 h.2];simp
 is l s r h:=by
  unfold Fp at h
  cases a:GF l with
  | none=>rw[a] at h;cases h
  | some p=>
   obtain⟨w,r'⟩:=p;rw[a] at h;simp only[Option.bind_some,Option.some.injEq,Prod.mk.injEq] at h;obtain⟨rfl,rfl⟩:=h;obtain⟨e,c,b⟩:=xuQ a;refine⟨?_,?_⟩
   ·unfold GX;simpa using e
   unfold KZ;simpa using ⟨c,b⟩
def EP {α:Type}(f:List UInt8->Option (α × List UInt8)):Nat->List UInt8->Option (List α × List UInt8)
 | 0,l=>some ([],l)
 | n+1,l=>(f l).bind λp=>(EP f n p.2).bind λq=>some (p.1 :: q.1,q.2)
def DH {α:Type}(enc:α->List UInt8)(xs:List α):List UInt8:=xs.flatMap enc
theorem xun {α:Type}{f:List UInt8->Option (α × List UInt8)}{enc:α->List UInt8}{ok:α->Prop}(C:Codec f enc ok):∀n:Nat,Codec (EP f n) (DH enc) (λxs=>xs.length=n/\∀x∈xs,ok x)
 | 0=>{
  wr:=λxs r h=>by
   have:xs=[]:=List.eq_nil_of_length_eq_zero h.1;subst this;rfl
  is:=λl xs r h=>by
   simp only[EP,Option.some.injEq,Prod.mk.injEq] at h;obtain⟨rfl,rfl⟩:=h;simp[DH] }
 | n+1=>{
  wr:=λxs r h=>by
   cases xs with
   | nil=>simp at h
   | cons x xs=>
    have e:=h.2 x (by simp);have d:xs.length=n/\∀x∈xs,ok x:=⟨by simpa using h.1,λy a=>h.2 y (by simp[a])⟩
    simp only[EP,DH,List.flatMap_cons,List.append_assoc];rw[C.wr _ _ e];simp only[Option.bind_some];have:=(xun C n).wr xs r d;unfold DH at this;rw[this];simp
  is:=λl xs r h=>by
   simp only[EP] at h
   cases b:f l with
   | none=>simp[b] at h
   | some p=>
    obtain⟨x,r1⟩:=p;simp only[b,Option.bind_some] at h
    cases c:EP f n r1 with
    | none=>simp[c] at h
    | some q=>
     obtain⟨ys,r2⟩:=q;simp only[c,Option.bind_some,Option.some.injEq,Prod.mk.injEq] at h;obtain⟨rfl,rfl⟩:=h;obtain⟨i1,i2⟩:=C.is _ _ _ b;obtain⟨i3,i4⟩:=(xun C n).is _ _ _ c;refine⟨?_,by simp[i4.1],λy a=>?_⟩
     ·rw[i1,i3];simp[DH]
     simp at a;rcases a with rfl | a
     ·exact i2
     exact i4.2 y a }
def Hr (most:Nat)(l:List UInt8):Option (Nat × List UInt8):=(Dd l).bind λp=>if 0<=p.1/\p.1<=most then some (p.1.toNat,p.2) else none
theorem xuW {a:Nat}(d:a<=1000):Codec (Hr a) (λn=>CQ n) (λn=>n<=a) where
 wr n r h:=by
  unfold Hr;rw[xtL.wr _ _ (show Fd (n:Int) from ⟨by omega,by omega⟩)];simp only[Option.bind_some];rw[if_pos ⟨by omega,by omega⟩];simp
 is l n r h:=by
  unfold Hr at h
  cases b:Dd l with
  | none=>simp[b] at h
  | some p=>
   obtain⟨x,r1⟩:=p;simp only[b,Option.bind_some] at h;split at h
   ·rename_i c;simp only[Option.some.injEq,Prod.mk.injEq] at h;obtain⟨rfl,rfl⟩:=h;obtain⟨i1,i2⟩:=xtL.is _ _ _ b;exact⟨by rw[Int.toNat_of_nonneg c.1];exact i1,by omega⟩
   cases h
def DM {α:Type}(f:List UInt8->Option (α × List UInt8))(most:Nat)(l:List UInt8):Option (List α × List UInt8):=(Hr most l).bind λp=>EP f p.1 p.2
def Hc {α:Type}(enc:α->List UInt8)(xs:List α):List UInt8:=CQ xs.length++DH enc xs
theorem Lt {α:Type}{f:List UInt8->Option (α × List UInt8)}{enc:α->List UInt8}{ok:α->Prop}(C:Codec f enc ok){a:Nat}(c:a<=1000):Codec (DM f a) (Hc enc) (λxs=>xs.length<=a/\∀x∈xs,ok x) where
 wr xs r h:=by
  unfold DM Hc;rw[List.append_assoc,(xuW c).wr _ _ h.1];simp only[Option.bind_some];exact (xun C _).wr _ _ ⟨rfl,h.2⟩
 is l xs r h:=by
  unfold DM at h
  cases b:Hr a l with
  | none=>simp[b] at h
  | some p=>
   obtain⟨n,r1⟩:=p;simp only[b,Option.bind_some] at h;obtain⟨i1,i2⟩:=(xuW c).is _ _ _ b;obtain⟨i3,i4,i5⟩:=(xun C n).is _ _ _ h;subst i4;exact⟨by unfold Hc;rw[i1,i3,List.append_assoc],i2,i5⟩
def GS (l:List UInt8):Option (QI × List UInt8):=(Dd l).bind λp=>(Dd p.2).bind λq=>if p.1=14 then (Fp q.2).bind λs=>some (⟨p.1,q.1,0,0,s.1⟩,s.2) else some (⟨p.1,q.1,0,0,⟨#[]⟩⟩,q.2)
def FT (x:QI):List UInt8:=CQ x.op++(CQ x.a++if x.op=14 then GX x.name else [])
def ND (x:QI):Prop:=Fd x.op/\Fd x.a/\x.b=0/\x.c=0/\(if x.op=14 then KZ x.name else x.name=⟨#[]⟩)
theorem xxb:Codec GS FT ND where
 wr x r h:=by
  obtain⟨op,a,b,c,nm⟩:=x;obtain⟨i,g,e,j,f⟩:=h;simp only at i g e j f;subst e j;unfold GS FT;simp only[List.append_assoc];rw[xtL.wr _ _ i];simp only[Option.bind_some];rw[xtL.wr _ _ g];simp only[Option.bind_some];by_cases d:op=14
  ·rw[if_pos d] at f;rw[if_pos d,if_pos d,xu1.wr _ _ f];simp
  rw[if_neg d] at f;rw[if_neg d,if_neg d,f];simp
 is l x r h:=by
  unfold GS at h;simp only[Option.bind_eq_some_iff] at h;obtain⟨⟨op,r1⟩,i,⟨a,r2⟩,g,e⟩:=h;simp only at g e;obtain⟨i1,i2⟩:=xtL.is _ _ _ i;obtain⟨i3,i4⟩:=xtL.is _ _ _ g;split at e
  ·rename_i d;simp only[Option.bind_eq_some_iff] at e;obtain⟨⟨s,r3⟩,j,f⟩:=e;simp only[Option.some.injEq,Prod.mk.injEq] at f;obtain⟨rfl,rfl⟩:=f;obtain⟨i5,i6⟩:=xu1.is _ _ _ j;refine⟨?_,i2,i4,rfl,rfl,?_⟩
   ·unfold FT;simp only;rw[if_pos d,i1,i3,i5];simp
   simp only;rw[if_pos d];exact i6
  rename_i d;simp only[Option.some.injEq,Prod.mk.injEq] at e;obtain⟨rfl,rfl⟩:=e;refine⟨?_,i2,i4,rfl,rfl,?_⟩
  ·unfold FT;simp only;rw[if_neg d,i1,i3];simp
  simp[d]
def Hs (l:List UInt8):Option (QV × List UInt8):=(Dd l).bind λp=>(Dd p.2).bind λq=>some (⟨p.1,q.1⟩,q.2)
def Gz (v:QV):List UInt8:=CQ v.k++CQ v.n
def Qq (v:QV):Prop:=Fd v.k/\Fd v.n
theorem xw4:Codec Hs Gz Qq where
 wr x r h:=by
  unfold Hs Gz;rw[List.append_assoc,xtL.wr _ _ h.1];simp only[Option.bind_some];rw[xtL.wr _ _ h.2];simp
 is l x r h:=by
  unfold Hs at h;simp only[Option.bind_eq_some_iff,Option.some.injEq,Prod.mk.injEq] at h;obtain⟨⟨k,r1⟩,a,⟨n,r2⟩,b,rfl,rfl⟩:=h;obtain⟨i1,i2⟩:=xtL.is _ _ _ a;obtain⟨i3,i4⟩:=xtL.is _ _ _ b;simp only at i3;exact⟨by unfold Gz;simp only;rw[i1,i3];simp,i2,i4⟩
def Kj (l:List UInt8):Option (QM × List UInt8):=(Fp l).bind λa=>(Dd a.2).bind λb=>(Dd b.2).bind λc=>(Dd c.2).bind λd=>(DM GS 60 d.2).bind λe=>some (⟨a.1,b.1,c.1,d.1,e.1⟩,e.2)
def GC (m:QM):List UInt8:=GX m.name++(CQ m.args++(CQ m.temps++(CQ m.prim++Hc FT m.code)))
def Qd (m:QM):Prop:=KZ m.name/\Fd m.args/\Fd m.temps/\Fd m.prim/\m.code.length<=60/\∀x∈m.code,ND x
theorem xw5:Codec Kj GC Qd where
 wr x r h:=by
  obtain⟨f,j,k,g,i⟩:=h;unfold Kj GC;simp only[List.append_assoc];rw[xu1.wr _ _ f];simp only[Option.bind_some];rw[xtL.wr _ _ j];simp only[Option.bind_some];rw[xtL.wr _ _ k];simp only[Option.bind_some];rw[xtL.wr _ _ g];simp only[Option.bind_some];rw[(Lt xxb (by decide)).wr _ _ i];simp
 is l x r h:=by
  unfold Kj at h;simp only[Option.bind_eq_some_iff,Option.some.injEq,Prod.mk.injEq] at h;obtain⟨⟨a,r1⟩,f,⟨b,r2⟩,j,⟨c,r3⟩,k,⟨d,r4⟩,g,⟨e,r5⟩,i,rfl,rfl⟩:=h;obtain⟨i1,k1⟩:=xu1.is _ _ _ f;obtain⟨i2,k2⟩:=xtL.is _ _ _ j;obtain⟨i3,k3⟩:=xtL.is _ _ _ k;obtain⟨i4,k4⟩:=xtL.is _ _ _ g;obtain⟨i5,k5⟩:=(Lt xxb (by decide)).is _ _ _ i;simp only at i2 i3 i4 i5;exact⟨by unfold GC;simp only;rw[i1,i2,i3,i4,i5];simp,k1,k2,k3,k4,k5⟩
def Lk (l:List UInt8):Option (QC × List UInt8):=(Fp l).bind λa=>(Dd a.2).bind λb=>(Dd b.2).bind λc=>(DM Kj 8 c.2).bind λe=>some (⟨a.1,b.1,c.1,e.1⟩,e.2)
def Gk (m:QC):List UInt8:=GX m.name++(CQ m.super++(CQ m.slots++Hc GC m.mz))
def QP (m:QC):Prop:=KZ m.name/\Fd m.super/\Fd m.slots/\m.mz.length<=8/\∀x∈m.mz,Qd x
theorem xw7:Codec Lk Gk QP where
 wr x r h:=by
  obtain⟨f,g,i,d⟩:=h;unfold Lk Gk;simp only[List.append_assoc];rw[xu1.wr _ _ f];simp only[Option.bind_some];rw[xtL.wr _ _ g];simp only[Option.bind_some];rw[xtL.wr _ _ i];simp only[Option.bind_some];rw[(Lt xw5 (by decide)).wr _ _ d];simp
 is l x r h:=by
  unfold Lk at h;simp only[Option.bind_eq_some_iff,Option.some.injEq,Prod.mk.injEq] at h;obtain⟨⟨a,r1⟩,f,⟨b,r2⟩,g,⟨c,r3⟩,i,⟨e,r5⟩,d,rfl,rfl⟩:=h;obtain⟨i1,k1⟩:=xu1.is _ _ _ f;obtain⟨i2,k2⟩:=xtL.is _ _ _ g;obtain⟨i3,k3⟩:=xtL.is _ _ _ i;obtain⟨i5,k5⟩:=(Lt xw5 (by decide)).is _ _ _ d;simp only at i2 i3 i5;exact⟨by unfold Gk;simp only;rw[i1,i2,i3,i5];simp,k1,k2,k3,k5⟩
def Kv (l:List UInt8):Option (QO × List UInt8):=(Dd l).bind λa=>(DM Hs 6 a.2).bind λe=>some (⟨a.1,e.1⟩,e.2)
def GH (o:QO):List UInt8:=CQ o.cls++Hc Gz o.slots
def PN (o:QO):Prop:=Fd o.cls/\o.slots.length<=6/\∀x∈o.slots,Qq x
theorem xxc:Codec Kv GH PN where
 wr x r h:=by
  obtain⟨c,b⟩:=h;unfold Kv GH;simp only[List.append_assoc];rw[xtL.wr _ _ c];simp only[Option.bind_some];rw[(Lt xw4 (by decide)).wr _ _ b];simp
 is l x r h:=by
  unfold Kv at h;simp only[Option.bind_eq_some_iff,Option.some.injEq,Prod.mk.injEq] at h;obtain⟨⟨a,r1⟩,c,⟨e,r5⟩,b,rfl,rfl⟩:=h;obtain⟨i1,k1⟩:=xtL.is _ _ _ c;obtain⟨i5,k5⟩:=(Lt xw4 (by decide)).is _ _ _ b;simp only at i5;exact⟨by unfold GH;simp only;rw[i1,i5];simp,k1,k5⟩
def Ms (l:List UInt8):Option (QW × List UInt8):=(Dd l).bind λa=>(DM Lk 12 a.2).bind λc=>(DM Kv 60 c.2).bind λe=>some (⟨c.1,e.1,a.1⟩,e.2)
def Ef (X:QW):List UInt8:=CQ X.ez++(Hc Gk X.cz++Hc GH X.heap)
def xuA (X:QW):Prop:=Fd X.ez/\(X.cz.length<=12/\∀x∈X.cz,QP x)/\(X.heap.length<=60/\∀x∈X.heap,PN x)
theorem xw9:Codec Ms Ef xuA where
 wr x r h:=by
  obtain⟨d,f,b⟩:=h;unfold Ms Ef;simp only[List.append_assoc];rw[xtL.wr _ _ d];simp only[Option.bind_some];rw[(Lt xw7 (by decide)).wr _ _ f];simp only[Option.bind_some];rw[(Lt xxc (by decide)).wr _ _ b];simp
 is l x r h:=by
  unfold Ms at h;simp only[Option.bind_eq_some_iff,Option.some.injEq,Prod.mk.injEq] at h;obtain⟨⟨a,r1⟩,d,⟨c,r2⟩,f,⟨e,r5⟩,b,rfl,rfl⟩:=h;obtain⟨i1,k1⟩:=xtL.is _ _ _ d;obtain⟨i2,k2⟩:=(Lt xw7 (by decide)).is _ _ _ f;obtain⟨i5,k5⟩:=(Lt xxc (by decide)).is _ _ _ b;simp only at i2 i5;exact⟨by unfold Ef;simp only;rw[i1,i2,i5];simp,k1,k2,k5⟩
def Ez (b:List UInt8):QW × Int:=match Ms b with
 | some (X,[])=>if BM X=0 then (X,0) else (⟨[],[],0⟩,BM X)
 | _=>(⟨[],[],0⟩,2)
theorem xuI {X:QW}(h:xuA X)(a:BM X=0):Ez (Ef X)=(X,0):=by
 have:=xw9.wr X [] h;rw[List.append_nil] at this;unfold Ez;rw[this];simp only;rw[if_pos a]
theorem xvY {b:List UInt8}{X:QW}(h:Ez b=(X,0)):BM X=0/\Ef X=b:=by
 unfold Ez at h;split at h
 ·rename_i Y c;split at h
  ·rename_i a;simp only[Prod.mk.injEq] at h;obtain⟨rfl,-⟩:=h;obtain⟨e,-⟩:=xw9.is _ _ _ c;rw[List.append_nil] at e;exact⟨a,e.symm⟩
  rename_i a;simp only[Prod.mk.injEq] at h;exact absurd h.2 a
 simp at h
theorem xwo {f:QI->Int}:∀ {l:List QI} {k:Nat} {r:Int × Int},FX f k l=some r->r.1≠0
 | [],k,r,h=>by cases h
 | z :: l,k,r,h=>by
  unfold FX at h;split at h
  ·rename_i a;cases h;exact a
  exact xwo h
theorem xvG {S n c:Int}{m:QM}(h:(Em S n c m).1=0):DF n c m=0/\(∀x∈m.code,DD S n m x=0)/\(DN m.code).2.1=0:=by
 unfold Em at h;split at h
 ·rename_i b;exact absurd h b
 rename_i b
 cases a:FX (DD S n m) 0 m.code with
 | some r=>rw[a] at h;exact absurd h (xwo a)
 | none=>rw[a] at h;exact⟨by simpa using b,PR a,h⟩
theorem wm_c {n:Nat}{c:Int}{m:QM}(h:c<0\/(n:Int)<=c):DF n c m=6:=by unfold DF;rw[if_pos (by simp[Cj];omega)]
theorem xxo {n:Nat}{c:Int}{m:QM}(h:¬ (c<0\/(n:Int)<=c))(a:DC m.name=false):DF n c m=7:=by unfold DF;rw[if_neg (by simp[Cj];omega),if_pos a]
theorem xwS {n:Nat}{c:Int}{m:QM}(h:¬ (c<0\/(n:Int)<=c))(a:DC m.name=true)(b:m.args<0\/4<m.args\/m.temps<0\/6<m.temps):DF n c m=3:=by unfold DF;rw[if_neg (by simp[Cj];omega),if_neg (by simp[a]),if_pos (by simp[Cj];omega)]
theorem xxi {n:Nat}{c:Int}{m:QM}(h:¬ (c<0\/(n:Int)<=c))(a:DC m.name=true)(d:¬ (m.args<0\/4<m.args\/m.temps<0\/6<m.temps))(b:m.prim≠0):DF n c m=1:=by unfold DF;rw[if_neg (by simp[Cj];omega),if_neg (by simp[a]),if_neg (by simp[Cj];omega),if_pos b]
theorem xxg {n:Nat}{c:Int}{m:QM}(h:¬ (c<0\/(n:Int)<=c))(a:DC m.name=true)(e:¬ (m.args<0\/4<m.args\/m.temps<0\/6<m.temps))(b:m.prim=0)(d:m.code.length=0\/60<m.code.length):DF n c m=5:=by unfold DF;rw[if_neg (by simp[Cj];omega),if_neg (by simp[a]),if_neg (by simp[Cj];omega),if_neg (by simp[b]),if_pos (by simp[Cj];omega)]
theorem xxJ {n:Nat}{c:Int}{m:QM}(h:DF n c m=0):¬ (c<0\/(n:Int)<=c)/\DC m.name=true/\¬ (m.args<0\/4<m.args\/m.temps<0\/6<m.temps)/\m.prim=0/\¬ (m.code.length=0\/60<m.code.length):=by
 by_cases h1:c<0\/(n:Int)<=c
 ·rw[wm_c h1] at h;cases h
 cases a:DC m.name
 ·rw[xxo h1 a] at h;cases h
 by_cases h3:m.args<0\/4<m.args\/m.temps<0\/6<m.temps
 ·rw[xwS h1 a h3] at h;cases h
 by_cases h4:m.prim=0
 ·by_cases h5:m.code.length=0\/60<m.code.length
  ·rw[xxg h1 a h3 h4 h5] at h;cases h
  exact⟨h1,rfl,h3,h4,h5⟩
 rw[xxi h1 a h3 h4] at h;cases h
theorem xuO {s:ByteArray}(h:DC s=true):KZ s:=by
 unfold DC at h;simp only[Bool.and_eq_true,decide_eq_true_eq] at h;obtain⟨⟨g,-⟩,b⟩:=h;unfold LL at b;simp only[decide_eq_true_eq] at b;have a:s.data.toList.length=s.size:=rfl;constructor
 ·intro f;rw[f] at a;simp at a;omega
 intro d;obtain⟨j,i,c⟩:=List.mem_iff_getElem.1 d;have:=b ⟨j,by omega⟩;have e:s[j]'(by omega)=32:=by rw[← c];rfl
 simp only[e] at this;simp at this
theorem xxk {a b:ByteArray}(h:CD a b=true)(c:KZ a):KZ b:=by
 have e:a.toList=b.toList:=by simpa [CD] using h
 rw[ByteArray.toList_eq,ByteArray.toList_eq] at e;unfold KZ;rw[← e];exact c
theorem xvP {s:ByteArray}(h:PW s=true):s=⟨#[]⟩:=by
 unfold PW at h;rw[ByteArray.toList_eq] at h;obtain⟨⟨l⟩⟩:=s;simp at h;subst h;rfl
theorem xxL {S n:Int}{m:QM}{x:QI}(i:Fd (IntKind.i64.wrap (S-1)))(l:n<=1000)(o:m.args<=4)(k:m.temps<=6)(p:m.code.length<=60)(h:DD S n m x=0):ND x:=by
 unfold DD at h;split at h
 ·cases h
 rename_i e;split at h
 ·cases h
 rename_i j;split at h
 ·cases h
 rename_i d;simp only[Cj,Bool.not_eq_false,decide_eq_true_eq] at e;simp only[not_or,Decidable.not_not,Bool.not_eq_false] at d;obtain⟨a,f,g⟩:=d;refine⟨⟨by omega,by omega⟩,?_,f,g,?_⟩
 ·have c:Ew S n m x=true:=by simpa using j
  unfold Ew at c;unfold Fd at i ⊢
  (repeat' split at c)<;>simp only[Cj,Bool.or_eq_true,decide_eq_true_eq] at c<;>omega
 ·unfold Kf at a;split at a
  ·rename_i b;rw[if_pos b];exact xuO a
  rename_i b;rw[if_neg b];exact xvP a
theorem xup {X:QW}(h:BM X=0):xuA X:=by
 obtain⟨U,N,M,S⟩:=Gx h;obtain⟨z1,z2,z3,z4,z5⟩:=U;have s:=N.slots;have D:X.cz.length*56<=140737488351232:=by omega
 refine⟨⟨by omega,by omega⟩,⟨z2,λx C=>?_⟩,⟨z3,λo C=>?_⟩⟩
 ·obtain⟨k,l⟩:=List.getElem?_of_mem C;have t:=Bz l;have d:=N k x t l;have j:=M k x t l;have hs:=xvn d;have Q:=xwq d
  have Z:-1<=x.super:=by
   unfold CY at d;split at d
   ·cases d
   split at d
   ·rename_i y f;have H:k<4:=Bz f
    (repeat' (split at d))<;>first | (cases d;done) | skip
    rename_i b _;have e:x.super=y.super:=by simpa using b
    rw[e]
    match k,H,f with
    | 0,_,f=>cases f;decide
    | 1,_,f=>cases f;decide
    | 2,_,f=>cases f;decide
    | 3,_,f=>cases f;decide
   (repeat' (split at d))<;>first | (cases d;done) | skip
   rename_i b _;simp only[Dj,Bool.not_eq_false,decide_eq_true_eq] at b;omega
  have B:DC x.name=true:=by
   unfold CY at d;split at d
   ·cases d
   rename_i L;simpa using L
  unfold Dm at j;split at j
  ·cases j
  rename_i u;split at j
  ·cases j
  rename_i z;have V:=Hm j;refine⟨xuO B,⟨by omega,by omega⟩,⟨by omega,by omega⟩,by omega,λm F=>?_⟩;obtain⟨i,K⟩:=List.getElem?_of_mem F;have g:=V i m K;unfold Dn at g;split at g
  ·cases g
  split at g
  ·rename_i G;unfold Ft at G;rw[List.any_eq_true] at G;obtain⟨p,a,c⟩:=G;simp only[Bool.and_eq_true,decide_eq_true_eq] at c;obtain⟨⟨⟨⟨⟨-,e1⟩,e2⟩,e3⟩,e4⟩,e5⟩:=c
   have n:KZ p.name/\Fd p.prim:=by
    unfold xrh at a;simp only[List.mem_cons,List.not_mem_nil,or_false] at a;rcases a with rfl | rfl | rfl | rfl | rfl<;>exact⟨⟨by decide,by decide⟩,by decide,by decide⟩
   refine⟨xxk e1 n.1,by rw[e3];exact⟨by decide,by decide⟩,by rw[e4];exact⟨by decide,by decide⟩,by rw[← e2];exact n.2,by omega,λy f=>?_⟩;have:m.code=[]:=List.eq_nil_of_length_eq_zero e5;rw[this] at f
   cases f
  obtain⟨c1,c2,-⟩:=xvG g;obtain⟨-,n1,n2,n3,n4⟩:=xxJ c1;refine⟨xuO n1,⟨by omega,by omega⟩,⟨by omega,by omega⟩,⟨by omega,by omega⟩,by omega,λy f=>?_⟩
  have T:0<=Cs X.cz k:=by
   rw[xpF s D];exact (PD s (X.cz.length+1) k 0 (by omega)).1
  refine xxL ?_ (by omega) (by omega) (by omega) (by omega) (c2 y f);rw[IntKind.wrap_i64];unfold Fd;omega
 obtain⟨k,l⟩:=List.getElem?_of_mem C;have d:=S k o (Bz l) l;unfold Ev at d;split at d
 ·cases d
 rename_i j;have L:=Hm d;simp only[not_or,Decidable.not_not,Bool.not_eq_false] at j;obtain⟨Y,W⟩:=j;simp only[Dj,decide_eq_true_eq] at Y;obtain⟨q,R⟩:∃q:Nat,o.cls=(q:Int):=⟨o.cls.toNat,by omega⟩
 have r:q<X.cz.length:=by omega
 have u:=M q _ r (List.getElem?_eq_getElem r)
 have h7:¬ 6<Cs X.cz q:=by
  unfold Dm at u;split at u
  ·cases u
  assumption
 rw[R] at W;refine⟨⟨by omega,by omega⟩,by omega,λv hv=>?_⟩;obtain⟨i,K⟩:=List.getElem?_of_mem hv;have z:=L i v K;unfold Cn HG at z;unfold Qq Fd
 (repeat' split at z)<;>first | (cases z;done) | omega
structure Sn where
 X:QW
 cells:List QE
 ts:List QT
 saved:List UInt8
def Nj (ep:Int)(l:List QE):Prop:=∀x∈l,x.ez<=ep
def NR (n:Nat)(ep:Int)(l:List QE):Prop:=∀x∈l,x.ez=ep->∀y∈x.lz,y.cls<(n:Int)/\y.found<(n:Int)
structure SInv (i:Nat)(s:Sn):Prop where
 right:BM s.X=0
 ep0:0<=s.X.ez
 ep1:s.X.ez<=i
 past:Nj s.X.ez s.cells
 tru:TrueS s.X s.cells
 lz:NR s.X.cz.length s.X.ez s.cells
 saved:s.saved=[]\/∃Y,BM Y=0/\s.saved=Ef Y/\0<=Y.ez/\Y.ez<=i
theorem SInv.later {i j:Nat}{s:Sn}(h:SInv i s)(a:i<=j):SInv j s:=
 ⟨h.right,h.ep0,by have:=h.ep1;omega,h.past,h.tru,h.lz,h.saved.imp id λ⟨Y,c,d,b,e⟩=>⟨Y,c,d,b,by omega⟩⟩
theorem xkK {X:QW}{ep:Int}{l:List QE}(h:Nj ep l)(b:ep<X.ez):Nj X.ez l/\TrueS X l/\NR X.cz.length X.ez l:=
 ⟨λx a=>Int.le_of_lt (Int.lt_of_le_of_lt (h x a) b),λx a e=>absurd (h x a) (by omega),λx a e=>absurd (h x a) (by omega)⟩
theorem xiT:SInv 0 ⟨xlV,[],[],[]⟩:=⟨by kernel_rfl,by decide,by decide,λ_ h=>(by cases h),λ_ h=>(by cases h),λ_ h=>(by cases h),.inl rfl⟩
theorem SInv.heap {i:Nat}{s:Sn}(h:SInv i s){H:List QO}(a:BM ⟨s.X.cz,H,s.X.ez⟩=0):SInv i ⟨⟨s.X.cz,H,s.X.ez⟩,s.cells,s.ts,s.saved⟩:=⟨a,h.ep0,h.ep1,h.past,h.tru,h.lz,h.saved⟩
theorem SInv.plain {i:Nat}{s:Sn}(h:SInv i s)(v:QV)(name:ByteArray)(a:List QV)(fuel:Int):SInv i ⟨⟨s.X.cz,(Dz s.X v name a fuel).heap,s.X.ez⟩,s.cells,s.ts,s.saved⟩:=h.heap (xgU h.right v name a fuel).1
theorem SInv.object {i:Nat}{s:Sn}(h:SInv i s){c:Int}(b:Dj s.X.cz.length c=true)(a:s.X.heap.length<60):SInv i ⟨⟨s.X.cz,s.X.heap++[⟨c,List.replicate (DY s.X.cz c).toNat BC⟩],s.X.ez⟩,s.cells,s.ts,s.saved⟩:=h.heap (xoH h.right b a)
theorem SInv.save {i:Nat}{s:Sn}(h:SInv i s):SInv i ⟨s.X,s.cells,s.ts,Ef s.X⟩:=⟨h.right,h.ep0,h.ep1,h.past,h.tru,h.lz,.inr ⟨s.X,h.right,rfl,h.ep0,h.ep1⟩⟩
theorem SInv.load {i:Nat}{s:Sn}(h:SInv i s)(e:i<1000){Y:QW}(b:BM Y=0)(d:0<=Y.ez)(c:Y.ez<=i):SInv (i+1) ⟨⟨Y.cz,Y.heap,max Y.ez s.X.ez+1⟩,s.cells,s.ts,s.saved⟩:=by
 have e0:=h.ep0;have e1:=h.ep1;have a:s.X.ez<max Y.ez s.X.ez+1:=by omega
 obtain⟨p1,p2,p3⟩:=xkK (X:=⟨Y.cz,Y.heap,max Y.ez s.X.ez+1⟩) h.past a;exact⟨xry b (by omega) (by omega),by show 0<=max _ _+1;omega,by show max _ _+1<=((i+1:Nat):Int);omega,p1,p2,p3,(h.later (Nat.le_succ i)).saved⟩
theorem SInv.parse {i:Nat}{s:Sn}(h:SInv i s)(c:s.saved≠[]):∃Y,BM Y=0/\s.saved=Ef Y/\Ez s.saved=(Y,0)/\0<=Y.ez/\Y.ez<=i:=by
 rcases h.saved with e | ⟨Y,a,b,f,d⟩
 ·exact absurd e c
 exact⟨Y,a,b,by rw[b];exact xuI (xup a) a,f,d⟩
theorem xfW {e:Int}(a:0<=e)(b:e<=1000):KG e=e+1:=by
 unfold KG wrap64;omega
theorem SInv.inst {i:Nat}{s:Sn}(h:SInv i s)(f:i<1000){c:Nat}{x:QC}(e:s.X.cz[c]?=some x){m:QM}(d:(Em (Cs s.X.cz c) s.X.cz.length c m).1=0)(a:0<=CZ x.mz m.name\/x.mz.length<8):SInv (i+1) ⟨Fs s.X c x m,s.cells,s.ts,s.saved⟩:=by
 have e0:=h.ep0;have e1:=h.ep1;have b:(Fs s.X c x m).ez=s.X.ez+1:=xfW e0 (by omega);obtain⟨p1,p2,p3⟩:=xkK (X:=Fs s.X c x m) h.past (by omega);exact⟨xmk h.right e d a (by omega),by rw[b];omega,by rw[b];omega,p1,p2,p3,(h.later (Nat.le_succ i)).saved⟩
theorem xmO {xs:List QC}{name:ByteArray}{a b c n:Int}{mt:QM}(h:Cp (xs++[⟨name,a,b,[]⟩]) c n=some mt):Cp xs c n=some mt:=by
 unfold Cp at h ⊢
 cases e:Cy (xs++[⟨name,a,b,[]⟩]) c with
 | none=>rw[e] at h;cases h
 | some x=>
  rw[e] at h;simp only[Option.bind_some] at h;obtain⟨k,rfl,d⟩:=Gl e;by_cases hl:k<xs.length
  ·rw[List.getElem?_append_left hl] at d;rw[Mv,d];exact h
  have f:k<xs.length+1:=by have:=(List.getElem?_eq_some_iff.1 d).1;simpa using this
  have:k=xs.length:=by omega
  subst this;rw[List.getElem?_append_right (Bq _)] at d;simp at d;subst d;split at h
  ·simp at h
  cases h
theorem SInv.made {i:Nat}{s:Sn}(h:SInv i s){name:ByteArray}{b a:Int}(m:EF s.X.cz name b a=0):SInv i ⟨DZ s.X name b a,s.cells,s.ts,s.saved⟩:=by
 have f:=xfx h.right;refine⟨xmY h.right m,h.ep0,h.ep1,h.past,λx c e y d nm g=>?_,λx c e y d=>?_,h.saved⟩
 ·obtain⟨l1,l2⟩:=h.lz x c e y d;obtain⟨n,mt,k,z,j,l⟩:=g;have:=h.tru x c e y d nm ⟨n,mt,k,z,xmO j,l⟩;show BF (s.X.cz++_) _ _=BF (s.X.cz++_) _ _;rw[xjY f _ l2,xjY f _ l1];exact this
 obtain⟨l1,l2⟩:=h.lz x c e y d;have:(DZ s.X name b a).cz.length=s.X.cz.length+1:=by simp[DZ]
 rw[this];exact⟨by omega,by omega⟩
theorem xom {X:QW}{l:List QE}(d:Nj X.ez l)(b:NR X.cz.length X.ez l)(s:QS)(c:Int)(nm:ByteArray):Nj X.ez (Dr l X s c nm).1/\NR X.cz.length X.ez (Dr l X s c nm).1:=by
 unfold Dr;split
 ·exact⟨d,b⟩
 split
 ·exact⟨d,b⟩
 rename_i j;have h:Dg X.cz.length (BF X.cz c nm).1=true:=xoo _ _ _ j
 have i:c<(X.cz.length:Int):=by
  by_cases i:c<(X.cz.length:Int)
  ·exact i
  exfalso
  apply j
  have:Cy X.cz c=none:=by
   unfold Cy;split
   ·exact List.getElem?_eq_none (by omega)
   rfl
  unfold BF Df;rw[this];show (-1:Int)<0;omega
 have f:(BF X.cz c nm).1<(X.cz.length:Int):=by simp[Dg] at h;omega
 constructor
 ·intro z a;rcases PC _ _ _ _ z a with a | ⟨-,e,-⟩
  ·exact d z a
  omega
 intro z a e y k;rcases PC _ _ _ _ z a with a | ⟨-,-,m⟩
 ·exact b z a e y k
 rcases m y k with rfl | ⟨x,n,-,ex,g⟩
 ·exact⟨i,f⟩
 exact b x n ex y g
theorem xlP {X:QW}:∀(q:List KP) (st:CSt),Nj X.ez st.cells->NR X.cz.length X.ez st.cells->Nj X.ez (EG X st q).cells/\NR X.cz.length X.ez (EG X st q).cells
 | [],st,h1,h2=>⟨h1,h2⟩
 | a :: q,st,h1,h2=>by
  obtain⟨k1,k2⟩:=xom h1 h2 a.1 a.2.1 a.2.2;exact xlP q _ k1 k2
theorem SInv.cached {i:Nat}{s:Sn}(h:SInv i s)(v:QV)(name:ByteArray)(a:List QV)(fuel:Int)(c b:Int) :
  (DQ (Ds s.X fuel) s.X ⟨s.cells,s.ts,c,b⟩ v name a fuel).1=Dz s.X v name a fuel/\
  SInv i ⟨⟨s.X.cz,(DQ (Ds s.X fuel) s.X ⟨s.cells,s.ts,c,b⟩ v name a fuel).1.heap,s.X.ez⟩,(DQ (Ds s.X fuel) s.X ⟨s.cells,s.ts,c,b⟩ v name a fuel).2.cells,(DQ (Ds s.X fuel) s.X ⟨s.cells,s.ts,c,b⟩ v name a fuel).2.ts,s.saved⟩:=by
 rw[← xef];by_cases hw:EY s.X v name a fuel≠0
 ·unfold DQ;rw[if_pos hw,if_pos hw];exact⟨rfl,h.right,h.ep0,h.ep1,h.past,h.tru,h.lz,h.saved⟩
 obtain⟨q,f⟩:=xfP h.right fuel (st0:=⟨s.cells,s.ts,c,b⟩) h.tru 20 (BF s.X.cz (Ch s.X.heap v) name).1 (BF s.X.cz (Ch s.X.heap v) name).2 v a;have d:=f ⟨s.cells,s.ts,c,b⟩ h.tru
 have e1:Ny s.X (Gs (Ds s.X fuel) s.X ⟨s.cells,s.ts,c,b⟩ v name a)=Ny s.X (Gs (Ht s.X fuel) s.X () v name a):=by
  unfold Ny Gs;rw[d.heap,d.sz_,d.res]
 have e2:(Gs (Ds s.X fuel) s.X ⟨s.cells,s.ts,c,b⟩ v name a).1.st=EG s.X ⟨s.cells,s.ts,c,b⟩ q:=d.st;have e3:TrueS s.X (Gs (Ds s.X fuel) s.X ⟨s.cells,s.ts,c,b⟩ v name a).1.st.cells:=d.tru;obtain⟨k1,k2⟩:=xlP q ⟨s.cells,s.ts,c,b⟩ h.past h.lz;have e:=xgU h.right v name a fuel;rw[← xef] at e;unfold DQ at e ⊢;rw[if_neg hw] at e ⊢;rw[if_neg hw];simp only at e ⊢;rw[e1];rw[← e2] at k1 k2;exact⟨rfl,e.1,h.ep0,h.ep1,k1,e3,k2,h.saved⟩
end Go.Proofs.YtbafokihegegiaaGreatDoor
