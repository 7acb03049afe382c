/- A part. -/
import Derived.Test.YtbafokihegegiaaGreatDoorT4
namespace Go.Proofs.YtbafokihegegiaaGreatDoor
open Go.ChangeShapes Go.WideShapes Go.ChangeAt Go.RowKit
set_option linter.unusedSimpArgs false
set_option linter.unusedVariables false
set_option maxHeartbeats 8000000
set_option maxRecDepth 8000
section
variable {σ:Type} {p:Mp σ} {T T':Nat->Nat} {w w':World} {mb:Nat} {m m':Mc σ} {calls calls':Int} {hv:Value} {g:Nat} {s:Nat->Nat} {K fb:Nat} {f:Fr} {cv av tv sv kv:Value}
theorem xir (h:w.heap[fb]?=some (FB f cv av tv sv kv))(n:Int):(w.setCell (O fb 12) (J n)).heap[fb]?=some (FB { f with pc:=n } cv av tv sv kv):=by
 rw[BW h];rfl
theorem FrAt.pcAt (h:FrAt T K w fb f cv av tv sv kv)(k:Kp (λt=>t=K) T w w')(n:Int)(a:w'.heap[fb]?=some (FB { f with pc:=n } cv av tv sv kv)):FrAt T K w' fb { f with pc:=n } cv av tv sv kv:=
 h.turn k a rfl rfl rfl rfl h.stack h.stag h.few
theorem xlX (h:MacAt p T w mb m calls hv g s)(c:FrAt T K w fb f cv av tv sv kv)(a b:Int)(r:0<=m.tz/\m.tz<=300):Calls Tryz.prog 277 #[qP mb,qP fb,J a,J b] w λe w'=>e=.returned (J (Cr m f a b).2.2)/\MacAt p T w' mb (Cr m f a b).1 calls hv g s/\FrAt T K w' fb (Cr m f a b).2.1 cv av tv sv kv/\Kp (λt=>t=1\/t=K) T w w':=by
 have q:=c.pos;have c6:=h.c6;have cf:=BN h.box;have ff:=BN c.box;have d12:w.cell? (O fb 12)=some (J f.pc):=by rw[Bn c.box];rfl
 have l:¬ mb=fb:=λe=>by have:=h.tag;rw[e,c.tag] at this;omega
 have o:¬ fb=mb:=λe=>l e.symm;have H:=hid h;have j:=hid c;have kM:∀w':qW,Kp (λt=>t=1) T w w'->FrAt T K w' fb f cv av tv sv kv:=λw' k=>c.keep (.refl _ _) k (by omega) (by omega) (by omega) (by omega);clear h c;by_cases hb:b<=a
 ·have n:decide (b<=a)=true:=by simpa using hb
  have u:IntKind.i64.wrap (m.tz+1)=m.tz+1:=CM (by omega) (by omega);have k1:Kp (λt=>t=1) T w (w.setCell (O mb 6) (J (m.tz+1))):=(Kp.refl _ _ _).set (λ_=>H.out.tag) _ _;have m1:=H.out.turn (m':={ m with tz:=m.tz+1 }) (calls':=calls) k1 (xrC H.out.box _) rfl;have f1:=kM _ k1;by_cases h3:300<m.tz+1
  ·have i:Hid (Cr m f a b=({ m with tz:=m.tz+1 },f,16)):=by show _=_;unfold Cr;simp only[hb,if_true];rw[if_pos h3]
   have d:decide (300<m.tz+1)=true:=by simpa using h3
   have K1:=hid k1;have M1:=hid m1;have F1:=hid f1;clear k1 m1 f1 kM;go_enter Tryz.func277,Tryz.ntmps277;go_wp2;go_ret;rw[i.out];exact⟨rfl,M1.out,F1.out,K1.out.mono λt h=>Or.inl h⟩
  have i:Hid (Cr m f a b=({ m with tz:=m.tz+1 },{ f with pc:=b },0)):=by show _=_;unfold Cr;simp only[hb,if_true];rw[if_neg h3]
  have d:decide (300<m.tz+1)=false:=by simpa using h3
  have k2:Kp (λt=>t=K) T (w.setCell (O mb 6) (J (m.tz+1))) ((w.setCell (O mb 6) (J (m.tz+1))).setCell (O fb 12) (J b)):=(Kp.refl _ _ _).set (λ_=>j.out.tag) _ _;have F2:=hid (f1.pcAt k2 b (xir f1.box b));have M2:=hid (m1.keep (.refl _ _) k2 (by omega) (by omega) (by omega));have K2:=hid ((k1.mono (S':=λt=>t=1\/t=K) λt h=>Or.inl h).trans (.refl _ _) (k2.mono λt h=>Or.inr h));clear k1 m1 f1 kM k2;go_enter Tryz.func277,Tryz.ntmps277;go_wp2;go_ret;rw[i.out];exact⟨rfl,M2.out,F2.out,K2.out⟩
 have n:decide (b<=a)=false:=by simpa using hb
 have i:Hid (Cr m f a b=(m,{ f with pc:=b },0)):=by show _=_;unfold Cr;simp only[hb,if_false];rw[if_neg (by omega)]
 have d:decide (300<m.tz)=false:=by simp;omega
 have k2:Kp (λt=>t=K) T w (w.setCell (O fb 12) (J b)):=(Kp.refl _ _ _).set (λ_=>j.out.tag) _ _;have F2:=hid (j.out.pcAt k2 b (xir j.out.box b));have M2:=hid (H.out.keep (.refl _ _) k2 (by omega) (by omega) (by omega));have K2:=hid (k2.mono (S':=λt=>t=1\/t=K) λt h=>Or.inr h);clear kM k2;go_enter Tryz.func277,Tryz.ntmps277;go_wp2;go_ret;rw[i.out];exact⟨rfl,M2.out,F2.out,K2.out⟩
structure PvR (w:qW)(a:QV)(w':qW):Prop where
 a0:w'.cell? (O w.heap.size 0)=some (J a.k)
 a1:w'.cell? (O w.heap.size 1)=some (J a.n)
 r0:w'.cell? (O (w.heap.size+1) 0)=some (J 0)
 r1:w'.cell? (O (w.heap.size+1) 1)=some (J 0)
 rf:∀o,w'.frozen? (O (w.heap.size+1) o)=false
 sz:w.heap.size+2<=w'.heap.size
theorem PvR.later {w:qW}{a:QV}{w' w'':qW}(h:PvR w a w')(d:∀b,w.heap.size<=b->b<w'.heap.size->b<w.heap.size+2->w''.heap[b]?=w'.heap[b]?)(g:w'.heap.size<=w''.heap.size):PvR w a w'':=by
 have c:∀b o v,w.heap.size<=b->b<w.heap.size+2->w'.cell? (O b o)=some v->w''.cell? (O b o)=some v:=λb o v f j hv=>by
  have i:=World.block_lt_of_cell? w' (O b o) hv;unfold World.cell? at hv ⊢;rw[d b f i j];exact hv
 refine⟨c _ _ _ (Bq _) (by omega) h.a0,c _ _ _ (Bq _) (by omega) h.a1,c _ _ _ (by omega) (by omega) h.r0,c _ _ _ (by omega) (by omega) h.r1,λo=>?_,BX h.sz g⟩;have:=h.rf o;have e:=h.sz;unfold World.frozen? at this ⊢;simp only at this ⊢;rw[d (w.heap.size+1) (by omega) (by omega) (by omega)];exact this
theorem xnv (w:qW)(a:QV):PvR w a ((w.alloc (qH a)).alloc (qQ)):=by
 refine⟨Bf (Bg _ _) (Bp _ _ _ _ rfl 0),Bf (Bg _ _) (Bp _ _ _ _ rfl 1),Bp _ _ _ _ (by simp) 0,Bp _ _ _ _ (by simp) 1,λo=>BN (cur:=#[J 0,J 0]) (t:=41) ?_ o,by simp⟩;have:=BH (w.alloc (qH a)) (qQ);simpa using this
def GY (E:Env σ)(m:Mc σ)(pr:Int)(self:QV)(args:List QV):Mc σ × QV × Int:=if E.fuel<=m.sz_ then (m,BC,13) else ({ m with sz_:=m.sz_+1 },Fv pr self (CR args 0))
theorem MacAt.tagged0 (h:MacAt p T w mb m calls hv g s)(t:Nat):MacAt p (Dw T w t) w mb m calls hv g s:=h.keep (S:=λ_=>False) (EW T w t) (Kp.refl _ _ _) id id id
theorem FrAt.tagged0 (h:FrAt T K w fb f cv av tv sv kv)(t:Nat):FrAt (Dw T w t) K w fb f cv av tv sv kv:=h.keep (S:=λ_=>False) (EW T w t) (Kp.refl _ _ _) id id id id
theorem xfh {α:Type}{E:CT α}{sz bytes:Nat}{v:Value}{xs:List α}(h:IsRow E sz bytes (Fx T w) w v xs)(G:Good E sz)(t:Nat):IsRow E sz bytes (Fx (Dw T w t) w) w v xs:=h.fx G (EW T w t) (Kp.refl (λ_=>False) T w) id
theorem xiZ (h:MacAt p T w mb m calls hv g s)(h0:0<=m.sz_)(h1:p.E.fuel<=9000000000000000000)(pr:Int)(self:QV)(c:List QV)(av:Value)(X:CG (Fx T w) w av c)(Z:self.k=3->-1073741824<=self.n/\self.n<=1073741824)(K:(CR c 0).k=3->-1073741824<=(CR c 0).n/\(CR c 0).n<=1073741824) :
  Calls Tryz.prog 229 #[qP mb,J pr,VV self,av] w λe w'=>e=.returned (.tuple #[VV (GY p.E m pr self c).2.1,J (GY p.E m pr self c).2.2])/\(∃T',Ext T T' w/\MacAt p T' w' mb (GY p.E m pr self c).1 calls hv g s)/\Kp (λt=>t=1) T w w':=by
 have a3:=By h.box;have hR:=xnv w self;have l:=BG w (qH self) (qQ);have hM:=(h.tagged0 4).later l;have hA:=(xfh X BZ 4).fx BZ (.refl _ w) (Kp.of_below (S:=λ_=>False) l) id;have L:=EW T w 4;have q:∀b,w.heap.size<=b->Dw T w 4 b=4:=λb K=>Gr K;obtain⟨a,cap,rfl,-⟩:=id X;clear X h;generalize Dw T w 4=T1 at *;go_enter Tryz.func229,Tryz.ntmps229;go_upto_region 1 with (fail);generalize ((w.alloc (qH self)).alloc (qQ))=W at *;go_wp2_with fail;refine (xit hM h0 h1).mono ?_;rintro e w1 ⟨rfl,d,f⟩;have F:=hA.fx BZ (.refl _ _) f (by omega);have r:PvR w self w1:=hR.later (λb R l j=>f.blk b l (by rw[q b R];omega)) f.size;have KW:Hid (Kp (λt=>t=1) T w w1):=hid (((Kp.of_below l).trans L f));clear f hA hR hM l;by_cases hf:p.E.fuel<=m.sz_
 ·have B:Hid (GY p.E m pr self c=(m,BC,13)):=by show _=_;unfold GY;rw[if_pos hf]
  rw[if_pos hf] at d ⊢;obtain⟨a0,a1,r0,r1,rf,sz⟩:=r;go_wp2;refine Bt (v:=.tuple #[VV BC,J 13]) ?_ rfl ⟨by rw[B.out],?_,?_⟩
  ·simp[results,Tryz.results229,go_sem,r0,r1]
  ·rw[B.out];exact⟨T1,L,d.keep (.refl _ _) (((Kp.refl (λt=>t=4) _ _).set (λ_=>q _ (by omega)) _ _).set (λ_=>q _ (by omega)) _ _) (by omega) (by omega) (by omega)⟩
  exact (KW.out.set (λh=>absurd h (by omega)) _ _).set (λh=>absurd h (by omega)) _ _
 have B:Hid (GY p.E m pr self c=({ m with sz_:=m.sz_+1 },Fv pr self (CR c 0))):=by show _=_;unfold GY;rw[if_neg hf]
 rw[if_neg hf] at d ⊢;have H:=r.later (w'':=w1.drew) (λb _ _ _=>rfl) (Bq _);have M:=F.later BZ (Br _ w1).drew;have D:=d.later (Br _ w1).drew;have i:w1.drew.cell? (O w.heap.size 0)=some (J self.k)/\w1.drew.cell? (O w.heap.size 1)=some (J self.n):=⟨H.a0,H.a1⟩;have KW2:=hid KW.out.drew;have HQ:=hid H;have Y:=hid D;have HS:=hid Z;have y:=hid K;clear F r d KW H D Z K;have a2:w.heap.size≠w.heap.size+1:=by omega
 go_wp2;obtain⟨u,N⟩:∃u,u=CR c 0:=⟨_,rfl⟩;rw[← N] at y B;have G:Calls Tryz.prog 255 #[qS a c.length cap,J 0] w1.drew λe w'=>e=.returned (VV u)/\Below w1.drew.heap.size w1.drew w':=by rw[N];exact NB c _ 0 _ M
 clear N;obtain⟨v1,e1,Q⟩:∃v1 e1,Fv pr self u=(v1,e1):=⟨_,_,rfl⟩;have C:∀w,Calls Tryz.prog 254 #[J pr,VV self,VV u] w λe w'=>e=.returned (.tuple #[VV v1,J e1])/\qY w w':=λw=>by have:=xpu pr self u w HS.out y.out;rw[Q] at this;exact this
 rw[Q] at B;clear Q HS y;have tokA:True:=trivial
 go_region_held3 (λw'=>w'.cell? (O w.heap.size 0)=some (J self.k)/\w'.cell? (O w.heap.size 1)=some (J self.n))
  (first | with_reducible exact i | with_reducible exact U | with_reducible exact z | exact⟨(BV _ _ _ _ (by simp)).trans ((BV _ _ _ _ (by simp)).trans z.1),(BV _ _ _ _ (by simp)).trans ((BV _ _ _ _ (by simp)).trans z.2)⟩)
  (first
   | (have _t:=tokA;go_at_call 255;refine G.mono ?_;rintro e w2 ⟨rfl,l⟩;have U:=And.intro (Bf l i.1) (Bf l i.2);clear tokA;have tokB:True:=trivial)
   | (have _t:=tokB;go_at_call 254;refine (C _).mono ?_;rintro e w3 ⟨rfl,j⟩;have o:=Bh l j;have V:=HQ.out.later (λb _ hl _=>o.block b hl) o.size;obtain⟨a0,a1,r0,r1,rf,sz⟩:=V;have z:=And.intro a0 a1;clear tokB))
 go_wp2;refine Bt (v:=.tuple #[VV v1,J e1]) ?_ rfl ⟨by rw[B.out],?_,?_⟩
 ·simp[results,Tryz.results229,go_sem,r0,r1]
 ·rw[B.out];exact⟨T1,L,(Y.out.later o).keep (.refl _ _) (((Kp.refl (λt=>t=4) _ _).set (λ_=>q _ (by omega)) _ _).set (λ_=>q _ (by omega)) _ _) (by omega) (by omega) (by omega)⟩
 exact ((KW2.out.on o).set (λh=>absurd h (by omega)) _ _).set (λh=>absurd h (by omega)) _ _
end
theorem xj7 {P:Nat->Prop}(xs:List QV)(v:Value)(w:qW)(r:CG P w v xs):Calls Tryz.prog 77 #[v] w λe w'=>∃g,e=.returned (qG g xs.length xs.length)/\w'.heap[g]?=some (.cells (Cf xs).toArray 41 (0,0))/\w.heap.size<=g/\qY w w':=by
 obtain⟨ad,cap,rfl,s,i,f,d⟩:=r;have n:=Ns xs.length f;obtain⟨cs,b,c⟩:=d.cells BZ
 obtain⟨w1,k,l,m⟩:=xcD (P:=Tryz.prog) (w.alloc (.cells (madeCells #[J 0,J 0] (xs.length*2)) 41)) 52 52 3 41 2 w.heap.size xs.length xs.length ad cap (madeCells #[J 0,J 0] (xs.length*2)) 41 cs Tryz.underlying52 xrg (BH w _) b.1
  (λj v q=>by obtain⟨a,e,h⟩:=c j v q;exact⟨a,e,Bf (Bg _ _) h⟩) (size_madeCells _ _) (b.all BZ)
 have p:=m w.heap.size w (Bg _ _) (Bq _);have o:Hid (w1.heap[w.heap.size]?=some (.cells (Cf xs).toArray 41 (0,0))):=by show _=_;rw[← xff (E:=()) b];exact l
 clear l m d b c;go_enter Tryz.func77,Tryz.ntmps77;go_wp2;go_ret;exact⟨_,rfl,o.out,Bq _,p⟩
structure HRow (w:qW)(B:Nat)(s:Nat->Nat)(xs:List QO)(j:Nat):Prop where
 row:∃cur:Array Value,w.heap[B]?=some (.cells cur 84 (0,0))/\cur.size=xs.length*2
 obj:∀i x,i<j->xs[i]?=some x->w.cell? (O B (i*2))=some (J x.cls)/\w.cell? (O B (i*2+1))=some (qS (some (O (s i) 0)) x.slots.length x.slots.length)/\w.heap[s i]?=some (.cells (Cf x.slots).toArray 41 (0,0))/\B<s i/\x.slots.length*16<=140737488351232
 inc:∀i k,i<k->k<j->s i<s k
 lt:∀i,i<j->s i<w.heap.size
theorem HRow.later {w w':qW}{B:Nat}{s:Nat->Nat}{xs:List QO}{j:Nat}(h:HRow w B s xs j)(a:qY w w'):HRow w' B s xs j:=by
 obtain⟨⟨cur,c,f⟩,k,d,e⟩:=h;refine⟨⟨cur,by rw[a.block _ (By c)];exact c,f⟩,λi x b g=>?_,d,λi b=>Cd (e i b) a.size⟩;obtain⟨e1,e2,e3,e4,e5⟩:=k i x b g;exact⟨Bf a e1,Bf a e2,by rw[a.block _ (By e3)];exact e3,e4,e5⟩
theorem HRow.start {w:qW}(s:Nat->Nat)(xs:List QO)(c:Array Value)(b:c.size=xs.length*2):HRow (w.alloc (.cells c 84)) w.heap.size s xs 0:=
 ⟨⟨c,BH w _,b⟩,λi x a _=>by omega,λi k _ d=>by omega,λi a=>by omega⟩
theorem HRow.step {w:qW}{B:Nat}{s:Nat->Nat}{xs:List QO}{j g:Nat}{x:QO}(h:HRow w B s xs j)(n:xs[j]?=some x)(m:w.heap[g]?=some (.cells (Cf x.slots).toArray 41 (0,0)))(u:B<g)(o:∀i,i<j->s i<g)(a:x.slots.length*16<=140737488351232) :
  HRow (w.setCells B (j*2) [J x.cls,qG g x.slots.length x.slots.length]) B (λi=>if i=j then g else s i) xs (j+1):=by
 obtain⟨⟨cur,e,v⟩,z,p,r⟩:=h;have C:=Bz n;refine⟨NF _ _ w ⟨cur,e,v⟩,λi y c d=>?_,λi k c b=>?_,λi c=>?_⟩
 ·by_cases hij:i=j
  ·subst hij;rw[n] at d
   cases d;have f:=λk (b:k<2)=>World.cell?_setCells_in B [J x.cls,qG g x.slots.length x.slots.length] (i*2) w (λq t=>by rw[Bn e];simp at t ⊢;omega) k b;simp only[if_true];exact⟨f 0 (by omega),f 1 (by omega),by rw[Er (by omega)];exact m,u,a⟩
  obtain⟨e1,e2,e3,e4,e5⟩:=z i y (by omega) d;have l:=λk (b:k<2)=>World.cell?_setCells_out B [J x.cls,qG g x.slots.length x.slots.length] (j*2) w (O B (i*2+k)) (λ_ _=>Or.inl (by simp;omega));simp only[hij,if_false];exact⟨(l 0 (by omega)).trans e1,(l 1 (by omega)).trans e2,by rw[Er (by omega)];exact e3,e4,e5⟩
 ·by_cases hkj:k=j
  ·simp only[hkj,if_true,show i≠j by omega,if_false];exact o i (by omega)
  simp only[hkj,if_false,show i≠j by omega];exact p i k c (by omega)
 rw[Ks];by_cases hij:i=j
 ·simp only[hij,if_true];exact By m
 simp only[hij,if_false];exact r i (by omega)
theorem HRow.setLow {w:qW}{B d:Nat}{s:Nat->Nat}{xs:List QO}{j:Nat}(h:HRow w B s xs j)(m:d<B)(o:Nat)(v:Value):HRow (w.setCell (O d o) v) B s xs j:=by
 obtain⟨⟨cur,b,f⟩,l,c,e⟩:=h;refine⟨⟨cur,by rw[BS (by omega)];exact b,f⟩,λi x a g=>?_,c,λi a=>by rw[GT];exact e i a⟩;obtain⟨e1,e2,e3,e4,e5⟩:=l i x a g;have k:=λ(o':Nat)=>BV w (O d o) (O B o') v (by simp;omega);exact⟨(k _).trans e1,(k _).trans e2,by rw[BS (by omega)];exact e3,e4,e5⟩
theorem HRow.heap {w:qW}{g:Nat}{s:Nat->Nat}{xs:List QO}(h:HRow w g s xs xs.length)(a:xs.length*32<=140737488351232){T:Nat->Nat}(c:∀b,g<=b->b<w.heap.size->T b=2):HeapSt T w (qG g xs.length xs.length) g s xs:=by
 obtain⟨⟨cur,d,p⟩,n,f,o⟩:=h;refine⟨⟨_,rfl,Bq _,by unfold maxLen;omega⟩,a,By d,c g (Bq _) (By d),λi x k=>?_,λi j l m e=>?_⟩
 ·obtain⟨e1,e2,e3,e4,e5⟩:=n i x (Bz k) k;exact⟨e1,e2,e3,c _ (by omega) (By e3),by omega,e5⟩
 rcases Nat.lt_trichotomy i j with h | h | h
 ·have:=f i j h m;omega
 ·exact h
 have:=f j i h l;omega
theorem xlx {P:Nat->Prop}(D:List QO)(v:Value)(w:qW)(V:BP P w v D):Calls Tryz.prog 49 #[v] w λe w'=>∃g s,e=.returned (qG g D.length D.length)/\HRow w' g s D D.length/\w.heap.size<=g/\qY w w':=by
 obtain⟨ad,cap,rfl,Y,B,z,k⟩:=V;have Q:=xox D.length z;go_enter Tryz.func49,Tryz.ntmps49;go_wp2
 go_loopg [11] D.length (λg c wr=>∃j:Nat,j+g=D.length/\c=J j/\qY w wr/\(∃s,HRow wr w.heap.size s D j)/\w.heap.size<wr.heap.size)
 case atStart=>exact⟨0,by omega,rfl,Bg _ _,⟨λ_=>0,HRow.start _ _ _ (size_madeCells _ _)⟩,by simp⟩
 case round=>
  obtain⟨j,Z,rfl,d,⟨s,m⟩,hz⟩:=hrel;clear Q;by_cases hlt:j<D.length
  ·obtain⟨b,o,rfl,-,n,sv,p,t⟩:=k j D[j] (by simp[hlt]);simp only[Nat.add_zero] at n;have N:Hid (D[j]?=some D[j]):=by show _=_;simp[hlt]
   generalize D[j]=x at *;have u1:=Bf d n;have u2:=Bf d p;have F:=t.later BZ d;obtain⟨f,a,rfl,C,y,r,l⟩:=id F;clear n p t l;have T:(j:Int)<(D.length:Int):=by omega
   have U:(0:Int)<=(j:Int):=by omega
   go_wp2;have H:qY wr (wr.alloc (qC #[J x.cls,qS f x.slots.length a] 84)).drew:=(Bg _ _).drew;have R:=F.later BZ H;have L:=m.later H;have K:=d.trans (H.mono (by omega));have c1:(wr.alloc (qC #[J x.cls,qS f x.slots.length a] 84)).drew.cell? (O wr.heap.size 0)=some (J x.cls):=by simp
   have c2:(wr.alloc (qC #[J x.cls,qS f x.slots.length a] 84)).drew.cell? (O wr.heap.size 1)=some (qS f x.slots.length a):=by simp
   have M:(wr.alloc (qC #[J x.cls,qS f x.slots.length a] 84)).drew.heap.size=wr.heap.size+1:=by simp
   clear F u1 u2 k
   go_region_held3 (λw'=>w'.cell? (O wr.heap.size 0)=some (J x.cls)/\w'.cell? (O wr.heap.size 1)=some (qS f x.slots.length a)) (first | exact⟨c1,c2⟩ | exact⟨d1,d2⟩ | exact⟨(DX _ _ _ _ (by first | (simp;done) | (simp;omega))).trans ((DX _ _ _ _ (by first | (simp;done) | (simp;omega))).trans d1),(DX _ _ _ _ (by first | (simp;done) | (simp;omega))).trans ((DX _ _ _ _ (by first | (simp;done) | (simp;omega))).trans d2)⟩)
    (first | (go_at_call 77;refine (xj7 x.slots _ _ R).mono ?_;rintro e w1 ⟨g',rfl,u,q,h⟩;have G:=L.later h;obtain⟨cur,k1,k2⟩:=G.row;have f1:∀o,w1.frozen? (O w.heap.size o)=false:=λo=>(by simp[World.frozen?,k1]);have d1:=Bf h c1;have d2:=Bf h c2;have e1:w1.cell? (O w.heap.size (j*2))=some (cur[j*2]'(by omega)):=(by rw[Bn k1];simp);have e2:w1.cell? (O w.heap.size (j*2+1))=some (cur[j*2+1]'(by omega)):=(by rw[Bn k1];simp)))
   go_wp2;go_roundg (gk-1)
   case measure=>omega
   case rel=>
    have S:w.heap.size<w1.heap.size:=Cd (by omega) h.size;refine⟨j+1,by omega,by go_num,((K.trans (h.mono (by omega))).setCell (Bq _) _).setCell (Bq _) _,?_,by simp;omega⟩;have W:wr.heap.size+1<=g':=by rw[M] at q;exact q
    exact⟨_,G.step N.out u (by omega) (λi X=>by have:=m.lt i X;omega) r⟩
  obtain rfl:j=D.length:=by omega
  go_wp2;go_ret;exact⟨_,s,rfl,m,Bq _,d⟩
theorem xn9 {P:Nat->Prop}(X:QW)(cv hv:Value)(w:qW)(h1:BK P w cv X.cz)(h2:BP P w hv X.heap):Calls Tryz.prog 32 #[WV cv hv X.ez] w λe w'=>∃g gh s,e=.returned (WV (qG g X.cz.length X.cz.length) (qG gh X.heap.length X.heap.length) X.ez)/\OwnC w' g X.cz s X.cz.length/\
  (∃sh,HRow w' gh sh X.heap X.heap.length)/\s X.cz.length<=gh/\w.heap.size<=g/\qY w w':=by
 obtain⟨ad,cap,rfl,hl,N,K,m⟩:=h1;obtain⟨l,h,rfl,Q,H,M,n⟩:=id h2;have a2:=xjj X.cz.length K;go_enter Tryz.func32,Tryz.ntmps32;go_wp2;have hW:=DW w (qA ad cap l h X) (qO) (Obj.cells (madeCells #[Value.string { data:=#[] },J 0,J 0,qN] (X.cz.length*4)) 80);have W:=OwnC.start ((w.alloc (qA ad cap l h X)).alloc (qO)) X.cz (madeCells #[Value.string { data:=#[] },J 0,J 0,qN] (X.cz.length*4)) (size_madeCells _ _);rw[show ((w.alloc (qA ad cap l h X)).alloc (qO)).heap.size=w.heap.size+1+1 by simp] at W
 go_loopg [13] X.cz.length (λg c wr=>∃j:Nat,j+g=X.cz.length/\c=J j/\Below (w.heap.size+1+1) ((w.alloc (qA ad cap l h X)).alloc (qO)) wr/\∃s,OwnC wr (w.heap.size+1+1) X.cz s j)
 case atStart=>exact⟨0,by omega,rfl,(Br _ _).alloc (by simp) _,_,W⟩
 case round=>
  obtain⟨j,hj,rfl,f,s,S⟩:=hrel;clear a2 W;have T:qY w wr:=(BG _ _ _).trans (f.mono (by omega));have hz:w.heap.size+1+1<wr.heap.size:=by obtain⟨⟨cur,k,-⟩,-⟩:=S;exact By k
  by_cases hlt:j<X.cz.length
  ·obtain⟨b,o,rfl,-,p,r,q,L,sv,z,C⟩:=m j X.cz[j] (by simp[hlt]);have a0:Hid (X.cz[j]?=some X.cz[j]):=by show _=_;simp[hlt]
   generalize X.cz[j]=x at *;simp only[Nat.add_zero] at p;have u0:=Bf T p;have u1:=Bf T r;have u2:=Bf T q;have u4:=Bf T z;have V:=C.later xbj T;obtain⟨G,B,rfl,-,-,y,-⟩:=id V;clear p r q z C m;have a4:(j:Int)<(X.cz.length:Int):=by omega
   have a5:(0:Int)<=(j:Int):=by omega
   go_wp2_with fail;refine (xgy x.mz _ _ (V.later xbj (Bg _ _))).mono ?_;rintro e w1 ⟨g',rfl,hM,F,Z⟩;obtain⟨hc,hf⟩:=Hq Z;have h5:s j<=wr.heap.size:=S.2.2.2.1;replace S:=(S.later (Bg _ _)).later Z;have aa:wr.heap.size+1<=g':=by simpa using F
   have a9:wr.heap.size+1<=w1.heap.size:=by have:=Z.size;simpa using this
   replace S:=S.set h5 3 (qG g' x.mz.length x.mz.length);replace hM:=hM.set (d:=wr.heap.size) xbj (by omega) 3 (qG g' x.mz.length x.mz.length);have ab:(w1.setCell (O wr.heap.size 3) (qG g' x.mz.length x.mz.length)).heap.size=w1.heap.size:=by simp
   have d3:(w1.setCell (O wr.heap.size 3) (qG g' x.mz.length x.mz.length)).cell? (O wr.heap.size 3)=some (qG g' x.mz.length x.mz.length):=Kw (v:=qS G x.mz.length B) (by rw[hc _ _ (by simp)];simp) _;obtain⟨⟨cur,k1,k2⟩,k3⟩:=id S;have f1:∀o,(w1.setCell (O wr.heap.size 3) (qG g' x.mz.length x.mz.length)).frozen? (O (w.heap.size+1+1) o)=false:=λo=>(by simp only[World.frozen?,k1];simp)
   have f2:∀o,w1.frozen? (O (w.heap.size+1+1) o)=false:=λo=>(by rw[← World.frozen?_setCell (a:=(O wr.heap.size 3)) (v:=(qG g' x.mz.length x.mz.length))];exact f1 o)
   have ex:∀o,o<X.cz.length*4->∃u,w1.cell? (O (w.heap.size+1+1) o)=some u:=λo ho=>by
    have:=BV w1 (O wr.heap.size 3) (O (w.heap.size+1+1) o) (qG g' x.mz.length x.mz.length) (by simp;omega);rw[Bn k1] at this;exact⟨cur[o]'(by omega),by rw[← this];simp⟩
   obtain⟨y0,e0⟩:=ex (j*4) (by omega);obtain⟨y1,e1⟩:=ex (j*4+1) (by omega);obtain⟨y2,e2⟩:=ex (j*4+2) (by omega);obtain⟨y3,e3⟩:=ex (j*4+3) (by omega);have a7:¬ wr.heap.size=w.heap.size+1+1:=by omega
   have a3:¬ w.heap.size+1+1=wr.heap.size:=by omega
   clear k1 k2 k3;go_wp2;go_roundg (gk-1)
   case measure=>omega
   case rel=>
    obtain⟨s',D⟩:=S.step a0.out L (by omega) hM y;refine⟨j+1,by omega,by go_num,?_,s',D⟩;exact (((((f.trans (((Bg _ _).trans (Z.mono (by simp))).mono (by omega))).setCell (by simp;omega) _).setCell (by simp) _).setCell (by simp) _).setCell (by simp) _).setCell (by simp) _
  obtain rfl:j=X.cz.length:=by omega
  have q1:wr.drew.cell? (O w.heap.size 1)=some (qS l X.heap.length h):=by
   show wr.cell? _=_;rw[f.cell (by simp;omega)];simp
  have q2:wr.drew.cell? (O w.heap.size 2)=some (J X.ez):=by
   show wr.cell? _=_;rw[f.cell (by simp;omega)];simp
  have r0:wr.drew.cell? (O (w.heap.size+1) 0)=some (qN):=by
   show wr.cell? _=_;rw[f.cell (by simp)];simp
  have r1:wr.drew.cell? (O (w.heap.size+1) 1)=some (qN):=by
   show wr.cell? _=_;rw[f.cell (by simp)];simp
  have r2:wr.drew.cell? (O (w.heap.size+1) 2)=some (J 0):=by
   show wr.cell? _=_;rw[f.cell (by simp)];simp
  have rf:∀o,wr.drew.frozen? (O (w.heap.size+1) o)=false:=λo=>by
   show wr.frozen? _=_;rw[f.frozen (by simp)];simp
  have hH:=h2.later BB T.drew;have U:=S.later (Br _ _).drew;have a6:s X.cz.length<=wr.drew.heap.size:=U.2.2.2.1;have a8:w.heap.size+1+1<wr.drew.heap.size:=hz;have a1:=T.drew;clear S hW m n f T h2;go_wp2_with fail
  go_region_held3 (λw'=>w'.cell? (O w.heap.size 1)=some (qS l X.heap.length h)/\w'.cell? (O w.heap.size 2)=some (J X.ez)) (first | exact⟨q1,q2⟩ | exact⟨d1,d2⟩ | exact⟨(DX _ _ _ _ (by first | (simp;done) | (simp;omega))).trans ((DX _ _ _ _ (by first | (simp;done) | (simp;omega))).trans ((DX _ _ _ _ (by first | (simp;done) | (simp;omega))).trans d1)),(DX _ _ _ _ (by first | (simp;done) | (simp;omega))).trans ((DX _ _ _ _ (by first | (simp;done) | (simp;omega))).trans ((DX _ _ _ _ (by first | (simp;done) | (simp;omega))).trans d2))⟩)
   (first | (go_at_call 49;refine (xlx X.heap _ _ hH).mono ?_;rintro e w1 ⟨gh,sh,rfl,t,R,i⟩;have d1:=Bf i q1;have d2:=Bf i q2;have t0:=Bf i r0;have t1:=Bf i r1;have t2:=Bf i r2;have tf:∀o,w1.frozen? (O (w.heap.size+1) o)=false:=λo=>(i.frozen (by simp;omega)).trans (rf o)))
  go_wp2;have Y:=U.later i;refine Bt (v:=WV (qS (some (O (w.heap.size+1+1) 0)) X.cz.length X.cz.length) (qG gh X.heap.length X.heap.length) X.ez) ?_ rfl ⟨_,gh,s,rfl,?_,⟨sh,?_⟩,by omega,by omega,?_⟩
  ·simp[results,Tryz.results32,go_sem,t0,t1,t2]
  ·exact ((Y.setLow (by omega) _ _).setLow (by omega) _ _).setLow (by omega) _ _
  ·exact ((t.setLow (by omega) _ _).setLow (by omega) _ _).setLow (by omega) _ _
  exact (((Bh a1 i).setCell (by simp) _).setCell (by simp) _).setCell (by simp) _
section
variable {σ:Type} {p:Mp σ} {T T':Nat->Nat} {w w':World} {mb:Nat} {m m':Mc σ} {calls calls':Int} {hv:Value} {g:Nat} {s:Nat->Nat} {K fb:Nat} {f:Fr} {cv av tv sv kv:Value}
theorem HeapSt.slots {xs:List QO}(h:HeapSt T w hv g s xs){i:Nat}{x:QO}(r:xs[i]?=some x){vs:List QV}(k:Kp (λt=>t=1) (λb=>if b=s i then 1 else 0) w w')(z:w'.heap[s i]?=some (.cells (Cf vs).toArray 41 (0,0)))(m:vs.length=x.slots.length):HeapSt T w' hv g s (xs.set i ⟨x.cls,vs⟩):=by
 have p:=Bz r;obtain⟨e1,e2,e3,e4,e5,e6⟩:=h.obj i x r;have n:∀b,b<w.heap.size->b≠s i->w'.heap[b]?=w.heap[b]?:=λb l f=>k.blk b l (by simp[f])
 have d:∀o u,w.cell? (O g o)=some u->w'.cell? (O g o)=some u:=λo u q=>by
  unfold World.cell? at q ⊢;rw[n g h.there (Ne.symm e5)];exact q
 refine⟨by simpa using h.form,by simpa using h.len,Cd h.there k.size,h.tg,λj y c=>?_,λa b v l=>h.inj a b (by simpa using v) (by simpa using l)⟩;by_cases hj:j=i
 ·subst hj;rw[List.getElem?_set_self p] at c
  cases c;exact⟨d _ _ e1,by rw[m];exact d _ _ e2,z,e4,e5,by rw[m];exact e6⟩
 rw[List.getElem?_set_ne (by omega)] at c;obtain⟨d1,d2,d3,d4,d5,d6⟩:=h.obj j y c;exact⟨d _ _ d1,d _ _ d2,by rw[n _ (By d3) λe=>hj (h.inj j i (Bz c) p e)];exact d3,d4,d5,d6⟩
theorem xhb (h:MacAt p T w mb m calls hv g s)(v:QV)(n:Int)(x:QV):Calls Tryz.prog 274 #[qP mb,VV v,J n,VV x] w λe w'=>e=.returned (.tuple #[])/\(∃T',Ext T T' w/\MacAt p T' w' mb { m with heap:=FF m.heap v n x } calls hv g s)/\Kp (λt=>t=2) T w w':=by
 have Y:=By h.box;have z:=BG w (qH v) (qH x);have B:=(h.tagged0 4).later z;have L:=EW T w 4;have G:∀b,w.heap.size<=b->Dw T w 4 b=4:=λb hb=>Gr hb;have b0:((w.alloc (qH v)).alloc (qH x)).cell? (O w.heap.size 0)=some (J v.k):=Bf (Bg _ _) (Bp _ _ _ _ rfl 0);have b1:((w.alloc (qH v)).alloc (qH x)).cell? (O w.heap.size 1)=some (J v.n):=Bf (Bg _ _) (Bp _ _ _ _ rfl 1);have x0:((w.alloc (qH v)).alloc (qH x)).cell? (O (w.heap.size+1) 0)=some (J x.k):=Bp _ _ _ _ (by simp) 0;have x1:((w.alloc (qH v)).alloc (qH x)).cell? (O (w.heap.size+1) 1)=some (J x.n):=Bp _ _ _ _ (by simp) 1;clear h;generalize Dw T w 4=T1 at *;go_enter Tryz.func274,Tryz.ntmps274;go_upto_region 1 with (fail);generalize ((w.alloc (qH v)).alloc (qH x))=W at *;have c1:=B.c1;obtain⟨cap,rfl,u,i⟩:=B.heap.form;unfold maxLen at i;have KW:Hid (Kp (λt=>t=2) T w W):=Kp.of_below z;have Z:=hid B
 cases y:KN m.heap.length v with
 | false=>
  have R:Hid (FF m.heap v n x=m.heap):=by show _=_;unfold FF;rw[xiw y]
  have K:Hid ((∃T',Ext T T' w/\MacAt p T' W.drew mb { m with heap:=FF m.heap v n x } calls (qG g m.heap.length cap) g s)/\Kp (λt=>t=2) T w W.drew):=⟨⟨T1,L,by rw[R.out];exact B.later (Br _ _).drew⟩,KW.out.drew⟩
  clear B z;unfold KN at y;simp only[decide_eq_false_iff_not] at y;by_cases D:v.k=4
  ·have C:(v.k == 4)=true:=by simpa using D
   by_cases hn:v.n<0
   ·have M:decide (0<=v.n)=false:=by simpa using hn
    clear y
    go_region
    go_wp2;exact bodyPost_end (v:=.tuple #[]) (by simp[results,Tryz.results274,go_sem]) rfl ⟨rfl,K.out⟩
   have M:decide (0<=v.n)=true:=by simpa using hn
   have hl:decide (v.n<(m.heap.length:Int))=false:=by simp;omega
   clear y
   go_region
   go_wp2;exact bodyPost_end (v:=.tuple #[]) (by simp[results,Tryz.results274,go_sem]) rfl ⟨rfl,K.out⟩
  have C:(v.k == 4)=false:=by simpa using D
  clear y
  go_region
  go_wp2;exact bodyPost_end (v:=.tuple #[]) (by simp[results,Tryz.results274,go_sem]) rfl ⟨rfl,K.out⟩
 | true=>
  obtain⟨j,o,N,q,c,f⟩:=xle y;have D:v.k=4:=by unfold KN at y;simp only[decide_eq_true_eq] at y;exact y.1
  have C:(v.k == 4)=true:=by simpa using D
  have R:Hid (FF m.heap v n x=m.heap.set j ⟨o.cls,EQ o.slots n x⟩):=by show _=_;unfold FF;rw[f];simp[N]
  obtain⟨e1,e2,e3,e4,e5,e6⟩:=B.heap.obj j o c;have HJ:=hid c;rw[N] at b1;have U:(j:Int)<(m.heap.length:Int):=by omega
  have V:(0:Int)<=(j:Int):=by omega
  have n1:¬ mb=s j:=λe=>by have:=B.tag;rw[e,e4] at this;omega
  have n2:¬ w.heap.size=s j:=λe=>by have:=G w.heap.size (Bq _);rw[e,e4] at this;omega
  have n3:¬ w.heap.size+1=s j:=λe=>by have:=G (w.heap.size+1) (by omega);rw[e,e4] at this;omega
  have n4:¬ g=s j:=Ne.symm e5;have Q:Hid (W.drew.drew.heap[s j]?=some (.cells (Cf o.slots).toArray 41 (0,0))):=e3;have a:W.drew.drew.cell? (O mb 1)=some (qG g m.heap.length cap)/\W.drew.drew.cell? (O w.heap.size 1)=some (J (j:Int))/\W.drew.drew.cell? (O (w.heap.size+1) 0)=some (J x.k)/\W.drew.drew.cell? (O (w.heap.size+1) 1)=some (J x.n)/\W.drew.drew.cell? (O g (j*2+1))=some (qS (some (O (s j) 0)) o.slots.length o.slots.length):=⟨c1,b1,x0,x1,e2⟩;have X:=hid e4;clear y N f z D e1 e3 e4 e5 e6 B c
  go_region
  go_wp2;clear b0 b1 x0 x1 c1 e2;have H:Calls Tryz.prog 273 #[qS (some (O (s j) 0)) o.slots.length o.slots.length,J n,VV x] W.drew.drew _:=xf1 o.slots (s j) n x _ Q.out
  go_region_held3 (λw'=>w'.cell? (O mb 1)=some (qG g m.heap.length cap)/\w'.cell? (O w.heap.size 1)=some (J (j:Int))/\w'.cell? (O (w.heap.size+1) 0)=some (J x.k)/\w'.cell? (O (w.heap.size+1) 1)=some (J x.n)/\w'.cell? (O g (j*2+1))=some (qS (some (O (s j) 0)) o.slots.length o.slots.length))
   (first | with_reducible exact a | with_reducible exact S)
   (first | (go_at_call 273;refine H.mono ?_;rintro e w1 ⟨rfl,l,r,d⟩;have k1:=d (λt=>t=1) (λb=>if b=s j then 1 else 0) (by simp);have S:=And.intro (k1.cell a.1 (by simp[n1])) (And.intro (k1.cell a.2.1 (by simp[n2])) (And.intro (k1.cell a.2.2.1 (by simp[n3])) (And.intro (k1.cell a.2.2.2.1 (by simp[n3])) (k1.cell a.2.2.2.2 (by simp[n4])))))))
  go_wp2;have kT:=d (λt=>t=2) T1 X.out;refine bodyPost_end (v:=.tuple #[]) (by simp[results,Tryz.results274,go_sem]) rfl ⟨rfl,⟨T1,L,?_⟩,?_⟩
  ·have F:=Z.out.later (w':=W.drew.drew) ((Br _ _).drew).drew;refine⟨kT.held F.box (by rw[F.tag];omega),F.tag,?_,F.cls.fx Bw (.refl _ _) kT (by omega)⟩;rw[R.out];exact F.heap.slots HJ.out k1 l (Mj _ _ _)
  exact KW.out.trans L (((Kp.refl _ _ _).drew.drew).trans (.refl _ _) kT)
end
section
variable {σ:Type} {p:Mp σ} {T T':Nat->Nat} {w w':World} {mb:Nat} {m m':Mc σ} {calls calls':Int} {hv:Value} {g:Nat} {s:Nat->Nat} {K fb:Nat} {f:Fr} {cv av tv sv kv:Value}
theorem xpY (h:FrAt T K w fb f cv av tv sv kv)(a:Int)(x:QI):Calls Tryz.prog 282 #[qP fb,J a,IV x] w λe w'=>e=.returned (SV (f.site a x))/\qY w w':=by
 have n:=By h.box;have d:=BG w (qE x) (qC #[J 0,qZ ⟨#[]⟩,J 0] 105);have i:=h.later d;have x3:((w.alloc (qE x)).alloc (qC #[J 0,qZ ⟨#[]⟩,J 0] 105)).cell? (O w.heap.size 3)=some (J x.c):=Bf (Bg _ _) (Bp _ _ _ _ rfl 3);have r0:((w.alloc (qE x)).alloc (qC #[J 0,qZ ⟨#[]⟩,J 0] 105)).cell? (O (w.heap.size+1) 0)=some (J 0):=Bp _ _ _ _ (by simp) 0;have r1:((w.alloc (qE x)).alloc (qC #[J 0,qZ ⟨#[]⟩,J 0] 105)).cell? (O (w.heap.size+1) 1)=some (qZ ⟨#[]⟩):=Bp _ _ _ _ (by simp) 1;have r2:((w.alloc (qE x)).alloc (qC #[J 0,qZ ⟨#[]⟩,J 0] 105)).cell? (O (w.heap.size+1) 2)=some (J 0):=Bp _ _ _ _ (by simp) 2;have rf:∀o,((w.alloc (qE x)).alloc (qC #[J 0,qZ ⟨#[]⟩,J 0] 105)).frozen? (O (w.heap.size+1) o)=false:=λo=>BN (cur:=#[J 0,qZ ⟨#[]⟩,J 0]) (t:=105) (by have:=BH (w.alloc (qE x)) (qC #[J 0,qZ ⟨#[]⟩,J 0] 105);simpa using this) o;clear h;go_enter Tryz.func282,Tryz.ntmps282;go_upto_region 1 with (fail);generalize ((w.alloc (qE x)).alloc (qC #[J 0,qZ ⟨#[]⟩,J 0] 105))=W at *;have c0:W.cell? (O fb 0)=some (J f.cls):=by rw[Bn i.box];rfl
 have c1:W.cell? (O fb 1)=some (qZ f.meth.name):=by rw[Bn i.box];rfl
 have c13:W.cell? (O fb 13)=some (.bool f.fast):=by rw[Bn i.box];rfl
 have m:¬ fb=w.heap.size+1:=by omega
 have k:¬ w.heap.size+1=fb:=by omega
 have l:=hid d;clear i d
 cases g:f.fast with
 | false=>
  have j:Hid (f.site a x=⟨f.cls,f.meth.name,a⟩):=by show _=_;unfold Fr.site;rw[g];rfl
  rw[g] at c13;go_wp2
  go_region
  all_goals (
   go_wp2;refine Bt (v:=SV ⟨f.cls,f.meth.name,a⟩) ?_ rfl ⟨by rw[j.out],(((l.out.setCell (by simp) _).setCell (by simp) _).setCell (by simp) _).drew⟩;simp[results,Tryz.results282,go_sem,r0,r1,r2])
 | true=>
  have j:Hid (f.site a x=⟨f.cls,f.meth.name,x.c⟩):=by show _=_;unfold Fr.site;rw[g];rfl
  rw[g] at c13;go_wp2
  go_region
  all_goals (
   go_wp2;refine Bt (v:=SV ⟨f.cls,f.meth.name,x.c⟩) ?_ rfl ⟨by rw[j.out],(((l.out.setCell (by simp) _).setCell (by simp) _).setCell (by simp) _).drew⟩;simp[results,Tryz.results282,go_sem,r0,r1,r2])
abbrev Lp (c:Int)(nm:ByteArray)(e t:Int)(kv:Value):Value:=.agg #[J c,qZ nm,J e,J t,kv]
theorem xqc (h:w.heap[fb]?=some (FB f cv av tv sv kv))(a b:Value)(t:List QV)(c:List QI):((w.setCell (O fb 11) b).setCell (O fb 9) a).heap[fb]?=some (FB { f with temps:=t,code:=c } cv av a sv b):=by
 rw[BW (BW h _)];rfl
theorem xn7 (h:w.heap[fb]?=some (FB f cv av tv sv kv))(a b:Value)(t:List QV)(c:List QI):(((w.setCell (O fb 11) b).setCell (O fb 9) a).setCell (O fb 13) (.bool true)).heap[fb]?=some (FB { f with temps:=t,code:=c,fast:=true } cv av a sv b):=by
 rw[BW (BW (BW h _) _)];rfl
structure FrNew (T:Nat->Nat)(K:Nat)(w:qW)(fb:Nat)(f:Fr)(cv av:Value):Prop where
 box:w.heap[fb]?=some (FB f cv av (qN) (qN) (qN))
 tag:T fb=K
 args:CG (Fx T w) w av f.args
 meth:Cm (Fx T w) w cv f.meth.code
 pos:5<=K
 stack:f.stack=[]
theorem xfN (n:Int):(Cv n).length<=40:=by unfold Cv;simp;omega
theorem FrNew.begun {w1 w2:qW}{tb:Nat}{t:List QV}{c:List QI}{fl:Bool}(h:FrNew T K w fb f cv av)(d:qY w w1)(a:w1.heap[tb]?=some (.cells (Cf t).toArray 41 (0,0)))(o:t.length<=40)(l:w.heap.size<=tb)(k:Kp (λt=>t=1) (λb=>if b=fb then 1 else 0) w1 w2)(q:w2.heap[fb]?=some (FB { f with temps:=t,code:=c,fast:=fl } cv av (qG tb t.length t.length) (qN) kv))(p:Cm (Fx T w) w kv c) :
  ∃T',Ext T T' w/\FrAt T' K w2 fb { f with temps:=t,code:=c,fast:=fl } cv av (qG tb t.length t.length) (qN) kv/\Kp (λt=>t=K) T w w2:=by
 have j:=By h.box;have n:=h.pos;have e:Ext T (GV T tb (K+1)) w:=xgj l
 have kw:Kp (λt=>t=K) T w w2:=⟨k.os.trans d.os,k.tape.trans d.tape,k.output.trans d.output,BX d.size k.size,λb i m=>by
  rw[k.blk b (Cd i d.size) (by have:b≠fb:=λe=>m (by rw[e];exact h.tag);simp[this]),d.block b i]⟩
 refine⟨GV T tb (K+1),e,⟨q,by rw[e _ j];exact h.tag,h.args.fx BZ e kw (by omega),⟨tb,rfl,?_,xfg _ _ _,o⟩,?_,(λg l=>by cases l),?_,p.fx BR e kw (by omega),h.meth.fx BR e kw (by omega),n⟩,kw⟩
 ·exact k.held a (by
   have:tb≠fb:=by omega
   simp[this])
 ·show ownsAt w2 0 41 2 _ f.stack.length (Cf f.stack);rw[h.stack];exact⟨rfl,Or.inl ⟨rfl,rfl⟩⟩
 show f.stack.length<=_;rw[h.stack];simp
theorem xkt (h:FrNew T K w fb f cv av)(r:f.fast=false)(qv:Value)(qc:Int)(qn:ByteArray)(qe qt:Int):Calls Tryz.prog 231 #[qP fb,Lp qc qn qe qt qv,.bool false] w λe w'=>e=.returned (.tuple #[])/\∃T' tv sv kv,Ext T T' w/\FrAt T' K w' fb { f with temps:=Cv f.meth.temps,code:=f.meth.code,fast:=false } cv av tv sv kv/\Kp (λt=>t=K) T w w':=by
 have u:=By h.box;have d:qY w (w.alloc (qC #[J qc,qZ qn,J qe,J qt,qv] 187)).drew:=(Bg _ _).drew;have o:=Bs h.box d;have g:(w.alloc (qC #[J qc,qZ qn,J qe,J qt,qv] 187)).drew.cell? (O fb 5)=some cv/\(w.alloc (qC #[J qc,qZ qn,J qe,J qt,qv] 187)).drew.cell? (O fb 3)=some (J f.meth.temps):=⟨by rw[Bn o];rfl,by rw[Bn o];rfl⟩
 obtain⟨a,cap,rfl,-⟩:=id h.meth;have H:=hid h;have y:=hid o;have s:=hid d;have p:Hid (∀t c,({ f with temps:=t,code:=c }:Fr)={ f with temps:=t,code:=c,fast:=false }):=λt c=>by rw[r]
 clear h o d r;go_enter Tryz.func231,Tryz.ntmps231;go_upto_region 1 with (fail);generalize (w.alloc (qC #[J qc,qZ qn,J qe,J qt,qv] 187))=W at *;go_wp2
 go_region_held3 (λw'=>w'.cell? (O fb 5)=some (qS a f.meth.code.length cap)/\w'.cell? (O fb 3)=some (J f.meth.temps))
  (first | with_reducible exact g | with_reducible exact l | exact⟨(DX _ _ _ _ (by simp)).trans l.1,(DX _ _ _ _ (by simp)).trans l.2⟩ | exact⟨(DX _ _ _ _ (by simp)).trans ((DX _ _ _ _ (by simp)).trans l.1),(DX _ _ _ _ (by simp)).trans ((DX _ _ _ _ (by simp)).trans l.2)⟩)
  (first | (go_at_call 256;refine (xhm f.meth.temps _).mono ?_;rintro e w1 ⟨tb,rfl,j,i,d⟩;have l:=And.intro (Bf d g.1) (Bf d g.2);have m:=Bs y.out d;have df:=BN m;have d11:w1.cell? (O fb 11)=some (qN):=(by rw[Bn m];rfl);have d9:w1.cell? (O fb 9)=some (qN):=(by rw[Bn m];rfl);have q:=hid m;clear m))
 all_goals (
  go_wp2;have k:Kp (λt=>t=1) (λb=>if b=fb then 1 else 0) w1 ((w1.setCell (O fb 11) (qS a f.meth.code.length cap)).setCell (O fb 9) (qG tb (Cv f.meth.temps).length (Cv f.meth.temps).length)):=((Kp.refl _ _ _).set (λ_=>by simp) _ _).set (λ_=>by simp) _ _;have n:=xqc q.out (qG tb (Cv f.meth.temps).length (Cv f.meth.temps).length) (qS a f.meth.code.length cap) (Cv f.meth.temps) f.meth.code;rw[p.out (Cv f.meth.temps) f.meth.code] at n;obtain⟨T',q1,q2,q3⟩:=H.out.begun (Bh s.out d) j (xfN _) (BX s.out.size i) k n H.out.meth;exact bodyPost_end (v:=.tuple #[]) (by simp[results,Tryz.results231,go_sem]) rfl ⟨rfl,T',_,_,_,q1,q2,q3⟩)
theorem xl9 (h:FrNew T K w fb f cv av)(qv:Value)(qc:Int)(qn:ByteArray)(qe qt:Int)(code:List QI)(m:Cm (Fx T w) w qv code):Calls Tryz.prog 231 #[qP fb,Lp qc qn qe qt qv,.bool true] w λe w'=>e=.returned (.tuple #[])/\∃T' tv sv kv,Ext T T' w/\FrAt T' K w' fb { f with temps:=Cv qt,code:=code,fast:=true } cv av tv sv kv/\Kp (λt=>t=K) T w w':=by
 have u:=By h.box;have c:qY w (w.alloc (qC #[J qc,qZ qn,J qe,J qt,qv] 187)).drew:=(Bg _ _).drew;have r:=Bs h.box c;have d:(w.alloc (qC #[J qc,qZ qn,J qe,J qt,qv] 187)).drew.cell? (O w.heap.size 4)=some qv/\(w.alloc (qC #[J qc,qZ qn,J qe,J qt,qv] 187)).drew.cell? (O w.heap.size 3)=some (J qt):=⟨Bp w #[J qc,qZ qn,J qe,J qt,qv] 187 _ rfl 4,Bp w #[J qc,qZ qn,J qe,J qt,qv] 187 _ rfl 3⟩;have H:=hid h;have y:=hid r;have q:=hid c;have z:=hid m;have s:¬ w.heap.size=fb:=by omega
 have p:¬ fb=w.heap.size:=by omega
 obtain⟨a,cap,rfl,-⟩:=id m;clear h r c m;go_enter Tryz.func231,Tryz.ntmps231;go_upto_region 1 with (fail);generalize (w.alloc (qC #[J qc,qZ qn,J qe,J qt,qS a code.length cap] 187))=W at *;go_wp2
 go_region_held3 (λw'=>w'.cell? (O w.heap.size 4)=some (qS a code.length cap)/\w'.cell? (O w.heap.size 3)=some (J qt))
  (first | with_reducible exact d | with_reducible exact j | exact⟨(BV _ _ _ _ (by simp;omega)).trans j.1,(BV _ _ _ _ (by simp;omega)).trans j.2⟩ | exact⟨(BV _ _ _ _ (by simp;omega)).trans ((BV _ _ _ _ (by simp;omega)).trans j.1),(BV _ _ _ _ (by simp;omega)).trans ((BV _ _ _ _ (by simp;omega)).trans j.2)⟩ | exact⟨(BV _ _ _ _ (by simp;omega)).trans ((BV _ _ _ _ (by simp;omega)).trans ((BV _ _ _ _ (by simp;omega)).trans j.1)),(BV _ _ _ _ (by simp;omega)).trans ((BV _ _ _ _ (by simp;omega)).trans ((BV _ _ _ _ (by simp;omega)).trans j.2))⟩)
  (first | (go_at_call 256;refine (xhm qt _).mono ?_;rintro e w1 ⟨tb,rfl,i,g,c⟩;have j:=And.intro (Bf c d.1) (Bf c d.2);have l:=Bs y.out c;have df:=BN l;have d11:w1.cell? (O fb 11)=some (qN):=(by rw[Bn l];rfl);have d9:w1.cell? (O fb 9)=some (qN):=(by rw[Bn l];rfl);have d13:w1.cell? (O fb 13)=some (.bool f.fast):=(by rw[Bn l];rfl);have o:=hid l;clear l))
 all_goals (
  go_wp2;have k:Kp (λt=>t=1) (λb=>if b=fb then 1 else 0) w1 (((w1.setCell (O fb 11) (qS a code.length cap)).setCell (O fb 9) (qG tb (Cv qt).length (Cv qt).length)).setCell (O fb 13) (.bool true)):=(((Kp.refl _ _ _).set (λ_=>by simp) _ _).set (λ_=>by simp) _ _).set (λ_=>by simp) _ _;have n:=xn7 o.out (qG tb (Cv qt).length (Cv qt).length) (qS a code.length cap) (Cv qt) code;obtain⟨T',q1,q2,q3⟩:=H.out.begun (Bh q.out c) i (xfN _) (BX q.out.size g) k n z.out;exact Bt (v:=.tuple #[]) (by simp[results,Tryz.results231,go_sem]) rfl ⟨rfl,T',_,_,_,q1,q2,q3⟩)
end
section
variable {σ:Type} {p:Mp σ} {T T':Nat->Nat} {w w':World} {mb:Nat} {m m':Mc σ} {calls calls':Int} {hv:Value} {g:Nat} {s:Nat->Nat} {K fb:Nat} {f:Fr} {cv av tv sv kv:Value}
structure PuR (w:qW)(x:QI)(w':qW):Prop where
 bel:qY w w'
 x0:w'.cell? (O w.heap.size 0)=some (J x.op)
 x1:w'.cell? (O w.heap.size 1)=some (J x.a)
 r0:w'.cell? (O (w.heap.size+1) 0)=some (J 0)
 r1:w'.cell? (O (w.heap.size+1) 1)=some (J 0)
 rf:∀o,w'.frozen? (O (w.heap.size+1) o)=false
 sz:w.heap.size+2<=w'.heap.size
theorem PuR.later {w:qW}{x:QI}{w' w'':qW}(h:PuR w x w')(a:qY w' w''):PuR w x w'':=
 ⟨Bh h.bel a,Bf a h.x0,Bf a h.x1,Bf a h.r0,Bf a h.r1,λo=>(a.frozen (p:=(O (w.heap.size+1) o)) (by have:=h.sz;simp only;omega)).trans (h.rf o),BX h.sz a.size⟩
theorem xrf (w:qW)(x:QI):PuR w x ((w.alloc (qE x)).alloc (qQ)):=by
 refine⟨BG _ _ _,Bf (Bg _ _) (Bp _ _ _ _ rfl 0),Bf (Bg _ _) (Bp _ _ _ _ rfl 1),Bp _ _ _ _ (by simp) 0,Bp _ _ _ _ (by simp) 1,λo=>BN (cur:=#[J 0,J 0]) (t:=41) ?_ o,by simp⟩;have:=BH (w.alloc (qE x)) (qQ);simpa using this
theorem FrAt.c (h:FrAt T K w fb f cv av tv sv kv):w.cell? (O fb 6)=some (J f.self.k)/\w.cell? (O fb 7)=some (J f.self.n)/\w.cell? (O fb 8)=some av/\w.cell? (O fb 9)=some tv:=by
 refine⟨?_,?_,?_,?_⟩<;>(rw[Bn h.box];rfl)
theorem FrAt.tempsV (h:FrAt T K w fb f cv av tv sv kv):CG (λ_=>True) w tv f.temps:=by
 obtain⟨tb,rfl,a,-,b⟩:=h.temps;exact xlU a trivial (by omega)
theorem xmj (h:MacAt p T w mb m calls hv g s)(H:FrAt T K w fb f cv av tv sv kv)(x:QI):Calls Tryz.prog 271 #[qP mb,qP fb,IV x] w λe w'=>e=.returned (.tuple #[VV ((Cl m.heap f x).getD BC),.bool (Cl m.heap f x).isSome])/\qY w w':=by
 have X:=By H.box;have V:=By h.box;have z:=xrf w x;have C:=h.later z.bel;have t:=H.later z.bel;clear h H;go_enter Tryz.func271,Tryz.ntmps271;go_upto_region 1 with (fail);generalize ((w.alloc (qE x)).alloc (qQ))=W at *;obtain⟨f6,f7,f8,f9⟩:=t.c;have m1:=C.c1;have R:=t.args;have U:=t.tempsV;have S:=C.heap.heap;obtain⟨-,x0,x1,r0,r1,rf,sz⟩:=id z;obtain⟨aa,ca,rfl,-⟩:=id R;obtain⟨at',ct,rfl,-⟩:=id U;obtain⟨ah,ch,rfl,-⟩:=id S;have nf:¬ fb=w.heap.size+1:=by omega
 have nf':¬ w.heap.size+1=fb:=by omega
 have nm:¬ mb=w.heap.size+1:=by omega
 have nm':¬ w.heap.size+1=mb:=by omega
 have r:=hid z;clear t C z;by_cases h1:x.op=1
 ·have q:Hid (Cl m.heap f x=some f.self):=by show _=_;unfold Cl;rw[if_pos h1]
  have F:(x.op == 1)=true:=by simpa using h1
  clear h1;go_wp2;refine Bt (v:=.tuple #[VV f.self,.bool true]) ?_ rfl ⟨by rw[q.out];rfl,((r.out.bel.setCell (by simp) _).setCell (by simp) _)⟩;simp[results,Tryz.results271,go_sem,r0,r1]
 have F:(x.op == 1)=false:=by simpa using h1
 by_cases h2:x.op=2
 ·have q:Hid (Cl m.heap f x=some (CR f.args x.a)):=by show _=_;unfold Cl;rw[if_neg h1];rw[if_pos h2]
  have D:(x.op == 2)=true:=by simpa using h2
  clear h1 h2;go_wp2;have i:(λw'=>w'.cell? (O fb 8)=some (qS aa f.args.length ca)/\w'.cell? (O w.heap.size 1)=some (J x.a)) W.drew:=⟨f8,x1⟩
  have o:Calls Tryz.prog 255 _ W.drew _:=NB f.args _ x.a W.drew (R.later BZ (Br _ _).drew);obtain⟨u,y⟩:∃u,u=(CR f.args x.a):=⟨_,rfl⟩;rw[← y] at o q;clear y
  go_region_held3 (λw'=>w'.cell? (O fb 8)=some (qS aa f.args.length ca)/\w'.cell? (O w.heap.size 1)=some (J x.a))
   (first | with_reducible exact i | with_reducible exact l | exact⟨(BV _ _ _ _ (by simp;try omega)).trans ((BV _ _ _ _ (by simp;try omega)).trans l.1),(BV _ _ _ _ (by simp;try omega)).trans ((BV _ _ _ _ (by simp;try omega)).trans l.2)⟩)
   (first | (go_at_call 255;refine o.mono ?_;rintro e w1 ⟨rfl,d⟩;have l:=And.intro (Bf d i.1) (Bf d i.2);have j:=r.out.later ((Br _ _).drew.trans d);clear x0 x1 r0 r1 rf sz;obtain⟨-,x0,x1,r0,r1,rf,sz⟩:=id j))
  all_goals (
   go_wp2;refine Bt (v:=.tuple #[VV u,.bool true]) ?_ rfl ⟨by rw[q.out];rfl,((j.bel.setCell (by simp) _).setCell (by simp) _)⟩;simp[results,Tryz.results271,go_sem,r0,r1])
 have D:(x.op == 2)=false:=by simpa using h2
 by_cases h3:x.op=3
 ·have q:Hid (Cl m.heap f x=some (CR f.temps x.a)):=by show _=_;unfold Cl;rw[if_neg h1];rw[if_neg h2];rw[if_pos h3]
  have G:(x.op == 3)=true:=by simpa using h3
  clear h1 h2 h3;go_wp2;have i:(λw'=>w'.cell? (O fb 9)=some (qS at' f.temps.length ct)/\w'.cell? (O w.heap.size 1)=some (J x.a)) W.drew:=⟨f9,x1⟩
  have o:Calls Tryz.prog 255 _ W.drew _:=NB f.temps _ x.a W.drew (U.later BZ (Br _ _).drew);obtain⟨u,y⟩:∃u,u=(CR f.temps x.a):=⟨_,rfl⟩;rw[← y] at o q;clear y
  go_region_held3 (λw'=>w'.cell? (O fb 9)=some (qS at' f.temps.length ct)/\w'.cell? (O w.heap.size 1)=some (J x.a))
   (first | with_reducible exact i | with_reducible exact l | exact⟨(BV _ _ _ _ (by simp;try omega)).trans ((BV _ _ _ _ (by simp;try omega)).trans l.1),(BV _ _ _ _ (by simp;try omega)).trans ((BV _ _ _ _ (by simp;try omega)).trans l.2)⟩)
   (first | (go_at_call 255;refine o.mono ?_;rintro e w1 ⟨rfl,d⟩;have l:=And.intro (Bf d i.1) (Bf d i.2);have j:=r.out.later ((Br _ _).drew.trans d);clear x0 x1 r0 r1 rf sz;obtain⟨-,x0,x1,r0,r1,rf,sz⟩:=id j))
  all_goals (
   go_wp2;refine Bt (v:=.tuple #[VV u,.bool true]) ?_ rfl ⟨by rw[q.out];rfl,((j.bel.setCell (by simp) _).setCell (by simp) _)⟩;simp[results,Tryz.results271,go_sem,r0,r1])
 have G:(x.op == 3)=false:=by simpa using h3
 by_cases h4:x.op=4
 ·have q:Hid (Cl m.heap f x=some (Gt m.heap f.self x.a)):=by show _=_;unfold Cl;rw[if_neg h1];rw[if_neg h2];rw[if_neg h3];rw[if_pos h4]
  have M:(x.op == 4)=true:=by simpa using h4
  clear h1 h2 h3 h4;go_wp2;have i:(λw'=>w'.cell? (O mb 1)=some (qS ah m.heap.length ch)/\w'.cell? (O fb 6)=some (J f.self.k)/\w'.cell? (O fb 7)=some (J f.self.n)/\w'.cell? (O w.heap.size 1)=some (J x.a)) W.drew:=⟨m1,f6,f7,x1⟩
  have o:Calls Tryz.prog 280 _ W.drew _:=xj2 m.heap _ f.self x.a W.drew (S.later BB (Br _ _).drew);obtain⟨u,y⟩:∃u,u=(Gt m.heap f.self x.a):=⟨_,rfl⟩;rw[← y] at o q;clear y
  go_region_held3 (λw'=>w'.cell? (O mb 1)=some (qS ah m.heap.length ch)/\w'.cell? (O fb 6)=some (J f.self.k)/\w'.cell? (O fb 7)=some (J f.self.n)/\w'.cell? (O w.heap.size 1)=some (J x.a))
   (first | with_reducible exact i | with_reducible exact l | exact⟨(BV _ _ _ _ (by simp;try omega)).trans ((BV _ _ _ _ (by simp;try omega)).trans l.1),(BV _ _ _ _ (by simp;try omega)).trans ((BV _ _ _ _ (by simp;try omega)).trans l.2.1),(BV _ _ _ _ (by simp;try omega)).trans ((BV _ _ _ _ (by simp;try omega)).trans l.2.2.1),(BV _ _ _ _ (by simp;try omega)).trans ((BV _ _ _ _ (by simp;try omega)).trans l.2.2.2)⟩)
   (first | (go_at_call 280;refine o.mono ?_;rintro e w1 ⟨rfl,d⟩;have l:=And.intro (Bf d i.1) (And.intro (Bf d i.2.1) (And.intro (Bf d i.2.2.1) (Bf d i.2.2.2)));have j:=r.out.later ((Br _ _).drew.trans d);clear x0 x1 r0 r1 rf sz;obtain⟨-,x0,x1,r0,r1,rf,sz⟩:=id j))
  all_goals (
   go_wp2;refine Bt (v:=.tuple #[VV u,.bool true]) ?_ rfl ⟨by rw[q.out];rfl,((j.bel.setCell (by simp) _).setCell (by simp) _)⟩;simp[results,Tryz.results271,go_sem,r0,r1])
 have M:(x.op == 4)=false:=by simpa using h4
 by_cases h5:x.op=5
 ·have q:Hid (Cl m.heap f x=some ⟨3,x.a⟩):=by show _=_;unfold Cl;rw[if_neg h1];rw[if_neg h2];rw[if_neg h3];rw[if_neg h4];rw[if_pos h5]
  have N:(x.op == 5)=true:=by simpa using h5
  clear h1 h2 h3 h4 h5;go_wp2;refine Bt (v:=.tuple #[VV ⟨3,x.a⟩,.bool true]) ?_ rfl ⟨by rw[q.out];rfl,((r.out.bel.setCell (by simp) _).setCell (by simp) _)⟩;simp[results,Tryz.results271,go_sem,r0,r1]
 have N:(x.op == 5)=false:=by simpa using h5
 by_cases h6:x.op=6
 ·have q:Hid (Cl m.heap f x=some BC):=by show _=_;unfold Cl;rw[if_neg h1];rw[if_neg h2];rw[if_neg h3];rw[if_neg h4];rw[if_neg h5];rw[if_pos h6]
  have L:(x.op == 6)=true:=by simpa using h6
  clear h1 h2 h3 h4 h5 h6;go_wp2;refine Bt (v:=.tuple #[VV BC,.bool true]) ?_ rfl ⟨by rw[q.out];rfl,((r.out.bel.setCell (by simp) _).setCell (by simp) _)⟩;simp[results,Tryz.results271,go_sem,r0,r1]
 have L:(x.op == 6)=false:=by simpa using h6
 by_cases h7:x.op=7
 ·have q:Hid (Cl m.heap f x=some ⟨1,0⟩):=by show _=_;unfold Cl;rw[if_neg h1];rw[if_neg h2];rw[if_neg h3];rw[if_neg h4];rw[if_neg h5];rw[if_neg h6];rw[if_pos h7]
  have B:(x.op == 7)=true:=by simpa using h7
  clear h1 h2 h3 h4 h5 h6 h7;go_wp2_with fail;refine (NZ false _).mono ?_;rintro e w1 ⟨rfl,d⟩;have j:=r.out.later d;clear x0 x1 r0 r1 rf sz;obtain⟨-,x0,x1,r0,r1,rf,sz⟩:=id j;go_wp2;refine Bt (v:=.tuple #[VV ⟨1,0⟩,.bool true]) ?_ rfl ⟨by rw[q.out];rfl,((j.bel.setCell (by simp) _).setCell (by simp) _)⟩;simp[results,Tryz.results271,go_sem,r0,r1]
 have B:(x.op == 7)=false:=by simpa using h7
 by_cases h8:x.op=8
 ·have q:Hid (Cl m.heap f x=some ⟨2,0⟩):=by show _=_;unfold Cl;rw[if_neg h1];rw[if_neg h2];rw[if_neg h3];rw[if_neg h4];rw[if_neg h5];rw[if_neg h6];rw[if_neg h7];rw[if_pos h8]
  have Q:(x.op == 8)=true:=by simpa using h8
  clear h1 h2 h3 h4 h5 h6 h7 h8;go_wp2_with fail;refine (NZ true _).mono ?_;rintro e w1 ⟨rfl,d⟩;have j:=r.out.later d;clear x0 x1 r0 r1 rf sz;obtain⟨-,x0,x1,r0,r1,rf,sz⟩:=id j;go_wp2;refine Bt (v:=.tuple #[VV ⟨2,0⟩,.bool true]) ?_ rfl ⟨by rw[q.out];rfl,((j.bel.setCell (by simp) _).setCell (by simp) _)⟩;simp[results,Tryz.results271,go_sem,r0,r1]
 have Q:(x.op == 8)=false:=by simpa using h8
 have q:Hid (Cl m.heap f x=none):=by show _=_;unfold Cl;rw[if_neg h1];rw[if_neg h2];rw[if_neg h3];rw[if_neg h4];rw[if_neg h5];rw[if_neg h6];rw[if_neg h7];rw[if_neg h8]
 clear h1 h2 h3 h4 h5 h6 h7 h8;go_wp2;refine Bt (v:=.tuple #[VV BC,.bool false]) ?_ rfl ⟨by rw[q.out];rfl,((r.out.bel.setCell (by simp) _).setCell (by simp) _)⟩;simp[results,Tryz.results271,go_sem,r0,r1]
end
end Go.Proofs.YtbafokihegegiaaGreatDoor
