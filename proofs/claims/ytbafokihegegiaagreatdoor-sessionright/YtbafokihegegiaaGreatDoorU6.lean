/- A part. -/
import Derived.Test.YtbafokihegegiaaGreatDoorU5
namespace Go.Proofs.YtbafokihegegiaaGreatDoor
open Go.ChangeShapes Go.WideShapes Go.ChangeAt Go.RowKit
set_option linter.unusedSimpArgs false
set_option linter.unusedVariables false
set_option maxHeartbeats 8000000
set_option maxRecDepth 8000
section
variable {σ:Type}
structure Cx (p:Mp σ)(L:(Nat->Nat)->World->σ->Nat->Prop)(LF:Nat)(lc:Array Value)(QF:Nat)(qc:Array Value):Prop where
 lv:p.lv=.func (.func LF) #[] lc
 qv:p.qv=.func (.func QF) #[] qc
 lcf:∀(args:Array Value) (w:qW),(callFunc LF args).run Tryz.prog w=.ok (.enter LF args) w
 qcf:∀(args:Array Value) (w:qW),(callFunc QF args).run Tryz.prog w=.ok (.enter QF args) w
 ok:EOk p.E
 fuel:p.E.fuel<=1000000
 keep:∀ {T T':Nat->Nat} {w w':qW} {st:σ} {n:Nat} {S:Nat->Prop},L T w st n->Ext T T' w->Kp S T w w'->¬ S 0->¬ S 3->L T' w' st n
 mono:∀ {T:Nat->Nat} {w:qW} {st:σ} {n n':Nat},L T w st n->n'<=n->L T w st n'
 look:∀(T:Nat->Nat) (w:qW) (st:σ) (s:QS) (c:Int) (name:ByteArray) (n:Nat),L T w st (n+1)->Calls Tryz.prog LF (#[SV s,J c,qZ name]++lc) w λe w'=>e=.returned (.tuple #[J (p.E.look st s c name).2.1,J (p.E.look st s c name).2.2])/\(∃T',Ext T T' w/\L T' w' (p.E.look st s c name).1 n)/\Kp (λt=>t=3) T w w'
 quick:∀(T:Nat->Nat) (w:qW) (st:σ) (c k:Int) (mt:QM) (n:Nat),L T w st n->Cp p.E.cz c k=some mt->Calls Tryz.prog QF (#[J c,J k]++qc) w λe w'=>(∃fc fn fe ft av nv cv,e=.returned (.tuple #[Lp fc fn fe ft (qS av nv cv),.bool (p.E.quick c k).isSome])/\∀q,p.E.quick c k=some q->ft=q.2/\Cm (Fx T w') w' (qS av nv cv) q.1)/\qY w w'
 few:∀c k mt,Cp p.E.cz c k=some mt->mt.code.length<=500/\∀q,p.E.quick c k=some q->q.1.length<=500/\∀x∈q.1,x.op=18->0<=x.b/\x.b<=1000
def FM (E:Env σ)(m:Mc σ):Nat:=(E.fuel-m.sz_+1).toNat
abbrev CF (K:Nat):Nat->Prop:=λt=>t=1\/t=2\/t=3\/K<=t
def EnPost (p:Mp σ)(L:(Nat->Nat)->World->σ->Nat->Prop)(T:Nat->Nat)(w:qW)(mb:Nat)(calls:Int)(K:Nat)(r:Mc σ × QV × Int)(e:Ending)(w':qW):Prop:=
 e=.returned (.tuple #[VV r.2.1,J r.2.2])/\(∃T',Ext T T' w/\(∃hv g s,MacAt p T' w' mb r.1 calls hv g s)/\L T' w' r.1.st (if r.2.2=0 then FM p.E r.1 else 0))/\Kp (CF K) T w w'
def StPost (p:Mp σ)(L:(Nat->Nat)->World->σ->Nat->Prop)(T:Nat->Nat)(w:qW)(mb:Nat)(calls:Int)(K fb:Nat)(r:Mc σ × Fr × Int)(e:Ending)(w':qW):Prop:=
 e=.returned (J r.2.2)/\(∃T',Ext T T' w/\(∃hv g s,MacAt p T' w' mb r.1 calls hv g s)/\L T' w' r.1.st (if r.2.2=0 then FM p.E r.1 else 0)/\(r.2.2=0->∃cv av tv sv kv,FrAt T' K w' fb r.2.1 cv av tv sv kv))/\Kp (CF K) T w w'
structure MIn (E:Env σ)(m:Mc σ):Prop where
 heap:HOk E.cz m.heap
 sz_:0<=m.sz_/\m.sz_<=E.fuel
 tz:0<=m.tz/\m.tz<=300
def NM (p:Mp σ)(L:(Nat->Nat)->World->σ->Nat->Prop)(d:Nat):Prop:=
 ∀(K:Nat) (T:Nat->Nat) (w:qW) (mb:Nat) (m:Mc σ) (hv:Value) (g:Nat) (s:Nat->Nat) (c n:Int) (self:QV) (args:List QV) (av:Value),5<=K->MacAt p T w mb m (20-(d:Int)) hv g s->L T w m.st (p.E.fuel-m.sz_).toNat->MIn p.E m->Cn m.heap.length self=0->VsOk m.heap.length args->CG (Fx T w) w av args->
  Calls Tryz.prog 191 #[qP mb,J c,J n,VV self,av] w λe w'=>EnPost p L T w mb (20-(d:Int)) K (BL p.E d m c n self args) e w'
variable {p:Mp σ} {L:(Nat->Nat)->World->σ->Nat->Prop} {LF QF:Nat} {lc qc:Array Value} {T T':Nat->Nat} {w w':World} {mb:Nat} {m m':Mc σ} {hv:Value} {g:Nat} {s:Nat->Nat} {K fb:Nat} {f:Fr} {cv av tv sv kv:Value}
structure SdR (w:qW)(x:QI)(w':qW):Prop where
 x0:w'.cell? (O w.heap.size 0)=some (J x.op)
 x1:w'.cell? (O w.heap.size 1)=some (J x.a)
 x2:w'.cell? (O w.heap.size 2)=some (J x.b)
 x3:w'.cell? (O w.heap.size 3)=some (J x.c)
 x4:w'.cell? (O w.heap.size 4)=some (qZ x.name)
theorem xlm (w:qW)(x:QI)(t:TypeId):SdR w x (w.alloc (qC #[J x.op,J x.a,J x.b,J x.c,qZ x.name] t)):=⟨Bp _ _ _ _ rfl 0,Bp _ _ _ _ rfl 1,Bp _ _ _ _ rfl 2,Bp _ _ _ _ rfl 3,Bp _ _ _ _ rfl 4⟩
theorem SdR.kp {w:qW}{x:QI}{w' w'':qW}{T:Nat->Nat}{S:Nat->Prop}(h:SdR w x w')(k:Kp S T w' w'')(a:¬ S (T w.heap.size)):SdR w x w'':=⟨k.cell h.x0 a,k.cell h.x1 a,k.cell h.x2 a,k.cell h.x3 a,k.cell h.x4 a⟩
theorem xsE {a1 a2 a3 a4 a5 a6 a7 a8 a9:Addr}{v1 v2 v3 v4 v5 v6 v7 v8 v9:Value}{w w':qW}(h:w.cell? a1=some v1/\w.cell? a2=some v2/\w.cell? a3=some v3/\w.cell? a4=some v4/\w.cell? a5=some v5/\w.cell? a6=some v6/\w.cell? a7=some v7/\w.cell? a8=some v8/\w.cell? a9=some v9)(a:qY w w'):w'.cell? a1=some v1/\w'.cell? a2=some v2/\w'.cell? a3=some v3/\w'.cell? a4=some v4/\w'.cell? a5=some v5/\w'.cell? a6=some v6/\w'.cell? a7=some v7/\w'.cell? a8=some v8/\w'.cell? a9=some v9:=by
 obtain⟨b,g,k,c,d,f,j,i,e⟩:=h;exact⟨Bf a b,Bf a g,Bf a k,Bf a c,Bf a d,Bf a f,Bf a j,Bf a i,Bf a e⟩
theorem xsJ {T:Nat->Nat}{S:Nat->Prop}{b1 b2 b3 o1 o2:Nat}{v1 v2 v3 v4 v5 v6 v7 v8 v9:Value}{w w':qW}(h:w.cell? (O b1 o1)=some v1/\w.cell? (O b1 o2)=some v2/\w.cell? (O b2 0)=some v3/\w.cell? (O b2 1)=some v4/\w.cell? (O b2 2)=some v5/\w.cell? (O b2 3)=some v6/\w.cell? (O b2 4)=some v7/\w.cell? (O b3 0)=some v8/\w.cell? (O b3 1)=some v9)(k:Kp S T w w')(b:¬ S (T b1))(a:¬ S (T b2))(c:¬ S (T b3)):w'.cell? (O b1 o1)=some v1/\w'.cell? (O b1 o2)=some v2/\w'.cell? (O b2 0)=some v3/\w'.cell? (O b2 1)=some v4/\w'.cell? (O b2 2)=some v5/\w'.cell? (O b2 3)=some v6/\w'.cell? (O b2 4)=some v7/\w'.cell? (O b3 0)=some v8/\w'.cell? (O b3 1)=some v9:=by
 obtain⟨e1,e2,e3,e4,e5,e6,e7,e8,e9⟩:=h;exact⟨k.cell e1 b,k.cell e2 b,k.cell e3 a,k.cell e4 a,k.cell e5 a,k.cell e6 a,k.cell e7 a,k.cell e8 c,k.cell e9 c⟩
theorem MacAt.st {a:Int}(h:MacAt p T w mb m a hv g s)(st:σ):MacAt p T w mb { m with st:=st } a hv g s:=⟨h.box,h.tag,h.heap,h.cls⟩
theorem xpZ (hC:Cx p L LF lc QF qc){d:Nat}(a1:NM p L d)(h:MacAt p T w mb m (20-(d:Int)) hv g s)(hF:FrAt T K w fb f cv av tv sv kv)(hL:L T w m.st (FM p.E m))(hI:MIn p.E m)(X:FOk p.E.cz m.heap.length f)(a5:f.stack.length<=1000000)(a:Int)(x:QI) :
  Calls Tryz.prog 276 #[qP mb,qP fb,J a,IV x] w λe w'=>StPost p L T w mb (20-(d:Int)) K fb (Dv (BL p.E d) p.E m f a x) e w':=by
 have hp:=hF.pos;have ci:=By h.box;have cf:=By hF.box;have hX:=EW T w 4;have c5:∀b,w.heap.size<=b->Dw T w 4 b=4:=λb hb=>Gr hb;have af:=Bg w (qE x);have bf:=(h.tagged0 4).later af;have b1:=(hF.tagged0 4).later af;have b8:=hC.keep (hC.keep hL hX (Kp.refl (λ_=>False) _ _) id id) (.refl _ _) (Kp.of_below (S:=λ_=>False) af) id id;have al:=xlm w x 69;clear h hF hL;generalize Dw T w 4=T1 at *;obtain⟨k,hk⟩:∃k,k=Dq f.stack x.a:=⟨_,rfl⟩;have HS:Hid (Dv (BL p.E d) p.E m f a x=(let l:=p.E.look m.st (f.site a x) (Ch m.heap (CL (f.stack.take k) 0)) x.name;let r:=BL p.E d { m with st:=l.1 } l.2.1 l.2.2 (CL (f.stack.take k) 0) (f.stack.drop k);if r.2.2≠0 then (r.1,f,r.2.2) else (r.1,{ f with stack:=(f.stack.take k).dropLast++[r.2.1] },0))):=by show _=_;unfold Dv;rw[← hk]
 have au:Hid (Cn m.heap.length (CL (f.stack.take k) 0)=0):=VsOk.entry (X.stack.sub λv hv=>List.mem_of_mem_take hv) _;have ay:Hid (VsOk m.heap.length (f.stack.drop k)):=X.stack.sub λv hv=>List.mem_of_mem_drop hv;have b6:Hid (Fr.top { f with stack:=f.stack.take k }=CL (f.stack.take k) 0):=rfl;have b3:Hid (Fr.pop { f with stack:=f.stack.take k }={ f with stack:=(f.stack.take k).dropLast }):=rfl;have b0:Hid (∀l,Fr.site { f with stack:=l } a x=f.site a x):=λ_=>rfl;have be:Hid ((f.stack.take k).dropLast.length<=1000000):=by show _<=_;simp;omega
 have bh:=xkl b1 x.a k hk;have cd:(f.stack.take k).length<=1000000:=by simp;omega
 clear hk;go_enter Tryz.func276,Tryz.ntmps276;go_upto_region 1 with (fail);generalize (w.alloc (qE x))=W at *;obtain⟨x0,x1,x2,x3,x4⟩:=id al;go_wp2_with fail;refine bh.mono ?_;rintro e w1 ⟨aa,ca,T2,a7,rfl,q,a0,R,j⟩;clear bh;generalize f.stack.drop k=args at *;have ap:T1 w.heap.size=4:=c5 _ (Bq _);have bk:=bf.keep q j (by omega) (by omega) (by omega);have bc:=hC.keep b8 q j (by omega) (by omega);have bn:=al.kp j (by rw[ap];omega);clear x0 x1 x2 x3 x4;go_wp2_with fail;refine (Ng a0).mono ?_;rintro e w2 ⟨rfl,⟨a9,N⟩,i⟩;have bm:=bk.keep (.refl _ _) i (by omega) (by omega) (by omega);have bv:=hC.keep bc (.refl _ _) i (by omega) (by omega);have bp:=R.fx BZ (.refl _ _) i (by omega);have ba:w.heap.size<W.heap.size:=World.block_lt_of_cell? W (O w.heap.size 0) al.x0;have aw:T2 w.heap.size=4:=by rw[q _ ba];exact ap
 have bb:=bn.kp i (by rw[aw];omega);rw[b6.out];rw[b3.out] at N;generalize CL (f.stack.take k) 0=self at *;generalize (f.stack.take k).dropLast=rest at *;have ai:qY w2 (w2.alloc (qH self)).drew:=(Bg _ _).drew;have az:=EW T2 w2 4;have c6:∀b,w2.heap.size<=b->Dw T2 w2 4 b=4:=λb hb=>Gr hb;have ag:=(bm.tagged0 4).later ai;have aq:=(N.tagged0 4).later ai;have bs:=hC.keep (hC.keep bv az (Kp.refl (λ_=>False) _ _) id id) (.refl _ _) (Kp.of_below (S:=λ_=>False) ai) id id;have bw:=(xfh bp BZ 4).fx BZ (.refl _ w2) (Kp.of_below (S:=λ_=>False) ai) id;have bu:SdR w x (w2.alloc (qH self)).drew:=bb.kp (T:=T2) (S:=λ_=>False) (Kp.of_below ai) id;have s0:(w2.alloc (qH self)).drew.cell? (O w2.heap.size 0)=some (J self.k):=Bp w2 #[J self.k,J self.n] 41 _ rfl 0;have s1:(w2.alloc (qH self)).drew.cell? (O w2.heap.size 1)=some (J self.n):=Bp w2 #[J self.k,J self.n] 41 _ rfl 1;have c9:Dw T2 w2 4 w.heap.size=4:=by rw[az _ (Cd ba (BX j.size i.size))];exact aw
 have c4:Dw T2 w2 4 w2.heap.size=4:=c6 _ (Bq _);have bx:Hid (Ext T (Dw T2 w2 4) w):=((hX.trans af.size q).trans (BX af.size (BX j.size i.size)) az);have bi:Hid (Kp (CF K) T w (w2.alloc (qH self)).drew):=((((Kp.of_below (S:=CF K) af).trans hX (j.mono λt h=>Or.inr (Or.inr (Or.inr (by omega))))).trans (hX.trans af.size q) (i.mono λt h=>Or.inr (Or.inr (Or.inr (by omega))))).on ai)
 clear bm N bv bp bb bk a0 bc R bn bf b1 b8 al j i q af ap aw;go_wp2;generalize Dw T2 w2 4=T3 at *;generalize (w2.alloc (qH self))=V at *;have m7:=ag.c7;have m1:=ag.c1;rw[hC.lv] at m7;obtain⟨ch,rfl,a6,ab⟩:=ag.heap.form;obtain⟨x0,x1,x2,x3,x4⟩:=id bu
 have ah:Calls Tryz.prog 282 #[qP fb,J a,IV x] V.drew λe w'=>e=.returned (SV (f.site a x))/\Below V.drew.heap.size V.drew w':=by
  have:=xpY aq a x;rw[b0.out] at this;exact this
 have aj:∀w':qW,Below V.drew.heap.size V.drew w'->Calls Tryz.prog 190 #[qG g m.heap.length ch,VV self] w' λe w''=>e=.returned (J (Ch m.heap self))/\qY w' w'':=λw' hb=>xfF m.heap _ self w' ((ag.heap.heap).later BB hb);have ae:∀w':qW,Below V.drew.heap.size V.drew w'->Calls Tryz.prog LF (#[SV (f.site a x),J (Ch m.heap self),qZ x.name]++lc) w' _:=λw' hb=>hC.look T3 w' m.st (f.site a x) (Ch m.heap self) x.name (p.E.fuel-m.sz_).toNat (hC.keep (hC.mono bs (by unfold FM;have:=hI.sz_;omega)) (.refl _ _) (Kp.of_below (S:=λ_=>False) hb) id id);obtain⟨c0,Y⟩:∃c0,c0=Ch m.heap self:=⟨_,rfl⟩;obtain⟨st0,B⟩:∃st0,st0=f.site a x:=⟨_,rfl⟩;rw[← Y] at ae HS aj;rw[← B] at ae HS ah;have cg:=hid B;clear Y B;have am:V.drew.cell? (O mb 7)=some (.func (.func LF) #[] lc)/\V.drew.cell? (O mb 1)=some (qG g m.heap.length ch)/\V.drew.cell? (O w.heap.size 0)=some (J x.op)/\V.drew.cell? (O w.heap.size 1)=some (J x.a)/\V.drew.cell? (O w.heap.size 2)=some (J x.b)/\V.drew.cell? (O w.heap.size 3)=some (J x.c)/\V.drew.cell? (O w.heap.size 4)=some (qZ x.name)/\V.drew.cell? (O w2.heap.size 0)=some (J self.k)/\V.drew.cell? (O w2.heap.size 1)=some (J self.n):=⟨m7,m1,x0,x1,x2,x3,x4,s0,s1⟩
 have c3:¬ (T3 mb=3):=by rw[ag.tag];omega
 have cb:¬ (T3 w.heap.size=3):=by rw[c9];omega
 have c8:¬ (T3 w2.heap.size=3):=by rw[c4];omega
 have ce:=hC.lcf;have tokA:True:=trivial
 go_region_held3 (λw'=>w'.cell? (O mb 7)=some (.func (.func LF) #[] lc)/\w'.cell? (O mb 1)=some (qG g m.heap.length ch)/\w'.cell? (O w.heap.size 0)=some (J x.op)/\w'.cell? (O w.heap.size 1)=some (J x.a)/\w'.cell? (O w.heap.size 2)=some (J x.b)/\w'.cell? (O w.heap.size 3)=some (J x.c)/\w'.cell? (O w.heap.size 4)=some (qZ x.name)/\w'.cell? (O w2.heap.size 0)=some (J self.k)/\w'.cell? (O w2.heap.size 1)=some (J self.n))
  (first | with_reducible exact am | with_reducible exact ao | with_reducible exact bo | with_reducible exact bj)
  (first
   | (have _t:=tokA;go_at_call 282;refine ah.mono ?_;rintro e w3 ⟨rfl,F⟩;have ao:=xsE am F;clear tokA;have tokB:True:=trivial)
   | (have _t:=tokB;go_at_call 190;refine (aj _ F).mono ?_;rintro e w4 ⟨rfl,H⟩;have bo:=xsE ao H;have ad:=Bh F H;clear tokB;have tokC:True:=trivial)
   | (have _t:=tokC;refine (ae _ ad).mono ?_;rintro e w5 ⟨rfl,⟨T5,z,Z⟩,u⟩;have bj:=xsJ (xsE am ad) u c3 cb c8;clear tokC))
 have b5:=((ag.later ad).keep z u (by omega) (by omega) (by omega)).st (p.E.look m.st st0 c0 x.name).1;have bd:=(aq.later ad).keep z u (by omega) (by omega) (by omega) (by omega);have bt:=(bw.fx BZ (.refl _ _) (Kp.of_below (S:=λ_=>False) ad) id).fx BZ z u (by omega);have bq:=hid (bx.out.trans (BX bi.out.size ad.size) z);have br:=hid ((bi.out.on ad).trans bx.out (u.mono (S':=CF K) λt h=>Or.inr (Or.inr (Or.inl h))));obtain⟨-,-,-,-,-,-,-,a2,a4⟩:=bj;clear am ao bo m7 m1 x0 x1 x2 x3 x4 s0 s1 ah aj ae ag aq bs bw bu F H ad z u;generalize p.E.look m.st st0 c0 x.name=l at *;have c2:MIn p.E { m with st:=l.1 }:=⟨hI.heap,hI.sz_,hI.tz⟩
 have an:=a1 (K+3) T5 w5 mb _ _ _ _ l.2.1 l.2.2 self args _ (by omega) b5 Z c2 au.out ay.out bt;generalize BL p.E d { m with st:=l.1 } l.2.1 l.2.2 self args=r at *;go_wp2_with fail;refine an.mono ?_;rintro e w6 ⟨rfl,⟨T6,M,⟨a3,g6,s6,y⟩,o⟩,G⟩;have ar:=bd.keep M G (by unfold CF;omega) (by unfold CF;omega) (by unfold CF;omega) (by unfold CF;omega);have ax:=hid (bq.out.trans br.out.size M);have bz:=hid (br.out.trans bq.out (G.mono (S':=CF K) λt h=>by unfold CF at *;omega));obtain⟨r1,v,er⟩:=r;simp only at HS y o;clear an b5 bd bt Z M G;by_cases her:er=0
 ·subst her;rw[if_neg (by simp)] at HS;rw[if_pos rfl] at o;have ak:qY w6 (w6.alloc (qH v)):=Bg _ _;have b2:=y.later ak;have b7:=ar.later ak;have bl:=hC.keep o (.refl _ _) (Kp.of_below (S:=λ_=>False) ak) id id;have b9:=hid (bz.out.on ak);clear y ar o;go_wp2_with fail;refine (PX b7 v (by show rest.length<_;have:=be.out;omega)).mono ?_;rintro e w8 ⟨rfl,⟨T8,a8,C,U⟩,D⟩;have b4:=b2.keep C D (by omega) (by omega) (by omega);have bg:=hC.keep bl C D (by omega) (by omega)
  have Q:Hid (StPost p L T w mb (20-(d:Int)) K fb (r1,{ f with stack:=rest++[v] },0) (.returned (J 0)) w8):=
   ⟨rfl,⟨T8,ax.out.trans b9.out.size C,⟨_,_,_,b4⟩,by rw[if_pos rfl];exact bg,λ_=>⟨_,_,_,_,_,U⟩⟩,b9.out.trans ax.out (D.mono λt h=>by unfold CF;omega)⟩
  clear b2 b7 bl b4 bg U C D;go_wp2;go_ret;rw[HS.out];exact Q.out
 rw[if_pos her] at HS;rw[if_neg her] at o;have cc:(er != 0)=true:=by simpa using her
 have Q:Hid (StPost p L T w mb (20-(d:Int)) K fb (r1,f,er) (.returned (J er)) (w6.alloc (qH v))):=
  ⟨rfl,⟨T6,ax.out,⟨_,_,_,y.later (Bg _ _)⟩,by rw[if_neg her];exact hC.keep o (.refl _ _) (Kp.of_below (S:=λ_=>False) (Bg _ _)) id id,λh=>absurd h her⟩,bz.out.on (Bg _ _)⟩
 clear y ar o;go_wp2;go_ret;rw[HS.out];exact Q.out
end
theorem xjP {P:Program}(w:qW)(dT sT ty elem:TypeId)(sz g dl f:Nat)(sp:Option Addr)(sl b n:Nat)(cur:Array Value)(t:TypeId)(cs:List Value)
  (C:P.underlying dT=some (.slice elem)) (q:(P.info? elem).map (·.size)=some sz) (z:w.heap[g]?=some (.cells cur t (0,0))) (k:Nat.min sl dl=n) (s:cs.length=n*sz)
  (d:∀j v,cs[j]?=some v->∃a,sp=some a/\w.cell? (a.add j)=some v) (l:cur.size=dl*sz) (u:∀v∈cs,v.oneCell'=true) :
  (Builtin.copy_ #[dT,sT] ty #[qG g dl f,qS sp sl b]).run P w=.ok (goInt n) (w.setRow g (cs++cur.toList.drop cs.length).toArray):=by
 cases p:P.info? elem with
 | none=>simp[p] at q
 | some i=>
  have y:i.size=sz:=by simpa [p] using q
  have B:cs.length<=cur.size:=by rw[s,l];exact Nat.mul_le_mul_right _ (by rw[← k];exact Nat.min_le_right _ _)
  have m:=run_storeCells_at P g 0 t cs 0 cur w z (by simp;omega) u
  have o:(Builtin.firstCells sz n (qS sp sl b)).run P w=.ok cs.toArray w:=by
   cases sp with
   | some a=>exact run_firstCells_some w sz n a sl b cs s (λj v hv=>by obtain⟨a',e,h⟩:=d j v hv;cases e;exact h)
   | none=>
    have:cs=[]:=by
     cases cs with
     | nil=>rfl
     | cons c r=>obtain⟨a',e,_⟩:=d 0 c rfl;cases e
    rw[this];exact run_firstCells_none w sz n sl b
  have e:(cur.toList.take (0+0)++cs++cur.toList.drop (0+0+cs.length)).toArray=(cs++cur.toList.drop cs.length).toArray:=by simp
  rw[e] at m;simp[Builtin.copy_,run_underlying C,Builtin.lenOf,sizeOf,typeInfo,p,y,k,o,m]
theorem xkF (n:Int)(l:List QV):Cf ((Cv n).zipIdx.map λp=>(l[p.2]?).getD BC)=(Cf (l.take (Nat.min l.length (Cv n).length)))++(Cf (Cv n)).drop (Cf (l.take (Nat.min l.length (Cv n).length))).length:=by
 unfold Cv;generalize (min (max n 0) 40).toNat=k;rw[List.length_replicate,MZ,List.length_take,xgx,← xdu]
 congr 1
 apply List.ext_getElem?
 intro j;simp only[List.getElem?_map,List.getElem?_zipIdx,List.getElem?_append,List.length_take,List.getElem?_take,List.getElem?_drop,List.getElem?_replicate,Nat.zero_add];have a:Nat.min l.length k=min l.length k:=rfl;rw[a];by_cases hj:j<k
 ·simp only[hj,if_true,Option.map_some];by_cases hl:j<l.length
  ·rw[if_pos (by omega),if_pos (by omega)];simp[hl]
  rw[if_neg (by omega),if_pos (by omega),List.getElem?_eq_none (by omega)];rfl
 simp only[hj,if_false,Option.map_none];rw[if_neg (by omega),if_neg (by omega)]
section
variable {T T':Nat->Nat} {K:Nat} {w w':World} {fb:Nat} {f:Fr} {cv av tv sv kv:Value}
theorem xpo (h:w.heap[fb]?=some (FB f cv av tv sv kv))(b:Value)(a:Int):((((w.setCell (O fb 11) cv).setCell (O fb 9) b).setCell (O fb 12) (J a)).setCell (O fb 13) (.bool false)).heap[fb]?=some (FB (f.leave a) cv av b sv cv):=by
 rw[BW (BW (BW (BW h _) _) _) _];rfl
theorem xiS (h:FrAt T K w fb f cv av tv sv kv)(a:Int):Calls Tryz.prog 283 #[qP fb,J a] w λe w'=>e=.returned (.tuple #[])/\(∃T' tv',Ext T T' w/\FrAt T' K w' fb (f.leave a) cv av tv' sv cv)/\Kp (λt=>t=K) T w w':=by
 have Q:=By h.box;have R:=h.pos;have H:=hid h;have c3:w.cell? (O fb 3)=some (J f.meth.temps):=by rw[Bn h.box];rfl
 obtain⟨tb,p,l,s,q⟩:=h.temps;subst p;obtain⟨ac,cc,r,-⟩:=id h.meth;subst r;clear h;go_enter Tryz.func283,Tryz.ntmps283;go_wp2_with fail;refine (xhm f.meth.temps _).mono ?_;rintro e w1 ⟨nb,rfl,c,i,d⟩;have C:=Bs H.out.box d;have d9:w1.cell? (O fb 9)=some (qG tb f.temps.length f.temps.length):=by rw[Bn C];rfl
 have V:tb<w.heap.size:=By l;have D:=Bs l d
 have z:=xjP (P:=Tryz.prog) w1 52 52 3 41 2 nb (Cv f.meth.temps).length (Cv f.meth.temps).length (some (O tb 0)) f.temps.length f.temps.length _ _ 41 (Cf (f.temps.take (Nat.min f.temps.length (Cv f.meth.temps).length))) Tryz.underlying52 (by kernel_rfl) c rfl (by rw[MZ,List.length_take];congr 1;exact Nat.min_eq_left (Nat.min_le_left _ _)) (λj v hv=>⟨(O tb 0),rfl,by
  rw[← xez,List.getElem?_take] at hv;split at hv
  ·rw[show ((O tb 0):Addr).add j=(O tb j) by simp[Addr.add];intro h;omega,Bn D];simpa using hv
  ·cases hv⟩) (by simp[MZ]) (xhE _)
 rw[List.toList_toArray,← xkF] at z;have B:nb≠fb:=by omega
 obtain⟨w2,n2,u,n,m,o⟩:∃(w2:qW) (n2:Nat),(Builtin.copy_ #[52,52] 3 #[qG nb (Cv f.meth.temps).length (Cv f.meth.temps).length,qG tb f.temps.length f.temps.length]).run Tryz.prog w1=.ok (goInt n2) w2/\w2.heap[nb]?=some (.cells (Cf (f.leave a).temps).toArray 41 (0,0))/\(∀b,b≠nb->w2.heap[b]?=w1.heap[b]?)/\qY w w2:=
  ⟨_,_,z,setRow_heap w1 nb _ _ 41 (0,0) c,λb Y=>setRow_other w1 nb b _ Y,below_setRow d i _⟩
 clear z;have y:w2.heap[fb]?=some (FB f (qS ac f.meth.code.length cc) av (qG tb f.temps.length f.temps.length) sv kv):=(m fb B.symm).trans C;have e5:w2.cell? (O fb 5)=some (qS ac f.meth.code.length cc):=by rw[Bn y];rfl
 have e9:w2.cell? (O fb 9)=some (qG tb f.temps.length f.temps.length):=by rw[Bn y];rfl
 have e11:w2.cell? (O fb 11)=some kv:=by rw[Bn y];rfl
 have e12:w2.cell? (O fb 12)=some (J f.pc):=by rw[Bn y];rfl
 have e13:w2.cell? (O fb 13)=some (.bool f.fast):=by rw[Bn y];rfl
 have ef:=BN y;have W:Hid ((Cv f.meth.temps).length=(f.leave a).temps.length):=by show _=_;simp[Fr.leave]
 have G:=hid n;have S:=hid m;have U:=hid y;have X:=hid d;have M:=hid o;have L:=hid i;clear l c3 D c C n m y d o i q;generalize (Cv f.meth.temps).length=rl at *;go_wp2;have N:=W.out;subst N;have h:=H.out;have e:Ext T (GV T nb (K+1)) w:=xgj L.out;have k:Kp (λt=>t=K) T w ((((w2.setCell (O fb 11) (qS ac f.meth.code.length cc)).setCell (O fb 9) (qG nb (f.leave a).temps.length (f.leave a).temps.length)).setCell (O fb 12) (J a)).setCell (O fb 13) (.bool false)):=(((((Kp.of_below M.out).set (λ_=>h.tag) _ _).set (λ_=>h.tag) _ _).set (λ_=>h.tag) _ _).set (λ_=>h.tag) _ _)
 have c:((((w2.setCell (O fb 11) (qS ac f.meth.code.length cc)).setCell (O fb 9) (qG nb (f.leave a).temps.length (f.leave a).temps.length)).setCell (O fb 12) (J a)).setCell (O fb 13) (.bool false)).heap[nb]?=some (.cells (Cf (f.leave a).temps).toArray 41 (0,0)):=by
  rw[BS B,BS B,BS B,BS B];exact G.out
 refine bodyPost_end (v:=.tuple #[]) (by simp[results,Tryz.results283,go_sem]) rfl ⟨rfl,⟨GV T nb (K+1),_,e,⟨xpo U.out _ a,by rw[e _ Q];exact h.tag,h.args.fx BZ e k (by omega),⟨nb,rfl,c,xfg _ _ _,?_⟩,h.stack.keep λg F=>k.blk g (h.stack.lt g F).2 (by rw[h.stag g F];omega),λg F=>by rw[e _ (h.stack.lt g F).2];exact h.stag g F,h.few,h.meth.fx BR e k (by omega),h.meth.fx BR e k (by omega),R⟩⟩,k⟩;show (f.leave a).temps.length<=40;have:=xfN f.meth.temps;simpa [Fr.leave] using this
end
section
variable {σ:Type} {p:Mp σ} {L:(Nat->Nat)->World->σ->Nat->Prop} {LF QF:Nat} {lc qc:Array Value} {T T':Nat->Nat} {w w':World} {mb:Nat} {m m':Mc σ} {hv:Value} {g:Nat} {s:Nat->Nat} {K fb:Nat} {f:Fr} {cv av tv sv kv:Value}
theorem LY (d:Cx p L LF lc QF qc){T1:Nat->Nat}{V:qW}{a:Int}{r:Mc σ × Fr × Int}{S:Nat->Prop}{e:Ending}(q:r.1.st=m.st/\m.sz_<=r.1.sz_)(h:Ext T T1 w)(f:Kp (CF K) T w V)(o:L T1 V m.st (FM p.E m))(l:e=.returned (J r.2.2)){T2:Nat->Nat}(b:Ext T1 T2 V)(v:∃hv g s,MacAt p T2 w' mb r.1 a hv g s)(n:r.2.2=0->∃cv av tv sv kv,FrAt T2 K w' fb r.2.1 cv av tv sv kv)(k:Kp S T1 V w')(j:∀t,S t->CF K t)(i:¬ S 0)(u:¬ S 3):StPost p L T w mb a K fb r e w':=by
 have c:=d.keep o b k i u;refine⟨l,⟨T2,h.trans f.size b,v,?_,n⟩,f.trans h (k.mono j)⟩;rw[q.1];have:FM p.E r.1<=FM p.E m:=by unfold FM;omega
 split
 ·exact d.mono c this
 exact d.mono c (Nat.zero_le _)
theorem xlj {b1 b2 o1 o2 o3:Nat}{v1 v2 v3:Value}{w w':qW}(h:w.cell? (O b1 o1)=some v1/\w.cell? (O b2 o2)=some v2/\w.cell? (O b2 o3)=some v3)(a:qY w w'):w'.cell? (O b1 o1)=some v1/\w'.cell? (O b2 o2)=some v2/\w'.cell? (O b2 o3)=some v3:=⟨Bf a h.1,Bf a h.2.1,Bf a h.2.2⟩
theorem xqx {b1 b2 b3 o1 o2 o3 o4:Nat}{v1 v2 v3 v4:Value}{w w':qW}(h:w.cell? (O b1 o1)=some v1/\w.cell? (O b2 o2)=some v2/\w.cell? (O b3 o3)=some v3/\w.cell? (O b3 o4)=some v4)(a:qY w w'):w'.cell? (O b1 o1)=some v1/\w'.cell? (O b2 o2)=some v2/\w'.cell? (O b3 o3)=some v3/\w'.cell? (O b3 o4)=some v4:=⟨Bf a h.1,Bf a h.2.1,Bf a h.2.2.1,Bf a h.2.2.2⟩
theorem xjO (hC:Cx p L LF lc QF qc){d:Nat}(hd:d<=20)(h:MacAt p T w mb m (20-(d:Int)) hv g s)(hF:FrAt T K w fb f cv av tv sv kv)(hL:L T w m.st (FM p.E m))(hI:MIn p.E m)(G:f.stack.length<=1000000)(x:QI)(u:f.fast=true->x.op=18->0<=x.b/\x.b<=1000) :
  Calls Tryz.prog 279 #[qP mb,qP fb,IV x] w λe w'=>StPost p L T w mb (20-(d:Int)) K fb (DB p.E d m f x) e w':=by
 have hp:=hF.pos;have hX:=EW T w 4;have an:∀b,w.heap.size<=b->Dw T w 4 b=4:=λb hb=>Gr hb;have ae:=Bg w (qE x);have W:=(h.tagged0 4).later ae;have R:=(hF.tagged0 4).later ae;have X:=hC.keep (hC.keep hL hX (Kp.refl (λ_=>False) _ _) id id) (.refl _ _) (Kp.of_below (S:=λ_=>False) ae) id id;have a6:=xlm w x 69;have ah:f.stack.length<1000000000:=by omega
 have a9:Hid (Kp (CF K) T w (w.alloc (qE x))):=Kp.of_below ae;have a7:Dw T w 4 w.heap.size=4:=an _ (Bq _);clear h hF hL ae an;generalize Dw T w 4=T1 at *;have c13:(w.alloc (qE x)).cell? (O fb 13)=some (.bool f.fast):=by rw[Bn R.box];rfl
 go_enter Tryz.func279,Tryz.ntmps279;go_upto_region 1 with (fail);generalize (w.alloc (qE x))=V at *;obtain⟨x0,x1,x2,x3,x4⟩:=id a6;have b0:w.heap.size<V.heap.size:=World.block_lt_of_cell? V (O w.heap.size 0) x0
 cases a8:f.fast with
 | false=>
  have HN:Hid (DB p.E d m f x=(m,f,1)):=by show _=_;unfold DB;rw[if_pos a8]
  rw[a8] at c13;have Q:Hid (StPost p L T w mb (20-(d:Int)) K fb (m,f,1) (.returned (J 1)) V):=LY hC ⟨rfl,Int.le_refl _⟩ hX a9.out X rfl (.refl _ _) ⟨_,_,_,W⟩ (λh=>by cases h) (Kp.refl (λ_=>False) _ _) (λ_ h=>h.elim) id id;clear W R X a6;go_wp2;go_ret;rw[HN.out];exact Q.out
 | true=>
  rw[a8] at c13;have ad:=u a8;have U:Hid (DB p.E d m f x=if x.op=18 then (m,if Ch m.heap (CL f.stack x.b)=x.a then f else f.leave x.c,0) else if x.op=19 then (m,f.push (Gt m.heap (CR f.temps x.a) x.b),0) else if x.op=20 then ({ m with heap:=FF m.heap (CR f.temps x.a) x.b f.top },f.pop,0) else if x.op=21 then ((BY p.E d m).1,f,(BY p.E d m).2) else (m,f,1)):=by show _=_;unfold DB;rw[if_neg (by simp[a8])]
  clear a8 u;obtain⟨ch,rfl,H,M⟩:=W.heap.form;have m1:=W.c1;go_upto_region 3 with (fail);by_cases h18:x.op=18
  ·have ao:(x.op == 18)=true:=by simpa using h18
   rw[if_pos h18] at U;obtain⟨B,D⟩:=ad h18;clear h18 ad;go_upto_region 6 with (fail);have a1:V.drew.cell? (O mb 1)=some (qG g m.heap.length ch)/\V.drew.cell? (O w.heap.size 1)=some (J x.a)/\V.drew.cell? (O w.heap.size 2)=some (J x.b):=⟨m1,x1,x2⟩;have a5:=W.later (Br _ V).drew;have a2:=R.later (Br _ V).drew;have tokA:True:=trivial
   go_region_held3 (λw'=>w'.cell? (O mb 1)=some (qG g m.heap.length ch)/\w'.cell? (O w.heap.size 1)=some (J x.a)/\w'.cell? (O w.heap.size 2)=some (J x.b))
    (first | with_reducible exact a1 | with_reducible exact Z | with_reducible exact Y)
    (first
     | (have _t:=tokA;go_at_call 270;refine (xhp a2 x.b ⟨B,by omega⟩).mono ?_;rintro e w3 ⟨rfl,j⟩;have Z:=xlj a1 j;clear tokA;have tokB:True:=trivial)
     | (have _t:=tokB;go_at_call 190;refine (xfF m.heap _ (CL f.stack x.b) _ (((a5.later j).heap).heap)).mono ?_;rintro e w4 ⟨rfl,l⟩;have Y:=xlj Z l;clear tokB))
   have a0:=Bh (Br _ V).drew (Bh j l);have x3':=Bf a0 x3;have ar:=hid (W.later a0);have a3:=R.later a0;have aw:=hid (hC.keep X (.refl _ _) (Kp.of_below (S:=λ_=>False) a0) id id);have ap:=hid (a9.out.on a0);by_cases hcl:Ch m.heap (CL f.stack x.b)=x.a
   ·have au:(Ch m.heap (CL f.stack x.b) != x.a)=false:=by simpa using hcl
    rw[if_pos hcl] at U;have Q:Hid (StPost p L T w mb (20-(d:Int)) K fb (m,f,0) (.returned (J 0)) w4):=LY hC ⟨rfl,Int.le_refl _⟩ hX ap.out aw.out rfl (.refl _ _) ⟨_,_,_,ar.out⟩ (λ_=>⟨_,_,_,_,_,a3⟩) (Kp.refl (λ_=>False) _ _) (λ_ h=>h.elim) id id;clear W R X a6 a5 a2 a3 a1 Z Y m1 x0 x1 x2 x3 x4 c13 hcl;go_wp2;go_ret;rw[U.out];exact Q.out
   have au:(Ch m.heap (CL f.stack x.b) != x.a)=true:=by simpa using hcl
   rw[if_neg hcl] at U;clear W R X a6 a5 a2 a1 Z Y m1 x0 x1 x2 x3 x4 c13 hcl;go_wp2_with fail;refine (xiS a3 x.c).mono ?_;rintro e w5 ⟨rfl,⟨T5,N,k,a4⟩,i⟩;have Q:Hid (StPost p L T w mb (20-(d:Int)) K fb (m,f.leave x.c,0) (.returned (J 0)) w5):=LY hC ⟨rfl,Int.le_refl _⟩ hX ap.out aw.out rfl k ⟨_,_,_,ar.out.keep k i (by omega) (by omega) (by omega)⟩ (λ_=>⟨_,_,_,_,_,a4⟩) i (λt h=>by unfold CF;omega) (by omega) (by omega);clear a3 a4 i k;go_wp2;go_ret;rw[U.out];exact Q.out
  have ao:(x.op == 18)=false:=by simpa using h18
  rw[if_neg h18] at U;clear h18 ad;by_cases h19:x.op=19
  ·have al:(x.op == 19)=true:=by simpa using h19
   rw[if_pos h19] at U;clear h19;have aa:=R.tempsV;obtain⟨tb,rfl,o,z,y⟩:=R.temps;go_upto_region 9 with (fail);have a5:=W.later (Br _ V).drew;have a2:=R.later (Br _ V).drew;have a1:V.drew.cell? (O mb 1)=some (qG g m.heap.length ch)/\V.drew.cell? (O fb 9)=some (qG tb f.temps.length f.temps.length)/\V.drew.cell? (O w.heap.size 1)=some (J x.a)/\V.drew.cell? (O w.heap.size 2)=some (J x.b):=⟨m1,a2.c.2.2.2,x1,x2⟩;have tokA:True:=trivial
   go_region_held3 (λw'=>w'.cell? (O mb 1)=some (qG g m.heap.length ch)/\w'.cell? (O fb 9)=some (qG tb f.temps.length f.temps.length)/\w'.cell? (O w.heap.size 1)=some (J x.a)/\w'.cell? (O w.heap.size 2)=some (J x.b))
    (first | with_reducible exact a1 | with_reducible exact Z | with_reducible exact Y | with_reducible exact af)
    (first
     | (have _t:=tokA;go_at_call 255;refine (NB f.temps _ x.a _ (aa.later BZ (Br _ V).drew)).mono ?_;rintro e w3 ⟨rfl,j⟩;have Z:=xqx a1 j;clear tokA;have tokB:True:=trivial)
     | (have _t:=tokB;go_at_call 280;refine (xj2 m.heap _ (CR f.temps x.a) x.b _ (((a5.later j).heap).heap)).mono ?_;rintro e w4 ⟨rfl,l⟩;have Y:=xqx Z l;have a3:=(a2.later j).later l;clear tokB;have tokC:True:=trivial)
     | (have _t:=tokC;go_at_call 272;refine (PX a3 (Gt m.heap (CR f.temps x.a) x.b) ah).mono ?_;rintro e w5 ⟨rfl,⟨T5,F,k,a4⟩,i⟩;have ai:=((a5.later j).later l).keep k i (by omega) (by omega) (by omega);have b1:T1 w.heap.size=4:=a7;have af:w5.cell? (O mb 1)=some (qG g m.heap.length ch)/\w5.cell? (O fb 9)=some (qG tb f.temps.length f.temps.length)/\w5.cell? (O w.heap.size 1)=some (J x.a)/\w5.cell? (O w.heap.size 2)=some (J x.b):=⟨ai.c1,a4.c.2.2.2,i.cell Y.2.2.1 (by rw[a7];omega),i.cell Y.2.2.2 (by rw[a7];omega)⟩;clear tokC))
   have a0:=Bh (Br _ V).drew (Bh j l);have Q:Hid (StPost p L T w mb (20-(d:Int)) K fb (m,f.push (Gt m.heap (CR f.temps x.a) x.b),0) (.returned (J 0)) w5):=LY hC ⟨rfl,Int.le_refl _⟩ hX (a9.out.on a0) (hC.keep X (.refl _ _) (Kp.of_below (S:=λ_=>False) a0) id id) rfl k ⟨_,_,_,ai⟩ (λ_=>⟨_,_,_,_,_,a4⟩) i (λt h=>by unfold CF;omega) (by omega) (by omega);clear W R X a6 a5 a2 a3 a4 a1 Z Y af m1 x0 x1 x2 x3 x4 c13 ai aa o i k;go_wp2;go_ret;rw[U.out];exact Q.out
  have al:(x.op == 19)=false:=by simpa using h19
  rw[if_neg h19] at U;clear h19;by_cases h20:x.op=20
  ·have am:(x.op == 20)=true:=by simpa using h20
   rw[if_pos h20] at U;clear h20;have aa:=R.tempsV;obtain⟨tb,rfl,o,z,y⟩:=R.temps;go_upto_region 11 with (fail);have a5:=W.later (Br _ V).drew;have a2:=R.later (Br _ V).drew;have a1:V.drew.cell? (O fb 9)=some (qG tb f.temps.length f.temps.length)/\V.drew.cell? (O w.heap.size 1)=some (J x.a)/\V.drew.cell? (O w.heap.size 2)=some (J x.b):=⟨a2.c.2.2.2,x1,x2⟩;have tokA:True:=trivial
   go_region_held3 (λw'=>w'.cell? (O fb 9)=some (qG tb f.temps.length f.temps.length)/\w'.cell? (O w.heap.size 1)=some (J x.a)/\w'.cell? (O w.heap.size 2)=some (J x.b))
    (first | with_reducible exact a1 | with_reducible exact Z | with_reducible exact Y | with_reducible exact af)
    (first
     | (have _t:=tokA;go_at_call 255;refine (NB f.temps _ x.a _ (aa.later BZ (Br _ V).drew)).mono ?_;rintro e w3 ⟨rfl,j⟩;have Z:=xlj a1 j;have ax:=a2.later j;have ab:=a5.later j;clear tokA;have tokB:True:=trivial)
     | (have _t:=tokB;go_at_call 257;refine (Ng ax).mono ?_;rintro e w4 ⟨rfl,⟨C,a3⟩,n⟩;have aq:=ab.keep (.refl _ _) n (by omega) (by omega) (by omega);have Y:w4.cell? (O fb 9)=some (qG tb f.temps.length f.temps.length)/\w4.cell? (O w.heap.size 1)=some (J x.a)/\w4.cell? (O w.heap.size 2)=some (J x.b):=⟨a3.c.2.2.2,n.cell Z.2.1 (by rw[a7];omega),n.cell Z.2.2 (by rw[a7];omega)⟩;clear tokB;have tokC:True:=trivial)
     | (have _t:=tokC;go_at_call 274;refine (xhb aq (CR f.temps x.a) x.b f.top).mono ?_;rintro e w5 ⟨rfl,⟨T5,k,v⟩,i⟩;have a4:=a3.keep k i (by omega) (by omega) (by omega) (by omega);have af:w5.cell? (O fb 9)=some (qG tb f.temps.length f.temps.length)/\w5.cell? (O w.heap.size 1)=some (J x.a)/\w5.cell? (O w.heap.size 2)=some (J x.b):=⟨a4.c.2.2.2,i.cell Y.2.1 (by rw[a7];omega),i.cell Y.2.2 (by rw[a7];omega)⟩;clear tokC))
   have ag:=Bh (Br _ V).drew j;have az:Hid (Ext T1 T5 w3):=λb hb=>k b (Cd hb n.size);have Q:Hid (StPost p L T w mb (20-(d:Int)) K fb ({ m with heap:=FF m.heap (CR f.temps x.a) x.b f.top },f.pop,0) (.returned (J 0)) w5):=LY hC ⟨rfl,Int.le_refl _⟩ hX (a9.out.on ag) (hC.keep X (.refl _ _) (Kp.of_below (S:=λ_=>False) ag) id id) rfl az.out ⟨_,_,_,v⟩ (λ_=>⟨_,_,_,_,_,a4⟩) (S:=λt=>t=K\/t=2) ((n.mono λt h=>Or.inl h).trans (.refl _ _) (i.mono λt h=>Or.inr h)) (λt h=>by unfold CF;omega) (by omega) (by omega);clear W R X a6 a5 a2 a3 a4 ax ab aq v a1 Z Y af m1 x0 x1 x2 x3 x4 c13 aa o i n k;go_wp2;go_ret;rw[U.out];exact Q.out
  have am:(x.op == 20)=false:=by simpa using h20
  rw[if_neg h20] at U;clear h20;by_cases h21:x.op=21
  ·have ak:(x.op == 21)=true:=by simpa using h21
   rw[if_pos h21] at U;clear h21;have aj:=xe6 d W hI.sz_.1 (by have:=hC.fuel;omega) rfl hd
   have ay:(BY p.E d m).1.st=m.st/\m.sz_<=(BY p.E d m).1.sz_:=by
    unfold BY;split
    ·exact⟨rfl,by simp⟩
    split
    ·exact⟨rfl,by simp⟩
    exact⟨rfl,by simp;omega⟩
   generalize BY p.E d m=r at *;go_wp2_with fail;refine aj.mono ?_;rintro e w3 ⟨rfl,ab,q⟩;have Q:Hid (StPost p L T w mb (20-(d:Int)) K fb (r.1,f,r.2) (.returned (J r.2)) w3):=LY hC ay hX a9.out X rfl (.refl _ _) ⟨_,_,_,ab⟩ (λ_=>⟨_,_,_,_,_,R.keep (.refl _ _) q (by omega) (by omega) (by omega) (by omega)⟩) q (λt h=>by unfold CF;omega) (by omega) (by omega);clear W R X a6 m1 x0 x1 x2 x3 x4 c13 ab q aj;go_wp2;go_ret;rw[U.out];exact Q.out
  have ak:(x.op == 21)=false:=by simpa using h21
  rw[if_neg h21] at U;clear h21;have Q:Hid (StPost p L T w mb (20-(d:Int)) K fb (m,f,1) (.returned (J 1)) V):=LY hC ⟨rfl,Int.le_refl _⟩ hX a9.out X rfl (.refl _ _) ⟨_,_,_,W⟩ (λh=>by cases h) (Kp.refl (λ_=>False) _ _) (λ_ h=>h.elim) id id;clear W R X a6;go_wp2;go_ret;rw[U.out];exact Q.out
end
section
variable {σ:Type} {p:Mp σ} {L:(Nat->Nat)->World->σ->Nat->Prop} {LF QF:Nat} {lc qc:Array Value} {T T':Nat->Nat} {w w':World} {mb:Nat} {m m':Mc σ} {hv:Value} {g:Nat} {s:Nat->Nat} {K fb:Nat} {f:Fr} {cv av tv sv kv:Value}
theorem xne (m:Mc σ)(f:Fr)(a b:Int):(Cr m f a b).1.st=m.st:=by
 unfold Cr;by_cases h:b<=a
 ·simp only[h,if_true];split<;>rfl
 ·simp only[h,if_false];split<;>rfl
theorem xqX (m:Mc σ)(f:Fr)(a b:Int):(Dt m f a b).1.st=m.st:=by
 unfold Dt;split
 ·rfl
 split
 ·exact xne _ _ _ _
 rfl
theorem xrz (E:Env σ)(m:Mc σ)(f:Fr)(c:Int):(DT E m f c).1.st=m.st:=by
 unfold DT;split<;>rfl
theorem Mk (n:Cx p L LF lc QF qc){T1:Nat->Nat}{V:qW}{a:Int}{r:Mc σ × Fr × Int}{S:Nat->Prop}{e:Ending}(c:r.1.st=m.st/\r.1.sz_=m.sz_)(o:Ext T T1 w)(d:Kp (CF K) T w V)(l:L T1 V m.st (FM p.E m))(i:e=.returned (J r.2.2)){T2:Nat->Nat}(b:Ext T1 T2 V)(u:∃hv g s,MacAt p T2 w' mb r.1 a hv g s)(j:r.2.2=0->∃cv av tv sv kv,FrAt T2 K w' fb r.2.1 cv av tv sv kv)(k:Kp S T1 V w')(h:∀t,S t->CF K t)(f:¬ S 0)(q:¬ S 3):StPost p L T w mb a K fb r e w':=LY n ⟨c.1,by rw[c.2];exact Int.le_refl _⟩ o d l i b u j k h f q
theorem StPost.under {T1:Nat->Nat}{V:qW}{a:Int}{r:Mc σ × Fr × Int}{e:Ending}(h:StPost p L T1 V mb a K fb r e w')(c:Ext T T1 w)(b:Kp (CF K) T w V):StPost p L T w mb a K fb r e w':=by
 obtain⟨d,⟨T2,g,i⟩,f⟩:=h;exact⟨d,⟨T2,c.trans b.size g,i⟩,b.trans c f⟩
theorem xp2 {f':Fr}(e1:f'.cls=f.cls)(e2:f'.meth=f.meth)(e3:f'.self=f.self)(e4:f'.pc=f.pc)(e5:f'.fast=f.fast)(h:w.heap[fb]?=some (FB f cv av tv sv kv)):w.heap[fb]?=some (FB f' cv av tv sv kv):=by rw[h];unfold FB;rw[e1,e2,e3,e4,e5]
theorem FrAt.setTemp {tb:Nat}{n:Int}{v:QV}(h:FrAt T K w fb f cv av (qG tb f.temps.length f.temps.length) sv kv)(c:T tb=K+1)(d:w'.heap[tb]?=some (.cells (Cf (EQ f.temps n v)).toArray 41 (0,0)))(k:Kp (λt=>t=K+1) T w w'):FrAt T K w' fb { f with temps:=EQ f.temps n v } cv av (qG tb f.temps.length f.temps.length) sv kv:=by
 have i:=h.pos;obtain⟨a,e,d2,d3,d4⟩:=h.temps;refine⟨xp2 rfl rfl rfl rfl rfl (k.held h.box (by rw[h.tag];omega)),h.tag,h.args.fx BZ (.refl _ _) k (by omega),⟨tb,by show _=qS _ (EQ f.temps n v).length (EQ f.temps n v).length;rw[Mj],d,c,by show (EQ f.temps n v).length<=40;rw[Mj];exact d4⟩,h.stack.keep λg b=>k.blk g (h.stack.lt g b).2 (by rw[h.stag g b];omega),h.stag,h.few,h.code.fx BR (.refl _ _) k (by omega),h.meth.fx BR (.refl _ _) k (by omega),i⟩
def Ky (ent:CC σ)(E:Env σ)(d:Nat)(m:Mc σ)(f:Fr)(a:Int)(x:QI):Mc σ × Fr × Int:=
  if x.op=9 then (m,f.pop,0)
  else if x.op=10 then (m,f.push f.top,0)
  else if x.op=11 then (m,{ f.pop with temps:=EQ f.temps x.a f.top },0)
  else if x.op=12 then ({ m with heap:=FF m.heap f.self x.a f.top },f.pop,0)
  else if x.op=13 then DT E m f x.a
  else if x.op=14 then Dv ent E m f a x
  else if x.op=15 then Cr m f a x.a
  else if x.op=16 then Dt m f a x.a
  else DB E d m f x
theorem xpQ (hC:Cx p L LF lc QF qc){d:Nat}(R:NM p L d)(h:MacAt p T w mb m (20-(d:Int)) hv g s)(hF:FrAt T K w fb f cv av tv sv kv)(hL:L T w m.st (FM p.E m))(hI:MIn p.E m)(U:FOk p.E.cz m.heap.length f)(M:f.stack.length<=1000000)(hd:d<=20)(a:Int)(x:QI)(B:f.fast=true->x.op=18->0<=x.b/\x.b<=1000) :
  Calls Tryz.prog 258 #[qP mb,qP fb,J a,IV x] w λe w'=>StPost p L T w mb (20-(d:Int)) K fb (BD (BL p.E d) p.E d m f a x) e w':=by
 have hp:=hF.pos;have hX:=EW T w 4;have b5:∀b,w.heap.size<=b->Dw T w 4 b=4:=λb hb=>Gr hb;have ah:=Bg w (qE x);have ak:=(h.tagged0 4).later ah;have ae:=(hF.tagged0 4).later ah;have am:=hC.keep (hC.keep hL hX (Kp.refl (λ_=>False) _ _) id id) (.refl _ _) (Kp.of_below (S:=λ_=>False) ah) id id;have an:=xlm w x 69;have ab:f.stack.length<1000000000:=by omega
 clear h hF hL;generalize Dw T w 4=T1 at *;go_enter Tryz.func258,Tryz.ntmps258;go_upto_region 1 with (fail);generalize (w.alloc (qE x))=W at *;obtain⟨x0,x1,x2,x3,x4⟩:=id an;have ad:=xmj ak ae x;go_wp2_with fail;refine ad.mono ?_;rintro e w1 ⟨rfl,C⟩;clear ad x0 x1 x2 x3 x4;have ai:∀u:QV,qY W (w1.alloc (qH u)):=λu=>Bh C (Bg _ _)
 cases ad:Cl m.heap f x with
 | some u=>
  have HM:Hid (BD (BL p.E d) p.E d m f a x=(m,f.push u,0)):=by show _=_;unfold BD;rw[ad]
  clear ad;have HB:=hid (ai u);have bb:=hid ae;have b8:=hid ak;have b7:=hid am;have b9:=hid ah;have a1:=ae.later (ai u);clear ae ak am an ah ai;go_wp2_with fail;refine (PX a1 u ab).mono ?_;rintro e w2 ⟨rfl,⟨T2,z,j,a0⟩,i⟩;have Q:Hid (StPost p L T w mb (20-(d:Int)) K fb (m,f.push u,0) (.returned (J 0)) w2):=Mk hC ⟨rfl,rfl⟩ hX (Kp.of_below (Bh b9.out HB.out)) (hC.keep b7.out (.refl _ _) (Kp.of_below (S:=λ_=>False) HB.out) id id) rfl j ⟨_,_,_,(b8.out.later HB.out).keep j i (by omega) (by omega) (by omega)⟩ (λ_=>⟨_,_,_,_,_,a0⟩) i (λt h=>by unfold CF;omega) (by omega) (by omega);clear a1 a0 i j;go_wp2;go_ret;rw[HM.out];exact Q.out
 | none=>
  have HM:Hid (BD (BL p.E d) p.E d m f a x=Ky (BL p.E d) p.E d m f a x):=by show _=_;unfold BD Ky;rw[ad]
  clear ad;have ag:=ai BC;have a3:=ak.later ag;have a1:=ae.later ag;have a2:=hC.keep am (.refl _ _) (Kp.of_below (S:=λ_=>False) ag) id id;have a5:SdR w x (w1.alloc (qQ)):=an.kp (T:=T1) (S:=λ_=>False) (Kp.of_below ag) id;have a6:Hid (Kp (CF K) T w (w1.alloc (qQ))):=Kp.of_below (Bh ah ag);have ao:T1 w.heap.size=4:=b5 _ (Bq _);have b4:Hid (∀ {T3:Nat->Nat} {V' w2:qW},Ext T1 T3 w2->Kp (λt=>t=K) T1 V' w2->Ext T1 T3 V'):=λh k b hb=>h b (Cd hb k.size);clear ak ae am an ai ag;go_upto_region 5 with (fail);generalize (w1.alloc (qQ))=V at *;obtain⟨x0,x1,x2,x3,x4⟩:=id a5;have ba:w.heap.size<V.heap.size:=World.block_lt_of_cell? V (O w.heap.size 0) x0;clear C;by_cases h9:x.op=9
  ·have HN:Hid (BD (BL p.E d) p.E d m f a x=(m,f.pop,0)):=by show _=_;rw[HM.out];unfold Ky;rw[if_pos h9]
   have b6:(x.op == 9)=true:=by simpa using h9
   clear HM h9;go_wp2_with fail;refine (Ng a1).mono ?_;rintro e w2 ⟨rfl,⟨z,a0⟩,i⟩;have Q:Hid (StPost p L T w mb (20-(d:Int)) K fb (m,f.pop,0) (.returned (J 0)) w2):=Mk hC ⟨rfl,rfl⟩ hX a6.out a2 rfl (.refl _ _) ⟨_,_,_,a3.keep (.refl _ _) i (by omega) (by omega) (by omega)⟩ (λ_=>⟨_,_,_,_,_,a0⟩) i (λt h=>by unfold CF;omega) (by omega) (by omega);clear a1 a0 i a3 a2 a5 x0 x1 x2 x3 x4;go_wp2;go_ret;rw[HN.out];exact Q.out
  have b6:(x.op == 9)=false:=by simpa using h9
  by_cases h10:x.op=10
  ·have HN:Hid (BD (BL p.E d) p.E d m f a x=(m,f.push f.top,0)):=by show _=_;rw[HM.out];unfold Ky;rw[if_neg h9];rw[if_pos h10]
   have aq:(x.op == 10)=true:=by simpa using h10
   clear HM h9 h10;go_wp2_with fail;refine (xhp a1 0 ⟨by omega,by omega⟩).mono ?_;rintro e w2 ⟨rfl,v⟩;have HT:Hid (f.top=CL f.stack 0):=rfl;rw[← HT.out];have a0:=a1.later v;clear x0 x1 x2 x3 x4;go_wp2_with fail;refine (PX a0 f.top ab).mono ?_;rintro e w3 ⟨rfl,⟨T3,Y,q,a7⟩,l⟩;have Q:Hid (StPost p L T w mb (20-(d:Int)) K fb (m,f.push f.top,0) (.returned (J 0)) w3):=Mk hC ⟨rfl,rfl⟩ hX (a6.out.on v) (hC.keep a2 (.refl _ _) (Kp.of_below (S:=λ_=>False) v) id id) rfl q ⟨_,_,_,(a3.later v).keep q l (by omega) (by omega) (by omega)⟩ (λ_=>⟨_,_,_,_,_,a7⟩) l (λt h=>by unfold CF;omega) (by omega) (by omega);clear a1 a0 a7 l q a3 a2 a5 v;go_wp2;go_ret;rw[HN.out];exact Q.out
  have aq:(x.op == 10)=false:=by simpa using h10
  by_cases h11:x.op=11
  ·have HN:Hid (BD (BL p.E d) p.E d m f a x=(m,{ f.pop with temps:=EQ f.temps x.a f.top },0)):=by show _=_;rw[HM.out];unfold Ky;rw[if_neg h9];rw[if_neg h10];rw[if_pos h11]
   have ay:(x.op == 11)=true:=by simpa using h11
   clear HM h9 h10 h11;obtain⟨tb,rfl,F,y,X⟩:=a1.temps;go_wp2;have a8:=a1.later (Br _ V).drew;have o:V.drew.cell? (O fb 9)=some (qG tb f.temps.length f.temps.length)/\V.drew.cell? (O w.heap.size 1)=some (J x.a):=⟨a8.c.2.2.2,x1⟩;have tokA:True:=trivial
   go_region_held3 (λw'=>w'.cell? (O fb 9)=some (qG tb f.temps.length f.temps.length)/\w'.cell? (O w.heap.size 1)=some (J x.a))
    (first | with_reducible exact o | with_reducible exact aa | with_reducible exact aj)
    (first
     | (have _t:=tokA;go_at_call 257;refine (Ng a8).mono ?_;rintro e w2 ⟨rfl,⟨z,a0⟩,i⟩;have aa:=And.intro a0.c.2.2.2 (i.cell o.2 (by rw[ao];omega));have b2:w2.heap[tb]?=some (.cells (Cf f.temps).toArray 41 (0,0)):=(i.held (Bs F (Br _ V).drew) (by rw[y];omega));clear tokA;have tokB:True:=trivial)
     | (have _t:=tokB;go_at_call 273;refine (xf1 f.temps tb x.a f.top _ b2).mono ?_;rintro e w3 ⟨rfl,N,Z,D⟩;have af:=D (λt=>t=K+1) T1 y;have aj:=And.intro (af.cell aa.1 (by rw[a0.tag];omega)) (af.cell aa.2 (by rw[ao];omega));clear tokB))
   have a7:=a0.setTemp y N af;have Q:Hid (StPost p L T w mb (20-(d:Int)) K fb (m,{ f.pop with temps:=EQ f.temps x.a f.top },0) (.returned (J 0)) w3):=Mk hC ⟨rfl,rfl⟩ hX a6.out.drew (hC.keep a2 (.refl _ _) (Kp.refl (λ_=>False) _ _).drew id id) rfl (.refl _ _) ⟨_,_,_,((a3.later (Br _ V).drew).keep (.refl _ _) i (by omega) (by omega) (by omega)).keep (.refl _ _) af (by omega) (by omega) (by omega)⟩ (λ_=>⟨_,_,_,_,_,a7⟩) (S:=λt=>t=K\/t=K+1) ((i.mono λt h=>Or.inl h).trans (.refl _ _) (af.mono λt h=>Or.inr h)) (λt h=>by unfold CF;omega) (by omega) (by omega);clear a1 a0 a7 a8 i af a3 a2 a5 x0 x1 x2 x3 x4 N D b2 F o aa aj;go_wp2;go_ret;rw[HN.out];exact Q.out
  have ay:(x.op == 11)=false:=by simpa using h11
  by_cases h12:x.op=12
  ·have HN:Hid (BD (BL p.E d) p.E d m f a x=({ m with heap:=FF m.heap f.self x.a f.top },f.pop,0)):=by show _=_;rw[HM.out];unfold Ky;rw[if_neg h9];rw[if_neg h10];rw[if_neg h11];rw[if_pos h12]
   have ax:(x.op == 12)=true:=by simpa using h12
   clear HM h9 h10 h11 h12;go_wp2;have a8:=a1.later (Br _ V).drew;have az:=a3.later (Br _ V).drew;have o:V.drew.cell? (O fb 6)=some (J f.self.k)/\V.drew.cell? (O fb 7)=some (J f.self.n)/\V.drew.cell? (O w.heap.size 1)=some (J x.a):=⟨a8.c.1,a8.c.2.1,x1⟩;have tokA:True:=trivial
   go_region_held3 (λw'=>w'.cell? (O fb 6)=some (J f.self.k)/\w'.cell? (O fb 7)=some (J f.self.n)/\w'.cell? (O w.heap.size 1)=some (J x.a))
    (first | with_reducible exact o | with_reducible exact aa | with_reducible exact aj)
    (first
     | (have _t:=tokA;go_at_call 257;refine (Ng a8).mono ?_;rintro e w2 ⟨rfl,⟨z,a0⟩,i⟩;have aa:w2.cell? (O fb 6)=some (J f.self.k)/\w2.cell? (O fb 7)=some (J f.self.n)/\w2.cell? (O w.heap.size 1)=some (J x.a):=⟨a0.c.1,a0.c.2.1,i.cell o.2.2 (by rw[ao];omega)⟩;have a4:=az.keep (.refl _ _) i (by omega) (by omega) (by omega);clear tokA;have tokB:True:=trivial)
     | (have _t:=tokB;go_at_call 274;refine (xhb a4 f.self x.a f.top).mono ?_;rintro e w3 ⟨rfl,⟨T3,q,H⟩,l⟩;have a7:=a0.keep q l (by omega) (by omega) (by omega) (by omega);have aj:w3.cell? (O fb 6)=some (J f.self.k)/\w3.cell? (O fb 7)=some (J f.self.n)/\w3.cell? (O w.heap.size 1)=some (J x.a):=⟨a7.c.1,a7.c.2.1,l.cell aa.2.2 (by rw[ao];omega)⟩;clear tokB))
   have Q:Hid (StPost p L T w mb (20-(d:Int)) K fb ({ m with heap:=FF m.heap f.self x.a f.top },f.pop,0) (.returned (J 0)) w3):=Mk hC ⟨rfl,rfl⟩ hX a6.out.drew (hC.keep a2 (.refl _ _) (Kp.refl (λ_=>False) _ _).drew id id) rfl (b4.out q i) ⟨_,_,_,H⟩ (λ_=>⟨_,_,_,_,_,a7⟩) (S:=λt=>t=K\/t=2) ((i.mono λt h=>Or.inl h).trans (.refl _ _) (l.mono λt h=>Or.inr h)) (λt h=>by unfold CF;omega) (by omega) (by omega);clear a1 a0 a7 a8 az a4 H i l q a3 a2 a5 x0 x1 x2 x3 x4 o aa aj;go_wp2;go_ret;rw[HN.out];exact Q.out
  have ax:(x.op == 12)=false:=by simpa using h12
  by_cases h13:x.op=13
  ·have HN:Hid (BD (BL p.E d) p.E d m f a x=DT p.E m f x.a):=by show _=_;rw[HM.out];unfold Ky;rw[if_neg h9];rw[if_neg h10];rw[if_neg h11];rw[if_neg h12];rw[if_pos h13]
   have b1:(x.op == 13)=true:=by simpa using h13
   clear HM h9 h10 h11 h12 h13;have b3:=xhA a3 a1 x.a (hC.ok.slots x.a) ab;have a9:(DT p.E m f x.a).1.st=m.st/\(DT p.E m f x.a).1.sz_=m.sz_:=⟨xrz _ _ _ _,xhQ _ _ _ _⟩;generalize DT p.E m f x.a=r at *;go_wp2_with fail;refine b3.mono ?_;rintro e w2 ⟨rfl,⟨T2,j,a4,a0⟩,i⟩;have Q:Hid (StPost p L T w mb (20-(d:Int)) K fb r (.returned (J r.2.2)) w2):=Mk hC a9 hX a6.out a2 rfl j a4 (λh=>(a0 h).elim λsv' h'=>⟨_,_,_,sv',_,h'⟩) i (λt h=>by unfold CF;omega) (by omega) (by omega);clear a1 a0 i j a3 a4 a2 a5 x0 x1 x2 x3 x4 b3 a9;go_wp2;go_ret;rw[HN.out];exact Q.out
  have b1:(x.op == 13)=false:=by simpa using h13
  by_cases h14:x.op=14
  ·have HN:Hid (BD (BL p.E d) p.E d m f a x=Dv (BL p.E d) p.E m f a x):=by show _=_;rw[HM.out];unfold Ky;rw[if_neg h9];rw[if_neg h10];rw[if_neg h11];rw[if_neg h12];rw[if_neg h13];rw[if_pos h14]
   have ap:(x.op == 14)=true:=by simpa using h14
   clear HM h9 h10 h11 h12 h13 h14;have au:=xpZ hC R a3 a1 a2 hI U M a x;generalize Dv (BL p.E d) p.E m f a x=r at *;go_wp2_with fail;refine au.mono ?_;rintro e w2 ⟨rfl,⟨T2,j,a4,G,a0⟩,i⟩;have Q:Hid (StPost p L T w mb (20-(d:Int)) K fb r (.returned (J r.2.2)) w2):=⟨rfl,⟨T2,hX.trans a6.out.size j,a4,G,a0⟩,a6.out.trans hX i⟩;clear a1 a0 i j a3 a4 a2 G a5 x0 x1 x2 x3 x4 au;go_wp2;go_ret;rw[HN.out];exact Q.out
  have ap:(x.op == 14)=false:=by simpa using h14
  by_cases h15:x.op=15
  ·have HN:Hid (BD (BL p.E d) p.E d m f a x=Cr m f a x.a):=by show _=_;rw[HM.out];unfold Ky;rw[if_neg h9];rw[if_neg h10];rw[if_neg h11];rw[if_neg h12];rw[if_neg h13];rw[if_neg h14];rw[if_pos h15]
   have ar:(x.op == 15)=true:=by simpa using h15
   clear HM h9 h10 h11 h12 h13 h14 h15;have al:=xlX a3 a1 a x.a hI.tz;have a9:(Cr m f a x.a).1.st=m.st/\(Cr m f a x.a).1.sz_=m.sz_:=⟨xne _ _ _ _,xfw _ _ _ _⟩;generalize Cr m f a x.a=r at *;go_wp2_with fail;refine al.mono ?_;rintro e w2 ⟨rfl,a4,a0,i⟩;have Q:Hid (StPost p L T w mb (20-(d:Int)) K fb r (.returned (J r.2.2)) w2):=Mk hC a9 hX a6.out a2 rfl (.refl _ _) ⟨_,_,_,a4⟩ (λ_=>⟨_,_,_,_,_,a0⟩) i (λt h=>by unfold CF;omega) (by omega) (by omega);clear a1 a0 i a3 a4 a2 a5 x0 x1 x2 x3 x4 al a9;go_wp2;go_ret;rw[HN.out];exact Q.out
  have ar:(x.op == 15)=false:=by simpa using h15
  by_cases h16:x.op=16
  ·have HN:Hid (BD (BL p.E d) p.E d m f a x=Dt m f a x.a):=by show _=_;rw[HM.out];unfold Ky;rw[if_neg h9];rw[if_neg h10];rw[if_neg h11];rw[if_neg h12];rw[if_neg h13];rw[if_neg h14];rw[if_neg h15];rw[if_pos h16]
   have b0:(x.op == 16)=true:=by simpa using h16
   clear HM h9 h10 h11 h12 h13 h14 h15 h16;have al:=xmf a3 a1 a x.a hI.tz;have a9:(Dt m f a x.a).1.st=m.st/\(Dt m f a x.a).1.sz_=m.sz_:=⟨xqX _ _ _ _,xie _ _ _ _⟩;generalize Dt m f a x.a=r at *;go_wp2_with fail;refine al.mono ?_;rintro e w2 ⟨rfl,a4,a0,i⟩;have Q:Hid (StPost p L T w mb (20-(d:Int)) K fb r (.returned (J r.2.2)) w2):=Mk hC a9 hX a6.out a2 rfl (.refl _ _) ⟨_,_,_,a4⟩ (λh=>(a0 h).elim λsv' h'=>⟨_,_,_,sv',_,h'⟩) i (λt h=>by unfold CF;omega) (by omega) (by omega);clear a1 a0 i a3 a4 a2 a5 x0 x1 x2 x3 x4 al a9;go_wp2;go_ret;rw[HN.out];exact Q.out
  have b0:(x.op == 16)=false:=by simpa using h16
  have HN:Hid (BD (BL p.E d) p.E d m f a x=DB p.E d m f x):=by show _=_;rw[HM.out];unfold Ky;rw[if_neg h9];rw[if_neg h10];rw[if_neg h11];rw[if_neg h12];rw[if_neg h13];rw[if_neg h14];rw[if_neg h15];rw[if_neg h16]
  clear HM h9 h10 h11 h12 h13 h14 h15 h16;have aw:=xjO hC hd a3 a1 a2 hI M x B;clear B;generalize DB p.E d m f x=r at *;go_wp2_with fail;refine aw.mono ?_;rintro e w2 hP;have Q:=hid (hP.under hX a6.out);obtain⟨rfl,-⟩:=hP;clear a1 a3 a2 a5 x0 x1 x2 x3 x4 aw;go_wp2;go_ret;rw[HN.out];exact Q.out
end
section
variable {σ:Type}
theorem xh2 (m:Mc σ)(f:Fr)(a b:Int):(Cr m f a b).2.1.stack=f.stack:=by
 unfold Cr;simp only;split<;>split<;>rfl
theorem xma (ent:CC σ)(E:Env σ)(d:Nat)(m:Mc σ)(f:Fr)(a:Int)(x:QI):(BD ent E d m f a x).2.1.stack.length<=f.stack.length+1:=by
 unfold BD;split
 ·simp[Fr.push]
 split
 ·simp[Fr.pop];omega
 split
 ·simp[Fr.push]
 split
 ·simp[Fr.pop];omega
 split
 ·simp[Fr.pop];omega
 split
 ·unfold DT;split
  ·simp
  simp[Fr.push]
 split
 ·unfold Dv;simp only;split
  ·simp
  simp;omega
 split
 ·rw[xh2];omega
 split
 ·unfold Dt;split
  ·simp[Fr.pop];omega
  split
  ·rw[xh2];simp[Fr.pop];omega
  simp
 unfold DB;split
 ·simp
 split
 ·simp only;split
  ·simp
  simp[Fr.leave]
 split
 ·simp[Fr.push]
 split
 ·simp[Fr.pop];omega
 split<;>simp
theorem xnj {ent:CC σ}(g:Gn ent){E:Env σ}{d:Nat}{m:Mc σ}{f:Fr}(i:0<=m.tz)(b:0<=f.pc)(c:f.pc.toNat<f.code.length){x:QI}(h:(BD ent E d m { f with pc:=f.pc+1 } f.pc x).2.2=0){R:Nat}(k:f.stack.length+Cz m f<=R):(BD ent E d m { f with pc:=f.pc+1 } f.pc x).2.1.stack.length+Cz (BD ent E d m { f with pc:=f.pc+1 } f.pc x).1 (BD ent E d m { f with pc:=f.pc+1 } f.pc x).2.1<=R:=by
 have a:=xma ent E d m { f with pc:=f.pc+1 } f.pc x;have j:=xi1 g (E:=E) (d:=d) i b c (x:=x) h;have e:({ f with pc:=f.pc+1 }:Fr).stack=f.stack:=rfl;rw[e] at a;omega
def xst (ent:CC σ):Prop:=∀m c n s a,m.tz<=300->(ent m c n s a).2.2=0->(ent m c n s a).1.tz<=300
theorem xqj {m:Mc σ}{f:Fr}{a b:Int}(c:(Cr m f a b).2.2=0):(Cr m f a b).1.tz<=300:=by
 unfold Cr at c ⊢;by_cases h:b<=a
 ·simp only[h,if_true] at c ⊢;split
  ·rename_i k;rw[if_pos k] at c;cases c
  rename_i k;simp only at k ⊢;omega
 simp only[h,if_false] at c ⊢;split
 ·rename_i k;rw[if_pos k] at c;cases c
 rename_i k;simp only at k ⊢;omega
theorem xr1 {m:Mc σ}(d:m.tz<=300){f:Fr}{a b:Int}(c:(Dt m f a b).2.2=0):(Dt m f a b).1.tz<=300:=by
 unfold Dt at c ⊢;split
 ·exact d
 rename_i k;rw[if_neg k] at c;split
 ·rename_i k2;rw[if_pos k2] at c;exact xqj c
 exact d
theorem xse (E:Env σ)(m:Mc σ)(f:Fr)(c:Int):(DT E m f c).1.tz=m.tz:=by unfold DT;split<;>rfl
theorem xqg {E:Env σ}{ent:CC σ}(e:xst ent)(d:Nat){m:Mc σ}(h:m.tz<=300){f:Fr}{a:Int}{x:QI}(b:(BD ent E d m f a x).2.2=0):(BD ent E d m f a x).1.tz<=300:=by
 cases c:Cl m.heap f x with
 | some u=>unfold BD;rw[c];exact h
 | none=>
  unfold BD at b ⊢;rw[c] at b ⊢;simp only at b ⊢;by_cases h9:x.op=9
  ·rw[if_pos h9];exact h
  rw[if_neg h9] at b ⊢;by_cases h10:x.op=10
  ·rw[if_pos h10];exact h
  rw[if_neg h10] at b ⊢;by_cases h11:x.op=11
  ·rw[if_pos h11];exact h
  rw[if_neg h11] at b ⊢;by_cases h12:x.op=12
  ·rw[if_pos h12];exact h
  rw[if_neg h12] at b ⊢;by_cases h13:x.op=13
  ·rw[if_pos h13,xse];exact h
  rw[if_neg h13] at b ⊢;by_cases h14:x.op=14
  ·rw[if_pos h14] at b ⊢;unfold Dv at b ⊢;simp only at b ⊢;split
   ·rename_i k;rw[if_pos k] at b;exact absurd b k
   rename_i k;exact e _ _ _ _ _ h (Decidable.of_not_not k)
  rw[if_neg h14] at b ⊢;by_cases h15:x.op=15
  ·rw[if_pos h15] at b ⊢;exact xqj b
  rw[if_neg h15] at b ⊢;by_cases h16:x.op=16
  ·rw[if_pos h16] at b ⊢;exact xr1 h b
  rw[if_neg h16] at b ⊢;unfold DB;split
  ·exact h
  split
  ·exact h
  split
  ·exact h
  split
  ·exact h
  split
  ·show (BY E d m).1.tz<=300;unfold BY;split
   ·exact h
   split<;>exact h
  ·exact h
theorem xsn {E:Env σ}{ent:CC σ}(a:xst ent)(d:Nat):∀(g:Nat) (m:Mc σ) (f:Fr),m.tz<=300->(CX ent E d g m f).2.2=0->(CX ent E d g m f).1.tz<=300
 | 0,m,f,h,h0=>by cases h0
 | g+1,m,f,h,h0=>by
  unfold CX at h0 ⊢;generalize (if f.pc<0 then none else f.code[f.pc.toNat]?)=q at h0 ⊢
  cases q with
  | none=>cases h0
  | some x=>
   simp only at h0 ⊢;by_cases h17:x.op=17
   ·rw[if_pos h17];exact h
   rw[if_neg h17] at h0 ⊢;by_cases he0:(BD ent E d m { f with pc:=f.pc+1 } f.pc x).2.2=0
   ·rw[if_neg (by simpa using he0)] at h0 ⊢;exact xsn a d g _ _ (xqg a d h he0) h0
   rw[if_pos he0] at h0;exact absurd h0 he0
theorem xnG {E:Env σ}(d:Nat){b:Mc σ->Fr->Mc σ × QV × Int}(l:∀m f,m.tz<=300->(b m f).2.2=0->(b m f).1.tz<=300):xst (El E d b):=λm c n s a h e=>by
 unfold El at e ⊢;generalize Cp E.cz c n=q at e ⊢
 cases q with
 | none=>cases e
 | some mt=>
  simp only at e ⊢;split at e
  ·cases e
  rename_i j;rw[if_neg j];split at e
  ·rename_i g;rw[if_pos g];split
   ·exact h
   exact h
  rename_i g;rw[if_neg g]
  have k:(BY E d m).1.tz=m.tz:=by
   unfold BY;split
   ·rfl
   split<;>rfl
  split at e
  ·rename_i i;exact absurd e i
  rename_i i;rw[if_neg i];exact l _ _ (by rw[k];exact h) e
theorem xsd (E:Env σ):∀d,xst (BL E d)
 | 0=>xnG 0 λm f h a=>by cases a
 | d+1=>xnG (d+1) λm f h a=>xsn (xsd E d) d _ m f h a
def Mn (f:Fr):Prop:=f.fast=true->∀x∈f.code,x.op=18->0<=x.b/\x.b<=1000
theorem xqZ {ent:CC σ}{E:Env σ}{d:Nat}{m:Mc σ}{f:Fr}(h:Mn f)(a:Int)(x:QI):Mn (BD ent E d m f a x).2.1:=by
 have ED:∀g:Fr,Mn g->∀b,Mn (Cr m g a b).2.1:=λg c b=>by
  unfold Cr;simp only;split<;>split<;>exact c
 unfold BD;split
 ·exact h
 split
 ·exact h
 split
 ·exact h
 split
 ·exact h
 split
 ·exact h
 split
 ·unfold DT;split<;>exact h
 ·split
  ·unfold Dv;simp only;split<;>exact h
  ·split
   ·exact ED f h _
   split
   ·unfold Dt;split
    ·exact h
    split
    ·exact ED f.pop h _
    exact h
   unfold DB;split
   ·exact h
   split
   ·simp only;split
    ·exact h
    exact λh=>by cases h
   split
   ·exact h
   split
   ·exact h
   split<;>exact h
end
end Go.Proofs.YtbafokihegegiaaGreatDoor
