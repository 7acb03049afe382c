/- A part. -/
import Derived.Test.YtbafokihegegiaaGreatDoorM4
namespace Go.Proofs.YtbafokihegegiaaGreatDoor
open Go.ChangeShapes Go.WideShapes Go.ChangeAt Go.RowKit
set_option linter.unusedSimpArgs false
set_option linter.unusedVariables false
set_option maxHeartbeats 8000000
set_option maxRecDepth 8000
section
variable {σ:Type}
structure Cx (p:Mp σ)(L:(Nat->Nat)->World->σ->Nat->Prop)(LF:Nat)(lc:Array Value)(QF:Nat)(qc:Array Value):Prop where
 lv:p.lv=.func (.func LF) #[] lc
 qv:p.qv=.func (.func QF) #[] qc
 lcf:∀ (args:Array Value) (w:World),(callFunc LF args).run Tryz.prog w=.ok (.enter LF args) w
 qcf:∀ (args:Array Value) (w:World),(callFunc QF args).run Tryz.prog w=.ok (.enter QF args) w
 ok:EOk p.E
 fuel:p.E.fuel<=1000000
 keep:∀ {T T':Nat->Nat} {w w':World} {st:σ} {n:Nat} {S:Nat->Prop},L T w st n->Ext T T' w->Kp S T w w'->¬ S 0->¬ S 3->L T' w' st n
 mono:∀ {T:Nat->Nat} {w:World} {st:σ} {n n':Nat},L T w st n->n'<=n->L T w st n'
 look:∀ (T:Nat->Nat) (w:World) (st:σ) (s:QS) (c:Int) (name:ByteArray) (n:Nat),L T w st (n+1)->Calls Tryz.prog LF (#[SV s,.int .i64 c,.string name]++lc) w fun e w'=>e=.returned (.tuple #[.int .i64 (p.E.look st s c name).2.1,.int .i64 (p.E.look st s c name).2.2])/\(∃ T',Ext T T' w/\L T' w' (p.E.look st s c name).1 n)/\Kp (fun t=>t=3) T w w'
 quick:∀ (T:Nat->Nat) (w:World) (st:σ) (c k:Int) (mt:QM) (n:Nat),L T w st n->xaz p.E.cz c k=some mt->Calls Tryz.prog QF (#[.int .i64 c,.int .i64 k]++qc) w fun e w'=>(∃ fc fn fe ft av nv cv,e=.returned (.tuple #[FaV fc fn fe ft (.slice av nv cv),.bool (p.E.quick c k).isSome])/\∀ q,p.E.quick c k=some q->ft=q.2/\xaG (Fx T w') w' (.slice av nv cv) q.1)/\Below w.heap.size w w'
 few:∀ c k mt,xaz p.E.cz c k=some mt->mt.code.length<=500/\∀ q,p.E.quick c k=some q->q.1.length<=500/\∀ x∈q.1,x.op=18->0<=x.b/\x.b<=1000
def xdy (E:Env σ)(m:Mc σ):Nat:=(E.fuel-m.sz_+1).toNat
abbrev All (K:Nat):Nat->Prop:=fun t=>t=1\/t=2\/t=3\/K<=t
def EnPost (p:Mp σ)(L:(Nat->Nat)->World->σ->Nat->Prop)(T:Nat->Nat)(w:World)(mb:Nat)(calls:Int)(K:Nat)(r:Mc σ × QV × Int)(e:Ending)(w':World):Prop:=
 e=.returned (.tuple #[VV r.2.1,.int .i64 r.2.2])/\(∃ T',Ext T T' w/\(∃ hv g s,MacAt p T' w' mb r.1 calls hv g s)/\L T' w' r.1.st (if r.2.2=0 then xdy p.E r.1 else 0))/\Kp (All K) T w w'
def StPost (p:Mp σ)(L:(Nat->Nat)->World->σ->Nat->Prop)(T:Nat->Nat)(w:World)(mb:Nat)(calls:Int)(K fb:Nat)(r:Mc σ × Fr × Int)(e:Ending)(w':World):Prop:=
 e=.returned (.int .i64 r.2.2)/\(∃ T',Ext T T' w/\(∃ hv g s,MacAt p T' w' mb r.1 calls hv g s)/\L T' w' r.1.st (if r.2.2=0 then xdy p.E r.1 else 0)/\(r.2.2=0->∃ cv av tv sv kv,FrAt T' K w' fb r.2.1 cv av tv sv kv))/\Kp (All K) T w w'
structure MIn (E:Env σ)(m:Mc σ):Prop where
 heap:HOk E.cz m.heap
 sz_:0<=m.sz_/\m.sz_<=E.fuel
 tz:0<=m.tz/\m.tz<=300
def xfL (p:Mp σ)(L:(Nat->Nat)->World->σ->Nat->Prop)(d:Nat):Prop:=
 ∀ (K:Nat) (T:Nat->Nat) (w:World) (mb:Nat) (m:Mc σ) (hv:Value) (g:Nat) (s:Nat->Nat) (c n:Int) (self:QV) (args:List QV) (av:Value),5<=K->MacAt p T w mb m (20-(d:Int)) hv g s->L T w m.st (p.E.fuel-m.sz_).toNat->MIn p.E m->xaM m.heap.length self=0->VsOk m.heap.length args->xaV (Fx T w) w av args->
  Calls Tryz.prog 191 #[.pointer (some ⟨mb,0,none⟩),.int .i64 c,.int .i64 n,VV self,av] w fun e w'=>EnPost p L T w mb (20-(d:Int)) K (xbh p.E d m c n self args) e w'
variable {p:Mp σ} {L:(Nat->Nat)->World->σ->Nat->Prop} {LF QF:Nat} {lc qc:Array Value} {T T':Nat->Nat} {w w':World} {mb:Nat} {m m':Mc σ} {hv:Value} {g:Nat} {s:Nat->Nat} {K fb:Nat} {f:Fr} {cv av tv sv kv:Value}
structure SdR (w:World)(x:QI)(w':World):Prop where
 x0:w'.cell? ⟨w.heap.size,0,none⟩=some (.int .i64 x.op)
 x1:w'.cell? ⟨w.heap.size,1,none⟩=some (.int .i64 x.a)
 x2:w'.cell? ⟨w.heap.size,2,none⟩=some (.int .i64 x.b)
 x3:w'.cell? ⟨w.heap.size,3,none⟩=some (.int .i64 x.c)
 x4:w'.cell? ⟨w.heap.size,4,none⟩=some (.string x.name)
theorem xlm (w:World)(x:QI)(t:TypeId):SdR w x (w.alloc (.cells #[.int .i64 x.op,.int .i64 x.a,.int .i64 x.b,.int .i64 x.c,.string x.name] t)):=⟨xab _ _ _ _ rfl 0,xab _ _ _ _ rfl 1,xab _ _ _ _ rfl 2,xab _ _ _ _ rfl 3,xab _ _ _ _ rfl 4⟩
theorem SdR.kp {w:World}{x:QI}{w' w'':World}{T:Nat->Nat}{S:Nat->Prop}(h:SdR w x w')(k:Kp S T w' w'')(hs:¬ S (T w.heap.size)):SdR w x w'':=⟨k.cell h.x0 hs,k.cell h.x1 hs,k.cell h.x2 hs,k.cell h.x3 hs,k.cell h.x4 hs⟩
theorem xsE {a1 a2 a3 a4 a5 a6 a7 a8 a9:Addr}{v1 v2 v3 v4 v5 v6 v7 v8 v9:Value}{w w':World}(h:w.cell? a1=some v1/\w.cell? a2=some v2/\w.cell? a3=some v3/\w.cell? a4=some v4/\w.cell? a5=some v5/\w.cell? a6=some v6/\w.cell? a7=some v7/\w.cell? a8=some v8/\w.cell? a9=some v9)(hb:Below w.heap.size w w'):w'.cell? a1=some v1/\w'.cell? a2=some v2/\w'.cell? a3=some v3/\w'.cell? a4=some v4/\w'.cell? a5=some v5/\w'.cell? a6=some v6/\w'.cell? a7=some v7/\w'.cell? a8=some v8/\w'.cell? a9=some v9:=by
 obtain⟨h1,h2,h3,h4,h5,h6,h7,h8,h9⟩:=h
 exact⟨qzA hb h1,qzA hb h2,qzA hb h3,qzA hb h4,qzA hb h5,qzA hb h6,qzA hb h7,qzA hb h8,qzA hb h9⟩
theorem xsJ {T:Nat->Nat}{S:Nat->Prop}{b1 b2 b3 o1 o2:Nat}{v1 v2 v3 v4 v5 v6 v7 v8 v9:Value}{w w':World}(h:w.cell? ⟨b1,o1,none⟩=some v1/\w.cell? ⟨b1,o2,none⟩=some v2/\w.cell? ⟨b2,0,none⟩=some v3/\w.cell? ⟨b2,1,none⟩=some v4/\w.cell? ⟨b2,2,none⟩=some v5/\w.cell? ⟨b2,3,none⟩=some v6/\w.cell? ⟨b2,4,none⟩=some v7/\w.cell? ⟨b3,0,none⟩=some v8/\w.cell? ⟨b3,1,none⟩=some v9)(k:Kp S T w w')(h1:¬ S (T b1))(h2:¬ S (T b2))(h3:¬ S (T b3)):w'.cell? ⟨b1,o1,none⟩=some v1/\w'.cell? ⟨b1,o2,none⟩=some v2/\w'.cell? ⟨b2,0,none⟩=some v3/\w'.cell? ⟨b2,1,none⟩=some v4/\w'.cell? ⟨b2,2,none⟩=some v5/\w'.cell? ⟨b2,3,none⟩=some v6/\w'.cell? ⟨b2,4,none⟩=some v7/\w'.cell? ⟨b3,0,none⟩=some v8/\w'.cell? ⟨b3,1,none⟩=some v9:=by
 obtain⟨e1,e2,e3,e4,e5,e6,e7,e8,e9⟩:=h
 exact⟨k.cell e1 h1,k.cell e2 h1,k.cell e3 h2,k.cell e4 h2,k.cell e5 h2,k.cell e6 h2,k.cell e7 h2,k.cell e8 h3,k.cell e9 h3⟩
theorem MacAt.st {calls:Int}(h:MacAt p T w mb m calls hv g s)(st:σ):MacAt p T w mb { m with st:=st } calls hv g s:=⟨h.box,h.tag,h.heap,h.cls⟩
theorem xpZ (hC:Cx p L LF lc QF qc){d:Nat}(hEn:xfL p L d)(h:MacAt p T w mb m (20-(d:Int)) hv g s)(hF:FrAt T K w fb f cv av tv sv kv)(hL:L T w m.st (xdy p.E m))(hI:MIn p.E m)(hFo:FOk p.E.cz m.heap.length f)(hst:f.stack.length<=1000000)(a:Int)(x:QI) :
  Calls Tryz.prog 276 #[.pointer (some ⟨mb,0,none⟩),.pointer (some ⟨fb,0,none⟩),.int .i64 a,IV x] w fun e w'=>StPost p L T w mb (20-(d:Int)) K fb (xbO (xbh p.E d) p.E m f a x) e w':=by
 have hp:=hF.pos;have hlm:=xam h.box;have hlf:=xam hF.box;have hX:=xaQ T w 4;have hT4:∀ b,w.heap.size<=b->xbc T w 4 b=4:=fun b hb=>xba hb
 have hb1:=xai w (.cells #[.int .i64 x.op,.int .i64 x.a,.int .i64 x.b,.int .i64 x.c,.string x.name] 69);have hM0:=(h.tagged0 4).later hb1;have hF0:=(hF.tagged0 4).later hb1;have hL0:=hC.keep (hC.keep hL hX (Kp.refl (fun _=>False) _ _) id id) (.refl _ _) (Kp.of_below (S:=fun _=>False) hb1) id id
 have hR0:=xlm w x 69;clear h hF hL;generalize xbc T w 4=T1 at *;obtain⟨k,hk⟩:∃ k,k=xbI f.stack x.a:=⟨_,rfl⟩;have HS:Hid (xbO (xbh p.E d) p.E m f a x=(let l:=p.E.look m.st (f.site a x) (xap m.heap (xaL (f.stack.take k) 0)) x.name;let r:=xbh p.E d { m with st:=l.1 } l.2.1 l.2.2 (xaL (f.stack.take k) 0) (f.stack.drop k);if r.2.2≠0 then (r.1,f,r.2.2) else (r.1,{ f with stack:=(f.stack.take k).dropLast++[r.2.1] },0))):=by show _=_;unfold xbO;rw[← hk]
 have HSelf:Hid (xaM m.heap.length (xaL (f.stack.take k) 0)=0):=VsOk.entry (hFo.stack.sub fun v hv=>List.mem_of_mem_take hv) _
 have HArgs:Hid (VsOk m.heap.length (f.stack.drop k)):=hFo.stack.sub fun v hv=>List.mem_of_mem_drop hv
 have HTop:Hid (Fr.top { f with stack:=f.stack.take k }=xaL (f.stack.take k) 0):=rfl
 have HPop:Hid (Fr.pop { f with stack:=f.stack.take k }={ f with stack:=(f.stack.take k).dropLast }):=rfl
 have HSite:Hid (∀ l,Fr.site { f with stack:=l } a x=f.site a x):=fun _=>rfl
 have HLen:Hid ((f.stack.take k).dropLast.length<=1000000):=by show _<=_;simp;omega
 have hPA:=xkl hF0 x.a k hk;have hTL:(f.stack.take k).length<=1000000:=by simp;omega
 clear hk;go_enter Tryz.func276,Tryz.ntmps276
 go_upto_region 1 with (fail)
 generalize (w.alloc (.cells #[.int .i64 x.op,.int .i64 x.a,.int .i64 x.b,.int .i64 x.c,.string x.name] 69))=W at *;obtain⟨x0,x1,x2,x3,x4⟩:=id hR0;go_wp2_with fail;refine hPA.mono ?_;rintro e w1 ⟨aa,ca,T2,sv1,rfl,hX1,hF1,hA1,hK1⟩;clear hPA;generalize f.stack.drop k=args at *;have hz4:T1 w.heap.size=4:=hT4 _ (qzC _);have hM1:=hM0.keep hX1 hK1 (by omega) (by omega) (by omega)
 have hL1:=hC.keep hL0 hX1 hK1 (by omega) (by omega)
 have hR1:=hR0.kp hK1 (by rw[hz4];omega)
 clear x0 x1 x2 x3 x4;go_wp2_with fail;refine (xeM hF1).mono ?_;rintro e w2 ⟨rfl,⟨sv2,hF2⟩,hK2⟩;have hM2:=hM1.keep (.refl _ _) hK2 (by omega) (by omega) (by omega)
 have hL2:=hC.keep hL1 (.refl _ _) hK2 (by omega) (by omega)
 have hA2:=hA1.fx xa7 (.refl _ _) hK2 (by omega)
 have hWz:w.heap.size<W.heap.size:=World.block_lt_of_cell? W ⟨w.heap.size,0,none⟩ hR0.x0;have hz5:T2 w.heap.size=4:=by rw[hX1 _ hWz];exact hz4
 have hR2:=hR1.kp hK2 (by rw[hz5];omega)
 rw[HTop.out];rw[HPop.out] at hF2;generalize xaL (f.stack.take k) 0=self at *;generalize (f.stack.take k).dropLast=rest at *;have hbV:Below w2.heap.size w2 (w2.alloc (.cells #[.int .i64 self.k,.int .i64 self.n] 41)).drew:=(xai _ _).drew;have hX3:=xaQ T2 w2 4;have hT5:∀ b,w2.heap.size<=b->xbc T2 w2 4 b=4:=fun b hb=>xba hb
 have hM3:=(hM2.tagged0 4).later hbV;have hF3:=(hF2.tagged0 4).later hbV;have hL3:=hC.keep (hC.keep hL2 hX3 (Kp.refl (fun _=>False) _ _) id id) (.refl _ _) (Kp.of_below (S:=fun _=>False) hbV) id id
 have hA3:=(xfh hA2 xa7 4).fx xa7 (.refl _ w2) (Kp.of_below (S:=fun _=>False) hbV) id
 have hR3:SdR w x (w2.alloc (.cells #[.int .i64 self.k,.int .i64 self.n] 41)).drew:=hR2.kp (T:=T2) (S:=fun _=>False) (Kp.of_below hbV) id
 have s0:(w2.alloc (.cells #[.int .i64 self.k,.int .i64 self.n] 41)).drew.cell? ⟨w2.heap.size,0,none⟩=some (.int .i64 self.k):=xab w2 #[.int .i64 self.k,.int .i64 self.n] 41 _ rfl 0;have s1:(w2.alloc (.cells #[.int .i64 self.k,.int .i64 self.n] 41)).drew.cell? ⟨w2.heap.size,1,none⟩=some (.int .i64 self.n):=xab w2 #[.int .i64 self.k,.int .i64 self.n] 41 _ rfl 1;have hz6:xbc T2 w2 4 w.heap.size=4:=by rw[hX3 _ (qzE hWz (qzD hK1.size hK2.size))];exact hz5
 have hz7:xbc T2 w2 4 w2.heap.size=4:=hT5 _ (qzC _);have HE3:Hid (Ext T (xbc T2 w2 4) w):=((hX.trans hb1.size hX1).trans (qzD hb1.size (qzD hK1.size hK2.size)) hX3);have HK3:Hid (Kp (All K) T w (w2.alloc (.cells #[.int .i64 self.k,.int .i64 self.n] 41)).drew):=((((Kp.of_below (S:=All K) hb1).trans hX (hK1.mono fun t h=>Or.inr (Or.inr (Or.inr (by omega))))).trans (hX.trans hb1.size hX1) (hK2.mono fun t h=>Or.inr (Or.inr (Or.inr (by omega))))).on hbV)
 clear hM2 hF2 hL2 hA2 hR2 hM1 hF1 hL1 hA1 hR1 hM0 hF0 hL0 hR0 hK1 hK2 hX1 hb1 hz4 hz5;go_wp2;generalize xbc T2 w2 4=T3 at *;generalize (w2.alloc (.cells #[.int .i64 self.k,.int .i64 self.n] 41))=V at *;have m7:=hM3.c7;have m1:=hM3.c1;rw[hC.lv] at m7;obtain⟨ch,rfl,hc1,hc2⟩:=hM3.heap.form;obtain⟨x0,x1,x2,x3,x4⟩:=id hR3
 have hsite:Calls Tryz.prog 282 #[.pointer (some ⟨fb,0,none⟩),.int .i64 a,IV x] V.drew fun e w'=>e=.returned (SV (f.site a x))/\Below V.drew.heap.size V.drew w':=by
  have:=xpY hF3 a x;rw[HSite.out] at this
  exact this
 have hcls:∀ w':World,Below V.drew.heap.size V.drew w'->Calls Tryz.prog 190 #[.slice (some ⟨g,0,none⟩) m.heap.length ch,VV self] w' fun e w''=>e=.returned (.int .i64 (xap m.heap self))/\Below w'.heap.size w' w'':=fun w' hb=>xfF m.heap _ self w' ((hM3.heap.heap).later xaB hb)
 have hlook:∀ w':World,Below V.drew.heap.size V.drew w'->Calls Tryz.prog LF (#[SV (f.site a x),.int .i64 (xap m.heap self),.string x.name]++lc) w' _:=fun w' hb=>hC.look T3 w' m.st (f.site a x) (xap m.heap self) x.name (p.E.fuel-m.sz_).toNat (hC.keep (hC.mono hL3 (by unfold xdy;have:=hI.sz_;omega)) (.refl _ _) (Kp.of_below (S:=fun _=>False) hb) id id)
 obtain⟨c0,hc0⟩:∃ c0,c0=xap m.heap self:=⟨_,rfl⟩;obtain⟨st0,hst0⟩:∃ st0,st0=f.site a x:=⟨_,rfl⟩;rw[← hc0] at hlook HS hcls;rw[← hst0] at hlook HS hsite;have HST:=hid hst0;clear hc0 hst0;have hS0:V.drew.cell? ⟨mb,7,none⟩=some (.func (.func LF) #[] lc)/\V.drew.cell? ⟨mb,1,none⟩=some (.slice (some ⟨g,0,none⟩) m.heap.length ch)/\V.drew.cell? ⟨w.heap.size,0,none⟩=some (.int .i64 x.op)/\V.drew.cell? ⟨w.heap.size,1,none⟩=some (.int .i64 x.a)/\V.drew.cell? ⟨w.heap.size,2,none⟩=some (.int .i64 x.b)/\V.drew.cell? ⟨w.heap.size,3,none⟩=some (.int .i64 x.c)/\V.drew.cell? ⟨w.heap.size,4,none⟩=some (.string x.name)/\V.drew.cell? ⟨w2.heap.size,0,none⟩=some (.int .i64 self.k)/\V.drew.cell? ⟨w2.heap.size,1,none⟩=some (.int .i64 self.n):=⟨m7,m1,x0,x1,x2,x3,x4,s0,s1⟩
 have htm:¬ (T3 mb=3):=by rw[hM3.tag];omega
 have htx:¬ (T3 w.heap.size=3):=by rw[hz6];omega
 have hts:¬ (T3 w2.heap.size=3):=by rw[hz7];omega
 have hcf:=hC.lcf;have tokA:True:=trivial
 go_region_held3 (fun w'=>w'.cell? ⟨mb,7,none⟩=some (.func (.func LF) #[] lc)/\w'.cell? ⟨mb,1,none⟩=some (.slice (some ⟨g,0,none⟩) m.heap.length ch)/\w'.cell? ⟨w.heap.size,0,none⟩=some (.int .i64 x.op)/\w'.cell? ⟨w.heap.size,1,none⟩=some (.int .i64 x.a)/\w'.cell? ⟨w.heap.size,2,none⟩=some (.int .i64 x.b)/\w'.cell? ⟨w.heap.size,3,none⟩=some (.int .i64 x.c)/\w'.cell? ⟨w.heap.size,4,none⟩=some (.string x.name)/\w'.cell? ⟨w2.heap.size,0,none⟩=some (.int .i64 self.k)/\w'.cell? ⟨w2.heap.size,1,none⟩=some (.int .i64 self.n))
  (first | with_reducible exact hS0 | with_reducible exact hS1 | with_reducible exact hS2 | with_reducible exact hS3)
  (first
   | (have _t:=tokA;go_at_call 282;refine hsite.mono ?_;rintro e w3 ⟨rfl,hb3⟩;have hS1:=xsE hS0 hb3;clear tokA;have tokB:True:=trivial)
   | (have _t:=tokB;go_at_call 190;refine (hcls _ hb3).mono ?_;rintro e w4 ⟨rfl,hb4⟩;have hS2:=xsE hS1 hb4;have hb34:=xaf hb3 hb4;clear tokB;have tokC:True:=trivial)
   | (have _t:=tokC;refine (hlook _ hb34).mono ?_;rintro e w5 ⟨rfl,⟨T5,hX5,hL5⟩,hK5⟩;have hS3:=xsJ (xsE hS0 hb34) hK5 htm htx hts;clear tokC))
 have hM5:=((hM3.later hb34).keep hX5 hK5 (by omega) (by omega) (by omega)).st (p.E.look m.st st0 c0 x.name).1
 have hF5:=(hF3.later hb34).keep hX5 hK5 (by omega) (by omega) (by omega) (by omega)
 have hA5:=(hA3.fx xa7 (.refl _ _) (Kp.of_below (S:=fun _=>False) hb34) id).fx xa7 hX5 hK5 (by omega)
 have HE5:=hid (HE3.out.trans (qzD HK3.out.size hb34.size) hX5);have HK5:=hid ((HK3.out.on hb34).trans HE3.out (hK5.mono (S':=All K) fun t h=>Or.inr (Or.inr (Or.inl h))))
 obtain⟨-,-,-,-,-,-,-,s0',s1'⟩:=hS3;clear hS0 hS1 hS2 m7 m1 x0 x1 x2 x3 x4 s0 s1 hsite hcls hlook hM3 hF3 hL3 hA3 hR3 hb3 hb4 hb34 hX5 hK5;generalize p.E.look m.st st0 c0 x.name=l at *;have hI5:MIn p.E { m with st:=l.1 }:=⟨hI.heap,hI.sz_,hI.tz⟩
 have hent:=hEn (K+3) T5 w5 mb _ _ _ _ l.2.1 l.2.2 self args _ (by omega) hM5 hL5 hI5 HSelf.out HArgs.out hA5
 generalize xbh p.E d { m with st:=l.1 } l.2.1 l.2.2 self args=r at *
 go_wp2_with fail;refine hent.mono ?_;rintro e w6 ⟨rfl,⟨T6,hX6,⟨hv6,g6,s6,hM6⟩,hL6⟩,hK6⟩;have hF6:=hF5.keep hX6 hK6 (by unfold All;omega) (by unfold All;omega) (by unfold All;omega) (by unfold All;omega)
 have HE6:=hid (HE5.out.trans HK5.out.size hX6);have HK6:=hid (HK5.out.trans HE5.out (hK6.mono (S':=All K) fun t h=>by unfold All at *;omega))
 obtain⟨r1,v,er⟩:=r;simp only at HS hM6 hL6;clear hent hM5 hF5 hA5 hL5 hX6 hK6
 by_cases her:er=0
 ·subst her;rw[if_neg (by simp)] at HS
  rw[if_pos rfl] at hL6;have hbz:Below w6.heap.size w6 (w6.alloc (.cells #[.int .i64 v.k,.int .i64 v.n] 41)):=xai _ _;have hM7:=hM6.later hbz;have hF7:=hF6.later hbz;have hL7:=hC.keep hL6 (.refl _ _) (Kp.of_below (S:=fun _=>False) hbz) id id
  have HK7:=hid (HK6.out.on hbz);clear hM6 hF6 hL6;go_wp2_with fail;refine (xe8 hF7 v (by show rest.length<_;have:=HLen.out;omega)).mono ?_
  rintro e w8 ⟨rfl,⟨T8,sv8,hX8,hF8⟩,hK8⟩;have hM8:=hM7.keep hX8 hK8 (by omega) (by omega) (by omega)
  have hL8:=hC.keep hL7 hX8 hK8 (by omega) (by omega)
  have Q:Hid (StPost p L T w mb (20-(d:Int)) K fb (r1,{ f with stack:=rest++[v] },0) (.returned (.int .i64 0)) w8):=
   ⟨rfl,⟨T8,HE6.out.trans HK7.out.size hX8,⟨_,_,_,hM8⟩,by rw[if_pos rfl];exact hL8,fun _=>⟨_,_,_,_,_,hF8⟩⟩,HK7.out.trans HE6.out (hK8.mono fun t h=>by unfold All;omega)⟩
  clear hM7 hF7 hL7 hM8 hL8 hF8 hX8 hK8;go_wp2
  go_ret
  rw[HS.out]
  exact Q.out
 ·rw[if_pos her] at HS;rw[if_neg her] at hL6;have her':(er != 0)=true:=by simpa using her
  have Q:Hid (StPost p L T w mb (20-(d:Int)) K fb (r1,f,er) (.returned (.int .i64 er)) (w6.alloc (.cells #[.int .i64 v.k,.int .i64 v.n] 41))):=
   ⟨rfl,⟨T6,HE6.out,⟨_,_,_,hM6.later (xai _ _)⟩,by rw[if_neg her];exact hC.keep hL6 (.refl _ _) (Kp.of_below (S:=fun _=>False) (xai _ _)) id id,fun h=>absurd h her⟩,HK6.out.on (xai _ _)⟩
  clear hM6 hF6 hL6;go_wp2
  go_ret
  rw[HS.out]
  exact Q.out
end
theorem xjP {P:Program}(w:World)(dT sT ty elem:TypeId)(sz g dl dCap:Nat)(sp:Option Addr)(sl sCap n:Nat)(cur:Array Value)(t:TypeId)(cs:List Value)
  (hu:P.underlying dT=some (.slice elem)) (hs:(P.info? elem).map (·.size)=some sz) (hg:w.heap[g]?=some (.cells cur t (0,0))) (hmn:Nat.min sl dl=n) (hn:cs.length=n*sz)
  (hsrc:∀ j v,cs[j]?=some v->∃ a,sp=some a/\w.cell? (a.add j)=some v) (hcur:cur.size=dl*sz) (h1:∀ v∈cs,v.oneCell'=true) :
  (Builtin.copy_ #[dT,sT] ty #[.slice (some ⟨g,0,none⟩) dl dCap,.slice sp sl sCap]).run P w=.ok (goInt n) (w.setRow g (cs++cur.toList.drop cs.length).toArray):=by
 cases hq:P.info? elem with
 | none=>simp[hq] at hs
 | some i=>
  have hi:i.size=sz:=by simpa [hq] using hs
  have hle:cs.length<=cur.size:=by rw[hn,hcur];exact Nat.mul_le_mul_right _ (by rw[← hmn];exact Nat.min_le_right _ _)
  have hst:=run_storeCells_at P g 0 t cs 0 cur w hg (by simp;omega) h1
  have hfc:(Builtin.firstCells sz n (.slice sp sl sCap)).run P w=.ok cs.toArray w:=by
   cases sp with
   | some a=>exact run_firstCells_some w sz n a sl sCap cs hn (fun j v hv=>by obtain⟨a',e,h⟩:=hsrc j v hv;cases e;exact h)
   | none=>
    have:cs=[]:=by
     cases cs with
     | nil=>rfl
     | cons c r=>obtain⟨a',e,_⟩:=hsrc 0 c rfl;cases e
    rw[this]
    exact run_firstCells_none w sz n sl sCap
  have e:(cur.toList.take (0+0)++cs++cur.toList.drop (0+0+cs.length)).toArray=(cs++cur.toList.drop cs.length).toArray:=by simp
  rw[e] at hst
  simp[Builtin.copy_,run_underlying hu,Builtin.lenOf,sizeOf,typeInfo,hq,hi,hmn,hfc,hst]
theorem xkF (n:Int)(l:List QV):xaA ((xaC n).zipIdx.map fun p=>(l[p.2]?).getD xa4)=(xaA (l.take (Nat.min l.length (xaC n).length)))++(xaA (xaC n)).drop (xaA (l.take (Nat.min l.length (xaC n).length))).length:=by
 unfold xaC;generalize (min (max n 0) 40).toNat=k;rw[List.length_replicate,xcz,List.length_take,xgx,← xdu]
 congr 1
 apply List.ext_getElem?
 intro j;simp only[List.getElem?_map,List.getElem?_zipIdx,List.getElem?_append,List.length_take,List.getElem?_take,List.getElem?_drop,List.getElem?_replicate,Nat.zero_add];have hmin:Nat.min l.length k=min l.length k:=rfl;rw[hmin]
 by_cases hj:j<k
 ·simp only[hj,if_true,Option.map_some]
  by_cases hl:j<l.length
  ·rw[if_pos (by omega),if_pos (by omega)]
   simp[hl]
  ·rw[if_neg (by omega),if_pos (by omega),List.getElem?_eq_none (by omega)]
   rfl
 ·simp only[hj,if_false,Option.map_none];rw[if_neg (by omega),if_neg (by omega)]
section
variable {T T':Nat->Nat} {K:Nat} {w w':World} {fb:Nat} {f:Fr} {cv av tv sv kv:Value}
theorem xpo (h:w.heap[fb]?=some (FB f cv av tv sv kv))(tv':Value)(a:Int):((((w.setCell ⟨fb,11,none⟩ cv).setCell ⟨fb,9,none⟩ tv').setCell ⟨fb,12,none⟩ (.int .i64 a)).setCell ⟨fb,13,none⟩ (.bool false)).heap[fb]?=some (FB (f.leave a) cv av tv' sv cv):=by
 rw[xae (xae (xae (xae h _) _) _) _];rfl
theorem xiS (h:FrAt T K w fb f cv av tv sv kv)(a:Int):Calls Tryz.prog 283 #[.pointer (some ⟨fb,0,none⟩),.int .i64 a] w fun e w'=>e=.returned (.tuple #[])/\(∃ T' tv',Ext T T' w/\FrAt T' K w' fb (f.leave a) cv av tv' sv cv)/\Kp (fun t=>t=K) T w w':=by
 have hlt:=xam h.box;have hp:=h.pos;have H:=hid h;have c3:w.cell? ⟨fb,3,none⟩=some (.int .i64 f.meth.temps):=by rw[qzB h.box];rfl
 obtain⟨tb,htv,ht2,ht3,ht4⟩:=h.temps;subst htv;obtain⟨ac,cc,hcv,-⟩:=id h.meth;subst hcv;clear h;go_enter Tryz.func283,Tryz.ntmps283;go_wp2_with fail;refine (xhm f.meth.temps _).mono ?_;rintro e w1 ⟨nb,rfl,hnb,hgt,hb1⟩;have hx1:=xaa H.out.box hb1;have d9:w1.cell? ⟨fb,9,none⟩=some (.slice (some ⟨tb,0,none⟩) f.temps.length f.temps.length):=by rw[qzB hx1];rfl
 have htl:tb<w.heap.size:=xam ht2;have ht1:=xaa ht2 hb1
 have hcopy:=xjP (P:=Tryz.prog) w1 52 52 3 41 2 nb (xaC f.meth.temps).length (xaC f.meth.temps).length (some ⟨tb,0,none⟩) f.temps.length f.temps.length _ _ 41 (xaA (f.temps.take (Nat.min f.temps.length (xaC f.meth.temps).length))) Tryz.underlying52 (by kernel_rfl) hnb rfl (by rw[xcz,List.length_take];congr 1;exact Nat.min_eq_left (Nat.min_le_left _ _)) (fun j v hv=>⟨⟨tb,0,none⟩,rfl,by
  rw[← xez,List.getElem?_take] at hv
  split at hv
  ·rw[show (⟨tb,0,none⟩:Addr).add j=⟨tb,j,none⟩ by simp[Addr.add];intro h;omega,qzB ht1]
   simpa using hv
  ·cases hv⟩) (by simp[xcz]) (xhE _)
 rw[List.toList_toArray,← xkF] at hcopy;have hne:nb≠fb:=by omega
 obtain⟨w2,n2,hcp,hn2,hx2,hk2⟩:∃ (w2:World) (n2:Nat),(Builtin.copy_ #[52,52] 3 #[.slice (some ⟨nb,0,none⟩) (xaC f.meth.temps).length (xaC f.meth.temps).length,.slice (some ⟨tb,0,none⟩) f.temps.length f.temps.length]).run Tryz.prog w1=.ok (goInt n2) w2/\w2.heap[nb]?=some (.cells (xaA (f.leave a).temps).toArray 41 (0,0))/\(∀ b,b≠nb->w2.heap[b]?=w1.heap[b]?)/\Below w.heap.size w w2:=
  ⟨_,_,hcopy,setRow_heap w1 nb _ _ 41 (0,0) hnb,fun b hb=>setRow_other w1 nb b _ hb,below_setRow hb1 hgt _⟩
 clear hcopy;have hbx:w2.heap[fb]?=some (FB f (.slice ac f.meth.code.length cc) av (.slice (some ⟨tb,0,none⟩) f.temps.length f.temps.length) sv kv):=(hx2 fb hne.symm).trans hx1;have e5:w2.cell? ⟨fb,5,none⟩=some (.slice ac f.meth.code.length cc):=by rw[qzB hbx];rfl
 have e9:w2.cell? ⟨fb,9,none⟩=some (.slice (some ⟨tb,0,none⟩) f.temps.length f.temps.length):=by rw[qzB hbx];rfl
 have e11:w2.cell? ⟨fb,11,none⟩=some kv:=by rw[qzB hbx];rfl
 have e12:w2.cell? ⟨fb,12,none⟩=some (.int .i64 f.pc):=by rw[qzB hbx];rfl
 have e13:w2.cell? ⟨fb,13,none⟩=some (.bool f.fast):=by rw[qzB hbx];rfl
 have ef:=xaq hbx;have HL:Hid ((xaC f.meth.temps).length=(f.leave a).temps.length):=by show _=_;simp[Fr.leave]
 have HN2:=hid hn2;have HX2:=hid hx2;have HB:=hid hbx;have HB1:=hid hb1;have HK2:=hid hk2;have HGT:=hid hgt;clear ht2 c3 ht1 hnb hx1 hn2 hx2 hbx hb1 hk2 hgt ht4;generalize (xaC f.meth.temps).length=rl at *;go_wp2;have hrl:=HL.out;subst hrl;have h:=H.out;have e:Ext T (xla T nb (K+1)) w:=xgj HGT.out;have k:Kp (fun t=>t=K) T w ((((w2.setCell ⟨fb,11,none⟩ (.slice ac f.meth.code.length cc)).setCell ⟨fb,9,none⟩ (.slice (some ⟨nb,0,none⟩) (f.leave a).temps.length (f.leave a).temps.length)).setCell ⟨fb,12,none⟩ (.int .i64 a)).setCell ⟨fb,13,none⟩ (.bool false)):=(((((Kp.of_below HK2.out).set (fun _=>h.tag) _ _).set (fun _=>h.tag) _ _).set (fun _=>h.tag) _ _).set (fun _=>h.tag) _ _)
 have hnb:((((w2.setCell ⟨fb,11,none⟩ (.slice ac f.meth.code.length cc)).setCell ⟨fb,9,none⟩ (.slice (some ⟨nb,0,none⟩) (f.leave a).temps.length (f.leave a).temps.length)).setCell ⟨fb,12,none⟩ (.int .i64 a)).setCell ⟨fb,13,none⟩ (.bool false)).heap[nb]?=some (.cells (xaA (f.leave a).temps).toArray 41 (0,0)):=by
  rw[xac hne,xac hne,xac hne,xac hne]
  exact HN2.out
 refine bodyPost_end (v:=.tuple #[]) (by simp[results,Tryz.results283,go_sem]) rfl ⟨rfl,⟨xla T nb (K+1),_,e,⟨xpo HB.out _ a,by rw[e _ hlt];exact h.tag,h.args.fx xa7 e k (by omega),⟨nb,rfl,hnb,xfg _ _ _,?_⟩,h.stack.keep fun g hg=>k.blk g (h.stack.lt g hg).2 (by rw[h.stag g hg];omega),fun g hg=>by rw[e _ (h.stack.lt g hg).2];exact h.stag g hg,h.few,h.meth.fx xaU e k (by omega),h.meth.fx xaU e k (by omega),hp⟩⟩,k⟩
 show (f.leave a).temps.length<=40
 have:=xfN f.meth.temps
 simpa [Fr.leave] using this
end
section
variable {σ:Type} {p:Mp σ} {L:(Nat->Nat)->World->σ->Nat->Prop} {LF QF:Nat} {lc qc:Array Value} {T T':Nat->Nat} {w w':World} {mb:Nat} {m m':Mc σ} {hv:Value} {g:Nat} {s:Nat->Nat} {K fb:Nat} {f:Fr} {cv av tv sv kv:Value}
theorem xcH (hC:Cx p L LF lc QF qc){T1:Nat->Nat}{V:World}{calls:Int}{r:Mc σ × Fr × Int}{S:Nat->Prop}{e:Ending}(hr:r.1.st=m.st/\m.sz_<=r.1.sz_)(hE:Ext T T1 w)(hK:Kp (All K) T w V)(hL:L T1 V m.st (xdy p.E m))(he:e=.returned (.int .i64 r.2.2)){T2:Nat->Nat}(hE2:Ext T1 T2 V)(hM:∃ hv g s,MacAt p T2 w' mb r.1 calls hv g s)(hF:r.2.2=0->∃ cv av tv sv kv,FrAt T2 K w' fb r.2.1 cv av tv sv kv)(k:Kp S T1 V w')(hS:∀ t,S t->All K t)(h0:¬ S 0)(h3:¬ S 3):StPost p L T w mb calls K fb r e w':=by
 have hL2:=hC.keep hL hE2 k h0 h3;refine⟨he,⟨T2,hE.trans hK.size hE2,hM,?_,hF⟩,hK.trans hE (k.mono hS)⟩;rw[hr.1];have:xdy p.E r.1<=xdy p.E m:=by unfold xdy;omega
 split
 ·exact hC.mono hL2 this
 ·exact hC.mono hL2 (Nat.zero_le _)
theorem xlj {b1 b2 o1 o2 o3:Nat}{v1 v2 v3:Value}{w w':World}(h:w.cell? ⟨b1,o1,none⟩=some v1/\w.cell? ⟨b2,o2,none⟩=some v2/\w.cell? ⟨b2,o3,none⟩=some v3)(hb:Below w.heap.size w w'):w'.cell? ⟨b1,o1,none⟩=some v1/\w'.cell? ⟨b2,o2,none⟩=some v2/\w'.cell? ⟨b2,o3,none⟩=some v3:=⟨qzA hb h.1,qzA hb h.2.1,qzA hb h.2.2⟩
theorem xqx {b1 b2 b3 o1 o2 o3 o4:Nat}{v1 v2 v3 v4:Value}{w w':World}(h:w.cell? ⟨b1,o1,none⟩=some v1/\w.cell? ⟨b2,o2,none⟩=some v2/\w.cell? ⟨b3,o3,none⟩=some v3/\w.cell? ⟨b3,o4,none⟩=some v4)(hb:Below w.heap.size w w'):w'.cell? ⟨b1,o1,none⟩=some v1/\w'.cell? ⟨b2,o2,none⟩=some v2/\w'.cell? ⟨b3,o3,none⟩=some v3/\w'.cell? ⟨b3,o4,none⟩=some v4:=⟨qzA hb h.1,qzA hb h.2.1,qzA hb h.2.2.1,qzA hb h.2.2.2⟩
theorem xjO (hC:Cx p L LF lc QF qc){d:Nat}(hd:d<=20)(h:MacAt p T w mb m (20-(d:Int)) hv g s)(hF:FrAt T K w fb f cv av tv sv kv)(hL:L T w m.st (xdy p.E m))(hI:MIn p.E m)(hst:f.stack.length<=1000000)(x:QI)(hxb:f.fast=true->x.op=18->0<=x.b/\x.b<=1000) :
  Calls Tryz.prog 279 #[.pointer (some ⟨mb,0,none⟩),.pointer (some ⟨fb,0,none⟩),IV x] w fun e w'=>StPost p L T w mb (20-(d:Int)) K fb (xb7 p.E d m f x) e w':=by
 have hp:=hF.pos;have hX:=xaQ T w 4;have hT4:∀ b,w.heap.size<=b->xbc T w 4 b=4:=fun b hb=>xba hb
 have hb1:=xai w (.cells #[.int .i64 x.op,.int .i64 x.a,.int .i64 x.b,.int .i64 x.c,.string x.name] 69);have hM1:=(h.tagged0 4).later hb1;have hF1:=(hF.tagged0 4).later hb1;have hL1:=hC.keep (hC.keep hL hX (Kp.refl (fun _=>False) _ _) id id) (.refl _ _) (Kp.of_below (S:=fun _=>False) hb1) id id
 have hR1:=xlm w x 69;have hroom:f.stack.length<1000000000:=by omega
 have HKV:Hid (Kp (All K) T w (w.alloc (.cells #[.int .i64 x.op,.int .i64 x.a,.int .i64 x.b,.int .i64 x.c,.string x.name] 69))):=Kp.of_below hb1;have hz4:xbc T w 4 w.heap.size=4:=hT4 _ (qzC _);clear h hF hL hb1 hT4;generalize xbc T w 4=T1 at *;have c13:(w.alloc (.cells #[.int .i64 x.op,.int .i64 x.a,.int .i64 x.b,.int .i64 x.c,.string x.name] 69)).cell? ⟨fb,13,none⟩=some (.bool f.fast):=by rw[qzB hF1.box];rfl
 go_enter Tryz.func279,Tryz.ntmps279
 go_upto_region 1 with (fail)
 generalize (w.alloc (.cells #[.int .i64 x.op,.int .i64 x.a,.int .i64 x.b,.int .i64 x.c,.string x.name] 69))=V at *;obtain⟨x0,x1,x2,x3,x4⟩:=id hR1;have hVz:w.heap.size<V.heap.size:=World.block_lt_of_cell? V ⟨w.heap.size,0,none⟩ x0
 cases hfa:f.fast with
 | false=>
  have HN:Hid (xb7 p.E d m f x=(m,f,1)):=by show _=_;unfold xb7;rw[if_pos hfa]
  rw[hfa] at c13;have Q:Hid (StPost p L T w mb (20-(d:Int)) K fb (m,f,1) (.returned (.int .i64 1)) V):=xcH hC ⟨rfl,Int.le_refl _⟩ hX HKV.out hL1 rfl (.refl _ _) ⟨_,_,_,hM1⟩ (fun h=>by cases h) (Kp.refl (fun _=>False) _ _) (fun _ h=>h.elim) id id
  clear hM1 hF1 hL1 hR1;go_wp2
  go_ret
  rw[HN.out]
  exact Q.out
 | true=>
  rw[hfa] at c13;have hxb':=hxb hfa;have HFE:Hid (xb7 p.E d m f x=if x.op=18 then (m,if xap m.heap (xaL f.stack x.b)=x.a then f else f.leave x.c,0) else if x.op=19 then (m,f.push (xep m.heap (xaK f.temps x.a) x.b),0) else if x.op=20 then ({ m with heap:=xbr m.heap (xaK f.temps x.a) x.b f.top },f.pop,0) else if x.op=21 then ((xar p.E d m).1,f,(xar p.E d m).2) else (m,f,1)):=by show _=_;unfold xb7;rw[if_neg (by simp[hfa])]
  clear hfa hxb;obtain⟨ch,rfl,hc1,hc2⟩:=hM1.heap.form;have m1:=hM1.c1
  go_upto_region 3 with (fail)
  by_cases h18:x.op=18
  ·have h18':(x.op == 18)=true:=by simpa using h18
   rw[if_pos h18] at HFE;obtain⟨hx0,hx1⟩:=hxb' h18;clear h18 hxb'
   go_upto_region 6 with (fail)
   have hS0:V.drew.cell? ⟨mb,1,none⟩=some (.slice (some ⟨g,0,none⟩) m.heap.length ch)/\V.drew.cell? ⟨w.heap.size,1,none⟩=some (.int .i64 x.a)/\V.drew.cell? ⟨w.heap.size,2,none⟩=some (.int .i64 x.b):=⟨m1,x1,x2⟩;have hMd:=hM1.later (Below.refl _ V).drew;have hFd:=hF1.later (Below.refl _ V).drew;have tokA:True:=trivial
   go_region_held3 (fun w'=>w'.cell? ⟨mb,1,none⟩=some (.slice (some ⟨g,0,none⟩) m.heap.length ch)/\w'.cell? ⟨w.heap.size,1,none⟩=some (.int .i64 x.a)/\w'.cell? ⟨w.heap.size,2,none⟩=some (.int .i64 x.b))
    (first | with_reducible exact hS0 | with_reducible exact hS1 | with_reducible exact hS2)
    (first
     | (have _t:=tokA;go_at_call 270;refine (xhp hFd x.b ⟨hx0,by omega⟩).mono ?_;rintro e w3 ⟨rfl,hb3⟩;have hS1:=xlj hS0 hb3;clear tokA;have tokB:True:=trivial)
     | (have _t:=tokB;go_at_call 190;refine (xfF m.heap _ (xaL f.stack x.b) _ (((hMd.later hb3).heap).heap)).mono ?_;rintro e w4 ⟨rfl,hb4⟩;have hS2:=xlj hS1 hb4;clear tokB))
   have hb34:=xaf (Below.refl _ V).drew (xaf hb3 hb4);have x3':=qzA hb34 x3;have HM4:=hid (hM1.later hb34);have hF4:=hF1.later hb34;have HL4:=hid (hC.keep hL1 (.refl _ _) (Kp.of_below (S:=fun _=>False) hb34) id id)
   have HK4:=hid (HKV.out.on hb34)
   by_cases hcl:xap m.heap (xaL f.stack x.b)=x.a
   ·have hcl':(xap m.heap (xaL f.stack x.b) != x.a)=false:=by simpa using hcl
    rw[if_pos hcl] at HFE;have Q:Hid (StPost p L T w mb (20-(d:Int)) K fb (m,f,0) (.returned (.int .i64 0)) w4):=xcH hC ⟨rfl,Int.le_refl _⟩ hX HK4.out HL4.out rfl (.refl _ _) ⟨_,_,_,HM4.out⟩ (fun _=>⟨_,_,_,_,_,hF4⟩) (Kp.refl (fun _=>False) _ _) (fun _ h=>h.elim) id id
    clear hM1 hF1 hL1 hR1 hMd hFd hF4 hS0 hS1 hS2 m1 x0 x1 x2 x3 x4 c13 hcl;go_wp2
    go_ret
    rw[HFE.out]
    exact Q.out
   ·have hcl':(xap m.heap (xaL f.stack x.b) != x.a)=true:=by simpa using hcl
    rw[if_neg hcl] at HFE;clear hM1 hF1 hL1 hR1 hMd hFd hS0 hS1 hS2 m1 x0 x1 x2 x3 x4 c13 hcl;go_wp2_with fail;refine (xiS hF4 x.c).mono ?_;rintro e w5 ⟨rfl,⟨T5,tv5,hX5,hF5⟩,hK5⟩;have Q:Hid (StPost p L T w mb (20-(d:Int)) K fb (m,f.leave x.c,0) (.returned (.int .i64 0)) w5):=xcH hC ⟨rfl,Int.le_refl _⟩ hX HK4.out HL4.out rfl hX5 ⟨_,_,_,HM4.out.keep hX5 hK5 (by omega) (by omega) (by omega)⟩ (fun _=>⟨_,_,_,_,_,hF5⟩) hK5 (fun t h=>by unfold All;omega) (by omega) (by omega)
    clear hF4 hF5 hK5 hX5;go_wp2
    go_ret
    rw[HFE.out]
    exact Q.out
  have h18':(x.op == 18)=false:=by simpa using h18
  rw[if_neg h18] at HFE;clear h18 hxb'
  by_cases h19:x.op=19
  ·have h19':(x.op == 19)=true:=by simpa using h19
   rw[if_pos h19] at HFE;clear h19;have htv:=hF1.tempsV;obtain⟨tb,rfl,ht2,ht3,ht4⟩:=hF1.temps
   go_upto_region 9 with (fail)
   have hMd:=hM1.later (Below.refl _ V).drew;have hFd:=hF1.later (Below.refl _ V).drew;have hS0:V.drew.cell? ⟨mb,1,none⟩=some (.slice (some ⟨g,0,none⟩) m.heap.length ch)/\V.drew.cell? ⟨fb,9,none⟩=some (.slice (some ⟨tb,0,none⟩) f.temps.length f.temps.length)/\V.drew.cell? ⟨w.heap.size,1,none⟩=some (.int .i64 x.a)/\V.drew.cell? ⟨w.heap.size,2,none⟩=some (.int .i64 x.b):=⟨m1,hFd.c.2.2.2,x1,x2⟩;have tokA:True:=trivial
   go_region_held3 (fun w'=>w'.cell? ⟨mb,1,none⟩=some (.slice (some ⟨g,0,none⟩) m.heap.length ch)/\w'.cell? ⟨fb,9,none⟩=some (.slice (some ⟨tb,0,none⟩) f.temps.length f.temps.length)/\w'.cell? ⟨w.heap.size,1,none⟩=some (.int .i64 x.a)/\w'.cell? ⟨w.heap.size,2,none⟩=some (.int .i64 x.b))
    (first | with_reducible exact hS0 | with_reducible exact hS1 | with_reducible exact hS2 | with_reducible exact hS3)
    (first
     | (have _t:=tokA;go_at_call 255;refine (xde f.temps _ x.a _ (htv.later xa7 (Below.refl _ V).drew)).mono ?_;rintro e w3 ⟨rfl,hb3⟩;have hS1:=xqx hS0 hb3;clear tokA;have tokB:True:=trivial)
     | (have _t:=tokB;go_at_call 280;refine (xj2 m.heap _ (xaK f.temps x.a) x.b _ (((hMd.later hb3).heap).heap)).mono ?_;rintro e w4 ⟨rfl,hb4⟩;have hS2:=xqx hS1 hb4;have hF4:=(hFd.later hb3).later hb4;clear tokB;have tokC:True:=trivial)
     | (have _t:=tokC;go_at_call 272;refine (xe8 hF4 (xep m.heap (xaK f.temps x.a) x.b) hroom).mono ?_;rintro e w5 ⟨rfl,⟨T5,sv5,hX5,hF5⟩,hK5⟩;have hMk:=((hMd.later hb3).later hb4).keep hX5 hK5 (by omega) (by omega) (by omega);have hz5:T1 w.heap.size=4:=hz4;have hS3:w5.cell? ⟨mb,1,none⟩=some (.slice (some ⟨g,0,none⟩) m.heap.length ch)/\w5.cell? ⟨fb,9,none⟩=some (.slice (some ⟨tb,0,none⟩) f.temps.length f.temps.length)/\w5.cell? ⟨w.heap.size,1,none⟩=some (.int .i64 x.a)/\w5.cell? ⟨w.heap.size,2,none⟩=some (.int .i64 x.b):=⟨hMk.c1,hF5.c.2.2.2,hK5.cell hS2.2.2.1 (by rw[hz4];omega),hK5.cell hS2.2.2.2 (by rw[hz4];omega)⟩;clear tokC))
   have hb34:=xaf (Below.refl _ V).drew (xaf hb3 hb4);have Q:Hid (StPost p L T w mb (20-(d:Int)) K fb (m,f.push (xep m.heap (xaK f.temps x.a) x.b),0) (.returned (.int .i64 0)) w5):=xcH hC ⟨rfl,Int.le_refl _⟩ hX (HKV.out.on hb34) (hC.keep hL1 (.refl _ _) (Kp.of_below (S:=fun _=>False) hb34) id id) rfl hX5 ⟨_,_,_,hMk⟩ (fun _=>⟨_,_,_,_,_,hF5⟩) hK5 (fun t h=>by unfold All;omega) (by omega) (by omega)
   clear hM1 hF1 hL1 hR1 hMd hFd hF4 hF5 hS0 hS1 hS2 hS3 m1 x0 x1 x2 x3 x4 c13 hMk htv ht2 hK5 hX5;go_wp2
   go_ret
   rw[HFE.out]
   exact Q.out
  have h19':(x.op == 19)=false:=by simpa using h19
  rw[if_neg h19] at HFE;clear h19
  by_cases h20:x.op=20
  ·have h20':(x.op == 20)=true:=by simpa using h20
   rw[if_pos h20] at HFE;clear h20;have htv:=hF1.tempsV;obtain⟨tb,rfl,ht2,ht3,ht4⟩:=hF1.temps
   go_upto_region 11 with (fail)
   have hMd:=hM1.later (Below.refl _ V).drew;have hFd:=hF1.later (Below.refl _ V).drew;have hS0:V.drew.cell? ⟨fb,9,none⟩=some (.slice (some ⟨tb,0,none⟩) f.temps.length f.temps.length)/\V.drew.cell? ⟨w.heap.size,1,none⟩=some (.int .i64 x.a)/\V.drew.cell? ⟨w.heap.size,2,none⟩=some (.int .i64 x.b):=⟨hFd.c.2.2.2,x1,x2⟩;have tokA:True:=trivial
   go_region_held3 (fun w'=>w'.cell? ⟨fb,9,none⟩=some (.slice (some ⟨tb,0,none⟩) f.temps.length f.temps.length)/\w'.cell? ⟨w.heap.size,1,none⟩=some (.int .i64 x.a)/\w'.cell? ⟨w.heap.size,2,none⟩=some (.int .i64 x.b))
    (first | with_reducible exact hS0 | with_reducible exact hS1 | with_reducible exact hS2 | with_reducible exact hS3)
    (first
     | (have _t:=tokA;go_at_call 255;refine (xde f.temps _ x.a _ (htv.later xa7 (Below.refl _ V).drew)).mono ?_;rintro e w3 ⟨rfl,hb3⟩;have hS1:=xlj hS0 hb3;have hF3:=hFd.later hb3;have hM3:=hMd.later hb3;clear tokA;have tokB:True:=trivial)
     | (have _t:=tokB;go_at_call 257;refine (xeM hF3).mono ?_;rintro e w4 ⟨rfl,⟨sv4,hF4⟩,hK4⟩;have hM4:=hM3.keep (.refl _ _) hK4 (by omega) (by omega) (by omega);have hS2:w4.cell? ⟨fb,9,none⟩=some (.slice (some ⟨tb,0,none⟩) f.temps.length f.temps.length)/\w4.cell? ⟨w.heap.size,1,none⟩=some (.int .i64 x.a)/\w4.cell? ⟨w.heap.size,2,none⟩=some (.int .i64 x.b):=⟨hF4.c.2.2.2,hK4.cell hS1.2.1 (by rw[hz4];omega),hK4.cell hS1.2.2 (by rw[hz4];omega)⟩;clear tokB;have tokC:True:=trivial)
     | (have _t:=tokC;go_at_call 274;refine (xhb hM4 (xaK f.temps x.a) x.b f.top).mono ?_;rintro e w5 ⟨rfl,⟨T5,hX5,hM5⟩,hK5⟩;have hF5:=hF4.keep hX5 hK5 (by omega) (by omega) (by omega) (by omega);have hS3:w5.cell? ⟨fb,9,none⟩=some (.slice (some ⟨tb,0,none⟩) f.temps.length f.temps.length)/\w5.cell? ⟨w.heap.size,1,none⟩=some (.int .i64 x.a)/\w5.cell? ⟨w.heap.size,2,none⟩=some (.int .i64 x.b):=⟨hF5.c.2.2.2,hK5.cell hS2.2.1 (by rw[hz4];omega),hK5.cell hS2.2.2 (by rw[hz4];omega)⟩;clear tokC))
   have hb3':=xaf (Below.refl _ V).drew hb3;have HX5:Hid (Ext T1 T5 w3):=fun b hb=>hX5 b (qzE hb hK4.size)
   have Q:Hid (StPost p L T w mb (20-(d:Int)) K fb ({ m with heap:=xbr m.heap (xaK f.temps x.a) x.b f.top },f.pop,0) (.returned (.int .i64 0)) w5):=xcH hC ⟨rfl,Int.le_refl _⟩ hX (HKV.out.on hb3') (hC.keep hL1 (.refl _ _) (Kp.of_below (S:=fun _=>False) hb3') id id) rfl HX5.out ⟨_,_,_,hM5⟩ (fun _=>⟨_,_,_,_,_,hF5⟩) (S:=fun t=>t=K\/t=2) ((hK4.mono fun t h=>Or.inl h).trans (.refl _ _) (hK5.mono fun t h=>Or.inr h)) (fun t h=>by unfold All;omega) (by omega) (by omega)
   clear hM1 hF1 hL1 hR1 hMd hFd hF4 hF5 hF3 hM3 hM4 hM5 hS0 hS1 hS2 hS3 m1 x0 x1 x2 x3 x4 c13 htv ht2 hK5 hK4 hX5;go_wp2
   go_ret
   rw[HFE.out]
   exact Q.out
  have h20':(x.op == 20)=false:=by simpa using h20
  rw[if_neg h20] at HFE;clear h20
  by_cases h21:x.op=21
  ·have h21':(x.op == 21)=true:=by simpa using h21
   rw[if_pos h21] at HFE;clear h21;have hcc:=xe6 d hM1 hI.sz_.1 (by have:=hC.fuel;omega) rfl hd
   have hcs:(xar p.E d m).1.st=m.st/\m.sz_<=(xar p.E d m).1.sz_:=by
    unfold xar
    split
    ·exact⟨rfl,by simp⟩
    ·split
     ·exact⟨rfl,by simp⟩
     ·exact⟨rfl,by simp;omega⟩
   generalize xar p.E d m=r at *;go_wp2_with fail;refine hcc.mono ?_;rintro e w3 ⟨rfl,hM3,hK3⟩;have Q:Hid (StPost p L T w mb (20-(d:Int)) K fb (r.1,f,r.2) (.returned (.int .i64 r.2)) w3):=xcH hC hcs hX HKV.out hL1 rfl (.refl _ _) ⟨_,_,_,hM3⟩ (fun _=>⟨_,_,_,_,_,hF1.keep (.refl _ _) hK3 (by omega) (by omega) (by omega) (by omega)⟩) hK3 (fun t h=>by unfold All;omega) (by omega) (by omega)
   clear hM1 hF1 hL1 hR1 m1 x0 x1 x2 x3 x4 c13 hM3 hK3 hcc;go_wp2
   go_ret
   rw[HFE.out]
   exact Q.out
  ·have h21':(x.op == 21)=false:=by simpa using h21
   rw[if_neg h21] at HFE;clear h21;have Q:Hid (StPost p L T w mb (20-(d:Int)) K fb (m,f,1) (.returned (.int .i64 1)) V):=xcH hC ⟨rfl,Int.le_refl _⟩ hX HKV.out hL1 rfl (.refl _ _) ⟨_,_,_,hM1⟩ (fun h=>by cases h) (Kp.refl (fun _=>False) _ _) (fun _ h=>h.elim) id id
   clear hM1 hF1 hL1 hR1;go_wp2
   go_ret
   rw[HFE.out]
   exact Q.out
end
section
variable {σ:Type} {p:Mp σ} {L:(Nat->Nat)->World->σ->Nat->Prop} {LF QF:Nat} {lc qc:Array Value} {T T':Nat->Nat} {w w':World} {mb:Nat} {m m':Mc σ} {hv:Value} {g:Nat} {s:Nat->Nat} {K fb:Nat} {f:Fr} {cv av tv sv kv:Value}
theorem xne (m:Mc σ)(f:Fr)(a b:Int):(xa3 m f a b).1.st=m.st:=by
 unfold xa3
 by_cases h:b<=a
 ·simp only[h,if_true];split<;>rfl
 ·simp only[h,if_false];split<;>rfl
theorem xqX (m:Mc σ)(f:Fr)(a b:Int):(xbQ m f a b).1.st=m.st:=by
 unfold xbQ
 split
 ·rfl
 ·split
  ·exact xne _ _ _ _
  ·rfl
theorem xrz (E:Env σ)(m:Mc σ)(f:Fr)(c:Int):(xci E m f c).1.st=m.st:=by
 unfold xci;split<;>rfl
theorem xcG (hC:Cx p L LF lc QF qc){T1:Nat->Nat}{V:World}{calls:Int}{r:Mc σ × Fr × Int}{S:Nat->Prop}{e:Ending}(hr:r.1.st=m.st/\r.1.sz_=m.sz_)(hE:Ext T T1 w)(hK:Kp (All K) T w V)(hL:L T1 V m.st (xdy p.E m))(he:e=.returned (.int .i64 r.2.2)){T2:Nat->Nat}(hE2:Ext T1 T2 V)(hM:∃ hv g s,MacAt p T2 w' mb r.1 calls hv g s)(hF:r.2.2=0->∃ cv av tv sv kv,FrAt T2 K w' fb r.2.1 cv av tv sv kv)(k:Kp S T1 V w')(hS:∀ t,S t->All K t)(h0:¬ S 0)(h3:¬ S 3):StPost p L T w mb calls K fb r e w':=xcH hC ⟨hr.1,by rw[hr.2];exact Int.le_refl _⟩ hE hK hL he hE2 hM hF k hS h0 h3
theorem StPost.under {T1:Nat->Nat}{V:World}{calls:Int}{r:Mc σ × Fr × Int}{e:Ending}(h:StPost p L T1 V mb calls K fb r e w')(hE:Ext T T1 w)(hK:Kp (All K) T w V):StPost p L T w mb calls K fb r e w':=by
 obtain⟨h1,⟨T2,h2,h3⟩,h4⟩:=h
 exact⟨h1,⟨T2,hE.trans hK.size h2,h3⟩,hK.trans hE h4⟩
theorem xp2 {f':Fr}(e1:f'.cls=f.cls)(e2:f'.meth=f.meth)(e3:f'.self=f.self)(e4:f'.pc=f.pc)(e5:f'.fast=f.fast)(h:w.heap[fb]?=some (FB f cv av tv sv kv)):w.heap[fb]?=some (FB f' cv av tv sv kv):=by rw[h];unfold FB;rw[e1,e2,e3,e4,e5]
theorem FrAt.setTemp {tb:Nat}{n:Int}{v:QV}(h:FrAt T K w fb f cv av (.slice (some ⟨tb,0,none⟩) f.temps.length f.temps.length) sv kv)(hT:T tb=K+1)(hw:w'.heap[tb]?=some (.cells (xaA (xaP f.temps n v)).toArray 41 (0,0)))(k:Kp (fun t=>t=K+1) T w w'):FrAt T K w' fb { f with temps:=xaP f.temps n v } cv av (.slice (some ⟨tb,0,none⟩) f.temps.length f.temps.length) sv kv:=by
 have hp:=h.pos;obtain⟨tb',e,d2,d3,d4⟩:=h.temps;refine⟨xp2 rfl rfl rfl rfl rfl (k.held h.box (by rw[h.tag];omega)),h.tag,h.args.fx xa7 (.refl _ _) k (by omega),⟨tb,by show _=Value.slice _ (xaP f.temps n v).length (xaP f.temps n v).length;rw[xbN],hw,hT,by show (xaP f.temps n v).length<=40;rw[xbN];exact d4⟩,h.stack.keep fun g hg=>k.blk g (h.stack.lt g hg).2 (by rw[h.stag g hg];omega),h.stag,h.few,h.code.fx xaU (.refl _ _) k (by omega),h.meth.fx xaU (.refl _ _) k (by omega),hp⟩
def xgt (ent:Ent σ)(E:Env σ)(d:Nat)(m:Mc σ)(f:Fr)(a:Int)(x:QI):Mc σ × Fr × Int:=
  if x.op=9 then (m,f.pop,0)
  else if x.op=10 then (m,f.push f.top,0)
  else if x.op=11 then (m,{ f.pop with temps:=xaP f.temps x.a f.top },0)
  else if x.op=12 then ({ m with heap:=xbr m.heap f.self x.a f.top },f.pop,0)
  else if x.op=13 then xci E m f x.a
  else if x.op=14 then xbO ent E m f a x
  else if x.op=15 then xa3 m f a x.a
  else if x.op=16 then xbQ m f a x.a
  else xb7 E d m f x
theorem xpQ (hC:Cx p L LF lc QF qc){d:Nat}(hEn:xfL p L d)(h:MacAt p T w mb m (20-(d:Int)) hv g s)(hF:FrAt T K w fb f cv av tv sv kv)(hL:L T w m.st (xdy p.E m))(hI:MIn p.E m)(hFo:FOk p.E.cz m.heap.length f)(hst:f.stack.length<=1000000)(hd:d<=20)(a:Int)(x:QI)(hxb:f.fast=true->x.op=18->0<=x.b/\x.b<=1000) :
  Calls Tryz.prog 258 #[.pointer (some ⟨mb,0,none⟩),.pointer (some ⟨fb,0,none⟩),.int .i64 a,IV x] w fun e w'=>StPost p L T w mb (20-(d:Int)) K fb (xaj (xbh p.E d) p.E d m f a x) e w':=by
 have hp:=hF.pos;have hX:=xaQ T w 4;have hT4:∀ b,w.heap.size<=b->xbc T w 4 b=4:=fun b hb=>xba hb
 have hb1:=xai w (.cells #[.int .i64 x.op,.int .i64 x.a,.int .i64 x.b,.int .i64 x.c,.string x.name] 69);have hM0:=(h.tagged0 4).later hb1;have hF0:=(hF.tagged0 4).later hb1;have hL0:=hC.keep (hC.keep hL hX (Kp.refl (fun _=>False) _ _) id id) (.refl _ _) (Kp.of_below (S:=fun _=>False) hb1) id id
 have hR0:=xlm w x 69;have hroom:f.stack.length<1000000000:=by omega
 clear h hF hL;generalize xbc T w 4=T1 at *;go_enter Tryz.func258,Tryz.ntmps258
 go_upto_region 1 with (fail)
 generalize (w.alloc (.cells #[.int .i64 x.op,.int .i64 x.a,.int .i64 x.b,.int .i64 x.c,.string x.name] 69))=W at *;obtain⟨x0,x1,x2,x3,x4⟩:=id hR0;have hpu:=xmj hM0 hF0 x;go_wp2_with fail;refine hpu.mono ?_;rintro e w1 ⟨rfl,hbw⟩;clear hpu x0 x1 x2 x3 x4;have hbV:∀ u:QV,Below W.heap.size W (w1.alloc (.cells #[.int .i64 u.k,.int .i64 u.n] 41)):=fun u=>xaf hbw (xai _ _)
 cases hpu:xan m.heap f x with
 | some u=>
  have HM:Hid (xaj (xbh p.E d) p.E d m f a x=(m,f.push u,0)):=by show _=_;unfold xaj;rw[hpu]
  clear hpu;have HB:=hid (hbV u);have HF0:=hid hF0;have HM0:=hid hM0;have HL0:=hid hL0;have HB1:=hid hb1;have hF1:=hF0.later (hbV u);clear hF0 hM0 hL0 hR0 hb1 hbV;go_wp2_with fail;refine (xe8 hF1 u hroom).mono ?_;rintro e w2 ⟨rfl,⟨T2,sv2,hX2,hF2⟩,hK2⟩;have Q:Hid (StPost p L T w mb (20-(d:Int)) K fb (m,f.push u,0) (.returned (.int .i64 0)) w2):=xcG hC ⟨rfl,rfl⟩ hX (Kp.of_below (xaf HB1.out HB.out)) (hC.keep HL0.out (.refl _ _) (Kp.of_below (S:=fun _=>False) HB.out) id id) rfl hX2 ⟨_,_,_,(HM0.out.later HB.out).keep hX2 hK2 (by omega) (by omega) (by omega)⟩ (fun _=>⟨_,_,_,_,_,hF2⟩) hK2 (fun t h=>by unfold All;omega) (by omega) (by omega)
  clear hF1 hF2 hK2 hX2;go_wp2
  go_ret
  rw[HM.out]
  exact Q.out
 | none=>
  have HM:Hid (xaj (xbh p.E d) p.E d m f a x=xgt (xbh p.E d) p.E d m f a x):=by show _=_;unfold xaj xgt;rw[hpu]
  clear hpu;have hbv:=hbV xa4;have hM1:=hM0.later hbv;have hF1:=hF0.later hbv;have hL1:=hC.keep hL0 (.refl _ _) (Kp.of_below (S:=fun _=>False) hbv) id id
  have hR1:SdR w x (w1.alloc (.cells #[.int .i64 0,.int .i64 0] 41)):=hR0.kp (T:=T1) (S:=fun _=>False) (Kp.of_below hbv) id
  have HKV:Hid (Kp (All K) T w (w1.alloc (.cells #[.int .i64 0,.int .i64 0] 41))):=Kp.of_below (xaf hb1 hbv);have hz4:T1 w.heap.size=4:=hT4 _ (qzC _);have hXV:Hid (∀ {T3:Nat->Nat} {V' w2:World},Ext T1 T3 w2->Kp (fun t=>t=K) T1 V' w2->Ext T1 T3 V'):=fun h k b hb=>h b (qzE hb k.size)
  clear hM0 hF0 hL0 hR0 hbV hbv
  go_upto_region 5 with (fail)
  generalize (w1.alloc (.cells #[.int .i64 0,.int .i64 0] 41))=V at *;obtain⟨x0,x1,x2,x3,x4⟩:=id hR1;have hVz:w.heap.size<V.heap.size:=World.block_lt_of_cell? V ⟨w.heap.size,0,none⟩ x0;clear hbw
  by_cases h9:x.op=9
  ·have HN:Hid (xaj (xbh p.E d) p.E d m f a x=(m,f.pop,0)):=by show _=_;rw[HM.out];unfold xgt;rw[if_pos h9]
   have h9':(x.op == 9)=true:=by simpa using h9
   clear HM h9;go_wp2_with fail;refine (xeM hF1).mono ?_;rintro e w2 ⟨rfl,⟨sv2,hF2⟩,hK2⟩;have Q:Hid (StPost p L T w mb (20-(d:Int)) K fb (m,f.pop,0) (.returned (.int .i64 0)) w2):=xcG hC ⟨rfl,rfl⟩ hX HKV.out hL1 rfl (.refl _ _) ⟨_,_,_,hM1.keep (.refl _ _) hK2 (by omega) (by omega) (by omega)⟩ (fun _=>⟨_,_,_,_,_,hF2⟩) hK2 (fun t h=>by unfold All;omega) (by omega) (by omega)
   clear hF1 hF2 hK2 hM1 hL1 hR1 x0 x1 x2 x3 x4;go_wp2
   go_ret
   rw[HN.out]
   exact Q.out
  have h9':(x.op == 9)=false:=by simpa using h9
  by_cases h10:x.op=10
  ·have HN:Hid (xaj (xbh p.E d) p.E d m f a x=(m,f.push f.top,0)):=by show _=_;rw[HM.out];unfold xgt;rw[if_neg h9];rw[if_pos h10]
   have h10':(x.op == 10)=true:=by simpa using h10
   clear HM h9 h10;go_wp2_with fail;refine (xhp hF1 0 ⟨by omega,by omega⟩).mono ?_
   rintro e w2 ⟨rfl,hb2⟩;have HT:Hid (f.top=xaL f.stack 0):=rfl;rw[← HT.out];have hF2:=hF1.later hb2;clear x0 x1 x2 x3 x4;go_wp2_with fail;refine (xe8 hF2 f.top hroom).mono ?_;rintro e w3 ⟨rfl,⟨T3,sv3,hX3,hF3⟩,hK3⟩;have Q:Hid (StPost p L T w mb (20-(d:Int)) K fb (m,f.push f.top,0) (.returned (.int .i64 0)) w3):=xcG hC ⟨rfl,rfl⟩ hX (HKV.out.on hb2) (hC.keep hL1 (.refl _ _) (Kp.of_below (S:=fun _=>False) hb2) id id) rfl hX3 ⟨_,_,_,(hM1.later hb2).keep hX3 hK3 (by omega) (by omega) (by omega)⟩ (fun _=>⟨_,_,_,_,_,hF3⟩) hK3 (fun t h=>by unfold All;omega) (by omega) (by omega)
   clear hF1 hF2 hF3 hK3 hX3 hM1 hL1 hR1 hb2;go_wp2
   go_ret
   rw[HN.out]
   exact Q.out
  have h10':(x.op == 10)=false:=by simpa using h10
  by_cases h11:x.op=11
  ·have HN:Hid (xaj (xbh p.E d) p.E d m f a x=(m,{ f.pop with temps:=xaP f.temps x.a f.top },0)):=by show _=_;rw[HM.out];unfold xgt;rw[if_neg h9];rw[if_neg h10];rw[if_pos h11]
   have h11':(x.op == 11)=true:=by simpa using h11
   clear HM h9 h10 h11;obtain⟨tb,rfl,ht2,ht3,ht4⟩:=hF1.temps;go_wp2;have hFd:=hF1.later (Below.refl _ V).drew;have hS0:V.drew.cell? ⟨fb,9,none⟩=some (.slice (some ⟨tb,0,none⟩) f.temps.length f.temps.length)/\V.drew.cell? ⟨w.heap.size,1,none⟩=some (.int .i64 x.a):=⟨hFd.c.2.2.2,x1⟩;have tokA:True:=trivial
   go_region_held3 (fun w'=>w'.cell? ⟨fb,9,none⟩=some (.slice (some ⟨tb,0,none⟩) f.temps.length f.temps.length)/\w'.cell? ⟨w.heap.size,1,none⟩=some (.int .i64 x.a))
    (first | with_reducible exact hS0 | with_reducible exact hS1 | with_reducible exact hS2)
    (first
     | (have _t:=tokA;go_at_call 257;refine (xeM hFd).mono ?_;rintro e w2 ⟨rfl,⟨sv2,hF2⟩,hK2⟩;have hS1:=And.intro hF2.c.2.2.2 (hK2.cell hS0.2 (by rw[hz4];omega));have hT2:w2.heap[tb]?=some (.cells (xaA f.temps).toArray 41 (0,0)):=(hK2.held (xaa ht2 (Below.refl _ V).drew) (by rw[ht3];omega));clear tokA;have tokB:True:=trivial)
     | (have _t:=tokB;go_at_call 273;refine (xf1 f.temps tb x.a f.top _ hT2).mono ?_;rintro e w3 ⟨rfl,hw3,hz3,hka⟩;have hk3:=hka (fun t=>t=K+1) T1 ht3;have hS2:=And.intro (hk3.cell hS1.1 (by rw[hF2.tag];omega)) (hk3.cell hS1.2 (by rw[hz4];omega));clear tokB))
   have hF3:=hF2.setTemp ht3 hw3 hk3;have Q:Hid (StPost p L T w mb (20-(d:Int)) K fb (m,{ f.pop with temps:=xaP f.temps x.a f.top },0) (.returned (.int .i64 0)) w3):=xcG hC ⟨rfl,rfl⟩ hX HKV.out.drew (hC.keep hL1 (.refl _ _) (Kp.refl (fun _=>False) _ _).drew id id) rfl (.refl _ _) ⟨_,_,_,((hM1.later (Below.refl _ V).drew).keep (.refl _ _) hK2 (by omega) (by omega) (by omega)).keep (.refl _ _) hk3 (by omega) (by omega) (by omega)⟩ (fun _=>⟨_,_,_,_,_,hF3⟩) (S:=fun t=>t=K\/t=K+1) ((hK2.mono fun t h=>Or.inl h).trans (.refl _ _) (hk3.mono fun t h=>Or.inr h)) (fun t h=>by unfold All;omega) (by omega) (by omega)
   clear hF1 hF2 hF3 hFd hK2 hk3 hM1 hL1 hR1 x0 x1 x2 x3 x4 hw3 hka hT2 ht2 hS0 hS1 hS2;go_wp2
   go_ret
   rw[HN.out]
   exact Q.out
  have h11':(x.op == 11)=false:=by simpa using h11
  by_cases h12:x.op=12
  ·have HN:Hid (xaj (xbh p.E d) p.E d m f a x=({ m with heap:=xbr m.heap f.self x.a f.top },f.pop,0)):=by show _=_;rw[HM.out];unfold xgt;rw[if_neg h9];rw[if_neg h10];rw[if_neg h11];rw[if_pos h12]
   have h12':(x.op == 12)=true:=by simpa using h12
   clear HM h9 h10 h11 h12;go_wp2;have hFd:=hF1.later (Below.refl _ V).drew;have hMd:=hM1.later (Below.refl _ V).drew;have hS0:V.drew.cell? ⟨fb,6,none⟩=some (.int .i64 f.self.k)/\V.drew.cell? ⟨fb,7,none⟩=some (.int .i64 f.self.n)/\V.drew.cell? ⟨w.heap.size,1,none⟩=some (.int .i64 x.a):=⟨hFd.c.1,hFd.c.2.1,x1⟩;have tokA:True:=trivial
   go_region_held3 (fun w'=>w'.cell? ⟨fb,6,none⟩=some (.int .i64 f.self.k)/\w'.cell? ⟨fb,7,none⟩=some (.int .i64 f.self.n)/\w'.cell? ⟨w.heap.size,1,none⟩=some (.int .i64 x.a))
    (first | with_reducible exact hS0 | with_reducible exact hS1 | with_reducible exact hS2)
    (first
     | (have _t:=tokA;go_at_call 257;refine (xeM hFd).mono ?_;rintro e w2 ⟨rfl,⟨sv2,hF2⟩,hK2⟩;have hS1:w2.cell? ⟨fb,6,none⟩=some (.int .i64 f.self.k)/\w2.cell? ⟨fb,7,none⟩=some (.int .i64 f.self.n)/\w2.cell? ⟨w.heap.size,1,none⟩=some (.int .i64 x.a):=⟨hF2.c.1,hF2.c.2.1,hK2.cell hS0.2.2 (by rw[hz4];omega)⟩;have hM2:=hMd.keep (.refl _ _) hK2 (by omega) (by omega) (by omega);clear tokA;have tokB:True:=trivial)
     | (have _t:=tokB;go_at_call 274;refine (xhb hM2 f.self x.a f.top).mono ?_;rintro e w3 ⟨rfl,⟨T3,hX3,hM3⟩,hK3⟩;have hF3:=hF2.keep hX3 hK3 (by omega) (by omega) (by omega) (by omega);have hS2:w3.cell? ⟨fb,6,none⟩=some (.int .i64 f.self.k)/\w3.cell? ⟨fb,7,none⟩=some (.int .i64 f.self.n)/\w3.cell? ⟨w.heap.size,1,none⟩=some (.int .i64 x.a):=⟨hF3.c.1,hF3.c.2.1,hK3.cell hS1.2.2 (by rw[hz4];omega)⟩;clear tokB))
   have Q:Hid (StPost p L T w mb (20-(d:Int)) K fb ({ m with heap:=xbr m.heap f.self x.a f.top },f.pop,0) (.returned (.int .i64 0)) w3):=xcG hC ⟨rfl,rfl⟩ hX HKV.out.drew (hC.keep hL1 (.refl _ _) (Kp.refl (fun _=>False) _ _).drew id id) rfl (hXV.out hX3 hK2) ⟨_,_,_,hM3⟩ (fun _=>⟨_,_,_,_,_,hF3⟩) (S:=fun t=>t=K\/t=2) ((hK2.mono fun t h=>Or.inl h).trans (.refl _ _) (hK3.mono fun t h=>Or.inr h)) (fun t h=>by unfold All;omega) (by omega) (by omega)
   clear hF1 hF2 hF3 hFd hMd hM2 hM3 hK2 hK3 hX3 hM1 hL1 hR1 x0 x1 x2 x3 x4 hS0 hS1 hS2;go_wp2
   go_ret
   rw[HN.out]
   exact Q.out
  have h12':(x.op == 12)=false:=by simpa using h12
  by_cases h13:x.op=13
  ·have HN:Hid (xaj (xbh p.E d) p.E d m f a x=xci p.E m f x.a):=by show _=_;rw[HM.out];unfold xgt;rw[if_neg h9];rw[if_neg h10];rw[if_neg h11];rw[if_neg h12];rw[if_pos h13]
   have h13':(x.op == 13)=true:=by simpa using h13
   clear HM h9 h10 h11 h12 h13;have hmk:=xhA hM1 hF1 x.a (hC.ok.slots x.a) hroom;have hsd:(xci p.E m f x.a).1.st=m.st/\(xci p.E m f x.a).1.sz_=m.sz_:=⟨xrz _ _ _ _,xhQ _ _ _ _⟩;generalize xci p.E m f x.a=r at *;go_wp2_with fail;refine hmk.mono ?_;rintro e w2 ⟨rfl,⟨T2,hX2,hM2,hF2⟩,hK2⟩;have Q:Hid (StPost p L T w mb (20-(d:Int)) K fb r (.returned (.int .i64 r.2.2)) w2):=xcG hC hsd hX HKV.out hL1 rfl hX2 hM2 (fun h=>(hF2 h).elim fun sv' h'=>⟨_,_,_,sv',_,h'⟩) hK2 (fun t h=>by unfold All;omega) (by omega) (by omega)
   clear hF1 hF2 hK2 hX2 hM1 hM2 hL1 hR1 x0 x1 x2 x3 x4 hmk hsd;go_wp2
   go_ret
   rw[HN.out]
   exact Q.out
  have h13':(x.op == 13)=false:=by simpa using h13
  by_cases h14:x.op=14
  ·have HN:Hid (xaj (xbh p.E d) p.E d m f a x=xbO (xbh p.E d) p.E m f a x):=by show _=_;rw[HM.out];unfold xgt;rw[if_neg h9];rw[if_neg h10];rw[if_neg h11];rw[if_neg h12];rw[if_neg h13];rw[if_pos h14]
   have h14':(x.op == 14)=true:=by simpa using h14
   clear HM h9 h10 h11 h12 h13 h14;have hsn:=xpZ hC hEn hM1 hF1 hL1 hI hFo hst a x;generalize xbO (xbh p.E d) p.E m f a x=r at *;go_wp2_with fail;refine hsn.mono ?_;rintro e w2 ⟨rfl,⟨T2,hX2,hM2,hL2,hF2⟩,hK2⟩;have Q:Hid (StPost p L T w mb (20-(d:Int)) K fb r (.returned (.int .i64 r.2.2)) w2):=⟨rfl,⟨T2,hX.trans HKV.out.size hX2,hM2,hL2,hF2⟩,HKV.out.trans hX hK2⟩;clear hF1 hF2 hK2 hX2 hM1 hM2 hL1 hL2 hR1 x0 x1 x2 x3 x4 hsn;go_wp2
   go_ret
   rw[HN.out]
   exact Q.out
  have h14':(x.op == 14)=false:=by simpa using h14
  by_cases h15:x.op=15
  ·have HN:Hid (xaj (xbh p.E d) p.E d m f a x=xa3 m f a x.a):=by show _=_;rw[HM.out];unfold xgt;rw[if_neg h9];rw[if_neg h10];rw[if_neg h11];rw[if_neg h12];rw[if_neg h13];rw[if_neg h14];rw[if_pos h15]
   have h15':(x.op == 15)=true:=by simpa using h15
   clear HM h9 h10 h11 h12 h13 h14 h15;have hjm:=xlX hM1 hF1 a x.a hI.tz;have hsd:(xa3 m f a x.a).1.st=m.st/\(xa3 m f a x.a).1.sz_=m.sz_:=⟨xne _ _ _ _,xfw _ _ _ _⟩;generalize xa3 m f a x.a=r at *;go_wp2_with fail;refine hjm.mono ?_;rintro e w2 ⟨rfl,hM2,hF2,hK2⟩;have Q:Hid (StPost p L T w mb (20-(d:Int)) K fb r (.returned (.int .i64 r.2.2)) w2):=xcG hC hsd hX HKV.out hL1 rfl (.refl _ _) ⟨_,_,_,hM2⟩ (fun _=>⟨_,_,_,_,_,hF2⟩) hK2 (fun t h=>by unfold All;omega) (by omega) (by omega)
   clear hF1 hF2 hK2 hM1 hM2 hL1 hR1 x0 x1 x2 x3 x4 hjm hsd;go_wp2
   go_ret
   rw[HN.out]
   exact Q.out
  have h15':(x.op == 15)=false:=by simpa using h15
  by_cases h16:x.op=16
  ·have HN:Hid (xaj (xbh p.E d) p.E d m f a x=xbQ m f a x.a):=by show _=_;rw[HM.out];unfold xgt;rw[if_neg h9];rw[if_neg h10];rw[if_neg h11];rw[if_neg h12];rw[if_neg h13];rw[if_neg h14];rw[if_neg h15];rw[if_pos h16]
   have h16':(x.op == 16)=true:=by simpa using h16
   clear HM h9 h10 h11 h12 h13 h14 h15 h16;have hjm:=xmf hM1 hF1 a x.a hI.tz;have hsd:(xbQ m f a x.a).1.st=m.st/\(xbQ m f a x.a).1.sz_=m.sz_:=⟨xqX _ _ _ _,xie _ _ _ _⟩;generalize xbQ m f a x.a=r at *;go_wp2_with fail;refine hjm.mono ?_;rintro e w2 ⟨rfl,hM2,hF2,hK2⟩;have Q:Hid (StPost p L T w mb (20-(d:Int)) K fb r (.returned (.int .i64 r.2.2)) w2):=xcG hC hsd hX HKV.out hL1 rfl (.refl _ _) ⟨_,_,_,hM2⟩ (fun h=>(hF2 h).elim fun sv' h'=>⟨_,_,_,sv',_,h'⟩) hK2 (fun t h=>by unfold All;omega) (by omega) (by omega)
   clear hF1 hF2 hK2 hM1 hM2 hL1 hR1 x0 x1 x2 x3 x4 hjm hsd;go_wp2
   go_ret
   rw[HN.out]
   exact Q.out
  have h16':(x.op == 16)=false:=by simpa using h16
  have HN:Hid (xaj (xbh p.E d) p.E d m f a x=xb7 p.E d m f x):=by show _=_;rw[HM.out];unfold xgt;rw[if_neg h9];rw[if_neg h10];rw[if_neg h11];rw[if_neg h12];rw[if_neg h13];rw[if_neg h14];rw[if_neg h15];rw[if_neg h16]
  clear HM h9 h10 h11 h12 h13 h14 h15 h16;have hfs:=xjO hC hd hM1 hF1 hL1 hI hst x hxb;clear hxb;generalize xb7 p.E d m f x=r at *;go_wp2_with fail;refine hfs.mono ?_;rintro e w2 hP;have Q:=hid (hP.under hX HKV.out);obtain⟨rfl,-⟩:=hP;clear hF1 hM1 hL1 hR1 x0 x1 x2 x3 x4 hfs;go_wp2
  go_ret
  rw[HN.out]
  exact Q.out
end
section
variable {σ:Type}
theorem xh2 (m:Mc σ)(f:Fr)(a b:Int):(xa3 m f a b).2.1.stack=f.stack:=by
 unfold xa3;simp only
 split<;>split<;>rfl
theorem xma (ent:Ent σ)(E:Env σ)(d:Nat)(m:Mc σ)(f:Fr)(a:Int)(x:QI):(xaj ent E d m f a x).2.1.stack.length<=f.stack.length+1:=by
 unfold xaj
 split
 ·simp[Fr.push]
 ·split
  ·simp[Fr.pop];omega
  ·split
   ·simp[Fr.push]
   ·split
    ·simp[Fr.pop];omega
    ·split
     ·simp[Fr.pop];omega
     ·split
      ·unfold xci;split
       ·simp
       ·simp[Fr.push]
      ·split
       ·unfold xbO;simp only
        split
        ·simp
        ·simp;omega
       ·split
        ·rw[xh2];omega
        ·split
         ·unfold xbQ
          split
          ·simp[Fr.pop];omega
          ·split
           ·rw[xh2];simp[Fr.pop];omega
           ·simp
         ·unfold xb7
          split
          ·simp
          ·split
           ·simp only
            split
            ·simp
            ·simp[Fr.leave]
           ·split
            ·simp[Fr.push]
            ·split
             ·simp[Fr.pop];omega
             ·split<;>simp
theorem xnj {ent:Ent σ}(ht:xby ent){E:Env σ}{d:Nat}{m:Mc σ}{f:Fr}(hm:0<=m.tz)(h0:0<=f.pc)(hl:f.pc.toNat<f.code.length){x:QI}(he:(xaj ent E d m { f with pc:=f.pc+1 } f.pc x).2.2=0){R:Nat}(hR:f.stack.length+muE m f<=R):(xaj ent E d m { f with pc:=f.pc+1 } f.pc x).2.1.stack.length+muE (xaj ent E d m { f with pc:=f.pc+1 } f.pc x).1 (xaj ent E d m { f with pc:=f.pc+1 } f.pc x).2.1<=R:=by
 have h1:=xma ent E d m { f with pc:=f.pc+1 } f.pc x
 have h2:=xi1 ht (E:=E) (d:=d) hm h0 hl (x:=x) he;have e:({ f with pc:=f.pc+1 }:Fr).stack=f.stack:=rfl
 rw[e] at h1
 omega
def xst (ent:Ent σ):Prop:=∀ m c n s a,m.tz<=300->(ent m c n s a).2.2=0->(ent m c n s a).1.tz<=300
theorem xqj {m:Mc σ}{f:Fr}{a b:Int}(h0:(xa3 m f a b).2.2=0):(xa3 m f a b).1.tz<=300:=by
 unfold xa3 at h0 ⊢
 by_cases h:b<=a
 ·simp only[h,if_true] at h0 ⊢
  split
  ·rename_i k;rw[if_pos k] at h0;cases h0
  ·rename_i k;simp only at k ⊢;omega
 ·simp only[h,if_false] at h0 ⊢
  split
  ·rename_i k;rw[if_pos k] at h0;cases h0
  ·rename_i k;simp only at k ⊢;omega
theorem xr1 {m:Mc σ}(hm:m.tz<=300){f:Fr}{a b:Int}(h0:(xbQ m f a b).2.2=0):(xbQ m f a b).1.tz<=300:=by
 unfold xbQ at h0 ⊢
 split
 ·exact hm
 ·rename_i k;rw[if_neg k] at h0
  split
  ·rename_i k2;rw[if_pos k2] at h0;exact xqj h0
  ·exact hm
theorem xse (E:Env σ)(m:Mc σ)(f:Fr)(c:Int):(xci E m f c).1.tz=m.tz:=by unfold xci;split<;>rfl
theorem xqg {E:Env σ}{ent:Ent σ}(he:xst ent)(d:Nat){m:Mc σ}(h:m.tz<=300){f:Fr}{a:Int}{x:QI}(h0:(xaj ent E d m f a x).2.2=0):(xaj ent E d m f a x).1.tz<=300:=by
 cases hpu:xan m.heap f x with
 | some u=>unfold xaj;rw[hpu];exact h
 | none=>
  unfold xaj at h0 ⊢;rw[hpu] at h0 ⊢;simp only at h0 ⊢
  by_cases h9:x.op=9
  ·rw[if_pos h9];exact h
  rw[if_neg h9] at h0 ⊢
  by_cases h10:x.op=10
  ·rw[if_pos h10];exact h
  rw[if_neg h10] at h0 ⊢
  by_cases h11:x.op=11
  ·rw[if_pos h11];exact h
  rw[if_neg h11] at h0 ⊢
  by_cases h12:x.op=12
  ·rw[if_pos h12];exact h
  rw[if_neg h12] at h0 ⊢
  by_cases h13:x.op=13
  ·rw[if_pos h13,xse];exact h
  rw[if_neg h13] at h0 ⊢
  by_cases h14:x.op=14
  ·rw[if_pos h14] at h0 ⊢;unfold xbO at h0 ⊢;simp only at h0 ⊢
   split
   ·rename_i k;rw[if_pos k] at h0;exact absurd h0 k
   ·rename_i k;exact he _ _ _ _ _ h (Decidable.of_not_not k)
  rw[if_neg h14] at h0 ⊢
  by_cases h15:x.op=15
  ·rw[if_pos h15] at h0 ⊢;exact xqj h0
  rw[if_neg h15] at h0 ⊢
  by_cases h16:x.op=16
  ·rw[if_pos h16] at h0 ⊢;exact xr1 h h0
  rw[if_neg h16] at h0 ⊢;unfold xb7
  split
  ·exact h
  ·split
   ·exact h
   ·split
    ·exact h
    ·split
     ·exact h
     ·split
      ·show (xar E d m).1.tz<=300
       unfold xar
       split
       ·exact h
       ·split<;>exact h
      ·exact h
theorem xsn {E:Env σ}{ent:Ent σ}(he:xst ent)(d:Nat):∀ (g:Nat) (m:Mc σ) (f:Fr),m.tz<=300->(xck ent E d g m f).2.2=0->(xck ent E d g m f).1.tz<=300
 | 0,m,f,h,h0=>by cases h0
 | g+1,m,f,h,h0=>by
  unfold xck at h0 ⊢;generalize (if f.pc<0 then none else f.code[f.pc.toNat]?)=q at h0 ⊢
  cases q with
  | none=>cases h0
  | some x=>
   simp only at h0 ⊢
   by_cases h17:x.op=17
   ·rw[if_pos h17];exact h
   ·rw[if_neg h17] at h0 ⊢
    by_cases he0:(xaj ent E d m { f with pc:=f.pc+1 } f.pc x).2.2=0
    ·rw[if_neg (by simpa using he0)] at h0 ⊢
     exact xsn he d g _ _ (xqg he d h he0) h0
    ·rw[if_pos he0] at h0
     exact absurd h0 he0
theorem xnG {E:Env σ}(d:Nat){body:Mc σ->Fr->Mc σ × QV × Int}(hb:∀ m f,m.tz<=300->(body m f).2.2=0->(body m f).1.tz<=300):xst (xbs E d body):=fun m c n s a h h0=>by
 unfold xbs at h0 ⊢;generalize xaz E.cz c n=q at h0 ⊢
 cases q with
 | none=>cases h0
 | some mt=>
  simp only at h0 ⊢
  split at h0
  ·cases h0
  ·rename_i h1;rw[if_neg h1]
   split at h0
   ·rename_i h2;rw[if_pos h2]
    split
    ·exact h
    ·exact h
   ·rename_i h2;rw[if_neg h2]
    have hc:(xar E d m).1.tz=m.tz:=by
     unfold xar
     split
     ·rfl
     ·split<;>rfl
    split at h0
    ·rename_i h3;exact absurd h0 h3
    ·rename_i h3;rw[if_neg h3]
     exact hb _ _ (by rw[hc];exact h) h0
theorem xsd (E:Env σ):∀ d,xst (xbh E d)
 | 0=>xnG 0 fun m f h h0=>by cases h0
 | d+1=>xnG (d+1) fun m f h h0=>xsn (xsd E d) d _ m f h h0
def xqm (f:Fr):Prop:=f.fast=true->∀ x∈f.code,x.op=18->0<=x.b/\x.b<=1000
theorem xqZ {ent:Ent σ}{E:Env σ}{d:Nat}{m:Mc σ}{f:Fr}(h:xqm f)(a:Int)(x:QI):xqm (xaj ent E d m f a x).2.1:=by
 have jmp:∀ g:Fr,xqm g->∀ b,xqm (xa3 m g a b).2.1:=fun g hg b=>by
  unfold xa3;simp only
  split<;>split<;>exact hg
 unfold xaj
 split
 ·exact h
 ·split
  ·exact h
  ·split
   ·exact h
   ·split
    ·exact h
    ·split
     ·exact h
     ·split
      ·unfold xci;split<;>exact h
      ·split
       ·unfold xbO;simp only
        split<;>exact h
       ·split
        ·exact jmp f h _
        ·split
         ·unfold xbQ
          split
          ·exact h
          ·split
           ·exact jmp f.pop h _
           ·exact h
         ·unfold xb7
          split
          ·exact h
          ·split
           ·simp only
            split
            ·exact h
            ·exact fun h=>by cases h
           ·split
            ·exact h
            ·split
             ·exact h
             ·split<;>exact h
end
section
variable {σ:Type}
variable {p:Mp σ} {L:(Nat->Nat)->World->σ->Nat->Prop} {LF QF:Nat} {lc qc:Array Value} {T T':Nat->Nat} {w w':World} {mb:Nat} {m m':Mc σ} {hv:Value} {g:Nat} {s:Nat->Nat} {K fb:Nat} {f:Fr} {cv av tv sv kv:Value}
structure FnR (p:Mp σ)(L:(Nat->Nat)->World->σ->Nat->Prop)(d:Nat)(T:Nat->Nat)(w:World)(mb K fb:Nat)(R:Mc σ × QV × Int)(gk:Nat)(T1:Nat->Nat)(m:Mc σ)(f:Fr)(wr:World):Prop where
 ext:Ext T T1 w
 kp:Kp (All K) T w wr
 mac:∃ hv g s,MacAt p T1 wr mb m (20-(d:Int)) hv g s
 fr:∃ cv av tv sv kv,FrAt T1 K wr fb f cv av tv sv kv
 lk:L T1 wr m.st (xdy p.E m)
 min:MIn p.E m
 fo:FOk p.E.cz m.heap.length f
 gd:xqm f
 room:f.stack.length+muE m f<=1000000
 mu:muE m f<=gk
 val:xck (xbh p.E d) p.E d gk m f=R
 r0:wr.cell? ⟨w.heap.size,0,none⟩=some (.int .i64 0)
 r1:wr.cell? ⟨w.heap.size,1,none⟩=some (.int .i64 0)
 rf:∀ o,wr.frozen? ⟨w.heap.size,o,none⟩=false
 r4:T1 w.heap.size=4
 sz:w.heap.size<wr.heap.size
theorem xc0 {S:Nat->Prop}{b o:Nat}(k:Kp S T w w')(hb:b<w.heap.size)(hs:¬ S (T b))(h:w.frozen? ⟨b,o,none⟩=false):w'.frozen? ⟨b,o,none⟩=false:=by
 unfold World.frozen? at h ⊢;simp only at h ⊢;rw[k.blk b hb hs];exact h
theorem FnR.ended (hC:Cx p L LF lc QF qc){d gk:Nat}{T1:Nat->Nat}{wr:World}{R:Mc σ × QV × Int}(h:FnR p L d T w mb K fb R gk T1 m f wr)(u0 u1:Value):EnPost p L T w mb (20-(d:Int)) K (m,xa4,9) (.returned (.tuple #[VV xa4,.int .i64 9])) ((wr.setCell ⟨w.heap.size,0,none⟩ u0).setCell ⟨w.heap.size,1,none⟩ u1).drew:=by
 obtain⟨hv,g,s,hM⟩:=h.mac;have k:Kp (fun t=>t=4) T1 wr ((wr.setCell ⟨w.heap.size,0,none⟩ u0).setCell ⟨w.heap.size,1,none⟩ u1).drew:=(((Kp.refl (fun t=>t=4) _ _).set (fun _=>h.r4) _ _).set (fun _=>h.r4) _ _).drew
 refine⟨rfl,⟨T1,h.ext,⟨_,_,_,hM.keep (.refl _ _) k (by omega) (by omega) (by omega)⟩,?_⟩,((h.kp.set (fun h=>absurd h (Nat.lt_irrefl _)) _ _).set (fun h=>absurd h (Nat.lt_irrefl _)) _ _).drew⟩
 rw[if_neg (by simp)]
 exact hC.mono (hC.keep h.lk (.refl _ _) k (by omega) (by omega)) (Nat.zero_le _)
theorem xmM (hC:Cx p L LF lc QF qc){d:Nat}(hd:d<=20)(hEn:xfL p L d)(h:MacAt p T w mb m (20-(d:Int)) hv g s)(hF:FrAt T K w fb f cv av tv sv kv)(hL:L T w m.st (xdy p.E m))(hI:MIn p.E m)(hFo:FOk p.E.cz m.heap.length f)(hGd:xqm f)(hRm:f.stack.length+muE m f<=1000000) :
  Calls Tryz.prog 232 #[.pointer (some ⟨mb,0,none⟩),.pointer (some ⟨fb,0,none⟩)] w fun e w'=>EnPost p L T w mb (20-(d:Int)) K (xck (xbh p.E d) p.E d (xi6 f) m f) e w':=by
 have hp:=hF.pos;have hb1:=xai w (.cells #[.int .i64 0,.int .i64 0] 41)
 have hRel:FnR p L d T w mb K fb (xck (xbh p.E d) p.E d (xi6 f) m f) (xi6 f) (xbc T w 4) m f (w.alloc (.cells #[.int .i64 0,.int .i64 0] 41)):=
  ⟨xaQ T w 4,Kp.of_below hb1,⟨_,_,_,(h.tagged0 4).later hb1⟩,⟨_,_,_,_,_,(hF.tagged0 4).later hb1⟩,hC.keep (hC.keep hL (xaQ T w 4) (Kp.refl (fun _=>False) _ _) id id) (.refl _ _) (Kp.of_below (S:=fun _=>False) hb1) id id,hI,hFo,hGd,hRm,xjS hI.tz.1,rfl,xab _ _ _ _ rfl 0,xab _ _ _ _ rfl 1,xaq (heap_alloc_new w (.cells #[.int .i64 0,.int .i64 0] 41)),xba (qzC _),by simp⟩
 clear h hF hL hb1 hFo hGd hRm hI;generalize xck (xbh p.E d) p.E d (xi6 f) m f=R at *;generalize xi6 f=G at *;go_enter Tryz.func232,Tryz.ntmps232;go_wp2
 go_loopg [] G (fun gk wr=>∃ T1 m f,FnR p L d T w mb K fb R gk T1 m f wr)
 case atStart=>exact⟨_,_,_,hRel⟩
 case round=>
  clear hRel;obtain⟨T1,m,f,hR⟩:=hrel;obtain⟨hv,g,s,hM⟩:=hR.mac;obtain⟨cv,av,tv,sv,kv,hFr⟩:=hR.fr;have hmu:=hR.mu
  by_cases hin:f.pc<0\/f.code.length<=f.pc.toNat
  ·have HV:Hid (R=(m,xa4,9)):=by
    show _=_
    rw[← hR.val]
    cases gk with
    | zero=>rfl
    | succ G'=>
     unfold xck
     rcases hin with hn | hn
     ·rw[if_pos hn]
     ·have:(if f.pc<0 then none else f.code[f.pc.toNat]?)=none:=by
       split
       ·rfl
       ·exact List.getElem?_eq_none hn
      rw[this]
   have hc12:wr.cell? ⟨fb,12,none⟩=some (.int .i64 f.pc):=by rw[qzB hFr.box];rfl
   have hc11:wr.cell? ⟨fb,11,none⟩=some kv:=by rw[qzB hFr.box];rfl
   obtain⟨ac,cc,hkv,hcl,hcc,-,hrow⟩:=hFr.code;rw[hkv] at hc11;have q0:=hR.r0;have q1:=hR.r1;have qf:=hR.rf;have HR:=hid hR;have HM:=hid hM;clear hR hM hFr hmu hrow hkv
   by_cases hn:f.pc<0
   ·have hn':decide (0<=f.pc)=false:=by simpa using hn
    have hn2:¬ 0<=f.pc:=by omega
    clear hin hn;go_wp2
    go_region
    go_wp2;rw[HV.out];refine bodyPost_ret (v:=.tuple #[VV xa4,.int .i64 9]) ?_ rfl (HR.out.ended hC _ _)
    simp[results,Tryz.results232,go_sem,q0,q1]
   ·have hn':decide (0<=f.pc)=true:=by simpa using hn
    have hn2:0<=f.pc:=by omega
    have hge:¬ f.pc<(f.code.length:Int):=by omega
    have hge':decide (f.pc<(f.code.length:Int))=false:=by simpa using hge
    clear hin hn;go_wp2
    go_region
    go_wp2;rw[HV.out];refine bodyPost_ret (v:=.tuple #[VV xa4,.int .i64 9]) ?_ rfl (HR.out.ended hC _ _)
    simp[results,Tryz.results232,go_sem,q0,q1]
  obtain⟨k,hpc⟩:∃ k:Nat,f.pc=(k:Int):=⟨f.pc.toNat,by omega⟩
  have hkl:k<f.code.length:=by rw[hpc] at hin;simp at hin;omega
  obtain⟨x,hxh⟩:∃ x,f.code[k]?=some x:=⟨_,List.getElem?_eq_getElem hkl⟩;clear hin
  obtain⟨G',hG⟩:∃ G',gk=G'+1:=⟨gk-1,by
   have:0<muE m f:=by unfold muE;rw[hpc];simp;omega
   omega⟩
  have HV:Hid (R=if x.op=17 then (m,f.top,0) else if (xaj (xbh p.E d) p.E d m { f with pc:=f.pc+1 } f.pc x).2.2≠0 then ((xaj (xbh p.E d) p.E d m { f with pc:=f.pc+1 } f.pc x).1,xa4,(xaj (xbh p.E d) p.E d m { f with pc:=f.pc+1 } f.pc x).2.2) else xck (xbh p.E d) p.E d G' (xaj (xbh p.E d) p.E d m { f with pc:=f.pc+1 } f.pc x).1 (xaj (xbh p.E d) p.E d m { f with pc:=f.pc+1 } f.pc x).2.1):=by
   show _=_
   rw[← hR.val,hG]
   conv=>lhs;unfold xck
   rw[hpc,if_neg (by omega)]
   simp only[Int.toNat_natCast,hxh]
  have hc12:wr.cell? ⟨fb,12,none⟩=some (.int .i64 (k:Int)):=by rw[qzB hFr.box,← hpc];rfl
  have hc11:wr.cell? ⟨fb,11,none⟩=some kv:=by rw[qzB hFr.box];rfl
  have hcf:=xaq hFr.box;obtain⟨ac,cc,hkv,hcl,hcc,-,hrow⟩:=hFr.code;rw[hkv] at hc11;unfold maxLen at hcc;obtain⟨bc,oc,hac,-,i0,i1,i2,i3,i4,-⟩:=hrow k x hxh;rw[hac] at hc11;simp only[Nat.add_zero] at i0;have hk0:(0:Int)<=(k:Int):=by omega
  have hk1:(k:Int)<(f.code.length:Int):=by omega
  have hkw:IntKind.i64.wrap ((k:Int)+1)=(k:Int)+1:=xal (by omega) (by omega)
  have hlf:fb<wr.heap.size:=xam hFr.box;have hnf:¬ fb=wr.heap.size:=by omega
  have hnf':¬ wr.heap.size=fb:=by omega
  have HX:=hid hxh;have HR:=hid hR;have HM:=hid hM;have HF:=hid hFr;have HPC:=hid hpc;have HGK:=hid hG;clear hxh hR hM hFr hpc hmu hrow hkv hac hG;rw[HPC.out] at HV;go_wp2
  go_region
  by_cases h17:x.op=17
  ·have h17':(x.op == 17)=true:=by simpa using h17
   rw[if_pos h17] at HV;clear h17;have hbV:Below wr.heap.size wr (wr.alloc (.cells #[.int .i64 x.op,.int .i64 x.a,.int .i64 x.b,.int .i64 x.c,.string x.name] 69)).drew:=(xai _ _).drew;have hF1:=HF.out.later hbV;go_wp2_with fail;refine (xeM hF1).mono ?_;rintro e w2 ⟨rfl,-,hK2⟩;have hrs:=HR.out.sz;have hz:w.heap.size<(wr.alloc (.cells #[.int .i64 x.op,.int .i64 x.a,.int .i64 x.b,.int .i64 x.c,.string x.name] 69)).drew.heap.size:=qzE hrs hbV.size;have q0:=hK2.cell (qzA hbV HR.out.r0) (by rw[HR.out.r4];omega)
   have q1:=hK2.cell (qzA hbV HR.out.r1) (by rw[HR.out.r4];omega)
   have qf:∀ o,w2.frozen? ⟨w.heap.size,o,none⟩=false:=fun o=>xc0 hK2 hz (by rw[HR.out.r4];omega) ((hbV.frozen (p:=⟨w.heap.size,o,none⟩) hrs).trans (HR.out.rf o))
   have HM2:=hid ((HM.out.later hbV).keep (.refl _ _) hK2 (by omega) (by omega) (by omega))
   have HL2:=hid (hC.keep (hC.keep HR.out.lk (.refl _ _) (Kp.of_below (S:=fun _=>False) hbV) id id) (.refl _ _) hK2 (by omega) (by omega))
   have HK2:=hid ((HR.out.kp.on hbV).trans HR.out.ext (hK2.mono (S':=All K) fun t h=>by unfold All;omega))
   clear hF1 hK2 hbV hc12 hc11 hcf i0 i1 i2 i3 i4;go_wp2;rw[HV.out];refine bodyPost_ret (v:=.tuple #[VV f.top,.int .i64 0]) ?_ rfl ⟨rfl,⟨T1,HR.out.ext,⟨_,_,_,HM2.out.keep (.refl _ _) (((Kp.refl (fun t=>t=4) _ _).set (fun _=>HR.out.r4) _ _).set (fun _=>HR.out.r4) _ _) (by omega) (by omega) (by omega)⟩,?_⟩,(HK2.out.set (fun h=>absurd h (Nat.lt_irrefl _)) _ _).set (fun h=>absurd h (Nat.lt_irrefl _)) _ _⟩
   ·simp[results,Tryz.results232,go_sem,q0,q1]
   ·rw[if_pos rfl]
    exact hC.keep HL2.out (.refl _ _) (((Kp.refl (fun t=>t=4) _ _).set (fun _=>HR.out.r4) _ _).set (fun _=>HR.out.r4) _ _) (by omega) (by omega)
  ·have h17':(x.op == 17)=false:=by simpa using h17
   rw[if_neg h17] at HV;have H17:=hid h17;clear h17;have hk2:Kp (fun t=>t=K) T1 wr (wr.setCell ⟨fb,12,none⟩ (.int .i64 ((k:Int)+1))):=(Kp.refl _ _ _).set (fun _=>HF.out.tag) _ _
   have hbV:Below (wr.setCell ⟨fb,12,none⟩ (.int .i64 ((k:Int)+1))).heap.size (wr.setCell ⟨fb,12,none⟩ (.int .i64 ((k:Int)+1))) ((wr.setCell ⟨fb,12,none⟩ (.int .i64 ((k:Int)+1))).alloc (.cells #[.int .i64 x.op,.int .i64 x.a,.int .i64 x.b,.int .i64 x.c,.string x.name] 69)).drew:=(xai _ _).drew;have hz0:(wr.setCell ⟨fb,12,none⟩ (.int .i64 ((k:Int)+1))).heap.size=wr.heap.size:=by simp
   have hkV:Kp (fun t=>t=K) T1 wr ((wr.setCell ⟨fb,12,none⟩ (.int .i64 ((k:Int)+1))).alloc (.cells #[.int .i64 x.op,.int .i64 x.a,.int .i64 x.b,.int .i64 x.c,.string x.name] 69)).drew:=hk2.on hbV
   have hF1:=(HF.out.pcAt hk2 ((k:Int)+1) (xir HF.out.box _)).later hbV;have hM1:=HM.out.keep (.refl _ _) hkV (by omega) (by omega) (by omega)
   have hL1:=hC.keep HR.out.lk (.refl _ _) hkV (by omega) (by omega)
   have hFo1:FOk p.E.cz m.heap.length { f with pc:=(k:Int)+1 }:=⟨HR.out.fo.self,HR.out.fo.args,HR.out.fo.temps,HR.out.fo.stack,HR.out.fo.code,HR.out.fo.plain⟩
   have hstep:=xpQ hC hEn hM1 hF1 hL1 HR.out.min hFo1 (by have:=HR.out.room;show f.stack.length<=_;omega) hd (k:Int) x (fun hf h18=>HR.out.gd hf x (List.mem_of_getElem? HX.out) h18)
   have hmem:x∈f.code:=List.mem_of_getElem? HX.out;have hcod:=HR.out.fo.code x hmem;have P1:=hid (xol hC.ok (xoL hC.ok d) d HR.out.min.heap hFo1 (k:Int) hcod.1 hcod.2);have P2:=hid (xnh (xl7 p.E d) d HR.out.min.sz_.2 { f with pc:=(k:Int)+1 } (k:Int) x)
   have P3:=hid (xej (xcd p.E d) p.E d m { f with pc:=(k:Int)+1 } (k:Int) x)
   have P4:Hid ((xaj (xbh p.E d) p.E d m { f with pc:=(k:Int)+1 } (k:Int) x).2.2=0->(xaj (xbh p.E d) p.E d m { f with pc:=(k:Int)+1 } (k:Int) x).1.tz<=300):=fun h0=>xqg (xsd p.E d) d HR.out.min.tz.2 (f:={ f with pc:=(k:Int)+1 }) h0
   have P5:Hid (xqm (xaj (xbh p.E d) p.E d m { f with pc:=(k:Int)+1 } (k:Int) x).2.1):=xqZ (f:={ f with pc:=(k:Int)+1 }) HR.out.gd (k:Int) x
   have P7:Hid ((xaj (xbh p.E d) p.E d m { f with pc:=(k:Int)+1 } (k:Int) x).2.2=0->(xaj (xbh p.E d) p.E d m { f with pc:=(k:Int)+1 } (k:Int) x).2.1.stack.length+muE (xaj (xbh p.E d) p.E d m { f with pc:=(k:Int)+1 } (k:Int) x).1 (xaj (xbh p.E d) p.E d m { f with pc:=(k:Int)+1 } (k:Int) x).2.1<=1000000):=fun h0=>by
    have:=xnj (xcd p.E d) (E:=p.E) (d:=d) (x:=x) HR.out.min.tz.1 (f:=f) (by rw[HPC.out];omega) (by rw[HPC.out];simpa using hkl) (by rw[HPC.out];exact h0) HR.out.room
    rw[HPC.out] at this
    exact this
   have P6:Hid ((xaj (xbh p.E d) p.E d m { f with pc:=(k:Int)+1 } (k:Int) x).2.2=0->muE (xaj (xbh p.E d) p.E d m { f with pc:=(k:Int)+1 } (k:Int) x).1 (xaj (xbh p.E d) p.E d m { f with pc:=(k:Int)+1 } (k:Int) x).2.1<muE m f):=fun h0=>by
    have:=xi1 (xcd p.E d) (E:=p.E) (d:=d) (x:=x) HR.out.min.tz.1 (f:=f) (by rw[HPC.out];omega) (by rw[HPC.out];simpa using hkl) (by rw[HPC.out];exact h0)
    rw[HPC.out] at this
    exact this
   clear hF1 hM1 hL1 hFo1 hcod;generalize xaj (xbh p.E d) p.E d m { f with pc:=(k:Int)+1 } (k:Int) x=r at *
   go_wp2_with fail;refine hstep.mono ?_;rintro e w3 ⟨rfl,⟨T3,hX3,⟨hv3,g3,s3,hM3⟩,hL3,hF3⟩,hK3⟩;have hrs:=HR.out.sz;have hz1:w.heap.size<((wr.setCell ⟨fb,12,none⟩ (.int .i64 ((k:Int)+1))).alloc (.cells #[.int .i64 x.op,.int .i64 x.a,.int .i64 x.b,.int .i64 x.c,.string x.name] 69)).drew.heap.size:=qzE hrs hkV.size;have q0:=hK3.cell (hkV.cell HR.out.r0 (by rw[HR.out.r4];omega)) (by rw[HR.out.r4];unfold All;omega)
   have q1:=hK3.cell (hkV.cell HR.out.r1 (by rw[HR.out.r4];omega)) (by rw[HR.out.r4];unfold All;omega)
   have qf:∀ o,w3.frozen? ⟨w.heap.size,o,none⟩=false:=fun o=>xc0 hK3 hz1 (by rw[HR.out.r4];unfold All;omega) (xc0 hkV hrs (by rw[HR.out.r4];omega) (HR.out.rf o))
   have HE3:=hid (HR.out.ext.trans HR.out.kp.size (fun b hb=>hX3 b (qzE hb hkV.size)))
   have HK3:=hid ((HR.out.kp.trans HR.out.ext (hkV.mono (S':=All K) fun t h=>by unfold All;omega)).trans HR.out.ext hK3)
   have HT3:Hid (T3 w.heap.size=4):=by show _=_;rw[hX3 _ hz1];exact HR.out.r4
   have HZ3:Hid (w.heap.size<w3.heap.size):=qzE hz1 hK3.size;have HM3:=hid hM3;have HL3:=hid hL3;have HF3:=hid hF3;clear hstep hX3 hM3 hL3 hF3 hK3 hc12 hc11 hcf i0 i1 i2 i3 i4 hk2 hbV hkV hz1
   by_cases he:r.2.2=0
   ·have he':(r.2.2 != 0)=false:=by simpa using he
    have HE0:=hid he;rw[if_neg (by simpa using he)] at HV
    go_wp2
    go_roundg G'
    case measure=>have:=HGK.out;omega
    case rel=>
     have hL4:=HL3.out;rw[if_pos HE0.out] at hL4;have hst:=P1.out;refine⟨T3,r.1,r.2.1,HE3.out,HK3.out,⟨_,_,_,HM3.out⟩,HF3.out HE0.out,hL4,⟨hst.1.heap,⟨by have:=P2.out;have:=HR.out.min.sz_;omega,P2.out.1⟩,⟨by have:=P3.out;have:=HR.out.min.tz;omega,P4.out HE0.out⟩⟩,hst.2 HE0.out,P5.out,P7.out HE0.out,?_,HV.out.symm,q0,q1,qf,HT3.out,HZ3.out⟩
     have h1:=P6.out HE0.out;have h2:=HR.out.mu;have h3:=HGK.out
     omega
   ·have he':(r.2.2 != 0)=true:=by simpa using he
    have HE0:=hid he;rw[if_pos he] at HV;clear he;go_wp2;rw[HV.out];refine bodyPost_ret (v:=.tuple #[VV xa4,.int .i64 r.2.2]) ?_ rfl ⟨rfl,⟨T3,HE3.out,⟨_,_,_,HM3.out.keep (.refl _ _) (((Kp.refl (fun t=>t=4) _ _).set (fun _=>HT3.out) _ _).set (fun _=>HT3.out) _ _) (by omega) (by omega) (by omega)⟩,?_⟩,(HK3.out.set (fun h=>absurd h (Nat.lt_irrefl _)) _ _).set (fun h=>absurd h (Nat.lt_irrefl _)) _ _⟩
    ·simp[results,Tryz.results232,go_sem,q0,q1]
    ·have hL4:=HL3.out;rw[if_neg HE0.out] at hL4 ⊢
     exact hC.keep hL4 (.refl _ _) (((Kp.refl (fun t=>t=4) _ _).set (fun _=>HT3.out) _ _).set (fun _=>HT3.out) _ _) (by omega) (by omega)
end
section
variable {σ:Type}
def xcL (E:Env σ)(X:QW)(st0:σ)(s:QV)(name:ByteArray)(args:List QV):Mc σ × QV × Int:=
 xbh E 20 ⟨X.heap,0,0,st0⟩ (xak X.cz (xap X.heap s) name).1 (xak X.cz (xap X.heap s) name).2 s args
def xrY (X:QW)(r:Mc σ × QV × Int):Ran:=if r.2.2≠0 then ⟨X.heap,xa4,r.2.2,r.1.sz_⟩ else ⟨r.1.heap,r.2.1,0,r.1.sz_⟩
def xcb (E:Env σ)(X:QW)(st0:σ)(s:QV)(name:ByteArray)(args:List QV)(fuel:Int):Ran × σ:=
 if xaH X s name args fuel≠0 then (⟨X.heap,xa4,xaH X s name args fuel,0⟩,st0) else (xrY X (xcL E X st0 s name args),(xcL E X st0 s name args).1.st)
end
theorem xef (X:QW)(s:QV)(name:ByteArray)(args:List QV)(fuel:Int):(xcb (xbk X fuel) X () s name args fuel).1=xa2 X s name args fuel:=by
 unfold xcb xa2
 split<;>rfl
theorem xhh {xs:List QC}{c n:Int}{mt:QM}(h:xaz xs c n=some mt):∃ (kc kn:Nat) (x:QC),c=(kc:Int)/\n=(kn:Int)/\xs[kc]?=some x/\x.mz[kn]?=some mt:=by
 unfold xaz at h
 cases hc:xa8 xs c with
 | none=>rw[hc] at h;cases h
 | some x=>
  rw[hc] at h;obtain⟨k,rfl,hk⟩:=xa5 hc;simp only[Option.bind_some] at h
  split at h
  ·exact⟨k,n.toNat,x,rfl,by omega,hk,h⟩
  ·cases h
end Go.Proofs.YtbafokihegegiaaGreatDoor
