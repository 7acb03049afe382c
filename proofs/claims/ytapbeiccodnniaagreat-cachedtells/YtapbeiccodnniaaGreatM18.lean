/- A part. -/
import Derived.Test.YtapbeiccodnniaaGreatM12
import Derived.Test.YtapbeiccodnniaaGreatM16
import Derived.Test.YtapbeiccodnniaaGreatM17
namespace Go.Proofs.YtapbeiccodnniaaGreat
open Go.ChangeShapes Go.WideShapes Go.ChangeAt Go.RowKit
set_option linter.unusedSimpArgs false
set_option linter.unusedVariables false
set_option maxHeartbeats 8000000
set_option maxRecDepth 8000
section
variable {σ:Type}
structure Cx (p:Mp σ)(L:(Nat->Nat)->World->σ->Nat->Prop)(LF:Nat)(lc:Array Value)(QF:Nat)(qc:Array Value):Prop where
 lv:p.lv=.func (.func LF) #[] lc
 qv:p.qv=.func (.func QF) #[] qc
 lcf:∀ (args:Array Value) (w:World),(callFunc LF args).run Tryz.prog w=.ok (.enter LF args) w
 qcf:∀ (args:Array Value) (w:World),(callFunc QF args).run Tryz.prog w=.ok (.enter QF args) w
 ok:EOk p.E
 fuel:p.E.fuel<=1000000
 keep:∀ {T T':Nat->Nat} {w w':World} {st:σ} {n:Nat} {S:Nat->Prop},L T w st n->Ext T T' w->Kp S T w w'->¬ S 0->¬ S 3->L T' w' st n
 mono:∀ {T:Nat->Nat} {w:World} {st:σ} {n n':Nat},L T w st n->n'<=n->L T w st n'
 look:∀ (T:Nat->Nat) (w:World) (st:σ) (s:QS) (c:Int) (name:ByteArray) (n:Nat),L T w st (n+1)->Calls Tryz.prog LF (#[SV s,.int .i64 c,.string name]++lc) w fun e w'=>e=.returned (.tuple #[.int .i64 (p.E.look st s c name).2.1,.int .i64 (p.E.look st s c name).2.2])/\(∃ T',Ext T T' w/\L T' w' (p.E.look st s c name).1 n)/\Kp (fun t=>t=3) T w w'
 quick:∀ (T:Nat->Nat) (w:World) (st:σ) (c k:Int) (mt:QM) (n:Nat),L T w st n->xaO p.E.cz c k=some mt->Calls Tryz.prog QF (#[.int .i64 c,.int .i64 k]++qc) w fun e w'=>(∃ fc fn fe ft av nv cv,e=.returned (.tuple #[FaV fc fn fe ft (.slice av nv cv),.bool (p.E.quick c k).isSome])/\∀ q,p.E.quick c k=some q->ft=q.2/\xa5 (Fx T w') w' (.slice av nv cv) q.1)/\Below w.heap.size w w'
 few:∀ c k mt,xaO p.E.cz c k=some mt->mt.code.length<=500/\∀ q,p.E.quick c k=some q->q.1.length<=500/\∀ x∈q.1,x.op=18->0<=x.b/\x.b<=1000
def xc7 (E:Env σ)(m:Mc σ):Nat:=(E.fuel-m.sz_+1).toNat
abbrev All (K:Nat):Nat->Prop:=fun t=>t=1\/t=2\/t=3\/K<=t
def EnPost (p:Mp σ)(L:(Nat->Nat)->World->σ->Nat->Prop)(T:Nat->Nat)(w:World)(mb:Nat)(calls:Int)(K:Nat)(r:Mc σ × QV × Int)(e:Ending)(w':World):Prop:=
 e=.returned (.tuple #[VV r.2.1,.int .i64 r.2.2])/\(∃ T',Ext T T' w/\(∃ hv g s,MacAt p T' w' mb r.1 calls hv g s)/\L T' w' r.1.st (if r.2.2=0 then xc7 p.E r.1 else 0))/\Kp (All K) T w w'
def StPost (p:Mp σ)(L:(Nat->Nat)->World->σ->Nat->Prop)(T:Nat->Nat)(w:World)(mb:Nat)(calls:Int)(K fb:Nat)(r:Mc σ × Fr × Int)(e:Ending)(w':World):Prop:=
 e=.returned (.int .i64 r.2.2)/\(∃ T',Ext T T' w/\(∃ hv g s,MacAt p T' w' mb r.1 calls hv g s)/\L T' w' r.1.st (if r.2.2=0 then xc7 p.E r.1 else 0)/\(r.2.2=0->∃ cv av tv sv kv,FrAt T' K w' fb r.2.1 cv av tv sv kv))/\Kp (All K) T w w'
structure MIn (E:Env σ)(m:Mc σ):Prop where
 heap:HOk E.cz m.heap
 sz_:0<=m.sz_/\m.sz_<=E.fuel
 turns:0<=m.turns/\m.turns<=300
def xek (p:Mp σ)(L:(Nat->Nat)->World->σ->Nat->Prop)(d:Nat):Prop:=
 ∀ (K:Nat) (T:Nat->Nat) (w:World) (mb:Nat) (m:Mc σ) (hv:Value) (g:Nat) (s:Nat->Nat) (c n:Int) (self:QV) (args:List QV) (av:Value),5<=K->MacAt p T w mb m (20-(d:Int)) hv g s->L T w m.st (p.E.fuel-m.sz_).toNat->MIn p.E m->xas m.heap.length self=0->VsOk m.heap.length args->xaB (Fx T w) w av args->
  Calls Tryz.prog 61 #[.pointer (some ⟨mb,0,none⟩),.int .i64 c,.int .i64 n,VV self,av] w fun e w'=>EnPost p L T w mb (20-(d:Int)) K (xa1 p.E d m c n self args) e w'
variable {p:Mp σ} {L:(Nat->Nat)->World->σ->Nat->Prop} {LF QF:Nat} {lc qc:Array Value} {T T':Nat->Nat} {w w':World} {mb:Nat} {m m':Mc σ} {hv:Value} {g:Nat} {s:Nat->Nat} {K fb:Nat} {f:Fr} {cv av tv sv kv:Value}
structure SdR (w:World)(x:QI)(w':World):Prop where
 x0:w'.cell? ⟨w.heap.size,0,none⟩=some (.int .i64 x.op)
 x1:w'.cell? ⟨w.heap.size,1,none⟩=some (.int .i64 x.a)
 x2:w'.cell? ⟨w.heap.size,2,none⟩=some (.int .i64 x.b)
 x3:w'.cell? ⟨w.heap.size,3,none⟩=some (.int .i64 x.c)
 x4:w'.cell? ⟨w.heap.size,4,none⟩=some (.string x.name)
theorem xh1 (w:World)(x:QI)(t:TypeId):SdR w x (w.alloc (.cells #[.int .i64 x.op,.int .i64 x.a,.int .i64 x.b,.int .i64 x.c,.string x.name] t)):=⟨xaa _ _ _ _ rfl 0,xaa _ _ _ _ rfl 1,xaa _ _ _ _ rfl 2,xaa _ _ _ _ rfl 3,xaa _ _ _ _ rfl 4⟩
theorem SdR.kp {w:World}{x:QI}{w' w'':World}{T:Nat->Nat}{S:Nat->Prop}(h:SdR w x w')(k:Kp S T w' w'')(hs:¬ S (T w.heap.size)):SdR w x w'':=⟨k.cell h.x0 hs,k.cell h.x1 hs,k.cell h.x2 hs,k.cell h.x3 hs,k.cell h.x4 hs⟩
theorem xo2 {a1 a2 a3 a4 a5 a6 a7 a8 a9:Addr}{v1 v2 v3 v4 v5 v6 v7 v8 v9:Value}{w w':World}(h:w.cell? a1=some v1/\w.cell? a2=some v2/\w.cell? a3=some v3/\w.cell? a4=some v4/\w.cell? a5=some v5/\w.cell? a6=some v6/\w.cell? a7=some v7/\w.cell? a8=some v8/\w.cell? a9=some v9)(hb:Below w.heap.size w w'):w'.cell? a1=some v1/\w'.cell? a2=some v2/\w'.cell? a3=some v3/\w'.cell? a4=some v4/\w'.cell? a5=some v5/\w'.cell? a6=some v6/\w'.cell? a7=some v7/\w'.cell? a8=some v8/\w'.cell? a9=some v9:=by
 obtain⟨h1,h2,h3,h4,h5,h6,h7,h8,h9⟩:=h
 exact⟨qzA hb h1,qzA hb h2,qzA hb h3,qzA hb h4,qzA hb h5,qzA hb h6,qzA hb h7,qzA hb h8,qzA hb h9⟩
theorem xpe {T:Nat->Nat}{S:Nat->Prop}{b1 b2 b3 o1 o2:Nat}{v1 v2 v3 v4 v5 v6 v7 v8 v9:Value}{w w':World}(h:w.cell? ⟨b1,o1,none⟩=some v1/\w.cell? ⟨b1,o2,none⟩=some v2/\w.cell? ⟨b2,0,none⟩=some v3/\w.cell? ⟨b2,1,none⟩=some v4/\w.cell? ⟨b2,2,none⟩=some v5/\w.cell? ⟨b2,3,none⟩=some v6/\w.cell? ⟨b2,4,none⟩=some v7/\w.cell? ⟨b3,0,none⟩=some v8/\w.cell? ⟨b3,1,none⟩=some v9)(k:Kp S T w w')(h1:¬ S (T b1))(h2:¬ S (T b2))(h3:¬ S (T b3)):w'.cell? ⟨b1,o1,none⟩=some v1/\w'.cell? ⟨b1,o2,none⟩=some v2/\w'.cell? ⟨b2,0,none⟩=some v3/\w'.cell? ⟨b2,1,none⟩=some v4/\w'.cell? ⟨b2,2,none⟩=some v5/\w'.cell? ⟨b2,3,none⟩=some v6/\w'.cell? ⟨b2,4,none⟩=some v7/\w'.cell? ⟨b3,0,none⟩=some v8/\w'.cell? ⟨b3,1,none⟩=some v9:=by
 obtain⟨e1,e2,e3,e4,e5,e6,e7,e8,e9⟩:=h
 exact⟨k.cell e1 h1,k.cell e2 h1,k.cell e3 h2,k.cell e4 h2,k.cell e5 h2,k.cell e6 h2,k.cell e7 h2,k.cell e8 h3,k.cell e9 h3⟩
theorem MacAt.st {calls:Int}(h:MacAt p T w mb m calls hv g s)(st:σ):MacAt p T w mb { m with st:=st } calls hv g s:=⟨h.box,h.tag,h.heap,h.cls⟩
theorem xl5 (hC:Cx p L LF lc QF qc){d:Nat}(hEn:xek p L d)(h:MacAt p T w mb m (20-(d:Int)) hv g s)(hF:FrAt T K w fb f cv av tv sv kv)(hL:L T w m.st (xc7 p.E m))(hI:MIn p.E m)(hFo:FOk p.E.cz m.heap.length f)(hst:f.stack.length<=1000000)(a:Int)(x:QI) :
  Calls Tryz.prog 107 #[.pointer (some ⟨mb,0,none⟩),.pointer (some ⟨fb,0,none⟩),.int .i64 a,IV x] w fun e w'=>StPost p L T w mb (20-(d:Int)) K fb (xcm (xa1 p.E d) p.E m f a x) e w':=by
 have hp:=hF.pos;have hlm:=xaf h.box;have hlf:=xaf hF.box;have hX:=xao T w 4;have hT4:∀ b,w.heap.size<=b->xau T w 4 b=4:=fun b hb=>xav hb
 have hb1:=xaj w (.cells #[.int .i64 x.op,.int .i64 x.a,.int .i64 x.b,.int .i64 x.c,.string x.name] 76);have hM0:=(h.tagged0 4).later hb1;have hF0:=(hF.tagged0 4).later hb1;have hL0:=hC.keep (hC.keep hL hX (Kp.refl (fun _=>False) _ _) id id) (.refl _ _) (Kp.of_below (S:=fun _=>False) hb1) id id
 have hR0:=xh1 w x 76;clear h hF hL;generalize xau T w 4=T1 at *;obtain⟨k,hk⟩:∃ k,k=xbu f.stack x.a:=⟨_,rfl⟩;have HS:Hid (xcm (xa1 p.E d) p.E m f a x=(let l:=p.E.look m.st (f.site a x) (xar m.heap (xaW (f.stack.take k) 0)) x.name;let r:=xa1 p.E d { m with st:=l.1 } l.2.1 l.2.2 (xaW (f.stack.take k) 0) (f.stack.drop k);if r.2.2≠0 then (r.1,f,r.2.2) else (r.1,{ f with stack:=(f.stack.take k).dropLast++[r.2.1] },0))):=by show _=_;unfold xcm;rw[← hk]
 have HSelf:Hid (xas m.heap.length (xaW (f.stack.take k) 0)=0):=VsOk.entry (hFo.stack.sub fun v hv=>List.mem_of_mem_take hv) _
 have HArgs:Hid (VsOk m.heap.length (f.stack.drop k)):=hFo.stack.sub fun v hv=>List.mem_of_mem_drop hv
 have HTop:Hid (Fr.top { f with stack:=f.stack.take k }=xaW (f.stack.take k) 0):=rfl
 have HPop:Hid (Fr.pop { f with stack:=f.stack.take k }={ f with stack:=(f.stack.take k).dropLast }):=rfl
 have HSite:Hid (∀ l,Fr.site { f with stack:=l } a x=f.site a x):=fun _=>rfl
 have HLen:Hid ((f.stack.take k).dropLast.length<=1000000):=by show _<=_;simp;omega
 have hPA:=xii hF0 x.a k hk;have hTL:(f.stack.take k).length<=1000000:=by simp;omega
 clear hk;go_enter Tryz.func107,Tryz.ntmps107
 go_upto_region 1 with (fail)
 generalize (w.alloc (.cells #[.int .i64 x.op,.int .i64 x.a,.int .i64 x.b,.int .i64 x.c,.string x.name] 76))=W at *;obtain⟨x0,x1,x2,x3,x4⟩:=id hR0;go_wp2_with fail;refine hPA.mono ?_;rintro e w1 ⟨aa,ca,T2,sv1,rfl,hX1,hF1,hA1,hK1⟩;clear hPA;generalize f.stack.drop k=args at *;have hz4:T1 w.heap.size=4:=hT4 _ (qzC _);have hM1:=hM0.keep hX1 hK1 (by omega) (by omega) (by omega)
 have hL1:=hC.keep hL0 hX1 hK1 (by omega) (by omega)
 have hR1:=hR0.kp hK1 (by rw[hz4];omega)
 clear x0 x1 x2 x3 x4;go_wp2_with fail;refine (xdD hF1).mono ?_;rintro e w2 ⟨rfl,⟨sv2,hF2⟩,hK2⟩;have hM2:=hM1.keep (.refl _ _) hK2 (by omega) (by omega) (by omega)
 have hL2:=hC.keep hL1 (.refl _ _) hK2 (by omega) (by omega)
 have hA2:=hA1.fx xaK (.refl _ _) hK2 (by omega)
 have hWz:w.heap.size<W.heap.size:=World.block_lt_of_cell? W ⟨w.heap.size,0,none⟩ hR0.x0;have hz5:T2 w.heap.size=4:=by rw[hX1 _ hWz];exact hz4
 have hR2:=hR1.kp hK2 (by rw[hz5];omega)
 rw[HTop.out];rw[HPop.out] at hF2;generalize xaW (f.stack.take k) 0=self at *;generalize (f.stack.take k).dropLast=rest at *;have hbV:Below w2.heap.size w2 (w2.alloc (.cells #[.int .i64 self.k,.int .i64 self.n] 27)).drew:=(xaj _ _).drew;have hX3:=xao T2 w2 4;have hT5:∀ b,w2.heap.size<=b->xau T2 w2 4 b=4:=fun b hb=>xav hb
 have hM3:=(hM2.tagged0 4).later hbV;have hF3:=(hF2.tagged0 4).later hbV;have hL3:=hC.keep (hC.keep hL2 hX3 (Kp.refl (fun _=>False) _ _) id id) (.refl _ _) (Kp.of_below (S:=fun _=>False) hbV) id id
 have hA3:=(xdR hA2 xaK 4).fx xaK (.refl _ w2) (Kp.of_below (S:=fun _=>False) hbV) id
 have hR3:SdR w x (w2.alloc (.cells #[.int .i64 self.k,.int .i64 self.n] 27)).drew:=hR2.kp (T:=T2) (S:=fun _=>False) (Kp.of_below hbV) id
 have s0:(w2.alloc (.cells #[.int .i64 self.k,.int .i64 self.n] 27)).drew.cell? ⟨w2.heap.size,0,none⟩=some (.int .i64 self.k):=xaa w2 #[.int .i64 self.k,.int .i64 self.n] 27 _ rfl 0;have s1:(w2.alloc (.cells #[.int .i64 self.k,.int .i64 self.n] 27)).drew.cell? ⟨w2.heap.size,1,none⟩=some (.int .i64 self.n):=xaa w2 #[.int .i64 self.k,.int .i64 self.n] 27 _ rfl 1;have hz6:xau T2 w2 4 w.heap.size=4:=by rw[hX3 _ (qzE hWz (qzD hK1.size hK2.size))];exact hz5
 have hz7:xau T2 w2 4 w2.heap.size=4:=hT5 _ (qzC _);have HE3:Hid (Ext T (xau T2 w2 4) w):=((hX.trans hb1.size hX1).trans (qzD hb1.size (qzD hK1.size hK2.size)) hX3);have HK3:Hid (Kp (All K) T w (w2.alloc (.cells #[.int .i64 self.k,.int .i64 self.n] 27)).drew):=((((Kp.of_below (S:=All K) hb1).trans hX (hK1.mono fun t h=>Or.inr (Or.inr (Or.inr (by omega))))).trans (hX.trans hb1.size hX1) (hK2.mono fun t h=>Or.inr (Or.inr (Or.inr (by omega))))).on hbV)
 clear hM2 hF2 hL2 hA2 hR2 hM1 hF1 hL1 hA1 hR1 hM0 hF0 hL0 hR0 hK1 hK2 hX1 hb1 hz4 hz5;go_wp2;generalize xau T2 w2 4=T3 at *;generalize (w2.alloc (.cells #[.int .i64 self.k,.int .i64 self.n] 27))=V at *;have m7:=hM3.c7;have m1:=hM3.c1;rw[hC.lv] at m7;obtain⟨ch,rfl,hc1,hc2⟩:=hM3.heap.form;obtain⟨x0,x1,x2,x3,x4⟩:=id hR3
 have hsite:Calls Tryz.prog 115 #[.pointer (some ⟨fb,0,none⟩),.int .i64 a,IV x] V.drew fun e w'=>e=.returned (SV (f.site a x))/\Below V.drew.heap.size V.drew w':=by
  have:=xlz hF3 a x;rw[HSite.out] at this
  exact this
 have hcls:∀ w':World,Below V.drew.heap.size V.drew w'->Calls Tryz.prog 60 #[.slice (some ⟨g,0,none⟩) m.heap.length ch,VV self] w' fun e w''=>e=.returned (.int .i64 (xar m.heap self))/\Below w'.heap.size w' w'':=fun w' hb=>xel m.heap _ self w' ((hM3.heap.heap).later xaD hb)
 have hlook:∀ w':World,Below V.drew.heap.size V.drew w'->Calls Tryz.prog LF (#[SV (f.site a x),.int .i64 (xar m.heap self),.string x.name]++lc) w' _:=fun w' hb=>hC.look T3 w' m.st (f.site a x) (xar m.heap self) x.name (p.E.fuel-m.sz_).toNat (hC.keep (hC.mono hL3 (by unfold xc7;have:=hI.sz_;omega)) (.refl _ _) (Kp.of_below (S:=fun _=>False) hb) id id)
 obtain⟨c0,hc0⟩:∃ c0,c0=xar m.heap self:=⟨_,rfl⟩;obtain⟨st0,hst0⟩:∃ st0,st0=f.site a x:=⟨_,rfl⟩;rw[← hc0] at hlook HS hcls;rw[← hst0] at hlook HS hsite;have HST:=hid hst0;clear hc0 hst0;have hS0:V.drew.cell? ⟨mb,7,none⟩=some (.func (.func LF) #[] lc)/\V.drew.cell? ⟨mb,1,none⟩=some (.slice (some ⟨g,0,none⟩) m.heap.length ch)/\V.drew.cell? ⟨w.heap.size,0,none⟩=some (.int .i64 x.op)/\V.drew.cell? ⟨w.heap.size,1,none⟩=some (.int .i64 x.a)/\V.drew.cell? ⟨w.heap.size,2,none⟩=some (.int .i64 x.b)/\V.drew.cell? ⟨w.heap.size,3,none⟩=some (.int .i64 x.c)/\V.drew.cell? ⟨w.heap.size,4,none⟩=some (.string x.name)/\V.drew.cell? ⟨w2.heap.size,0,none⟩=some (.int .i64 self.k)/\V.drew.cell? ⟨w2.heap.size,1,none⟩=some (.int .i64 self.n):=⟨m7,m1,x0,x1,x2,x3,x4,s0,s1⟩
 have htm:¬ (T3 mb=3):=by rw[hM3.tag];omega
 have htx:¬ (T3 w.heap.size=3):=by rw[hz6];omega
 have hts:¬ (T3 w2.heap.size=3):=by rw[hz7];omega
 have hcf:=hC.lcf;have tokA:True:=trivial
 go_region_held3 (fun w'=>w'.cell? ⟨mb,7,none⟩=some (.func (.func LF) #[] lc)/\w'.cell? ⟨mb,1,none⟩=some (.slice (some ⟨g,0,none⟩) m.heap.length ch)/\w'.cell? ⟨w.heap.size,0,none⟩=some (.int .i64 x.op)/\w'.cell? ⟨w.heap.size,1,none⟩=some (.int .i64 x.a)/\w'.cell? ⟨w.heap.size,2,none⟩=some (.int .i64 x.b)/\w'.cell? ⟨w.heap.size,3,none⟩=some (.int .i64 x.c)/\w'.cell? ⟨w.heap.size,4,none⟩=some (.string x.name)/\w'.cell? ⟨w2.heap.size,0,none⟩=some (.int .i64 self.k)/\w'.cell? ⟨w2.heap.size,1,none⟩=some (.int .i64 self.n))
  (first | with_reducible exact hS0 | with_reducible exact hS1 | with_reducible exact hS2 | with_reducible exact hS3)
  (first
   | (have _t:=tokA;go_at_call 115;refine hsite.mono ?_;rintro e w3 ⟨rfl,hb3⟩;have hS1:=xo2 hS0 hb3;clear tokA;have tokB:True:=trivial)
   | (have _t:=tokB;go_at_call 60;refine (hcls _ hb3).mono ?_;rintro e w4 ⟨rfl,hb4⟩;have hS2:=xo2 hS1 hb4;have hb34:=xah hb3 hb4;clear tokB;have tokC:True:=trivial)
   | (have _t:=tokC;refine (hlook _ hb34).mono ?_;rintro e w5 ⟨rfl,⟨T5,hX5,hL5⟩,hK5⟩;have hS3:=xpe (xo2 hS0 hb34) hK5 htm htx hts;clear tokC))
 have hM5:=((hM3.later hb34).keep hX5 hK5 (by omega) (by omega) (by omega)).st (p.E.look m.st st0 c0 x.name).1
 have hF5:=(hF3.later hb34).keep hX5 hK5 (by omega) (by omega) (by omega) (by omega)
 have hA5:=(hA3.fx xaK (.refl _ _) (Kp.of_below (S:=fun _=>False) hb34) id).fx xaK hX5 hK5 (by omega)
 have HE5:=hid (HE3.out.trans (qzD HK3.out.size hb34.size) hX5);have HK5:=hid ((HK3.out.on hb34).trans HE3.out (hK5.mono (S':=All K) fun t h=>Or.inr (Or.inr (Or.inl h))))
 obtain⟨-,-,-,-,-,-,-,s0',s1'⟩:=hS3;clear hS0 hS1 hS2 m7 m1 x0 x1 x2 x3 x4 s0 s1 hsite hcls hlook hM3 hF3 hL3 hA3 hR3 hb3 hb4 hb34 hX5 hK5;generalize p.E.look m.st st0 c0 x.name=l at *;have hI5:MIn p.E { m with st:=l.1 }:=⟨hI.heap,hI.sz_,hI.turns⟩
 have hent:=hEn (K+3) T5 w5 mb _ _ _ _ l.2.1 l.2.2 self args _ (by omega) hM5 hL5 hI5 HSelf.out HArgs.out hA5
 generalize xa1 p.E d { m with st:=l.1 } l.2.1 l.2.2 self args=r at *
 go_wp2_with fail;refine hent.mono ?_;rintro e w6 ⟨rfl,⟨T6,hX6,⟨hv6,g6,s6,hM6⟩,hL6⟩,hK6⟩;have hF6:=hF5.keep hX6 hK6 (by unfold All;omega) (by unfold All;omega) (by unfold All;omega) (by unfold All;omega)
 have HE6:=hid (HE5.out.trans HK5.out.size hX6);have HK6:=hid (HK5.out.trans HE5.out (hK6.mono (S':=All K) fun t h=>by unfold All at *;omega))
 obtain⟨r1,v,er⟩:=r;simp only at HS hM6 hL6;clear hent hM5 hF5 hA5 hL5 hX6 hK6
 by_cases her:er=0
 ·subst her;rw[if_neg (by simp)] at HS
  rw[if_pos rfl] at hL6;have hbz:Below w6.heap.size w6 (w6.alloc (.cells #[.int .i64 v.k,.int .i64 v.n] 27)):=xaj _ _;have hM7:=hM6.later hbz;have hF7:=hF6.later hbz;have hL7:=hC.keep hL6 (.refl _ _) (Kp.of_below (S:=fun _=>False) hbz) id id
  have HK7:=hid (HK6.out.on hbz);clear hM6 hF6 hL6;go_wp2_with fail;refine (xdM hF7 v (by show rest.length<_;have:=HLen.out;omega)).mono ?_
  rintro e w8 ⟨rfl,⟨T8,sv8,hX8,hF8⟩,hK8⟩;have hM8:=hM7.keep hX8 hK8 (by omega) (by omega) (by omega)
  have hL8:=hC.keep hL7 hX8 hK8 (by omega) (by omega)
  have Q:Hid (StPost p L T w mb (20-(d:Int)) K fb (r1,{ f with stack:=rest++[v] },0) (.returned (.int .i64 0)) w8):=
   ⟨rfl,⟨T8,HE6.out.trans HK7.out.size hX8,⟨_,_,_,hM8⟩,by rw[if_pos rfl];exact hL8,fun _=>⟨_,_,_,_,_,hF8⟩⟩,HK7.out.trans HE6.out (hK8.mono fun t h=>by unfold All;omega)⟩
  clear hM7 hF7 hL7 hM8 hL8 hF8 hX8 hK8;go_wp2
  go_ret
  rw[HS.out]
  exact Q.out
 ·rw[if_pos her] at HS;rw[if_neg her] at hL6;have her':(er != 0)=true:=by simpa using her
  have Q:Hid (StPost p L T w mb (20-(d:Int)) K fb (r1,f,er) (.returned (.int .i64 er)) (w6.alloc (.cells #[.int .i64 v.k,.int .i64 v.n] 27))):=
   ⟨rfl,⟨T6,HE6.out,⟨_,_,_,hM6.later (xaj _ _)⟩,by rw[if_neg her];exact hC.keep hL6 (.refl _ _) (Kp.of_below (S:=fun _=>False) (xaj _ _)) id id,fun h=>absurd h her⟩,HK6.out.on (xaj _ _)⟩
  clear hM6 hF6 hL6;go_wp2
  go_ret
  rw[HS.out]
  exact Q.out
end
theorem xhc {P:Program}(w:World)(dT sT ty elem:TypeId)(sz g dl dCap:Nat)(sp:Option Addr)(sl sCap n:Nat)(cur:Array Value)(t:TypeId)(cs:List Value)
  (hu:P.underlying dT=some (.slice elem)) (hs:(P.info? elem).map (·.size)=some sz) (hg:w.heap[g]?=some (.cells cur t (0,0))) (hmn:Nat.min sl dl=n) (hn:cs.length=n*sz)
  (hsrc:∀ j v,cs[j]?=some v->∃ a,sp=some a/\w.cell? (a.add j)=some v) (hcur:cur.size=dl*sz) (h1:∀ v∈cs,v.oneCell'=true) :
  (Builtin.copy_ #[dT,sT] ty #[.slice (some ⟨g,0,none⟩) dl dCap,.slice sp sl sCap]).run P w=.ok (goInt n) (w.setRow g (cs++cur.toList.drop cs.length).toArray):=by
 cases hq:P.info? elem with
 | none=>simp[hq] at hs
 | some i=>
  have hi:i.size=sz:=by simpa [hq] using hs
  have hle:cs.length<=cur.size:=by rw[hn,hcur];exact Nat.mul_le_mul_right _ (by rw[← hmn];exact Nat.min_le_right _ _)
  have hst:=run_storeCells_at P g 0 t cs 0 cur w hg (by simp;omega) h1
  have hfc:(Builtin.firstCells sz n (.slice sp sl sCap)).run P w=.ok cs.toArray w:=by
   cases sp with
   | some a=>exact run_firstCells_some w sz n a sl sCap cs hn (fun j v hv=>by obtain⟨a',e,h⟩:=hsrc j v hv;cases e;exact h)
   | none=>
    have:cs=[]:=by
     cases cs with
     | nil=>rfl
     | cons c r=>obtain⟨a',e,_⟩:=hsrc 0 c rfl;cases e
    rw[this]
    exact run_firstCells_none w sz n sl sCap
  have e:(cur.toList.take (0+0)++cs++cur.toList.drop (0+0+cs.length)).toArray=(cs++cur.toList.drop cs.length).toArray:=by simp
  rw[e] at hst
  simp[Builtin.copy_,run_underlying hu,Builtin.lenOf,sizeOf,typeInfo,hq,hi,hmn,hfc,hst]
theorem xhL (n:Int)(l:List QV):xal ((xaQ n).zipIdx.map fun p=>(l[p.2]?).getD xaU)=(xal (l.take (Nat.min l.length (xaQ n).length)))++(xal (xaQ n)).drop (xal (l.take (Nat.min l.length (xaQ n).length))).length:=by
 unfold xaQ;generalize (min (max n 0) 40).toNat=k;rw[List.length_replicate,xbm,List.length_take,xe8,← xck]
 congr 1
 apply List.ext_getElem?
 intro j;simp only[List.getElem?_map,List.getElem?_zipIdx,List.getElem?_append,List.length_take,List.getElem?_take,List.getElem?_drop,List.getElem?_replicate,Nat.zero_add];have hmin:Nat.min l.length k=min l.length k:=rfl;rw[hmin]
 by_cases hj:j<k
 ·simp only[hj,if_true,Option.map_some]
  by_cases hl:j<l.length
  ·rw[if_pos (by omega),if_pos (by omega)]
   simp[hl]
  ·rw[if_neg (by omega),if_pos (by omega),List.getElem?_eq_none (by omega)]
   rfl
 ·simp only[hj,if_false,Option.map_none];rw[if_neg (by omega),if_neg (by omega)]
section
variable {T T':Nat->Nat} {K:Nat} {w w':World} {fb:Nat} {f:Fr} {cv av tv sv kv:Value}
theorem xml (h:w.heap[fb]?=some (FB f cv av tv sv kv))(tv':Value)(a:Int):((((w.setCell ⟨fb,11,none⟩ cv).setCell ⟨fb,9,none⟩ tv').setCell ⟨fb,12,none⟩ (.int .i64 a)).setCell ⟨fb,13,none⟩ (.bool false)).heap[fb]?=some (FB (f.leave a) cv av tv' sv cv):=by
 rw[xad (xad (xad (xad h _) _) _) _];rfl
theorem xgn (h:FrAt T K w fb f cv av tv sv kv)(a:Int):Calls Tryz.prog 116 #[.pointer (some ⟨fb,0,none⟩),.int .i64 a] w fun e w'=>e=.returned (.tuple #[])/\(∃ T' tv',Ext T T' w/\FrAt T' K w' fb (f.leave a) cv av tv' sv cv)/\Kp (fun t=>t=K) T w w':=by
 have hlt:=xaf h.box;have hp:=h.pos;have H:=hid h;have c3:w.cell? ⟨fb,3,none⟩=some (.int .i64 f.meth.temps):=by rw[qzB h.box];rfl
 obtain⟨tb,htv,ht2,ht3,ht4⟩:=h.temps;subst htv;obtain⟨ac,cc,hcv,-⟩:=id h.meth;subst hcv;clear h;go_enter Tryz.func116,Tryz.ntmps116;go_wp2_with fail;refine (xeR f.meth.temps _).mono ?_;rintro e w1 ⟨nb,rfl,hnb,hgt,hb1⟩;have hx1:=xac H.out.box hb1;have d9:w1.cell? ⟨fb,9,none⟩=some (.slice (some ⟨tb,0,none⟩) f.temps.length f.temps.length):=by rw[qzB hx1];rfl
 have htl:tb<w.heap.size:=xaf ht2;have ht1:=xac ht2 hb1
 have hcopy:=xhc (P:=Tryz.prog) w1 28 28 3 27 2 nb (xaQ f.meth.temps).length (xaQ f.meth.temps).length (some ⟨tb,0,none⟩) f.temps.length f.temps.length _ _ 27 (xal (f.temps.take (Nat.min f.temps.length (xaQ f.meth.temps).length))) Tryz.underlying28 (by kernel_rfl) hnb rfl (by rw[xbm,List.length_take];congr 1;exact Nat.min_eq_left (Nat.min_le_left _ _)) (fun j v hv=>⟨⟨tb,0,none⟩,rfl,by
  rw[← xdG,List.getElem?_take] at hv
  split at hv
  ·rw[show (⟨tb,0,none⟩:Addr).add j=⟨tb,j,none⟩ by simp[Addr.add];intro h;omega,qzB ht1]
   simpa using hv
  ·cases hv⟩) (by simp[xbm]) (xfV _)
 rw[List.toList_toArray,← xhL] at hcopy;have hne:nb≠fb:=by omega
 obtain⟨w2,n2,hcp,hn2,hx2,hk2⟩:∃ (w2:World) (n2:Nat),(Builtin.copy_ #[28,28] 3 #[.slice (some ⟨nb,0,none⟩) (xaQ f.meth.temps).length (xaQ f.meth.temps).length,.slice (some ⟨tb,0,none⟩) f.temps.length f.temps.length]).run Tryz.prog w1=.ok (goInt n2) w2/\w2.heap[nb]?=some (.cells (xal (f.leave a).temps).toArray 27 (0,0))/\(∀ b,b≠nb->w2.heap[b]?=w1.heap[b]?)/\Below w.heap.size w w2:=
  ⟨_,_,hcopy,setRow_heap w1 nb _ _ 27 (0,0) hnb,fun b hb=>setRow_other w1 nb b _ hb,below_setRow hb1 hgt _⟩
 clear hcopy;have hbx:w2.heap[fb]?=some (FB f (.slice ac f.meth.code.length cc) av (.slice (some ⟨tb,0,none⟩) f.temps.length f.temps.length) sv kv):=(hx2 fb hne.symm).trans hx1;have e5:w2.cell? ⟨fb,5,none⟩=some (.slice ac f.meth.code.length cc):=by rw[qzB hbx];rfl
 have e9:w2.cell? ⟨fb,9,none⟩=some (.slice (some ⟨tb,0,none⟩) f.temps.length f.temps.length):=by rw[qzB hbx];rfl
 have e11:w2.cell? ⟨fb,11,none⟩=some kv:=by rw[qzB hbx];rfl
 have e12:w2.cell? ⟨fb,12,none⟩=some (.int .i64 f.pc):=by rw[qzB hbx];rfl
 have e13:w2.cell? ⟨fb,13,none⟩=some (.bool f.fast):=by rw[qzB hbx];rfl
 have ef:=xam hbx;have HL:Hid ((xaQ f.meth.temps).length=(f.leave a).temps.length):=by show _=_;simp[Fr.leave]
 have HN2:=hid hn2;have HX2:=hid hx2;have HB:=hid hbx;have HB1:=hid hb1;have HK2:=hid hk2;have HGT:=hid hgt;clear ht2 c3 ht1 hnb hx1 hn2 hx2 hbx hb1 hk2 hgt ht4;generalize (xaQ f.meth.temps).length=rl at *;go_wp2;have hrl:=HL.out;subst hrl;have h:=H.out;have e:Ext T (xhE T nb (K+1)) w:=xd5 HGT.out;have k:Kp (fun t=>t=K) T w ((((w2.setCell ⟨fb,11,none⟩ (.slice ac f.meth.code.length cc)).setCell ⟨fb,9,none⟩ (.slice (some ⟨nb,0,none⟩) (f.leave a).temps.length (f.leave a).temps.length)).setCell ⟨fb,12,none⟩ (.int .i64 a)).setCell ⟨fb,13,none⟩ (.bool false)):=(((((Kp.of_below HK2.out).set (fun _=>h.tag) _ _).set (fun _=>h.tag) _ _).set (fun _=>h.tag) _ _).set (fun _=>h.tag) _ _)
 have hnb:((((w2.setCell ⟨fb,11,none⟩ (.slice ac f.meth.code.length cc)).setCell ⟨fb,9,none⟩ (.slice (some ⟨nb,0,none⟩) (f.leave a).temps.length (f.leave a).temps.length)).setCell ⟨fb,12,none⟩ (.int .i64 a)).setCell ⟨fb,13,none⟩ (.bool false)).heap[nb]?=some (.cells (xal (f.leave a).temps).toArray 27 (0,0)):=by
  rw[xab hne,xab hne,xab hne,xab hne]
  exact HN2.out
 refine bodyPost_end (v:=.tuple #[]) (by simp[results,Tryz.results116,go_sem]) rfl ⟨rfl,⟨xhE T nb (K+1),_,e,⟨xml HB.out _ a,by rw[e _ hlt];exact h.tag,h.args.fx xaK e k (by omega),⟨nb,rfl,hnb,xdv _ _ _,?_⟩,h.stack.keep fun g hg=>k.blk g (h.stack.lt g hg).2 (by rw[h.stag g hg];omega),fun g hg=>by rw[e _ (h.stack.lt g hg).2];exact h.stag g hg,h.few,h.meth.fx xbl e k (by omega),h.meth.fx xbl e k (by omega),hp⟩⟩,k⟩
 show (f.leave a).temps.length<=40
 have:=xet f.meth.temps
 simpa [Fr.leave] using this
end
end Go.Proofs.YtapbeiccodnniaaGreat
