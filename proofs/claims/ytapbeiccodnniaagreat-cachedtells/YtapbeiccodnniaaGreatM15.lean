/- A part. -/
import Derived.Test.YtapbeiccodnniaaGreatM14
namespace Go.Proofs.YtapbeiccodnniaaGreat
open Go.ChangeShapes Go.WideShapes Go.ChangeAt Go.RowKit
set_option linter.unusedSimpArgs false
set_option linter.unusedVariables false
set_option maxHeartbeats 8000000
set_option maxRecDepth 8000
section
variable {σ:Type} {p:Mp σ} {T T':Nat->Nat} {w w':World} {mb:Nat} {m m':Mc σ} {calls calls':Int} {hv:Value} {g:Nat} {s:Nat->Nat} {K fb:Nat} {f:Fr} {cv av tv sv kv:Value}
theorem xgr (h:w.heap[fb]?=some (FB f cv av tv sv kv))(n:Int):(w.setCell ⟨fb,12,none⟩ (.int .i64 n)).heap[fb]?=some (FB { f with pc:=n } cv av tv sv kv):=by
 rw[xad h];rfl
theorem FrAt.pcAt (h:FrAt T K w fb f cv av tv sv kv)(k:Kp (fun t=>t=K) T w w')(n:Int)(hb:w'.heap[fb]?=some (FB { f with pc:=n } cv av tv sv kv)):FrAt T K w' fb { f with pc:=n } cv av tv sv kv:=
 h.turn k hb rfl rfl rfl rfl h.stack h.stag h.few
theorem xi6 (h:MacAt p T w mb m calls hv g s)(hF:FrAt T K w fb f cv av tv sv kv)(a b:Int)(ht:0<=m.turns/\m.turns<=300):Calls Tryz.prog 108 #[.pointer (some ⟨mb,0,none⟩),.pointer (some ⟨fb,0,none⟩),.int .i64 a,.int .i64 b] w fun e w'=>e=.returned (.int .i64 (xaX m f a b).2.2)/\MacAt p T w' mb (xaX m f a b).1 calls hv g s/\FrAt T K w' fb (xaX m f a b).2.1 cv av tv sv kv/\Kp (fun t=>t=1\/t=K) T w w':=by
 have hp:=hF.pos;have c6:=h.c6;have cf:=xam h.box;have ff:=xam hF.box;have d12:w.cell? ⟨fb,12,none⟩=some (.int .i64 f.pc):=by rw[qzB hF.box];rfl
 have hne:¬ mb=fb:=fun e=>by have:=h.tag;rw[e,hF.tag] at this;omega
 have hne':¬ fb=mb:=fun e=>hne e.symm
 have H:=hid h;have HF:=hid hF;have kM:∀ w':World,Kp (fun t=>t=1) T w w'->FrAt T K w' fb f cv av tv sv kv:=fun w' k=>hF.keep (.refl _ _) k (by omega) (by omega) (by omega) (by omega)
 clear h hF
 by_cases hb:b<=a
 ·have hb':decide (b<=a)=true:=by simpa using hb
  have hw:IntKind.i64.wrap (m.turns+1)=m.turns+1:=xaE (by omega) (by omega)
  have k1:Kp (fun t=>t=1) T w (w.setCell ⟨mb,6,none⟩ (.int .i64 (m.turns+1))):=(Kp.refl _ _ _).set (fun _=>H.out.tag) _ _
  have m1:=H.out.turn (m':={ m with turns:=m.turns+1 }) (calls':=calls) k1 (xnT H.out.box _) rfl
  have f1:=kM _ k1
  by_cases h3:300<m.turns+1
  ·have HE:Hid (xaX m f a b=({ m with turns:=m.turns+1 },f,16)):=by show _=_;unfold xaX;simp only[hb,if_true];rw[if_pos h3]
   have h3':decide (300<m.turns+1)=true:=by simpa using h3
   have K1:=hid k1;have M1:=hid m1;have F1:=hid f1;clear k1 m1 f1 kM;go_enter Tryz.func108,Tryz.ntmps108;go_wp2
   go_ret
   rw[HE.out]
   exact⟨rfl,M1.out,F1.out,K1.out.mono fun t h=>Or.inl h⟩
  ·have HE:Hid (xaX m f a b=({ m with turns:=m.turns+1 },{ f with pc:=b },0)):=by show _=_;unfold xaX;simp only[hb,if_true];rw[if_neg h3]
   have h3':decide (300<m.turns+1)=false:=by simpa using h3
   have k2:Kp (fun t=>t=K) T (w.setCell ⟨mb,6,none⟩ (.int .i64 (m.turns+1))) ((w.setCell ⟨mb,6,none⟩ (.int .i64 (m.turns+1))).setCell ⟨fb,12,none⟩ (.int .i64 b)):=(Kp.refl _ _ _).set (fun _=>HF.out.tag) _ _
   have F2:=hid (f1.pcAt k2 b (xgr f1.box b));have M2:=hid (m1.keep (.refl _ _) k2 (by omega) (by omega) (by omega))
   have K2:=hid ((k1.mono (S':=fun t=>t=1\/t=K) fun t h=>Or.inl h).trans (.refl _ _) (k2.mono fun t h=>Or.inr h))
   clear k1 m1 f1 kM k2;go_enter Tryz.func108,Tryz.ntmps108;go_wp2
   go_ret
   rw[HE.out]
   exact⟨rfl,M2.out,F2.out,K2.out⟩
 ·have hb':decide (b<=a)=false:=by simpa using hb
  have HE:Hid (xaX m f a b=(m,{ f with pc:=b },0)):=by show _=_;unfold xaX;simp only[hb,if_false];rw[if_neg (by omega)]
  have h3':decide (300<m.turns)=false:=by simp;omega
  have k2:Kp (fun t=>t=K) T w (w.setCell ⟨fb,12,none⟩ (.int .i64 b)):=(Kp.refl _ _ _).set (fun _=>HF.out.tag) _ _
  have F2:=hid (HF.out.pcAt k2 b (xgr HF.out.box b));have M2:=hid (H.out.keep (.refl _ _) k2 (by omega) (by omega) (by omega))
  have K2:=hid (k2.mono (S':=fun t=>t=1\/t=K) fun t h=>Or.inr h)
  clear kM k2;go_enter Tryz.func108,Tryz.ntmps108;go_wp2
  go_ret
  rw[HE.out]
  exact⟨rfl,M2.out,F2.out,K2.out⟩
structure PvR (w:World)(a:QV)(w':World):Prop where
 a0:w'.cell? ⟨w.heap.size,0,none⟩=some (.int .i64 a.k)
 a1:w'.cell? ⟨w.heap.size,1,none⟩=some (.int .i64 a.n)
 r0:w'.cell? ⟨w.heap.size+1,0,none⟩=some (.int .i64 0)
 r1:w'.cell? ⟨w.heap.size+1,1,none⟩=some (.int .i64 0)
 rf:∀ o,w'.frozen? ⟨w.heap.size+1,o,none⟩=false
 sz:w.heap.size+2<=w'.heap.size
theorem PvR.later {w:World}{a:QV}{w' w'':World}(h:PvR w a w')(hb:∀ b,w.heap.size<=b->b<w'.heap.size->b<w.heap.size+2->w''.heap[b]?=w'.heap[b]?)(hz:w'.heap.size<=w''.heap.size):PvR w a w'':=by
 have hc:∀ b o v,w.heap.size<=b->b<w.heap.size+2->w'.cell? ⟨b,o,none⟩=some v->w''.cell? ⟨b,o,none⟩=some v:=fun b o v h1 h2 hv=>by
  have hl:=World.block_lt_of_cell? w' ⟨b,o,none⟩ hv;unfold World.cell? at hv ⊢;rw[hb b h1 hl h2];exact hv
 refine⟨hc _ _ _ (qzC _) (by omega) h.a0,hc _ _ _ (qzC _) (by omega) h.a1,hc _ _ _ (by omega) (by omega) h.r0,hc _ _ _ (by omega) (by omega) h.r1,fun o=>?_,qzD h.sz hz⟩
 have:=h.rf o;have hsz:=h.sz;unfold World.frozen? at this ⊢;simp only at this ⊢;rw[hb (w.heap.size+1) (by omega) (by omega) (by omega)];exact this
theorem xkp (w:World)(a:QV):PvR w a ((w.alloc (.cells #[.int .i64 a.k,.int .i64 a.n] 27)).alloc (.cells #[.int .i64 0,.int .i64 0] 27)):=by
 refine⟨qzA (xaj _ _) (xaa _ _ _ _ rfl 0),qzA (xaj _ _) (xaa _ _ _ _ rfl 1),xaa _ _ _ _ (by simp) 0,xaa _ _ _ _ (by simp) 1,fun o=>xam (cur:=#[.int .i64 0,.int .i64 0]) (t:=27) ?_ o,by simp⟩
 have:=qzJ (w.alloc (.cells #[.int .i64 a.k,.int .i64 a.n] 27)) (.cells #[.int .i64 0,.int .i64 0] 27)
 simpa using this
def xa7 (E:Env σ)(m:Mc σ)(pr:Int)(self:QV)(args:List QV):Mc σ × QV × Int:=if E.fuel<=m.sz_ then (m,xaU,13) else ({ m with sz_:=m.sz_+1 },xbA pr self (xaM args 0))
theorem MacAt.tagged0 (h:MacAt p T w mb m calls hv g s)(t:Nat):MacAt p (xau T w t) w mb m calls hv g s:=h.keep (S:=fun _=>False) (xao T w t) (Kp.refl _ _ _) id id id
theorem FrAt.tagged0 (h:FrAt T K w fb f cv av tv sv kv)(t:Nat):FrAt (xau T w t) K w fb f cv av tv sv kv:=h.keep (S:=fun _=>False) (xao T w t) (Kp.refl _ _ _) id id id id
theorem xdR {α:Type}{E:Lay α}{sz bytes:Nat}{v:Value}{xs:List α}(h:IsRow E sz bytes (Fx T w) w v xs)(G:Good E sz)(t:Nat):IsRow E sz bytes (Fx (xau T w t) w) w v xs:=h.fx G (xao T w t) (Kp.refl (fun _=>False) T w) id
theorem xgv (h:MacAt p T w mb m calls hv g s)(h0:0<=m.sz_)(h1:p.E.fuel<=9000000000000000000)(pr:Int)(self:QV)(args:List QV)(av:Value)(ha:xaB (Fx T w) w av args)(hs:self.k=3->-1073741824<=self.n/\self.n<=1073741824)(hb:(xaM args 0).k=3->-1073741824<=(xaM args 0).n/\(xaM args 0).n<=1073741824) :
  Calls Tryz.prog 78 #[.pointer (some ⟨mb,0,none⟩),.int .i64 pr,VV self,av] w fun e w'=>e=.returned (.tuple #[VV (xa7 p.E m pr self args).2.1,.int .i64 (xa7 p.E m pr self args).2.2])/\(∃ T',Ext T T' w/\MacAt p T' w' mb (xa7 p.E m pr self args).1 calls hv g s)/\Kp (fun t=>t=1) T w w':=by
 have hlt:=xaf h.box;have hR:=xkp w self;have hb2:=xca w (.cells #[.int .i64 self.k,.int .i64 self.n] 27) (.cells #[.int .i64 0,.int .i64 0] 27);have hM:=(h.tagged0 4).later hb2;have hA:=(xdR ha xaK 4).fx xaK (.refl _ w) (Kp.of_below (S:=fun _=>False) hb2) id
 have hX:=xao T w 4;have hT4:∀ b,w.heap.size<=b->xau T w 4 b=4:=fun b hb=>xav hb
 obtain⟨a,cap,rfl,-⟩:=id ha;clear ha h;generalize xau T w 4=T1 at *;go_enter Tryz.func78,Tryz.ntmps78
 go_upto_region 1 with (fail)
 generalize ((w.alloc (.cells #[.int .i64 self.k,.int .i64 self.n] 27)).alloc (.cells #[.int .i64 0,.int .i64 0] 27))=W at *;go_wp2_with fail;refine (xgb hM h0 h1).mono ?_;rintro e w1 ⟨rfl,hM1,hK1⟩;have hA1:=hA.fx xaK (.refl _ _) hK1 (by omega)
 have hR1:PvR w self w1:=hR.later (fun b hb1 hb2 hb3=>hK1.blk b hb2 (by rw[hT4 b hb1];omega)) hK1.size
 have KW:Hid (Kp (fun t=>t=1) T w w1):=hid (((Kp.of_below hb2).trans hX hK1))
 clear hK1 hA hR hM hb2
 by_cases hf:p.E.fuel<=m.sz_
 ·have HE:Hid (xa7 p.E m pr self args=(m,xaU,13)):=by show _=_;unfold xa7;rw[if_pos hf]
  rw[if_pos hf] at hM1 ⊢;obtain⟨a0,a1,r0,r1,rf,sz⟩:=hR1;go_wp2;refine qzK (v:=.tuple #[VV xaU,.int .i64 13]) ?_ rfl ⟨by rw[HE.out],?_,?_⟩
  ·simp[results,Tryz.results78,go_sem,r0,r1]
  ·rw[HE.out]
   exact⟨T1,hX,hM1.keep (.refl _ _) (((Kp.refl (fun t=>t=4) _ _).set (fun _=>hT4 _ (by omega)) _ _).set (fun _=>hT4 _ (by omega)) _ _) (by omega) (by omega) (by omega)⟩
  ·exact (KW.out.set (fun h=>absurd h (by omega)) _ _).set (fun h=>absurd h (by omega)) _ _
 ·have HE:Hid (xa7 p.E m pr self args=({ m with sz_:=m.sz_+1 },xbA pr self (xaM args 0))):=by show _=_;unfold xa7;rw[if_neg hf]
  rw[if_neg hf] at hM1 ⊢;have hq:=hR1.later (w'':=w1.drew) (fun b _ _ _=>rfl) (qzC _)
  have hA2:=hA1.later xaK (qzL _ w1).drew;have hM2:=hM1.later (qzL _ w1).drew;have hS0:w1.drew.cell? ⟨w.heap.size,0,none⟩=some (.int .i64 self.k)/\w1.drew.cell? ⟨w.heap.size,1,none⟩=some (.int .i64 self.n):=⟨hq.a0,hq.a1⟩;have KW2:=hid KW.out.drew;have HQ:=hid hq;have HM2:=hid hM2;have HS:=hid hs;have HBB:=hid hb;clear hA1 hR1 hM1 KW hq hM2 hs hb;have hlt1:w.heap.size≠w.heap.size+1:=by omega
  go_wp2;obtain⟨u,hu⟩:∃ u,u=xaM args 0:=⟨_,rfl⟩;rw[← hu] at HBB HE;have hent:Calls Tryz.prog 92 #[.slice a args.length cap,.int .i64 0] w1.drew fun e w'=>e=.returned (VV u)/\Below w1.drew.heap.size w1.drew w':=by rw[hu];exact xc0 args _ 0 _ hA2
  clear hu;obtain⟨v1,e1,hr⟩:∃ v1 e1,xbA pr self u=(v1,e1):=⟨_,_,rfl⟩;have hprim:∀ w,Calls Tryz.prog 91 #[.int .i64 pr,VV self,VV u] w fun e w'=>e=.returned (.tuple #[VV v1,.int .i64 e1])/\Below w.heap.size w w':=fun w=>by have:=xmi pr self u w HS.out HBB.out;rw[hr] at this;exact this
  rw[hr] at HE;clear hr HS HBB;have tokA:True:=trivial
  go_region_held3 (fun w'=>w'.cell? ⟨w.heap.size,0,none⟩=some (.int .i64 self.k)/\w'.cell? ⟨w.heap.size,1,none⟩=some (.int .i64 self.n))
   (first | with_reducible exact hS0 | with_reducible exact hS1 | with_reducible exact hS2 | exact⟨(qzI _ _ _ _ (by simp)).trans ((qzI _ _ _ _ (by simp)).trans hS2.1),(qzI _ _ _ _ (by simp)).trans ((qzI _ _ _ _ (by simp)).trans hS2.2)⟩)
   (first
    | (have _t:=tokA;go_at_call 92;refine hent.mono ?_;rintro e w2 ⟨rfl,hb2⟩;have hS1:=And.intro (qzA hb2 hS0.1) (qzA hb2 hS0.2);clear tokA;have tokB:True:=trivial)
    | (have _t:=tokB;go_at_call 91;refine (hprim _).mono ?_;rintro e w3 ⟨rfl,hb3⟩;have hb13:=xah hb2 hb3;have hq3:=HQ.out.later (fun b _ hl _=>hb13.block b hl) hb13.size;obtain⟨a0,a1,r0,r1,rf,sz⟩:=hq3;have hS2:=And.intro a0 a1;clear tokB))
  go_wp2;refine qzK (v:=.tuple #[VV v1,.int .i64 e1]) ?_ rfl ⟨by rw[HE.out],?_,?_⟩
  ·simp[results,Tryz.results78,go_sem,r0,r1]
  ·rw[HE.out]
   exact⟨T1,hX,(HM2.out.later hb13).keep (.refl _ _) (((Kp.refl (fun t=>t=4) _ _).set (fun _=>hT4 _ (by omega)) _ _).set (fun _=>hT4 _ (by omega)) _ _) (by omega) (by omega) (by omega)⟩
  ·exact ((KW2.out.on hb13).set (fun h=>absurd h (by omega)) _ _).set (fun h=>absurd h (by omega)) _ _
end
theorem xgR {P:Nat->Prop}(xs:List QV)(v:Value)(w:World)(hh:xaB P w v xs):Calls Tryz.prog 72 #[v] w fun e w'=>∃ g,e=.returned (.slice (some ⟨g,0,none⟩) xs.length xs.length)/\w'.heap[g]?=some (.cells (xal xs).toArray 27 (0,0))/\w.heap.size<=g/\Below w.heap.size w w':=by
 obtain⟨ad,cap,rfl,hl,hcap,hby,hrow⟩:=hh;have hmk:=xcA xs.length hby;obtain⟨cs,hcs,hsrc⟩:=hrow.cells xaK
 obtain⟨w1,hcp,h2,h3⟩:=xb5 (P:=Tryz.prog) (w.alloc (.cells (madeCells #[.int .i64 0,.int .i64 0] (xs.length*2)) 27)) 28 28 3 27 2 w.heap.size xs.length xs.length ad cap (madeCells #[.int .i64 0,.int .i64 0] (xs.length*2)) 27 cs Tryz.underlying28 xni (qzJ w _) hcs.1
  (fun j v hj=>by obtain⟨a,e,h⟩:=hsrc j v hj;exact⟨a,e,qzA (xaj _ _) h⟩) (size_madeCells _ _) (hcs.all xaK)
 have HB:=h3 w.heap.size w (xaj _ _) (qzC _);have HV:Hid (w1.heap[w.heap.size]?=some (.cells (xal xs).toArray 27 (0,0))):=by show _=_;rw[← xco (E:=()) hcs];exact h2
 clear h2 h3 hrow hcs hsrc;go_enter Tryz.func72,Tryz.ntmps72;go_wp2
 go_ret
 exact⟨_,rfl,HV.out,qzC _,HB⟩
theorem xjt {P:Nat->Prop}(x:QM)(v:Value)(w:World)(hh:xa5 P w v x.code):Calls Tryz.prog 71 #[MV x v] w fun e w'=>∃ a c,e=.returned (MV x (.slice a x.code.length c))/\xa5 (xpc w w') w' (.slice a x.code.length c) x.code/\Below w.heap.size w w':=by
 obtain⟨ad,cap,rfl,hl,hcap,hby,hrow⟩:=hh;have hmk:=xj4 x.code.length hby;obtain⟨cs,hcs,hsrc⟩:=hrow.cells xbl;have hs0:((w.alloc (.cells #[.string x.name,.int .i64 x.args,.int .i64 x.temps,.int .i64 x.prim,.slice ad x.code.length cap] 59)).alloc (.cells #[.string ⟨#[]⟩,.int .i64 0,.int .i64 0,.int .i64 0,.slice none 0 0] 59)).heap.size=w.heap.size+1+1:=by simp
 obtain⟨w1,hcp,h2,h3⟩:=xb5 (P:=Tryz.prog) (((w.alloc (.cells #[.string x.name,.int .i64 x.args,.int .i64 x.temps,.int .i64 x.prim,.slice ad x.code.length cap] 59)).alloc (.cells #[.string ⟨#[]⟩,.int .i64 0,.int .i64 0,.int .i64 0,.slice none 0 0] 59)).alloc (.cells (madeCells #[.int .i64 0,.int .i64 0,.int .i64 0,.int .i64 0,.string ⟨#[]⟩] (x.code.length*5)) 76)) 57 57 3 76 5 _ x.code.length x.code.length ad cap (madeCells #[.int .i64 0,.int .i64 0,.int .i64 0,.int .i64 0,.string ⟨#[]⟩] (x.code.length*5)) 76 cs Tryz.underlying57 xmZ (qzJ _ _) hcs.1
  (fun j v hj=>by obtain⟨a,e,h⟩:=hsrc j v hj;exact⟨a,e,qzA (xfv _ _ _ _) h⟩) (size_madeCells _ _) (hcs.all xbl)
 have HB:=h3 _ _ (xaj _ _) (qzC _);have HC:Hid (Cells xe2 5 P w cs x.code):=hcs;rw[hs0] at hcp h2;have h2':=xaf h2;have H2:Hid (w1.heap[w.heap.size+1+1]?=some (.cells cs.toArray 76 (0,0))):=h2;obtain⟨hc,hf⟩:=xhH HB;have hst:∀ v,(w1.setCell ⟨w.heap.size,4,none⟩ v).cell? ⟨w.heap.size,4,none⟩=some v:=fun v=>xcn (v:=.slice ad x.code.length cap) (by rw[hc _ _ (by simp;omega)];simp) v
 have HB':Below w.heap.size w w1:=(xca _ _ _).trans (HB.mono (by simp;omega))
 clear h2 h3 hrow hcs hsrc HB hs0;go_enter Tryz.func71,Tryz.ntmps71;go_wp2;refine qzK (v:=MV x (.slice (some ⟨w.heap.size+1+1,0,none⟩) x.code.length x.code.length)) ?_ rfl ⟨_,_,rfl,?_,?_⟩
 ·simp[results,Tryz.results71,go_sem,hc]
 ·refine IsRow.keep xbl (w:=w1) (P:=fun b=>w.heap.size+1+1<=b/\b<w1.heap.size) ?_ ?_ ?_
  ·exact Cells.row (E:=xe2) (sz:=5) (cs:=cs) ⟨HC.out.1,HC.out.2⟩ xbl ⟨by omega,h2'⟩ H2.out (by simp;rw[List.take_of_length_le];rw[HC.out.1];exact qzC _) (qzC _) (by unfold maxLen;omega) hby
  ·exact xaq (xaq (xaq (xaq (xaq (xaq (Keeps.refl _ _) (fun h=>by have:=h.1;omega) _) (fun h=>by have:=h.1;omega) _) (fun h=>by have:=h.1;omega) _) (fun h=>by have:=h.1;omega) _) (fun h=>by have:=h.1;omega) _) (fun h=>by have:=h.1;omega) _
  ·rintro b ⟨h1,h2⟩;exact⟨by omega,by simpa [xbg] using h2⟩
 ·exact ((((((HB'.setCell (by simp) _).setCell (by simp) _).setCell (by simp) _).setCell (by simp) _).setCell (by simp) _).setCell (by simp) _)
theorem xfB {P:Nat->Prop}(xs:List QM)(v:Value)(w:World)(hh:xbd P w v xs):Calls Tryz.prog 56 #[v] w fun e w'=>∃ g,e=.returned (.slice (some ⟨g,0,none⟩) xs.length xs.length)/\OwnSt xeE 5 59 w' g xs xs.length/\w.heap.size<=g/\Below w.heap.size w w':=by
 obtain⟨ad,cap,rfl,hl,hcap,hby,hrow⟩:=hh;have hmk:=xje xs.length hby;go_enter Tryz.func56,Tryz.ntmps56;go_wp2
 go_loopg [11] xs.length (fun g c wr=>∃ j:Nat,j+g=xs.length/\c=.int .i64 j/\Below w.heap.size w wr/\OwnSt xeE 5 59 wr w.heap.size xs j/\w.heap.size<wr.heap.size)
 case atStart=>exact⟨0,by omega,rfl,xaj _ _,OwnSt.start _ _ (size_madeCells _ _),by simp⟩
 case round=>
  obtain⟨j,hj,rfl,hbel,hst,hz⟩:=hrel;clear hmk
  by_cases hlt:j<xs.length
  ·obtain⟨b,o,rfl,-,hv0,hv1,hv2,hv3,hsz,sv,hv4,hsl⟩:=hrow j xs[j] (by simp[hlt])
   have hxj:Hid (xs[j]?=some xs[j]):=by show _=_;simp[hlt]
   generalize xs[j]=x at *;simp only[Nat.add_zero] at hv0;have u0:=qzA hbel hv0;have u1:=qzA hbel hv1;have u2:=qzA hbel hv2;have u3:=qzA hbel hv3;have u4:=qzA hbel hv4;have hsl2:=hsl.later xbl hbel;obtain⟨ad2,cap2,rfl,-,-,-,-⟩:=id hsl2;clear hv0 hv1 hv2 hv3 hv4 hsl hrow;have hj1:(j:Int)<(xs.length:Int):=by omega
   have hj0:(0:Int)<=(j:Int):=by omega
   go_wp2_with fail;refine (xjt x _ _ (hsl2.later xbl (xaj _ _))).mono ?_;rintro e w1 ⟨a',c',rfl,hcv,hb⟩;have hb0:=hbel;replace hst:=(hst.later xbi (xaj _ _)).later xbi hb;replace hbel:=xbz hbel hb;have hz1:wr.heap.size+1<=w1.heap.size:=by have:=hb.size;simpa using this
   obtain⟨⟨cur,k1,k2⟩,k3⟩:=id hst;have f1:∀ o,w1.frozen? ⟨w.heap.size,o,none⟩=false:=fun o=>(by simp[World.frozen?,k1])
   have e0:w1.cell? ⟨w.heap.size,j*5,none⟩=some (cur[j*5]'(by omega)):=(by rw[qzB k1];simp)
   have e1:w1.cell? ⟨w.heap.size,j*5+1,none⟩=some (cur[j*5+1]'(by omega)):=(by rw[qzB k1];simp)
   have e2:w1.cell? ⟨w.heap.size,j*5+2,none⟩=some (cur[j*5+2]'(by omega)):=(by rw[qzB k1];simp)
   have e3:w1.cell? ⟨w.heap.size,j*5+3,none⟩=some (cur[j*5+3]'(by omega)):=(by rw[qzB k1];simp)
   have e4:w1.cell? ⟨w.heap.size,j*5+4,none⟩=some (cur[j*5+4]'(by omega)):=(by rw[qzB k1];simp)
   go_wp2
   go_roundg (gk-1)
   case measure=>omega
   case rel=>
    refine⟨j+1,by omega,by go_num,((((hbel.setCell (qzC _) _).setCell (qzC _) _).setCell (qzC _) _).setCell (qzC _) _).setCell (qzC _) _,?_,by simp;omega⟩
    refine hst.step xbi hxj.out (vs:=[.string x.name,.int .i64 x.args,.int .i64 x.temps,.int .i64 x.prim,.slice a' x.code.length c']) rfl ?_
    exact⟨rfl,rfl,rfl,rfl,hsz,_,rfl,hcv.mono xbl fun b h=>⟨by have:=h.1;simp at this;omega,h.2⟩⟩
  ·obtain rfl:j=xs.length:=by omega
   go_wp2
   go_ret
   exact⟨_,rfl,hst,qzC _,hbel⟩
structure HRow (w:World)(B:Nat)(s:Nat->Nat)(xs:List QO)(j:Nat):Prop where
 row:∃ cur:Array Value,w.heap[B]?=some (.cells cur 64 (0,0))/\cur.size=xs.length*2
 obj:∀ i x,i<j->xs[i]?=some x->w.cell? ⟨B,i*2,none⟩=some (.int .i64 x.cls)/\w.cell? ⟨B,i*2+1,none⟩=some (.slice (some ⟨s i,0,none⟩) x.slots.length x.slots.length)/\w.heap[s i]?=some (.cells (xal x.slots).toArray 27 (0,0))/\B<s i/\x.slots.length*16<=140737488351232
 inc:∀ i k,i<k->k<j->s i<s k
 lt:∀ i,i<j->s i<w.heap.size
theorem HRow.later {w w':World}{B:Nat}{s:Nat->Nat}{xs:List QO}{j:Nat}(h:HRow w B s xs j)(hb:Below w.heap.size w w'):HRow w' B s xs j:=by
 obtain⟨⟨cur,h1,h2⟩,h3,h4,h5⟩:=h;refine⟨⟨cur,by rw[hb.block _ (xaf h1)];exact h1,h2⟩,fun i x hi hx=>?_,h4,fun i hi=>qzE (h5 i hi) hb.size⟩
 obtain⟨e1,e2,e3,e4,e5⟩:=h3 i x hi hx
 exact⟨qzA hb e1,qzA hb e2,by rw[hb.block _ (xaf e3)];exact e3,e4,e5⟩
theorem HRow.start {w:World}(s:Nat->Nat)(xs:List QO)(c:Array Value)(hc:c.size=xs.length*2):HRow (w.alloc (.cells c 64)) w.heap.size s xs 0:=
 ⟨⟨c,qzJ w _,hc⟩,fun i x hi _=>by omega,fun i k _ hk=>by omega,fun i hi=>by omega⟩
theorem HRow.step {w:World}{B:Nat}{s:Nat->Nat}{xs:List QO}{j g:Nat}{x:QO}(h:HRow w B s xs j)(hx:xs[j]?=some x)(hg:w.heap[g]?=some (.cells (xal x.slots).toArray 27 (0,0)))(hB:B<g)(hs:∀ i,i<j->s i<g)(hby:x.slots.length*16<=140737488351232) :
  HRow (w.setCells B (j*2) [.int .i64 x.cls,.slice (some ⟨g,0,none⟩) x.slots.length x.slots.length]) B (fun i=>if i=j then g else s i) xs (j+1):=by
 obtain⟨⟨cur,h1,h2⟩,h3,h4,h5⟩:=h;have hj:=xae hx;refine⟨xbJ _ _ w ⟨cur,h1,h2⟩,fun i y hi hy=>?_,fun i k hi hk=>?_,fun i hi=>?_⟩
 ·by_cases hij:i=j
  ·subst hij;rw[hx] at hy
   cases hy
   have hc:=fun k (hk:k<2)=>World.cell?_setCells_in B [.int .i64 x.cls,.slice (some ⟨g,0,none⟩) x.slots.length x.slots.length] (i*2) w (fun q hq=>by rw[qzB h1];simp at hq ⊢;omega) k hk
   simp only[if_true]
   exact⟨hc 0 (by omega),hc 1 (by omega),by rw[xaI (by omega)];exact hg,hB,hby⟩
  ·obtain⟨e1,e2,e3,e4,e5⟩:=h3 i y (by omega) hy
   have ho:=fun k (hk:k<2)=>World.cell?_setCells_out B [.int .i64 x.cls,.slice (some ⟨g,0,none⟩) x.slots.length x.slots.length] (j*2) w ⟨B,i*2+k,none⟩ (fun _ _=>Or.inl (by simp;omega))
   simp only[hij,if_false]
   exact⟨(ho 0 (by omega)).trans e1,(ho 1 (by omega)).trans e2,by rw[xaI (by omega)];exact e3,e4,e5⟩
 ·by_cases hkj:k=j
  ·simp only[hkj,if_true,show i≠j by omega,if_false];exact hs i (by omega)
  ·simp only[hkj,if_false,show i≠j by omega];exact h4 i k hi (by omega)
 ·rw[xbh]
  by_cases hij:i=j
  ·simp only[hij,if_true];exact xaf hg
  ·simp only[hij,if_false];exact h5 i (by omega)
theorem HRow.setLow {w:World}{B d:Nat}{s:Nat->Nat}{xs:List QO}{j:Nat}(h:HRow w B s xs j)(hd:d<B)(o:Nat)(v:Value):HRow (w.setCell ⟨d,o,none⟩ v) B s xs j:=by
 obtain⟨⟨cur,h1,h2⟩,h3,h4,h5⟩:=h;refine⟨⟨cur,by rw[xab (by omega)];exact h1,h2⟩,fun i x hi hx=>?_,h4,fun i hi=>by rw[xbg];exact h5 i hi⟩
 obtain⟨e1,e2,e3,e4,e5⟩:=h3 i x hi hx;have k:=fun (o':Nat)=>qzI w ⟨d,o,none⟩ ⟨B,o',none⟩ v (by simp;omega)
 exact⟨(k _).trans e1,(k _).trans e2,by rw[xab (by omega)];exact e3,e4,e5⟩
theorem HRow.heap {w:World}{g:Nat}{s:Nat->Nat}{xs:List QO}(h:HRow w g s xs xs.length)(hby:xs.length*32<=140737488351232){T:Nat->Nat}(hT:∀ b,g<=b->b<w.heap.size->T b=2):HeapSt T w (.slice (some ⟨g,0,none⟩) xs.length xs.length) g s xs:=by
 obtain⟨⟨cur,h1,h2⟩,h3,h4,h5⟩:=h;refine⟨⟨_,rfl,qzC _,by unfold maxLen;omega⟩,hby,xaf h1,hT g (qzC _) (xaf h1),fun i x hx=>?_,fun i j hi hj e=>?_⟩
 ·obtain⟨e1,e2,e3,e4,e5⟩:=h3 i x (xae hx) hx
  exact⟨e1,e2,e3,hT _ (by omega) (xaf e3),by omega,e5⟩
 ·rcases Nat.lt_trichotomy i j with h | h | h
  ·have:=h4 i j h hj;omega
  ·exact h
  ·have:=h4 j i h hi;omega
theorem xiZ {P:Nat->Prop}(hs:List QO)(v:Value)(w:World)(hh:xaC P w v hs):Calls Tryz.prog 57 #[v] w fun e w'=>∃ g s,e=.returned (.slice (some ⟨g,0,none⟩) hs.length hs.length)/\HRow w' g s hs hs.length/\w.heap.size<=g/\Below w.heap.size w w':=by
 obtain⟨ad,cap,rfl,hl,hcap,hby,hrow⟩:=hh;have hmk:=xkH hs.length hby;go_enter Tryz.func57,Tryz.ntmps57;go_wp2
 go_loopg [11] hs.length (fun g c wr=>∃ j:Nat,j+g=hs.length/\c=.int .i64 j/\Below w.heap.size w wr/\(∃ s,HRow wr w.heap.size s hs j)/\w.heap.size<wr.heap.size)
 case atStart=>exact⟨0,by omega,rfl,xaj _ _,⟨fun _=>0,HRow.start _ _ _ (size_madeCells _ _)⟩,by simp⟩
 case round=>
  obtain⟨j,hj,rfl,hbel,⟨s,hst⟩,hz⟩:=hrel;clear hmk
  by_cases hlt:j<hs.length
  ·obtain⟨b,o,rfl,-,hv1,sv,hv2,hsl⟩:=hrow j hs[j] (by simp[hlt])
   simp only[Nat.add_zero] at hv1;have hxj:Hid (hs[j]?=some hs[j]):=by show _=_;simp[hlt]
   generalize hs[j]=x at *;have u1:=qzA hbel hv1;have u2:=qzA hbel hv2;have hsl2:=hsl.later xaK hbel;obtain⟨ad2,cap2,rfl,hl2,hcap2,hby2,hrow2⟩:=id hsl2;clear hv1 hv2 hsl hrow2;have hj1:(j:Int)<(hs.length:Int):=by omega
   have hj0:(0:Int)<=(j:Int):=by omega
   go_wp2;have hW1:Below wr.heap.size wr (wr.alloc (Obj.cells #[Value.int .i64 x.cls,Value.slice ad2 x.slots.length cap2] 64)).drew:=(xaj _ _).drew;have hIV:=hsl2.later xaK hW1;have hst1:=hst.later hW1;have hbel1:=hbel.trans (hW1.mono (by omega))
   have c1:(wr.alloc (Obj.cells #[Value.int .i64 x.cls,Value.slice ad2 x.slots.length cap2] 64)).drew.cell? ⟨wr.heap.size,0,none⟩=some (Value.int .i64 x.cls):=by simp
   have c2:(wr.alloc (Obj.cells #[Value.int .i64 x.cls,Value.slice ad2 x.slots.length cap2] 64)).drew.cell? ⟨wr.heap.size,1,none⟩=some (Value.slice ad2 x.slots.length cap2):=by simp
   have hzz:(wr.alloc (Obj.cells #[Value.int .i64 x.cls,Value.slice ad2 x.slots.length cap2] 64)).drew.heap.size=wr.heap.size+1:=by simp
   clear hsl2 u1 u2 hrow
   go_region_held3 (fun w'=>w'.cell? ⟨wr.heap.size,0,none⟩=some (Value.int .i64 x.cls)/\w'.cell? ⟨wr.heap.size,1,none⟩=some (Value.slice ad2 x.slots.length cap2)) (first | exact⟨c1,c2⟩ | exact⟨d1,d2⟩ | exact⟨(qzM _ _ _ _ (by first | (simp;done) | (simp;omega))).trans ((qzM _ _ _ _ (by first | (simp;done) | (simp;omega))).trans d1),(qzM _ _ _ _ (by first | (simp;done) | (simp;omega))).trans ((qzM _ _ _ _ (by first | (simp;done) | (simp;omega))).trans d2)⟩)
    (first | (go_at_call 72;refine (xgR x.slots _ _ hIV).mono ?_;rintro e w1 ⟨g',rfl,hg2,hgl,hb1⟩;have hst2:=hst1.later hb1;obtain⟨cur,k1,k2⟩:=hst2.row;have f1:∀ o,w1.frozen? ⟨w.heap.size,o,none⟩=false:=fun o=>(by simp[World.frozen?,k1]);have d1:=qzA hb1 c1;have d2:=qzA hb1 c2;have e1:w1.cell? ⟨w.heap.size,j*2,none⟩=some (cur[j*2]'(by omega)):=(by rw[qzB k1];simp);have e2:w1.cell? ⟨w.heap.size,j*2+1,none⟩=some (cur[j*2+1]'(by omega)):=(by rw[qzB k1];simp)))
   go_wp2
   go_roundg (gk-1)
   case measure=>omega
   case rel=>
    have hlt1:w.heap.size<w1.heap.size:=qzE (by omega) hb1.size
    refine⟨j+1,by omega,by go_num,((hbel1.trans (hb1.mono (by omega))).setCell (qzC _) _).setCell (qzC _) _,?_,by simp;omega⟩
    have hg3:wr.heap.size+1<=g':=by rw[hzz] at hgl;exact hgl
    exact⟨_,hst2.step hxj.out hg2 (by omega) (fun i hi=>by have:=hst.lt i hi;omega) hby2⟩
  ·obtain rfl:j=hs.length:=by omega
   go_wp2
   go_ret
   exact⟨_,s,rfl,hst,qzC _,hbel⟩
theorem xn4 {P:Nat->Prop}(X:QW)(cv hv:Value)(w:World)(h1:xai P w cv X.cz)(h2:xaC P w hv X.heap):Calls Tryz.prog 42 #[WV cv hv X.ez] w fun e w'=>∃ g gh s,e=.returned (WV (.slice (some ⟨g,0,none⟩) X.cz.length X.cz.length) (.slice (some ⟨gh,0,none⟩) X.heap.length X.heap.length) X.ez)/\OwnC w' g X.cz s X.cz.length/\
  (∃ sh,HRow w' gh sh X.heap X.heap.length)/\s X.cz.length<=gh/\w.heap.size<=g/\Below w.heap.size w w':=by
 obtain⟨ad,cap,rfl,hl,hcap,hby,hrow⟩:=h1;obtain⟨adh,caph,rfl,hlh,hcaph,hbyh,hrowh⟩:=id h2;have hmk:=xgZ X.cz.length hby;go_enter Tryz.func42,Tryz.ntmps42;go_wp2;have hW:=xfv w (Obj.cells #[Value.slice ad X.cz.length cap,Value.slice adh X.heap.length caph,Value.int .i64 X.ez] 25) (Obj.cells #[Value.slice none 0 0,Value.slice none 0 0,Value.int .i64 0] 25) (Obj.cells (madeCells #[Value.string { data:=#[] },Value.int .i64 0,Value.int .i64 0,Value.slice none 0 0] (X.cz.length*4)) 54);have hS0:=OwnC.start ((w.alloc (Obj.cells #[Value.slice ad X.cz.length cap,Value.slice adh X.heap.length caph,Value.int .i64 X.ez] 25)).alloc (Obj.cells #[Value.slice none 0 0,Value.slice none 0 0,Value.int .i64 0] 25)) X.cz (madeCells #[Value.string { data:=#[] },Value.int .i64 0,Value.int .i64 0,Value.slice none 0 0] (X.cz.length*4)) (size_madeCells _ _)
 rw[show ((w.alloc (Obj.cells #[Value.slice ad X.cz.length cap,Value.slice adh X.heap.length caph,Value.int .i64 X.ez] 25)).alloc (Obj.cells #[Value.slice none 0 0,Value.slice none 0 0,Value.int .i64 0] 25)).heap.size=w.heap.size+1+1 by simp] at hS0
 go_loopg [13] X.cz.length (fun g c wr=>∃ j:Nat,j+g=X.cz.length/\c=.int .i64 j/\Below (w.heap.size+1+1) ((w.alloc (Obj.cells #[Value.slice ad X.cz.length cap,Value.slice adh X.heap.length caph,Value.int .i64 X.ez] 25)).alloc (Obj.cells #[Value.slice none 0 0,Value.slice none 0 0,Value.int .i64 0] 25)) wr/\∃ s,OwnC wr (w.heap.size+1+1) X.cz s j)
 case atStart=>exact⟨0,by omega,rfl,(qzL _ _).alloc (by simp) _,_,hS0⟩
 case round=>
  obtain⟨j,hj,rfl,hbel,s,hst⟩:=hrel;clear hmk hS0;have hbw:Below w.heap.size w wr:=(xca _ _ _).trans (hbel.mono (by omega))
  have hz:w.heap.size+1+1<wr.heap.size:=by obtain⟨⟨cur,k,-⟩,-⟩:=hst;exact xaf k
  by_cases hlt:j<X.cz.length
  ·obtain⟨b,o,rfl,-,hv0,hv1,hv2,hsz,sv,hv4,hsl⟩:=hrow j X.cz[j] (by simp[hlt])
   have hxj:Hid (X.cz[j]?=some X.cz[j]):=by show _=_;simp[hlt]
   generalize X.cz[j]=x at *;simp only[Nat.add_zero] at hv0;have u0:=qzA hbw hv0;have u1:=qzA hbw hv1;have u2:=qzA hbw hv2;have u4:=qzA hbw hv4;have hsl2:=hsl.later xbi hbw;obtain⟨ad2,cap2,rfl,-,-,hby2,-⟩:=id hsl2;clear hv0 hv1 hv2 hv4 hsl hrow;have hj1:(j:Int)<(X.cz.length:Int):=by omega
   have hj0:(0:Int)<=(j:Int):=by omega
   go_wp2_with fail;refine (xfB x.mz _ _ (hsl2.later xbi (xaj _ _))).mono ?_;rintro e w1 ⟨g',rfl,hM,hg',hb⟩;obtain⟨hc,hf⟩:=xhH hb;have h5:s j<=wr.heap.size:=hst.2.2.2.1;replace hst:=(hst.later (xaj _ _)).later hb;have hg2:wr.heap.size+1<=g':=by simpa using hg'
   have hz1:wr.heap.size+1<=w1.heap.size:=by have:=hb.size;simpa using this
   replace hst:=hst.set h5 3 (.slice (some ⟨g',0,none⟩) x.mz.length x.mz.length);replace hM:=hM.set (d:=wr.heap.size) xbi (by omega) 3 (.slice (some ⟨g',0,none⟩) x.mz.length x.mz.length)
   have hz2:(w1.setCell ⟨wr.heap.size,3,none⟩ (.slice (some ⟨g',0,none⟩) x.mz.length x.mz.length)).heap.size=w1.heap.size:=by simp
   have d3:(w1.setCell ⟨wr.heap.size,3,none⟩ (.slice (some ⟨g',0,none⟩) x.mz.length x.mz.length)).cell? ⟨wr.heap.size,3,none⟩=some (.slice (some ⟨g',0,none⟩) x.mz.length x.mz.length):=xcn (v:=.slice ad2 x.mz.length cap2) (by rw[hc _ _ (by simp)];simp) _
   obtain⟨⟨cur,k1,k2⟩,k3⟩:=id hst;have f1:∀ o,(w1.setCell ⟨wr.heap.size,3,none⟩ (.slice (some ⟨g',0,none⟩) x.mz.length x.mz.length)).frozen? ⟨w.heap.size+1+1,o,none⟩=false:=fun o=>(by simp only[World.frozen?,k1];simp)
   have f2:∀ o,w1.frozen? ⟨w.heap.size+1+1,o,none⟩=false:=fun o=>(by rw[← World.frozen?_setCell (a:=⟨wr.heap.size,3,none⟩) (v:=(.slice (some ⟨g',0,none⟩) x.mz.length x.mz.length))];exact f1 o)
   have ex:∀ o,o<X.cz.length*4->∃ u,w1.cell? ⟨w.heap.size+1+1,o,none⟩=some u:=fun o ho=>by
    have:=qzI w1 ⟨wr.heap.size,3,none⟩ ⟨w.heap.size+1+1,o,none⟩ (.slice (some ⟨g',0,none⟩) x.mz.length x.mz.length) (by simp;omega)
    rw[qzB k1] at this
    exact⟨cur[o]'(by omega),by rw[← this];simp⟩
   obtain⟨y0,e0⟩:=ex (j*4) (by omega)
   obtain⟨y1,e1⟩:=ex (j*4+1) (by omega)
   obtain⟨y2,e2⟩:=ex (j*4+2) (by omega)
   obtain⟨y3,e3⟩:=ex (j*4+3) (by omega)
   have hne:¬ wr.heap.size=w.heap.size+1+1:=by omega
   have hne':¬ w.heap.size+1+1=wr.heap.size:=by omega
   clear k1 k2 k3;go_wp2
   go_roundg (gk-1)
   case measure=>omega
   case rel=>
    obtain⟨s',hs'⟩:=hst.step hxj.out hsz (by omega) hM hby2
    refine⟨j+1,by omega,by go_num,?_,s',hs'⟩
    exact (((((hbel.trans (((xaj _ _).trans (hb.mono (by simp))).mono (by omega))).setCell (by simp;omega) _).setCell (by simp) _).setCell (by simp) _).setCell (by simp) _).setCell (by simp) _
  ·obtain rfl:j=X.cz.length:=by omega
   have q1:wr.drew.cell? ⟨w.heap.size,1,none⟩=some (Value.slice adh X.heap.length caph):=by
    show wr.cell? _=_
    rw[hbel.cell (by simp;omega)];simp
   have q2:wr.drew.cell? ⟨w.heap.size,2,none⟩=some (.int .i64 X.ez):=by
    show wr.cell? _=_
    rw[hbel.cell (by simp;omega)];simp
   have r0:wr.drew.cell? ⟨w.heap.size+1,0,none⟩=some (Value.slice none 0 0):=by
    show wr.cell? _=_
    rw[hbel.cell (by simp)];simp
   have r1:wr.drew.cell? ⟨w.heap.size+1,1,none⟩=some (Value.slice none 0 0):=by
    show wr.cell? _=_
    rw[hbel.cell (by simp)];simp
   have r2:wr.drew.cell? ⟨w.heap.size+1,2,none⟩=some (.int .i64 0):=by
    show wr.cell? _=_
    rw[hbel.cell (by simp)];simp
   have rf:∀ o,wr.drew.frozen? ⟨w.heap.size+1,o,none⟩=false:=fun o=>by
    show wr.frozen? _=_
    rw[hbel.frozen (by simp)];simp
   have hH:=h2.later xaD hbw.drew;have hst1:=hst.later (qzL _ _).drew;have hs5:s X.cz.length<=wr.drew.heap.size:=hst1.2.2.2.1;have hzd:w.heap.size+1+1<wr.drew.heap.size:=hz;have hbd:=hbw.drew;clear hst hW hrow hrowh hbel hbw h2;go_wp2_with fail
   go_region_held3 (fun w'=>w'.cell? ⟨w.heap.size,1,none⟩=some (Value.slice adh X.heap.length caph)/\w'.cell? ⟨w.heap.size,2,none⟩=some (.int .i64 X.ez)) (first | exact⟨q1,q2⟩ | exact⟨d1,d2⟩ | exact⟨(qzM _ _ _ _ (by first | (simp;done) | (simp;omega))).trans ((qzM _ _ _ _ (by first | (simp;done) | (simp;omega))).trans ((qzM _ _ _ _ (by first | (simp;done) | (simp;omega))).trans d1)),(qzM _ _ _ _ (by first | (simp;done) | (simp;omega))).trans ((qzM _ _ _ _ (by first | (simp;done) | (simp;omega))).trans ((qzM _ _ _ _ (by first | (simp;done) | (simp;omega))).trans d2))⟩)
    (first | (go_at_call 57;refine (xiZ X.heap _ _ hH).mono ?_;rintro e w1 ⟨gh,sh,rfl,hown,hgh,hb1⟩;have d1:=qzA hb1 q1;have d2:=qzA hb1 q2;have t0:=qzA hb1 r0;have t1:=qzA hb1 r1;have t2:=qzA hb1 r2;have tf:∀ o,w1.frozen? ⟨w.heap.size+1,o,none⟩=false:=fun o=>(hb1.frozen (by simp;omega)).trans (rf o)))
   go_wp2;have hst2:=hst1.later hb1;refine qzK (v:=WV (.slice (some ⟨w.heap.size+1+1,0,none⟩) X.cz.length X.cz.length) (.slice (some ⟨gh,0,none⟩) X.heap.length X.heap.length) X.ez) ?_ rfl ⟨_,gh,s,rfl,?_,⟨sh,?_⟩,by omega,by omega,?_⟩
   ·simp[results,Tryz.results42,go_sem,t0,t1,t2]
   ·exact ((hst2.setLow (by omega) _ _).setLow (by omega) _ _).setLow (by omega) _ _
   ·exact ((hown.setLow (by omega) _ _).setLow (by omega) _ _).setLow (by omega) _ _
   ·exact (((xah hbd hb1).setCell (by simp) _).setCell (by simp) _).setCell (by simp) _
end Go.Proofs.YtapbeiccodnniaaGreat
