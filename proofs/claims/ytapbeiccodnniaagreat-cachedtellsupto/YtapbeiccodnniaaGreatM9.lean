/- A part. -/
import Derived.Test.YtapbeiccodnniaaGreatM8
namespace Go.Proofs.YtapbeiccodnniaaGreat
open Go.ChangeShapes Go.WideShapes Go.ChangeAt Go.RowKit
set_option linter.unusedSimpArgs false
set_option linter.unusedVariables false
set_option maxHeartbeats 8000000
set_option maxRecDepth 8000
section
variable {σ:Type} {p:Mp σ} {L:(Nat->Nat)->World->σ->Nat->Prop} {LF QF:Nat} {lc qc:Array Value} {T T':Nat->Nat} {w w':World} {mb:Nat} {m m':Mc σ} {hv:Value} {g:Nat} {s:Nat->Nat} {K fb:Nat} {f:Fr} {cv av tv sv kv:Value}
theorem xkD (m:Mc σ)(f:Fr)(a b:Int):(xaX m f a b).1.st=m.st:=by
 unfold xaX
 by_cases h:b<=a
 ·simp only[h,if_true];split<;>rfl
 ·simp only[h,if_false];split<;>rfl
theorem xnb (m:Mc σ)(f:Fr)(a b:Int):(xbr m f a b).1.st=m.st:=by
 unfold xbr
 split
 ·rfl
 ·split
  ·exact xkD _ _ _ _
  ·rfl
theorem xnG (E:Env σ)(m:Mc σ)(f:Fr)(c:Int):(xbQ E m f c).1.st=m.st:=by
 unfold xbQ;split<;>rfl
theorem xb8 (hC:Cx p L LF lc QF qc){T1:Nat->Nat}{V:World}{calls:Int}{r:Mc σ × Fr × Int}{S:Nat->Prop}{e:Ending}(hr:r.1.st=m.st/\r.1.sz_=m.sz_)(hE:Ext T T1 w)(hK:Kp (All K) T w V)(hL:L T1 V m.st (xc7 p.E m))(he:e=.returned (.int .i64 r.2.2)){T2:Nat->Nat}(hE2:Ext T1 T2 V)(hM:∃ hv g s,MacAt p T2 w' mb r.1 calls hv g s)(hF:r.2.2=0->∃ cv av tv sv kv,FrAt T2 K w' fb r.2.1 cv av tv sv kv)(k:Kp S T1 V w')(hS:∀ t,S t->All K t)(h0:¬ S 0)(h3:¬ S 3):StPost p L T w mb calls K fb r e w':=xb9 hC ⟨hr.1,by rw[hr.2];exact Int.le_refl _⟩ hE hK hL he hE2 hM hF k hS h0 h3
theorem StPost.under {T1:Nat->Nat}{V:World}{calls:Int}{r:Mc σ × Fr × Int}{e:Ending}(h:StPost p L T1 V mb calls K fb r e w')(hE:Ext T T1 w)(hK:Kp (All K) T w V):StPost p L T w mb calls K fb r e w':=by
 obtain⟨h1,⟨T2,h2,h3⟩,h4⟩:=h
 exact⟨h1,⟨T2,hE.trans hK.size h2,h3⟩,hK.trans hE h4⟩
theorem xl6 {f':Fr}(e1:f'.cls=f.cls)(e2:f'.meth=f.meth)(e3:f'.self=f.self)(e4:f'.pc=f.pc)(e5:f'.fast=f.fast)(h:w.heap[fb]?=some (FB f cv av tv sv kv)):w.heap[fb]?=some (FB f' cv av tv sv kv):=by rw[h];unfold FB;rw[e1,e2,e3,e4,e5]
theorem FrAt.setTemp {tb:Nat}{n:Int}{v:QV}(h:FrAt T K w fb f cv av (.slice (some ⟨tb,0,none⟩) f.temps.length f.temps.length) sv kv)(hT:T tb=K+1)(hw:w'.heap[tb]?=some (.cells (xal (xaV f.temps n v)).toArray 27 (0,0)))(k:Kp (fun t=>t=K+1) T w w'):FrAt T K w' fb { f with temps:=xaV f.temps n v } cv av (.slice (some ⟨tb,0,none⟩) f.temps.length f.temps.length) sv kv:=by
 have hp:=h.pos;obtain⟨tb',e,d2,d3,d4⟩:=h.temps;refine⟨xl6 rfl rfl rfl rfl rfl (k.held h.box (by rw[h.tag];omega)),h.tag,h.args.fx xaK (.refl _ _) k (by omega),⟨tb,by show _=Value.slice _ (xaV f.temps n v).length (xaV f.temps n v).length;rw[xcd],hw,hT,by show (xaV f.temps n v).length<=40;rw[xcd];exact d4⟩,h.stack.keep fun g hg=>k.blk g (h.stack.lt g hg).2 (by rw[h.stag g hg];omega),h.stag,h.few,h.code.fx xbl (.refl _ _) k (by omega),h.meth.fx xbl (.refl _ _) k (by omega),hp⟩
def xcy (ent:Ent σ)(E:Env σ)(d:Nat)(m:Mc σ)(f:Fr)(a:Int)(x:QI):Mc σ × Fr × Int:=
  if x.op=9 then (m,f.pop,0)
  else if x.op=10 then (m,f.push f.top,0)
  else if x.op=11 then (m,{ f.pop with temps:=xaV f.temps x.a f.top },0)
  else if x.op=12 then ({ m with heap:=xaR m.heap f.self x.a f.top },f.pop,0)
  else if x.op=13 then xbQ E m f x.a
  else if x.op=14 then xcm ent E m f a x
  else if x.op=15 then xaX m f a x.a
  else if x.op=16 then xbr m f a x.a
  else xcl E d m f x
theorem xlN (hC:Cx p L LF lc QF qc){d:Nat}(hEn:xek p L d)(h:MacAt p T w mb m (20-(d:Int)) hv g s)(hF:FrAt T K w fb f cv av tv sv kv)(hL:L T w m.st (xc7 p.E m))(hI:MIn p.E m)(hFo:FOk p.E.cz m.heap.length f)(hst:f.stack.length<=1000000)(hd:d<=20)(a:Int)(x:QI)(hxb:f.fast=true->x.op=18->0<=x.b/\x.b<=1000) :
  Calls Tryz.prog 95 #[.pointer (some ⟨mb,0,none⟩),.pointer (some ⟨fb,0,none⟩),.int .i64 a,IV x] w fun e w'=>StPost p L T w mb (20-(d:Int)) K fb (xan (xa1 p.E d) p.E d m f a x) e w':=by
 have hp:=hF.pos;have hX:=xao T w 4;have hT4:∀ b,w.heap.size<=b->xau T w 4 b=4:=fun b hb=>xav hb
 have hb1:=xaj w (.cells #[.int .i64 x.op,.int .i64 x.a,.int .i64 x.b,.int .i64 x.c,.string x.name] 76);have hM0:=(h.tagged0 4).later hb1;have hF0:=(hF.tagged0 4).later hb1;have hL0:=hC.keep (hC.keep hL hX (Kp.refl (fun _=>False) _ _) id id) (.refl _ _) (Kp.of_below (S:=fun _=>False) hb1) id id
 have hR0:=xh1 w x 76;have hroom:f.stack.length<1000000000:=by omega
 clear h hF hL;generalize xau T w 4=T1 at *;go_enter Tryz.func95,Tryz.ntmps95
 go_upto_region 1 with (fail)
 generalize (w.alloc (.cells #[.int .i64 x.op,.int .i64 x.a,.int .i64 x.b,.int .i64 x.c,.string x.name] 76))=W at *;obtain⟨x0,x1,x2,x3,x4⟩:=id hR0;have hpu:=xjR hM0 hF0 x;go_wp2_with fail;refine hpu.mono ?_;rintro e w1 ⟨rfl,hbw⟩;clear hpu x0 x1 x2 x3 x4;have hbV:∀ u:QV,Below W.heap.size W (w1.alloc (.cells #[.int .i64 u.k,.int .i64 u.n] 27)):=fun u=>xah hbw (xaj _ _)
 cases hpu:xaA m.heap f x with
 | some u=>
  have HM:Hid (xan (xa1 p.E d) p.E d m f a x=(m,f.push u,0)):=by show _=_;unfold xan;rw[hpu]
  clear hpu;have HB:=hid (hbV u);have HF0:=hid hF0;have HM0:=hid hM0;have HL0:=hid hL0;have HB1:=hid hb1;have hF1:=hF0.later (hbV u);clear hF0 hM0 hL0 hR0 hb1 hbV;go_wp2_with fail;refine (xdM hF1 u hroom).mono ?_;rintro e w2 ⟨rfl,⟨T2,sv2,hX2,hF2⟩,hK2⟩;have Q:Hid (StPost p L T w mb (20-(d:Int)) K fb (m,f.push u,0) (.returned (.int .i64 0)) w2):=xb8 hC ⟨rfl,rfl⟩ hX (Kp.of_below (xah HB1.out HB.out)) (hC.keep HL0.out (.refl _ _) (Kp.of_below (S:=fun _=>False) HB.out) id id) rfl hX2 ⟨_,_,_,(HM0.out.later HB.out).keep hX2 hK2 (by omega) (by omega) (by omega)⟩ (fun _=>⟨_,_,_,_,_,hF2⟩) hK2 (fun t h=>by unfold All;omega) (by omega) (by omega)
  clear hF1 hF2 hK2 hX2;go_wp2
  go_ret
  rw[HM.out]
  exact Q.out
 | none=>
  have HM:Hid (xan (xa1 p.E d) p.E d m f a x=xcy (xa1 p.E d) p.E d m f a x):=by show _=_;unfold xan xcy;rw[hpu]
  clear hpu;have hbv:=hbV xaU;have hM1:=hM0.later hbv;have hF1:=hF0.later hbv;have hL1:=hC.keep hL0 (.refl _ _) (Kp.of_below (S:=fun _=>False) hbv) id id
  have hR1:SdR w x (w1.alloc (.cells #[.int .i64 0,.int .i64 0] 27)):=hR0.kp (T:=T1) (S:=fun _=>False) (Kp.of_below hbv) id
  have HKV:Hid (Kp (All K) T w (w1.alloc (.cells #[.int .i64 0,.int .i64 0] 27))):=Kp.of_below (xah hb1 hbv);have hz4:T1 w.heap.size=4:=hT4 _ (qzC _);have hXV:Hid (∀ {T3:Nat->Nat} {V' w2:World},Ext T1 T3 w2->Kp (fun t=>t=K) T1 V' w2->Ext T1 T3 V'):=fun h k b hb=>h b (qzE hb k.size)
  clear hM0 hF0 hL0 hR0 hbV hbv
  go_upto_region 5 with (fail)
  generalize (w1.alloc (.cells #[.int .i64 0,.int .i64 0] 27))=V at *;obtain⟨x0,x1,x2,x3,x4⟩:=id hR1;have hVz:w.heap.size<V.heap.size:=World.block_lt_of_cell? V ⟨w.heap.size,0,none⟩ x0;clear hbw
  by_cases h9:x.op=9
  ·have HN:Hid (xan (xa1 p.E d) p.E d m f a x=(m,f.pop,0)):=by show _=_;rw[HM.out];unfold xcy;rw[if_pos h9]
   have h9':(x.op == 9)=true:=by simpa using h9
   clear HM h9;go_wp2_with fail;refine (xdD hF1).mono ?_;rintro e w2 ⟨rfl,⟨sv2,hF2⟩,hK2⟩;have Q:Hid (StPost p L T w mb (20-(d:Int)) K fb (m,f.pop,0) (.returned (.int .i64 0)) w2):=xb8 hC ⟨rfl,rfl⟩ hX HKV.out hL1 rfl (.refl _ _) ⟨_,_,_,hM1.keep (.refl _ _) hK2 (by omega) (by omega) (by omega)⟩ (fun _=>⟨_,_,_,_,_,hF2⟩) hK2 (fun t h=>by unfold All;omega) (by omega) (by omega)
   clear hF1 hF2 hK2 hM1 hL1 hR1 x0 x1 x2 x3 x4;go_wp2
   go_ret
   rw[HN.out]
   exact Q.out
  have h9':(x.op == 9)=false:=by simpa using h9
  by_cases h10:x.op=10
  ·have HN:Hid (xan (xa1 p.E d) p.E d m f a x=(m,f.push f.top,0)):=by show _=_;rw[HM.out];unfold xcy;rw[if_neg h9];rw[if_pos h10]
   have h10':(x.op == 10)=true:=by simpa using h10
   clear HM h9 h10;go_wp2_with fail;refine (xfm hF1 0 ⟨by omega,by omega⟩).mono ?_
   rintro e w2 ⟨rfl,hb2⟩;have HT:Hid (f.top=xaW f.stack 0):=rfl;rw[← HT.out];have hF2:=hF1.later hb2;clear x0 x1 x2 x3 x4;go_wp2_with fail;refine (xdM hF2 f.top hroom).mono ?_;rintro e w3 ⟨rfl,⟨T3,sv3,hX3,hF3⟩,hK3⟩;have Q:Hid (StPost p L T w mb (20-(d:Int)) K fb (m,f.push f.top,0) (.returned (.int .i64 0)) w3):=xb8 hC ⟨rfl,rfl⟩ hX (HKV.out.on hb2) (hC.keep hL1 (.refl _ _) (Kp.of_below (S:=fun _=>False) hb2) id id) rfl hX3 ⟨_,_,_,(hM1.later hb2).keep hX3 hK3 (by omega) (by omega) (by omega)⟩ (fun _=>⟨_,_,_,_,_,hF3⟩) hK3 (fun t h=>by unfold All;omega) (by omega) (by omega)
   clear hF1 hF2 hF3 hK3 hX3 hM1 hL1 hR1 hb2;go_wp2
   go_ret
   rw[HN.out]
   exact Q.out
  have h10':(x.op == 10)=false:=by simpa using h10
  by_cases h11:x.op=11
  ·have HN:Hid (xan (xa1 p.E d) p.E d m f a x=(m,{ f.pop with temps:=xaV f.temps x.a f.top },0)):=by show _=_;rw[HM.out];unfold xcy;rw[if_neg h9];rw[if_neg h10];rw[if_pos h11]
   have h11':(x.op == 11)=true:=by simpa using h11
   clear HM h9 h10 h11;obtain⟨tb,rfl,ht2,ht3,ht4⟩:=hF1.temps;go_wp2;have hFd:=hF1.later (qzL _ V).drew;have hS0:V.drew.cell? ⟨fb,9,none⟩=some (.slice (some ⟨tb,0,none⟩) f.temps.length f.temps.length)/\V.drew.cell? ⟨w.heap.size,1,none⟩=some (.int .i64 x.a):=⟨hFd.c.2.2.2,x1⟩;have tokA:True:=trivial
   go_region_held3 (fun w'=>w'.cell? ⟨fb,9,none⟩=some (.slice (some ⟨tb,0,none⟩) f.temps.length f.temps.length)/\w'.cell? ⟨w.heap.size,1,none⟩=some (.int .i64 x.a))
    (first | with_reducible exact hS0 | with_reducible exact hS1 | with_reducible exact hS2)
    (first
     | (have _t:=tokA;go_at_call 94;refine (xdD hFd).mono ?_;rintro e w2 ⟨rfl,⟨sv2,hF2⟩,hK2⟩;have hS1:=And.intro hF2.c.2.2.2 (hK2.cell hS0.2 (by rw[hz4];omega));have hT2:w2.heap[tb]?=some (.cells (xal f.temps).toArray 27 (0,0)):=(hK2.held (xac ht2 (qzL _ V).drew) (by rw[ht3];omega));clear tokA;have tokB:True:=trivial)
     | (have _t:=tokB;go_at_call 104;refine (xeB f.temps tb x.a f.top _ hT2).mono ?_;rintro e w3 ⟨rfl,hw3,hz3,hka⟩;have hk3:=hka (fun t=>t=K+1) T1 ht3;have hS2:=And.intro (hk3.cell hS1.1 (by rw[hF2.tag];omega)) (hk3.cell hS1.2 (by rw[hz4];omega));clear tokB))
   have hF3:=hF2.setTemp ht3 hw3 hk3;have Q:Hid (StPost p L T w mb (20-(d:Int)) K fb (m,{ f.pop with temps:=xaV f.temps x.a f.top },0) (.returned (.int .i64 0)) w3):=xb8 hC ⟨rfl,rfl⟩ hX HKV.out.drew (hC.keep hL1 (.refl _ _) (Kp.refl (fun _=>False) _ _).drew id id) rfl (.refl _ _) ⟨_,_,_,((hM1.later (qzL _ V).drew).keep (.refl _ _) hK2 (by omega) (by omega) (by omega)).keep (.refl _ _) hk3 (by omega) (by omega) (by omega)⟩ (fun _=>⟨_,_,_,_,_,hF3⟩) (S:=fun t=>t=K\/t=K+1) ((hK2.mono fun t h=>Or.inl h).trans (.refl _ _) (hk3.mono fun t h=>Or.inr h)) (fun t h=>by unfold All;omega) (by omega) (by omega)
   clear hF1 hF2 hF3 hFd hK2 hk3 hM1 hL1 hR1 x0 x1 x2 x3 x4 hw3 hka hT2 ht2 hS0 hS1 hS2;go_wp2
   go_ret
   rw[HN.out]
   exact Q.out
  have h11':(x.op == 11)=false:=by simpa using h11
  by_cases h12:x.op=12
  ·have HN:Hid (xan (xa1 p.E d) p.E d m f a x=({ m with heap:=xaR m.heap f.self x.a f.top },f.pop,0)):=by show _=_;rw[HM.out];unfold xcy;rw[if_neg h9];rw[if_neg h10];rw[if_neg h11];rw[if_pos h12]
   have h12':(x.op == 12)=true:=by simpa using h12
   clear HM h9 h10 h11 h12;go_wp2;have hFd:=hF1.later (qzL _ V).drew;have hMd:=hM1.later (qzL _ V).drew;have hS0:V.drew.cell? ⟨fb,6,none⟩=some (.int .i64 f.self.k)/\V.drew.cell? ⟨fb,7,none⟩=some (.int .i64 f.self.n)/\V.drew.cell? ⟨w.heap.size,1,none⟩=some (.int .i64 x.a):=⟨hFd.c.1,hFd.c.2.1,x1⟩;have tokA:True:=trivial
   go_region_held3 (fun w'=>w'.cell? ⟨fb,6,none⟩=some (.int .i64 f.self.k)/\w'.cell? ⟨fb,7,none⟩=some (.int .i64 f.self.n)/\w'.cell? ⟨w.heap.size,1,none⟩=some (.int .i64 x.a))
    (first | with_reducible exact hS0 | with_reducible exact hS1 | with_reducible exact hS2)
    (first
     | (have _t:=tokA;go_at_call 94;refine (xdD hFd).mono ?_;rintro e w2 ⟨rfl,⟨sv2,hF2⟩,hK2⟩;have hS1:w2.cell? ⟨fb,6,none⟩=some (.int .i64 f.self.k)/\w2.cell? ⟨fb,7,none⟩=some (.int .i64 f.self.n)/\w2.cell? ⟨w.heap.size,1,none⟩=some (.int .i64 x.a):=⟨hF2.c.1,hF2.c.2.1,hK2.cell hS0.2.2 (by rw[hz4];omega)⟩;have hM2:=hMd.keep (.refl _ _) hK2 (by omega) (by omega) (by omega);clear tokA;have tokB:True:=trivial)
     | (have _t:=tokB;go_at_call 105;refine (xeV hM2 f.self x.a f.top).mono ?_;rintro e w3 ⟨rfl,⟨T3,hX3,hM3⟩,hK3⟩;have hF3:=hF2.keep hX3 hK3 (by omega) (by omega) (by omega) (by omega);have hS2:w3.cell? ⟨fb,6,none⟩=some (.int .i64 f.self.k)/\w3.cell? ⟨fb,7,none⟩=some (.int .i64 f.self.n)/\w3.cell? ⟨w.heap.size,1,none⟩=some (.int .i64 x.a):=⟨hF3.c.1,hF3.c.2.1,hK3.cell hS1.2.2 (by rw[hz4];omega)⟩;clear tokB))
   have Q:Hid (StPost p L T w mb (20-(d:Int)) K fb ({ m with heap:=xaR m.heap f.self x.a f.top },f.pop,0) (.returned (.int .i64 0)) w3):=xb8 hC ⟨rfl,rfl⟩ hX HKV.out.drew (hC.keep hL1 (.refl _ _) (Kp.refl (fun _=>False) _ _).drew id id) rfl (hXV.out hX3 hK2) ⟨_,_,_,hM3⟩ (fun _=>⟨_,_,_,_,_,hF3⟩) (S:=fun t=>t=K\/t=2) ((hK2.mono fun t h=>Or.inl h).trans (.refl _ _) (hK3.mono fun t h=>Or.inr h)) (fun t h=>by unfold All;omega) (by omega) (by omega)
   clear hF1 hF2 hF3 hFd hMd hM2 hM3 hK2 hK3 hX3 hM1 hL1 hR1 x0 x1 x2 x3 x4 hS0 hS1 hS2;go_wp2
   go_ret
   rw[HN.out]
   exact Q.out
  have h12':(x.op == 12)=false:=by simpa using h12
  by_cases h13:x.op=13
  ·have HN:Hid (xan (xa1 p.E d) p.E d m f a x=xbQ p.E m f x.a):=by show _=_;rw[HM.out];unfold xcy;rw[if_neg h9];rw[if_neg h10];rw[if_neg h11];rw[if_neg h12];rw[if_pos h13]
   have h13':(x.op == 13)=true:=by simpa using h13
   clear HM h9 h10 h11 h12 h13;have hmk:=xfx hM1 hF1 x.a (hC.ok.slots x.a) hroom;have hsd:(xbQ p.E m f x.a).1.st=m.st/\(xbQ p.E m f x.a).1.sz_=m.sz_:=⟨xnG _ _ _ _,xf6 _ _ _ _⟩;generalize xbQ p.E m f x.a=r at *;go_wp2_with fail;refine hmk.mono ?_;rintro e w2 ⟨rfl,⟨T2,hX2,hM2,hF2⟩,hK2⟩;have Q:Hid (StPost p L T w mb (20-(d:Int)) K fb r (.returned (.int .i64 r.2.2)) w2):=xb8 hC hsd hX HKV.out hL1 rfl hX2 hM2 (fun h=>(hF2 h).elim fun sv' h'=>⟨_,_,_,sv',_,h'⟩) hK2 (fun t h=>by unfold All;omega) (by omega) (by omega)
   clear hF1 hF2 hK2 hX2 hM1 hM2 hL1 hR1 x0 x1 x2 x3 x4 hmk hsd;go_wp2
   go_ret
   rw[HN.out]
   exact Q.out
  have h13':(x.op == 13)=false:=by simpa using h13
  by_cases h14:x.op=14
  ·have HN:Hid (xan (xa1 p.E d) p.E d m f a x=xcm (xa1 p.E d) p.E m f a x):=by show _=_;rw[HM.out];unfold xcy;rw[if_neg h9];rw[if_neg h10];rw[if_neg h11];rw[if_neg h12];rw[if_neg h13];rw[if_pos h14]
   have h14':(x.op == 14)=true:=by simpa using h14
   clear HM h9 h10 h11 h12 h13 h14;have hsn:=xl5 hC hEn hM1 hF1 hL1 hI hFo hst a x;generalize xcm (xa1 p.E d) p.E m f a x=r at *;go_wp2_with fail;refine hsn.mono ?_;rintro e w2 ⟨rfl,⟨T2,hX2,hM2,hL2,hF2⟩,hK2⟩;have Q:Hid (StPost p L T w mb (20-(d:Int)) K fb r (.returned (.int .i64 r.2.2)) w2):=⟨rfl,⟨T2,hX.trans HKV.out.size hX2,hM2,hL2,hF2⟩,HKV.out.trans hX hK2⟩;clear hF1 hF2 hK2 hX2 hM1 hM2 hL1 hL2 hR1 x0 x1 x2 x3 x4 hsn;go_wp2
   go_ret
   rw[HN.out]
   exact Q.out
  have h14':(x.op == 14)=false:=by simpa using h14
  by_cases h15:x.op=15
  ·have HN:Hid (xan (xa1 p.E d) p.E d m f a x=xaX m f a x.a):=by show _=_;rw[HM.out];unfold xcy;rw[if_neg h9];rw[if_neg h10];rw[if_neg h11];rw[if_neg h12];rw[if_neg h13];rw[if_neg h14];rw[if_pos h15]
   have h15':(x.op == 15)=true:=by simpa using h15
   clear HM h9 h10 h11 h12 h13 h14 h15;have hjm:=xi6 hM1 hF1 a x.a hI.turns;have hsd:(xaX m f a x.a).1.st=m.st/\(xaX m f a x.a).1.sz_=m.sz_:=⟨xkD _ _ _ _,xeh _ _ _ _⟩;generalize xaX m f a x.a=r at *;go_wp2_with fail;refine hjm.mono ?_;rintro e w2 ⟨rfl,hM2,hF2,hK2⟩;have Q:Hid (StPost p L T w mb (20-(d:Int)) K fb r (.returned (.int .i64 r.2.2)) w2):=xb8 hC hsd hX HKV.out hL1 rfl (.refl _ _) ⟨_,_,_,hM2⟩ (fun _=>⟨_,_,_,_,_,hF2⟩) hK2 (fun t h=>by unfold All;omega) (by omega) (by omega)
   clear hF1 hF2 hK2 hM1 hM2 hL1 hR1 x0 x1 x2 x3 x4 hjm hsd;go_wp2
   go_ret
   rw[HN.out]
   exact Q.out
  have h15':(x.op == 15)=false:=by simpa using h15
  by_cases h16:x.op=16
  ·have HN:Hid (xan (xa1 p.E d) p.E d m f a x=xbr m f a x.a):=by show _=_;rw[HM.out];unfold xcy;rw[if_neg h9];rw[if_neg h10];rw[if_neg h11];rw[if_neg h12];rw[if_neg h13];rw[if_neg h14];rw[if_neg h15];rw[if_pos h16]
   have h16':(x.op == 16)=true:=by simpa using h16
   clear HM h9 h10 h11 h12 h13 h14 h15 h16;have hjm:=xjg hM1 hF1 a x.a hI.turns;have hsd:(xbr m f a x.a).1.st=m.st/\(xbr m f a x.a).1.sz_=m.sz_:=⟨xnb _ _ _ _,xfI _ _ _ _⟩;generalize xbr m f a x.a=r at *;go_wp2_with fail;refine hjm.mono ?_;rintro e w2 ⟨rfl,hM2,hF2,hK2⟩;have Q:Hid (StPost p L T w mb (20-(d:Int)) K fb r (.returned (.int .i64 r.2.2)) w2):=xb8 hC hsd hX HKV.out hL1 rfl (.refl _ _) ⟨_,_,_,hM2⟩ (fun h=>(hF2 h).elim fun sv' h'=>⟨_,_,_,sv',_,h'⟩) hK2 (fun t h=>by unfold All;omega) (by omega) (by omega)
   clear hF1 hF2 hK2 hM1 hM2 hL1 hR1 x0 x1 x2 x3 x4 hjm hsd;go_wp2
   go_ret
   rw[HN.out]
   exact Q.out
  have h16':(x.op == 16)=false:=by simpa using h16
  have HN:Hid (xan (xa1 p.E d) p.E d m f a x=xcl p.E d m f x):=by show _=_;rw[HM.out];unfold xcy;rw[if_neg h9];rw[if_neg h10];rw[if_neg h11];rw[if_neg h12];rw[if_neg h13];rw[if_neg h14];rw[if_neg h15];rw[if_neg h16]
  clear HM h9 h10 h11 h12 h13 h14 h15 h16;have hfs:=xhf hC hd hM1 hF1 hL1 hI hst x hxb;clear hxb;generalize xcl p.E d m f x=r at *;go_wp2_with fail;refine hfs.mono ?_;rintro e w2 hP;have Q:=hid (hP.under hX HKV.out);obtain⟨rfl,-⟩:=hP;clear hF1 hM1 hL1 hR1 x0 x1 x2 x3 x4 hfs;go_wp2
  go_ret
  rw[HN.out]
  exact Q.out
end
section
variable {σ:Type}
theorem xfG (m:Mc σ)(f:Fr)(a b:Int):(xaX m f a b).2.1.stack=f.stack:=by
 unfold xaX;simp only
 split<;>split<;>rfl
theorem xjU (ent:Ent σ)(E:Env σ)(d:Nat)(m:Mc σ)(f:Fr)(a:Int)(x:QI):(xan ent E d m f a x).2.1.stack.length<=f.stack.length+1:=by
 unfold xan
 split
 ·simp[Fr.push]
 ·split
  ·simp[Fr.pop];omega
  ·split
   ·simp[Fr.push]
   ·split
    ·simp[Fr.pop];omega
    ·split
     ·simp[Fr.pop];omega
     ·split
      ·unfold xbQ;split
       ·simp
       ·simp[Fr.push]
      ·split
       ·unfold xcm;simp only
        split
        ·simp
        ·simp;omega
       ·split
        ·rw[xfG];omega
        ·split
         ·unfold xbr
          split
          ·simp[Fr.pop];omega
          ·split
           ·rw[xfG];simp[Fr.pop];omega
           ·simp
         ·unfold xcl
          split
          ·simp
          ·split
           ·simp only
            split
            ·simp
            ·simp[Fr.leave]
           ·split
            ·simp[Fr.push]
            ·split
             ·simp[Fr.pop];omega
             ·split<;>simp
theorem xkV {ent:Ent σ}(ht:xdy ent){E:Env σ}{d:Nat}{m:Mc σ}{f:Fr}(hm:0<=m.turns)(h0:0<=f.pc)(hl:f.pc.toNat<f.code.length){x:QI}(he:(xan ent E d m { f with pc:=f.pc+1 } f.pc x).2.2=0){R:Nat}(hR:f.stack.length+muE m f<=R):(xan ent E d m { f with pc:=f.pc+1 } f.pc x).2.1.stack.length+muE (xan ent E d m { f with pc:=f.pc+1 } f.pc x).1 (xan ent E d m { f with pc:=f.pc+1 } f.pc x).2.1<=R:=by
 have h1:=xjU ent E d m { f with pc:=f.pc+1 } f.pc x
 have h2:=xhK ht (E:=E) (d:=d) hm h0 hl (x:=x) he;have e:({ f with pc:=f.pc+1 }:Fr).stack=f.stack:=rfl
 rw[e] at h1
 omega
def xo1 (ent:Ent σ):Prop:=∀ m c n s a,m.turns<=300->(ent m c n s a).2.2=0->(ent m c n s a).1.turns<=300
theorem xmG {m:Mc σ}{f:Fr}{a b:Int}(h0:(xaX m f a b).2.2=0):(xaX m f a b).1.turns<=300:=by
 unfold xaX at h0 ⊢
 by_cases h:b<=a
 ·simp only[h,if_true] at h0 ⊢
  split
  ·rename_i k;rw[if_pos k] at h0;cases h0
  ·rename_i k;simp only at k ⊢;omega
 ·simp only[h,if_false] at h0 ⊢
  split
  ·rename_i k;rw[if_pos k] at h0;cases h0
  ·rename_i k;simp only at k ⊢;omega
theorem xoM {m:Mc σ}(hm:m.turns<=300){f:Fr}{a b:Int}(h0:(xbr m f a b).2.2=0):(xbr m f a b).1.turns<=300:=by
 unfold xbr at h0 ⊢
 split
 ·exact hm
 ·rename_i k;rw[if_neg k] at h0
  split
  ·rename_i k2;rw[if_pos k2] at h0;exact xmG h0
  ·exact hm
theorem xoK (E:Env σ)(m:Mc σ)(f:Fr)(c:Int):(xbQ E m f c).1.turns=m.turns:=by unfold xbQ;split<;>rfl
theorem xkU {E:Env σ}{ent:Ent σ}(he:xo1 ent)(d:Nat){m:Mc σ}(h:m.turns<=300){f:Fr}{a:Int}{x:QI}(h0:(xan ent E d m f a x).2.2=0):(xan ent E d m f a x).1.turns<=300:=by
 cases hpu:xaA m.heap f x with
 | some u=>unfold xan;rw[hpu];exact h
 | none=>
  unfold xan at h0 ⊢;rw[hpu] at h0 ⊢;simp only at h0 ⊢
  by_cases h9:x.op=9
  ·rw[if_pos h9];exact h
  rw[if_neg h9] at h0 ⊢
  by_cases h10:x.op=10
  ·rw[if_pos h10];exact h
  rw[if_neg h10] at h0 ⊢
  by_cases h11:x.op=11
  ·rw[if_pos h11];exact h
  rw[if_neg h11] at h0 ⊢
  by_cases h12:x.op=12
  ·rw[if_pos h12];exact h
  rw[if_neg h12] at h0 ⊢
  by_cases h13:x.op=13
  ·rw[if_pos h13,xoK];exact h
  rw[if_neg h13] at h0 ⊢
  by_cases h14:x.op=14
  ·rw[if_pos h14] at h0 ⊢;unfold xcm at h0 ⊢;simp only at h0 ⊢
   split
   ·rename_i k;rw[if_pos k] at h0;exact absurd h0 k
   ·rename_i k;exact he _ _ _ _ _ h (Decidable.of_not_not k)
  rw[if_neg h14] at h0 ⊢
  by_cases h15:x.op=15
  ·rw[if_pos h15] at h0 ⊢;exact xmG h0
  rw[if_neg h15] at h0 ⊢
  by_cases h16:x.op=16
  ·rw[if_pos h16] at h0 ⊢;exact xoM h h0
  rw[if_neg h16] at h0 ⊢;unfold xcl
  split
  ·exact h
  ·split
   ·exact h
   ·split
    ·exact h
    ·split
     ·exact h
     ·split
      ·show (xay E d m).1.turns<=300
       unfold xay
       split
       ·exact h
       ·split<;>exact h
      ·exact h
theorem xow {E:Env σ}{ent:Ent σ}(he:xo1 ent)(d:Nat):∀ (g:Nat) (m:Mc σ) (f:Fr),m.turns<=300->(xcL ent E d g m f).2.2=0->(xcL ent E d g m f).1.turns<=300
 | 0,m,f,h,h0=>by cases h0
 | g+1,m,f,h,h0=>by
  unfold xcL at h0 ⊢;generalize (if f.pc<0 then none else f.code[f.pc.toNat]?)=q at h0 ⊢
  cases q with
  | none=>cases h0
  | some x=>
   simp only at h0 ⊢
   by_cases h17:x.op=17
   ·rw[if_pos h17];exact h
   ·rw[if_neg h17] at h0 ⊢
    by_cases he0:(xan ent E d m { f with pc:=f.pc+1 } f.pc x).2.2=0
    ·rw[if_neg (by simpa using he0)] at h0 ⊢
     exact xow he d g _ _ (xkU he d h he0) h0
    ·rw[if_pos he0] at h0
     exact absurd h0 he0
theorem xk6 {E:Env σ}(d:Nat){body:Mc σ->Fr->Mc σ × QV × Int}(hb:∀ m f,m.turns<=300->(body m f).2.2=0->(body m f).1.turns<=300):xo1 (xbj E d body):=fun m c n s a h h0=>by
 unfold xbj at h0 ⊢;generalize xaO E.cz c n=q at h0 ⊢
 cases q with
 | none=>cases h0
 | some mt=>
  simp only at h0 ⊢
  split at h0
  ·cases h0
  ·rename_i h1;rw[if_neg h1]
   split at h0
   ·rename_i h2;rw[if_pos h2]
    split
    ·exact h
    ·exact h
   ·rename_i h2;rw[if_neg h2]
    have hc:(xay E d m).1.turns=m.turns:=by
     unfold xay
     split
     ·rfl
     ·split<;>rfl
    split at h0
    ·rename_i h3;exact absurd h0 h3
    ·rename_i h3;rw[if_neg h3]
     exact hb _ _ (by rw[hc];exact h) h0
theorem xob (E:Env σ):∀ d,xo1 (xa1 E d)
 | 0=>xk6 0 fun m f h h0=>by cases h0
 | d+1=>xk6 (d+1) fun m f h h0=>xow (xob E d) d _ m f h h0
def xmK (f:Fr):Prop:=f.fast=true->∀ x∈f.code,x.op=18->0<=x.b/\x.b<=1000
theorem xnW {ent:Ent σ}{E:Env σ}{d:Nat}{m:Mc σ}{f:Fr}(h:xmK f)(a:Int)(x:QI):xmK (xan ent E d m f a x).2.1:=by
 have jmp:∀ g:Fr,xmK g->∀ b,xmK (xaX m g a b).2.1:=fun g hg b=>by
  unfold xaX;simp only
  split<;>split<;>exact hg
 unfold xan
 split
 ·exact h
 ·split
  ·exact h
  ·split
   ·exact h
   ·split
    ·exact h
    ·split
     ·exact h
     ·split
      ·unfold xbQ;split<;>exact h
      ·split
       ·unfold xcm;simp only
        split<;>exact h
       ·split
        ·exact jmp f h _
        ·split
         ·unfold xbr
          split
          ·exact h
          ·split
           ·exact jmp f.pop h _
           ·exact h
         ·unfold xcl
          split
          ·exact h
          ·split
           ·simp only
            split
            ·exact h
            ·exact fun h=>by cases h
           ·split
            ·exact h
            ·split
             ·exact h
             ·split<;>exact h
end
section
variable {σ:Type}
variable {p:Mp σ} {L:(Nat->Nat)->World->σ->Nat->Prop} {LF QF:Nat} {lc qc:Array Value} {T T':Nat->Nat} {w w':World} {mb:Nat} {m m':Mc σ} {hv:Value} {g:Nat} {s:Nat->Nat} {K fb:Nat} {f:Fr} {cv av tv sv kv:Value}
structure FnR (p:Mp σ)(L:(Nat->Nat)->World->σ->Nat->Prop)(d:Nat)(T:Nat->Nat)(w:World)(mb K fb:Nat)(R:Mc σ × QV × Int)(gk:Nat)(T1:Nat->Nat)(m:Mc σ)(f:Fr)(wr:World):Prop where
 ext:Ext T T1 w
 kp:Kp (All K) T w wr
 mac:∃ hv g s,MacAt p T1 wr mb m (20-(d:Int)) hv g s
 fr:∃ cv av tv sv kv,FrAt T1 K wr fb f cv av tv sv kv
 lk:L T1 wr m.st (xc7 p.E m)
 min:MIn p.E m
 fo:FOk p.E.cz m.heap.length f
 gd:xmK f
 room:f.stack.length+muE m f<=1000000
 mu:muE m f<=gk
 val:xcL (xa1 p.E d) p.E d gk m f=R
 r0:wr.cell? ⟨w.heap.size,0,none⟩=some (.int .i64 0)
 r1:wr.cell? ⟨w.heap.size,1,none⟩=some (.int .i64 0)
 rf:∀ o,wr.frozen? ⟨w.heap.size,o,none⟩=false
 r4:T1 w.heap.size=4
 sz:w.heap.size<wr.heap.size
theorem xb6 {S:Nat->Prop}{b o:Nat}(k:Kp S T w w')(hb:b<w.heap.size)(hs:¬ S (T b))(h:w.frozen? ⟨b,o,none⟩=false):w'.frozen? ⟨b,o,none⟩=false:=by
 unfold World.frozen? at h ⊢;simp only at h ⊢;rw[k.blk b hb hs];exact h
theorem FnR.ended (hC:Cx p L LF lc QF qc){d gk:Nat}{T1:Nat->Nat}{wr:World}{R:Mc σ × QV × Int}(h:FnR p L d T w mb K fb R gk T1 m f wr)(u0 u1:Value):EnPost p L T w mb (20-(d:Int)) K (m,xaU,9) (.returned (.tuple #[VV xaU,.int .i64 9])) ((wr.setCell ⟨w.heap.size,0,none⟩ u0).setCell ⟨w.heap.size,1,none⟩ u1).drew:=by
 obtain⟨hv,g,s,hM⟩:=h.mac;have k:Kp (fun t=>t=4) T1 wr ((wr.setCell ⟨w.heap.size,0,none⟩ u0).setCell ⟨w.heap.size,1,none⟩ u1).drew:=(((Kp.refl (fun t=>t=4) _ _).set (fun _=>h.r4) _ _).set (fun _=>h.r4) _ _).drew
 refine⟨rfl,⟨T1,h.ext,⟨_,_,_,hM.keep (.refl _ _) k (by omega) (by omega) (by omega)⟩,?_⟩,((h.kp.set (fun h=>absurd h (Nat.lt_irrefl _)) _ _).set (fun h=>absurd h (Nat.lt_irrefl _)) _ _).drew⟩
 rw[if_neg (by simp)]
 exact hC.mono (hC.keep h.lk (.refl _ _) k (by omega) (by omega)) (Nat.zero_le _)
theorem xjh (hC:Cx p L LF lc QF qc){d:Nat}(hd:d<=20)(hEn:xek p L d)(h:MacAt p T w mb m (20-(d:Int)) hv g s)(hF:FrAt T K w fb f cv av tv sv kv)(hL:L T w m.st (xc7 p.E m))(hI:MIn p.E m)(hFo:FOk p.E.cz m.heap.length f)(hGd:xmK f)(hRm:f.stack.length+muE m f<=1000000) :
  Calls Tryz.prog 81 #[.pointer (some ⟨mb,0,none⟩),.pointer (some ⟨fb,0,none⟩)] w fun e w'=>EnPost p L T w mb (20-(d:Int)) K (xcL (xa1 p.E d) p.E d (xeQ f) m f) e w':=by
 have hp:=hF.pos;have hb1:=xaj w (.cells #[.int .i64 0,.int .i64 0] 27)
 have hRel:FnR p L d T w mb K fb (xcL (xa1 p.E d) p.E d (xeQ f) m f) (xeQ f) (xau T w 4) m f (w.alloc (.cells #[.int .i64 0,.int .i64 0] 27)):=
  ⟨xao T w 4,Kp.of_below hb1,⟨_,_,_,(h.tagged0 4).later hb1⟩,⟨_,_,_,_,_,(hF.tagged0 4).later hb1⟩,hC.keep (hC.keep hL (xao T w 4) (Kp.refl (fun _=>False) _ _) id id) (.refl _ _) (Kp.of_below (S:=fun _=>False) hb1) id id,hI,hFo,hGd,hRm,xkZ hI.turns.1,rfl,xaa _ _ _ _ rfl 0,xaa _ _ _ _ rfl 1,xam (qzJ w (.cells #[.int .i64 0,.int .i64 0] 27)),xav (qzC _),by simp⟩
 clear h hF hL hb1 hFo hGd hRm hI;generalize xcL (xa1 p.E d) p.E d (xeQ f) m f=R at *;generalize xeQ f=G at *;go_enter Tryz.func81,Tryz.ntmps81;go_wp2
 go_loopg [] G (fun gk wr=>∃ T1 m f,FnR p L d T w mb K fb R gk T1 m f wr)
 case atStart=>exact⟨_,_,_,hRel⟩
 case round=>
  clear hRel;obtain⟨T1,m,f,hR⟩:=hrel;obtain⟨hv,g,s,hM⟩:=hR.mac;obtain⟨cv,av,tv,sv,kv,hFr⟩:=hR.fr;have hmu:=hR.mu
  by_cases hin:f.pc<0\/f.code.length<=f.pc.toNat
  ·have HV:Hid (R=(m,xaU,9)):=by
    show _=_
    rw[← hR.val]
    cases gk with
    | zero=>rfl
    | succ G'=>
     unfold xcL
     rcases hin with hn | hn
     ·rw[if_pos hn]
     ·have:(if f.pc<0 then none else f.code[f.pc.toNat]?)=none:=by
       split
       ·rfl
       ·exact List.getElem?_eq_none hn
      rw[this]
   have hc12:wr.cell? ⟨fb,12,none⟩=some (.int .i64 f.pc):=by rw[qzB hFr.box];rfl
   have hc11:wr.cell? ⟨fb,11,none⟩=some kv:=by rw[qzB hFr.box];rfl
   obtain⟨ac,cc,hkv,hcl,hcc,-,hrow⟩:=hFr.code;rw[hkv] at hc11;have q0:=hR.r0;have q1:=hR.r1;have qf:=hR.rf;have HR:=hid hR;have HM:=hid hM;clear hR hM hFr hmu hrow hkv
   by_cases hn:f.pc<0
   ·have hn':decide (0<=f.pc)=false:=by simpa using hn
    have hn2:¬ 0<=f.pc:=by omega
    clear hin hn;go_wp2
    go_region
    go_wp2;rw[HV.out];refine qzK (v:=.tuple #[VV xaU,.int .i64 9]) ?_ rfl (HR.out.ended hC _ _)
    simp[results,Tryz.results81,go_sem,q0,q1]
   ·have hn':decide (0<=f.pc)=true:=by simpa using hn
    have hn2:0<=f.pc:=by omega
    have hge:¬ f.pc<(f.code.length:Int):=by omega
    have hge':decide (f.pc<(f.code.length:Int))=false:=by simpa using hge
    clear hin hn;go_wp2
    go_region
    go_wp2;rw[HV.out];refine qzK (v:=.tuple #[VV xaU,.int .i64 9]) ?_ rfl (HR.out.ended hC _ _)
    simp[results,Tryz.results81,go_sem,q0,q1]
  obtain⟨k,hpc⟩:∃ k:Nat,f.pc=(k:Int):=⟨f.pc.toNat,by omega⟩
  have hkl:k<f.code.length:=by rw[hpc] at hin;simp at hin;omega
  obtain⟨x,hxh⟩:∃ x,f.code[k]?=some x:=⟨_,List.getElem?_eq_getElem hkl⟩;clear hin
  obtain⟨G',hG⟩:∃ G',gk=G'+1:=⟨gk-1,by
   have:0<muE m f:=by unfold muE;rw[hpc];simp;omega
   omega⟩
  have HV:Hid (R=if x.op=17 then (m,f.top,0) else if (xan (xa1 p.E d) p.E d m { f with pc:=f.pc+1 } f.pc x).2.2≠0 then ((xan (xa1 p.E d) p.E d m { f with pc:=f.pc+1 } f.pc x).1,xaU,(xan (xa1 p.E d) p.E d m { f with pc:=f.pc+1 } f.pc x).2.2) else xcL (xa1 p.E d) p.E d G' (xan (xa1 p.E d) p.E d m { f with pc:=f.pc+1 } f.pc x).1 (xan (xa1 p.E d) p.E d m { f with pc:=f.pc+1 } f.pc x).2.1):=by
   show _=_
   rw[← hR.val,hG]
   conv=>lhs;unfold xcL
   rw[hpc,if_neg (by omega)]
   simp only[Int.toNat_natCast,hxh]
  have hc12:wr.cell? ⟨fb,12,none⟩=some (.int .i64 (k:Int)):=by rw[qzB hFr.box,← hpc];rfl
  have hc11:wr.cell? ⟨fb,11,none⟩=some kv:=by rw[qzB hFr.box];rfl
  have hcf:=xam hFr.box;obtain⟨ac,cc,hkv,hcl,hcc,-,hrow⟩:=hFr.code;rw[hkv] at hc11;unfold maxLen at hcc;obtain⟨bc,oc,hac,-,i0,i1,i2,i3,i4,-⟩:=hrow k x hxh;rw[hac] at hc11;simp only[Nat.add_zero] at i0;have hk0:(0:Int)<=(k:Int):=by omega
  have hk1:(k:Int)<(f.code.length:Int):=by omega
  have hkw:IntKind.i64.wrap ((k:Int)+1)=(k:Int)+1:=xaE (by omega) (by omega)
  have hlf:fb<wr.heap.size:=xaf hFr.box;have hnf:¬ fb=wr.heap.size:=by omega
  have hnf':¬ wr.heap.size=fb:=by omega
  have HX:=hid hxh;have HR:=hid hR;have HM:=hid hM;have HF:=hid hFr;have HPC:=hid hpc;have HGK:=hid hG;clear hxh hR hM hFr hpc hmu hrow hkv hac hG;rw[HPC.out] at HV;go_wp2
  go_region
  by_cases h17:x.op=17
  ·have h17':(x.op == 17)=true:=by simpa using h17
   rw[if_pos h17] at HV;clear h17;have hbV:Below wr.heap.size wr (wr.alloc (.cells #[.int .i64 x.op,.int .i64 x.a,.int .i64 x.b,.int .i64 x.c,.string x.name] 76)).drew:=(xaj _ _).drew;have hF1:=HF.out.later hbV;go_wp2_with fail;refine (xdD hF1).mono ?_;rintro e w2 ⟨rfl,-,hK2⟩;have hrs:=HR.out.sz;have hz:w.heap.size<(wr.alloc (.cells #[.int .i64 x.op,.int .i64 x.a,.int .i64 x.b,.int .i64 x.c,.string x.name] 76)).drew.heap.size:=qzE hrs hbV.size;have q0:=hK2.cell (qzA hbV HR.out.r0) (by rw[HR.out.r4];omega)
   have q1:=hK2.cell (qzA hbV HR.out.r1) (by rw[HR.out.r4];omega)
   have qf:∀ o,w2.frozen? ⟨w.heap.size,o,none⟩=false:=fun o=>xb6 hK2 hz (by rw[HR.out.r4];omega) ((hbV.frozen (p:=⟨w.heap.size,o,none⟩) hrs).trans (HR.out.rf o))
   have HM2:=hid ((HM.out.later hbV).keep (.refl _ _) hK2 (by omega) (by omega) (by omega))
   have HL2:=hid (hC.keep (hC.keep HR.out.lk (.refl _ _) (Kp.of_below (S:=fun _=>False) hbV) id id) (.refl _ _) hK2 (by omega) (by omega))
   have HK2:=hid ((HR.out.kp.on hbV).trans HR.out.ext (hK2.mono (S':=All K) fun t h=>by unfold All;omega))
   clear hF1 hK2 hbV hc12 hc11 hcf i0 i1 i2 i3 i4;go_wp2;rw[HV.out];refine qzK (v:=.tuple #[VV f.top,.int .i64 0]) ?_ rfl ⟨rfl,⟨T1,HR.out.ext,⟨_,_,_,HM2.out.keep (.refl _ _) (((Kp.refl (fun t=>t=4) _ _).set (fun _=>HR.out.r4) _ _).set (fun _=>HR.out.r4) _ _) (by omega) (by omega) (by omega)⟩,?_⟩,(HK2.out.set (fun h=>absurd h (Nat.lt_irrefl _)) _ _).set (fun h=>absurd h (Nat.lt_irrefl _)) _ _⟩
   ·simp[results,Tryz.results81,go_sem,q0,q1]
   ·rw[if_pos rfl]
    exact hC.keep HL2.out (.refl _ _) (((Kp.refl (fun t=>t=4) _ _).set (fun _=>HR.out.r4) _ _).set (fun _=>HR.out.r4) _ _) (by omega) (by omega)
  ·have h17':(x.op == 17)=false:=by simpa using h17
   rw[if_neg h17] at HV;have H17:=hid h17;clear h17;have hk2:Kp (fun t=>t=K) T1 wr (wr.setCell ⟨fb,12,none⟩ (.int .i64 ((k:Int)+1))):=(Kp.refl _ _ _).set (fun _=>HF.out.tag) _ _
   have hbV:Below (wr.setCell ⟨fb,12,none⟩ (.int .i64 ((k:Int)+1))).heap.size (wr.setCell ⟨fb,12,none⟩ (.int .i64 ((k:Int)+1))) ((wr.setCell ⟨fb,12,none⟩ (.int .i64 ((k:Int)+1))).alloc (.cells #[.int .i64 x.op,.int .i64 x.a,.int .i64 x.b,.int .i64 x.c,.string x.name] 76)).drew:=(xaj _ _).drew;have hz0:(wr.setCell ⟨fb,12,none⟩ (.int .i64 ((k:Int)+1))).heap.size=wr.heap.size:=by simp
   have hkV:Kp (fun t=>t=K) T1 wr ((wr.setCell ⟨fb,12,none⟩ (.int .i64 ((k:Int)+1))).alloc (.cells #[.int .i64 x.op,.int .i64 x.a,.int .i64 x.b,.int .i64 x.c,.string x.name] 76)).drew:=hk2.on hbV
   have hF1:=(HF.out.pcAt hk2 ((k:Int)+1) (xgr HF.out.box _)).later hbV;have hM1:=HM.out.keep (.refl _ _) hkV (by omega) (by omega) (by omega)
   have hL1:=hC.keep HR.out.lk (.refl _ _) hkV (by omega) (by omega)
   have hFo1:FOk p.E.cz m.heap.length { f with pc:=(k:Int)+1 }:=⟨HR.out.fo.self,HR.out.fo.args,HR.out.fo.temps,HR.out.fo.stack,HR.out.fo.code,HR.out.fo.plain⟩
   have hstep:=xlN hC hEn hM1 hF1 hL1 HR.out.min hFo1 (by have:=HR.out.room;show f.stack.length<=_;omega) hd (k:Int) x (fun hf h18=>HR.out.gd hf x (List.mem_of_getElem? HX.out) h18)
   have hmem:x∈f.code:=List.mem_of_getElem? HX.out;have hcod:=HR.out.fo.code x hmem;have P1:=hid (xgl hC.ok (xhl hC.ok d) d HR.out.min.heap hFo1 (k:Int) hcod.1 hcod.2);have P2:=hid (xh5 (xlf p.E d) d HR.out.min.sz_.2 { f with pc:=(k:Int)+1 } (k:Int) x)
   have P3:=hid (xei (xcU p.E d) p.E d m { f with pc:=(k:Int)+1 } (k:Int) x)
   have P4:Hid ((xan (xa1 p.E d) p.E d m { f with pc:=(k:Int)+1 } (k:Int) x).2.2=0->(xan (xa1 p.E d) p.E d m { f with pc:=(k:Int)+1 } (k:Int) x).1.turns<=300):=fun h0=>xkU (xob p.E d) d HR.out.min.turns.2 (f:={ f with pc:=(k:Int)+1 }) h0
   have P5:Hid (xmK (xan (xa1 p.E d) p.E d m { f with pc:=(k:Int)+1 } (k:Int) x).2.1):=xnW (f:={ f with pc:=(k:Int)+1 }) HR.out.gd (k:Int) x
   have P7:Hid ((xan (xa1 p.E d) p.E d m { f with pc:=(k:Int)+1 } (k:Int) x).2.2=0->(xan (xa1 p.E d) p.E d m { f with pc:=(k:Int)+1 } (k:Int) x).2.1.stack.length+muE (xan (xa1 p.E d) p.E d m { f with pc:=(k:Int)+1 } (k:Int) x).1 (xan (xa1 p.E d) p.E d m { f with pc:=(k:Int)+1 } (k:Int) x).2.1<=1000000):=fun h0=>by
    have:=xkV (xcU p.E d) (E:=p.E) (d:=d) (x:=x) HR.out.min.turns.1 (f:=f) (by rw[HPC.out];omega) (by rw[HPC.out];simpa using hkl) (by rw[HPC.out];exact h0) HR.out.room
    rw[HPC.out] at this
    exact this
   have P6:Hid ((xan (xa1 p.E d) p.E d m { f with pc:=(k:Int)+1 } (k:Int) x).2.2=0->muE (xan (xa1 p.E d) p.E d m { f with pc:=(k:Int)+1 } (k:Int) x).1 (xan (xa1 p.E d) p.E d m { f with pc:=(k:Int)+1 } (k:Int) x).2.1<muE m f):=fun h0=>by
    have:=xhK (xcU p.E d) (E:=p.E) (d:=d) (x:=x) HR.out.min.turns.1 (f:=f) (by rw[HPC.out];omega) (by rw[HPC.out];simpa using hkl) (by rw[HPC.out];exact h0)
    rw[HPC.out] at this
    exact this
   clear hF1 hM1 hL1 hFo1 hcod;generalize xan (xa1 p.E d) p.E d m { f with pc:=(k:Int)+1 } (k:Int) x=r at *
   go_wp2_with fail;refine hstep.mono ?_;rintro e w3 ⟨rfl,⟨T3,hX3,⟨hv3,g3,s3,hM3⟩,hL3,hF3⟩,hK3⟩;have hrs:=HR.out.sz;have hz1:w.heap.size<((wr.setCell ⟨fb,12,none⟩ (.int .i64 ((k:Int)+1))).alloc (.cells #[.int .i64 x.op,.int .i64 x.a,.int .i64 x.b,.int .i64 x.c,.string x.name] 76)).drew.heap.size:=qzE hrs hkV.size;have q0:=hK3.cell (hkV.cell HR.out.r0 (by rw[HR.out.r4];omega)) (by rw[HR.out.r4];unfold All;omega)
   have q1:=hK3.cell (hkV.cell HR.out.r1 (by rw[HR.out.r4];omega)) (by rw[HR.out.r4];unfold All;omega)
   have qf:∀ o,w3.frozen? ⟨w.heap.size,o,none⟩=false:=fun o=>xb6 hK3 hz1 (by rw[HR.out.r4];unfold All;omega) (xb6 hkV hrs (by rw[HR.out.r4];omega) (HR.out.rf o))
   have HE3:=hid (HR.out.ext.trans HR.out.kp.size (fun b hb=>hX3 b (qzE hb hkV.size)))
   have HK3:=hid ((HR.out.kp.trans HR.out.ext (hkV.mono (S':=All K) fun t h=>by unfold All;omega)).trans HR.out.ext hK3)
   have HT3:Hid (T3 w.heap.size=4):=by show _=_;rw[hX3 _ hz1];exact HR.out.r4
   have HZ3:Hid (w.heap.size<w3.heap.size):=qzE hz1 hK3.size;have HM3:=hid hM3;have HL3:=hid hL3;have HF3:=hid hF3;clear hstep hX3 hM3 hL3 hF3 hK3 hc12 hc11 hcf i0 i1 i2 i3 i4 hk2 hbV hkV hz1
   by_cases he:r.2.2=0
   ·have he':(r.2.2 != 0)=false:=by simpa using he
    have HE0:=hid he;rw[if_neg (by simpa using he)] at HV
    go_wp2
    go_roundg G'
    case measure=>have:=HGK.out;omega
    case rel=>
     have hL4:=HL3.out;rw[if_pos HE0.out] at hL4;have hst:=P1.out;refine⟨T3,r.1,r.2.1,HE3.out,HK3.out,⟨_,_,_,HM3.out⟩,HF3.out HE0.out,hL4,⟨hst.1.heap,⟨by have:=P2.out;have:=HR.out.min.sz_;omega,P2.out.1⟩,⟨by have:=P3.out;have:=HR.out.min.turns;omega,P4.out HE0.out⟩⟩,hst.2 HE0.out,P5.out,P7.out HE0.out,?_,HV.out.symm,q0,q1,qf,HT3.out,HZ3.out⟩
     have h1:=P6.out HE0.out;have h2:=HR.out.mu;have h3:=HGK.out
     omega
   ·have he':(r.2.2 != 0)=true:=by simpa using he
    have HE0:=hid he;rw[if_pos he] at HV;clear he;go_wp2;rw[HV.out];refine qzK (v:=.tuple #[VV xaU,.int .i64 r.2.2]) ?_ rfl ⟨rfl,⟨T3,HE3.out,⟨_,_,_,HM3.out.keep (.refl _ _) (((Kp.refl (fun t=>t=4) _ _).set (fun _=>HT3.out) _ _).set (fun _=>HT3.out) _ _) (by omega) (by omega) (by omega)⟩,?_⟩,(HK3.out.set (fun h=>absurd h (Nat.lt_irrefl _)) _ _).set (fun h=>absurd h (Nat.lt_irrefl _)) _ _⟩
    ·simp[results,Tryz.results81,go_sem,q0,q1]
    ·have hL4:=HL3.out;rw[if_neg HE0.out] at hL4 ⊢
     exact hC.keep hL4 (.refl _ _) (((Kp.refl (fun t=>t=4) _ _).set (fun _=>HT3.out) _ _).set (fun _=>HT3.out) _ _) (by omega) (by omega)
end
section
variable {σ:Type}
variable {p:Mp σ} {L:(Nat->Nat)->World->σ->Nat->Prop} {LF QF:Nat} {lc qc:Array Value} {T T':Nat->Nat} {w w':World} {mb:Nat} {m m':Mc σ} {hv:Value} {g:Nat} {s:Nat->Nat} {K fb:Nat} {f:Fr} {cv av tv sv kv:Value}
theorem xmv (c n:Int)(w:World):Calls Tryz.prog 24 #[.int .i64 c,.int .i64 n] w fun e w'=>e=.returned (.tuple #[FaV 0 ⟨#[]⟩ 0 0 (.slice none 0 0),.bool false])/\Below w.heap.size w w':=by
 go_enter Tryz.func24,Tryz.ntmps24;go_wp2;refine qzK (v:=.tuple #[FaV 0 ⟨#[]⟩ 0 0 (.slice none 0 0),.bool false]) ?_ rfl ⟨rfl,xaj _ _⟩
 simp[results,Tryz.results24,go_sem]
structure EnR (w:World)(sf:QV)(w':World):Prop where
 s0:w'.cell? ⟨w.heap.size,0,none⟩=some (.int .i64 sf.k)
 s1:w'.cell? ⟨w.heap.size,1,none⟩=some (.int .i64 sf.n)
 r0:w'.cell? ⟨w.heap.size+1,0,none⟩=some (.int .i64 0)
 r1:w'.cell? ⟨w.heap.size+1,1,none⟩=some (.int .i64 0)
 rf:∀ o,w'.frozen? ⟨w.heap.size+1,o,none⟩=false
 sz:w.heap.size+2<=w'.heap.size
theorem EnR.kp {w:World}{self:QV}{w' w'':World}{S:Nat->Prop}{T:Nat->Nat}(h:EnR w self w')(k:Kp S T w' w'')(h1:¬ S (T w.heap.size))(h2:¬ S (T (w.heap.size+1))):EnR w self w'':=
 ⟨k.cell h.s0 h1,k.cell h.s1 h1,k.cell h.r0 h2,k.cell h.r1 h2,fun o=>xb6 k (by have:=h.sz;omega) h2 (h.rf o),qzD h.sz k.size⟩
theorem xhM (w:World)(self:QV):EnR w self ((w.alloc (.cells #[.int .i64 self.k,.int .i64 self.n] 27)).alloc (.cells #[.int .i64 0,.int .i64 0] 27)):=by
 obtain⟨a0,a1,r0,r1,rf,sz⟩:=xkp w self
 exact⟨a0,a1,r0,r1,rf,sz⟩
theorem EnPost.fin {calls:Int}{T1:Nat->Nat}{U:World}{r:Mc σ × QV × Int}(hC:Cx p L LF lc QF qc)(hE:Ext T T1 w)(hM:MacAt p T1 U mb r.1 calls hv g s)(hL:L T1 U r.1.st (if r.2.2=0 then xc7 p.E r.1 else 0))(hK:Kp (All K) T w U)(h4:T1 (w.heap.size+1)=4)(u0 u1:Value):EnPost p L T w mb calls K r (.returned (.tuple #[VV r.2.1,.int .i64 r.2.2])) ((U.setCell ⟨w.heap.size+1,0,none⟩ u0).setCell ⟨w.heap.size+1,1,none⟩ u1):=by
 have k:Kp (fun t=>t=4) T1 U ((U.setCell ⟨w.heap.size+1,0,none⟩ u0).setCell ⟨w.heap.size+1,1,none⟩ u1):=((Kp.refl (fun t=>t=4) _ _).set (fun _=>h4) _ _).set (fun _=>h4) _ _
 exact⟨rfl,⟨T1,hE,⟨_,_,_,hM.keep (.refl _ _) k (by omega) (by omega) (by omega)⟩,hC.keep hL (.refl _ _) k (by omega) (by omega)⟩,(hK.set (fun h=>absurd h (by omega)) _ _).set (fun h=>absurd h (by omega)) _ _⟩
def xie (E:Env σ):Nat->Mc σ->Fr->Mc σ × QV × Int
 | 0=>fun m _=>(m,xaU,14)
 | d+1=>fun m f=>xcL (xa1 E d) E d (xeQ f) m f
theorem xlq (E:Env σ)(d:Nat):xa1 E d=xbj E d (xie E d):=by cases d<;>rfl
theorem FrNew.later (h:FrNew T K w fb f cv av)(hb:Below w.heap.size w w'):FrNew T K w' fb f cv av:=⟨xac h.box hb,h.tag,h.args.fx xaK (.refl _ _) (Kp.of_below (S:=fun _=>False) hb) id,h.meth.fx xbl (.refl _ _) (Kp.of_below (S:=fun _=>False) hb) id,h.pos,h.stack⟩
theorem xkc {c k:Int}{mt:QM}{self:QV}{args:List QV}(h:FrNew T K w fb ⟨c,mt,self,args,[],[],[],0,false⟩ cv av)(E:Env σ)(fc:Int)(fn:ByteArray)(fe ft:Int)(kq:Value)(hq:∀ q,E.quick c k=some q->ft=q.2/\xa5 (Fx T w) w kq q.1):Calls Tryz.prog 80 #[.pointer (some ⟨fb,0,none⟩),FaV fc fn fe ft kq,.bool (E.quick c k).isSome] w fun e w'=>e=.returned (.tuple #[])/\∃ T' tv sv kv,Ext T T' w/\FrAt T' K w' fb (xaG E c k mt self args) cv av tv sv kv/\Kp (fun t=>t=K) T w w':=by
 unfold xaG
 cases hk:E.quick c k with
 | none=>exact xil h rfl kq fc fn fe ft
 | some q=>
  obtain⟨rfl,hc⟩:=hq q hk
  exact xjI h kq fc fn fe q.2 q.1 hc
theorem xlU (E:Env σ)(c k:Int)(mt:QM)(self:QV)(args:List QV):(xaG E c k mt self args).cls=c/\(xaG E c k mt self args).meth=mt/\(xaG E c k mt self args).self=self/\(xaG E c k mt self args).args=args/\(xaG E c k mt self args).stack=[]:=by
 unfold xaG
 split<;>exact⟨rfl,rfl,rfl,rfl,rfl⟩
theorem xmw (hC:Cx p L LF lc QF qc){h:Int}{c k:Int}{mt:QM}(hm:xaO p.E.cz c k=some mt){self:QV}{args:List QV}(hs:xas h self=0)(ha:VsOk h args):FOk p.E.cz h (xaG p.E c k mt self args)/\xmK (xaG p.E c k mt self args)/\xeQ (xaG p.E c k mt self args)<=1000000:=by
 obtain⟨f1,f2⟩:=hC.few c k mt hm;unfold xaG
 cases hk:p.E.quick c k with
 | none=>exact⟨⟨hs,ha,xc8 _ _,(fun v hv=>by cases hv),hC.ok.meths _ _ _ hm,hC.ok.meths _ _ _ hm⟩,(fun h=>by cases h),by unfold xeQ;simp only;omega⟩
 | some q=>
  obtain⟨g1,g2⟩:=f2 q hk
  exact⟨⟨hs,ha,xc8 _ _,(fun v hv=>by cases hv),hC.ok.fast _ _ _ hk,hC.ok.meths _ _ _ hm⟩,fun _=>g2,by unfold xeQ;simp only;omega⟩
theorem xgK (hC:Cx p L LF lc QF qc)(d:Nat)(hd:d<=20)(hIh:∀ d',d=d'+1->xek p L d'):xek p L d:=by
 intro K T w mb m hv g s c n self args av hK5 h hL hI hSe hAr hA;have hX:=xao T w 4;have hT4:∀ b,w.heap.size<=b->xau T w 4 b=4:=fun b hb=>xav hb
 have hb1:=xca w (.cells #[.int .i64 self.k,.int .i64 self.n] 27) (.cells #[.int .i64 0,.int .i64 0] 27);have hM0:=(h.tagged0 4).later hb1;have hA0:=(xdR hA xaK 4).fx xaK (.refl _ w) (Kp.of_below (S:=fun _=>False) hb1) id
 have hL0:=hC.keep (hC.keep hL hX (Kp.refl (fun _=>False) _ _) id id) (.refl _ _) (Kp.of_below (S:=fun _=>False) hb1) id id
 have hR0:=xhM w self;have HKW:Hid (Kp (All K) T w ((w.alloc (.cells #[.int .i64 self.k,.int .i64 self.n] 27)).alloc (.cells #[.int .i64 0,.int .i64 0] 27))):=Kp.of_below hb1;obtain⟨aa,ca,rfl,-⟩:=id hA;have hlm:=xaf h.box;clear h hA hL;generalize xau T w 4=T1 at *;have t0:T1 w.heap.size=4:=hT4 _ (qzC _);have t1:T1 (w.heap.size+1)=4:=hT4 _ (by omega)
 go_enter Tryz.func61,Tryz.ntmps61
 go_upto_region 1 with (fail)
 generalize ((w.alloc (.cells #[.int .i64 self.k,.int .i64 self.n] 27)).alloc (.cells #[.int .i64 0,.int .i64 0] 27))=W at *;have hhas:=xmm hM0 c n;have HEN:Hid (xa1 p.E d m c n self args=xbj p.E d (xie p.E d) m c n self args):=by show _=_;rw[xlq]
 go_wp2_with fail;refine hhas.mono ?_;rintro e w1 ⟨rfl,hbw⟩;have hM1:=hM0.later hbw;have hA1:=hA0.fx xaK (.refl _ _) (Kp.of_below (S:=fun _=>False) hbw) id
 have hL1:=hC.keep hL0 (.refl _ _) (Kp.of_below (S:=fun _=>False) hbw) id id
 have hR1:=hR0.kp (T:=T1) (S:=fun _=>False) (Kp.of_below hbw) id id
 have HK1:=hid (HKW.out.on hbw);clear hhas hM0 hA0 hL0 hR0 hbw hb1;obtain⟨s0,s1,r0,r1,rf,sz⟩:=id hR1
 cases hma:xaO p.E.cz c n with
 | none=>
  have HE:Hid (xa1 p.E d m c n self args=(m,xaU,10)):=by show _=_;rw[HEN.out];unfold xbj;rw[hma]
  clear hma HEN;have Q:=fun u0 u1=>EnPost.fin (r:=(m,xaU,10)) hC hX hM1 (by rw[if_neg (by simp)];exact hC.mono hL1 (Nat.zero_le _)) HK1.out t1 u0 u1
  have HQ:=hid Q;clear Q hM1 hL1 hA1 hR1;go_wp2;rw[HE.out];refine qzK (v:=.tuple #[VV xaU,.int .i64 10]) ?_ rfl (HQ.out _ _)
  simp[results,Tryz.results61,go_sem,r0,r1]
 | some mt=>
  obtain⟨kc,kn,xc,rfl,rfl,hxc,hxm⟩:=xej hma;obtain⟨ac,cc,hcv,hcl,hcc,-,hrow⟩:=hM1.cls;obtain⟨bc,oc,hac,-,e0,e1,e2,e3,mv,e4,hmv⟩:=hrow kc xc hxc;obtain⟨am,cm,rfl,hml,hcm,-,hrowm⟩:=hmv;obtain⟨bm,om,rfl,hbm,f0,f1,f2,f3,f4,cv,f5,hcode⟩:=hrowm kn mt hxm;obtain⟨ak,ck,rfl,-⟩:=id hcode;have m0:=hM1.c0;rw[hcv,hac] at m0;simp only[Nat.add_zero] at e0 f0;unfold maxLen at hcc hcm;have l1:=xae hxc;have l2:=xae hxm;have c1:(kc:Int)<(p.E.cz.length:Int):=by omega
  have c2:(kn:Int)<(xc.mz.length:Int):=by omega
  have c3:(0:Int)<=(kc:Int):=by omega
  have c4:(0:Int)<=(kn:Int):=by omega
  clear hrow hrowm hcv hac hxc hxm;have hbV:=xaj w1 (.cells #[.string mt.name,.int .i64 mt.args,.int .i64 mt.temps,.int .i64 mt.prim,.slice ak mt.code.length ck] 59);have hM2:=hM1.later hbV;have hA2:=hA1.fx xaK (.refl _ _) (Kp.of_below (S:=fun _=>False) hbV) id
  have hCo2:=hcode.fx xbl (.refl _ _) (Kp.of_below (S:=fun _=>False) hbV) id
  have hL2:=hC.keep hL1 (.refl _ _) (Kp.of_below (S:=fun _=>False) hbV) id id
  have hR2:=hR1.kp (T:=T1) (S:=fun _=>False) (Kp.of_below hbV) id id
  have b0:=xaa w1 #[.string mt.name,.int .i64 mt.args,.int .i64 mt.temps,.int .i64 mt.prim,.slice ak mt.code.length ck] 59 _ rfl 0;have b1:=xaa w1 #[.string mt.name,.int .i64 mt.args,.int .i64 mt.temps,.int .i64 mt.prim,.slice ak mt.code.length ck] 59 _ rfl 1;have b2:=xaa w1 #[.string mt.name,.int .i64 mt.args,.int .i64 mt.temps,.int .i64 mt.prim,.slice ak mt.code.length ck] 59 _ rfl 2;have b3:=xaa w1 #[.string mt.name,.int .i64 mt.args,.int .i64 mt.temps,.int .i64 mt.prim,.slice ak mt.code.length ck] 59 _ rfl 3;have b4:=xaa w1 #[.string mt.name,.int .i64 mt.args,.int .i64 mt.temps,.int .i64 mt.prim,.slice ak mt.code.length ck] 59 _ rfl 4
  have HK2:=hid (HK1.out.on hbV);have tm:T1 w1.heap.size=4:=hT4 _ (by omega)
  have hMz:w1.heap.size<(w1.alloc (.cells #[.string mt.name,.int .i64 mt.args,.int .i64 mt.temps,.int .i64 mt.prim,.slice ak mt.code.length ck] 59)).heap.size:=by simp
  go_upto_region 4 with (fail)
  clear hM1 hA1 hL1 hR1 s0 s1 r0 r1 rf sz e0 e1 e2 e3 e4 f0 f1 f2 f3 f4 f5 m0 hcode hbV HK1;generalize (w1.alloc (.cells #[.string mt.name,.int .i64 mt.args,.int .i64 mt.temps,.int .i64 mt.prim,.slice ak mt.code.length ck] 59))=V at *;simp only[List.getElem?_toArray,List.getElem?_cons_zero,List.getElem?_cons_succ] at b0 b1 b2 b3 b4;generalize w1.heap.size=MBk at *;obtain⟨s0,s1,r0,r1,rf,sz⟩:=id hR2
  have HN:Hid (xa1 p.E d m kc kn self args=if mt.args≠args.length then (m,xaU,8) else if mt.prim≠0 then xa7 p.E m mt.prim self args else if (xay p.E d m).2≠0 then (m,xaU,(xay p.E d m).2) else xie p.E d (xay p.E d m).1 (xaG p.E kc kn mt self args)):=by
   show _=_
   rw[HEN.out];unfold xbj xa7;rw[hma]
  have HMA:=hid hma;clear hma HEN
  by_cases hag:mt.args=(args.length:Int)
  ·have hag':(mt.args != (args.length:Int))=false:=by simpa using hag
   rw[if_neg (by simpa using hag)] at HN
   have HAG:=hid hag;clear hag
   by_cases hpr:mt.prim=0
   ·have hpr':(mt.prim != 0)=false:=by simpa using hpr
    rw[if_neg (by simpa using hpr)] at HN
    have HPR:=hid hpr;clear hpr;have hcc:=xd7 d hM2 hI.sz_.1 (by have:=hC.fuel;omega) rfl hd
    obtain⟨m3,e3,hce⟩:∃ m3 e3,xay p.E d m=(m3,e3):=⟨_,_,rfl⟩;rw[hce] at hcc HN;go_wp2_with fail;refine hcc.mono ?_;rintro e w3 ⟨rfl,hM3,hK3⟩;have hR3:=hR2.kp hK3 (by rw[t0];omega) (by rw[t1];omega)
    have hL3:=hC.keep hL2 (.refl _ _) hK3 (by omega) (by omega)
    have hA3:=hA2.fx xaK (.refl _ _) hK3 (by omega)
    have hCo3:=hCo2.fx xbl (.refl _ _) hK3 (by omega)
    have d0:=hK3.cell b0 (by rw[tm];omega)
    have d1:=hK3.cell b1 (by rw[tm];omega)
    have d2:=hK3.cell b2 (by rw[tm];omega)
    have d3:=hK3.cell b3 (by rw[tm];omega)
    have d4:=hK3.cell b4 (by rw[tm];omega)
    have HK3:=hid (HK2.out.trans hX (hK3.mono (S':=All K) fun t h=>Or.inl h))
    have hMz3:MBk<w3.heap.size:=qzE hMz hK3.size;clear hcc hM2 hA2 hL2 hR2 s0 s1 r0 r1 rf sz b0 b1 b2 b3 b4 hK3 hCo2;obtain⟨s0,s1,r0,r1,rf,sz⟩:=id hR3
    by_cases her:e3=0
    ·subst her;have her':((0:Int) != 0)=false:=by simp
     rw[if_neg (by simp)] at HN
     obtain⟨hd0,hm3,hfu⟩:d≠0/\m3={ m with sz_:=m.sz_+1 }/\¬ p.E.fuel<=m.sz_:=by
      unfold xay at hce
      split at hce
      ·cases hce
      ·rename_i k
       split at hce
       ·cases hce
       ·rename_i k2;exact⟨k2,(congrArg Prod.fst hce).symm,k⟩
     obtain⟨d',rfl⟩:∃ d',d=d'+1:=⟨d-1,by omega⟩
     clear hd0 hce;obtain⟨hFo,hGd,hGas⟩:=xmw hC HMA.out hSe hAr;have hStk:=(xlU p.E kc kn mt self args).2.2.2.2;have HN2:Hid (xa1 p.E (d'+1) m kc kn self args=xcL (xa1 p.E d') p.E d' (xeQ (xaG p.E kc kn mt self args)) m3 (xaG p.E kc kn mt self args)):=HN.out;clear HN
     have hI3:MIn p.E m3:=by
      rw[hm3]
      exact⟨hI.heap,⟨by have:=hI.sz_;simp only;omega,by simp only;omega⟩,hI.turns⟩
     have hFo3:FOk p.E.cz m3.heap.length (xaG p.E kc kn mt self args):=by
      rw[hm3]
      exact hFo
     have hRm3:(xaG p.E kc kn mt self args).stack.length+muE m3 (xaG p.E kc kn mt self args)<=1000000:=by
      have:=xkZ (f:=xaG p.E kc kn mt self args) hI3.turns.1;rw[hStk];simp only[List.length_nil]
      omega
     clear hFo hGas hStk
     have hL3':L T1 w3 m3.st (xc7 p.E m3):=by
      rw[hm3]
      exact hC.mono hL3 (by unfold xc7;simp only;omega)
     clear hL3 hm3 hfu;have HMN:Hid (MBk<w3.heap.size):=hMz3;have q8:=hM3.c8;rw[hC.qv] at q8;have hbF:=xaj w3 (FB ⟨kc,mt,self,args,[],[],[],0,false⟩ (.slice ak mt.code.length ck) (.slice aa args.length ca) (.slice none 0 0) (.slice none 0 0) (.slice none 0 0));have hX4:Ext T1 (xhE T1 w3.heap.size K) w3:=xd5 (qzC _);have hkF:Kp (fun _=>False) T1 w3 _:=Kp.of_below hbF
     have hM4:=hM3.keep hX4 hkF id id id;have hL4:=hC.keep hL3' hX4 hkF id id;have hR4:=hR3.kp (T:=T1) hkF id id
     have hNew:FrNew (xhE T1 w3.heap.size K) K (w3.alloc (FB ⟨kc,mt,self,args,[],[],[],0,false⟩ (.slice ak mt.code.length ck) (.slice aa args.length ca) (.slice none 0 0) (.slice none 0 0) (.slice none 0 0))) w3.heap.size ⟨kc,mt,self,args,[],[],[],0,false⟩ (.slice ak mt.code.length ck) (.slice aa args.length ca):=
      ⟨qzJ w3 _,xdv _ _ _,hA3.fx xaK hX4 hkF id,hCo3.fx xbl hX4 hkF id,hK5,rfl⟩
     have HK4:=hid (HK3.out.on hbF);have t04:xhE T1 w3.heap.size K w.heap.size=4:=by rw[hX4 _ (by omega)];exact t0
     have t14:xhE T1 w3.heap.size K (w.heap.size+1)=4:=by rw[hX4 _ (by omega)];exact t1
     have HE4:Hid (Ext T (xhE T1 w3.heap.size K) w):=hX.trans HK3.out.size hX4;have q84:=hM4.c8;rw[hC.qv] at q84;have hcf:=hC.qcf
     go_upto_region 12 with (fail)
     generalize xhE T1 w3.heap.size K=T4 at *;generalize (w3.alloc (FB ⟨kc,mt,self,args,[],[],[],0,false⟩ (.slice ak mt.code.length ck) (.slice aa args.length ca) (.slice none 0 0) (.slice none 0 0) (.slice none 0 0)))=V4 at *;clear d0 d1 d2 d3 d4 s0 s1 r0 r1 rf sz q8 hM3 hL3' hR3 hA3 hCo3 hbF hkF hX4;go_wp2_with fail;refine (hC.quick T4 V4 _ kc kn mt _ hL4 HMA.out).mono ?_;rintro e w5 ⟨⟨fc,fn,fe,ft,aq,nq,cq,rfl,hq5⟩,hb5⟩;have hk5:Kp (fun _=>False) T4 V4 w5:=Kp.of_below hb5
     have hM5:=hM4.later hb5;have hL5:=hC.keep hL4 (.refl _ _) hk5 id id;have hR5:=hR4.kp hk5 id id;have hNew5:=hNew.later hb5;have HK5:=hid (HK4.out.on hb5);clear hM4 hL4 hR4 hNew q84 hk5;go_wp2_with fail;refine (xkc hNew5 p.E fc fn fe ft _ hq5).mono ?_;rintro e w6 ⟨rfl,T6,tv,sv,kv,hX6,hF6,hK6⟩;have hM6:=hM5.keep hX6 hK6 (by omega) (by omega) (by omega)
     have hL6:=hC.keep hL5 hX6 hK6 (by omega) (by omega)
     have hR6:=hR5.kp hK6 (by rw[t04];omega) (by rw[t14];omega)
     have hsz5:=hR5.sz;have t06:T6 w.heap.size=4:=by rw[hX6 _ (by omega)];exact t04
     have t16:T6 (w.heap.size+1)=4:=by rw[hX6 _ (by omega)];exact t14
     have HE6:=hid (HE4.out.trans HK5.out.size hX6);have HK6:=hid (HK5.out.trans HE4.out (hK6.mono (S':=All K) fun t h=>by unfold All;omega))
     clear hM5 hL5 hR5 hNew5 hX6 hK6;have m5:=hM6.c5;have mf:=xam hM6.box;have hcw:IntKind.i64.wrap (20-((d'+1:Nat):Int)+1)=20-(d':Int):=by rw[xaE (by omega) (by omega)];omega
     have hcw2:IntKind.i64.wrap (20-(d':Int)-1)=20-((d'+1:Nat):Int):=by rw[xaE (by omega) (by omega)];omega
     obtain⟨cA,hcA⟩:∃ cA:Int,cA=20-((d'+1:Nat):Int):=⟨_,rfl⟩;obtain⟨cB,hcB⟩:∃ cB:Int,cB=20-(d':Int):=⟨_,rfl⟩;rw[← hcA] at m5 hcw hcw2;rw[← hcB] at hcw hcw2;have HCA:=hid hcA;have HCB:=hid hcB;clear hcA hcB;have k7:Kp (fun t=>t=1) T6 w6 (w6.setCell ⟨mb,5,none⟩ (.int .i64 cB)):=(Kp.refl _ _ _).set (fun _=>hM6.tag) _ _
     have hM7:MacAt p T6 (w6.setCell ⟨mb,5,none⟩ (.int .i64 cB)) mb m3 (20-(d':Int)) hv g s:=hM6.turn (m':=m3) k7 (by rw[xkj hM6.box,HCB.out]) rfl
     have hF7:=hF6.keep (.refl _ _) k7 (by omega) (by omega) (by omega) (by omega)
     have hL7:=hC.keep hL6 (.refl _ _) k7 (by omega) (by omega)
     have hR7:=hR6.kp k7 (by rw[t06];omega) (by rw[t16];omega)
     have HK7:=hid (HK6.out.trans HE6.out (k7.mono (S':=All K) fun t h=>Or.inl h))
     have hfin:=xjh hC (by omega) (hIh d' rfl) hM7 hF7 hL7 hI3 hFo3 hGd hRm3
     generalize xcL (xa1 p.E d') p.E d' (xeQ (xaG p.E kc kn mt self args)) m3 (xaG p.E kc kn mt self args)=R at *;go_wp2_with fail;refine (hfin).mono ?_;rintro e w8 ⟨rfl,⟨T8,hX8,⟨hv8,g8,s8,hM8⟩,hL8⟩,hK8⟩;obtain⟨rm,v,er⟩:=R;simp only at hM8 hL8;have hR8:=hR7.kp hK8 (by rw[t06];unfold All;omega) (by rw[t16];unfold All;omega)
     have hsz7:=hR7.sz;have t18:T8 (w.heap.size+1)=4:=by rw[hX8 _ (by omega)];exact t16
     have t08:T8 w.heap.size=4:=by rw[hX8 _ (by omega)];exact t06
     have HE8:=hid (HE6.out.trans HK7.out.size hX8);have HK8:=hid (HK7.out.trans HE6.out hK8);have m58:=hM8.c5;rw[← HCB.out] at m58;have mf8:=xam hM8.box;have hlm8:mb<w8.heap.size:=xaf hM8.box;have hn8:¬ mb=w8.heap.size:=by omega
     have hn8':¬ w8.heap.size=mb:=by omega
     have HM8:=hid hM8;have HL8:=hid hL8;clear hfin hM7 hF7 hL7 hR7 hM6 hF6 hL6 hR6 k7 m5 mf hX8 hK8 hM8 hL8 hI3 hFo3 hGd hRm3 hcf;have kS:Kp (fun t=>t=1) T8 w8 (w8.setCell ⟨mb,5,none⟩ (.int .i64 cA)):=(Kp.refl _ _ _).set (fun _=>HM8.out.tag) _ _
     have hMS:MacAt p T8 (w8.setCell ⟨mb,5,none⟩ (.int .i64 cA)) mb rm (20-((d'+1:Nat):Int)) hv8 g8 s8:=HM8.out.turn (m':=rm) kS (by rw[xkj HM8.out.box,HCA.out]) rfl
     have hbU:Below (w8.setCell ⟨mb,5,none⟩ (.int .i64 cA)).heap.size (w8.setCell ⟨mb,5,none⟩ (.int .i64 cA)) ((w8.setCell ⟨mb,5,none⟩ (.int .i64 cA)).alloc (.cells #[.int .i64 v.k,.int .i64 v.n] 27)):=xaj _ _;have kU:=kS.on hbU;have hMU:=hMS.later hbU;have hLU:=hC.keep HL8.out (.refl _ _) kU (by omega) (by omega)
     have hRU:=hR8.kp kU (by rw[t08];omega) (by rw[t18];omega)
     have v0:((w8.setCell ⟨mb,5,none⟩ (.int .i64 cA)).alloc (.cells #[.int .i64 v.k,.int .i64 v.n] 27)).cell? ⟨w8.heap.size,0,none⟩=some (.int .i64 v.k):=xaa _ _ _ _ (by simp) 0
     have v1:((w8.setCell ⟨mb,5,none⟩ (.int .i64 cA)).alloc (.cells #[.int .i64 v.k,.int .i64 v.n] 27)).cell? ⟨w8.heap.size,1,none⟩=some (.int .i64 v.n):=xaa _ _ _ _ (by simp) 1
     have HQ:=hid fun u0 u1=>EnPost.fin (r:=(rm,v,er)) hC HE8.out hMU hLU (HK8.out.trans HE8.out (kU.mono fun t h=>Or.inl h)) t18 u0 u1
     clear hMU hLU kU kS hMS hbU
     go_upto_region 16 with (fail)
     generalize ((w8.setCell ⟨mb,5,none⟩ (.int .i64 cA)).alloc (.cells #[.int .i64 v.k,.int .i64 v.n] 27))=U at *;obtain⟨s0,s1,r0,r1,rf,sz⟩:=id hRU;have hnz:¬ w.heap.size+1=w8.heap.size:=by have:=hR8.sz;omega
     have hnz':¬ w8.heap.size=w.heap.size+1:=by have:=hR8.sz;omega
     go_wp2;rw[HN2.out];refine qzK (v:=.tuple #[VV v,.int .i64 er]) ?_ rfl (HQ.out _ _)
     simp[results,Tryz.results61,go_sem,r0,r1]
    ·have her':(e3 != 0)=true:=by simpa using her
     rw[if_pos her] at HN
     have hm3:m3=m:=by
      have:(xay p.E d m).2≠0:=by rw[hce];exact her
      unfold xay at hce this
      split at hce
      ·exact (congrArg Prod.fst hce).symm
      ·rename_i k;rw[if_neg k] at this
       split at hce
       ·exact (congrArg Prod.fst hce).symm
       ·rename_i k2;rw[if_neg k2] at this;exact absurd rfl this
     subst hm3;have HQ:=hid fun u0 u1=>EnPost.fin (r:=(m3,xaU,e3)) hC hX hM3 (by rw[if_neg her];exact hC.mono hL3 (Nat.zero_le _)) HK3.out t1 u0 u1
     clear hM3 hL3 hA3 hR3 hce;go_wp2;rw[HN.out];refine qzK (v:=.tuple #[VV xaU,.int .i64 e3]) ?_ rfl (HQ.out _ _)
     simp[results,Tryz.results61,go_sem,r0,r1]
   ·have hpr':(mt.prim != 0)=true:=by simpa using hpr
    rw[if_pos (by simpa using hpr)] at HN
    clear hpr
    have hbd:∀ v:QV,xas m.heap.length v=0->v.k=3->-1073741824<=v.n/\v.n<=1073741824:=fun v hv h3=>by
     unfold xas xch at hv;rw[h3] at hv
     simp at hv
     omega
    have hpi:=xgv hM2 hI.sz_.1 (by have:=hC.fuel;omega) mt.prim self args _ hA2 (hbd _ hSe) (hbd _ (hAr.entry 0))
    have hsd:(xa7 p.E m mt.prim self args).1.st=m.st/\((xa7 p.E m mt.prim self args).2.2=0->xc7 p.E (xa7 p.E m mt.prim self args).1<=(p.E.fuel-m.sz_).toNat):=by
     unfold xa7
     split
     ·exact⟨rfl,fun h=>by cases h⟩
     ·exact⟨rfl,fun _=>by unfold xc7;simp only;omega⟩
    generalize xa7 p.E m mt.prim self args=r at *;go_wp2_with fail;refine hpi.mono ?_;rintro e w3 ⟨rfl,⟨T3,hX3,hM3⟩,hK3⟩;have hR3:=hR2.kp hK3 (by rw[t0];omega) (by rw[t1];omega)
    have hL3:=hC.keep hL2 hX3 hK3 (by omega) (by omega)
    have t3:T3 (w.heap.size+1)=4:=by rw[hX3 _ (by omega)];exact t1
    have hle:(if r.2.2=0 then xc7 p.E r.1 else 0)<=(p.E.fuel-m.sz_).toNat:=by
     by_cases h0:r.2.2=0
     ·rw[if_pos h0];exact hsd.2 h0
     ·rw[if_neg h0];exact Nat.zero_le _
    have HQ:=hid fun u0 u1=>EnPost.fin (r:=r) hC (hX.trans HK2.out.size hX3) hM3 (by rw[hsd.1];exact hC.mono hL3 hle) (HK2.out.trans hX (hK3.mono fun t h=>Or.inl h)) t3 u0 u1
    clear hpi hM2 hA2 hL2 hR2 s0 s1 r0 r1 rf sz b0 b1 b2 b3 b4 hK3 hM3 hL3;obtain⟨s0,s1,r0,r1,rf,sz⟩:=id hR3;go_wp2;rw[HN.out];refine qzK (v:=.tuple #[VV r.2.1,.int .i64 r.2.2]) ?_ rfl (HQ.out _ _)
    simp[results,Tryz.results61,go_sem,r0,r1]
  ·have hag':(mt.args != (args.length:Int))=true:=by simpa using hag
   rw[if_pos (by simpa using hag)] at HN
   clear hag;have HQ:=hid fun u0 u1=>EnPost.fin (r:=(m,xaU,8)) hC hX hM2 (by rw[if_neg (by simp)];exact hC.mono hL2 (Nat.zero_le _)) HK2.out t1 u0 u1
   clear hM2 hA2 hL2 hR2;go_wp2;rw[HN.out];refine qzK (v:=.tuple #[VV xaU,.int .i64 8]) ?_ rfl (HQ.out _ _)
   simp[results,Tryz.results61,go_sem,r0,r1]
theorem xg6 (hC:Cx p L LF lc QF qc):∀ d,d<=20->xek p L d
 | 0,hd=>xgK hC 0 hd (fun d' h=>by omega)
 | d+1,hd=>xgK hC (d+1) hd (fun d' h=>by
   have:d'=d:=by omega
   subst this
   exact xg6 hC d' (by omega))
end
theorem xk4 {σ:Type}(m:Mc σ)(f:Fr)(a b:Int):(xaX m f a b).2.1.fast=f.fast:=by
 unfold xaX
 by_cases h:b<=a
 ·simp only[h,if_true];split<;>rfl
 ·simp only[h,if_false];split<;>rfl
theorem xna {σ:Type}(ent:Ent σ)(E:Env σ)(d:Nat)(m:Mc σ)(f:Fr)(a:Int)(x:QI)(hf:f.fast=false):(xan ent E d m f a x).2.1.fast=false:=by
 unfold xan
 split
 ·exact hf
 ·split
  ·exact hf
  ·split
   ·exact hf
   ·split
    ·exact hf
    ·split
     ·exact hf
     ·split
      ·unfold xbQ;split<;>exact hf
      ·split
       ·unfold xcm;simp only;split<;>exact hf
       ·split
        ·rw[xk4];exact hf
        ·split
         ·unfold xbr
          split
          ·exact hf
          ·split
           ·rw[xk4];exact hf
           ·exact hf
         ·unfold xcl;rw[if_pos hf];exact hf
theorem xkl {P:Nat->Prop}(hs:List QO)(hv:Value)(v:QV)(n:Int)(w:World)(h:xaC P w hv hs):Calls Tryz.prog 69 #[hv,VV v,.int .i64 n] w fun e w'=>e=.returned (VV (xcV hs v n))/\Below w.heap.size w w':=by
 have hb1:=xca w (.cells #[.int .i64 v.k,.int .i64 v.n] 27) (.cells #[.int .i64 0,.int .i64 0] 27);have h1:=h.later xaD hb1;have hR0:=xhM w v;obtain⟨a,cap,rfl,-,hcap,-,-⟩:=id h;unfold maxLen at hcap;clear h;go_enter Tryz.func69,Tryz.ntmps69
 go_upto_region 1 with (fail)
 generalize ((w.alloc (.cells #[.int .i64 v.k,.int .i64 v.n] 27)).alloc (.cells #[.int .i64 0,.int .i64 0] 27))=W at *;obtain⟨b0,b1,r0,r1,rf,sz⟩:=id hR0
 cases hi:xdr hs.length v with
 | true=>
  obtain⟨j,o,hj,hjl,hjo,hob⟩:=xe6 hi;have hk:v.k=4:=by unfold xdr at hi;have:=of_decide_eq_true hi;exact this.1
  have HE:Hid (xcV hs v n=xaM o.slots n):=by show _=_;unfold xcV;rw[hob];rfl
  rw[hj] at b1;rw[hk] at b0;obtain⟨a',cap',e,-,-,-,hrow⟩:=h1
  cases e
  obtain⟨b,of,rfl,-,-,sv,e1,hsl⟩:=hrow j o hjo;obtain⟨asl,csl,rfl,hl2,hc2,-,hrs⟩:=id hsl;unfold maxLen at hc2;have hj1:(j:Int)<(hs.length:Int):=by omega
  have hj0:(0:Int)<=(j:Int):=by omega
  clear hj hjo hob hrow hk hi;go_wp2
  go_loopg [31] o.slots.length (fun g c wr=>∃ q:Nat,q+g=o.slots.length/\c=.int .i64 q/\Below W.heap.size W wr/\∀ i:Nat,i<q->(i:Int)≠n)
  case atStart=>exact⟨0,by omega,rfl,qzL _ _,fun i hi=>by omega⟩
  case round=>
   obtain⟨q,hq,rfl,hbel,hno⟩:=hrel;have HN:Hid (∀ i:Nat,i<q->(i:Int)≠n):=hno;clear hno
   by_cases hlt:q<o.slots.length
   ·obtain⟨b2,o2,rfl,-,y0,y1⟩:=hrs q o.slots[q] (by simp[hlt])
    have hxq:Hid (o.slots[q]?=some o.slots[q]):=by show _=_;simp[hlt]
    generalize o.slots[q]=x at *;simp only[Nat.add_zero] at y0;have z0:=qzA hbel y0;have z1:=qzA hbel y1;have hq1:(q:Int)<(o.slots.length:Int):=by omega
    have hq0:(0:Int)<=(q:Int):=by omega
    have hbx:=xaj wr (.cells #[.int .i64 x.k,.int .i64 x.n] 27);have hsz:=hbel.size;clear hrs
    by_cases hn:(q:Int)=n
    ·have HV:Hid (xaM o.slots n=x):=by show _=_;unfold xaM;rw[← hn,if_neg (by omega)];simp[hxq.out]
     have s0:=qzA hbx (qzA hbel r0);have s1:=qzA hbx (qzA hbel r1);have sf:∀ o,(wr.alloc (.cells #[.int .i64 x.k,.int .i64 x.n] 27)).frozen? ⟨w.heap.size+1,o,none⟩=false:=fun o=>((hbx.frozen (p:=⟨w.heap.size+1,o,none⟩) (by simp;omega)).trans (hbel.frozen (p:=⟨w.heap.size+1,o,none⟩) (by simp;omega))).trans (rf o)
     have hne:¬ w.heap.size+1=wr.heap.size:=by omega
     have hne':¬ wr.heap.size=w.heap.size+1:=by omega
     subst hn;go_wp2;refine qzK (v:=VV x) ?_ rfl ⟨by rw[HE.out,HV.out],(((xah hb1 hbel).alloc (by omega) _).setCell (by simp) _).setCell (by simp) _⟩
     simp[results,Tryz.results69,go_sem,s0,s1]
    ·have hd:((q:Int) == n)=false:=by simpa using hn
     have HQ:=hid hn;clear hn;go_wp2
     go_roundg (gk-1)
     case measure=>omega
     case rel=>
      refine⟨q+1,by omega,by go_num,xah hbel hbx,fun i hi=>?_⟩
      by_cases hiq:i=q
      ·subst hiq;exact HQ.out
      ·exact HN.out i (by omega)
   ·obtain rfl:q=o.slots.length:=by omega
    have HV:Hid (xaM o.slots n=xaU):=by
     show _=_
     unfold xaM
     split
     ·rfl
     ·rename_i hn;have:¬ n.toNat<o.slots.length:=fun h=>HN.out n.toNat h (by omega)
      rw[List.getElem?_eq_none (by omega)];rfl
    have hsz:=hbel.size;have s0:=qzA hbel r0;have s1:=qzA hbel r1;have sf:∀ o,wr.frozen? ⟨w.heap.size+1,o,none⟩=false:=fun o=>(hbel.frozen (p:=⟨w.heap.size+1,o,none⟩) (by simp;omega)).trans (rf o)
    go_wp2;refine qzK (v:=VV xaU) ?_ rfl ⟨by rw[HE.out,HV.out],((xah hb1 hbel).setCell (by simp) _).setCell (by simp) _⟩
    simp[results,Tryz.results69,go_sem,s0,s1]
 | false=>
  have hN:=xdO hi;have hi':¬ (v.k=4/\0<=v.n/\v.n<hs.length):=by unfold xdr at hi;exact of_decide_eq_false hi
  have HE:Hid (xcV hs v n=xaU):=by show _=_;unfold xcV;rw[hN];rfl
  clear hi hN h1
  by_cases h4:v.k=4
  ·rw[h4] at b0
   by_cases hn:0<=v.n
   ·have hn2:¬ v.n<(hs.length:Int):=by omega
    have hn3:(hs.length:Int)<=v.n:=by omega
    clear hi' h4;go_wp2;refine qzK (v:=VV xaU) ?_ rfl ⟨by rw[HE.out],(hb1.setCell (by simp) _).setCell (by simp) _⟩
    simp[results,Tryz.results69,go_sem,r0,r1]
   ·have hn3:v.n<0:=by omega
    clear hi' h4;go_wp2;refine qzK (v:=VV xaU) ?_ rfl ⟨by rw[HE.out],(hb1.setCell (by simp) _).setCell (by simp) _⟩
    simp[results,Tryz.results69,go_sem,r0,r1]
  ·have h4':(v.k == 4)=false:=by simpa using h4
   clear hi' h4;go_wp2;refine qzK (v:=VV xaU) ?_ rfl ⟨by rw[HE.out],(hb1.setCell (by simp) _).setCell (by simp) _⟩
   simp[results,Tryz.results69,go_sem,r0,r1]
end Go.Proofs.YtapbeiccodnniaaGreat
