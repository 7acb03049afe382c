/- A part. -/
import Derived.Test.YtdfbgpiikeheiaaQ4
namespace Go.Proofs.Ytdfbgpiikeheiaa
open Go.ChangeShapes Go.WideShapes Go.ChangeAt Go.RowKit
set_option linter.unusedSimpArgs false
set_option linter.unusedVariables false
set_option maxHeartbeats 8000000
set_option maxRecDepth 8000
section
variable {σ:Type} {p:Mp σ} {L:(Nat->Nat)->World->σ->Nat->Prop} {LF QF:Nat} {lc qc:Array Value} {T T':Nat->Nat} {w w':World} {mb:Nat} {m m':Mc σ} {hv:Value} {g:Nat} {s:Nat->Nat} {K fb:Nat} {f:Fr} {cv av tv sv kv:Value}
theorem xcs (hC:Cx p L LF lc QF qc){T1:Nat->Nat}{V:World}{calls:Int}{r:Mc σ × Fr × Int}{S:Nat->Prop}{e:Ending}(hr:r.1.st=m.st/\m.sz_<=r.1.sz_)(hE:Ext T T1 w)(hK:Kp (All K) T w V)(hL:L T1 V m.st (xdq p.E m))(he:e=.returned (.int .i64 r.2.2)){T2:Nat->Nat}(hE2:Ext T1 T2 V)(hM:∃ hv g s,MacAt p T2 w' mb r.1 calls hv g s)(hF:r.2.2=0->∃ cv av tv sv kv,FrAt T2 K w' fb r.2.1 cv av tv sv kv)(k:Kp S T1 V w')(hS:∀ t,S t->All K t)(h0:¬ S 0)(h3:¬ S 3):StPost p L T w mb calls K fb r e w':=by
 have hL2:=hC.keep hL hE2 k h0 h3;refine⟨he,⟨T2,hE.trans hK.size hE2,hM,?_,hF⟩,hK.trans hE (k.mono hS)⟩;rw[hr.1];have:xdq p.E r.1<=xdq p.E m:=by unfold xdq;omega
 split
 ·exact hC.mono hL2 this
 ·exact hC.mono hL2 (Nat.zero_le _)
theorem xjw {b1 b2 o1 o2 o3:Nat}{v1 v2 v3:Value}{w w':World}(h:w.cell? ⟨b1,o1,none⟩=some v1/\w.cell? ⟨b2,o2,none⟩=some v2/\w.cell? ⟨b2,o3,none⟩=some v3)(hb:Below w.heap.size w w'):w'.cell? ⟨b1,o1,none⟩=some v1/\w'.cell? ⟨b2,o2,none⟩=some v2/\w'.cell? ⟨b2,o3,none⟩=some v3:=⟨qzA hb h.1,qzA hb h.2.1,qzA hb h.2.2⟩
theorem xpm {b1 b2 b3 o1 o2 o3 o4:Nat}{v1 v2 v3 v4:Value}{w w':World}(h:w.cell? ⟨b1,o1,none⟩=some v1/\w.cell? ⟨b2,o2,none⟩=some v2/\w.cell? ⟨b3,o3,none⟩=some v3/\w.cell? ⟨b3,o4,none⟩=some v4)(hb:Below w.heap.size w w'):w'.cell? ⟨b1,o1,none⟩=some v1/\w'.cell? ⟨b2,o2,none⟩=some v2/\w'.cell? ⟨b3,o3,none⟩=some v3/\w'.cell? ⟨b3,o4,none⟩=some v4:=⟨qzA hb h.1,qzA hb h.2.1,qzA hb h.2.2.1,qzA hb h.2.2.2⟩
theorem xib (hC:Cx p L LF lc QF qc){d:Nat}(hd:d<=20)(h:MacAt p T w mb m (20-(d:Int)) hv g s)(hF:FrAt T K w fb f cv av tv sv kv)(hL:L T w m.st (xdq p.E m))(hI:MIn p.E m)(hst:f.stack.length<=1000000)(x:QI)(hxb:f.fast=true->x.op=18->0<=x.b/\x.b<=1000) :
  Calls Try.prog 118 #[.pointer (some ⟨mb,0,none⟩),.pointer (some ⟨fb,0,none⟩),IV x] w fun e w'=>StPost p L T w mb (20-(d:Int)) K fb (xbQ p.E d m f x) e w':=by
 have hp:=hF.pos;have hX:=xaq T w 4;have hT4:∀ b,w.heap.size<=b->xaF T w 4 b=4:=fun b hb=>xaJ hb
 have hb1:=xak w (.cells #[.int .i64 x.op,.int .i64 x.a,.int .i64 x.b,.int .i64 x.c,.string x.name] 59);have hM1:=(h.tagged0 4).later hb1;have hF1:=(hF.tagged0 4).later hb1;have hL1:=hC.keep (hC.keep hL hX (Kp.refl (fun _=>False) _ _) id id) (.refl _ _) (Kp.of_below (S:=fun _=>False) hb1) id id
 have hR1:=xjP w x 59;have hroom:f.stack.length<1000000000:=by omega
 have HKV:Hid (Kp (All K) T w (w.alloc (.cells #[.int .i64 x.op,.int .i64 x.a,.int .i64 x.b,.int .i64 x.c,.string x.name] 59))):=Kp.of_below hb1;have hz4:xaF T w 4 w.heap.size=4:=hT4 _ (qzC _);clear h hF hL hb1 hT4;generalize xaF T w 4=T1 at *;have c13:(w.alloc (.cells #[.int .i64 x.op,.int .i64 x.a,.int .i64 x.b,.int .i64 x.c,.string x.name] 59)).cell? ⟨fb,13,none⟩=some (.bool f.fast):=by rw[qzB hF1.box];rfl
 go_enter Try.func118,Try.ntmps118
 go_upto_region 1 with (fail)
 generalize (w.alloc (.cells #[.int .i64 x.op,.int .i64 x.a,.int .i64 x.b,.int .i64 x.c,.string x.name] 59))=V at *;obtain⟨x0,x1,x2,x3,x4⟩:=id hR1;have hVz:w.heap.size<V.heap.size:=World.block_lt_of_cell? V ⟨w.heap.size,0,none⟩ x0
 cases hfa:f.fast with
 | false=>
  have HN:Hid (xbQ p.E d m f x=(m,f,1)):=by show _=_;unfold xbQ;rw[if_pos hfa]
  rw[hfa] at c13;have Q:Hid (StPost p L T w mb (20-(d:Int)) K fb (m,f,1) (.returned (.int .i64 1)) V):=xcs hC ⟨rfl,Int.le_refl _⟩ hX HKV.out hL1 rfl (.refl _ _) ⟨_,_,_,hM1⟩ (fun h=>by cases h) (Kp.refl (fun _=>False) _ _) (fun _ h=>h.elim) id id
  clear hM1 hF1 hL1 hR1;go_wp2
  go_ret
  rw[HN.out]
  exact Q.out
 | true=>
  rw[hfa] at c13;have hxb':=hxb hfa;have HFE:Hid (xbQ p.E d m f x=if x.op=18 then (m,if xas m.heap (xaQ f.stack x.b)=x.a then f else f.leave x.c,0) else if x.op=19 then (m,f.push (xcF m.heap (xaM f.temps x.a) x.b),0) else if x.op=20 then ({ m with heap:=xaX m.heap (xaM f.temps x.a) x.b f.top },f.pop,0) else if x.op=21 then ((xau p.E d m).1,f,(xau p.E d m).2) else (m,f,1)):=by show _=_;unfold xbQ;rw[if_neg (by simp[hfa])]
  clear hfa hxb;obtain⟨ch,rfl,hc1,hc2⟩:=hM1.heap.form;have m1:=hM1.c1
  go_upto_region 3 with (fail)
  by_cases h18:x.op=18
  ·have h18':(x.op == 18)=true:=by simpa using h18
   rw[if_pos h18] at HFE;obtain⟨hx0,hx1⟩:=hxb' h18;clear h18 hxb'
   go_upto_region 6 with (fail)
   have hS0:V.drew.cell? ⟨mb,1,none⟩=some (.slice (some ⟨g,0,none⟩) m.heap.length ch)/\V.drew.cell? ⟨w.heap.size,1,none⟩=some (.int .i64 x.a)/\V.drew.cell? ⟨w.heap.size,2,none⟩=some (.int .i64 x.b):=⟨m1,x1,x2⟩;have hMd:=hM1.later (qzL _ V).drew;have hFd:=hF1.later (qzL _ V).drew;have tokA:True:=trivial
   go_region_held3 (fun w'=>w'.cell? ⟨mb,1,none⟩=some (.slice (some ⟨g,0,none⟩) m.heap.length ch)/\w'.cell? ⟨w.heap.size,1,none⟩=some (.int .i64 x.a)/\w'.cell? ⟨w.heap.size,2,none⟩=some (.int .i64 x.b))
    (first | with_reducible exact hS0 | with_reducible exact hS1 | with_reducible exact hS2)
    (first
     | (have _t:=tokA;go_at_call 109;refine (xgq hFd x.b ⟨hx0,by omega⟩).mono ?_;rintro e w3 ⟨rfl,hb3⟩;have hS1:=xjw hS0 hb3;clear tokA;have tokB:True:=trivial)
     | (have _t:=tokB;go_at_call 62;refine (xe4 m.heap _ (xaQ f.stack x.b) _ (((hMd.later hb3).heap).heap)).mono ?_;rintro e w4 ⟨rfl,hb4⟩;have hS2:=xjw hS1 hb4;clear tokB))
   have hb34:=xaf (qzL _ V).drew (xaf hb3 hb4);have x3':=qzA hb34 x3;have HM4:=hid (hM1.later hb34);have hF4:=hF1.later hb34;have HL4:=hid (hC.keep hL1 (.refl _ _) (Kp.of_below (S:=fun _=>False) hb34) id id)
   have HK4:=hid (HKV.out.on hb34)
   by_cases hcl:xas m.heap (xaQ f.stack x.b)=x.a
   ·have hcl':(xas m.heap (xaQ f.stack x.b) != x.a)=false:=by simpa using hcl
    rw[if_pos hcl] at HFE;have Q:Hid (StPost p L T w mb (20-(d:Int)) K fb (m,f,0) (.returned (.int .i64 0)) w4):=xcs hC ⟨rfl,Int.le_refl _⟩ hX HK4.out HL4.out rfl (.refl _ _) ⟨_,_,_,HM4.out⟩ (fun _=>⟨_,_,_,_,_,hF4⟩) (Kp.refl (fun _=>False) _ _) (fun _ h=>h.elim) id id
    clear hM1 hF1 hL1 hR1 hMd hFd hF4 hS0 hS1 hS2 m1 x0 x1 x2 x3 x4 c13 hcl;go_wp2
    go_ret
    rw[HFE.out]
    exact Q.out
   ·have hcl':(xas m.heap (xaQ f.stack x.b) != x.a)=true:=by simpa using hcl
    rw[if_neg hcl] at HFE;clear hM1 hF1 hL1 hR1 hMd hFd hS0 hS1 hS2 m1 x0 x1 x2 x3 x4 c13 hcl;go_wp2_with fail;refine (xhx hF4 x.c).mono ?_;rintro e w5 ⟨rfl,⟨T5,tv5,hX5,hF5⟩,hK5⟩;have Q:Hid (StPost p L T w mb (20-(d:Int)) K fb (m,f.leave x.c,0) (.returned (.int .i64 0)) w5):=xcs hC ⟨rfl,Int.le_refl _⟩ hX HK4.out HL4.out rfl hX5 ⟨_,_,_,HM4.out.keep hX5 hK5 (by omega) (by omega) (by omega)⟩ (fun _=>⟨_,_,_,_,_,hF5⟩) hK5 (fun t h=>by unfold All;omega) (by omega) (by omega)
    clear hF4 hF5 hK5 hX5;go_wp2
    go_ret
    rw[HFE.out]
    exact Q.out
  have h18':(x.op == 18)=false:=by simpa using h18
  rw[if_neg h18] at HFE;clear h18 hxb'
  by_cases h19:x.op=19
  ·have h19':(x.op == 19)=true:=by simpa using h19
   rw[if_pos h19] at HFE;clear h19;have htv:=hF1.tempsV;obtain⟨tb,rfl,ht2,ht3,ht4⟩:=hF1.temps
   go_upto_region 9 with (fail)
   have hMd:=hM1.later (qzL _ V).drew;have hFd:=hF1.later (qzL _ V).drew;have hS0:V.drew.cell? ⟨mb,1,none⟩=some (.slice (some ⟨g,0,none⟩) m.heap.length ch)/\V.drew.cell? ⟨fb,9,none⟩=some (.slice (some ⟨tb,0,none⟩) f.temps.length f.temps.length)/\V.drew.cell? ⟨w.heap.size,1,none⟩=some (.int .i64 x.a)/\V.drew.cell? ⟨w.heap.size,2,none⟩=some (.int .i64 x.b):=⟨m1,hFd.c.2.2.2,x1,x2⟩;have tokA:True:=trivial
   go_region_held3 (fun w'=>w'.cell? ⟨mb,1,none⟩=some (.slice (some ⟨g,0,none⟩) m.heap.length ch)/\w'.cell? ⟨fb,9,none⟩=some (.slice (some ⟨tb,0,none⟩) f.temps.length f.temps.length)/\w'.cell? ⟨w.heap.size,1,none⟩=some (.int .i64 x.a)/\w'.cell? ⟨w.heap.size,2,none⟩=some (.int .i64 x.b))
    (first | with_reducible exact hS0 | with_reducible exact hS1 | with_reducible exact hS2 | with_reducible exact hS3)
    (first
     | (have _t:=tokA;go_at_call 100;refine (xc7 f.temps _ x.a _ (htv.later xa1 (qzL _ V).drew)).mono ?_;rintro e w3 ⟨rfl,hb3⟩;have hS1:=xpm hS0 hb3;clear tokA;have tokB:True:=trivial)
     | (have _t:=tokB;go_at_call 119;refine (xiJ m.heap _ (xaM f.temps x.a) x.b _ (((hMd.later hb3).heap).heap)).mono ?_;rintro e w4 ⟨rfl,hb4⟩;have hS2:=xpm hS1 hb4;have hF4:=(hFd.later hb3).later hb4;clear tokB;have tokC:True:=trivial)
     | (have _t:=tokC;go_at_call 111;refine (xew hF4 (xcF m.heap (xaM f.temps x.a) x.b) hroom).mono ?_;rintro e w5 ⟨rfl,⟨T5,sv5,hX5,hF5⟩,hK5⟩;have hMk:=((hMd.later hb3).later hb4).keep hX5 hK5 (by omega) (by omega) (by omega);have hz5:T1 w.heap.size=4:=hz4;have hS3:w5.cell? ⟨mb,1,none⟩=some (.slice (some ⟨g,0,none⟩) m.heap.length ch)/\w5.cell? ⟨fb,9,none⟩=some (.slice (some ⟨tb,0,none⟩) f.temps.length f.temps.length)/\w5.cell? ⟨w.heap.size,1,none⟩=some (.int .i64 x.a)/\w5.cell? ⟨w.heap.size,2,none⟩=some (.int .i64 x.b):=⟨hMk.c1,hF5.c.2.2.2,hK5.cell hS2.2.2.1 (by rw[hz4];omega),hK5.cell hS2.2.2.2 (by rw[hz4];omega)⟩;clear tokC))
   have hb34:=xaf (qzL _ V).drew (xaf hb3 hb4);have Q:Hid (StPost p L T w mb (20-(d:Int)) K fb (m,f.push (xcF m.heap (xaM f.temps x.a) x.b),0) (.returned (.int .i64 0)) w5):=xcs hC ⟨rfl,Int.le_refl _⟩ hX (HKV.out.on hb34) (hC.keep hL1 (.refl _ _) (Kp.of_below (S:=fun _=>False) hb34) id id) rfl hX5 ⟨_,_,_,hMk⟩ (fun _=>⟨_,_,_,_,_,hF5⟩) hK5 (fun t h=>by unfold All;omega) (by omega) (by omega)
   clear hM1 hF1 hL1 hR1 hMd hFd hF4 hF5 hS0 hS1 hS2 hS3 m1 x0 x1 x2 x3 x4 c13 hMk htv ht2 hK5 hX5;go_wp2
   go_ret
   rw[HFE.out]
   exact Q.out
  have h19':(x.op == 19)=false:=by simpa using h19
  rw[if_neg h19] at HFE;clear h19
  by_cases h20:x.op=20
  ·have h20':(x.op == 20)=true:=by simpa using h20
   rw[if_pos h20] at HFE;clear h20;have htv:=hF1.tempsV;obtain⟨tb,rfl,ht2,ht3,ht4⟩:=hF1.temps
   go_upto_region 11 with (fail)
   have hMd:=hM1.later (qzL _ V).drew;have hFd:=hF1.later (qzL _ V).drew;have hS0:V.drew.cell? ⟨fb,9,none⟩=some (.slice (some ⟨tb,0,none⟩) f.temps.length f.temps.length)/\V.drew.cell? ⟨w.heap.size,1,none⟩=some (.int .i64 x.a)/\V.drew.cell? ⟨w.heap.size,2,none⟩=some (.int .i64 x.b):=⟨hFd.c.2.2.2,x1,x2⟩;have tokA:True:=trivial
   go_region_held3 (fun w'=>w'.cell? ⟨fb,9,none⟩=some (.slice (some ⟨tb,0,none⟩) f.temps.length f.temps.length)/\w'.cell? ⟨w.heap.size,1,none⟩=some (.int .i64 x.a)/\w'.cell? ⟨w.heap.size,2,none⟩=some (.int .i64 x.b))
    (first | with_reducible exact hS0 | with_reducible exact hS1 | with_reducible exact hS2 | with_reducible exact hS3)
    (first
     | (have _t:=tokA;go_at_call 100;refine (xc7 f.temps _ x.a _ (htv.later xa1 (qzL _ V).drew)).mono ?_;rintro e w3 ⟨rfl,hb3⟩;have hS1:=xjw hS0 hb3;have hF3:=hFd.later hb3;have hM3:=hMd.later hb3;clear tokA;have tokB:True:=trivial)
     | (have _t:=tokB;go_at_call 102;refine (xen hF3).mono ?_;rintro e w4 ⟨rfl,⟨sv4,hF4⟩,hK4⟩;have hM4:=hM3.keep (.refl _ _) hK4 (by omega) (by omega) (by omega);have hS2:w4.cell? ⟨fb,9,none⟩=some (.slice (some ⟨tb,0,none⟩) f.temps.length f.temps.length)/\w4.cell? ⟨w.heap.size,1,none⟩=some (.int .i64 x.a)/\w4.cell? ⟨w.heap.size,2,none⟩=some (.int .i64 x.b):=⟨hF4.c.2.2.2,hK4.cell hS1.2.1 (by rw[hz4];omega),hK4.cell hS1.2.2 (by rw[hz4];omega)⟩;clear tokB;have tokC:True:=trivial)
     | (have _t:=tokC;go_at_call 113;refine (xfR hM4 (xaM f.temps x.a) x.b f.top).mono ?_;rintro e w5 ⟨rfl,⟨T5,hX5,hM5⟩,hK5⟩;have hF5:=hF4.keep hX5 hK5 (by omega) (by omega) (by omega) (by omega);have hS3:w5.cell? ⟨fb,9,none⟩=some (.slice (some ⟨tb,0,none⟩) f.temps.length f.temps.length)/\w5.cell? ⟨w.heap.size,1,none⟩=some (.int .i64 x.a)/\w5.cell? ⟨w.heap.size,2,none⟩=some (.int .i64 x.b):=⟨hF5.c.2.2.2,hK5.cell hS2.2.1 (by rw[hz4];omega),hK5.cell hS2.2.2 (by rw[hz4];omega)⟩;clear tokC))
   have hb3':=xaf (qzL _ V).drew hb3;have HX5:Hid (Ext T1 T5 w3):=fun b hb=>hX5 b (qzE hb hK4.size)
   have Q:Hid (StPost p L T w mb (20-(d:Int)) K fb ({ m with heap:=xaX m.heap (xaM f.temps x.a) x.b f.top },f.pop,0) (.returned (.int .i64 0)) w5):=xcs hC ⟨rfl,Int.le_refl _⟩ hX (HKV.out.on hb3') (hC.keep hL1 (.refl _ _) (Kp.of_below (S:=fun _=>False) hb3') id id) rfl HX5.out ⟨_,_,_,hM5⟩ (fun _=>⟨_,_,_,_,_,hF5⟩) (S:=fun t=>t=K\/t=2) ((hK4.mono fun t h=>Or.inl h).trans (.refl _ _) (hK5.mono fun t h=>Or.inr h)) (fun t h=>by unfold All;omega) (by omega) (by omega)
   clear hM1 hF1 hL1 hR1 hMd hFd hF4 hF5 hF3 hM3 hM4 hM5 hS0 hS1 hS2 hS3 m1 x0 x1 x2 x3 x4 c13 htv ht2 hK5 hK4 hX5;go_wp2
   go_ret
   rw[HFE.out]
   exact Q.out
  have h20':(x.op == 20)=false:=by simpa using h20
  rw[if_neg h20] at HFE;clear h20
  by_cases h21:x.op=21
  ·have h21':(x.op == 21)=true:=by simpa using h21
   rw[if_pos h21] at HFE;clear h21;have hcc:=xeO d hM1 hI.sz_.1 (by have:=hC.fuel;omega) rfl hd
   have hcs:(xau p.E d m).1.st=m.st/\m.sz_<=(xau p.E d m).1.sz_:=by
    unfold xau
    split
    ·exact⟨rfl,by simp⟩
    ·split
     ·exact⟨rfl,by simp⟩
     ·exact⟨rfl,by simp;omega⟩
   generalize xau p.E d m=r at *;go_wp2_with fail;refine hcc.mono ?_;rintro e w3 ⟨rfl,hM3,hK3⟩;have Q:Hid (StPost p L T w mb (20-(d:Int)) K fb (r.1,f,r.2) (.returned (.int .i64 r.2)) w3):=xcs hC hcs hX HKV.out hL1 rfl (.refl _ _) ⟨_,_,_,hM3⟩ (fun _=>⟨_,_,_,_,_,hF1.keep (.refl _ _) hK3 (by omega) (by omega) (by omega) (by omega)⟩) hK3 (fun t h=>by unfold All;omega) (by omega) (by omega)
   clear hM1 hF1 hL1 hR1 m1 x0 x1 x2 x3 x4 c13 hM3 hK3 hcc;go_wp2
   go_ret
   rw[HFE.out]
   exact Q.out
  ·have h21':(x.op == 21)=false:=by simpa using h21
   rw[if_neg h21] at HFE;clear h21;have Q:Hid (StPost p L T w mb (20-(d:Int)) K fb (m,f,1) (.returned (.int .i64 1)) V):=xcs hC ⟨rfl,Int.le_refl _⟩ hX HKV.out hL1 rfl (.refl _ _) ⟨_,_,_,hM1⟩ (fun h=>by cases h) (Kp.refl (fun _=>False) _ _) (fun _ h=>h.elim) id id
   clear hM1 hF1 hL1 hR1;go_wp2
   go_ret
   rw[HFE.out]
   exact Q.out
end
section
variable {σ:Type} {p:Mp σ} {L:(Nat->Nat)->World->σ->Nat->Prop} {LF QF:Nat} {lc qc:Array Value} {T T':Nat->Nat} {w w':World} {mb:Nat} {m m':Mc σ} {hv:Value} {g:Nat} {s:Nat->Nat} {K fb:Nat} {f:Fr} {cv av tv sv kv:Value}
theorem xmX (m:Mc σ)(f:Fr)(a b:Int):(xaV m f a b).1.st=m.st:=by
 unfold xaV
 by_cases h:b<=a
 ·simp only[h,if_true];split<;>rfl
 ·simp only[h,if_false];split<;>rfl
theorem xqq (m:Mc σ)(f:Fr)(a b:Int):(xbz m f a b).1.st=m.st:=by
 unfold xbz
 split
 ·rfl
 ·split
  ·exact xmX _ _ _ _
  ·rfl
theorem xqI (E:Env σ)(m:Mc σ)(f:Fr)(c:Int):(xbV E m f c).1.st=m.st:=by
 unfold xbV;split<;>rfl
theorem xcq (hC:Cx p L LF lc QF qc){T1:Nat->Nat}{V:World}{calls:Int}{r:Mc σ × Fr × Int}{S:Nat->Prop}{e:Ending}(hr:r.1.st=m.st/\r.1.sz_=m.sz_)(hE:Ext T T1 w)(hK:Kp (All K) T w V)(hL:L T1 V m.st (xdq p.E m))(he:e=.returned (.int .i64 r.2.2)){T2:Nat->Nat}(hE2:Ext T1 T2 V)(hM:∃ hv g s,MacAt p T2 w' mb r.1 calls hv g s)(hF:r.2.2=0->∃ cv av tv sv kv,FrAt T2 K w' fb r.2.1 cv av tv sv kv)(k:Kp S T1 V w')(hS:∀ t,S t->All K t)(h0:¬ S 0)(h3:¬ S 3):StPost p L T w mb calls K fb r e w':=xcs hC ⟨hr.1,by rw[hr.2];exact Int.le_refl _⟩ hE hK hL he hE2 hM hF k hS h0 h3
theorem StPost.under {T1:Nat->Nat}{V:World}{calls:Int}{r:Mc σ × Fr × Int}{e:Ending}(h:StPost p L T1 V mb calls K fb r e w')(hE:Ext T T1 w)(hK:Kp (All K) T w V):StPost p L T w mb calls K fb r e w':=by
 obtain⟨h1,⟨T2,h2,h3⟩,h4⟩:=h
 exact⟨h1,⟨T2,hE.trans hK.size h2,h3⟩,hK.trans hE h4⟩
theorem xom {f':Fr}(e1:f'.cls=f.cls)(e2:f'.meth=f.meth)(e3:f'.self=f.self)(e4:f'.pc=f.pc)(e5:f'.fast=f.fast)(h:w.heap[fb]?=some (FB f cv av tv sv kv)):w.heap[fb]?=some (FB f' cv av tv sv kv):=by rw[h];unfold FB;rw[e1,e2,e3,e4,e5]
theorem FrAt.setTemp {tb:Nat}{n:Int}{v:QV}(h:FrAt T K w fb f cv av (.slice (some ⟨tb,0,none⟩) f.temps.length f.temps.length) sv kv)(hT:T tb=K+1)(hw:w'.heap[tb]?=some (.cells (xam (xaW f.temps n v)).toArray 27 (0,0)))(k:Kp (fun t=>t=K+1) T w w'):FrAt T K w' fb { f with temps:=xaW f.temps n v } cv av (.slice (some ⟨tb,0,none⟩) f.temps.length f.temps.length) sv kv:=by
 have hp:=h.pos;obtain⟨tb',e,d2,d3,d4⟩:=h.temps;refine⟨xom rfl rfl rfl rfl rfl (k.held h.box (by rw[h.tag];omega)),h.tag,h.args.fx xa1 (.refl _ _) k (by omega),⟨tb,by show _=Value.slice _ (xaW f.temps n v).length (xaW f.temps n v).length;rw[xbE],hw,hT,by show (xaW f.temps n v).length<=40;rw[xbE];exact d4⟩,h.stack.keep fun g hg=>k.blk g (h.stack.lt g hg).2 (by rw[h.stag g hg];omega),h.stag,h.few,h.code.fx xa2 (.refl _ _) k (by omega),h.meth.fx xa2 (.refl _ _) k (by omega),hp⟩
def xcG (ent:Ent σ)(E:Env σ)(d:Nat)(m:Mc σ)(f:Fr)(a:Int)(x:QI):Mc σ × Fr × Int:=
  if x.op=9 then (m,f.pop,0)
  else if x.op=10 then (m,f.push f.top,0)
  else if x.op=11 then (m,{ f.pop with temps:=xaW f.temps x.a f.top },0)
  else if x.op=12 then ({ m with heap:=xaX m.heap f.self x.a f.top },f.pop,0)
  else if x.op=13 then xbV E m f x.a
  else if x.op=14 then xbD ent E m f a x
  else if x.op=15 then xaV m f a x.a
  else if x.op=16 then xbz m f a x.a
  else xbQ E d m f x
theorem xnS (hC:Cx p L LF lc QF qc){d:Nat}(hEn:xe7 p L d)(h:MacAt p T w mb m (20-(d:Int)) hv g s)(hF:FrAt T K w fb f cv av tv sv kv)(hL:L T w m.st (xdq p.E m))(hI:MIn p.E m)(hFo:FOk p.E.cz m.heap.length f)(hst:f.stack.length<=1000000)(hd:d<=20)(a:Int)(x:QI)(hxb:f.fast=true->x.op=18->0<=x.b/\x.b<=1000) :
  Calls Try.prog 103 #[.pointer (some ⟨mb,0,none⟩),.pointer (some ⟨fb,0,none⟩),.int .i64 a,IV x] w fun e w'=>StPost p L T w mb (20-(d:Int)) K fb (xaj (xa4 p.E d) p.E d m f a x) e w':=by
 have hp:=hF.pos;have hX:=xaq T w 4;have hT4:∀ b,w.heap.size<=b->xaF T w 4 b=4:=fun b hb=>xaJ hb
 have hb1:=xak w (.cells #[.int .i64 x.op,.int .i64 x.a,.int .i64 x.b,.int .i64 x.c,.string x.name] 59);have hM0:=(h.tagged0 4).later hb1;have hF0:=(hF.tagged0 4).later hb1;have hL0:=hC.keep (hC.keep hL hX (Kp.refl (fun _=>False) _ _) id id) (.refl _ _) (Kp.of_below (S:=fun _=>False) hb1) id id
 have hR0:=xjP w x 59;have hroom:f.stack.length<1000000000:=by omega
 clear h hF hL;generalize xaF T w 4=T1 at *;go_enter Try.func103,Try.ntmps103
 go_upto_region 1 with (fail)
 generalize (w.alloc (.cells #[.int .i64 x.op,.int .i64 x.a,.int .i64 x.b,.int .i64 x.c,.string x.name] 59))=W at *;obtain⟨x0,x1,x2,x3,x4⟩:=id hR0;have hpu:=xlC hM0 hF0 x;go_wp2_with fail;refine hpu.mono ?_;rintro e w1 ⟨rfl,hbw⟩;clear hpu x0 x1 x2 x3 x4;have hbV:∀ u:QV,Below W.heap.size W (w1.alloc (.cells #[.int .i64 u.k,.int .i64 u.n] 27)):=fun u=>xaf hbw (xak _ _)
 cases hpu:xao m.heap f x with
 | some u=>
  have HM:Hid (xaj (xa4 p.E d) p.E d m f a x=(m,f.push u,0)):=by show _=_;unfold xaj;rw[hpu]
  clear hpu;have HB:=hid (hbV u);have HF0:=hid hF0;have HM0:=hid hM0;have HL0:=hid hL0;have HB1:=hid hb1;have hF1:=hF0.later (hbV u);clear hF0 hM0 hL0 hR0 hb1 hbV;go_wp2_with fail;refine (xew hF1 u hroom).mono ?_;rintro e w2 ⟨rfl,⟨T2,sv2,hX2,hF2⟩,hK2⟩;have Q:Hid (StPost p L T w mb (20-(d:Int)) K fb (m,f.push u,0) (.returned (.int .i64 0)) w2):=xcq hC ⟨rfl,rfl⟩ hX (Kp.of_below (xaf HB1.out HB.out)) (hC.keep HL0.out (.refl _ _) (Kp.of_below (S:=fun _=>False) HB.out) id id) rfl hX2 ⟨_,_,_,(HM0.out.later HB.out).keep hX2 hK2 (by omega) (by omega) (by omega)⟩ (fun _=>⟨_,_,_,_,_,hF2⟩) hK2 (fun t h=>by unfold All;omega) (by omega) (by omega)
  clear hF1 hF2 hK2 hX2;go_wp2
  go_ret
  rw[HM.out]
  exact Q.out
 | none=>
  have HM:Hid (xaj (xa4 p.E d) p.E d m f a x=xcG (xa4 p.E d) p.E d m f a x):=by show _=_;unfold xaj xcG;rw[hpu]
  clear hpu;have hbv:=hbV xaU;have hM1:=hM0.later hbv;have hF1:=hF0.later hbv;have hL1:=hC.keep hL0 (.refl _ _) (Kp.of_below (S:=fun _=>False) hbv) id id
  have hR1:SdR w x (w1.alloc (.cells #[.int .i64 0,.int .i64 0] 27)):=hR0.kp (T:=T1) (S:=fun _=>False) (Kp.of_below hbv) id
  have HKV:Hid (Kp (All K) T w (w1.alloc (.cells #[.int .i64 0,.int .i64 0] 27))):=Kp.of_below (xaf hb1 hbv);have hz4:T1 w.heap.size=4:=hT4 _ (qzC _);have hXV:Hid (∀ {T3:Nat->Nat} {V' w2:World},Ext T1 T3 w2->Kp (fun t=>t=K) T1 V' w2->Ext T1 T3 V'):=fun h k b hb=>h b (qzE hb k.size)
  clear hM0 hF0 hL0 hR0 hbV hbv
  go_upto_region 5 with (fail)
  generalize (w1.alloc (.cells #[.int .i64 0,.int .i64 0] 27))=V at *;obtain⟨x0,x1,x2,x3,x4⟩:=id hR1;have hVz:w.heap.size<V.heap.size:=World.block_lt_of_cell? V ⟨w.heap.size,0,none⟩ x0;clear hbw
  by_cases h9:x.op=9
  ·have HN:Hid (xaj (xa4 p.E d) p.E d m f a x=(m,f.pop,0)):=by show _=_;rw[HM.out];unfold xcG;rw[if_pos h9]
   have h9':(x.op == 9)=true:=by simpa using h9
   clear HM h9;go_wp2_with fail;refine (xen hF1).mono ?_;rintro e w2 ⟨rfl,⟨sv2,hF2⟩,hK2⟩;have Q:Hid (StPost p L T w mb (20-(d:Int)) K fb (m,f.pop,0) (.returned (.int .i64 0)) w2):=xcq hC ⟨rfl,rfl⟩ hX HKV.out hL1 rfl (.refl _ _) ⟨_,_,_,hM1.keep (.refl _ _) hK2 (by omega) (by omega) (by omega)⟩ (fun _=>⟨_,_,_,_,_,hF2⟩) hK2 (fun t h=>by unfold All;omega) (by omega) (by omega)
   clear hF1 hF2 hK2 hM1 hL1 hR1 x0 x1 x2 x3 x4;go_wp2
   go_ret
   rw[HN.out]
   exact Q.out
  have h9':(x.op == 9)=false:=by simpa using h9
  by_cases h10:x.op=10
  ·have HN:Hid (xaj (xa4 p.E d) p.E d m f a x=(m,f.push f.top,0)):=by show _=_;rw[HM.out];unfold xcG;rw[if_neg h9];rw[if_pos h10]
   have h10':(x.op == 10)=true:=by simpa using h10
   clear HM h9 h10;go_wp2_with fail;refine (xgq hF1 0 ⟨by omega,by omega⟩).mono ?_
   rintro e w2 ⟨rfl,hb2⟩;have HT:Hid (f.top=xaQ f.stack 0):=rfl;rw[← HT.out];have hF2:=hF1.later hb2;clear x0 x1 x2 x3 x4;go_wp2_with fail;refine (xew hF2 f.top hroom).mono ?_;rintro e w3 ⟨rfl,⟨T3,sv3,hX3,hF3⟩,hK3⟩;have Q:Hid (StPost p L T w mb (20-(d:Int)) K fb (m,f.push f.top,0) (.returned (.int .i64 0)) w3):=xcq hC ⟨rfl,rfl⟩ hX (HKV.out.on hb2) (hC.keep hL1 (.refl _ _) (Kp.of_below (S:=fun _=>False) hb2) id id) rfl hX3 ⟨_,_,_,(hM1.later hb2).keep hX3 hK3 (by omega) (by omega) (by omega)⟩ (fun _=>⟨_,_,_,_,_,hF3⟩) hK3 (fun t h=>by unfold All;omega) (by omega) (by omega)
   clear hF1 hF2 hF3 hK3 hX3 hM1 hL1 hR1 hb2;go_wp2
   go_ret
   rw[HN.out]
   exact Q.out
  have h10':(x.op == 10)=false:=by simpa using h10
  by_cases h11:x.op=11
  ·have HN:Hid (xaj (xa4 p.E d) p.E d m f a x=(m,{ f.pop with temps:=xaW f.temps x.a f.top },0)):=by show _=_;rw[HM.out];unfold xcG;rw[if_neg h9];rw[if_neg h10];rw[if_pos h11]
   have h11':(x.op == 11)=true:=by simpa using h11
   clear HM h9 h10 h11;obtain⟨tb,rfl,ht2,ht3,ht4⟩:=hF1.temps;go_wp2;have hFd:=hF1.later (qzL _ V).drew;have hS0:V.drew.cell? ⟨fb,9,none⟩=some (.slice (some ⟨tb,0,none⟩) f.temps.length f.temps.length)/\V.drew.cell? ⟨w.heap.size,1,none⟩=some (.int .i64 x.a):=⟨hFd.c.2.2.2,x1⟩;have tokA:True:=trivial
   go_region_held3 (fun w'=>w'.cell? ⟨fb,9,none⟩=some (.slice (some ⟨tb,0,none⟩) f.temps.length f.temps.length)/\w'.cell? ⟨w.heap.size,1,none⟩=some (.int .i64 x.a))
    (first | with_reducible exact hS0 | with_reducible exact hS1 | with_reducible exact hS2)
    (first
     | (have _t:=tokA;go_at_call 102;refine (xen hFd).mono ?_;rintro e w2 ⟨rfl,⟨sv2,hF2⟩,hK2⟩;have hS1:=And.intro hF2.c.2.2.2 (hK2.cell hS0.2 (by rw[hz4];omega));have hT2:w2.heap[tb]?=some (.cells (xam f.temps).toArray 27 (0,0)):=(hK2.held (xad ht2 (qzL _ V).drew) (by rw[ht3];omega));clear tokA;have tokB:True:=trivial)
     | (have _t:=tokB;go_at_call 112;refine (xfp f.temps tb x.a f.top _ hT2).mono ?_;rintro e w3 ⟨rfl,hw3,hz3,hka⟩;have hk3:=hka (fun t=>t=K+1) T1 ht3;have hS2:=And.intro (hk3.cell hS1.1 (by rw[hF2.tag];omega)) (hk3.cell hS1.2 (by rw[hz4];omega));clear tokB))
   have hF3:=hF2.setTemp ht3 hw3 hk3;have Q:Hid (StPost p L T w mb (20-(d:Int)) K fb (m,{ f.pop with temps:=xaW f.temps x.a f.top },0) (.returned (.int .i64 0)) w3):=xcq hC ⟨rfl,rfl⟩ hX HKV.out.drew (hC.keep hL1 (.refl _ _) (Kp.refl (fun _=>False) _ _).drew id id) rfl (.refl _ _) ⟨_,_,_,((hM1.later (qzL _ V).drew).keep (.refl _ _) hK2 (by omega) (by omega) (by omega)).keep (.refl _ _) hk3 (by omega) (by omega) (by omega)⟩ (fun _=>⟨_,_,_,_,_,hF3⟩) (S:=fun t=>t=K\/t=K+1) ((hK2.mono fun t h=>Or.inl h).trans (.refl _ _) (hk3.mono fun t h=>Or.inr h)) (fun t h=>by unfold All;omega) (by omega) (by omega)
   clear hF1 hF2 hF3 hFd hK2 hk3 hM1 hL1 hR1 x0 x1 x2 x3 x4 hw3 hka hT2 ht2 hS0 hS1 hS2;go_wp2
   go_ret
   rw[HN.out]
   exact Q.out
  have h11':(x.op == 11)=false:=by simpa using h11
  by_cases h12:x.op=12
  ·have HN:Hid (xaj (xa4 p.E d) p.E d m f a x=({ m with heap:=xaX m.heap f.self x.a f.top },f.pop,0)):=by show _=_;rw[HM.out];unfold xcG;rw[if_neg h9];rw[if_neg h10];rw[if_neg h11];rw[if_pos h12]
   have h12':(x.op == 12)=true:=by simpa using h12
   clear HM h9 h10 h11 h12;go_wp2;have hFd:=hF1.later (qzL _ V).drew;have hMd:=hM1.later (qzL _ V).drew;have hS0:V.drew.cell? ⟨fb,6,none⟩=some (.int .i64 f.self.k)/\V.drew.cell? ⟨fb,7,none⟩=some (.int .i64 f.self.n)/\V.drew.cell? ⟨w.heap.size,1,none⟩=some (.int .i64 x.a):=⟨hFd.c.1,hFd.c.2.1,x1⟩;have tokA:True:=trivial
   go_region_held3 (fun w'=>w'.cell? ⟨fb,6,none⟩=some (.int .i64 f.self.k)/\w'.cell? ⟨fb,7,none⟩=some (.int .i64 f.self.n)/\w'.cell? ⟨w.heap.size,1,none⟩=some (.int .i64 x.a))
    (first | with_reducible exact hS0 | with_reducible exact hS1 | with_reducible exact hS2)
    (first
     | (have _t:=tokA;go_at_call 102;refine (xen hFd).mono ?_;rintro e w2 ⟨rfl,⟨sv2,hF2⟩,hK2⟩;have hS1:w2.cell? ⟨fb,6,none⟩=some (.int .i64 f.self.k)/\w2.cell? ⟨fb,7,none⟩=some (.int .i64 f.self.n)/\w2.cell? ⟨w.heap.size,1,none⟩=some (.int .i64 x.a):=⟨hF2.c.1,hF2.c.2.1,hK2.cell hS0.2.2 (by rw[hz4];omega)⟩;have hM2:=hMd.keep (.refl _ _) hK2 (by omega) (by omega) (by omega);clear tokA;have tokB:True:=trivial)
     | (have _t:=tokB;go_at_call 113;refine (xfR hM2 f.self x.a f.top).mono ?_;rintro e w3 ⟨rfl,⟨T3,hX3,hM3⟩,hK3⟩;have hF3:=hF2.keep hX3 hK3 (by omega) (by omega) (by omega) (by omega);have hS2:w3.cell? ⟨fb,6,none⟩=some (.int .i64 f.self.k)/\w3.cell? ⟨fb,7,none⟩=some (.int .i64 f.self.n)/\w3.cell? ⟨w.heap.size,1,none⟩=some (.int .i64 x.a):=⟨hF3.c.1,hF3.c.2.1,hK3.cell hS1.2.2 (by rw[hz4];omega)⟩;clear tokB))
   have Q:Hid (StPost p L T w mb (20-(d:Int)) K fb ({ m with heap:=xaX m.heap f.self x.a f.top },f.pop,0) (.returned (.int .i64 0)) w3):=xcq hC ⟨rfl,rfl⟩ hX HKV.out.drew (hC.keep hL1 (.refl _ _) (Kp.refl (fun _=>False) _ _).drew id id) rfl (hXV.out hX3 hK2) ⟨_,_,_,hM3⟩ (fun _=>⟨_,_,_,_,_,hF3⟩) (S:=fun t=>t=K\/t=2) ((hK2.mono fun t h=>Or.inl h).trans (.refl _ _) (hK3.mono fun t h=>Or.inr h)) (fun t h=>by unfold All;omega) (by omega) (by omega)
   clear hF1 hF2 hF3 hFd hMd hM2 hM3 hK2 hK3 hX3 hM1 hL1 hR1 x0 x1 x2 x3 x4 hS0 hS1 hS2;go_wp2
   go_ret
   rw[HN.out]
   exact Q.out
  have h12':(x.op == 12)=false:=by simpa using h12
  by_cases h13:x.op=13
  ·have HN:Hid (xaj (xa4 p.E d) p.E d m f a x=xbV p.E m f x.a):=by show _=_;rw[HM.out];unfold xcG;rw[if_neg h9];rw[if_neg h10];rw[if_neg h11];rw[if_neg h12];rw[if_pos h13]
   have h13':(x.op == 13)=true:=by simpa using h13
   clear HM h9 h10 h11 h12 h13;have hmk:=xgO hM1 hF1 x.a (hC.ok.slots x.a) hroom;have hsd:(xbV p.E m f x.a).1.st=m.st/\(xbV p.E m f x.a).1.sz_=m.sz_:=⟨xqI _ _ _ _,xhp _ _ _ _⟩;generalize xbV p.E m f x.a=r at *;go_wp2_with fail;refine hmk.mono ?_;rintro e w2 ⟨rfl,⟨T2,hX2,hM2,hF2⟩,hK2⟩;have Q:Hid (StPost p L T w mb (20-(d:Int)) K fb r (.returned (.int .i64 r.2.2)) w2):=xcq hC hsd hX HKV.out hL1 rfl hX2 hM2 (fun h=>(hF2 h).elim fun sv' h'=>⟨_,_,_,sv',_,h'⟩) hK2 (fun t h=>by unfold All;omega) (by omega) (by omega)
   clear hF1 hF2 hK2 hX2 hM1 hM2 hL1 hR1 x0 x1 x2 x3 x4 hmk hsd;go_wp2
   go_ret
   rw[HN.out]
   exact Q.out
  have h13':(x.op == 13)=false:=by simpa using h13
  by_cases h14:x.op=14
  ·have HN:Hid (xaj (xa4 p.E d) p.E d m f a x=xbD (xa4 p.E d) p.E m f a x):=by show _=_;rw[HM.out];unfold xcG;rw[if_neg h9];rw[if_neg h10];rw[if_neg h11];rw[if_neg h12];rw[if_neg h13];rw[if_pos h14]
   have h14':(x.op == 14)=true:=by simpa using h14
   clear HM h9 h10 h11 h12 h13 h14;have hsn:=xot hC hEn hM1 hF1 hL1 hI hFo hst a x;generalize xbD (xa4 p.E d) p.E m f a x=r at *;go_wp2_with fail;refine hsn.mono ?_;rintro e w2 ⟨rfl,⟨T2,hX2,hM2,hL2,hF2⟩,hK2⟩;have Q:Hid (StPost p L T w mb (20-(d:Int)) K fb r (.returned (.int .i64 r.2.2)) w2):=⟨rfl,⟨T2,hX.trans HKV.out.size hX2,hM2,hL2,hF2⟩,HKV.out.trans hX hK2⟩;clear hF1 hF2 hK2 hX2 hM1 hM2 hL1 hL2 hR1 x0 x1 x2 x3 x4 hsn;go_wp2
   go_ret
   rw[HN.out]
   exact Q.out
  have h14':(x.op == 14)=false:=by simpa using h14
  by_cases h15:x.op=15
  ·have HN:Hid (xaj (xa4 p.E d) p.E d m f a x=xaV m f a x.a):=by show _=_;rw[HM.out];unfold xcG;rw[if_neg h9];rw[if_neg h10];rw[if_neg h11];rw[if_neg h12];rw[if_neg h13];rw[if_neg h14];rw[if_pos h15]
   have h15':(x.op == 15)=true:=by simpa using h15
   clear HM h9 h10 h11 h12 h13 h14 h15;have hjm:=xkz hM1 hF1 a x.a hI.tz;have hsd:(xaV m f a x.a).1.st=m.st/\(xaV m f a x.a).1.sz_=m.sz_:=⟨xmX _ _ _ _,xe9 _ _ _ _⟩;generalize xaV m f a x.a=r at *;go_wp2_with fail;refine hjm.mono ?_;rintro e w2 ⟨rfl,hM2,hF2,hK2⟩;have Q:Hid (StPost p L T w mb (20-(d:Int)) K fb r (.returned (.int .i64 r.2.2)) w2):=xcq hC hsd hX HKV.out hL1 rfl (.refl _ _) ⟨_,_,_,hM2⟩ (fun _=>⟨_,_,_,_,_,hF2⟩) hK2 (fun t h=>by unfold All;omega) (by omega) (by omega)
   clear hF1 hF2 hK2 hM1 hM2 hL1 hR1 x0 x1 x2 x3 x4 hjm hsd;go_wp2
   go_ret
   rw[HN.out]
   exact Q.out
  have h15':(x.op == 15)=false:=by simpa using h15
  by_cases h16:x.op=16
  ·have HN:Hid (xaj (xa4 p.E d) p.E d m f a x=xbz m f a x.a):=by show _=_;rw[HM.out];unfold xcG;rw[if_neg h9];rw[if_neg h10];rw[if_neg h11];rw[if_neg h12];rw[if_neg h13];rw[if_neg h14];rw[if_neg h15];rw[if_pos h16]
   have h16':(x.op == 16)=true:=by simpa using h16
   clear HM h9 h10 h11 h12 h13 h14 h15 h16;have hjm:=xk3 hM1 hF1 a x.a hI.tz;have hsd:(xbz m f a x.a).1.st=m.st/\(xbz m f a x.a).1.sz_=m.sz_:=⟨xqq _ _ _ _,xhe _ _ _ _⟩;generalize xbz m f a x.a=r at *;go_wp2_with fail;refine hjm.mono ?_;rintro e w2 ⟨rfl,hM2,hF2,hK2⟩;have Q:Hid (StPost p L T w mb (20-(d:Int)) K fb r (.returned (.int .i64 r.2.2)) w2):=xcq hC hsd hX HKV.out hL1 rfl (.refl _ _) ⟨_,_,_,hM2⟩ (fun h=>(hF2 h).elim fun sv' h'=>⟨_,_,_,sv',_,h'⟩) hK2 (fun t h=>by unfold All;omega) (by omega) (by omega)
   clear hF1 hF2 hK2 hM1 hM2 hL1 hR1 x0 x1 x2 x3 x4 hjm hsd;go_wp2
   go_ret
   rw[HN.out]
   exact Q.out
  have h16':(x.op == 16)=false:=by simpa using h16
  have HN:Hid (xaj (xa4 p.E d) p.E d m f a x=xbQ p.E d m f x):=by show _=_;rw[HM.out];unfold xcG;rw[if_neg h9];rw[if_neg h10];rw[if_neg h11];rw[if_neg h12];rw[if_neg h13];rw[if_neg h14];rw[if_neg h15];rw[if_neg h16]
  clear HM h9 h10 h11 h12 h13 h14 h15 h16;have hfs:=xib hC hd hM1 hF1 hL1 hI hst x hxb;clear hxb;generalize xbQ p.E d m f x=r at *;go_wp2_with fail;refine hfs.mono ?_;rintro e w2 hP;have Q:=hid (hP.under hX HKV.out);obtain⟨rfl,-⟩:=hP;clear hF1 hM1 hL1 hR1 x0 x1 x2 x3 x4 hfs;go_wp2
  go_ret
  rw[HN.out]
  exact Q.out
end
section
variable {σ:Type}
theorem xhl (m:Mc σ)(f:Fr)(a b:Int):(xaV m f a b).2.1.stack=f.stack:=by
 unfold xaV;simp only
 split<;>split<;>rfl
theorem xlx (ent:Ent σ)(E:Env σ)(d:Nat)(m:Mc σ)(f:Fr)(a:Int)(x:QI):(xaj ent E d m f a x).2.1.stack.length<=f.stack.length+1:=by
 unfold xaj
 split
 ·simp[Fr.push]
 ·split
  ·simp[Fr.pop];omega
  ·split
   ·simp[Fr.push]
   ·split
    ·simp[Fr.pop];omega
    ·split
     ·simp[Fr.pop];omega
     ·split
      ·unfold xbV;split
       ·simp
       ·simp[Fr.push]
      ·split
       ·unfold xbD;simp only
        split
        ·simp
        ·simp;omega
       ·split
        ·rw[xhl];omega
        ·split
         ·unfold xbz
          split
          ·simp[Fr.pop];omega
          ·split
           ·rw[xhl];simp[Fr.pop];omega
           ·simp
         ·unfold xbQ
          split
          ·simp
          ·split
           ·simp only
            split
            ·simp
            ·simp[Fr.leave]
           ·split
            ·simp[Fr.push]
            ·split
             ·simp[Fr.pop];omega
             ·split<;>simp
theorem xm2 {ent:Ent σ}(ht:xbt ent){E:Env σ}{d:Nat}{m:Mc σ}{f:Fr}(hm:0<=m.tz)(h0:0<=f.pc)(hl:f.pc.toNat<f.code.length){x:QI}(he:(xaj ent E d m { f with pc:=f.pc+1 } f.pc x).2.2=0){R:Nat}(hR:f.stack.length+muE m f<=R):(xaj ent E d m { f with pc:=f.pc+1 } f.pc x).2.1.stack.length+muE (xaj ent E d m { f with pc:=f.pc+1 } f.pc x).1 (xaj ent E d m { f with pc:=f.pc+1 } f.pc x).2.1<=R:=by
 have h1:=xlx ent E d m { f with pc:=f.pc+1 } f.pc x
 have h2:=xgc ht (E:=E) (d:=d) hm h0 hl (x:=x) he;have e:({ f with pc:=f.pc+1 }:Fr).stack=f.stack:=rfl
 rw[e] at h1
 omega
def xrG (ent:Ent σ):Prop:=∀ m c n s a,m.tz<=300->(ent m c n s a).2.2=0->(ent m c n s a).1.tz<=300
theorem xpf {m:Mc σ}{f:Fr}{a b:Int}(h0:(xaV m f a b).2.2=0):(xaV m f a b).1.tz<=300:=by
 unfold xaV at h0 ⊢
 by_cases h:b<=a
 ·simp only[h,if_true] at h0 ⊢
  split
  ·rename_i k;rw[if_pos k] at h0;cases h0
  ·rename_i k;simp only at k ⊢;omega
 ·simp only[h,if_false] at h0 ⊢
  split
  ·rename_i k;rw[if_pos k] at h0;cases h0
  ·rename_i k;simp only at k ⊢;omega
theorem xrp {m:Mc σ}(hm:m.tz<=300){f:Fr}{a b:Int}(h0:(xbz m f a b).2.2=0):(xbz m f a b).1.tz<=300:=by
 unfold xbz at h0 ⊢
 split
 ·exact hm
 ·rename_i k;rw[if_neg k] at h0
  split
  ·rename_i k2;rw[if_pos k2] at h0;exact xpf h0
  ·exact hm
theorem xrv (E:Env σ)(m:Mc σ)(f:Fr)(c:Int):(xbV E m f c).1.tz=m.tz:=by unfold xbV;split<;>rfl
theorem xl5 {E:Env σ}{ent:Ent σ}(he:xrG ent)(d:Nat){m:Mc σ}(h:m.tz<=300){f:Fr}{a:Int}{x:QI}(h0:(xaj ent E d m f a x).2.2=0):(xaj ent E d m f a x).1.tz<=300:=by
 cases hpu:xao m.heap f x with
 | some u=>unfold xaj;rw[hpu];exact h
 | none=>
  unfold xaj at h0 ⊢;rw[hpu] at h0 ⊢;simp only at h0 ⊢
  by_cases h9:x.op=9
  ·rw[if_pos h9];exact h
  rw[if_neg h9] at h0 ⊢
  by_cases h10:x.op=10
  ·rw[if_pos h10];exact h
  rw[if_neg h10] at h0 ⊢
  by_cases h11:x.op=11
  ·rw[if_pos h11];exact h
  rw[if_neg h11] at h0 ⊢
  by_cases h12:x.op=12
  ·rw[if_pos h12];exact h
  rw[if_neg h12] at h0 ⊢
  by_cases h13:x.op=13
  ·rw[if_pos h13,xrv];exact h
  rw[if_neg h13] at h0 ⊢
  by_cases h14:x.op=14
  ·rw[if_pos h14] at h0 ⊢;unfold xbD at h0 ⊢;simp only at h0 ⊢
   split
   ·rename_i k;rw[if_pos k] at h0;exact absurd h0 k
   ·rename_i k;exact he _ _ _ _ _ h (Decidable.of_not_not k)
  rw[if_neg h14] at h0 ⊢
  by_cases h15:x.op=15
  ·rw[if_pos h15] at h0 ⊢;exact xpf h0
  rw[if_neg h15] at h0 ⊢
  by_cases h16:x.op=16
  ·rw[if_pos h16] at h0 ⊢;exact xrp h h0
  rw[if_neg h16] at h0 ⊢;unfold xbQ
  split
  ·exact h
  ·split
   ·exact h
   ·split
    ·exact h
    ·split
     ·exact h
     ·split
      ·show (xau E d m).1.tz<=300
       unfold xau
       split
       ·exact h
       ·split<;>exact h
      ·exact h
theorem xrx {E:Env σ}{ent:Ent σ}(he:xrG ent)(d:Nat):∀ (g:Nat) (m:Mc σ) (f:Fr),m.tz<=300->(xb7 ent E d g m f).2.2=0->(xb7 ent E d g m f).1.tz<=300
 | 0,m,f,h,h0=>by cases h0
 | g+1,m,f,h,h0=>by
  unfold xb7 at h0 ⊢;generalize (if f.pc<0 then none else f.code[f.pc.toNat]?)=q at h0 ⊢
  cases q with
  | none=>cases h0
  | some x=>
   simp only at h0 ⊢
   by_cases h17:x.op=17
   ·rw[if_pos h17];exact h
   ·rw[if_neg h17] at h0 ⊢
    by_cases he0:(xaj ent E d m { f with pc:=f.pc+1 } f.pc x).2.2=0
    ·rw[if_neg (by simpa using he0)] at h0 ⊢
     exact xrx he d g _ _ (xl5 he d h he0) h0
    ·rw[if_pos he0] at h0
     exact absurd h0 he0
theorem xlM {E:Env σ}(d:Nat){body:Mc σ->Fr->Mc σ × QV × Int}(hb:∀ m f,m.tz<=300->(body m f).2.2=0->(body m f).1.tz<=300):xrG (xbc E d body):=fun m c n s a h h0=>by
 unfold xbc at h0 ⊢;generalize xaI E.cz c n=q at h0 ⊢
 cases q with
 | none=>cases h0
 | some mt=>
  simp only at h0 ⊢
  split at h0
  ·cases h0
  ·rename_i h1;rw[if_neg h1]
   split at h0
   ·rename_i h2;rw[if_pos h2]
    split
    ·exact h
    ·exact h
   ·rename_i h2;rw[if_neg h2]
    have hc:(xau E d m).1.tz=m.tz:=by
     unfold xau
     split
     ·rfl
     ·split<;>rfl
    split at h0
    ·rename_i h3;exact absurd h0 h3
    ·rename_i h3;rw[if_neg h3]
     exact hb _ _ (by rw[hc];exact h) h0
theorem xp5 (E:Env σ):∀ d,xrG (xa4 E d)
 | 0=>xlM 0 fun m f h h0=>by cases h0
 | d+1=>xlM (d+1) fun m f h h0=>xrx (xp5 E d) d _ m f h h0
def xpp (f:Fr):Prop:=f.fast=true->∀ x∈f.code,x.op=18->0<=x.b/\x.b<=1000
theorem xpZ {ent:Ent σ}{E:Env σ}{d:Nat}{m:Mc σ}{f:Fr}(h:xpp f)(a:Int)(x:QI):xpp (xaj ent E d m f a x).2.1:=by
 have jmp:∀ g:Fr,xpp g->∀ b,xpp (xaV m g a b).2.1:=fun g hg b=>by
  unfold xaV;simp only
  split<;>split<;>exact hg
 unfold xaj
 split
 ·exact h
 ·split
  ·exact h
  ·split
   ·exact h
   ·split
    ·exact h
    ·split
     ·exact h
     ·split
      ·unfold xbV;split<;>exact h
      ·split
       ·unfold xbD;simp only
        split<;>exact h
       ·split
        ·exact jmp f h _
        ·split
         ·unfold xbz
          split
          ·exact h
          ·split
           ·exact jmp f.pop h _
           ·exact h
         ·unfold xbQ
          split
          ·exact h
          ·split
           ·simp only
            split
            ·exact h
            ·exact fun h=>by cases h
           ·split
            ·exact h
            ·split
             ·exact h
             ·split<;>exact h
end
section
variable {σ:Type}
variable {p:Mp σ} {L:(Nat->Nat)->World->σ->Nat->Prop} {LF QF:Nat} {lc qc:Array Value} {T T':Nat->Nat} {w w':World} {mb:Nat} {m m':Mc σ} {hv:Value} {g:Nat} {s:Nat->Nat} {K fb:Nat} {f:Fr} {cv av tv sv kv:Value}
structure FnR (p:Mp σ)(L:(Nat->Nat)->World->σ->Nat->Prop)(d:Nat)(T:Nat->Nat)(w:World)(mb K fb:Nat)(R:Mc σ × QV × Int)(gk:Nat)(T1:Nat->Nat)(m:Mc σ)(f:Fr)(wr:World):Prop where
 ext:Ext T T1 w
 kp:Kp (All K) T w wr
 mac:∃ hv g s,MacAt p T1 wr mb m (20-(d:Int)) hv g s
 fr:∃ cv av tv sv kv,FrAt T1 K wr fb f cv av tv sv kv
 lk:L T1 wr m.st (xdq p.E m)
 min:MIn p.E m
 fo:FOk p.E.cz m.heap.length f
 gd:xpp f
 room:f.stack.length+muE m f<=1000000
 mu:muE m f<=gk
 val:xb7 (xa4 p.E d) p.E d gk m f=R
 r0:wr.cell? ⟨w.heap.size,0,none⟩=some (.int .i64 0)
 r1:wr.cell? ⟨w.heap.size,1,none⟩=some (.int .i64 0)
 rf:∀ o,wr.frozen? ⟨w.heap.size,o,none⟩=false
 r4:T1 w.heap.size=4
 sz:w.heap.size<wr.heap.size
theorem xcp {S:Nat->Prop}{b o:Nat}(k:Kp S T w w')(hb:b<w.heap.size)(hs:¬ S (T b))(h:w.frozen? ⟨b,o,none⟩=false):w'.frozen? ⟨b,o,none⟩=false:=by
 unfold World.frozen? at h ⊢;simp only at h ⊢;rw[k.blk b hb hs];exact h
theorem FnR.ended (hC:Cx p L LF lc QF qc){d gk:Nat}{T1:Nat->Nat}{wr:World}{R:Mc σ × QV × Int}(h:FnR p L d T w mb K fb R gk T1 m f wr)(u0 u1:Value):EnPost p L T w mb (20-(d:Int)) K (m,xaU,9) (.returned (.tuple #[VV xaU,.int .i64 9])) ((wr.setCell ⟨w.heap.size,0,none⟩ u0).setCell ⟨w.heap.size,1,none⟩ u1).drew:=by
 obtain⟨hv,g,s,hM⟩:=h.mac;have k:Kp (fun t=>t=4) T1 wr ((wr.setCell ⟨w.heap.size,0,none⟩ u0).setCell ⟨w.heap.size,1,none⟩ u1).drew:=(((Kp.refl (fun t=>t=4) _ _).set (fun _=>h.r4) _ _).set (fun _=>h.r4) _ _).drew
 refine⟨rfl,⟨T1,h.ext,⟨_,_,_,hM.keep (.refl _ _) k (by omega) (by omega) (by omega)⟩,?_⟩,((h.kp.set (fun h=>absurd h (Nat.lt_irrefl _)) _ _).set (fun h=>absurd h (Nat.lt_irrefl _)) _ _).drew⟩
 rw[if_neg (by simp)]
 exact hC.mono (hC.keep h.lk (.refl _ _) k (by omega) (by omega)) (Nat.zero_le _)
theorem xk9 (hC:Cx p L LF lc QF qc){d:Nat}(hd:d<=20)(hEn:xe7 p L d)(h:MacAt p T w mb m (20-(d:Int)) hv g s)(hF:FrAt T K w fb f cv av tv sv kv)(hL:L T w m.st (xdq p.E m))(hI:MIn p.E m)(hFo:FOk p.E.cz m.heap.length f)(hGd:xpp f)(hRm:f.stack.length+muE m f<=1000000) :
  Calls Try.prog 84 #[.pointer (some ⟨mb,0,none⟩),.pointer (some ⟨fb,0,none⟩)] w fun e w'=>EnPost p L T w mb (20-(d:Int)) K (xb7 (xa4 p.E d) p.E d (xf4 f) m f) e w':=by
 have hp:=hF.pos;have hb1:=xak w (.cells #[.int .i64 0,.int .i64 0] 27)
 have hRel:FnR p L d T w mb K fb (xb7 (xa4 p.E d) p.E d (xf4 f) m f) (xf4 f) (xaF T w 4) m f (w.alloc (.cells #[.int .i64 0,.int .i64 0] 27)):=
  ⟨xaq T w 4,Kp.of_below hb1,⟨_,_,_,(h.tagged0 4).later hb1⟩,⟨_,_,_,_,_,(hF.tagged0 4).later hb1⟩,hC.keep (hC.keep hL (xaq T w 4) (Kp.refl (fun _=>False) _ _) id id) (.refl _ _) (Kp.of_below (S:=fun _=>False) hb1) id id,hI,hFo,hGd,hRm,xg8 hI.tz.1,rfl,xaa _ _ _ _ rfl 0,xaa _ _ _ _ rfl 1,xap (qzJ w (.cells #[.int .i64 0,.int .i64 0] 27)),xaJ (qzC _),by simp⟩
 clear h hF hL hb1 hFo hGd hRm hI;generalize xb7 (xa4 p.E d) p.E d (xf4 f) m f=R at *;generalize xf4 f=G at *;go_enter Try.func84,Try.ntmps84;go_wp2
 go_loopg [] G (fun gk wr=>∃ T1 m f,FnR p L d T w mb K fb R gk T1 m f wr)
 case atStart=>exact⟨_,_,_,hRel⟩
 case round=>
  clear hRel;obtain⟨T1,m,f,hR⟩:=hrel;obtain⟨hv,g,s,hM⟩:=hR.mac;obtain⟨cv,av,tv,sv,kv,hFr⟩:=hR.fr;have hmu:=hR.mu
  by_cases hin:f.pc<0\/f.code.length<=f.pc.toNat
  ·have HV:Hid (R=(m,xaU,9)):=by
    show _=_
    rw[← hR.val]
    cases gk with
    | zero=>rfl
    | succ G'=>
     unfold xb7
     rcases hin with hn | hn
     ·rw[if_pos hn]
     ·have:(if f.pc<0 then none else f.code[f.pc.toNat]?)=none:=by
       split
       ·rfl
       ·exact List.getElem?_eq_none hn
      rw[this]
   have hc12:wr.cell? ⟨fb,12,none⟩=some (.int .i64 f.pc):=by rw[qzB hFr.box];rfl
   have hc11:wr.cell? ⟨fb,11,none⟩=some kv:=by rw[qzB hFr.box];rfl
   obtain⟨ac,cc,hkv,hcl,hcc,-,hrow⟩:=hFr.code;rw[hkv] at hc11;have q0:=hR.r0;have q1:=hR.r1;have qf:=hR.rf;have HR:=hid hR;have HM:=hid hM;clear hR hM hFr hmu hrow hkv
   by_cases hn:f.pc<0
   ·have hn':decide (0<=f.pc)=false:=by simpa using hn
    have hn2:¬ 0<=f.pc:=by omega
    clear hin hn;go_wp2
    go_region
    go_wp2;rw[HV.out];refine qzK (v:=.tuple #[VV xaU,.int .i64 9]) ?_ rfl (HR.out.ended hC _ _)
    simp[results,Try.results84,go_sem,q0,q1]
   ·have hn':decide (0<=f.pc)=true:=by simpa using hn
    have hn2:0<=f.pc:=by omega
    have hge:¬ f.pc<(f.code.length:Int):=by omega
    have hge':decide (f.pc<(f.code.length:Int))=false:=by simpa using hge
    clear hin hn;go_wp2
    go_region
    go_wp2;rw[HV.out];refine qzK (v:=.tuple #[VV xaU,.int .i64 9]) ?_ rfl (HR.out.ended hC _ _)
    simp[results,Try.results84,go_sem,q0,q1]
  obtain⟨k,hpc⟩:∃ k:Nat,f.pc=(k:Int):=⟨f.pc.toNat,by omega⟩
  have hkl:k<f.code.length:=by rw[hpc] at hin;simp at hin;omega
  obtain⟨x,hxh⟩:∃ x,f.code[k]?=some x:=⟨_,List.getElem?_eq_getElem hkl⟩;clear hin
  obtain⟨G',hG⟩:∃ G',gk=G'+1:=⟨gk-1,by
   have:0<muE m f:=by unfold muE;rw[hpc];simp;omega
   omega⟩
  have HV:Hid (R=if x.op=17 then (m,f.top,0) else if (xaj (xa4 p.E d) p.E d m { f with pc:=f.pc+1 } f.pc x).2.2≠0 then ((xaj (xa4 p.E d) p.E d m { f with pc:=f.pc+1 } f.pc x).1,xaU,(xaj (xa4 p.E d) p.E d m { f with pc:=f.pc+1 } f.pc x).2.2) else xb7 (xa4 p.E d) p.E d G' (xaj (xa4 p.E d) p.E d m { f with pc:=f.pc+1 } f.pc x).1 (xaj (xa4 p.E d) p.E d m { f with pc:=f.pc+1 } f.pc x).2.1):=by
   show _=_
   rw[← hR.val,hG]
   conv=>lhs;unfold xb7
   rw[hpc,if_neg (by omega)]
   simp only[Int.toNat_natCast,hxh]
  have hc12:wr.cell? ⟨fb,12,none⟩=some (.int .i64 (k:Int)):=by rw[qzB hFr.box,← hpc];rfl
  have hc11:wr.cell? ⟨fb,11,none⟩=some kv:=by rw[qzB hFr.box];rfl
  have hcf:=xap hFr.box;obtain⟨ac,cc,hkv,hcl,hcc,-,hrow⟩:=hFr.code;rw[hkv] at hc11;unfold maxLen at hcc;obtain⟨bc,oc,hac,-,i0,i1,i2,i3,i4,-⟩:=hrow k x hxh;rw[hac] at hc11;simp only[Nat.add_zero] at i0;have hk0:(0:Int)<=(k:Int):=by omega
  have hk1:(k:Int)<(f.code.length:Int):=by omega
  have hkw:IntKind.i64.wrap ((k:Int)+1)=(k:Int)+1:=xat (by omega) (by omega)
  have hlf:fb<wr.heap.size:=xal hFr.box;have hnf:¬ fb=wr.heap.size:=by omega
  have hnf':¬ wr.heap.size=fb:=by omega
  have HX:=hid hxh;have HR:=hid hR;have HM:=hid hM;have HF:=hid hFr;have HPC:=hid hpc;have HGK:=hid hG;clear hxh hR hM hFr hpc hmu hrow hkv hac hG;rw[HPC.out] at HV;go_wp2
  go_region
  by_cases h17:x.op=17
  ·have h17':(x.op == 17)=true:=by simpa using h17
   rw[if_pos h17] at HV;clear h17;have hbV:Below wr.heap.size wr (wr.alloc (.cells #[.int .i64 x.op,.int .i64 x.a,.int .i64 x.b,.int .i64 x.c,.string x.name] 59)).drew:=(xak _ _).drew;have hF1:=HF.out.later hbV;go_wp2_with fail;refine (xen hF1).mono ?_;rintro e w2 ⟨rfl,-,hK2⟩;have hrs:=HR.out.sz;have hz:w.heap.size<(wr.alloc (.cells #[.int .i64 x.op,.int .i64 x.a,.int .i64 x.b,.int .i64 x.c,.string x.name] 59)).drew.heap.size:=qzE hrs hbV.size;have q0:=hK2.cell (qzA hbV HR.out.r0) (by rw[HR.out.r4];omega)
   have q1:=hK2.cell (qzA hbV HR.out.r1) (by rw[HR.out.r4];omega)
   have qf:∀ o,w2.frozen? ⟨w.heap.size,o,none⟩=false:=fun o=>xcp hK2 hz (by rw[HR.out.r4];omega) ((hbV.frozen (p:=⟨w.heap.size,o,none⟩) hrs).trans (HR.out.rf o))
   have HM2:=hid ((HM.out.later hbV).keep (.refl _ _) hK2 (by omega) (by omega) (by omega))
   have HL2:=hid (hC.keep (hC.keep HR.out.lk (.refl _ _) (Kp.of_below (S:=fun _=>False) hbV) id id) (.refl _ _) hK2 (by omega) (by omega))
   have HK2:=hid ((HR.out.kp.on hbV).trans HR.out.ext (hK2.mono (S':=All K) fun t h=>by unfold All;omega))
   clear hF1 hK2 hbV hc12 hc11 hcf i0 i1 i2 i3 i4;go_wp2;rw[HV.out];refine qzK (v:=.tuple #[VV f.top,.int .i64 0]) ?_ rfl ⟨rfl,⟨T1,HR.out.ext,⟨_,_,_,HM2.out.keep (.refl _ _) (((Kp.refl (fun t=>t=4) _ _).set (fun _=>HR.out.r4) _ _).set (fun _=>HR.out.r4) _ _) (by omega) (by omega) (by omega)⟩,?_⟩,(HK2.out.set (fun h=>absurd h (Nat.lt_irrefl _)) _ _).set (fun h=>absurd h (Nat.lt_irrefl _)) _ _⟩
   ·simp[results,Try.results84,go_sem,q0,q1]
   ·rw[if_pos rfl]
    exact hC.keep HL2.out (.refl _ _) (((Kp.refl (fun t=>t=4) _ _).set (fun _=>HR.out.r4) _ _).set (fun _=>HR.out.r4) _ _) (by omega) (by omega)
  ·have h17':(x.op == 17)=false:=by simpa using h17
   rw[if_neg h17] at HV;have H17:=hid h17;clear h17;have hk2:Kp (fun t=>t=K) T1 wr (wr.setCell ⟨fb,12,none⟩ (.int .i64 ((k:Int)+1))):=(Kp.refl _ _ _).set (fun _=>HF.out.tag) _ _
   have hbV:Below (wr.setCell ⟨fb,12,none⟩ (.int .i64 ((k:Int)+1))).heap.size (wr.setCell ⟨fb,12,none⟩ (.int .i64 ((k:Int)+1))) ((wr.setCell ⟨fb,12,none⟩ (.int .i64 ((k:Int)+1))).alloc (.cells #[.int .i64 x.op,.int .i64 x.a,.int .i64 x.b,.int .i64 x.c,.string x.name] 59)).drew:=(xak _ _).drew;have hz0:(wr.setCell ⟨fb,12,none⟩ (.int .i64 ((k:Int)+1))).heap.size=wr.heap.size:=by simp
   have hkV:Kp (fun t=>t=K) T1 wr ((wr.setCell ⟨fb,12,none⟩ (.int .i64 ((k:Int)+1))).alloc (.cells #[.int .i64 x.op,.int .i64 x.a,.int .i64 x.b,.int .i64 x.c,.string x.name] 59)).drew:=hk2.on hbV
   have hF1:=(HF.out.pcAt hk2 ((k:Int)+1) (xhU HF.out.box _)).later hbV;have hM1:=HM.out.keep (.refl _ _) hkV (by omega) (by omega) (by omega)
   have hL1:=hC.keep HR.out.lk (.refl _ _) hkV (by omega) (by omega)
   have hFo1:FOk p.E.cz m.heap.length { f with pc:=(k:Int)+1 }:=⟨HR.out.fo.self,HR.out.fo.args,HR.out.fo.temps,HR.out.fo.stack,HR.out.fo.code,HR.out.fo.plain⟩
   have hstep:=xnS hC hEn hM1 hF1 hL1 HR.out.min hFo1 (by have:=HR.out.room;show f.stack.length<=_;omega) hd (k:Int) x (fun hf h18=>HR.out.gd hf x (List.mem_of_getElem? HX.out) h18)
   have hmem:x∈f.code:=List.mem_of_getElem? HX.out;have hcod:=HR.out.fo.code x hmem;have P1:=hid (xjj hC.ok (xl9 hC.ok d) d HR.out.min.heap hFo1 (k:Int) hcod.1 hcod.2);have P2:=hid (xjF (xnc p.E d) d HR.out.min.sz_.2 { f with pc:=(k:Int)+1 } (k:Int) x)
   have P3:=hid (xc9 (xbK p.E d) p.E d m { f with pc:=(k:Int)+1 } (k:Int) x)
   have P4:Hid ((xaj (xa4 p.E d) p.E d m { f with pc:=(k:Int)+1 } (k:Int) x).2.2=0->(xaj (xa4 p.E d) p.E d m { f with pc:=(k:Int)+1 } (k:Int) x).1.tz<=300):=fun h0=>xl5 (xp5 p.E d) d HR.out.min.tz.2 (f:={ f with pc:=(k:Int)+1 }) h0
   have P5:Hid (xpp (xaj (xa4 p.E d) p.E d m { f with pc:=(k:Int)+1 } (k:Int) x).2.1):=xpZ (f:={ f with pc:=(k:Int)+1 }) HR.out.gd (k:Int) x
   have P7:Hid ((xaj (xa4 p.E d) p.E d m { f with pc:=(k:Int)+1 } (k:Int) x).2.2=0->(xaj (xa4 p.E d) p.E d m { f with pc:=(k:Int)+1 } (k:Int) x).2.1.stack.length+muE (xaj (xa4 p.E d) p.E d m { f with pc:=(k:Int)+1 } (k:Int) x).1 (xaj (xa4 p.E d) p.E d m { f with pc:=(k:Int)+1 } (k:Int) x).2.1<=1000000):=fun h0=>by
    have:=xm2 (xbK p.E d) (E:=p.E) (d:=d) (x:=x) HR.out.min.tz.1 (f:=f) (by rw[HPC.out];omega) (by rw[HPC.out];simpa using hkl) (by rw[HPC.out];exact h0) HR.out.room
    rw[HPC.out] at this
    exact this
   have P6:Hid ((xaj (xa4 p.E d) p.E d m { f with pc:=(k:Int)+1 } (k:Int) x).2.2=0->muE (xaj (xa4 p.E d) p.E d m { f with pc:=(k:Int)+1 } (k:Int) x).1 (xaj (xa4 p.E d) p.E d m { f with pc:=(k:Int)+1 } (k:Int) x).2.1<muE m f):=fun h0=>by
    have:=xgc (xbK p.E d) (E:=p.E) (d:=d) (x:=x) HR.out.min.tz.1 (f:=f) (by rw[HPC.out];omega) (by rw[HPC.out];simpa using hkl) (by rw[HPC.out];exact h0)
    rw[HPC.out] at this
    exact this
   clear hF1 hM1 hL1 hFo1 hcod;generalize xaj (xa4 p.E d) p.E d m { f with pc:=(k:Int)+1 } (k:Int) x=r at *
   go_wp2_with fail;refine hstep.mono ?_;rintro e w3 ⟨rfl,⟨T3,hX3,⟨hv3,g3,s3,hM3⟩,hL3,hF3⟩,hK3⟩;have hrs:=HR.out.sz;have hz1:w.heap.size<((wr.setCell ⟨fb,12,none⟩ (.int .i64 ((k:Int)+1))).alloc (.cells #[.int .i64 x.op,.int .i64 x.a,.int .i64 x.b,.int .i64 x.c,.string x.name] 59)).drew.heap.size:=qzE hrs hkV.size;have q0:=hK3.cell (hkV.cell HR.out.r0 (by rw[HR.out.r4];omega)) (by rw[HR.out.r4];unfold All;omega)
   have q1:=hK3.cell (hkV.cell HR.out.r1 (by rw[HR.out.r4];omega)) (by rw[HR.out.r4];unfold All;omega)
   have qf:∀ o,w3.frozen? ⟨w.heap.size,o,none⟩=false:=fun o=>xcp hK3 hz1 (by rw[HR.out.r4];unfold All;omega) (xcp hkV hrs (by rw[HR.out.r4];omega) (HR.out.rf o))
   have HE3:=hid (HR.out.ext.trans HR.out.kp.size (fun b hb=>hX3 b (qzE hb hkV.size)))
   have HK3:=hid ((HR.out.kp.trans HR.out.ext (hkV.mono (S':=All K) fun t h=>by unfold All;omega)).trans HR.out.ext hK3)
   have HT3:Hid (T3 w.heap.size=4):=by show _=_;rw[hX3 _ hz1];exact HR.out.r4
   have HZ3:Hid (w.heap.size<w3.heap.size):=qzE hz1 hK3.size;have HM3:=hid hM3;have HL3:=hid hL3;have HF3:=hid hF3;clear hstep hX3 hM3 hL3 hF3 hK3 hc12 hc11 hcf i0 i1 i2 i3 i4 hk2 hbV hkV hz1
   by_cases he:r.2.2=0
   ·have he':(r.2.2 != 0)=false:=by simpa using he
    have HE0:=hid he;rw[if_neg (by simpa using he)] at HV
    go_wp2
    go_roundg G'
    case measure=>have:=HGK.out;omega
    case rel=>
     have hL4:=HL3.out;rw[if_pos HE0.out] at hL4;have hst:=P1.out;refine⟨T3,r.1,r.2.1,HE3.out,HK3.out,⟨_,_,_,HM3.out⟩,HF3.out HE0.out,hL4,⟨hst.1.heap,⟨by have:=P2.out;have:=HR.out.min.sz_;omega,P2.out.1⟩,⟨by have:=P3.out;have:=HR.out.min.tz;omega,P4.out HE0.out⟩⟩,hst.2 HE0.out,P5.out,P7.out HE0.out,?_,HV.out.symm,q0,q1,qf,HT3.out,HZ3.out⟩
     have h1:=P6.out HE0.out;have h2:=HR.out.mu;have h3:=HGK.out
     omega
   ·have he':(r.2.2 != 0)=true:=by simpa using he
    have HE0:=hid he;rw[if_pos he] at HV;clear he;go_wp2;rw[HV.out];refine qzK (v:=.tuple #[VV xaU,.int .i64 r.2.2]) ?_ rfl ⟨rfl,⟨T3,HE3.out,⟨_,_,_,HM3.out.keep (.refl _ _) (((Kp.refl (fun t=>t=4) _ _).set (fun _=>HT3.out) _ _).set (fun _=>HT3.out) _ _) (by omega) (by omega) (by omega)⟩,?_⟩,(HK3.out.set (fun h=>absurd h (Nat.lt_irrefl _)) _ _).set (fun h=>absurd h (Nat.lt_irrefl _)) _ _⟩
    ·simp[results,Try.results84,go_sem,q0,q1]
    ·have hL4:=HL3.out;rw[if_neg HE0.out] at hL4 ⊢
     exact hC.keep hL4 (.refl _ _) (((Kp.refl (fun t=>t=4) _ _).set (fun _=>HT3.out) _ _).set (fun _=>HT3.out) _ _) (by omega) (by omega)
end
section
variable {σ:Type}
def xeR (E:Env σ)(X:QW)(st0:σ)(s:QV)(name:ByteArray)(args:List QV):Mc σ × QV × Int:=
 xa4 E 20 ⟨X.heap,0,0,st0⟩ (xaB X.cz (xas X.heap s) name).1 (xaB X.cz (xas X.heap s) name).2 s args
def xrY (X:QW)(r:Mc σ × QV × Int):Ran:=if r.2.2≠0 then ⟨X.heap,xaU,r.2.2,r.1.sz_⟩ else ⟨r.1.heap,r.2.1,0,r.1.sz_⟩
def xh1 (E:Env σ)(X:QW)(st0:σ)(s:QV)(name:ByteArray)(args:List QV)(fuel:Int):Ran × σ:=
 if xar X s name args fuel≠0 then (⟨X.heap,xaU,xar X s name args fuel,0⟩,st0) else (xrY X (xeR E X st0 s name args),(xeR E X st0 s name args).1.st)
end
theorem xlv (X:QW)(s:QV)(name:ByteArray)(args:List QV)(fuel:Int):(xh1 (xe1 X fuel) X () s name args fuel).1=xdG X s name args fuel:=by
 unfold xh1 xdG
 split<;>rfl
theorem xfm {xs:List QC}{c n:Int}{mt:QM}(h:xaI xs c n=some mt):∃ (kc kn:Nat) (x:QC),c=(kc:Int)/\n=(kn:Int)/\xs[kc]?=some x/\x.mz[kn]?=some mt:=by
 unfold xaI at h
 cases hc:xbx xs c with
 | none=>rw[hc] at h;cases h
 | some x=>
  rw[hc] at h;obtain⟨k,rfl,hk⟩:=xa7 hc;simp only[Option.bind_some] at h
  split at h
  ·exact⟨k,n.toNat,x,rfl,by omega,hk,h⟩
  ·cases h
section
variable {σ:Type}
variable {p:Mp σ} {L:(Nat->Nat)->World->σ->Nat->Prop} {LF QF:Nat} {lc qc:Array Value} {T T':Nat->Nat} {w w':World} {mb:Nat} {m m':Mc σ} {hv:Value} {g:Nat} {s:Nat->Nat} {K fb:Nat} {f:Fr} {cv av tv sv kv:Value}
structure EnR (w:World)(sf:QV)(w':World):Prop where
 s0:w'.cell? ⟨w.heap.size,0,none⟩=some (.int .i64 sf.k)
 s1:w'.cell? ⟨w.heap.size,1,none⟩=some (.int .i64 sf.n)
 r0:w'.cell? ⟨w.heap.size+1,0,none⟩=some (.int .i64 0)
 r1:w'.cell? ⟨w.heap.size+1,1,none⟩=some (.int .i64 0)
 rf:∀ o,w'.frozen? ⟨w.heap.size+1,o,none⟩=false
 sz:w.heap.size+2<=w'.heap.size
theorem EnR.kp {w:World}{self:QV}{w' w'':World}{S:Nat->Prop}{T:Nat->Nat}(h:EnR w self w')(k:Kp S T w' w'')(h1:¬ S (T w.heap.size))(h2:¬ S (T (w.heap.size+1))):EnR w self w'':=
 ⟨k.cell h.s0 h1,k.cell h.s1 h1,k.cell h.r0 h2,k.cell h.r1 h2,fun o=>xcp k (by have:=h.sz;omega) h2 (h.rf o),qzD h.sz k.size⟩
theorem xjp (w:World)(self:QV):EnR w self ((w.alloc (.cells #[.int .i64 self.k,.int .i64 self.n] 27)).alloc (.cells #[.int .i64 0,.int .i64 0] 27)):=by
 obtain⟨a0,a1,r0,r1,rf,sz⟩:=xny w self
 exact⟨a0,a1,r0,r1,rf,sz⟩
theorem EnPost.fin {calls:Int}{T1:Nat->Nat}{U:World}{r:Mc σ × QV × Int}(hC:Cx p L LF lc QF qc)(hE:Ext T T1 w)(hM:MacAt p T1 U mb r.1 calls hv g s)(hL:L T1 U r.1.st (if r.2.2=0 then xdq p.E r.1 else 0))(hK:Kp (All K) T w U)(h4:T1 (w.heap.size+1)=4)(u0 u1:Value):EnPost p L T w mb calls K r (.returned (.tuple #[VV r.2.1,.int .i64 r.2.2])) ((U.setCell ⟨w.heap.size+1,0,none⟩ u0).setCell ⟨w.heap.size+1,1,none⟩ u1):=by
 have k:Kp (fun t=>t=4) T1 U ((U.setCell ⟨w.heap.size+1,0,none⟩ u0).setCell ⟨w.heap.size+1,1,none⟩ u1):=((Kp.refl (fun t=>t=4) _ _).set (fun _=>h4) _ _).set (fun _=>h4) _ _
 exact⟨rfl,⟨T1,hE,⟨_,_,_,hM.keep (.refl _ _) k (by omega) (by omega) (by omega)⟩,hC.keep hL (.refl _ _) k (by omega) (by omega)⟩,(hK.set (fun h=>absurd h (by omega)) _ _).set (fun h=>absurd h (by omega)) _ _⟩
def xjn (E:Env σ):Nat->Mc σ->Fr->Mc σ × QV × Int
 | 0=>fun m _=>(m,xaU,14)
 | d+1=>fun m f=>xb7 (xa4 E d) E d (xf4 f) m f
theorem xnf (E:Env σ)(d:Nat):xa4 E d=xbc E d (xjn E d):=by cases d<;>rfl
theorem FrNew.later (h:FrNew T K w fb f cv av)(hb:Below w.heap.size w w'):FrNew T K w' fb f cv av:=⟨xad h.box hb,h.tag,h.args.fx xa1 (.refl _ _) (Kp.of_below (S:=fun _=>False) hb) id,h.meth.fx xa2 (.refl _ _) (Kp.of_below (S:=fun _=>False) hb) id,h.pos,h.stack⟩
theorem xl2 {c k:Int}{mt:QM}{self:QV}{args:List QV}(h:FrNew T K w fb ⟨c,mt,self,args,[],[],[],0,false⟩ cv av)(E:Env σ)(fc:Int)(fn:ByteArray)(fe ft:Int)(kq:Value)(hq:∀ q,E.quick c k=some q->ft=q.2/\xaR (Fx T w) w kq q.1):Calls Try.prog 83 #[.pointer (some ⟨fb,0,none⟩),FaV fc fn fe ft kq,.bool (E.quick c k).isSome] w fun e w'=>e=.returned (.tuple #[])/\∃ T' tv sv kv,Ext T T' w/\FrAt T' K w' fb (xaK E c k mt self args) cv av tv sv kv/\Kp (fun t=>t=K) T w w':=by
 unfold xaK
 cases hk:E.quick c k with
 | none=>exact xj2 h rfl kq fc fn fe ft
 | some q=>
  obtain⟨rfl,hc⟩:=hq q hk
  exact xkV h kq fc fn fe q.2 q.1 hc
theorem xoL (E:Env σ)(c k:Int)(mt:QM)(self:QV)(args:List QV):(xaK E c k mt self args).cls=c/\(xaK E c k mt self args).meth=mt/\(xaK E c k mt self args).self=self/\(xaK E c k mt self args).args=args/\(xaK E c k mt self args).stack=[]:=by
 unfold xaK
 split<;>exact⟨rfl,rfl,rfl,rfl,rfl⟩
theorem xoC (hC:Cx p L LF lc QF qc){h:Int}{c k:Int}{mt:QM}(hm:xaI p.E.cz c k=some mt){self:QV}{args:List QV}(hs:xax h self=0)(ha:VsOk h args):FOk p.E.cz h (xaK p.E c k mt self args)/\xpp (xaK p.E c k mt self args)/\xf4 (xaK p.E c k mt self args)<=1000000:=by
 obtain⟨f1,f2⟩:=hC.few c k mt hm;unfold xaK
 cases hk:p.E.quick c k with
 | none=>exact⟨⟨hs,ha,xeB _ _,(fun v hv=>by cases hv),hC.ok.meths _ _ _ hm,hC.ok.meths _ _ _ hm⟩,(fun h=>by cases h),by unfold xf4;simp only;omega⟩
 | some q=>
  obtain⟨g1,g2⟩:=f2 q hk
  exact⟨⟨hs,ha,xeB _ _,(fun v hv=>by cases hv),hC.ok.fast _ _ _ hk,hC.ok.meths _ _ _ hm⟩,fun _=>g2,by unfold xf4;simp only;omega⟩
theorem xiN (hC:Cx p L LF lc QF qc)(d:Nat)(hd:d<=20)(hIh:∀ d',d=d'+1->xe7 p L d'):xe7 p L d:=by
 intro K T w mb m hv g s c n self args av hK5 h hL hI hSe hAr hA;have hX:=xaq T w 4;have hT4:∀ b,w.heap.size<=b->xaF T w 4 b=4:=fun b hb=>xaJ hb
 have hb1:=xbP w (.cells #[.int .i64 self.k,.int .i64 self.n] 27) (.cells #[.int .i64 0,.int .i64 0] 27);have hM0:=(h.tagged0 4).later hb1;have hA0:=(xeG hA xa1 4).fx xa1 (.refl _ w) (Kp.of_below (S:=fun _=>False) hb1) id
 have hL0:=hC.keep (hC.keep hL hX (Kp.refl (fun _=>False) _ _) id id) (.refl _ _) (Kp.of_below (S:=fun _=>False) hb1) id id
 have hR0:=xjp w self;have HKW:Hid (Kp (All K) T w ((w.alloc (.cells #[.int .i64 self.k,.int .i64 self.n] 27)).alloc (.cells #[.int .i64 0,.int .i64 0] 27))):=Kp.of_below hb1;obtain⟨aa,ca,rfl,-⟩:=id hA;have hlm:=xal h.box;clear h hA hL;generalize xaF T w 4=T1 at *;have t0:T1 w.heap.size=4:=hT4 _ (qzC _);have t1:T1 (w.heap.size+1)=4:=hT4 _ (by omega)
 go_enter Try.func63,Try.ntmps63
 go_upto_region 1 with (fail)
 generalize ((w.alloc (.cells #[.int .i64 self.k,.int .i64 self.n] 27)).alloc (.cells #[.int .i64 0,.int .i64 0] 27))=W at *;have hhas:=xoM hM0 c n;have HEN:Hid (xa4 p.E d m c n self args=xbc p.E d (xjn p.E d) m c n self args):=by show _=_;rw[xnf]
 go_wp2_with fail;refine hhas.mono ?_;rintro e w1 ⟨rfl,hbw⟩;have hM1:=hM0.later hbw;have hA1:=hA0.fx xa1 (.refl _ _) (Kp.of_below (S:=fun _=>False) hbw) id
 have hL1:=hC.keep hL0 (.refl _ _) (Kp.of_below (S:=fun _=>False) hbw) id id
 have hR1:=hR0.kp (T:=T1) (S:=fun _=>False) (Kp.of_below hbw) id id
 have HK1:=hid (HKW.out.on hbw);clear hhas hM0 hA0 hL0 hR0 hbw hb1;obtain⟨s0,s1,r0,r1,rf,sz⟩:=id hR1
 cases hma:xaI p.E.cz c n with
 | none=>
  have HE:Hid (xa4 p.E d m c n self args=(m,xaU,10)):=by show _=_;rw[HEN.out];unfold xbc;rw[hma]
  clear hma HEN;have Q:=fun u0 u1=>EnPost.fin (r:=(m,xaU,10)) hC hX hM1 (by rw[if_neg (by simp)];exact hC.mono hL1 (Nat.zero_le _)) HK1.out t1 u0 u1
  have HQ:=hid Q;clear Q hM1 hL1 hA1 hR1;go_wp2;rw[HE.out];refine qzK (v:=.tuple #[VV xaU,.int .i64 10]) ?_ rfl (HQ.out _ _)
  simp[results,Try.results63,go_sem,r0,r1]
 | some mt=>
  obtain⟨kc,kn,xc,rfl,rfl,hxc,hxm⟩:=xfm hma;obtain⟨ac,cc,hcv,hcl,hcc,-,hrow⟩:=hM1.cls;obtain⟨bc,oc,hac,-,e0,e1,e2,e3,mv,e4,hmv⟩:=hrow kc xc hxc;obtain⟨am,cm,rfl,hml,hcm,-,hrowm⟩:=hmv;obtain⟨bm,om,rfl,hbm,f0,f1,f2,f3,f4,cv,f5,hcode⟩:=hrowm kn mt hxm;obtain⟨ak,ck,rfl,-⟩:=id hcode;have m0:=hM1.c0;rw[hcv,hac] at m0;simp only[Nat.add_zero] at e0 f0;unfold maxLen at hcc hcm;have l1:=xae hxc;have l2:=xae hxm;have c1:(kc:Int)<(p.E.cz.length:Int):=by omega
  have c2:(kn:Int)<(xc.mz.length:Int):=by omega
  have c3:(0:Int)<=(kc:Int):=by omega
  have c4:(0:Int)<=(kn:Int):=by omega
  clear hrow hrowm hcv hac hxc hxm;have hbV:=xak w1 (.cells #[.string mt.name,.int .i64 mt.args,.int .i64 mt.temps,.int .i64 mt.prim,.slice ak mt.code.length ck] 55);have hM2:=hM1.later hbV;have hA2:=hA1.fx xa1 (.refl _ _) (Kp.of_below (S:=fun _=>False) hbV) id
  have hCo2:=hcode.fx xa2 (.refl _ _) (Kp.of_below (S:=fun _=>False) hbV) id
  have hL2:=hC.keep hL1 (.refl _ _) (Kp.of_below (S:=fun _=>False) hbV) id id
  have hR2:=hR1.kp (T:=T1) (S:=fun _=>False) (Kp.of_below hbV) id id
  have b0:=xaa w1 #[.string mt.name,.int .i64 mt.args,.int .i64 mt.temps,.int .i64 mt.prim,.slice ak mt.code.length ck] 55 _ rfl 0;have b1:=xaa w1 #[.string mt.name,.int .i64 mt.args,.int .i64 mt.temps,.int .i64 mt.prim,.slice ak mt.code.length ck] 55 _ rfl 1;have b2:=xaa w1 #[.string mt.name,.int .i64 mt.args,.int .i64 mt.temps,.int .i64 mt.prim,.slice ak mt.code.length ck] 55 _ rfl 2;have b3:=xaa w1 #[.string mt.name,.int .i64 mt.args,.int .i64 mt.temps,.int .i64 mt.prim,.slice ak mt.code.length ck] 55 _ rfl 3;have b4:=xaa w1 #[.string mt.name,.int .i64 mt.args,.int .i64 mt.temps,.int .i64 mt.prim,.slice ak mt.code.length ck] 55 _ rfl 4
  have HK2:=hid (HK1.out.on hbV);have tm:T1 w1.heap.size=4:=hT4 _ (by omega)
  have hMz:w1.heap.size<(w1.alloc (.cells #[.string mt.name,.int .i64 mt.args,.int .i64 mt.temps,.int .i64 mt.prim,.slice ak mt.code.length ck] 55)).heap.size:=by simp
  go_upto_region 4 with (fail)
  clear hM1 hA1 hL1 hR1 s0 s1 r0 r1 rf sz e0 e1 e2 e3 e4 f0 f1 f2 f3 f4 f5 m0 hcode hbV HK1;generalize (w1.alloc (.cells #[.string mt.name,.int .i64 mt.args,.int .i64 mt.temps,.int .i64 mt.prim,.slice ak mt.code.length ck] 55))=V at *;simp only[List.getElem?_toArray,List.getElem?_cons_zero,List.getElem?_cons_succ] at b0 b1 b2 b3 b4;generalize w1.heap.size=MBk at *;obtain⟨s0,s1,r0,r1,rf,sz⟩:=id hR2
  have HN:Hid (xa4 p.E d m kc kn self args=if mt.args≠args.length then (m,xaU,8) else if mt.prim≠0 then xba p.E m mt.prim self args else if (xau p.E d m).2≠0 then (m,xaU,(xau p.E d m).2) else xjn p.E d (xau p.E d m).1 (xaK p.E kc kn mt self args)):=by
   show _=_
   rw[HEN.out];unfold xbc xba;rw[hma]
  have HMA:=hid hma;clear hma HEN
  by_cases hag:mt.args=(args.length:Int)
  ·have hag':(mt.args != (args.length:Int))=false:=by simpa using hag
   rw[if_neg (by simpa using hag)] at HN
   have HAG:=hid hag;clear hag
   by_cases hpr:mt.prim=0
   ·have hpr':(mt.prim != 0)=false:=by simpa using hpr
    rw[if_neg (by simpa using hpr)] at HN
    have HPR:=hid hpr;clear hpr;have hcc:=xeO d hM2 hI.sz_.1 (by have:=hC.fuel;omega) rfl hd
    obtain⟨m3,e3,hce⟩:∃ m3 e3,xau p.E d m=(m3,e3):=⟨_,_,rfl⟩;rw[hce] at hcc HN;go_wp2_with fail;refine hcc.mono ?_;rintro e w3 ⟨rfl,hM3,hK3⟩;have hR3:=hR2.kp hK3 (by rw[t0];omega) (by rw[t1];omega)
    have hL3:=hC.keep hL2 (.refl _ _) hK3 (by omega) (by omega)
    have hA3:=hA2.fx xa1 (.refl _ _) hK3 (by omega)
    have hCo3:=hCo2.fx xa2 (.refl _ _) hK3 (by omega)
    have d0:=hK3.cell b0 (by rw[tm];omega)
    have d1:=hK3.cell b1 (by rw[tm];omega)
    have d2:=hK3.cell b2 (by rw[tm];omega)
    have d3:=hK3.cell b3 (by rw[tm];omega)
    have d4:=hK3.cell b4 (by rw[tm];omega)
    have HK3:=hid (HK2.out.trans hX (hK3.mono (S':=All K) fun t h=>Or.inl h))
    have hMz3:MBk<w3.heap.size:=qzE hMz hK3.size;clear hcc hM2 hA2 hL2 hR2 s0 s1 r0 r1 rf sz b0 b1 b2 b3 b4 hK3 hCo2;obtain⟨s0,s1,r0,r1,rf,sz⟩:=id hR3
    by_cases her:e3=0
    ·subst her;have her':((0:Int) != 0)=false:=by simp
     rw[if_neg (by simp)] at HN
     obtain⟨hd0,hm3,hfu⟩:d≠0/\m3={ m with sz_:=m.sz_+1 }/\¬ p.E.fuel<=m.sz_:=by
      unfold xau at hce
      split at hce
      ·cases hce
      ·rename_i k
       split at hce
       ·cases hce
       ·rename_i k2;exact⟨k2,(congrArg Prod.fst hce).symm,k⟩
     obtain⟨d',rfl⟩:∃ d',d=d'+1:=⟨d-1,by omega⟩
     clear hd0 hce;obtain⟨hFo,hGd,hGas⟩:=xoC hC HMA.out hSe hAr;have hStk:=(xoL p.E kc kn mt self args).2.2.2.2;have HN2:Hid (xa4 p.E (d'+1) m kc kn self args=xb7 (xa4 p.E d') p.E d' (xf4 (xaK p.E kc kn mt self args)) m3 (xaK p.E kc kn mt self args)):=HN.out;clear HN
     have hI3:MIn p.E m3:=by
      rw[hm3]
      exact⟨hI.heap,⟨by have:=hI.sz_;simp only;omega,by simp only;omega⟩,hI.tz⟩
     have hFo3:FOk p.E.cz m3.heap.length (xaK p.E kc kn mt self args):=by
      rw[hm3]
      exact hFo
     have hRm3:(xaK p.E kc kn mt self args).stack.length+muE m3 (xaK p.E kc kn mt self args)<=1000000:=by
      have:=xg8 (f:=xaK p.E kc kn mt self args) hI3.tz.1;rw[hStk];simp only[List.length_nil]
      omega
     clear hFo hGas hStk
     have hL3':L T1 w3 m3.st (xdq p.E m3):=by
      rw[hm3]
      exact hC.mono hL3 (by unfold xdq;simp only;omega)
     clear hL3 hm3 hfu;have HMN:Hid (MBk<w3.heap.size):=hMz3;have q8:=hM3.c8;rw[hC.qv] at q8;have hbF:=xak w3 (FB ⟨kc,mt,self,args,[],[],[],0,false⟩ (.slice ak mt.code.length ck) (.slice aa args.length ca) (.slice none 0 0) (.slice none 0 0) (.slice none 0 0));have hX4:Ext T1 (xjd T1 w3.heap.size K) w3:=xez (qzC _);have hkF:Kp (fun _=>False) T1 w3 _:=Kp.of_below hbF
     have hM4:=hM3.keep hX4 hkF id id id;have hL4:=hC.keep hL3' hX4 hkF id id;have hR4:=hR3.kp (T:=T1) hkF id id
     have hNew:FrNew (xjd T1 w3.heap.size K) K (w3.alloc (FB ⟨kc,mt,self,args,[],[],[],0,false⟩ (.slice ak mt.code.length ck) (.slice aa args.length ca) (.slice none 0 0) (.slice none 0 0) (.slice none 0 0))) w3.heap.size ⟨kc,mt,self,args,[],[],[],0,false⟩ (.slice ak mt.code.length ck) (.slice aa args.length ca):=
      ⟨qzJ w3 _,xdI _ _ _,hA3.fx xa1 hX4 hkF id,hCo3.fx xa2 hX4 hkF id,hK5,rfl⟩
     have HK4:=hid (HK3.out.on hbF);have t04:xjd T1 w3.heap.size K w.heap.size=4:=by rw[hX4 _ (by omega)];exact t0
     have t14:xjd T1 w3.heap.size K (w.heap.size+1)=4:=by rw[hX4 _ (by omega)];exact t1
     have HE4:Hid (Ext T (xjd T1 w3.heap.size K) w):=hX.trans HK3.out.size hX4;have q84:=hM4.c8;rw[hC.qv] at q84;have hcf:=hC.qcf
     go_upto_region 12 with (fail)
     generalize xjd T1 w3.heap.size K=T4 at *;generalize (w3.alloc (FB ⟨kc,mt,self,args,[],[],[],0,false⟩ (.slice ak mt.code.length ck) (.slice aa args.length ca) (.slice none 0 0) (.slice none 0 0) (.slice none 0 0)))=V4 at *;clear d0 d1 d2 d3 d4 s0 s1 r0 r1 rf sz q8 hM3 hL3' hR3 hA3 hCo3 hbF hkF hX4;go_wp2_with fail;refine (hC.quick T4 V4 _ kc kn mt _ hL4 HMA.out).mono ?_;rintro e w5 ⟨⟨fc,fn,fe,ft,aq,nq,cq,rfl,hq5⟩,hb5⟩;have hk5:Kp (fun _=>False) T4 V4 w5:=Kp.of_below hb5
     have hM5:=hM4.later hb5;have hL5:=hC.keep hL4 (.refl _ _) hk5 id id;have hR5:=hR4.kp hk5 id id;have hNew5:=hNew.later hb5;have HK5:=hid (HK4.out.on hb5);clear hM4 hL4 hR4 hNew q84 hk5;go_wp2_with fail;refine (xl2 hNew5 p.E fc fn fe ft _ hq5).mono ?_;rintro e w6 ⟨rfl,T6,tv,sv,kv,hX6,hF6,hK6⟩;have hM6:=hM5.keep hX6 hK6 (by omega) (by omega) (by omega)
     have hL6:=hC.keep hL5 hX6 hK6 (by omega) (by omega)
     have hR6:=hR5.kp hK6 (by rw[t04];omega) (by rw[t14];omega)
     have hsz5:=hR5.sz;have t06:T6 w.heap.size=4:=by rw[hX6 _ (by omega)];exact t04
     have t16:T6 (w.heap.size+1)=4:=by rw[hX6 _ (by omega)];exact t14
     have HE6:=hid (HE4.out.trans HK5.out.size hX6);have HK6:=hid (HK5.out.trans HE4.out (hK6.mono (S':=All K) fun t h=>by unfold All;omega))
     clear hM5 hL5 hR5 hNew5 hX6 hK6;have m5:=hM6.c5;have mf:=xap hM6.box;have hcw:IntKind.i64.wrap (20-((d'+1:Nat):Int)+1)=20-(d':Int):=by rw[xat (by omega) (by omega)];omega
     have hcw2:IntKind.i64.wrap (20-(d':Int)-1)=20-((d'+1:Nat):Int):=by rw[xat (by omega) (by omega)];omega
     obtain⟨cA,hcA⟩:∃ cA:Int,cA=20-((d'+1:Nat):Int):=⟨_,rfl⟩;obtain⟨cB,hcB⟩:∃ cB:Int,cB=20-(d':Int):=⟨_,rfl⟩;rw[← hcA] at m5 hcw hcw2;rw[← hcB] at hcw hcw2;have HCA:=hid hcA;have HCB:=hid hcB;clear hcA hcB;have k7:Kp (fun t=>t=1) T6 w6 (w6.setCell ⟨mb,5,none⟩ (.int .i64 cB)):=(Kp.refl _ _ _).set (fun _=>hM6.tag) _ _
     have hM7:MacAt p T6 (w6.setCell ⟨mb,5,none⟩ (.int .i64 cB)) mb m3 (20-(d':Int)) hv g s:=hM6.turn (m':=m3) k7 (by rw[xm6 hM6.box,HCB.out]) rfl
     have hF7:=hF6.keep (.refl _ _) k7 (by omega) (by omega) (by omega) (by omega)
     have hL7:=hC.keep hL6 (.refl _ _) k7 (by omega) (by omega)
     have hR7:=hR6.kp k7 (by rw[t06];omega) (by rw[t16];omega)
     have HK7:=hid (HK6.out.trans HE6.out (k7.mono (S':=All K) fun t h=>Or.inl h))
     have hfin:=xk9 hC (by omega) (hIh d' rfl) hM7 hF7 hL7 hI3 hFo3 hGd hRm3
     generalize xb7 (xa4 p.E d') p.E d' (xf4 (xaK p.E kc kn mt self args)) m3 (xaK p.E kc kn mt self args)=R at *;go_wp2_with fail;refine (hfin).mono ?_;rintro e w8 ⟨rfl,⟨T8,hX8,⟨hv8,g8,s8,hM8⟩,hL8⟩,hK8⟩;obtain⟨rm,v,er⟩:=R;simp only at hM8 hL8;have hR8:=hR7.kp hK8 (by rw[t06];unfold All;omega) (by rw[t16];unfold All;omega)
     have hsz7:=hR7.sz;have t18:T8 (w.heap.size+1)=4:=by rw[hX8 _ (by omega)];exact t16
     have t08:T8 w.heap.size=4:=by rw[hX8 _ (by omega)];exact t06
     have HE8:=hid (HE6.out.trans HK7.out.size hX8);have HK8:=hid (HK7.out.trans HE6.out hK8);have m58:=hM8.c5;rw[← HCB.out] at m58;have mf8:=xap hM8.box;have hlm8:mb<w8.heap.size:=xal hM8.box;have hn8:¬ mb=w8.heap.size:=by omega
     have hn8':¬ w8.heap.size=mb:=by omega
     have HM8:=hid hM8;have HL8:=hid hL8;clear hfin hM7 hF7 hL7 hR7 hM6 hF6 hL6 hR6 k7 m5 mf hX8 hK8 hM8 hL8 hI3 hFo3 hGd hRm3 hcf;have kS:Kp (fun t=>t=1) T8 w8 (w8.setCell ⟨mb,5,none⟩ (.int .i64 cA)):=(Kp.refl _ _ _).set (fun _=>HM8.out.tag) _ _
     have hMS:MacAt p T8 (w8.setCell ⟨mb,5,none⟩ (.int .i64 cA)) mb rm (20-((d'+1:Nat):Int)) hv8 g8 s8:=HM8.out.turn (m':=rm) kS (by rw[xm6 HM8.out.box,HCA.out]) rfl
     have hbU:Below (w8.setCell ⟨mb,5,none⟩ (.int .i64 cA)).heap.size (w8.setCell ⟨mb,5,none⟩ (.int .i64 cA)) ((w8.setCell ⟨mb,5,none⟩ (.int .i64 cA)).alloc (.cells #[.int .i64 v.k,.int .i64 v.n] 27)):=xak _ _;have kU:=kS.on hbU;have hMU:=hMS.later hbU;have hLU:=hC.keep HL8.out (.refl _ _) kU (by omega) (by omega)
     have hRU:=hR8.kp kU (by rw[t08];omega) (by rw[t18];omega)
     have v0:((w8.setCell ⟨mb,5,none⟩ (.int .i64 cA)).alloc (.cells #[.int .i64 v.k,.int .i64 v.n] 27)).cell? ⟨w8.heap.size,0,none⟩=some (.int .i64 v.k):=xaa _ _ _ _ (by simp) 0
     have v1:((w8.setCell ⟨mb,5,none⟩ (.int .i64 cA)).alloc (.cells #[.int .i64 v.k,.int .i64 v.n] 27)).cell? ⟨w8.heap.size,1,none⟩=some (.int .i64 v.n):=xaa _ _ _ _ (by simp) 1
     have HQ:=hid fun u0 u1=>EnPost.fin (r:=(rm,v,er)) hC HE8.out hMU hLU (HK8.out.trans HE8.out (kU.mono fun t h=>Or.inl h)) t18 u0 u1
     clear hMU hLU kU kS hMS hbU
     go_upto_region 16 with (fail)
     generalize ((w8.setCell ⟨mb,5,none⟩ (.int .i64 cA)).alloc (.cells #[.int .i64 v.k,.int .i64 v.n] 27))=U at *;obtain⟨s0,s1,r0,r1,rf,sz⟩:=id hRU;have hnz:¬ w.heap.size+1=w8.heap.size:=by have:=hR8.sz;omega
     have hnz':¬ w8.heap.size=w.heap.size+1:=by have:=hR8.sz;omega
     go_wp2;rw[HN2.out];refine qzK (v:=.tuple #[VV v,.int .i64 er]) ?_ rfl (HQ.out _ _)
     simp[results,Try.results63,go_sem,r0,r1]
    ·have her':(e3 != 0)=true:=by simpa using her
     rw[if_pos her] at HN
     have hm3:m3=m:=by
      have:(xau p.E d m).2≠0:=by rw[hce];exact her
      unfold xau at hce this
      split at hce
      ·exact (congrArg Prod.fst hce).symm
      ·rename_i k;rw[if_neg k] at this
       split at hce
       ·exact (congrArg Prod.fst hce).symm
       ·rename_i k2;rw[if_neg k2] at this;exact absurd rfl this
     subst hm3;have HQ:=hid fun u0 u1=>EnPost.fin (r:=(m3,xaU,e3)) hC hX hM3 (by rw[if_neg her];exact hC.mono hL3 (Nat.zero_le _)) HK3.out t1 u0 u1
     clear hM3 hL3 hA3 hR3 hce;go_wp2;rw[HN.out];refine qzK (v:=.tuple #[VV xaU,.int .i64 e3]) ?_ rfl (HQ.out _ _)
     simp[results,Try.results63,go_sem,r0,r1]
   ·have hpr':(mt.prim != 0)=true:=by simpa using hpr
    rw[if_pos (by simpa using hpr)] at HN
    clear hpr
    have hbd:∀ v:QV,xax m.heap.length v=0->v.k=3->-1073741824<=v.n/\v.n<=1073741824:=fun v hv h3=>by
     unfold xax xcu at hv;rw[h3] at hv
     simp at hv
     omega
    have hpi:=xhG hM2 hI.sz_.1 (by have:=hC.fuel;omega) mt.prim self args _ hA2 (hbd _ hSe) (hbd _ (hAr.entry 0))
    have hsd:(xba p.E m mt.prim self args).1.st=m.st/\((xba p.E m mt.prim self args).2.2=0->xdq p.E (xba p.E m mt.prim self args).1<=(p.E.fuel-m.sz_).toNat):=by
     unfold xba
     split
     ·exact⟨rfl,fun h=>by cases h⟩
     ·exact⟨rfl,fun _=>by unfold xdq;simp only;omega⟩
    generalize xba p.E m mt.prim self args=r at *;go_wp2_with fail;refine hpi.mono ?_;rintro e w3 ⟨rfl,⟨T3,hX3,hM3⟩,hK3⟩;have hR3:=hR2.kp hK3 (by rw[t0];omega) (by rw[t1];omega)
    have hL3:=hC.keep hL2 hX3 hK3 (by omega) (by omega)
    have t3:T3 (w.heap.size+1)=4:=by rw[hX3 _ (by omega)];exact t1
    have hle:(if r.2.2=0 then xdq p.E r.1 else 0)<=(p.E.fuel-m.sz_).toNat:=by
     by_cases h0:r.2.2=0
     ·rw[if_pos h0];exact hsd.2 h0
     ·rw[if_neg h0];exact Nat.zero_le _
    have HQ:=hid fun u0 u1=>EnPost.fin (r:=r) hC (hX.trans HK2.out.size hX3) hM3 (by rw[hsd.1];exact hC.mono hL3 hle) (HK2.out.trans hX (hK3.mono fun t h=>Or.inl h)) t3 u0 u1
    clear hpi hM2 hA2 hL2 hR2 s0 s1 r0 r1 rf sz b0 b1 b2 b3 b4 hK3 hM3 hL3;obtain⟨s0,s1,r0,r1,rf,sz⟩:=id hR3;go_wp2;rw[HN.out];refine qzK (v:=.tuple #[VV r.2.1,.int .i64 r.2.2]) ?_ rfl (HQ.out _ _)
    simp[results,Try.results63,go_sem,r0,r1]
  ·have hag':(mt.args != (args.length:Int))=true:=by simpa using hag
   rw[if_pos (by simpa using hag)] at HN
   clear hag;have HQ:=hid fun u0 u1=>EnPost.fin (r:=(m,xaU,8)) hC hX hM2 (by rw[if_neg (by simp)];exact hC.mono hL2 (Nat.zero_le _)) HK2.out t1 u0 u1
   clear hM2 hA2 hL2 hR2;go_wp2;rw[HN.out];refine qzK (v:=.tuple #[VV xaU,.int .i64 8]) ?_ rfl (HQ.out _ _)
   simp[results,Try.results63,go_sem,r0,r1]
theorem xip (hC:Cx p L LF lc QF qc):∀ d,d<=20->xe7 p L d
 | 0,hd=>xiN hC 0 hd (fun d' h=>by omega)
 | d+1,hd=>xiN hC (d+1) hd (fun d' h=>by
   have:d'=d:=by omega
   subst this
   exact xip hC d' (by omega))
end
end Go.Proofs.Ytdfbgpiikeheiaa
