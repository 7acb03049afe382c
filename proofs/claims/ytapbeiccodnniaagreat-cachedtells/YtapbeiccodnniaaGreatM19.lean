/- A part. -/
import Derived.Test.YtapbeiccodnniaaGreatM18
namespace Go.Proofs.YtapbeiccodnniaaGreat
open Go.ChangeShapes Go.WideShapes Go.ChangeAt Go.RowKit
set_option linter.unusedSimpArgs false
set_option linter.unusedVariables false
set_option maxHeartbeats 8000000
set_option maxRecDepth 8000
section
variable {σ:Type} {p:Mp σ} {L:(Nat->Nat)->World->σ->Nat->Prop} {LF QF:Nat} {lc qc:Array Value} {T T':Nat->Nat} {w w':World} {mb:Nat} {m m':Mc σ} {hv:Value} {g:Nat} {s:Nat->Nat} {K fb:Nat} {f:Fr} {cv av tv sv kv:Value}
theorem xb9 (hC:Cx p L LF lc QF qc){T1:Nat->Nat}{V:World}{calls:Int}{r:Mc σ × Fr × Int}{S:Nat->Prop}{e:Ending}(hr:r.1.st=m.st/\m.sz_<=r.1.sz_)(hE:Ext T T1 w)(hK:Kp (All K) T w V)(hL:L T1 V m.st (xc7 p.E m))(he:e=.returned (.int .i64 r.2.2)){T2:Nat->Nat}(hE2:Ext T1 T2 V)(hM:∃ hv g s,MacAt p T2 w' mb r.1 calls hv g s)(hF:r.2.2=0->∃ cv av tv sv kv,FrAt T2 K w' fb r.2.1 cv av tv sv kv)(k:Kp S T1 V w')(hS:∀ t,S t->All K t)(h0:¬ S 0)(h3:¬ S 3):StPost p L T w mb calls K fb r e w':=by
 have hL2:=hC.keep hL hE2 k h0 h3;refine⟨he,⟨T2,hE.trans hK.size hE2,hM,?_,hF⟩,hK.trans hE (k.mono hS)⟩;rw[hr.1];have:xc7 p.E r.1<=xc7 p.E m:=by unfold xc7;omega
 split
 ·exact hC.mono hL2 this
 ·exact hC.mono hL2 (Nat.zero_le _)
theorem xim {b1 b2 o1 o2 o3:Nat}{v1 v2 v3:Value}{w w':World}(h:w.cell? ⟨b1,o1,none⟩=some v1/\w.cell? ⟨b2,o2,none⟩=some v2/\w.cell? ⟨b2,o3,none⟩=some v3)(hb:Below w.heap.size w w'):w'.cell? ⟨b1,o1,none⟩=some v1/\w'.cell? ⟨b2,o2,none⟩=some v2/\w'.cell? ⟨b2,o3,none⟩=some v3:=⟨qzA hb h.1,qzA hb h.2.1,qzA hb h.2.2⟩
theorem xmC {b1 b2 b3 o1 o2 o3 o4:Nat}{v1 v2 v3 v4:Value}{w w':World}(h:w.cell? ⟨b1,o1,none⟩=some v1/\w.cell? ⟨b2,o2,none⟩=some v2/\w.cell? ⟨b3,o3,none⟩=some v3/\w.cell? ⟨b3,o4,none⟩=some v4)(hb:Below w.heap.size w w'):w'.cell? ⟨b1,o1,none⟩=some v1/\w'.cell? ⟨b2,o2,none⟩=some v2/\w'.cell? ⟨b3,o3,none⟩=some v3/\w'.cell? ⟨b3,o4,none⟩=some v4:=⟨qzA hb h.1,qzA hb h.2.1,qzA hb h.2.2.1,qzA hb h.2.2.2⟩
theorem xhf (hC:Cx p L LF lc QF qc){d:Nat}(hd:d<=20)(h:MacAt p T w mb m (20-(d:Int)) hv g s)(hF:FrAt T K w fb f cv av tv sv kv)(hL:L T w m.st (xc7 p.E m))(hI:MIn p.E m)(hst:f.stack.length<=1000000)(x:QI)(hxb:f.fast=true->x.op=18->0<=x.b/\x.b<=1000) :
  Calls Tryz.prog 110 #[.pointer (some ⟨mb,0,none⟩),.pointer (some ⟨fb,0,none⟩),IV x] w fun e w'=>StPost p L T w mb (20-(d:Int)) K fb (xcl p.E d m f x) e w':=by
 have hp:=hF.pos;have hX:=xao T w 4;have hT4:∀ b,w.heap.size<=b->xau T w 4 b=4:=fun b hb=>xav hb
 have hb1:=xaj w (.cells #[.int .i64 x.op,.int .i64 x.a,.int .i64 x.b,.int .i64 x.c,.string x.name] 76);have hM1:=(h.tagged0 4).later hb1;have hF1:=(hF.tagged0 4).later hb1;have hL1:=hC.keep (hC.keep hL hX (Kp.refl (fun _=>False) _ _) id id) (.refl _ _) (Kp.of_below (S:=fun _=>False) hb1) id id
 have hR1:=xh1 w x 76;have hroom:f.stack.length<1000000000:=by omega
 have HKV:Hid (Kp (All K) T w (w.alloc (.cells #[.int .i64 x.op,.int .i64 x.a,.int .i64 x.b,.int .i64 x.c,.string x.name] 76))):=Kp.of_below hb1;have hz4:xau T w 4 w.heap.size=4:=hT4 _ (qzC _);clear h hF hL hb1 hT4;generalize xau T w 4=T1 at *;have c13:(w.alloc (.cells #[.int .i64 x.op,.int .i64 x.a,.int .i64 x.b,.int .i64 x.c,.string x.name] 76)).cell? ⟨fb,13,none⟩=some (.bool f.fast):=by rw[qzB hF1.box];rfl
 go_enter Tryz.func110,Tryz.ntmps110
 go_upto_region 1 with (fail)
 generalize (w.alloc (.cells #[.int .i64 x.op,.int .i64 x.a,.int .i64 x.b,.int .i64 x.c,.string x.name] 76))=V at *;obtain⟨x0,x1,x2,x3,x4⟩:=id hR1;have hVz:w.heap.size<V.heap.size:=World.block_lt_of_cell? V ⟨w.heap.size,0,none⟩ x0
 cases hfa:f.fast with
 | false=>
  have HN:Hid (xcl p.E d m f x=(m,f,1)):=by show _=_;unfold xcl;rw[if_pos hfa]
  rw[hfa] at c13;have Q:Hid (StPost p L T w mb (20-(d:Int)) K fb (m,f,1) (.returned (.int .i64 1)) V):=xb9 hC ⟨rfl,Int.le_refl _⟩ hX HKV.out hL1 rfl (.refl _ _) ⟨_,_,_,hM1⟩ (fun h=>by cases h) (Kp.refl (fun _=>False) _ _) (fun _ h=>h.elim) id id
  clear hM1 hF1 hL1 hR1;go_wp2
  go_ret
  rw[HN.out]
  exact Q.out
 | true=>
  rw[hfa] at c13;have hxb':=hxb hfa;have HFE:Hid (xcl p.E d m f x=if x.op=18 then (m,if xar m.heap (xaW f.stack x.b)=x.a then f else f.leave x.c,0) else if x.op=19 then (m,f.push (xcV m.heap (xaM f.temps x.a) x.b),0) else if x.op=20 then ({ m with heap:=xaR m.heap (xaM f.temps x.a) x.b f.top },f.pop,0) else if x.op=21 then ((xay p.E d m).1,f,(xay p.E d m).2) else (m,f,1)):=by show _=_;unfold xcl;rw[if_neg (by simp[hfa])]
  clear hfa hxb;obtain⟨ch,rfl,hc1,hc2⟩:=hM1.heap.form;have m1:=hM1.c1
  go_upto_region 3 with (fail)
  by_cases h18:x.op=18
  ·have h18':(x.op == 18)=true:=by simpa using h18
   rw[if_pos h18] at HFE;obtain⟨hx0,hx1⟩:=hxb' h18;clear h18 hxb'
   go_upto_region 6 with (fail)
   have hS0:V.drew.cell? ⟨mb,1,none⟩=some (.slice (some ⟨g,0,none⟩) m.heap.length ch)/\V.drew.cell? ⟨w.heap.size,1,none⟩=some (.int .i64 x.a)/\V.drew.cell? ⟨w.heap.size,2,none⟩=some (.int .i64 x.b):=⟨m1,x1,x2⟩;have hMd:=hM1.later (qzL _ V).drew;have hFd:=hF1.later (qzL _ V).drew;have tokA:True:=trivial
   go_region_held3 (fun w'=>w'.cell? ⟨mb,1,none⟩=some (.slice (some ⟨g,0,none⟩) m.heap.length ch)/\w'.cell? ⟨w.heap.size,1,none⟩=some (.int .i64 x.a)/\w'.cell? ⟨w.heap.size,2,none⟩=some (.int .i64 x.b))
    (first | with_reducible exact hS0 | with_reducible exact hS1 | with_reducible exact hS2)
    (first
     | (have _t:=tokA;go_at_call 101;refine (xfm hFd x.b ⟨hx0,by omega⟩).mono ?_;rintro e w3 ⟨rfl,hb3⟩;have hS1:=xim hS0 hb3;clear tokA;have tokB:True:=trivial)
     | (have _t:=tokB;go_at_call 60;refine (xel m.heap _ (xaW f.stack x.b) _ (((hMd.later hb3).heap).heap)).mono ?_;rintro e w4 ⟨rfl,hb4⟩;have hS2:=xim hS1 hb4;clear tokB))
   have hb34:=xah (qzL _ V).drew (xah hb3 hb4);have x3':=qzA hb34 x3;have HM4:=hid (hM1.later hb34);have hF4:=hF1.later hb34;have HL4:=hid (hC.keep hL1 (.refl _ _) (Kp.of_below (S:=fun _=>False) hb34) id id)
   have HK4:=hid (HKV.out.on hb34)
   by_cases hcl:xar m.heap (xaW f.stack x.b)=x.a
   ·have hcl':(xar m.heap (xaW f.stack x.b) != x.a)=false:=by simpa using hcl
    rw[if_pos hcl] at HFE;have Q:Hid (StPost p L T w mb (20-(d:Int)) K fb (m,f,0) (.returned (.int .i64 0)) w4):=xb9 hC ⟨rfl,Int.le_refl _⟩ hX HK4.out HL4.out rfl (.refl _ _) ⟨_,_,_,HM4.out⟩ (fun _=>⟨_,_,_,_,_,hF4⟩) (Kp.refl (fun _=>False) _ _) (fun _ h=>h.elim) id id
    clear hM1 hF1 hL1 hR1 hMd hFd hF4 hS0 hS1 hS2 m1 x0 x1 x2 x3 x4 c13 hcl;go_wp2
    go_ret
    rw[HFE.out]
    exact Q.out
   ·have hcl':(xar m.heap (xaW f.stack x.b) != x.a)=true:=by simpa using hcl
    rw[if_neg hcl] at HFE;clear hM1 hF1 hL1 hR1 hMd hFd hS0 hS1 hS2 m1 x0 x1 x2 x3 x4 c13 hcl;go_wp2_with fail;refine (xgn hF4 x.c).mono ?_;rintro e w5 ⟨rfl,⟨T5,tv5,hX5,hF5⟩,hK5⟩;have Q:Hid (StPost p L T w mb (20-(d:Int)) K fb (m,f.leave x.c,0) (.returned (.int .i64 0)) w5):=xb9 hC ⟨rfl,Int.le_refl _⟩ hX HK4.out HL4.out rfl hX5 ⟨_,_,_,HM4.out.keep hX5 hK5 (by omega) (by omega) (by omega)⟩ (fun _=>⟨_,_,_,_,_,hF5⟩) hK5 (fun t h=>by unfold All;omega) (by omega) (by omega)
    clear hF4 hF5 hK5 hX5;go_wp2
    go_ret
    rw[HFE.out]
    exact Q.out
  have h18':(x.op == 18)=false:=by simpa using h18
  rw[if_neg h18] at HFE;clear h18 hxb'
  by_cases h19:x.op=19
  ·have h19':(x.op == 19)=true:=by simpa using h19
   rw[if_pos h19] at HFE;clear h19;have htv:=hF1.tempsV;obtain⟨tb,rfl,ht2,ht3,ht4⟩:=hF1.temps
   go_upto_region 9 with (fail)
   have hMd:=hM1.later (qzL _ V).drew;have hFd:=hF1.later (qzL _ V).drew;have hS0:V.drew.cell? ⟨mb,1,none⟩=some (.slice (some ⟨g,0,none⟩) m.heap.length ch)/\V.drew.cell? ⟨fb,9,none⟩=some (.slice (some ⟨tb,0,none⟩) f.temps.length f.temps.length)/\V.drew.cell? ⟨w.heap.size,1,none⟩=some (.int .i64 x.a)/\V.drew.cell? ⟨w.heap.size,2,none⟩=some (.int .i64 x.b):=⟨m1,hFd.c.2.2.2,x1,x2⟩;have tokA:True:=trivial
   go_region_held3 (fun w'=>w'.cell? ⟨mb,1,none⟩=some (.slice (some ⟨g,0,none⟩) m.heap.length ch)/\w'.cell? ⟨fb,9,none⟩=some (.slice (some ⟨tb,0,none⟩) f.temps.length f.temps.length)/\w'.cell? ⟨w.heap.size,1,none⟩=some (.int .i64 x.a)/\w'.cell? ⟨w.heap.size,2,none⟩=some (.int .i64 x.b))
    (first | with_reducible exact hS0 | with_reducible exact hS1 | with_reducible exact hS2 | with_reducible exact hS3)
    (first
     | (have _t:=tokA;go_at_call 92;refine (xc0 f.temps _ x.a _ (htv.later xaK (qzL _ V).drew)).mono ?_;rintro e w3 ⟨rfl,hb3⟩;have hS1:=xmC hS0 hb3;clear tokA;have tokB:True:=trivial)
     | (have _t:=tokB;go_at_call 111;refine (xg7 m.heap _ (xaM f.temps x.a) x.b _ (((hMd.later hb3).heap).heap)).mono ?_;rintro e w4 ⟨rfl,hb4⟩;have hS2:=xmC hS1 hb4;have hF4:=(hFd.later hb3).later hb4;clear tokB;have tokC:True:=trivial)
     | (have _t:=tokC;go_at_call 103;refine (xdM hF4 (xcV m.heap (xaM f.temps x.a) x.b) hroom).mono ?_;rintro e w5 ⟨rfl,⟨T5,sv5,hX5,hF5⟩,hK5⟩;have hMk:=((hMd.later hb3).later hb4).keep hX5 hK5 (by omega) (by omega) (by omega);have hz5:T1 w.heap.size=4:=hz4;have hS3:w5.cell? ⟨mb,1,none⟩=some (.slice (some ⟨g,0,none⟩) m.heap.length ch)/\w5.cell? ⟨fb,9,none⟩=some (.slice (some ⟨tb,0,none⟩) f.temps.length f.temps.length)/\w5.cell? ⟨w.heap.size,1,none⟩=some (.int .i64 x.a)/\w5.cell? ⟨w.heap.size,2,none⟩=some (.int .i64 x.b):=⟨hMk.c1,hF5.c.2.2.2,hK5.cell hS2.2.2.1 (by rw[hz4];omega),hK5.cell hS2.2.2.2 (by rw[hz4];omega)⟩;clear tokC))
   have hb34:=xah (qzL _ V).drew (xah hb3 hb4);have Q:Hid (StPost p L T w mb (20-(d:Int)) K fb (m,f.push (xcV m.heap (xaM f.temps x.a) x.b),0) (.returned (.int .i64 0)) w5):=xb9 hC ⟨rfl,Int.le_refl _⟩ hX (HKV.out.on hb34) (hC.keep hL1 (.refl _ _) (Kp.of_below (S:=fun _=>False) hb34) id id) rfl hX5 ⟨_,_,_,hMk⟩ (fun _=>⟨_,_,_,_,_,hF5⟩) hK5 (fun t h=>by unfold All;omega) (by omega) (by omega)
   clear hM1 hF1 hL1 hR1 hMd hFd hF4 hF5 hS0 hS1 hS2 hS3 m1 x0 x1 x2 x3 x4 c13 hMk htv ht2 hK5 hX5;go_wp2
   go_ret
   rw[HFE.out]
   exact Q.out
  have h19':(x.op == 19)=false:=by simpa using h19
  rw[if_neg h19] at HFE;clear h19
  by_cases h20:x.op=20
  ·have h20':(x.op == 20)=true:=by simpa using h20
   rw[if_pos h20] at HFE;clear h20;have htv:=hF1.tempsV;obtain⟨tb,rfl,ht2,ht3,ht4⟩:=hF1.temps
   go_upto_region 11 with (fail)
   have hMd:=hM1.later (qzL _ V).drew;have hFd:=hF1.later (qzL _ V).drew;have hS0:V.drew.cell? ⟨fb,9,none⟩=some (.slice (some ⟨tb,0,none⟩) f.temps.length f.temps.length)/\V.drew.cell? ⟨w.heap.size,1,none⟩=some (.int .i64 x.a)/\V.drew.cell? ⟨w.heap.size,2,none⟩=some (.int .i64 x.b):=⟨hFd.c.2.2.2,x1,x2⟩;have tokA:True:=trivial
   go_region_held3 (fun w'=>w'.cell? ⟨fb,9,none⟩=some (.slice (some ⟨tb,0,none⟩) f.temps.length f.temps.length)/\w'.cell? ⟨w.heap.size,1,none⟩=some (.int .i64 x.a)/\w'.cell? ⟨w.heap.size,2,none⟩=some (.int .i64 x.b))
    (first | with_reducible exact hS0 | with_reducible exact hS1 | with_reducible exact hS2 | with_reducible exact hS3)
    (first
     | (have _t:=tokA;go_at_call 92;refine (xc0 f.temps _ x.a _ (htv.later xaK (qzL _ V).drew)).mono ?_;rintro e w3 ⟨rfl,hb3⟩;have hS1:=xim hS0 hb3;have hF3:=hFd.later hb3;have hM3:=hMd.later hb3;clear tokA;have tokB:True:=trivial)
     | (have _t:=tokB;go_at_call 94;refine (xdD hF3).mono ?_;rintro e w4 ⟨rfl,⟨sv4,hF4⟩,hK4⟩;have hM4:=hM3.keep (.refl _ _) hK4 (by omega) (by omega) (by omega);have hS2:w4.cell? ⟨fb,9,none⟩=some (.slice (some ⟨tb,0,none⟩) f.temps.length f.temps.length)/\w4.cell? ⟨w.heap.size,1,none⟩=some (.int .i64 x.a)/\w4.cell? ⟨w.heap.size,2,none⟩=some (.int .i64 x.b):=⟨hF4.c.2.2.2,hK4.cell hS1.2.1 (by rw[hz4];omega),hK4.cell hS1.2.2 (by rw[hz4];omega)⟩;clear tokB;have tokC:True:=trivial)
     | (have _t:=tokC;go_at_call 105;refine (xeV hM4 (xaM f.temps x.a) x.b f.top).mono ?_;rintro e w5 ⟨rfl,⟨T5,hX5,hM5⟩,hK5⟩;have hF5:=hF4.keep hX5 hK5 (by omega) (by omega) (by omega) (by omega);have hS3:w5.cell? ⟨fb,9,none⟩=some (.slice (some ⟨tb,0,none⟩) f.temps.length f.temps.length)/\w5.cell? ⟨w.heap.size,1,none⟩=some (.int .i64 x.a)/\w5.cell? ⟨w.heap.size,2,none⟩=some (.int .i64 x.b):=⟨hF5.c.2.2.2,hK5.cell hS2.2.1 (by rw[hz4];omega),hK5.cell hS2.2.2 (by rw[hz4];omega)⟩;clear tokC))
   have hb3':=xah (qzL _ V).drew hb3;have HX5:Hid (Ext T1 T5 w3):=fun b hb=>hX5 b (qzE hb hK4.size)
   have Q:Hid (StPost p L T w mb (20-(d:Int)) K fb ({ m with heap:=xaR m.heap (xaM f.temps x.a) x.b f.top },f.pop,0) (.returned (.int .i64 0)) w5):=xb9 hC ⟨rfl,Int.le_refl _⟩ hX (HKV.out.on hb3') (hC.keep hL1 (.refl _ _) (Kp.of_below (S:=fun _=>False) hb3') id id) rfl HX5.out ⟨_,_,_,hM5⟩ (fun _=>⟨_,_,_,_,_,hF5⟩) (S:=fun t=>t=K\/t=2) ((hK4.mono fun t h=>Or.inl h).trans (.refl _ _) (hK5.mono fun t h=>Or.inr h)) (fun t h=>by unfold All;omega) (by omega) (by omega)
   clear hM1 hF1 hL1 hR1 hMd hFd hF4 hF5 hF3 hM3 hM4 hM5 hS0 hS1 hS2 hS3 m1 x0 x1 x2 x3 x4 c13 htv ht2 hK5 hK4 hX5;go_wp2
   go_ret
   rw[HFE.out]
   exact Q.out
  have h20':(x.op == 20)=false:=by simpa using h20
  rw[if_neg h20] at HFE;clear h20
  by_cases h21:x.op=21
  ·have h21':(x.op == 21)=true:=by simpa using h21
   rw[if_pos h21] at HFE;clear h21;have hcc:=xd7 d hM1 hI.sz_.1 (by have:=hC.fuel;omega) rfl hd
   have hcs:(xay p.E d m).1.st=m.st/\m.sz_<=(xay p.E d m).1.sz_:=by
    unfold xay
    split
    ·exact⟨rfl,by simp⟩
    ·split
     ·exact⟨rfl,by simp⟩
     ·exact⟨rfl,by simp;omega⟩
   generalize xay p.E d m=r at *;go_wp2_with fail;refine hcc.mono ?_;rintro e w3 ⟨rfl,hM3,hK3⟩;have Q:Hid (StPost p L T w mb (20-(d:Int)) K fb (r.1,f,r.2) (.returned (.int .i64 r.2)) w3):=xb9 hC hcs hX HKV.out hL1 rfl (.refl _ _) ⟨_,_,_,hM3⟩ (fun _=>⟨_,_,_,_,_,hF1.keep (.refl _ _) hK3 (by omega) (by omega) (by omega) (by omega)⟩) hK3 (fun t h=>by unfold All;omega) (by omega) (by omega)
   clear hM1 hF1 hL1 hR1 m1 x0 x1 x2 x3 x4 c13 hM3 hK3 hcc;go_wp2
   go_ret
   rw[HFE.out]
   exact Q.out
  ·have h21':(x.op == 21)=false:=by simpa using h21
   rw[if_neg h21] at HFE;clear h21;have Q:Hid (StPost p L T w mb (20-(d:Int)) K fb (m,f,1) (.returned (.int .i64 1)) V):=xb9 hC ⟨rfl,Int.le_refl _⟩ hX HKV.out hL1 rfl (.refl _ _) ⟨_,_,_,hM1⟩ (fun h=>by cases h) (Kp.refl (fun _=>False) _ _) (fun _ h=>h.elim) id id
   clear hM1 hF1 hL1 hR1;go_wp2
   go_ret
   rw[HFE.out]
   exact Q.out
end
section
variable {σ:Type} {p:Mp σ} {L:(Nat->Nat)->World->σ->Nat->Prop} {LF QF:Nat} {lc qc:Array Value} {T T':Nat->Nat} {w w':World} {mb:Nat} {m m':Mc σ} {hv:Value} {g:Nat} {s:Nat->Nat} {K fb:Nat} {f:Fr} {cv av tv sv kv:Value}
theorem xkD (m:Mc σ)(f:Fr)(a b:Int):(xaX m f a b).1.st=m.st:=by
 unfold xaX
 by_cases h:b<=a
 ·simp only[h,if_true];split<;>rfl
 ·simp only[h,if_false];split<;>rfl
theorem xnb (m:Mc σ)(f:Fr)(a b:Int):(xbr m f a b).1.st=m.st:=by
 unfold xbr
 split
 ·rfl
 ·split
  ·exact xkD _ _ _ _
  ·rfl
theorem xnG (E:Env σ)(m:Mc σ)(f:Fr)(c:Int):(xbQ E m f c).1.st=m.st:=by
 unfold xbQ;split<;>rfl
theorem xb8 (hC:Cx p L LF lc QF qc){T1:Nat->Nat}{V:World}{calls:Int}{r:Mc σ × Fr × Int}{S:Nat->Prop}{e:Ending}(hr:r.1.st=m.st/\r.1.sz_=m.sz_)(hE:Ext T T1 w)(hK:Kp (All K) T w V)(hL:L T1 V m.st (xc7 p.E m))(he:e=.returned (.int .i64 r.2.2)){T2:Nat->Nat}(hE2:Ext T1 T2 V)(hM:∃ hv g s,MacAt p T2 w' mb r.1 calls hv g s)(hF:r.2.2=0->∃ cv av tv sv kv,FrAt T2 K w' fb r.2.1 cv av tv sv kv)(k:Kp S T1 V w')(hS:∀ t,S t->All K t)(h0:¬ S 0)(h3:¬ S 3):StPost p L T w mb calls K fb r e w':=xb9 hC ⟨hr.1,by rw[hr.2];exact Int.le_refl _⟩ hE hK hL he hE2 hM hF k hS h0 h3
theorem StPost.under {T1:Nat->Nat}{V:World}{calls:Int}{r:Mc σ × Fr × Int}{e:Ending}(h:StPost p L T1 V mb calls K fb r e w')(hE:Ext T T1 w)(hK:Kp (All K) T w V):StPost p L T w mb calls K fb r e w':=by
 obtain⟨h1,⟨T2,h2,h3⟩,h4⟩:=h
 exact⟨h1,⟨T2,hE.trans hK.size h2,h3⟩,hK.trans hE h4⟩
theorem xl6 {f':Fr}(e1:f'.cls=f.cls)(e2:f'.meth=f.meth)(e3:f'.self=f.self)(e4:f'.pc=f.pc)(e5:f'.fast=f.fast)(h:w.heap[fb]?=some (FB f cv av tv sv kv)):w.heap[fb]?=some (FB f' cv av tv sv kv):=by rw[h];unfold FB;rw[e1,e2,e3,e4,e5]
theorem FrAt.setTemp {tb:Nat}{n:Int}{v:QV}(h:FrAt T K w fb f cv av (.slice (some ⟨tb,0,none⟩) f.temps.length f.temps.length) sv kv)(hT:T tb=K+1)(hw:w'.heap[tb]?=some (.cells (xal (xaV f.temps n v)).toArray 27 (0,0)))(k:Kp (fun t=>t=K+1) T w w'):FrAt T K w' fb { f with temps:=xaV f.temps n v } cv av (.slice (some ⟨tb,0,none⟩) f.temps.length f.temps.length) sv kv:=by
 have hp:=h.pos;obtain⟨tb',e,d2,d3,d4⟩:=h.temps;refine⟨xl6 rfl rfl rfl rfl rfl (k.held h.box (by rw[h.tag];omega)),h.tag,h.args.fx xaK (.refl _ _) k (by omega),⟨tb,by show _=Value.slice _ (xaV f.temps n v).length (xaV f.temps n v).length;rw[xcd],hw,hT,by show (xaV f.temps n v).length<=40;rw[xcd];exact d4⟩,h.stack.keep fun g hg=>k.blk g (h.stack.lt g hg).2 (by rw[h.stag g hg];omega),h.stag,h.few,h.code.fx xbl (.refl _ _) k (by omega),h.meth.fx xbl (.refl _ _) k (by omega),hp⟩
def xcy (ent:Ent σ)(E:Env σ)(d:Nat)(m:Mc σ)(f:Fr)(a:Int)(x:QI):Mc σ × Fr × Int:=
  if x.op=9 then (m,f.pop,0)
  else if x.op=10 then (m,f.push f.top,0)
  else if x.op=11 then (m,{ f.pop with temps:=xaV f.temps x.a f.top },0)
  else if x.op=12 then ({ m with heap:=xaR m.heap f.self x.a f.top },f.pop,0)
  else if x.op=13 then xbQ E m f x.a
  else if x.op=14 then xcm ent E m f a x
  else if x.op=15 then xaX m f a x.a
  else if x.op=16 then xbr m f a x.a
  else xcl E d m f x
theorem xlN (hC:Cx p L LF lc QF qc){d:Nat}(hEn:xek p L d)(h:MacAt p T w mb m (20-(d:Int)) hv g s)(hF:FrAt T K w fb f cv av tv sv kv)(hL:L T w m.st (xc7 p.E m))(hI:MIn p.E m)(hFo:FOk p.E.cz m.heap.length f)(hst:f.stack.length<=1000000)(hd:d<=20)(a:Int)(x:QI)(hxb:f.fast=true->x.op=18->0<=x.b/\x.b<=1000) :
  Calls Tryz.prog 95 #[.pointer (some ⟨mb,0,none⟩),.pointer (some ⟨fb,0,none⟩),.int .i64 a,IV x] w fun e w'=>StPost p L T w mb (20-(d:Int)) K fb (xan (xa1 p.E d) p.E d m f a x) e w':=by
 have hp:=hF.pos;have hX:=xao T w 4;have hT4:∀ b,w.heap.size<=b->xau T w 4 b=4:=fun b hb=>xav hb
 have hb1:=xaj w (.cells #[.int .i64 x.op,.int .i64 x.a,.int .i64 x.b,.int .i64 x.c,.string x.name] 76);have hM0:=(h.tagged0 4).later hb1;have hF0:=(hF.tagged0 4).later hb1;have hL0:=hC.keep (hC.keep hL hX (Kp.refl (fun _=>False) _ _) id id) (.refl _ _) (Kp.of_below (S:=fun _=>False) hb1) id id
 have hR0:=xh1 w x 76;have hroom:f.stack.length<1000000000:=by omega
 clear h hF hL;generalize xau T w 4=T1 at *;go_enter Tryz.func95,Tryz.ntmps95
 go_upto_region 1 with (fail)
 generalize (w.alloc (.cells #[.int .i64 x.op,.int .i64 x.a,.int .i64 x.b,.int .i64 x.c,.string x.name] 76))=W at *;obtain⟨x0,x1,x2,x3,x4⟩:=id hR0;have hpu:=xjR hM0 hF0 x;go_wp2_with fail;refine hpu.mono ?_;rintro e w1 ⟨rfl,hbw⟩;clear hpu x0 x1 x2 x3 x4;have hbV:∀ u:QV,Below W.heap.size W (w1.alloc (.cells #[.int .i64 u.k,.int .i64 u.n] 27)):=fun u=>xah hbw (xaj _ _)
 cases hpu:xaA m.heap f x with
 | some u=>
  have HM:Hid (xan (xa1 p.E d) p.E d m f a x=(m,f.push u,0)):=by show _=_;unfold xan;rw[hpu]
  clear hpu;have HB:=hid (hbV u);have HF0:=hid hF0;have HM0:=hid hM0;have HL0:=hid hL0;have HB1:=hid hb1;have hF1:=hF0.later (hbV u);clear hF0 hM0 hL0 hR0 hb1 hbV;go_wp2_with fail;refine (xdM hF1 u hroom).mono ?_;rintro e w2 ⟨rfl,⟨T2,sv2,hX2,hF2⟩,hK2⟩;have Q:Hid (StPost p L T w mb (20-(d:Int)) K fb (m,f.push u,0) (.returned (.int .i64 0)) w2):=xb8 hC ⟨rfl,rfl⟩ hX (Kp.of_below (xah HB1.out HB.out)) (hC.keep HL0.out (.refl _ _) (Kp.of_below (S:=fun _=>False) HB.out) id id) rfl hX2 ⟨_,_,_,(HM0.out.later HB.out).keep hX2 hK2 (by omega) (by omega) (by omega)⟩ (fun _=>⟨_,_,_,_,_,hF2⟩) hK2 (fun t h=>by unfold All;omega) (by omega) (by omega)
  clear hF1 hF2 hK2 hX2;go_wp2
  go_ret
  rw[HM.out]
  exact Q.out
 | none=>
  have HM:Hid (xan (xa1 p.E d) p.E d m f a x=xcy (xa1 p.E d) p.E d m f a x):=by show _=_;unfold xan xcy;rw[hpu]
  clear hpu;have hbv:=hbV xaU;have hM1:=hM0.later hbv;have hF1:=hF0.later hbv;have hL1:=hC.keep hL0 (.refl _ _) (Kp.of_below (S:=fun _=>False) hbv) id id
  have hR1:SdR w x (w1.alloc (.cells #[.int .i64 0,.int .i64 0] 27)):=hR0.kp (T:=T1) (S:=fun _=>False) (Kp.of_below hbv) id
  have HKV:Hid (Kp (All K) T w (w1.alloc (.cells #[.int .i64 0,.int .i64 0] 27))):=Kp.of_below (xah hb1 hbv);have hz4:T1 w.heap.size=4:=hT4 _ (qzC _);have hXV:Hid (∀ {T3:Nat->Nat} {V' w2:World},Ext T1 T3 w2->Kp (fun t=>t=K) T1 V' w2->Ext T1 T3 V'):=fun h k b hb=>h b (qzE hb k.size)
  clear hM0 hF0 hL0 hR0 hbV hbv
  go_upto_region 5 with (fail)
  generalize (w1.alloc (.cells #[.int .i64 0,.int .i64 0] 27))=V at *;obtain⟨x0,x1,x2,x3,x4⟩:=id hR1;have hVz:w.heap.size<V.heap.size:=World.block_lt_of_cell? V ⟨w.heap.size,0,none⟩ x0;clear hbw
  by_cases h9:x.op=9
  ·have HN:Hid (xan (xa1 p.E d) p.E d m f a x=(m,f.pop,0)):=by show _=_;rw[HM.out];unfold xcy;rw[if_pos h9]
   have h9':(x.op == 9)=true:=by simpa using h9
   clear HM h9;go_wp2_with fail;refine (xdD hF1).mono ?_;rintro e w2 ⟨rfl,⟨sv2,hF2⟩,hK2⟩;have Q:Hid (StPost p L T w mb (20-(d:Int)) K fb (m,f.pop,0) (.returned (.int .i64 0)) w2):=xb8 hC ⟨rfl,rfl⟩ hX HKV.out hL1 rfl (.refl _ _) ⟨_,_,_,hM1.keep (.refl _ _) hK2 (by omega) (by omega) (by omega)⟩ (fun _=>⟨_,_,_,_,_,hF2⟩) hK2 (fun t h=>by unfold All;omega) (by omega) (by omega)
   clear hF1 hF2 hK2 hM1 hL1 hR1 x0 x1 x2 x3 x4;go_wp2
   go_ret
   rw[HN.out]
   exact Q.out
  have h9':(x.op == 9)=false:=by simpa using h9
  by_cases h10:x.op=10
  ·have HN:Hid (xan (xa1 p.E d) p.E d m f a x=(m,f.push f.top,0)):=by show _=_;rw[HM.out];unfold xcy;rw[if_neg h9];rw[if_pos h10]
   have h10':(x.op == 10)=true:=by simpa using h10
   clear HM h9 h10;go_wp2_with fail;refine (xfm hF1 0 ⟨by omega,by omega⟩).mono ?_
   rintro e w2 ⟨rfl,hb2⟩;have HT:Hid (f.top=xaW f.stack 0):=rfl;rw[← HT.out];have hF2:=hF1.later hb2;clear x0 x1 x2 x3 x4;go_wp2_with fail;refine (xdM hF2 f.top hroom).mono ?_;rintro e w3 ⟨rfl,⟨T3,sv3,hX3,hF3⟩,hK3⟩;have Q:Hid (StPost p L T w mb (20-(d:Int)) K fb (m,f.push f.top,0) (.returned (.int .i64 0)) w3):=xb8 hC ⟨rfl,rfl⟩ hX (HKV.out.on hb2) (hC.keep hL1 (.refl _ _) (Kp.of_below (S:=fun _=>False) hb2) id id) rfl hX3 ⟨_,_,_,(hM1.later hb2).keep hX3 hK3 (by omega) (by omega) (by omega)⟩ (fun _=>⟨_,_,_,_,_,hF3⟩) hK3 (fun t h=>by unfold All;omega) (by omega) (by omega)
   clear hF1 hF2 hF3 hK3 hX3 hM1 hL1 hR1 hb2;go_wp2
   go_ret
   rw[HN.out]
   exact Q.out
  have h10':(x.op == 10)=false:=by simpa using h10
  by_cases h11:x.op=11
  ·have HN:Hid (xan (xa1 p.E d) p.E d m f a x=(m,{ f.pop with temps:=xaV f.temps x.a f.top },0)):=by show _=_;rw[HM.out];unfold xcy;rw[if_neg h9];rw[if_neg h10];rw[if_pos h11]
   have h11':(x.op == 11)=true:=by simpa using h11
   clear HM h9 h10 h11;obtain⟨tb,rfl,ht2,ht3,ht4⟩:=hF1.temps;go_wp2;have hFd:=hF1.later (qzL _ V).drew;have hS0:V.drew.cell? ⟨fb,9,none⟩=some (.slice (some ⟨tb,0,none⟩) f.temps.length f.temps.length)/\V.drew.cell? ⟨w.heap.size,1,none⟩=some (.int .i64 x.a):=⟨hFd.c.2.2.2,x1⟩;have tokA:True:=trivial
   go_region_held3 (fun w'=>w'.cell? ⟨fb,9,none⟩=some (.slice (some ⟨tb,0,none⟩) f.temps.length f.temps.length)/\w'.cell? ⟨w.heap.size,1,none⟩=some (.int .i64 x.a))
    (first | with_reducible exact hS0 | with_reducible exact hS1 | with_reducible exact hS2)
    (first
     | (have _t:=tokA;go_at_call 94;refine (xdD hFd).mono ?_;rintro e w2 ⟨rfl,⟨sv2,hF2⟩,hK2⟩;have hS1:=And.intro hF2.c.2.2.2 (hK2.cell hS0.2 (by rw[hz4];omega));have hT2:w2.heap[tb]?=some (.cells (xal f.temps).toArray 27 (0,0)):=(hK2.held (xac ht2 (qzL _ V).drew) (by rw[ht3];omega));clear tokA;have tokB:True:=trivial)
     | (have _t:=tokB;go_at_call 104;refine (xeB f.temps tb x.a f.top _ hT2).mono ?_;rintro e w3 ⟨rfl,hw3,hz3,hka⟩;have hk3:=hka (fun t=>t=K+1) T1 ht3;have hS2:=And.intro (hk3.cell hS1.1 (by rw[hF2.tag];omega)) (hk3.cell hS1.2 (by rw[hz4];omega));clear tokB))
   have hF3:=hF2.setTemp ht3 hw3 hk3;have Q:Hid (StPost p L T w mb (20-(d:Int)) K fb (m,{ f.pop with temps:=xaV f.temps x.a f.top },0) (.returned (.int .i64 0)) w3):=xb8 hC ⟨rfl,rfl⟩ hX HKV.out.drew (hC.keep hL1 (.refl _ _) (Kp.refl (fun _=>False) _ _).drew id id) rfl (.refl _ _) ⟨_,_,_,((hM1.later (qzL _ V).drew).keep (.refl _ _) hK2 (by omega) (by omega) (by omega)).keep (.refl _ _) hk3 (by omega) (by omega) (by omega)⟩ (fun _=>⟨_,_,_,_,_,hF3⟩) (S:=fun t=>t=K\/t=K+1) ((hK2.mono fun t h=>Or.inl h).trans (.refl _ _) (hk3.mono fun t h=>Or.inr h)) (fun t h=>by unfold All;omega) (by omega) (by omega)
   clear hF1 hF2 hF3 hFd hK2 hk3 hM1 hL1 hR1 x0 x1 x2 x3 x4 hw3 hka hT2 ht2 hS0 hS1 hS2;go_wp2
   go_ret
   rw[HN.out]
   exact Q.out
  have h11':(x.op == 11)=false:=by simpa using h11
  by_cases h12:x.op=12
  ·have HN:Hid (xan (xa1 p.E d) p.E d m f a x=({ m with heap:=xaR m.heap f.self x.a f.top },f.pop,0)):=by show _=_;rw[HM.out];unfold xcy;rw[if_neg h9];rw[if_neg h10];rw[if_neg h11];rw[if_pos h12]
   have h12':(x.op == 12)=true:=by simpa using h12
   clear HM h9 h10 h11 h12;go_wp2;have hFd:=hF1.later (qzL _ V).drew;have hMd:=hM1.later (qzL _ V).drew;have hS0:V.drew.cell? ⟨fb,6,none⟩=some (.int .i64 f.self.k)/\V.drew.cell? ⟨fb,7,none⟩=some (.int .i64 f.self.n)/\V.drew.cell? ⟨w.heap.size,1,none⟩=some (.int .i64 x.a):=⟨hFd.c.1,hFd.c.2.1,x1⟩;have tokA:True:=trivial
   go_region_held3 (fun w'=>w'.cell? ⟨fb,6,none⟩=some (.int .i64 f.self.k)/\w'.cell? ⟨fb,7,none⟩=some (.int .i64 f.self.n)/\w'.cell? ⟨w.heap.size,1,none⟩=some (.int .i64 x.a))
    (first | with_reducible exact hS0 | with_reducible exact hS1 | with_reducible exact hS2)
    (first
     | (have _t:=tokA;go_at_call 94;refine (xdD hFd).mono ?_;rintro e w2 ⟨rfl,⟨sv2,hF2⟩,hK2⟩;have hS1:w2.cell? ⟨fb,6,none⟩=some (.int .i64 f.self.k)/\w2.cell? ⟨fb,7,none⟩=some (.int .i64 f.self.n)/\w2.cell? ⟨w.heap.size,1,none⟩=some (.int .i64 x.a):=⟨hF2.c.1,hF2.c.2.1,hK2.cell hS0.2.2 (by rw[hz4];omega)⟩;have hM2:=hMd.keep (.refl _ _) hK2 (by omega) (by omega) (by omega);clear tokA;have tokB:True:=trivial)
     | (have _t:=tokB;go_at_call 105;refine (xeV hM2 f.self x.a f.top).mono ?_;rintro e w3 ⟨rfl,⟨T3,hX3,hM3⟩,hK3⟩;have hF3:=hF2.keep hX3 hK3 (by omega) (by omega) (by omega) (by omega);have hS2:w3.cell? ⟨fb,6,none⟩=some (.int .i64 f.self.k)/\w3.cell? ⟨fb,7,none⟩=some (.int .i64 f.self.n)/\w3.cell? ⟨w.heap.size,1,none⟩=some (.int .i64 x.a):=⟨hF3.c.1,hF3.c.2.1,hK3.cell hS1.2.2 (by rw[hz4];omega)⟩;clear tokB))
   have Q:Hid (StPost p L T w mb (20-(d:Int)) K fb ({ m with heap:=xaR m.heap f.self x.a f.top },f.pop,0) (.returned (.int .i64 0)) w3):=xb8 hC ⟨rfl,rfl⟩ hX HKV.out.drew (hC.keep hL1 (.refl _ _) (Kp.refl (fun _=>False) _ _).drew id id) rfl (hXV.out hX3 hK2) ⟨_,_,_,hM3⟩ (fun _=>⟨_,_,_,_,_,hF3⟩) (S:=fun t=>t=K\/t=2) ((hK2.mono fun t h=>Or.inl h).trans (.refl _ _) (hK3.mono fun t h=>Or.inr h)) (fun t h=>by unfold All;omega) (by omega) (by omega)
   clear hF1 hF2 hF3 hFd hMd hM2 hM3 hK2 hK3 hX3 hM1 hL1 hR1 x0 x1 x2 x3 x4 hS0 hS1 hS2;go_wp2
   go_ret
   rw[HN.out]
   exact Q.out
  have h12':(x.op == 12)=false:=by simpa using h12
  by_cases h13:x.op=13
  ·have HN:Hid (xan (xa1 p.E d) p.E d m f a x=xbQ p.E m f x.a):=by show _=_;rw[HM.out];unfold xcy;rw[if_neg h9];rw[if_neg h10];rw[if_neg h11];rw[if_neg h12];rw[if_pos h13]
   have h13':(x.op == 13)=true:=by simpa using h13
   clear HM h9 h10 h11 h12 h13;have hmk:=xfx hM1 hF1 x.a (hC.ok.slots x.a) hroom;have hsd:(xbQ p.E m f x.a).1.st=m.st/\(xbQ p.E m f x.a).1.sz_=m.sz_:=⟨xnG _ _ _ _,xf6 _ _ _ _⟩;generalize xbQ p.E m f x.a=r at *;go_wp2_with fail;refine hmk.mono ?_;rintro e w2 ⟨rfl,⟨T2,hX2,hM2,hF2⟩,hK2⟩;have Q:Hid (StPost p L T w mb (20-(d:Int)) K fb r (.returned (.int .i64 r.2.2)) w2):=xb8 hC hsd hX HKV.out hL1 rfl hX2 hM2 (fun h=>(hF2 h).elim fun sv' h'=>⟨_,_,_,sv',_,h'⟩) hK2 (fun t h=>by unfold All;omega) (by omega) (by omega)
   clear hF1 hF2 hK2 hX2 hM1 hM2 hL1 hR1 x0 x1 x2 x3 x4 hmk hsd;go_wp2
   go_ret
   rw[HN.out]
   exact Q.out
  have h13':(x.op == 13)=false:=by simpa using h13
  by_cases h14:x.op=14
  ·have HN:Hid (xan (xa1 p.E d) p.E d m f a x=xcm (xa1 p.E d) p.E m f a x):=by show _=_;rw[HM.out];unfold xcy;rw[if_neg h9];rw[if_neg h10];rw[if_neg h11];rw[if_neg h12];rw[if_neg h13];rw[if_pos h14]
   have h14':(x.op == 14)=true:=by simpa using h14
   clear HM h9 h10 h11 h12 h13 h14;have hsn:=xl5 hC hEn hM1 hF1 hL1 hI hFo hst a x;generalize xcm (xa1 p.E d) p.E m f a x=r at *;go_wp2_with fail;refine hsn.mono ?_;rintro e w2 ⟨rfl,⟨T2,hX2,hM2,hL2,hF2⟩,hK2⟩;have Q:Hid (StPost p L T w mb (20-(d:Int)) K fb r (.returned (.int .i64 r.2.2)) w2):=⟨rfl,⟨T2,hX.trans HKV.out.size hX2,hM2,hL2,hF2⟩,HKV.out.trans hX hK2⟩;clear hF1 hF2 hK2 hX2 hM1 hM2 hL1 hL2 hR1 x0 x1 x2 x3 x4 hsn;go_wp2
   go_ret
   rw[HN.out]
   exact Q.out
  have h14':(x.op == 14)=false:=by simpa using h14
  by_cases h15:x.op=15
  ·have HN:Hid (xan (xa1 p.E d) p.E d m f a x=xaX m f a x.a):=by show _=_;rw[HM.out];unfold xcy;rw[if_neg h9];rw[if_neg h10];rw[if_neg h11];rw[if_neg h12];rw[if_neg h13];rw[if_neg h14];rw[if_pos h15]
   have h15':(x.op == 15)=true:=by simpa using h15
   clear HM h9 h10 h11 h12 h13 h14 h15;have hjm:=xi6 hM1 hF1 a x.a hI.turns;have hsd:(xaX m f a x.a).1.st=m.st/\(xaX m f a x.a).1.sz_=m.sz_:=⟨xkD _ _ _ _,xeh _ _ _ _⟩;generalize xaX m f a x.a=r at *;go_wp2_with fail;refine hjm.mono ?_;rintro e w2 ⟨rfl,hM2,hF2,hK2⟩;have Q:Hid (StPost p L T w mb (20-(d:Int)) K fb r (.returned (.int .i64 r.2.2)) w2):=xb8 hC hsd hX HKV.out hL1 rfl (.refl _ _) ⟨_,_,_,hM2⟩ (fun _=>⟨_,_,_,_,_,hF2⟩) hK2 (fun t h=>by unfold All;omega) (by omega) (by omega)
   clear hF1 hF2 hK2 hM1 hM2 hL1 hR1 x0 x1 x2 x3 x4 hjm hsd;go_wp2
   go_ret
   rw[HN.out]
   exact Q.out
  have h15':(x.op == 15)=false:=by simpa using h15
  by_cases h16:x.op=16
  ·have HN:Hid (xan (xa1 p.E d) p.E d m f a x=xbr m f a x.a):=by show _=_;rw[HM.out];unfold xcy;rw[if_neg h9];rw[if_neg h10];rw[if_neg h11];rw[if_neg h12];rw[if_neg h13];rw[if_neg h14];rw[if_neg h15];rw[if_pos h16]
   have h16':(x.op == 16)=true:=by simpa using h16
   clear HM h9 h10 h11 h12 h13 h14 h15 h16;have hjm:=xjg hM1 hF1 a x.a hI.turns;have hsd:(xbr m f a x.a).1.st=m.st/\(xbr m f a x.a).1.sz_=m.sz_:=⟨xnb _ _ _ _,xfI _ _ _ _⟩;generalize xbr m f a x.a=r at *;go_wp2_with fail;refine hjm.mono ?_;rintro e w2 ⟨rfl,hM2,hF2,hK2⟩;have Q:Hid (StPost p L T w mb (20-(d:Int)) K fb r (.returned (.int .i64 r.2.2)) w2):=xb8 hC hsd hX HKV.out hL1 rfl (.refl _ _) ⟨_,_,_,hM2⟩ (fun h=>(hF2 h).elim fun sv' h'=>⟨_,_,_,sv',_,h'⟩) hK2 (fun t h=>by unfold All;omega) (by omega) (by omega)
   clear hF1 hF2 hK2 hM1 hM2 hL1 hR1 x0 x1 x2 x3 x4 hjm hsd;go_wp2
   go_ret
   rw[HN.out]
   exact Q.out
  have h16':(x.op == 16)=false:=by simpa using h16
  have HN:Hid (xan (xa1 p.E d) p.E d m f a x=xcl p.E d m f x):=by show _=_;rw[HM.out];unfold xcy;rw[if_neg h9];rw[if_neg h10];rw[if_neg h11];rw[if_neg h12];rw[if_neg h13];rw[if_neg h14];rw[if_neg h15];rw[if_neg h16]
  clear HM h9 h10 h11 h12 h13 h14 h15 h16;have hfs:=xhf hC hd hM1 hF1 hL1 hI hst x hxb;clear hxb;generalize xcl p.E d m f x=r at *;go_wp2_with fail;refine hfs.mono ?_;rintro e w2 hP;have Q:=hid (hP.under hX HKV.out);obtain⟨rfl,-⟩:=hP;clear hF1 hM1 hL1 hR1 x0 x1 x2 x3 x4 hfs;go_wp2
  go_ret
  rw[HN.out]
  exact Q.out
end
section
variable {σ:Type}
theorem xfG (m:Mc σ)(f:Fr)(a b:Int):(xaX m f a b).2.1.stack=f.stack:=by
 unfold xaX;simp only
 split<;>split<;>rfl
theorem xjU (ent:Ent σ)(E:Env σ)(d:Nat)(m:Mc σ)(f:Fr)(a:Int)(x:QI):(xan ent E d m f a x).2.1.stack.length<=f.stack.length+1:=by
 unfold xan
 split
 ·simp[Fr.push]
 ·split
  ·simp[Fr.pop];omega
  ·split
   ·simp[Fr.push]
   ·split
    ·simp[Fr.pop];omega
    ·split
     ·simp[Fr.pop];omega
     ·split
      ·unfold xbQ;split
       ·simp
       ·simp[Fr.push]
      ·split
       ·unfold xcm;simp only
        split
        ·simp
        ·simp;omega
       ·split
        ·rw[xfG];omega
        ·split
         ·unfold xbr
          split
          ·simp[Fr.pop];omega
          ·split
           ·rw[xfG];simp[Fr.pop];omega
           ·simp
         ·unfold xcl
          split
          ·simp
          ·split
           ·simp only
            split
            ·simp
            ·simp[Fr.leave]
           ·split
            ·simp[Fr.push]
            ·split
             ·simp[Fr.pop];omega
             ·split<;>simp
theorem xkV {ent:Ent σ}(ht:xdy ent){E:Env σ}{d:Nat}{m:Mc σ}{f:Fr}(hm:0<=m.turns)(h0:0<=f.pc)(hl:f.pc.toNat<f.code.length){x:QI}(he:(xan ent E d m { f with pc:=f.pc+1 } f.pc x).2.2=0){R:Nat}(hR:f.stack.length+muE m f<=R):(xan ent E d m { f with pc:=f.pc+1 } f.pc x).2.1.stack.length+muE (xan ent E d m { f with pc:=f.pc+1 } f.pc x).1 (xan ent E d m { f with pc:=f.pc+1 } f.pc x).2.1<=R:=by
 have h1:=xjU ent E d m { f with pc:=f.pc+1 } f.pc x
 have h2:=xhK ht (E:=E) (d:=d) hm h0 hl (x:=x) he;have e:({ f with pc:=f.pc+1 }:Fr).stack=f.stack:=rfl
 rw[e] at h1
 omega
def xo1 (ent:Ent σ):Prop:=∀ m c n s a,m.turns<=300->(ent m c n s a).2.2=0->(ent m c n s a).1.turns<=300
theorem xmG {m:Mc σ}{f:Fr}{a b:Int}(h0:(xaX m f a b).2.2=0):(xaX m f a b).1.turns<=300:=by
 unfold xaX at h0 ⊢
 by_cases h:b<=a
 ·simp only[h,if_true] at h0 ⊢
  split
  ·rename_i k;rw[if_pos k] at h0;cases h0
  ·rename_i k;simp only at k ⊢;omega
 ·simp only[h,if_false] at h0 ⊢
  split
  ·rename_i k;rw[if_pos k] at h0;cases h0
  ·rename_i k;simp only at k ⊢;omega
theorem xoM {m:Mc σ}(hm:m.turns<=300){f:Fr}{a b:Int}(h0:(xbr m f a b).2.2=0):(xbr m f a b).1.turns<=300:=by
 unfold xbr at h0 ⊢
 split
 ·exact hm
 ·rename_i k;rw[if_neg k] at h0
  split
  ·rename_i k2;rw[if_pos k2] at h0;exact xmG h0
  ·exact hm
theorem xoK (E:Env σ)(m:Mc σ)(f:Fr)(c:Int):(xbQ E m f c).1.turns=m.turns:=by unfold xbQ;split<;>rfl
theorem xkU {E:Env σ}{ent:Ent σ}(he:xo1 ent)(d:Nat){m:Mc σ}(h:m.turns<=300){f:Fr}{a:Int}{x:QI}(h0:(xan ent E d m f a x).2.2=0):(xan ent E d m f a x).1.turns<=300:=by
 cases hpu:xaA m.heap f x with
 | some u=>unfold xan;rw[hpu];exact h
 | none=>
  unfold xan at h0 ⊢;rw[hpu] at h0 ⊢;simp only at h0 ⊢
  by_cases h9:x.op=9
  ·rw[if_pos h9];exact h
  rw[if_neg h9] at h0 ⊢
  by_cases h10:x.op=10
  ·rw[if_pos h10];exact h
  rw[if_neg h10] at h0 ⊢
  by_cases h11:x.op=11
  ·rw[if_pos h11];exact h
  rw[if_neg h11] at h0 ⊢
  by_cases h12:x.op=12
  ·rw[if_pos h12];exact h
  rw[if_neg h12] at h0 ⊢
  by_cases h13:x.op=13
  ·rw[if_pos h13,xoK];exact h
  rw[if_neg h13] at h0 ⊢
  by_cases h14:x.op=14
  ·rw[if_pos h14] at h0 ⊢;unfold xcm at h0 ⊢;simp only at h0 ⊢
   split
   ·rename_i k;rw[if_pos k] at h0;exact absurd h0 k
   ·rename_i k;exact he _ _ _ _ _ h (Decidable.of_not_not k)
  rw[if_neg h14] at h0 ⊢
  by_cases h15:x.op=15
  ·rw[if_pos h15] at h0 ⊢;exact xmG h0
  rw[if_neg h15] at h0 ⊢
  by_cases h16:x.op=16
  ·rw[if_pos h16] at h0 ⊢;exact xoM h h0
  rw[if_neg h16] at h0 ⊢;unfold xcl
  split
  ·exact h
  ·split
   ·exact h
   ·split
    ·exact h
    ·split
     ·exact h
     ·split
      ·show (xay E d m).1.turns<=300
       unfold xay
       split
       ·exact h
       ·split<;>exact h
      ·exact h
theorem xow {E:Env σ}{ent:Ent σ}(he:xo1 ent)(d:Nat):∀ (g:Nat) (m:Mc σ) (f:Fr),m.turns<=300->(xcL ent E d g m f).2.2=0->(xcL ent E d g m f).1.turns<=300
 | 0,m,f,h,h0=>by cases h0
 | g+1,m,f,h,h0=>by
  unfold xcL at h0 ⊢;generalize (if f.pc<0 then none else f.code[f.pc.toNat]?)=q at h0 ⊢
  cases q with
  | none=>cases h0
  | some x=>
   simp only at h0 ⊢
   by_cases h17:x.op=17
   ·rw[if_pos h17];exact h
   ·rw[if_neg h17] at h0 ⊢
    by_cases he0:(xan ent E d m { f with pc:=f.pc+1 } f.pc x).2.2=0
    ·rw[if_neg (by simpa using he0)] at h0 ⊢
     exact xow he d g _ _ (xkU he d h he0) h0
    ·rw[if_pos he0] at h0
     exact absurd h0 he0
theorem xk6 {E:Env σ}(d:Nat){body:Mc σ->Fr->Mc σ × QV × Int}(hb:∀ m f,m.turns<=300->(body m f).2.2=0->(body m f).1.turns<=300):xo1 (xbj E d body):=fun m c n s a h h0=>by
 unfold xbj at h0 ⊢;generalize xaO E.cz c n=q at h0 ⊢
 cases q with
 | none=>cases h0
 | some mt=>
  simp only at h0 ⊢
  split at h0
  ·cases h0
  ·rename_i h1;rw[if_neg h1]
   split at h0
   ·rename_i h2;rw[if_pos h2]
    split
    ·exact h
    ·exact h
   ·rename_i h2;rw[if_neg h2]
    have hc:(xay E d m).1.turns=m.turns:=by
     unfold xay
     split
     ·rfl
     ·split<;>rfl
    split at h0
    ·rename_i h3;exact absurd h0 h3
    ·rename_i h3;rw[if_neg h3]
     exact hb _ _ (by rw[hc];exact h) h0
theorem xob (E:Env σ):∀ d,xo1 (xa1 E d)
 | 0=>xk6 0 fun m f h h0=>by cases h0
 | d+1=>xk6 (d+1) fun m f h h0=>xow (xob E d) d _ m f h h0
def xmK (f:Fr):Prop:=f.fast=true->∀ x∈f.code,x.op=18->0<=x.b/\x.b<=1000
theorem xnW {ent:Ent σ}{E:Env σ}{d:Nat}{m:Mc σ}{f:Fr}(h:xmK f)(a:Int)(x:QI):xmK (xan ent E d m f a x).2.1:=by
 have jmp:∀ g:Fr,xmK g->∀ b,xmK (xaX m g a b).2.1:=fun g hg b=>by
  unfold xaX;simp only
  split<;>split<;>exact hg
 unfold xan
 split
 ·exact h
 ·split
  ·exact h
  ·split
   ·exact h
   ·split
    ·exact h
    ·split
     ·exact h
     ·split
      ·unfold xbQ;split<;>exact h
      ·split
       ·unfold xcm;simp only
        split<;>exact h
       ·split
        ·exact jmp f h _
        ·split
         ·unfold xbr
          split
          ·exact h
          ·split
           ·exact jmp f.pop h _
           ·exact h
         ·unfold xcl
          split
          ·exact h
          ·split
           ·simp only
            split
            ·exact h
            ·exact fun h=>by cases h
           ·split
            ·exact h
            ·split
             ·exact h
             ·split<;>exact h
end
end Go.Proofs.YtapbeiccodnniaaGreat
