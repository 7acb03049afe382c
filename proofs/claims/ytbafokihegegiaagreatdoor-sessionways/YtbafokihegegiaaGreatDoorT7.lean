/- A part. -/
import Derived.Test.YtbafokihegegiaaGreatDoorT6
namespace Go.Proofs.YtbafokihegegiaaGreatDoor
open Go.ChangeShapes Go.WideShapes Go.ChangeAt Go.RowKit
set_option linter.unusedSimpArgs false
set_option linter.unusedVariables false
set_option maxHeartbeats 8000000
set_option maxRecDepth 8000
section
variable {σ:Type} {p:Mp σ} {L:(Nat->Nat)->World->σ->Nat->Prop} {LF QF:Nat} {lc qc:Array Value} {T T':Nat->Nat} {w w':World} {mb:Nat} {m m':Mc σ} {hv:Value} {g:Nat} {s:Nat->Nat} {K fb:Nat} {f:Fr} {cv av tv sv kv:Value}
theorem LY (d:Cx p L LF lc QF qc){T1:Nat->Nat}{V:qW}{a:Int}{r:Mc σ × Fr × Int}{S:Nat->Prop}{e:Ending}(q:r.1.st=m.st/\m.sz_<=r.1.sz_)(h:Ext T T1 w)(f:Kp (CF K) T w V)(o:L T1 V m.st (FM p.E m))(l:e=.returned (J r.2.2)){T2:Nat->Nat}(b:Ext T1 T2 V)(v:∃hv g s,MacAt p T2 w' mb r.1 a hv g s)(n:r.2.2=0->∃cv av tv sv kv,FrAt T2 K w' fb r.2.1 cv av tv sv kv)(k:Kp S T1 V w')(j:∀t,S t->CF K t)(i:¬ S 0)(u:¬ S 3):StPost p L T w mb a K fb r e w':=by
 have c:=d.keep o b k i u;refine⟨l,⟨T2,h.trans f.size b,v,?_,n⟩,f.trans h (k.mono j)⟩;rw[q.1];have:FM p.E r.1<=FM p.E m:=by unfold FM;omega
 split
 ·exact d.mono c this
 exact d.mono c (Nat.zero_le _)
theorem xlj {b1 b2 o1 o2 o3:Nat}{v1 v2 v3:Value}{w w':qW}(h:w.cell? (O b1 o1)=some v1/\w.cell? (O b2 o2)=some v2/\w.cell? (O b2 o3)=some v3)(a:qY w w'):w'.cell? (O b1 o1)=some v1/\w'.cell? (O b2 o2)=some v2/\w'.cell? (O b2 o3)=some v3:=⟨Bf a h.1,Bf a h.2.1,Bf a h.2.2⟩
theorem xqx {b1 b2 b3 o1 o2 o3 o4:Nat}{v1 v2 v3 v4:Value}{w w':qW}(h:w.cell? (O b1 o1)=some v1/\w.cell? (O b2 o2)=some v2/\w.cell? (O b3 o3)=some v3/\w.cell? (O b3 o4)=some v4)(a:qY w w'):w'.cell? (O b1 o1)=some v1/\w'.cell? (O b2 o2)=some v2/\w'.cell? (O b3 o3)=some v3/\w'.cell? (O b3 o4)=some v4:=⟨Bf a h.1,Bf a h.2.1,Bf a h.2.2.1,Bf a h.2.2.2⟩
theorem xjO (hC:Cx p L LF lc QF qc){d:Nat}(hd:d<=20)(h:MacAt p T w mb m (20-(d:Int)) hv g s)(hF:FrAt T K w fb f cv av tv sv kv)(hL:L T w m.st (FM p.E m))(hI:MIn p.E m)(G:f.stack.length<=1000000)(x:QI)(u:f.fast=true->x.op=18->0<=x.b/\x.b<=1000) :
  Calls Tryz.prog 279 #[qP mb,qP fb,IV x] w λe w'=>StPost p L T w mb (20-(d:Int)) K fb (DB p.E d m f x) e w':=by
 have hp:=hF.pos;have hX:=EW T w 4;have an:∀b,w.heap.size<=b->Dw T w 4 b=4:=λb hb=>Gr hb;have ae:=Bg w (qE x);have W:=(h.tagged0 4).later ae;have R:=(hF.tagged0 4).later ae;have X:=hC.keep (hC.keep hL hX (Kp.refl (λ_=>False) _ _) id id) (.refl _ _) (Kp.of_below (S:=λ_=>False) ae) id id;have a6:=xlm w x 69;have ah:f.stack.length<1000000000:=by omega
 have a9:Hid (Kp (CF K) T w (w.alloc (qE x))):=Kp.of_below ae;have a7:Dw T w 4 w.heap.size=4:=an _ (Bq _);clear h hF hL ae an;generalize Dw T w 4=T1 at *;have c13:(w.alloc (qE x)).cell? (O fb 13)=some (.bool f.fast):=by rw[Bn R.box];rfl
 go_enter Tryz.func279,Tryz.ntmps279;go_upto_region 1 with (fail);generalize (w.alloc (qE x))=V at *;obtain⟨x0,x1,x2,x3,x4⟩:=id a6;have b0:w.heap.size<V.heap.size:=World.block_lt_of_cell? V (O w.heap.size 0) x0
 cases a8:f.fast with
 | false=>
  have HN:Hid (DB p.E d m f x=(m,f,1)):=by show _=_;unfold DB;rw[if_pos a8]
  rw[a8] at c13;have Q:Hid (StPost p L T w mb (20-(d:Int)) K fb (m,f,1) (.returned (J 1)) V):=LY hC ⟨rfl,Int.le_refl _⟩ hX a9.out X rfl (.refl _ _) ⟨_,_,_,W⟩ (λh=>by cases h) (Kp.refl (λ_=>False) _ _) (λ_ h=>h.elim) id id;clear W R X a6;go_wp2;go_ret;rw[HN.out];exact Q.out
 | true=>
  rw[a8] at c13;have ad:=u a8;have U:Hid (DB p.E d m f x=if x.op=18 then (m,if Ch m.heap (CL f.stack x.b)=x.a then f else f.leave x.c,0) else if x.op=19 then (m,f.push (Gt m.heap (CR f.temps x.a) x.b),0) else if x.op=20 then ({ m with heap:=FF m.heap (CR f.temps x.a) x.b f.top },f.pop,0) else if x.op=21 then ((BY p.E d m).1,f,(BY p.E d m).2) else (m,f,1)):=by show _=_;unfold DB;rw[if_neg (by simp[a8])]
  clear a8 u;obtain⟨ch,rfl,H,M⟩:=W.heap.form;have m1:=W.c1;go_upto_region 3 with (fail);by_cases h18:x.op=18
  ·have ao:(x.op == 18)=true:=by simpa using h18
   rw[if_pos h18] at U;obtain⟨B,D⟩:=ad h18;clear h18 ad;go_upto_region 6 with (fail);have a1:V.drew.cell? (O mb 1)=some (qG g m.heap.length ch)/\V.drew.cell? (O w.heap.size 1)=some (J x.a)/\V.drew.cell? (O w.heap.size 2)=some (J x.b):=⟨m1,x1,x2⟩;have a5:=W.later (Br _ V).drew;have a2:=R.later (Br _ V).drew;have tokA:True:=trivial
   go_region_held3 (λw'=>w'.cell? (O mb 1)=some (qG g m.heap.length ch)/\w'.cell? (O w.heap.size 1)=some (J x.a)/\w'.cell? (O w.heap.size 2)=some (J x.b))
    (first | with_reducible exact a1 | with_reducible exact Z | with_reducible exact Y)
    (first
     | (have _t:=tokA;go_at_call 270;refine (xhp a2 x.b ⟨B,by omega⟩).mono ?_;rintro e w3 ⟨rfl,j⟩;have Z:=xlj a1 j;clear tokA;have tokB:True:=trivial)
     | (have _t:=tokB;go_at_call 190;refine (xfF m.heap _ (CL f.stack x.b) _ (((a5.later j).heap).heap)).mono ?_;rintro e w4 ⟨rfl,l⟩;have Y:=xlj Z l;clear tokB))
   have a0:=Bh (Br _ V).drew (Bh j l);have x3':=Bf a0 x3;have ar:=hid (W.later a0);have a3:=R.later a0;have aw:=hid (hC.keep X (.refl _ _) (Kp.of_below (S:=λ_=>False) a0) id id);have ap:=hid (a9.out.on a0);by_cases hcl:Ch m.heap (CL f.stack x.b)=x.a
   ·have au:(Ch m.heap (CL f.stack x.b) != x.a)=false:=by simpa using hcl
    rw[if_pos hcl] at U;have Q:Hid (StPost p L T w mb (20-(d:Int)) K fb (m,f,0) (.returned (J 0)) w4):=LY hC ⟨rfl,Int.le_refl _⟩ hX ap.out aw.out rfl (.refl _ _) ⟨_,_,_,ar.out⟩ (λ_=>⟨_,_,_,_,_,a3⟩) (Kp.refl (λ_=>False) _ _) (λ_ h=>h.elim) id id;clear W R X a6 a5 a2 a3 a1 Z Y m1 x0 x1 x2 x3 x4 c13 hcl;go_wp2;go_ret;rw[U.out];exact Q.out
   have au:(Ch m.heap (CL f.stack x.b) != x.a)=true:=by simpa using hcl
   rw[if_neg hcl] at U;clear W R X a6 a5 a2 a1 Z Y m1 x0 x1 x2 x3 x4 c13 hcl;go_wp2_with fail;refine (xiS a3 x.c).mono ?_;rintro e w5 ⟨rfl,⟨T5,N,k,a4⟩,i⟩;have Q:Hid (StPost p L T w mb (20-(d:Int)) K fb (m,f.leave x.c,0) (.returned (J 0)) w5):=LY hC ⟨rfl,Int.le_refl _⟩ hX ap.out aw.out rfl k ⟨_,_,_,ar.out.keep k i (by omega) (by omega) (by omega)⟩ (λ_=>⟨_,_,_,_,_,a4⟩) i (λt h=>by unfold CF;omega) (by omega) (by omega);clear a3 a4 i k;go_wp2;go_ret;rw[U.out];exact Q.out
  have ao:(x.op == 18)=false:=by simpa using h18
  rw[if_neg h18] at U;clear h18 ad;by_cases h19:x.op=19
  ·have al:(x.op == 19)=true:=by simpa using h19
   rw[if_pos h19] at U;clear h19;have aa:=R.tempsV;obtain⟨tb,rfl,o,z,y⟩:=R.temps;go_upto_region 9 with (fail);have a5:=W.later (Br _ V).drew;have a2:=R.later (Br _ V).drew;have a1:V.drew.cell? (O mb 1)=some (qG g m.heap.length ch)/\V.drew.cell? (O fb 9)=some (qG tb f.temps.length f.temps.length)/\V.drew.cell? (O w.heap.size 1)=some (J x.a)/\V.drew.cell? (O w.heap.size 2)=some (J x.b):=⟨m1,a2.c.2.2.2,x1,x2⟩;have tokA:True:=trivial
   go_region_held3 (λw'=>w'.cell? (O mb 1)=some (qG g m.heap.length ch)/\w'.cell? (O fb 9)=some (qG tb f.temps.length f.temps.length)/\w'.cell? (O w.heap.size 1)=some (J x.a)/\w'.cell? (O w.heap.size 2)=some (J x.b))
    (first | with_reducible exact a1 | with_reducible exact Z | with_reducible exact Y | with_reducible exact af)
    (first
     | (have _t:=tokA;go_at_call 255;refine (NB f.temps _ x.a _ (aa.later BZ (Br _ V).drew)).mono ?_;rintro e w3 ⟨rfl,j⟩;have Z:=xqx a1 j;clear tokA;have tokB:True:=trivial)
     | (have _t:=tokB;go_at_call 280;refine (xj2 m.heap _ (CR f.temps x.a) x.b _ (((a5.later j).heap).heap)).mono ?_;rintro e w4 ⟨rfl,l⟩;have Y:=xqx Z l;have a3:=(a2.later j).later l;clear tokB;have tokC:True:=trivial)
     | (have _t:=tokC;go_at_call 272;refine (PX a3 (Gt m.heap (CR f.temps x.a) x.b) ah).mono ?_;rintro e w5 ⟨rfl,⟨T5,F,k,a4⟩,i⟩;have ai:=((a5.later j).later l).keep k i (by omega) (by omega) (by omega);have b1:T1 w.heap.size=4:=a7;have af:w5.cell? (O mb 1)=some (qG g m.heap.length ch)/\w5.cell? (O fb 9)=some (qG tb f.temps.length f.temps.length)/\w5.cell? (O w.heap.size 1)=some (J x.a)/\w5.cell? (O w.heap.size 2)=some (J x.b):=⟨ai.c1,a4.c.2.2.2,i.cell Y.2.2.1 (by rw[a7];omega),i.cell Y.2.2.2 (by rw[a7];omega)⟩;clear tokC))
   have a0:=Bh (Br _ V).drew (Bh j l);have Q:Hid (StPost p L T w mb (20-(d:Int)) K fb (m,f.push (Gt m.heap (CR f.temps x.a) x.b),0) (.returned (J 0)) w5):=LY hC ⟨rfl,Int.le_refl _⟩ hX (a9.out.on a0) (hC.keep X (.refl _ _) (Kp.of_below (S:=λ_=>False) a0) id id) rfl k ⟨_,_,_,ai⟩ (λ_=>⟨_,_,_,_,_,a4⟩) i (λt h=>by unfold CF;omega) (by omega) (by omega);clear W R X a6 a5 a2 a3 a4 a1 Z Y af m1 x0 x1 x2 x3 x4 c13 ai aa o i k;go_wp2;go_ret;rw[U.out];exact Q.out
  have al:(x.op == 19)=false:=by simpa using h19
  rw[if_neg h19] at U;clear h19;by_cases h20:x.op=20
  ·have am:(x.op == 20)=true:=by simpa using h20
   rw[if_pos h20] at U;clear h20;have aa:=R.tempsV;obtain⟨tb,rfl,o,z,y⟩:=R.temps;go_upto_region 11 with (fail);have a5:=W.later (Br _ V).drew;have a2:=R.later (Br _ V).drew;have a1:V.drew.cell? (O fb 9)=some (qG tb f.temps.length f.temps.length)/\V.drew.cell? (O w.heap.size 1)=some (J x.a)/\V.drew.cell? (O w.heap.size 2)=some (J x.b):=⟨a2.c.2.2.2,x1,x2⟩;have tokA:True:=trivial
   go_region_held3 (λw'=>w'.cell? (O fb 9)=some (qG tb f.temps.length f.temps.length)/\w'.cell? (O w.heap.size 1)=some (J x.a)/\w'.cell? (O w.heap.size 2)=some (J x.b))
    (first | with_reducible exact a1 | with_reducible exact Z | with_reducible exact Y | with_reducible exact af)
    (first
     | (have _t:=tokA;go_at_call 255;refine (NB f.temps _ x.a _ (aa.later BZ (Br _ V).drew)).mono ?_;rintro e w3 ⟨rfl,j⟩;have Z:=xlj a1 j;have ax:=a2.later j;have ab:=a5.later j;clear tokA;have tokB:True:=trivial)
     | (have _t:=tokB;go_at_call 257;refine (Ng ax).mono ?_;rintro e w4 ⟨rfl,⟨C,a3⟩,n⟩;have aq:=ab.keep (.refl _ _) n (by omega) (by omega) (by omega);have Y:w4.cell? (O fb 9)=some (qG tb f.temps.length f.temps.length)/\w4.cell? (O w.heap.size 1)=some (J x.a)/\w4.cell? (O w.heap.size 2)=some (J x.b):=⟨a3.c.2.2.2,n.cell Z.2.1 (by rw[a7];omega),n.cell Z.2.2 (by rw[a7];omega)⟩;clear tokB;have tokC:True:=trivial)
     | (have _t:=tokC;go_at_call 274;refine (xhb aq (CR f.temps x.a) x.b f.top).mono ?_;rintro e w5 ⟨rfl,⟨T5,k,v⟩,i⟩;have a4:=a3.keep k i (by omega) (by omega) (by omega) (by omega);have af:w5.cell? (O fb 9)=some (qG tb f.temps.length f.temps.length)/\w5.cell? (O w.heap.size 1)=some (J x.a)/\w5.cell? (O w.heap.size 2)=some (J x.b):=⟨a4.c.2.2.2,i.cell Y.2.1 (by rw[a7];omega),i.cell Y.2.2 (by rw[a7];omega)⟩;clear tokC))
   have ag:=Bh (Br _ V).drew j;have az:Hid (Ext T1 T5 w3):=λb hb=>k b (Cd hb n.size);have Q:Hid (StPost p L T w mb (20-(d:Int)) K fb ({ m with heap:=FF m.heap (CR f.temps x.a) x.b f.top },f.pop,0) (.returned (J 0)) w5):=LY hC ⟨rfl,Int.le_refl _⟩ hX (a9.out.on ag) (hC.keep X (.refl _ _) (Kp.of_below (S:=λ_=>False) ag) id id) rfl az.out ⟨_,_,_,v⟩ (λ_=>⟨_,_,_,_,_,a4⟩) (S:=λt=>t=K\/t=2) ((n.mono λt h=>Or.inl h).trans (.refl _ _) (i.mono λt h=>Or.inr h)) (λt h=>by unfold CF;omega) (by omega) (by omega);clear W R X a6 a5 a2 a3 a4 ax ab aq v a1 Z Y af m1 x0 x1 x2 x3 x4 c13 aa o i n k;go_wp2;go_ret;rw[U.out];exact Q.out
  have am:(x.op == 20)=false:=by simpa using h20
  rw[if_neg h20] at U;clear h20;by_cases h21:x.op=21
  ·have ak:(x.op == 21)=true:=by simpa using h21
   rw[if_pos h21] at U;clear h21;have aj:=xe6 d W hI.sz_.1 (by have:=hC.fuel;omega) rfl hd
   have ay:(BY p.E d m).1.st=m.st/\m.sz_<=(BY p.E d m).1.sz_:=by
    unfold BY;split
    ·exact⟨rfl,by simp⟩
    split
    ·exact⟨rfl,by simp⟩
    exact⟨rfl,by simp;omega⟩
   generalize BY p.E d m=r at *;go_wp2_with fail;refine aj.mono ?_;rintro e w3 ⟨rfl,ab,q⟩;have Q:Hid (StPost p L T w mb (20-(d:Int)) K fb (r.1,f,r.2) (.returned (J r.2)) w3):=LY hC ay hX a9.out X rfl (.refl _ _) ⟨_,_,_,ab⟩ (λ_=>⟨_,_,_,_,_,R.keep (.refl _ _) q (by omega) (by omega) (by omega) (by omega)⟩) q (λt h=>by unfold CF;omega) (by omega) (by omega);clear W R X a6 m1 x0 x1 x2 x3 x4 c13 ab q aj;go_wp2;go_ret;rw[U.out];exact Q.out
  have ak:(x.op == 21)=false:=by simpa using h21
  rw[if_neg h21] at U;clear h21;have Q:Hid (StPost p L T w mb (20-(d:Int)) K fb (m,f,1) (.returned (J 1)) V):=LY hC ⟨rfl,Int.le_refl _⟩ hX a9.out X rfl (.refl _ _) ⟨_,_,_,W⟩ (λh=>by cases h) (Kp.refl (λ_=>False) _ _) (λ_ h=>h.elim) id id;clear W R X a6;go_wp2;go_ret;rw[U.out];exact Q.out
end
section
variable {σ:Type} {p:Mp σ} {L:(Nat->Nat)->World->σ->Nat->Prop} {LF QF:Nat} {lc qc:Array Value} {T T':Nat->Nat} {w w':World} {mb:Nat} {m m':Mc σ} {hv:Value} {g:Nat} {s:Nat->Nat} {K fb:Nat} {f:Fr} {cv av tv sv kv:Value}
theorem xne (m:Mc σ)(f:Fr)(a b:Int):(Cr m f a b).1.st=m.st:=by
 unfold Cr;by_cases h:b<=a
 ·simp only[h,if_true];split<;>rfl
 ·simp only[h,if_false];split<;>rfl
theorem xqX (m:Mc σ)(f:Fr)(a b:Int):(Dt m f a b).1.st=m.st:=by
 unfold Dt;split
 ·rfl
 split
 ·exact xne _ _ _ _
 rfl
theorem xrz (E:Env σ)(m:Mc σ)(f:Fr)(c:Int):(DT E m f c).1.st=m.st:=by
 unfold DT;split<;>rfl
theorem Mk (n:Cx p L LF lc QF qc){T1:Nat->Nat}{V:qW}{a:Int}{r:Mc σ × Fr × Int}{S:Nat->Prop}{e:Ending}(c:r.1.st=m.st/\r.1.sz_=m.sz_)(o:Ext T T1 w)(d:Kp (CF K) T w V)(l:L T1 V m.st (FM p.E m))(i:e=.returned (J r.2.2)){T2:Nat->Nat}(b:Ext T1 T2 V)(u:∃hv g s,MacAt p T2 w' mb r.1 a hv g s)(j:r.2.2=0->∃cv av tv sv kv,FrAt T2 K w' fb r.2.1 cv av tv sv kv)(k:Kp S T1 V w')(h:∀t,S t->CF K t)(f:¬ S 0)(q:¬ S 3):StPost p L T w mb a K fb r e w':=LY n ⟨c.1,by rw[c.2];exact Int.le_refl _⟩ o d l i b u j k h f q
theorem StPost.under {T1:Nat->Nat}{V:qW}{a:Int}{r:Mc σ × Fr × Int}{e:Ending}(h:StPost p L T1 V mb a K fb r e w')(c:Ext T T1 w)(b:Kp (CF K) T w V):StPost p L T w mb a K fb r e w':=by
 obtain⟨d,⟨T2,g,i⟩,f⟩:=h;exact⟨d,⟨T2,c.trans b.size g,i⟩,b.trans c f⟩
theorem xp2 {f':Fr}(e1:f'.cls=f.cls)(e2:f'.meth=f.meth)(e3:f'.self=f.self)(e4:f'.pc=f.pc)(e5:f'.fast=f.fast)(h:w.heap[fb]?=some (FB f cv av tv sv kv)):w.heap[fb]?=some (FB f' cv av tv sv kv):=by rw[h];unfold FB;rw[e1,e2,e3,e4,e5]
theorem FrAt.setTemp {tb:Nat}{n:Int}{v:QV}(h:FrAt T K w fb f cv av (qG tb f.temps.length f.temps.length) sv kv)(c:T tb=K+1)(d:w'.heap[tb]?=some (.cells (Cf (EQ f.temps n v)).toArray 41 (0,0)))(k:Kp (λt=>t=K+1) T w w'):FrAt T K w' fb { f with temps:=EQ f.temps n v } cv av (qG tb f.temps.length f.temps.length) sv kv:=by
 have i:=h.pos;obtain⟨a,e,d2,d3,d4⟩:=h.temps;refine⟨xp2 rfl rfl rfl rfl rfl (k.held h.box (by rw[h.tag];omega)),h.tag,h.args.fx BZ (.refl _ _) k (by omega),⟨tb,by show _=qS _ (EQ f.temps n v).length (EQ f.temps n v).length;rw[Mj],d,c,by show (EQ f.temps n v).length<=40;rw[Mj];exact d4⟩,h.stack.keep λg b=>k.blk g (h.stack.lt g b).2 (by rw[h.stag g b];omega),h.stag,h.few,h.code.fx BR (.refl _ _) k (by omega),h.meth.fx BR (.refl _ _) k (by omega),i⟩
def Ky (ent:CC σ)(E:Env σ)(d:Nat)(m:Mc σ)(f:Fr)(a:Int)(x:QI):Mc σ × Fr × Int:=
  if x.op=9 then (m,f.pop,0)
  else if x.op=10 then (m,f.push f.top,0)
  else if x.op=11 then (m,{ f.pop with temps:=EQ f.temps x.a f.top },0)
  else if x.op=12 then ({ m with heap:=FF m.heap f.self x.a f.top },f.pop,0)
  else if x.op=13 then DT E m f x.a
  else if x.op=14 then Dv ent E m f a x
  else if x.op=15 then Cr m f a x.a
  else if x.op=16 then Dt m f a x.a
  else DB E d m f x
theorem xpQ (hC:Cx p L LF lc QF qc){d:Nat}(R:NM p L d)(h:MacAt p T w mb m (20-(d:Int)) hv g s)(hF:FrAt T K w fb f cv av tv sv kv)(hL:L T w m.st (FM p.E m))(hI:MIn p.E m)(U:FOk p.E.cz m.heap.length f)(M:f.stack.length<=1000000)(hd:d<=20)(a:Int)(x:QI)(B:f.fast=true->x.op=18->0<=x.b/\x.b<=1000) :
  Calls Tryz.prog 258 #[qP mb,qP fb,J a,IV x] w λe w'=>StPost p L T w mb (20-(d:Int)) K fb (BD (BL p.E d) p.E d m f a x) e w':=by
 have hp:=hF.pos;have hX:=EW T w 4;have b5:∀b,w.heap.size<=b->Dw T w 4 b=4:=λb hb=>Gr hb;have ah:=Bg w (qE x);have ak:=(h.tagged0 4).later ah;have ae:=(hF.tagged0 4).later ah;have am:=hC.keep (hC.keep hL hX (Kp.refl (λ_=>False) _ _) id id) (.refl _ _) (Kp.of_below (S:=λ_=>False) ah) id id;have an:=xlm w x 69;have ab:f.stack.length<1000000000:=by omega
 clear h hF hL;generalize Dw T w 4=T1 at *;go_enter Tryz.func258,Tryz.ntmps258;go_upto_region 1 with (fail);generalize (w.alloc (qE x))=W at *;obtain⟨x0,x1,x2,x3,x4⟩:=id an;have ad:=xmj ak ae x;go_wp2_with fail;refine ad.mono ?_;rintro e w1 ⟨rfl,C⟩;clear ad x0 x1 x2 x3 x4;have ai:∀u:QV,qY W (w1.alloc (qH u)):=λu=>Bh C (Bg _ _)
 cases ad:Cl m.heap f x with
 | some u=>
  have HM:Hid (BD (BL p.E d) p.E d m f a x=(m,f.push u,0)):=by show _=_;unfold BD;rw[ad]
  clear ad;have HB:=hid (ai u);have bb:=hid ae;have b8:=hid ak;have b7:=hid am;have b9:=hid ah;have a1:=ae.later (ai u);clear ae ak am an ah ai;go_wp2_with fail;refine (PX a1 u ab).mono ?_;rintro e w2 ⟨rfl,⟨T2,z,j,a0⟩,i⟩;have Q:Hid (StPost p L T w mb (20-(d:Int)) K fb (m,f.push u,0) (.returned (J 0)) w2):=Mk hC ⟨rfl,rfl⟩ hX (Kp.of_below (Bh b9.out HB.out)) (hC.keep b7.out (.refl _ _) (Kp.of_below (S:=λ_=>False) HB.out) id id) rfl j ⟨_,_,_,(b8.out.later HB.out).keep j i (by omega) (by omega) (by omega)⟩ (λ_=>⟨_,_,_,_,_,a0⟩) i (λt h=>by unfold CF;omega) (by omega) (by omega);clear a1 a0 i j;go_wp2;go_ret;rw[HM.out];exact Q.out
 | none=>
  have HM:Hid (BD (BL p.E d) p.E d m f a x=Ky (BL p.E d) p.E d m f a x):=by show _=_;unfold BD Ky;rw[ad]
  clear ad;have ag:=ai BC;have a3:=ak.later ag;have a1:=ae.later ag;have a2:=hC.keep am (.refl _ _) (Kp.of_below (S:=λ_=>False) ag) id id;have a5:SdR w x (w1.alloc (qQ)):=an.kp (T:=T1) (S:=λ_=>False) (Kp.of_below ag) id;have a6:Hid (Kp (CF K) T w (w1.alloc (qQ))):=Kp.of_below (Bh ah ag);have ao:T1 w.heap.size=4:=b5 _ (Bq _);have b4:Hid (∀ {T3:Nat->Nat} {V' w2:qW},Ext T1 T3 w2->Kp (λt=>t=K) T1 V' w2->Ext T1 T3 V'):=λh k b hb=>h b (Cd hb k.size);clear ak ae am an ai ag;go_upto_region 5 with (fail);generalize (w1.alloc (qQ))=V at *;obtain⟨x0,x1,x2,x3,x4⟩:=id a5;have ba:w.heap.size<V.heap.size:=World.block_lt_of_cell? V (O w.heap.size 0) x0;clear C;by_cases h9:x.op=9
  ·have HN:Hid (BD (BL p.E d) p.E d m f a x=(m,f.pop,0)):=by show _=_;rw[HM.out];unfold Ky;rw[if_pos h9]
   have b6:(x.op == 9)=true:=by simpa using h9
   clear HM h9;go_wp2_with fail;refine (Ng a1).mono ?_;rintro e w2 ⟨rfl,⟨z,a0⟩,i⟩;have Q:Hid (StPost p L T w mb (20-(d:Int)) K fb (m,f.pop,0) (.returned (J 0)) w2):=Mk hC ⟨rfl,rfl⟩ hX a6.out a2 rfl (.refl _ _) ⟨_,_,_,a3.keep (.refl _ _) i (by omega) (by omega) (by omega)⟩ (λ_=>⟨_,_,_,_,_,a0⟩) i (λt h=>by unfold CF;omega) (by omega) (by omega);clear a1 a0 i a3 a2 a5 x0 x1 x2 x3 x4;go_wp2;go_ret;rw[HN.out];exact Q.out
  have b6:(x.op == 9)=false:=by simpa using h9
  by_cases h10:x.op=10
  ·have HN:Hid (BD (BL p.E d) p.E d m f a x=(m,f.push f.top,0)):=by show _=_;rw[HM.out];unfold Ky;rw[if_neg h9];rw[if_pos h10]
   have aq:(x.op == 10)=true:=by simpa using h10
   clear HM h9 h10;go_wp2_with fail;refine (xhp a1 0 ⟨by omega,by omega⟩).mono ?_;rintro e w2 ⟨rfl,v⟩;have HT:Hid (f.top=CL f.stack 0):=rfl;rw[← HT.out];have a0:=a1.later v;clear x0 x1 x2 x3 x4;go_wp2_with fail;refine (PX a0 f.top ab).mono ?_;rintro e w3 ⟨rfl,⟨T3,Y,q,a7⟩,l⟩;have Q:Hid (StPost p L T w mb (20-(d:Int)) K fb (m,f.push f.top,0) (.returned (J 0)) w3):=Mk hC ⟨rfl,rfl⟩ hX (a6.out.on v) (hC.keep a2 (.refl _ _) (Kp.of_below (S:=λ_=>False) v) id id) rfl q ⟨_,_,_,(a3.later v).keep q l (by omega) (by omega) (by omega)⟩ (λ_=>⟨_,_,_,_,_,a7⟩) l (λt h=>by unfold CF;omega) (by omega) (by omega);clear a1 a0 a7 l q a3 a2 a5 v;go_wp2;go_ret;rw[HN.out];exact Q.out
  have aq:(x.op == 10)=false:=by simpa using h10
  by_cases h11:x.op=11
  ·have HN:Hid (BD (BL p.E d) p.E d m f a x=(m,{ f.pop with temps:=EQ f.temps x.a f.top },0)):=by show _=_;rw[HM.out];unfold Ky;rw[if_neg h9];rw[if_neg h10];rw[if_pos h11]
   have ay:(x.op == 11)=true:=by simpa using h11
   clear HM h9 h10 h11;obtain⟨tb,rfl,F,y,X⟩:=a1.temps;go_wp2;have a8:=a1.later (Br _ V).drew;have o:V.drew.cell? (O fb 9)=some (qG tb f.temps.length f.temps.length)/\V.drew.cell? (O w.heap.size 1)=some (J x.a):=⟨a8.c.2.2.2,x1⟩;have tokA:True:=trivial
   go_region_held3 (λw'=>w'.cell? (O fb 9)=some (qG tb f.temps.length f.temps.length)/\w'.cell? (O w.heap.size 1)=some (J x.a))
    (first | with_reducible exact o | with_reducible exact aa | with_reducible exact aj)
    (first
     | (have _t:=tokA;go_at_call 257;refine (Ng a8).mono ?_;rintro e w2 ⟨rfl,⟨z,a0⟩,i⟩;have aa:=And.intro a0.c.2.2.2 (i.cell o.2 (by rw[ao];omega));have b2:w2.heap[tb]?=some (.cells (Cf f.temps).toArray 41 (0,0)):=(i.held (Bs F (Br _ V).drew) (by rw[y];omega));clear tokA;have tokB:True:=trivial)
     | (have _t:=tokB;go_at_call 273;refine (xf1 f.temps tb x.a f.top _ b2).mono ?_;rintro e w3 ⟨rfl,N,Z,D⟩;have af:=D (λt=>t=K+1) T1 y;have aj:=And.intro (af.cell aa.1 (by rw[a0.tag];omega)) (af.cell aa.2 (by rw[ao];omega));clear tokB))
   have a7:=a0.setTemp y N af;have Q:Hid (StPost p L T w mb (20-(d:Int)) K fb (m,{ f.pop with temps:=EQ f.temps x.a f.top },0) (.returned (J 0)) w3):=Mk hC ⟨rfl,rfl⟩ hX a6.out.drew (hC.keep a2 (.refl _ _) (Kp.refl (λ_=>False) _ _).drew id id) rfl (.refl _ _) ⟨_,_,_,((a3.later (Br _ V).drew).keep (.refl _ _) i (by omega) (by omega) (by omega)).keep (.refl _ _) af (by omega) (by omega) (by omega)⟩ (λ_=>⟨_,_,_,_,_,a7⟩) (S:=λt=>t=K\/t=K+1) ((i.mono λt h=>Or.inl h).trans (.refl _ _) (af.mono λt h=>Or.inr h)) (λt h=>by unfold CF;omega) (by omega) (by omega);clear a1 a0 a7 a8 i af a3 a2 a5 x0 x1 x2 x3 x4 N D b2 F o aa aj;go_wp2;go_ret;rw[HN.out];exact Q.out
  have ay:(x.op == 11)=false:=by simpa using h11
  by_cases h12:x.op=12
  ·have HN:Hid (BD (BL p.E d) p.E d m f a x=({ m with heap:=FF m.heap f.self x.a f.top },f.pop,0)):=by show _=_;rw[HM.out];unfold Ky;rw[if_neg h9];rw[if_neg h10];rw[if_neg h11];rw[if_pos h12]
   have ax:(x.op == 12)=true:=by simpa using h12
   clear HM h9 h10 h11 h12;go_wp2;have a8:=a1.later (Br _ V).drew;have az:=a3.later (Br _ V).drew;have o:V.drew.cell? (O fb 6)=some (J f.self.k)/\V.drew.cell? (O fb 7)=some (J f.self.n)/\V.drew.cell? (O w.heap.size 1)=some (J x.a):=⟨a8.c.1,a8.c.2.1,x1⟩;have tokA:True:=trivial
   go_region_held3 (λw'=>w'.cell? (O fb 6)=some (J f.self.k)/\w'.cell? (O fb 7)=some (J f.self.n)/\w'.cell? (O w.heap.size 1)=some (J x.a))
    (first | with_reducible exact o | with_reducible exact aa | with_reducible exact aj)
    (first
     | (have _t:=tokA;go_at_call 257;refine (Ng a8).mono ?_;rintro e w2 ⟨rfl,⟨z,a0⟩,i⟩;have aa:w2.cell? (O fb 6)=some (J f.self.k)/\w2.cell? (O fb 7)=some (J f.self.n)/\w2.cell? (O w.heap.size 1)=some (J x.a):=⟨a0.c.1,a0.c.2.1,i.cell o.2.2 (by rw[ao];omega)⟩;have a4:=az.keep (.refl _ _) i (by omega) (by omega) (by omega);clear tokA;have tokB:True:=trivial)
     | (have _t:=tokB;go_at_call 274;refine (xhb a4 f.self x.a f.top).mono ?_;rintro e w3 ⟨rfl,⟨T3,q,H⟩,l⟩;have a7:=a0.keep q l (by omega) (by omega) (by omega) (by omega);have aj:w3.cell? (O fb 6)=some (J f.self.k)/\w3.cell? (O fb 7)=some (J f.self.n)/\w3.cell? (O w.heap.size 1)=some (J x.a):=⟨a7.c.1,a7.c.2.1,l.cell aa.2.2 (by rw[ao];omega)⟩;clear tokB))
   have Q:Hid (StPost p L T w mb (20-(d:Int)) K fb ({ m with heap:=FF m.heap f.self x.a f.top },f.pop,0) (.returned (J 0)) w3):=Mk hC ⟨rfl,rfl⟩ hX a6.out.drew (hC.keep a2 (.refl _ _) (Kp.refl (λ_=>False) _ _).drew id id) rfl (b4.out q i) ⟨_,_,_,H⟩ (λ_=>⟨_,_,_,_,_,a7⟩) (S:=λt=>t=K\/t=2) ((i.mono λt h=>Or.inl h).trans (.refl _ _) (l.mono λt h=>Or.inr h)) (λt h=>by unfold CF;omega) (by omega) (by omega);clear a1 a0 a7 a8 az a4 H i l q a3 a2 a5 x0 x1 x2 x3 x4 o aa aj;go_wp2;go_ret;rw[HN.out];exact Q.out
  have ax:(x.op == 12)=false:=by simpa using h12
  by_cases h13:x.op=13
  ·have HN:Hid (BD (BL p.E d) p.E d m f a x=DT p.E m f x.a):=by show _=_;rw[HM.out];unfold Ky;rw[if_neg h9];rw[if_neg h10];rw[if_neg h11];rw[if_neg h12];rw[if_pos h13]
   have b1:(x.op == 13)=true:=by simpa using h13
   clear HM h9 h10 h11 h12 h13;have b3:=xhA a3 a1 x.a (hC.ok.slots x.a) ab;have a9:(DT p.E m f x.a).1.st=m.st/\(DT p.E m f x.a).1.sz_=m.sz_:=⟨xrz _ _ _ _,xhQ _ _ _ _⟩;generalize DT p.E m f x.a=r at *;go_wp2_with fail;refine b3.mono ?_;rintro e w2 ⟨rfl,⟨T2,j,a4,a0⟩,i⟩;have Q:Hid (StPost p L T w mb (20-(d:Int)) K fb r (.returned (J r.2.2)) w2):=Mk hC a9 hX a6.out a2 rfl j a4 (λh=>(a0 h).elim λsv' h'=>⟨_,_,_,sv',_,h'⟩) i (λt h=>by unfold CF;omega) (by omega) (by omega);clear a1 a0 i j a3 a4 a2 a5 x0 x1 x2 x3 x4 b3 a9;go_wp2;go_ret;rw[HN.out];exact Q.out
  have b1:(x.op == 13)=false:=by simpa using h13
  by_cases h14:x.op=14
  ·have HN:Hid (BD (BL p.E d) p.E d m f a x=Dv (BL p.E d) p.E m f a x):=by show _=_;rw[HM.out];unfold Ky;rw[if_neg h9];rw[if_neg h10];rw[if_neg h11];rw[if_neg h12];rw[if_neg h13];rw[if_pos h14]
   have ap:(x.op == 14)=true:=by simpa using h14
   clear HM h9 h10 h11 h12 h13 h14;have au:=xpZ hC R a3 a1 a2 hI U M a x;generalize Dv (BL p.E d) p.E m f a x=r at *;go_wp2_with fail;refine au.mono ?_;rintro e w2 ⟨rfl,⟨T2,j,a4,G,a0⟩,i⟩;have Q:Hid (StPost p L T w mb (20-(d:Int)) K fb r (.returned (J r.2.2)) w2):=⟨rfl,⟨T2,hX.trans a6.out.size j,a4,G,a0⟩,a6.out.trans hX i⟩;clear a1 a0 i j a3 a4 a2 G a5 x0 x1 x2 x3 x4 au;go_wp2;go_ret;rw[HN.out];exact Q.out
  have ap:(x.op == 14)=false:=by simpa using h14
  by_cases h15:x.op=15
  ·have HN:Hid (BD (BL p.E d) p.E d m f a x=Cr m f a x.a):=by show _=_;rw[HM.out];unfold Ky;rw[if_neg h9];rw[if_neg h10];rw[if_neg h11];rw[if_neg h12];rw[if_neg h13];rw[if_neg h14];rw[if_pos h15]
   have ar:(x.op == 15)=true:=by simpa using h15
   clear HM h9 h10 h11 h12 h13 h14 h15;have al:=xlX a3 a1 a x.a hI.tz;have a9:(Cr m f a x.a).1.st=m.st/\(Cr m f a x.a).1.sz_=m.sz_:=⟨xne _ _ _ _,xfw _ _ _ _⟩;generalize Cr m f a x.a=r at *;go_wp2_with fail;refine al.mono ?_;rintro e w2 ⟨rfl,a4,a0,i⟩;have Q:Hid (StPost p L T w mb (20-(d:Int)) K fb r (.returned (J r.2.2)) w2):=Mk hC a9 hX a6.out a2 rfl (.refl _ _) ⟨_,_,_,a4⟩ (λ_=>⟨_,_,_,_,_,a0⟩) i (λt h=>by unfold CF;omega) (by omega) (by omega);clear a1 a0 i a3 a4 a2 a5 x0 x1 x2 x3 x4 al a9;go_wp2;go_ret;rw[HN.out];exact Q.out
  have ar:(x.op == 15)=false:=by simpa using h15
  by_cases h16:x.op=16
  ·have HN:Hid (BD (BL p.E d) p.E d m f a x=Dt m f a x.a):=by show _=_;rw[HM.out];unfold Ky;rw[if_neg h9];rw[if_neg h10];rw[if_neg h11];rw[if_neg h12];rw[if_neg h13];rw[if_neg h14];rw[if_neg h15];rw[if_pos h16]
   have b0:(x.op == 16)=true:=by simpa using h16
   clear HM h9 h10 h11 h12 h13 h14 h15 h16;have al:=xmf a3 a1 a x.a hI.tz;have a9:(Dt m f a x.a).1.st=m.st/\(Dt m f a x.a).1.sz_=m.sz_:=⟨xqX _ _ _ _,xie _ _ _ _⟩;generalize Dt m f a x.a=r at *;go_wp2_with fail;refine al.mono ?_;rintro e w2 ⟨rfl,a4,a0,i⟩;have Q:Hid (StPost p L T w mb (20-(d:Int)) K fb r (.returned (J r.2.2)) w2):=Mk hC a9 hX a6.out a2 rfl (.refl _ _) ⟨_,_,_,a4⟩ (λh=>(a0 h).elim λsv' h'=>⟨_,_,_,sv',_,h'⟩) i (λt h=>by unfold CF;omega) (by omega) (by omega);clear a1 a0 i a3 a4 a2 a5 x0 x1 x2 x3 x4 al a9;go_wp2;go_ret;rw[HN.out];exact Q.out
  have b0:(x.op == 16)=false:=by simpa using h16
  have HN:Hid (BD (BL p.E d) p.E d m f a x=DB p.E d m f x):=by show _=_;rw[HM.out];unfold Ky;rw[if_neg h9];rw[if_neg h10];rw[if_neg h11];rw[if_neg h12];rw[if_neg h13];rw[if_neg h14];rw[if_neg h15];rw[if_neg h16]
  clear HM h9 h10 h11 h12 h13 h14 h15 h16;have aw:=xjO hC hd a3 a1 a2 hI M x B;clear B;generalize DB p.E d m f x=r at *;go_wp2_with fail;refine aw.mono ?_;rintro e w2 hP;have Q:=hid (hP.under hX a6.out);obtain⟨rfl,-⟩:=hP;clear a1 a3 a2 a5 x0 x1 x2 x3 x4 aw;go_wp2;go_ret;rw[HN.out];exact Q.out
end
section
variable {σ:Type}
theorem xh2 (m:Mc σ)(f:Fr)(a b:Int):(Cr m f a b).2.1.stack=f.stack:=by
 unfold Cr;simp only;split<;>split<;>rfl
theorem xma (ent:CC σ)(E:Env σ)(d:Nat)(m:Mc σ)(f:Fr)(a:Int)(x:QI):(BD ent E d m f a x).2.1.stack.length<=f.stack.length+1:=by
 unfold BD;split
 ·simp[Fr.push]
 split
 ·simp[Fr.pop];omega
 split
 ·simp[Fr.push]
 split
 ·simp[Fr.pop];omega
 split
 ·simp[Fr.pop];omega
 split
 ·unfold DT;split
  ·simp
  simp[Fr.push]
 split
 ·unfold Dv;simp only;split
  ·simp
  simp;omega
 split
 ·rw[xh2];omega
 split
 ·unfold Dt;split
  ·simp[Fr.pop];omega
  split
  ·rw[xh2];simp[Fr.pop];omega
  simp
 unfold DB;split
 ·simp
 split
 ·simp only;split
  ·simp
  simp[Fr.leave]
 split
 ·simp[Fr.push]
 split
 ·simp[Fr.pop];omega
 split<;>simp
theorem xnj {ent:CC σ}(g:Gn ent){E:Env σ}{d:Nat}{m:Mc σ}{f:Fr}(i:0<=m.tz)(b:0<=f.pc)(c:f.pc.toNat<f.code.length){x:QI}(h:(BD ent E d m { f with pc:=f.pc+1 } f.pc x).2.2=0){R:Nat}(k:f.stack.length+Cz m f<=R):(BD ent E d m { f with pc:=f.pc+1 } f.pc x).2.1.stack.length+Cz (BD ent E d m { f with pc:=f.pc+1 } f.pc x).1 (BD ent E d m { f with pc:=f.pc+1 } f.pc x).2.1<=R:=by
 have a:=xma ent E d m { f with pc:=f.pc+1 } f.pc x;have j:=xi1 g (E:=E) (d:=d) i b c (x:=x) h;have e:({ f with pc:=f.pc+1 }:Fr).stack=f.stack:=rfl;rw[e] at a;omega
def xst (ent:CC σ):Prop:=∀m c n s a,m.tz<=300->(ent m c n s a).2.2=0->(ent m c n s a).1.tz<=300
theorem xqj {m:Mc σ}{f:Fr}{a b:Int}(c:(Cr m f a b).2.2=0):(Cr m f a b).1.tz<=300:=by
 unfold Cr at c ⊢;by_cases h:b<=a
 ·simp only[h,if_true] at c ⊢;split
  ·rename_i k;rw[if_pos k] at c;cases c
  rename_i k;simp only at k ⊢;omega
 simp only[h,if_false] at c ⊢;split
 ·rename_i k;rw[if_pos k] at c;cases c
 rename_i k;simp only at k ⊢;omega
theorem xr1 {m:Mc σ}(d:m.tz<=300){f:Fr}{a b:Int}(c:(Dt m f a b).2.2=0):(Dt m f a b).1.tz<=300:=by
 unfold Dt at c ⊢;split
 ·exact d
 rename_i k;rw[if_neg k] at c;split
 ·rename_i k2;rw[if_pos k2] at c;exact xqj c
 exact d
theorem xse (E:Env σ)(m:Mc σ)(f:Fr)(c:Int):(DT E m f c).1.tz=m.tz:=by unfold DT;split<;>rfl
theorem xqg {E:Env σ}{ent:CC σ}(e:xst ent)(d:Nat){m:Mc σ}(h:m.tz<=300){f:Fr}{a:Int}{x:QI}(b:(BD ent E d m f a x).2.2=0):(BD ent E d m f a x).1.tz<=300:=by
 cases c:Cl m.heap f x with
 | some u=>unfold BD;rw[c];exact h
 | none=>
  unfold BD at b ⊢;rw[c] at b ⊢;simp only at b ⊢;by_cases h9:x.op=9
  ·rw[if_pos h9];exact h
  rw[if_neg h9] at b ⊢;by_cases h10:x.op=10
  ·rw[if_pos h10];exact h
  rw[if_neg h10] at b ⊢;by_cases h11:x.op=11
  ·rw[if_pos h11];exact h
  rw[if_neg h11] at b ⊢;by_cases h12:x.op=12
  ·rw[if_pos h12];exact h
  rw[if_neg h12] at b ⊢;by_cases h13:x.op=13
  ·rw[if_pos h13,xse];exact h
  rw[if_neg h13] at b ⊢;by_cases h14:x.op=14
  ·rw[if_pos h14] at b ⊢;unfold Dv at b ⊢;simp only at b ⊢;split
   ·rename_i k;rw[if_pos k] at b;exact absurd b k
   rename_i k;exact e _ _ _ _ _ h (Decidable.of_not_not k)
  rw[if_neg h14] at b ⊢;by_cases h15:x.op=15
  ·rw[if_pos h15] at b ⊢;exact xqj b
  rw[if_neg h15] at b ⊢;by_cases h16:x.op=16
  ·rw[if_pos h16] at b ⊢;exact xr1 h b
  rw[if_neg h16] at b ⊢;unfold DB;split
  ·exact h
  split
  ·exact h
  split
  ·exact h
  split
  ·exact h
  split
  ·show (BY E d m).1.tz<=300;unfold BY;split
   ·exact h
   split<;>exact h
  ·exact h
theorem xsn {E:Env σ}{ent:CC σ}(a:xst ent)(d:Nat):∀(g:Nat) (m:Mc σ) (f:Fr),m.tz<=300->(CX ent E d g m f).2.2=0->(CX ent E d g m f).1.tz<=300
 | 0,m,f,h,h0=>by cases h0
 | g+1,m,f,h,h0=>by
  unfold CX at h0 ⊢;generalize (if f.pc<0 then none else f.code[f.pc.toNat]?)=q at h0 ⊢
  cases q with
  | none=>cases h0
  | some x=>
   simp only at h0 ⊢;by_cases h17:x.op=17
   ·rw[if_pos h17];exact h
   rw[if_neg h17] at h0 ⊢;by_cases he0:(BD ent E d m { f with pc:=f.pc+1 } f.pc x).2.2=0
   ·rw[if_neg (by simpa using he0)] at h0 ⊢;exact xsn a d g _ _ (xqg a d h he0) h0
   rw[if_pos he0] at h0;exact absurd h0 he0
theorem xnG {E:Env σ}(d:Nat){b:Mc σ->Fr->Mc σ × QV × Int}(l:∀m f,m.tz<=300->(b m f).2.2=0->(b m f).1.tz<=300):xst (El E d b):=λm c n s a h e=>by
 unfold El at e ⊢;generalize Cp E.cz c n=q at e ⊢
 cases q with
 | none=>cases e
 | some mt=>
  simp only at e ⊢;split at e
  ·cases e
  rename_i j;rw[if_neg j];split at e
  ·rename_i g;rw[if_pos g];split
   ·exact h
   exact h
  rename_i g;rw[if_neg g]
  have k:(BY E d m).1.tz=m.tz:=by
   unfold BY;split
   ·rfl
   split<;>rfl
  split at e
  ·rename_i i;exact absurd e i
  rename_i i;rw[if_neg i];exact l _ _ (by rw[k];exact h) e
theorem xsd (E:Env σ):∀d,xst (BL E d)
 | 0=>xnG 0 λm f h a=>by cases a
 | d+1=>xnG (d+1) λm f h a=>xsn (xsd E d) d _ m f h a
def Mn (f:Fr):Prop:=f.fast=true->∀x∈f.code,x.op=18->0<=x.b/\x.b<=1000
theorem xqZ {ent:CC σ}{E:Env σ}{d:Nat}{m:Mc σ}{f:Fr}(h:Mn f)(a:Int)(x:QI):Mn (BD ent E d m f a x).2.1:=by
 have ED:∀g:Fr,Mn g->∀b,Mn (Cr m g a b).2.1:=λg c b=>by
  unfold Cr;simp only;split<;>split<;>exact c
 unfold BD;split
 ·exact h
 split
 ·exact h
 split
 ·exact h
 split
 ·exact h
 split
 ·exact h
 split
 ·unfold DT;split<;>exact h
 ·split
  ·unfold Dv;simp only;split<;>exact h
  ·split
   ·exact ED f h _
   split
   ·unfold Dt;split
    ·exact h
    split
    ·exact ED f.pop h _
    exact h
   unfold DB;split
   ·exact h
   split
   ·simp only;split
    ·exact h
    exact λh=>by cases h
   split
   ·exact h
   split
   ·exact h
   split<;>exact h
end
section
variable {σ:Type}
variable {p:Mp σ} {L:(Nat->Nat)->World->σ->Nat->Prop} {LF QF:Nat} {lc qc:Array Value} {T T':Nat->Nat} {w w':World} {mb:Nat} {m m':Mc σ} {hv:Value} {g:Nat} {s:Nat->Nat} {K fb:Nat} {f:Fr} {cv av tv sv kv:Value}
structure FnR (p:Mp σ)(L:(Nat->Nat)->World->σ->Nat->Prop)(d:Nat)(T:Nat->Nat)(w:qW)(mb K fb:Nat)(R:Mc σ × QV × Int)(gk:Nat)(T1:Nat->Nat)(m:Mc σ)(f:Fr)(wr:qW):Prop where
 ext:Ext T T1 w
 kp:Kp (CF K) T w wr
 mac:∃hv g s,MacAt p T1 wr mb m (20-(d:Int)) hv g s
 fr:∃cv av tv sv kv,FrAt T1 K wr fb f cv av tv sv kv
 lk:L T1 wr m.st (FM p.E m)
 min:MIn p.E m
 fo:FOk p.E.cz m.heap.length f
 gd:Mn f
 room:f.stack.length+Cz m f<=1000000
 mu:Cz m f<=gk
 val:CX (BL p.E d) p.E d gk m f=R
 r0:wr.cell? (O w.heap.size 0)=some (J 0)
 r1:wr.cell? (O w.heap.size 1)=some (J 0)
 rf:∀o,wr.frozen? (O w.heap.size o)=false
 r4:T1 w.heap.size=4
 sz:w.heap.size<wr.heap.size
theorem Mw {S:Nat->Prop}{b o:Nat}(k:Kp S T w w')(c:b<w.heap.size)(a:¬ S (T b))(h:w.frozen? (O b o)=false):w'.frozen? (O b o)=false:=by
 unfold World.frozen? at h ⊢;simp only at h ⊢;rw[k.blk b c a];exact h
theorem FnR.ended (a:Cx p L LF lc QF qc){d gk:Nat}{T1:Nat->Nat}{wr:qW}{R:Mc σ × QV × Int}(h:FnR p L d T w mb K fb R gk T1 m f wr)(u0 u1:Value):EnPost p L T w mb (20-(d:Int)) K (m,BC,9) (.returned (.tuple #[VV BC,J 9])) ((wr.setCell (O w.heap.size 0) u0).setCell (O w.heap.size 1) u1).drew:=by
 obtain⟨hv,g,s,b⟩:=h.mac;have k:Kp (λt=>t=4) T1 wr ((wr.setCell (O w.heap.size 0) u0).setCell (O w.heap.size 1) u1).drew:=(((Kp.refl (λt=>t=4) _ _).set (λ_=>h.r4) _ _).set (λ_=>h.r4) _ _).drew;refine⟨rfl,⟨T1,h.ext,⟨_,_,_,b.keep (.refl _ _) k (by omega) (by omega) (by omega)⟩,?_⟩,((h.kp.set (λh=>absurd h (Nat.lt_irrefl _)) _ _).set (λh=>absurd h (Nat.lt_irrefl _)) _ _).drew⟩;rw[if_neg (by simp)];exact a.mono (a.keep h.lk (.refl _ _) k (by omega) (by omega)) (Nat.zero_le _)
theorem xmM (hC:Cx p L LF lc QF qc){d:Nat}(hd:d<=20)(U:NM p L d)(h:MacAt p T w mb m (20-(d:Int)) hv g s)(hF:FrAt T K w fb f cv av tv sv kv)(hL:L T w m.st (FM p.E m))(hI:MIn p.E m)(M:FOk p.E.cz m.heap.length f)(D:Mn f)(B:f.stack.length+Cz m f<=1000000) :
  Calls Tryz.prog 232 #[qP mb,qP fb] w λe w'=>EnPost p L T w mb (20-(d:Int)) K (CX (BL p.E d) p.E d (Hn f) m f) e w':=by
 have hp:=hF.pos;have a8:=Bg w (qQ)
 have af:FnR p L d T w mb K fb (CX (BL p.E d) p.E d (Hn f) m f) (Hn f) (Dw T w 4) m f (w.alloc (qQ)):=
  ⟨EW T w 4,Kp.of_below a8,⟨_,_,_,(h.tagged0 4).later a8⟩,⟨_,_,_,_,_,(hF.tagged0 4).later a8⟩,hC.keep (hC.keep hL (EW T w 4) (Kp.refl (λ_=>False) _ _) id id) (.refl _ _) (Kp.of_below (S:=λ_=>False) a8) id id,hI,M,D,B,PT hI.tz.1,rfl,Bp _ _ _ _ rfl 0,Bp _ _ _ _ rfl 1,BN (BH w (qQ)),Gr (Bq _),by simp⟩
 clear h hF hL a8 M D B hI;generalize CX (BL p.E d) p.E d (Hn f) m f=R at *;generalize Hn f=G at *;go_enter Tryz.func232,Tryz.ntmps232;go_wp2
 go_loopg [] G (λgk wr=>∃T1 m f,FnR p L d T w mb K fb R gk T1 m f wr)
 case atStart=>exact⟨_,_,_,af⟩
 case round=>
  clear af;obtain⟨T1,m,f,hR⟩:=hrel;obtain⟨hv,g,s,hM⟩:=hR.mac;obtain⟨cv,av,tv,sv,kv,i⟩:=hR.fr;have ar:=hR.mu;by_cases a3:f.pc<0\/f.code.length<=f.pc.toNat
  ·have HV:Hid (R=(m,BC,9)):=by
    show _=_;rw[← hR.val]
    cases gk with
    | zero=>rfl
    | succ G'=>
     unfold CX;rcases a3 with hn | hn
     ·rw[if_pos hn]
     have:(if f.pc<0 then none else f.code[f.pc.toNat]?)=none:=by
      split
      ·rfl
      exact List.getElem?_eq_none hn
     rw[this]
   have a7:wr.cell? (O fb 12)=some (J f.pc):=by rw[Bn i.box];rfl
   have Z:wr.cell? (O fb 11)=some kv:=by rw[Bn i.box];rfl
   obtain⟨ac,cc,u,V,C,-,l⟩:=i.code;rw[u] at Z;have q0:=hR.r0;have q1:=hR.r1;have qf:=hR.rf;have X:=hid hR;have HM:=hid hM;clear hR hM i ar l u;by_cases hn:f.pc<0
   ·have az:decide (0<=f.pc)=false:=by simpa using hn
    have b2:¬ 0<=f.pc:=by omega
    clear a3 hn;go_wp2
    go_region
    go_wp2;rw[HV.out];refine Bt (v:=.tuple #[VV BC,J 9]) ?_ rfl (X.out.ended hC _ _);simp[results,Tryz.results232,go_sem,q0,q1]
   have az:decide (0<=f.pc)=true:=by simpa using hn
   have b2:0<=f.pc:=by omega
   have b5:¬ f.pc<(f.code.length:Int):=by omega
   have b8:decide (f.pc<(f.code.length:Int))=false:=by simpa using b5
   clear a3 hn;go_wp2
   go_region
   go_wp2;rw[HV.out];refine Bt (v:=.tuple #[VV BC,J 9]) ?_ rfl (X.out.ended hC _ _);simp[results,Tryz.results232,go_sem,q0,q1]
  obtain⟨k,n⟩:∃k:Nat,f.pc=(k:Int):=⟨f.pc.toNat,by omega⟩
  have ag:k<f.code.length:=by rw[n] at a3;simp at a3;omega
  obtain⟨x,y⟩:∃x,f.code[k]?=some x:=⟨_,List.getElem?_eq_getElem ag⟩;clear a3
  obtain⟨G',hG⟩:∃G',gk=G'+1:=⟨gk-1,by
   have:0<Cz m f:=by unfold Cz;rw[n];simp;omega
   omega⟩
  have HV:Hid (R=if x.op=17 then (m,f.top,0) else if (BD (BL p.E d) p.E d m { f with pc:=f.pc+1 } f.pc x).2.2≠0 then ((BD (BL p.E d) p.E d m { f with pc:=f.pc+1 } f.pc x).1,BC,(BD (BL p.E d) p.E d m { f with pc:=f.pc+1 } f.pc x).2.2) else CX (BL p.E d) p.E d G' (BD (BL p.E d) p.E d m { f with pc:=f.pc+1 } f.pc x).1 (BD (BL p.E d) p.E d m { f with pc:=f.pc+1 } f.pc x).2.1):=by
   show _=_;rw[← hR.val,hG]
   conv=>lhs;unfold CX
   rw[n,if_neg (by omega)];simp only[Int.toNat_natCast,y]
  have a7:wr.cell? (O fb 12)=some (J (k:Int)):=by rw[Bn i.box,← n];rfl
  have Z:wr.cell? (O fb 11)=some kv:=by rw[Bn i.box];rfl
  have am:=BN i.box;obtain⟨ac,cc,u,V,C,-,l⟩:=i.code;rw[u] at Z;unfold maxLen at C;obtain⟨bc,oc,H,-,i0,i1,i2,i3,i4,-⟩:=l k x y;rw[H] at Z;simp only[Nat.add_zero] at i0;have bf:(0:Int)<=(k:Int):=by omega
  have bb:(k:Int)<(f.code.length:Int):=by omega
  have be:IntKind.i64.wrap ((k:Int)+1)=(k:Int)+1:=CM (by omega) (by omega);have bg:fb<wr.heap.size:=By i.box;have bd:¬ fb=wr.heap.size:=by omega
  have b7:¬ wr.heap.size=fb:=by omega
  have HX:=hid y;have X:=hid hR;have HM:=hid hM;have HF:=hid i;have a1:=hid n;have au:=hid hG;clear y hR hM i n ar l u H hG;rw[a1.out] at HV;go_wp2
  go_region
  by_cases h17:x.op=17
  ·have ap:(x.op == 17)=true:=by simpa using h17
   rw[if_pos h17] at HV;clear h17;have Y:qY wr (wr.alloc (qE x)).drew:=(Bg _ _).drew;have a9:=HF.out.later Y;go_wp2_with fail;refine (Ng a9).mono ?_;rintro e w2 ⟨rfl,-,j⟩;have a4:=X.out.sz;have hz:w.heap.size<(wr.alloc (qE x)).drew.heap.size:=Cd a4 Y.size;have q0:=j.cell (Bf Y X.out.r0) (by rw[X.out.r4];omega);have q1:=j.cell (Bf Y X.out.r1) (by rw[X.out.r4];omega);have qf:∀o,w2.frozen? (O w.heap.size o)=false:=λo=>Mw j hz (by rw[X.out.r4];omega) ((Y.frozen (p:=(O w.heap.size o)) a4).trans (X.out.rf o));have b6:=hid ((HM.out.later Y).keep (.refl _ _) j (by omega) (by omega) (by omega));have b3:=hid (hC.keep (hC.keep X.out.lk (.refl _ _) (Kp.of_below (S:=λ_=>False) Y) id id) (.refl _ _) j (by omega) (by omega));have ay:=hid ((X.out.kp.on Y).trans X.out.ext (j.mono (S':=CF K) λt h=>by unfold CF;omega));clear a9 j Y a7 Z am i0 i1 i2 i3 i4;go_wp2;rw[HV.out];refine Bt (v:=.tuple #[VV f.top,J 0]) ?_ rfl ⟨rfl,⟨T1,X.out.ext,⟨_,_,_,b6.out.keep (.refl _ _) (((Kp.refl (λt=>t=4) _ _).set (λ_=>X.out.r4) _ _).set (λ_=>X.out.r4) _ _) (by omega) (by omega) (by omega)⟩,?_⟩,(ay.out.set (λh=>absurd h (Nat.lt_irrefl _)) _ _).set (λh=>absurd h (Nat.lt_irrefl _)) _ _⟩
   ·simp[results,Tryz.results232,go_sem,q0,q1]
   rw[if_pos rfl];exact hC.keep b3.out (.refl _ _) (((Kp.refl (λt=>t=4) _ _).set (λ_=>X.out.r4) _ _).set (λ_=>X.out.r4) _ _) (by omega) (by omega)
  have ap:(x.op == 17)=false:=by simpa using h17
  rw[if_neg h17] at HV;have ba:=hid h17;clear h17;have ah:Kp (λt=>t=K) T1 wr (wr.setCell (O fb 12) (J ((k:Int)+1))):=(Kp.refl _ _ _).set (λ_=>HF.out.tag) _ _;have Y:Below (wr.setCell (O fb 12) (J ((k:Int)+1))).heap.size (wr.setCell (O fb 12) (J ((k:Int)+1))) ((wr.setCell (O fb 12) (J ((k:Int)+1))).alloc (qE x)).drew:=(Bg _ _).drew;have b9:(wr.setCell (O fb 12) (J ((k:Int)+1))).heap.size=wr.heap.size:=by simp
  have a0:Kp (λt=>t=K) T1 wr ((wr.setCell (O fb 12) (J ((k:Int)+1))).alloc (qE x)).drew:=ah.on Y;have a9:=(HF.out.pcAt ah ((k:Int)+1) (xir HF.out.box _)).later Y;have aw:=HM.out.keep (.refl _ _) a0 (by omega) (by omega) (by omega);have ak:=hC.keep X.out.lk (.refl _ _) a0 (by omega) (by omega);have ab:FOk p.E.cz m.heap.length { f with pc:=(k:Int)+1 }:=⟨X.out.fo.self,X.out.fo.args,X.out.fo.temps,X.out.fo.stack,X.out.fo.code,X.out.fo.plain⟩
  have a5:=xpQ hC U aw a9 ak X.out.min ab (by have:=X.out.room;show f.stack.length<=_;omega) hd (k:Int) x (λhf ax=>X.out.gd hf x (List.mem_of_getElem? HX.out) ax);have ai:x∈f.code:=List.mem_of_getElem? HX.out;have ad:=X.out.fo.code x ai;have P1:=hid (xol hC.ok (xoL hC.ok d) d X.out.min.heap ab (k:Int) ad.1 ad.2);have P2:=hid (xnh (xl7 p.E d) d X.out.min.sz_.2 { f with pc:=(k:Int)+1 } (k:Int) x);have P3:=hid (xej (Ls p.E d) p.E d m { f with pc:=(k:Int)+1 } (k:Int) x);have P4:Hid ((BD (BL p.E d) p.E d m { f with pc:=(k:Int)+1 } (k:Int) x).2.2=0->(BD (BL p.E d) p.E d m { f with pc:=(k:Int)+1 } (k:Int) x).1.tz<=300):=λh0=>xqg (xsd p.E d) d X.out.min.tz.2 (f:={ f with pc:=(k:Int)+1 }) h0;have P5:Hid (Mn (BD (BL p.E d) p.E d m { f with pc:=(k:Int)+1 } (k:Int) x).2.1):=xqZ (f:={ f with pc:=(k:Int)+1 }) X.out.gd (k:Int) x
  have P7:Hid ((BD (BL p.E d) p.E d m { f with pc:=(k:Int)+1 } (k:Int) x).2.2=0->(BD (BL p.E d) p.E d m { f with pc:=(k:Int)+1 } (k:Int) x).2.1.stack.length+Cz (BD (BL p.E d) p.E d m { f with pc:=(k:Int)+1 } (k:Int) x).1 (BD (BL p.E d) p.E d m { f with pc:=(k:Int)+1 } (k:Int) x).2.1<=1000000):=λh0=>by
   have:=xnj (Ls p.E d) (E:=p.E) (d:=d) (x:=x) X.out.min.tz.1 (f:=f) (by rw[a1.out];omega) (by rw[a1.out];simpa using ag) (by rw[a1.out];exact h0) X.out.room;rw[a1.out] at this;exact this
  have P6:Hid ((BD (BL p.E d) p.E d m { f with pc:=(k:Int)+1 } (k:Int) x).2.2=0->Cz (BD (BL p.E d) p.E d m { f with pc:=(k:Int)+1 } (k:Int) x).1 (BD (BL p.E d) p.E d m { f with pc:=(k:Int)+1 } (k:Int) x).2.1<Cz m f):=λh0=>by
   have:=xi1 (Ls p.E d) (E:=p.E) (d:=d) (x:=x) X.out.min.tz.1 (f:=f) (by rw[a1.out];omega) (by rw[a1.out];simpa using ag) (by rw[a1.out];exact h0);rw[a1.out] at this;exact this
  clear a9 aw ak ab ad;generalize BD (BL p.E d) p.E d m { f with pc:=(k:Int)+1 } (k:Int) x=r at *;go_wp2_with fail;refine a5.mono ?_;rintro e w3 ⟨rfl,⟨T3,z,⟨W,g3,s3,F⟩,N,Q⟩,q⟩;have a4:=X.out.sz;have ae:w.heap.size<((wr.setCell (O fb 12) (J ((k:Int)+1))).alloc (qE x)).drew.heap.size:=Cd a4 a0.size;have q0:=q.cell (a0.cell X.out.r0 (by rw[X.out.r4];omega)) (by rw[X.out.r4];unfold CF;omega);have q1:=q.cell (a0.cell X.out.r1 (by rw[X.out.r4];omega)) (by rw[X.out.r4];unfold CF;omega);have qf:∀o,w3.frozen? (O w.heap.size o)=false:=λo=>Mw q ae (by rw[X.out.r4];unfold CF;omega) (Mw a0 a4 (by rw[X.out.r4];omega) (X.out.rf o));have aq:=hid (X.out.ext.trans X.out.kp.size (λb hb=>z b (Cd hb a0.size)));have an:=hid ((X.out.kp.trans X.out.ext (a0.mono (S':=CF K) λt h=>by unfold CF;omega)).trans X.out.ext q);have aa:Hid (T3 w.heap.size=4):=by show _=_;rw[z _ ae];exact X.out.r4
  have b1:Hid (w.heap.size<w3.heap.size):=Cd ae q.size;have al:=hid F;have aj:=hid N;have b4:=hid Q;clear a5 z F N Q q a7 Z am i0 i1 i2 i3 i4 ah Y a0 ae;by_cases he:r.2.2=0
  ·have b0:(r.2.2 != 0)=false:=by simpa using he
   have a2:=hid he;rw[if_neg (by simpa using he)] at HV;go_wp2;go_roundg G'
   case measure=>have:=au.out;omega
   case rel=>
    have a6:=aj.out;rw[if_pos a2.out] at a6;have ao:=P1.out;refine⟨T3,r.1,r.2.1,aq.out,an.out,⟨_,_,_,al.out⟩,b4.out a2.out,a6,⟨ao.1.heap,⟨by have:=P2.out;have:=X.out.min.sz_;omega,P2.out.1⟩,⟨by have:=P3.out;have:=X.out.min.tz;omega,P4.out a2.out⟩⟩,ao.2 a2.out,P5.out,P7.out a2.out,?_,HV.out.symm,q0,q1,qf,aa.out,b1.out⟩;have h1:=P6.out a2.out;have h2:=X.out.mu;have h3:=au.out;omega
  have b0:(r.2.2 != 0)=true:=by simpa using he
  have a2:=hid he;rw[if_pos he] at HV;clear he;go_wp2;rw[HV.out];refine Bt (v:=.tuple #[VV BC,J r.2.2]) ?_ rfl ⟨rfl,⟨T3,aq.out,⟨_,_,_,al.out.keep (.refl _ _) (((Kp.refl (λt=>t=4) _ _).set (λ_=>aa.out) _ _).set (λ_=>aa.out) _ _) (by omega) (by omega) (by omega)⟩,?_⟩,(an.out.set (λh=>absurd h (Nat.lt_irrefl _)) _ _).set (λh=>absurd h (Nat.lt_irrefl _)) _ _⟩
  ·simp[results,Tryz.results232,go_sem,q0,q1]
  have a6:=aj.out;rw[if_neg a2.out] at a6 ⊢;exact hC.keep a6 (.refl _ _) (((Kp.refl (λt=>t=4) _ _).set (λ_=>aa.out) _ _).set (λ_=>aa.out) _ _) (by omega) (by omega)
end
section
variable {σ:Type}
def Gs (E:Env σ)(X:QW)(st0:σ)(s:QV)(name:ByteArray)(args:List QV):Mc σ × QV × Int:=
 BL E 20 ⟨X.heap,0,0,st0⟩ (BF X.cz (Ch X.heap s) name).1 (BF X.cz (Ch X.heap s) name).2 s args
def Ny (X:QW)(r:Mc σ × QV × Int):Ran:=if r.2.2≠0 then ⟨X.heap,BC,r.2.2,r.1.sz_⟩ else ⟨r.1.heap,r.2.1,0,r.1.sz_⟩
def DQ (E:Env σ)(X:QW)(st0:σ)(s:QV)(name:ByteArray)(args:List QV)(fuel:Int):Ran × σ:=
 if EY X s name args fuel≠0 then (⟨X.heap,BC,EY X s name args fuel,0⟩,st0) else (Ny X (Gs E X st0 s name args),(Gs E X st0 s name args).1.st)
end
theorem xef (X:QW)(s:QV)(name:ByteArray)(a:List QV)(fuel:Int):(DQ (Ht X fuel) X () s name a fuel).1=Dz X s name a fuel:=by
 unfold DQ Dz;split<;>rfl
theorem Pn {xs:List QC}{c n:Int}{mt:QM}(h:Cp xs c n=some mt):∃(kc kn:Nat) (x:QC),c=(kc:Int)/\n=(kn:Int)/\xs[kc]?=some x/\x.mz[kn]?=some mt:=by
 unfold Cp at h
 cases a:Cy xs c with
 | none=>rw[a] at h;cases h
 | some x=>
  rw[a] at h;obtain⟨k,rfl,b⟩:=Gl a;simp only[Option.bind_some] at h;split at h
  ·exact⟨k,n.toNat,x,rfl,by omega,b,h⟩
  cases h
end Go.Proofs.YtbafokihegegiaaGreatDoor
