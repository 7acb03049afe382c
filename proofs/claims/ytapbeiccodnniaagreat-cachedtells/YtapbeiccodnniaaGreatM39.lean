/- A part. -/
import Derived.Test.YtapbeiccodnniaaGreatM38
import Derived.Deep.RegionWith
namespace Go.Proofs.YtapbeiccodnniaaGreat
open Go.ChangeShapes Go.WideShapes Go.ChangeAt Go.RowKit
set_option linter.unusedSimpArgs false
set_option linter.unusedVariables false
set_option maxHeartbeats 8000000
set_option maxRecDepth 8000
theorem xi7 {p:Rp}(hX:Rx p):∀ d:Nat,d<=20->xoY p d
 | 0,h=>xf2 hX 0 h fun d' e=>by omega
 | d+1,h=>xf2 hX (d+1) h fun d' e=>by
  obtain rfl:d=d':=by omega
  exact xlO hX (xi7 hX d (by omega))
def xci (X:QW)(s:QV)(name:ByteArray)(args:List QV)(fuel:Int):Mc RSt × QV × Int:=
 xa1 (xcK X fuel) 20 ⟨X.heap,0,0,[]⟩ (xaw X.cz (xar X.heap s) name).1 (xaw X.cz (xar X.heap s) name).2 s args
def xf5 (X:QW)(s:QV)(name:ByteArray)(args:List QV)(fuel:Int):RSt:=if xap X s name args fuel≠0 then [] else (xci X s name args fuel).1.st
theorem xoe (X:QW)(s:QV)(name:ByteArray)(args:List QV)(fuel:Int):(xlZ X s name args fuel).1.heap=(xci X s name args fuel).1.heap/\(xlZ X s name args fuel).1.sz_=(xci X s name args fuel).1.sz_/\(xlZ X s name args fuel).2=(xci X s name args fuel).2:=by
 have h:=xfi (Rel:=fun (_:RSt) (_:Unit)=>True) (SOk:=fun _ _=>True) (E:=xcK X fuel) (E':=xcJ X fuel) ⟨rfl,rfl,rfl,fun _ _ _ _ _ _ _=>⟨rfl,trivial⟩,fun _ _ _ _ _ _ _ _=>trivial,fun _ _ _ _ _ _ _ _ _=>trivial⟩ 20 ⟨X.heap,0,0,[]⟩ ⟨X.heap,0,0,()⟩ (xaw X.cz (xar X.heap s) name).1 (xaw X.cz (xar X.heap s) name).2 s args ⟨rfl,rfl,rfl,trivial⟩
 exact⟨h.1.heap,h.1.sz_,h.2⟩
theorem xp6 {α:Type}{E:Lay α}{sz bytes:Nat}{P:Nat->Prop}{w:World}{v:Value}{xs:List α}(h:IsRow E sz bytes P w v xs)(hE:∀ f x,E P w f x->E (fun b=>P b/\b<w.heap.size) w f x/\∃ u,f 0=some u):IsRow E sz bytes (fun b=>P b/\b<w.heap.size) w v xs:=by
 obtain⟨ad,cap,h1,h2,h3,h4,h5⟩:=h;refine⟨ad,cap,h1,h2,h3,h4,fun i x hx=>?_⟩
 obtain⟨b,o,e1,e2,e3⟩:=h5 i x hx;obtain⟨k1,u,k2⟩:=hE _ _ e3
 exact⟨b,o,e1,⟨e2,World.block_lt_of_cell? w _ k2⟩,k1⟩
theorem xrj {P:Nat->Prop}{w:World}{v:Value}{xs:List QI}(h:xa5 P w v xs):xa5 (fun b=>P b/\b<w.heap.size) w v xs:=xp6 h fun f x hx=>⟨hx,_,hx.1⟩
theorem xqP {P:Nat->Prop}{w:World}{v:Value}{xs:List QV}(h:xaB P w v xs):xaB (fun b=>P b/\b<w.heap.size) w v xs:=xp6 h fun f x hx=>⟨hx,_,hx.1⟩
theorem xq4 {P:Nat->Prop}{w:World}{v:Value}{xs:List QM}(h:xbd P w v xs):xbd (fun b=>P b/\b<w.heap.size) w v xs:=xp6 h fun f x hx=>by
 obtain⟨h0,h1,h2,h3,h4,c,h5,h6⟩:=hx
 exact⟨⟨h0,h1,h2,h3,h4,c,h5,xrj h6⟩,_,h0⟩
theorem xpr {P:Nat->Prop}{w:World}{v:Value}{xs:List QC}(h:xai P w v xs):xai (fun b=>P b/\b<w.heap.size) w v xs:=xp6 h fun f x hx=>by
 obtain⟨h0,h1,h2,h3,c,h5,h6⟩:=hx
 exact⟨⟨h0,h1,h2,h3,c,h5,xq4 h6⟩,_,h0⟩
theorem xpK {P:Nat->Prop}{w:World}{v:Value}{xs:List QO}(h:xaC P w v xs):xaC (fun b=>P b/\b<w.heap.size) w v xs:=xp6 h fun f x hx=>by
 obtain⟨h0,c,h5,h6⟩:=hx
 exact⟨⟨h0,c,h5,xqP h6⟩,_,h0⟩
def RuPost (z:Nat)(X:QW)(fuel:Int)(cv0:Value)(w:World)(r:Ran)(st:RSt)(e:Ending)(w':World):Prop:=
 Below w.heap.size w w'/\∃ cv hv T m deep err hv' sv ov,e=.returned (.tuple #[WV cv hv X.ez,RnV r,.pointer (some ⟨w.heap.size+4,0,none⟩)])/\xai (fun b=>b≠z) w' cv X.cz/\xaC (fun b=>b≠z) w' hv r.heap/\RMac ⟨X,fuel,cv0⟩ T w' (w.heap.size+4) m deep err hv' sv ov/\m.st=st/\T z=4
theorem xkX {U:World}{b o b':Nat}{v u0 u1 u2:Value}(h:U.cell? ⟨b,o,none⟩=some v)(hne:b≠b'):(((U.setCell ⟨b',0,none⟩ u0).setCell ⟨b',1,none⟩ u1).setCell ⟨b',2,none⟩ u2).cell? ⟨b,o,none⟩=some v:=
 (qzI _ _ _ _ (by simp;omega)).trans ((qzI _ _ _ _ (by simp;omega)).trans ((qzI _ _ _ _ (by simp;omega)).trans h))
theorem RuPost.fin {z:Nat}{X:QW}{fuel:Int}{cv0:Value}{w V:World}{r:Ran}{st:RSt}{cv hv hv' sv ov:Value}{P:Nat->Prop}{T:Nat->Nat}{m:Mc RSt}{deep err:Int}(hb:Below w.heap.size w V)(hC:xai P V cv X.cz)(hH:xaC P V hv r.heap)(hPz:∀ b,P b->b≠z)(h2:¬ P (w.heap.size+2))(h3:¬ P (w.heap.size+3))(hM:RMac ⟨X,fuel,cv0⟩ T V (w.heap.size+4) m deep err hv' sv ov)(hst:m.st=st)(t2:T (w.heap.size+2)=4)(t3:T (w.heap.size+3)=4)(tz:T z=4)(u0 u1 u2 v0 v1 v2 v3:Value) :
  RuPost z X fuel cv0 w r st (.returned (.tuple #[WV cv hv X.ez,RnV r,.pointer (some ⟨w.heap.size+4,0,none⟩)])) (((((((V.setCell ⟨w.heap.size+2,0,none⟩ u0).setCell ⟨w.heap.size+2,1,none⟩ u1).setCell ⟨w.heap.size+2,2,none⟩ u2).setCell ⟨w.heap.size+3,0,none⟩ v0).setCell ⟨w.heap.size+3,1,none⟩ v1).setCell ⟨w.heap.size+3,2,none⟩ v2).setCell ⟨w.heap.size+3,3,none⟩ v3):=by
 have k:Keeps P V (((((((V.setCell ⟨w.heap.size+2,0,none⟩ u0).setCell ⟨w.heap.size+2,1,none⟩ u1).setCell ⟨w.heap.size+2,2,none⟩ u2).setCell ⟨w.heap.size+3,0,none⟩ v0).setCell ⟨w.heap.size+3,1,none⟩ v1).setCell ⟨w.heap.size+3,2,none⟩ v2).setCell ⟨w.heap.size+3,3,none⟩ v3):=xaq (xaq (xaq (xaq (xaq (xaq (xaq (Keeps.refl _ _) h2 _) h2 _) h2 _) h3 _) h3 _) h3 _) h3 _;have k4:Kp (fun t=>t=4) T V (((((((V.setCell ⟨w.heap.size+2,0,none⟩ u0).setCell ⟨w.heap.size+2,1,none⟩ u1).setCell ⟨w.heap.size+2,2,none⟩ u2).setCell ⟨w.heap.size+3,0,none⟩ v0).setCell ⟨w.heap.size+3,1,none⟩ v1).setCell ⟨w.heap.size+3,2,none⟩ v2).setCell ⟨w.heap.size+3,3,none⟩ v3):=(((((((Kp.refl _ _ _).set (fun _=>t2) _ _).set (fun _=>t2) _ _).set (fun _=>t2) _ _).set (fun _=>t3) _ _).set (fun _=>t3) _ _).set (fun _=>t3) _ _).set (fun _=>t3) _ _
 refine⟨((((((hb.setCell (by simp) _).setCell (by simp) _).setCell (by simp) _).setCell (by simp) _).setCell (by simp) _).setCell (by simp) _).setCell (by simp) _,cv,hv,T,m,deep,err,hv',sv,ov,rfl,hC.keep xaz k hPz,hH.keep xaD k hPz,hM.keep (.refl _ _) k4 (by omega) (by omega) (by omega) (by omega),hst,tz⟩
theorem RuPost.drew {z:Nat}{X:QW}{fuel:Int}{cv0:Value}{w w':World}{r:Ran}{st:RSt}{e:Ending}(h:RuPost z X fuel cv0 w r st e w'):RuPost z X fuel cv0 w r st e w'.drew:=by
 obtain⟨hb,cv,hv,T,m,deep,err,hv',sv,ov,h1,h2,h3,h4,h5⟩:=h
 exact⟨hb.drew,cv,hv,T,m,deep,err,hv',sv,ov,h1,h2.later xaz (qzL _ _).drew,h3.later xaD (qzL _ _).drew,h4.later (qzL _ _).drew,h5⟩
def xlv (z n:Nat):Nat->Nat:=fun x=>if x<n then (if x=z then 4 else 0) else if x=n+4 then 1 else 4
theorem xgA {z n x:Nat}(h:x<n)(hz:x≠z):xlv z n x=0:=by simp[xlv,h,hz]
theorem xqI {z n:Nat}(h:z<n):xlv z n z=4:=by simp[xlv,h]
theorem xre {z n x:Nat}(h:x<n):xlv z n x=0\/xlv z n x=4:=by unfold xlv;rw[if_pos h];split<;>simp
theorem xnl (z n:Nat):xlv z n (n+4)=1:=by unfold xlv;rw[if_neg (by omega),if_pos rfl]
theorem xnI {z n x:Nat}(h:n<=x)(h4:x≠n+4):xlv z n x=4:=by simp[xlv,h4];omega
theorem xjs {z:Nat}{X:QW}{fuel:Int}{cv hv:Value}{w W:World}(hC:xai (fun b=>b≠z) w cv X.cz)(hH:xaC (fun b=>b≠z) w hv X.heap)(hb:Below w.heap.size w W)(hbox:W.heap[w.heap.size+4]?=some (.cells #[cv,hv,.int .i64 X.ez,.int .i64 fuel,.int .i64 0,.int .i64 0,.int .i64 0,.int .i64 0,.slice none 0 0,.slice none 0 0] 89 (0,0))):RMac ⟨X,fuel,cv⟩ (xlv z w.heap.size) W (w.heap.size+4) ⟨X.heap,0,0,[]⟩ 0 0 hv (.slice none 0 0) (.slice none 0 0):=by
 have hs:=hb.size;refine⟨hbox,xnl _ _,((xpr hC).later xaz hb).mono xaz fun b hb=>⟨by omega,xgA hb.2 hb.1⟩,((xpK hH).later xaD hb).mono xaD fun b hb=>⟨by omega,xgA hb.2 hb.1⟩,⟨rfl,Or.inl ⟨rfl,rfl⟩⟩,fun g hg=>(by cases hg),⟨rfl,Or.inl ⟨rfl,rfl⟩⟩,fun g hg=>(by cases hg)⟩
theorem xms (z:Nat)(X:QW)(hX:xaJ X=0)(s:QV)(name:ByteArray)(args:List QV)(fuel:Int)(cv hv av:Value)(w:World)(hzz:z<w.heap.size)(hC:xai (fun b=>b≠z) w cv X.cz)(hH:xaC (fun b=>b≠z) w hv X.heap)(hA:xaB (fun b=>b≠z) w av args)(hn:name.size<=140737488351232) :
  Calls Tryz.prog 13 #[WV cv hv X.ez,ClV s name av,.int .i64 fuel] w fun e w'=>RuPost z X fuel cv w (xcI X s name args fuel) (xf5 X s name args fuel) e w':=by
 obtain⟨ac,cc,rfl,-,-,hby,-⟩:=id hC;obtain⟨ah,ch,rfl,-,-,hbyh,-⟩:=id hH;obtain⟨aa,ca,rfl,-⟩:=id hA;have hR0:=(xka w (.slice ac X.cz.length cc) (.slice ah X.heap.length ch) X.ez s name (.slice aa args.length ca)).later (xaj _ (.cells #[.slice ac X.cz.length cc,.slice ah X.heap.length ch,.int .i64 X.ez,.int .i64 fuel,.int .i64 0,.int .i64 0,.int .i64 0,.int .i64 0,.slice none 0 0,.slice none 0 0] 89));have hB0:Below w.heap.size w (((((w.alloc (.cells #[.slice ac X.cz.length cc,.slice ah X.heap.length ch,.int .i64 X.ez] 25)).alloc (.cells #[.int .i64 s.k,.int .i64 s.n,.string name,.slice aa args.length ca] 30)).alloc (.cells #[.slice none 0 0,.slice none 0 0,.int .i64 0] 25)).alloc (.cells #[.int .i64 0,.int .i64 0,.int .i64 0,.int .i64 0] 37)).alloc (.cells #[.slice ac X.cz.length cc,.slice ah X.heap.length ch,.int .i64 X.ez,.int .i64 fuel,.int .i64 0,.int .i64 0,.int .i64 0,.int .i64 0,.slice none 0 0,.slice none 0 0] 89)):=xah (xah (xca _ _ _) (xca _ _ _)) (xaj _ _)
 have hbx0:(((((w.alloc (.cells #[.slice ac X.cz.length cc,.slice ah X.heap.length ch,.int .i64 X.ez] 25)).alloc (.cells #[.int .i64 s.k,.int .i64 s.n,.string name,.slice aa args.length ca] 30)).alloc (.cells #[.slice none 0 0,.slice none 0 0,.int .i64 0] 25)).alloc (.cells #[.int .i64 0,.int .i64 0,.int .i64 0,.int .i64 0] 37)).alloc (.cells #[.slice ac X.cz.length cc,.slice ah X.heap.length ch,.int .i64 X.ez,.int .i64 fuel,.int .i64 0,.int .i64 0,.int .i64 0,.int .i64 0,.slice none 0 0,.slice none 0 0] 89)).heap[w.heap.size+4]?=some (.cells #[.slice ac X.cz.length cc,.slice ah X.heap.length ch,.int .i64 X.ez,.int .i64 fuel,.int .i64 0,.int .i64 0,.int .i64 0,.int .i64 0,.slice none 0 0,.slice none 0 0] 89 (0,0)):=by
  have:=qzJ ((((w.alloc (.cells #[.slice ac X.cz.length cc,.slice ah X.heap.length ch,.int .i64 X.ez] 25)).alloc (.cells #[.int .i64 s.k,.int .i64 s.n,.string name,.slice aa args.length ca] 30)).alloc (.cells #[.slice none 0 0,.slice none 0 0,.int .i64 0] 25)).alloc (.cells #[.int .i64 0,.int .i64 0,.int .i64 0,.int .i64 0] 37)) (.cells #[.slice ac X.cz.length cc,.slice ah X.heap.length ch,.int .i64 X.ez,.int .i64 fuel,.int .i64 0,.int .i64 0,.int .i64 0,.int .i64 0,.slice none 0 0,.slice none 0 0] 89)
  simpa using this
 go_enter Tryz.func13,Tryz.ntmps13
 go_upto_region 2 with (fail)
 simp only[Nat.add_assoc,Nat.reduceAdd] at *;generalize (((((w.alloc (.cells #[.slice ac X.cz.length cc,.slice ah X.heap.length ch,.int .i64 X.ez] 25)).alloc (.cells #[.int .i64 s.k,.int .i64 s.n,.string name,.slice aa args.length ca] 30)).alloc (.cells #[.slice none 0 0,.slice none 0 0,.int .i64 0] 25)).alloc (.cells #[.int .i64 0,.int .i64 0,.int .i64 0,.int .i64 0] 37)).alloc (.cells #[.slice ac X.cz.length cc,.slice ah X.heap.length ch,.int .i64 X.ez,.int .i64 fuel,.int .i64 0,.int .i64 0,.int .i64 0,.int .i64 0,.slice none 0 0,.slice none 0 0] 89))=W at *;obtain⟨n0,n1,n2,m0,m1,m2,m3⟩:=And.intro hR0.w0 (And.intro hR0.w1 (And.intro hR0.w2 (And.intro hR0.c0 (And.intro hR0.c1 (And.intro hR0.c2 hR0.c3)))))
 go_wp2_with fail;refine (xfy X s name args fuel _ _ _ W ⟨_,_,_,rfl⟩ (hH.later xaD hB0) (hA.later xaK hB0) hn).mono ?_;rintro e w1 ⟨rfl,hb1⟩;have hR1:=hR0.later hb1;have hB1:=xah hB0 hb1;have hM1:=(xjs hC hH hB0 hbx0).later hb1;clear n0 n1 n2 m0 m1 m2 m3 hR0 hB0 hbx0 hb1;have t0:∀ i,i<4->xlv z w.heap.size (w.heap.size+i)=4:=fun i hi=>xnI (by omega) (by omega)
 by_cases hw:xap X s name args fuel=0
 ·have HPl:Hid (xcI X s name args fuel=if (xci X s name args fuel).2.2≠0 then ⟨X.heap,xaU,(xci X s name args fuel).2.2,(xci X s name args fuel).1.sz_⟩ else ⟨(xci X s name args fuel).1.heap,(xci X s name args fuel).2.1,0,(xci X s name args fuel).1.sz_⟩):=by
   show _=_
   obtain⟨q1,q2,q3⟩:=xoe X s name args fuel;unfold xcI;rw[if_neg (by simpa using hw),q1,q2,q3]
  have HSt:Hid (xf5 X s name args fuel=(xci X s name args fuel).1.st):=by show _=_;unfold xf5;rw[if_neg (by simpa using hw)]
  obtain⟨hfu,hws,hwa⟩:=xcH hw;have hRx:Rx ⟨X,fuel,.slice ac X.cz.length cc⟩:=⟨hX,hfu⟩
  have HMi:Hid (MIn (Rp.E ⟨X,fuel,.slice ac X.cz.length cc⟩) ⟨X.heap,0,0,[]⟩):=by
   have he:=xdz hX
   exact⟨he,⟨Int.le_refl _,hfu.1⟩,⟨Int.le_refl _,by show (0:Int)<=300;omega⟩⟩
  have HX:=hid (And.intro hRx (And.intro hws hwa));rw[hw];clear hw hws hwa hfu
  go_upto_region 5 with (fail)
  have hSl:∀ w',Below w1.heap.size w1 w'->w'.cell? ⟨w.heap.size,0,none⟩=some (.slice ac X.cz.length cc)/\w'.cell? ⟨w.heap.size,1,none⟩=some (.slice ah X.heap.length ch)/\w'.cell? ⟨w.heap.size,2,none⟩=some (.int .i64 X.ez)/\w'.cell? ⟨w.heap.size+1,0,none⟩=some (.int .i64 s.k)/\w'.cell? ⟨w.heap.size+1,1,none⟩=some (.int .i64 s.n)/\w'.cell? ⟨w.heap.size+1,2,none⟩=some (.string name):=fun w' hb=>by
   have h:=hR1.later hb
   exact⟨h.w0,h.w1,h.w2,h.c0,h.c1,h.c2⟩
  have hS0:=hSl _ (qzL _ w1).drew;refine xaY (S:=fun w'=>w'.cell? ⟨w.heap.size,0,none⟩=some (.slice ac X.cz.length cc)/\w'.cell? ⟨w.heap.size,1,none⟩=some (.slice ah X.heap.length ch)/\w'.cell? ⟨w.heap.size,2,none⟩=some (.int .i64 X.ez)/\w'.cell? ⟨w.heap.size+1,0,none⟩=some (.int .i64 s.k)/\w'.cell? ⟨w.heap.size+1,1,none⟩=some (.int .i64 s.n)/\w'.cell? ⟨w.heap.size+1,2,none⟩=some (.string name)) [] (by kernel_rfl) ?_
  refine tj 0 (⟨some 29,.load 25 (.tmp 3),25,_,_,none⟩) (WV (.slice ac X.cz.length cc) (.slice ah X.heap.length ch) X.ez) (hS0) ?_ ?_
  ·rintro w⟨q0,q1,q2,q3,q4,q5⟩;go_simp
  try simp only[Act.put,qzF,qzG,qzH]
  refine tj 1 (⟨some 30,.fieldAddr 25 (.tmp 3) 1,0,_,_,none⟩) (.pointer (some ⟨w.heap.size,1,none⟩)) (hS0) ?_ ?_
  ·rintro w⟨q0,q1,q2,q3,q4,q5⟩;go_simp
  try simp only[Act.put,qzF,qzG,qzH]
  refine tj 2 (⟨some 31,.load 23 (.tmp 30),23,_,_,none⟩) (.slice ah X.heap.length ch) (hS0) ?_ ?_
  ·rintro w⟨q0,q1,q2,q3,q4,q5⟩;go_simp
  try simp only[Act.put,qzF,qzG,qzH]
  refine tj 3 (⟨some 32,.fieldAddr 30 (.tmp 4) 0,0,_,_,none⟩) (.pointer (some ⟨w.heap.size+1,0,none⟩)) (hS0) ?_ ?_
  ·rintro w⟨q0,q1,q2,q3,q4,q5⟩;go_simp
  try simp only[Act.put,qzF,qzG,qzH]
  refine tj 4 (⟨some 33,.load 27 (.tmp 32),27,_,_,none⟩) (VV s) (hS0) ?_ ?_
  ·rintro w⟨q0,q1,q2,q3,q4,q5⟩;go_simp
  try simp only[Act.put,qzF,qzG,qzH]
  refine tj 6 (⟨some 35,.fieldAddr 30 (.tmp 4) 1,0,_,_,none⟩) (.pointer (some ⟨w.heap.size+1,2,none⟩)) (hS0) ?_ ?_
  ·rintro w⟨q0,q1,q2,q3,q4,q5⟩;go_simp
  try simp only[Act.put,qzF,qzG,qzH]
  refine tj 7 (⟨some 36,.load 9 (.tmp 35),9,_,_,none⟩) (.string name) (hS0) ?_ ?_
  ·rintro w⟨q0,q1,q2,q3,q4,q5⟩;go_simp
  try simp only[Act.put,qzF,qzG,qzH]
  refine xag (rs:=[5]) (by kernel_rfl) (by simp) ?_
  intro i hi;simp only[List.mem_cons,List.not_mem_nil,or_false] at hi;subst hi;refine xa6 (o:=⟨some 34,.call ⟨.value (.func 34),#[.tmp 31,.tmp 33],#[23,27]⟩,3,_,_,none⟩) rfl (fun K' hK=>?_)
  refine xbv rfl 34 (.func 34) #[.tmp 31,.tmp 33] _ rfl #[] rfl #[.slice ah X.heap.length ch,VV s] (by simp[Act.eval,Act.put]) (cf23 _ _) ?_
  refine (show Calls Tryz.prog 34 #[.slice ah X.heap.length ch,VV s] w1.drew _ from (xf1 X.heap _ s w1.drew (hH.later xaD (xah hB1 (qzL _ w1).drew))).mono ?_)
  rintro e w2 ⟨rfl,hb2⟩;refine⟨_,rfl,?_⟩;have hb12:Below w1.heap.size w1 w2:=xah (qzL _ w1).drew hb2;refine hK _ _ (fun _=>?_) ?_
  ·exact hSl _ hb12
  clear hK K'
  try simp only[Act.put,qzF,qzG,qzH]
  refine xag (rs:=[8]) (by kernel_rfl) (by simp) ?_
  intro i hi;simp only[List.mem_cons,List.not_mem_nil,or_false] at hi;subst hi;refine xa6 (o:=⟨some 37,.call ⟨.value (.func 19),#[.tmp 29,.tmp 34,.tmp 36],#[25,3,9]⟩,73,_,_,none⟩) rfl (fun K' hK=>?_)
  refine xbv rfl 19 (.func 19) #[.tmp 29,.tmp 34,.tmp 36] _ rfl #[] rfl #[WV (.slice ac X.cz.length cc) (.slice ah X.heap.length ch) X.ez,.int .i64 (xar X.heap s),.string name] (by simp[Act.eval,Act.put]) (cf22 _ _) ?_
  refine (show Calls Tryz.prog 19 #[WV (.slice ac X.cz.length cc) (.slice ah X.heap.length ch) X.ez,.int .i64 (xar X.heap s),.string name] w2 _ from (xhs X (xar X.heap s) name _ _ w2 (hC.later xaz (xah hB1 hb12)) (hH.later xaD (xah hB1 hb12))).mono ?_)
  rintro e w3 ⟨rfl,hb3⟩;refine⟨_,rfl,?_⟩;have hb13:Below w1.heap.size w1 w3:=xah hb12 hb3;obtain⟨fc,fj,hf⟩:∃ fc fj,xaw X.cz (xar X.heap s) name=(fc,fj):=⟨_,_,rfl⟩;rw[hf];refine hK _ _ (fun _=>?_) ?_
  ·exact hSl _ hb13
  clear hK K'
  try simp only[Act.put,qzF,qzG,qzH]
  refine tj 9 (⟨some 28,.move (.tmp 37),73,_,_,none⟩) (.tuple #[.int .i64 fc,.int .i64 fj]) (hSl _ hb13) ?_ ?_
  ·rintro w⟨q0,q1,q2,q3,q4,q5⟩;go_simp
  try simp only[Act.put,qzF,qzG,qzH]
  refine tj 10 (⟨some 38,.extract (.tmp 28) 0,3,_,_,none⟩) (.int .i64 fc) (hSl _ hb13) ?_ ?_
  ·rintro w⟨q0,q1,q2,q3,q4,q5⟩;go_simp
  try simp only[Act.put,qzF,qzG,qzH]
  refine tj 11 (⟨some 39,.extract (.tmp 28) 1,3,_,_,none⟩) (.int .i64 fj) (hSl _ hb13) ?_ ?_
  ·rintro w⟨q0,q1,q2,q3,q4,q5⟩;go_simp
  try simp only[Act.put,qzF,qzG,qzH]
  refine tj 12 (⟨some 11,.assign (.tmp 38),3,_,_,none⟩) (.int .i64 fc) (hSl _ hb13) ?_ ?_
  ·rintro w⟨q0,q1,q2,q3,q4,q5⟩;go_simp
  try simp only[Act.put,qzF,qzG,qzH]
  refine tj 13 (⟨some 12,.assign (.tmp 39),3,_,_,none⟩) (.int .i64 fj) (hSl _ hb13) ?_ ?_
  ·rintro w⟨q0,q1,q2,q3,q4,q5⟩;go_simp
  try simp only[Act.put,qzF,qzG,qzH]
  refine xa0 (by kernel_rfl) ?_ _
  try simp only[Act.put,qzF,qzG,qzH]
  replace hR1:=hR1.later hb13;replace hM1:=hM1.later hb13;replace hB1:=xah hB1 hb13;have HRu:Hid (xci X s name args fuel=xa1 (Rp.E ⟨X,fuel,.slice ac X.cz.length cc⟩) 20 ⟨X.heap,0,0,[]⟩ fc fj s args):=by show _=_;unfold xci;rw[hf]
  have hfm:0<=fj->∃ mt,xaO X.cz fc fj=some mt:=fun h=>by have:=xgO (xs:=X.cz) (k:=xar X.heap s) (name:=name) (by rw[hf];exact h);rw[hf] at this;exact this
  have HFn:Hid (¬ 0<=fj->xci X s name args fuel=(⟨X.heap,0,0,[]⟩,xaU,10)):=fun h=>by
   unfold xci;have h2:¬ 0<=(xaw (Rp.X ⟨X,fuel,.slice ac X.cz.length cc⟩).cz (xar X.heap s) (QI.mk 0 0 0 0 name).name).2:=by show ¬ 0<=(xaw X.cz (xar X.heap s) name).2;rw[hf];exact h
   exact xiF (p:=⟨X,fuel,.slice ac X.cz.length cc⟩) (x:=QI.mk 0 0 0 0 name) (d:=20) h2
  have HA:=hid (hA.later xaK hB1);clear hb12 hb13 hb2 hb3 hSl hS0 hf
  by_cases hj:0<=fj
  ·obtain⟨mt,hmt⟩:=hfm hj;have hj':¬ (fj<0):=by omega
   have HMt:=hid hmt;clear hfm HFn hmt hj;obtain⟨r,hr⟩:∃ r,xci X s name args fuel=r:=⟨_,rfl⟩;rw[hr] at HPl HSt HRu;have hAF:xaB (Fx (xlv z w.heap.size) w3) w3 (.slice aa args.length ca) args:=((xqP hA).later xaK hB1).mono xaK fun b hb=>⟨by have:=hB1.size;have:=hb.2;omega,xgA hb.2 hb.1⟩
   obtain⟨n0,n1,n2,m0,m1,m2,m3⟩:=And.intro hR1.w0 (And.intro hR1.w1 (And.intro hR1.w2 (And.intro hR1.c0 (And.intro hR1.c1 (And.intro hR1.c2 hR1.c3)))));go_wp2_with fail;refine (show Calls Tryz.prog 35 #[.pointer (some ⟨w.heap.size+4,0,none⟩),.int .i64 fc,.int .i64 fj,VV s,.slice aa args.length ca] w3 _ from (xi7 HX.out.1 20 (qzC _) 5 (xlv z w.heap.size) w3 (w.heap.size+4) ⟨X.heap,0,0,[]⟩ _ _ _ fc fj s args _ mt (qzC _) hM1 HMi.out (by unfold xmP;simp) HX.out.2.1 HX.out.2.2 hAF HMt.out).mono ?_)
   rw[← HRu.out];rintro e w5 ⟨rfl,⟨T5,hv5,sv5,ov5,hE5,hM5⟩,hK5⟩;dsimp only;have hR5:=hR1.kp hK5 (fun i hi=>by rw[t0 i hi];unfold All;omega)
   have hB5:Below w.heap.size w w5:=hB1.trans (hK5.below (fun b hb=>by rcases xre (z:=z) hb with h | h<;>rw[h]<;>unfold All<;>omega) hB1.size)
   have hz:=hR1.sz;have t52:T5 (w.heap.size+2)=4:=by rw[hE5 _ (by omega)];exact t0 2 (by omega)
   have t53:T5 (w.heap.size+3)=4:=by rw[hE5 _ (by omega)];exact t0 3 (by omega)
   have t5z:T5 z=4:=by rw[hE5 _ (by omega)];exact xqI hzz
   have hCw:=(xpr hC).later xaz (xah hB5 (xaj w5 (.cells #[.int .i64 r.2.1.k,.int .i64 r.2.1.n] 27)));have hHw:=(xpK hH).later xaD (xah hB5 (xaj w5 (.cells #[.int .i64 r.2.1.k,.int .i64 r.2.1.n] 27)));have y0:(w5.alloc (.cells #[.int .i64 r.2.1.k,.int .i64 r.2.1.n] 27)).cell? ⟨w5.heap.size,0,none⟩=some (.int .i64 r.2.1.k):=xaa _ _ _ _ rfl 0;have y1:(w5.alloc (.cells #[.int .i64 r.2.1.k,.int .i64 r.2.1.n] 27)).cell? ⟨w5.heap.size,1,none⟩=some (.int .i64 r.2.1.n):=xaa _ _ _ _ rfl 1;replace hR5:=hR5.later (xaj w5 (.cells #[.int .i64 r.2.1.k,.int .i64 r.2.1.n] 27));replace hM5:=hM5.later (xaj w5 (.cells #[.int .i64 r.2.1.k,.int .i64 r.2.1.n] 27))
   replace hB5:=xah hB5 (xaj w5 (.cells #[.int .i64 r.2.1.k,.int .i64 r.2.1.n] 27));have hvl:w.heap.size+4<w5.heap.size:=qzE (xaf hM1.box) hK5.size;clear n0 n1 n2 m0 m1 m2 m3 hK5 hE5 hR1 hM1 hAF
   go_upto_region 9 with (fail)
   generalize (w5.alloc (.cells #[.int .i64 r.2.1.k,.int .i64 r.2.1.n] 27))=V at *;generalize w5.heap.size=vb at *;have c7:=hM5.c7;obtain⟨a5,c5,rfl,-⟩:=id hM5.heap
   by_cases h0:r.2.2=0
   ·rw[if_neg (by omega)] at HPl
    have HQ:=hid fun u0 u1 u2 v0 v1 v2 v3=>RuPost.fin (z:=z) (P:=Fx T5 V) (r:=⟨r.1.heap,r.2.1,0,r.1.sz_⟩) hB5 hM5.cls hM5.heap (fun b h e=>by have:=h.2;rw[e] at this;omega) (fun h=>by have:=h.2;omega) (fun h=>by have:=h.2;omega) hM5 HSt.out.symm t52 t53 t5z u0 u1 u2 v0 v1 v2 v3
    rw[h0] at c7;obtain⟨-,-,-,-,-,-,-,a0,a1,a2,af,b0,b1,b2,b3,bf,-⟩:=id hR5
    have hSl:∀ w',Below V.heap.size V w'->w'.cell? ⟨w.heap.size+4,0,none⟩=some (.slice ac X.cz.length cc)/\w'.cell? ⟨w.heap.size+4,1,none⟩=some (.slice a5 r.1.heap.length c5)/\w'.cell? ⟨w.heap.size+4,2,none⟩=some (.int .i64 X.ez)/\w'.cell? ⟨vb,0,none⟩=some (.int .i64 r.2.1.k)/\w'.cell? ⟨vb,1,none⟩=some (.int .i64 r.2.1.n)/\w'.cell? ⟨w.heap.size+4,4,none⟩=some (.int .i64 r.1.sz_):=fun w' hb=>by
     have h:=hM5.later hb
     exact⟨h.c0,h.c1,h.c2,qzA hb y0,qzA hb y1,h.c4⟩
    have hS0:=hSl _ (qzL _ V).drew;clear h0
    go_upto_region 11 with (fail)
    refine xaY (S:=fun _=>True) [] (by kernel_rfl) ?_
    refine tj 10 (⟨some 79,.move (.tmp 9),47,_,_,none⟩) (.pointer (some ⟨w.heap.size+4,0,none⟩)) (trivial) ?_ ?_
    ·intro w hSw;obtain _h:=hSw;go_simp
    try simp only[Act.put,qzF,qzG,qzH]
    refine xc6 (S:=fun w'=>w'.cell? ⟨w.heap.size+4,0,none⟩=some (.slice ac X.cz.length cc)/\w'.cell? ⟨w.heap.size+4,1,none⟩=some (.slice a5 r.1.heap.length c5)/\w'.cell? ⟨w.heap.size+4,2,none⟩=some (.int .i64 X.ez)/\w'.cell? ⟨vb,0,none⟩=some (.int .i64 r.2.1.k)/\w'.cell? ⟨vb,1,none⟩=some (.int .i64 r.2.1.n)/\w'.cell? ⟨w.heap.size+4,4,none⟩=some (.int .i64 r.1.sz_)) (late:=[12,13]) _ _ _ _ ?_
    refine tj 0 (⟨some 69,.move (.tmp 9),47,_,_,none⟩) (.pointer (some ⟨w.heap.size+4,0,none⟩)) (hS0) ?_ ?_
    ·rintro w⟨q0,q1,q2,q3,q4,q5⟩;go_simp
    try simp only[Act.put,qzF,qzG,qzH]
    refine tj 1 (⟨some 70,.nilCheck (.tmp 69),0,_,_,none⟩) (.pointer (some ⟨w.heap.size+4,0,none⟩)) (hS0) ?_ ?_
    ·rintro w⟨q0,q1,q2,q3,q4,q5⟩;go_simp
    try simp only[Act.put,qzF,qzG,qzH]
    refine tj 2 (⟨some 71,.fieldAddr 89 (.tmp 70) 0,0,_,_,none⟩) (.pointer (some ⟨w.heap.size+4,0,none⟩)) (hS0) ?_ ?_
    ·rintro w⟨q0,q1,q2,q3,q4,q5⟩;go_simp
    try simp only[Act.put,qzF,qzG,qzH]
    refine tj 3 (⟨some 72,.load 25 (.tmp 71),25,_,_,none⟩) (WV (.slice ac X.cz.length cc) (.slice a5 r.1.heap.length c5) X.ez) (hS0) ?_ ?_
    ·rintro w⟨q0,q1,q2,q3,q4,q5⟩;go_simp
    try simp only[Act.put,qzF,qzG,qzH]
    refine tj 4 (⟨some 73,.load 27 (.tmp 13),27,_,_,none⟩) (VV r.2.1) (hS0) ?_ ?_
    ·rintro w⟨q0,q1,q2,q3,q4,q5⟩;go_simp
    try simp only[Act.put,qzF,qzG,qzH]
    refine tj 5 (⟨some 74,.move (.tmp 9),47,_,_,none⟩) (.pointer (some ⟨w.heap.size+4,0,none⟩)) (hS0) ?_ ?_
    ·rintro w⟨q0,q1,q2,q3,q4,q5⟩;go_simp
    try simp only[Act.put,qzF,qzG,qzH]
    refine tj 6 (⟨some 75,.nilCheck (.tmp 74),0,_,_,none⟩) (.pointer (some ⟨w.heap.size+4,0,none⟩)) (hS0) ?_ ?_
    ·rintro w⟨q0,q1,q2,q3,q4,q5⟩;go_simp
    try simp only[Act.put,qzF,qzG,qzH]
    refine tj 7 (⟨some 76,.fieldAddr 89 (.tmp 75) 2,0,_,_,none⟩) (.pointer (some ⟨w.heap.size+4,4,none⟩)) (hS0) ?_ ?_
    ·rintro w⟨q0,q1,q2,q3,q4,q5⟩;go_simp
    try simp only[Act.put,qzF,qzG,qzH]
    refine tj 8 (⟨some 77,.load 3 (.tmp 76),3,_,_,none⟩) (.int .i64 r.1.sz_) (hS0) ?_ ?_
    ·rintro w⟨q0,q1,q2,q3,q4,q5⟩;go_simp
    try simp only[Act.put,qzF,qzG,qzH]
    refine tj 9 (⟨some 78,.build 37 #[(0,.tmp 73),(2,.tmp 77)],37,_,_,none⟩) (.agg #[.int .i64 r.2.1.k,.int .i64 r.2.1.n,.int .i64 0,.int .i64 r.1.sz_]) (hS0) ?_ ?_
    ·rintro w⟨q0,q1,q2,q3,q4,q5⟩;go_simp
    try simp only[Act.put,qzF,qzG,qzH]
    obtain⟨z0,z1,z2,z3,z4,z5⟩:=hSl _ (qzL _ V).drew;refine xag (rs:=[11]) (by kernel_rfl) (by simp) ?_
    intro i hi;simp only[List.mem_cons,List.not_mem_nil,or_false] at hi;subst hi;refine xa6 (o:=⟨none,.store 25 (.tmp 6) (.tmp 72),0,_,_,none⟩) rfl (fun K' hK=>?_)
    go_simp;refine hK _ _ (fun _=>?_) ?_
    ·exact⟨xkX z0 (by omega),xkX z1 (by omega),xkX z2 (by omega),xkX z3 (by omega),xkX z4 (by omega),xkX z5 (by omega)⟩
    clear hK K'
    try simp only[Act.put,qzF,qzG,qzH]
    refine xag (rs:=[12]) (by kernel_rfl) (by simp) ?_
    intro i hi;simp only[List.mem_cons,List.not_mem_nil,or_false] at hi;subst hi;refine xa6 (o:=⟨none,.store 37 (.tmp 7) (.tmp 78),0,_,_,none⟩) rfl (fun K' hK=>?_)
    go_simp;refine hK _ _ (fun h=>absurd h (by decide)) ?_
    clear hK K'
    try simp only[Act.put,qzF,qzG,qzH]
    refine xcz (S':=fun _=>True) (late':=[]) (by kernel_rfl) ?_
    refine tj 13 (⟨some 8,.assign (.tmp 79),47,_,_,none⟩) (.pointer (some ⟨w.heap.size+4,0,none⟩)) (trivial) ?_ ?_
    ·intro w hSw;obtain _h:=hSw;go_simp
    try simp only[Act.put,qzF,qzG,qzH]
    refine xa0 (by kernel_rfl) ?_ _
    try simp only[Act.put,qzF,qzG,qzH]
    go_wp2;rw[HPl.out];refine qzK (v:=.tuple #[WV (.slice ac X.cz.length cc) (.slice a5 r.1.heap.length c5) X.ez,RnV ⟨r.1.heap,r.2.1,0,r.1.sz_⟩,.pointer (some ⟨w.heap.size+4,0,none⟩)]) ?_ rfl (HQ.out _ _ _ _ _ _ _).drew
    simp[results,Tryz.results13,go_sem,a0,a1,a2,b0,b1,b2,b3]
   ·rw[if_pos h0] at HPl;have HQ:=hid fun u0 u1 u2 v0 v1 v2 v3=>RuPost.fin (z:=z) (P:=fun b=>b≠z/\b<w.heap.size) (r:=⟨X.heap,xaU,r.2.2,r.1.sz_⟩) hB5 hCw hHw (fun _ h=>h.1) (by omega) (by omega) hM5 HSt.out.symm t52 t53 t5z u0 u1 u2 v0 v1 v2 v3
    have h0':(r.2.2 == 0)=false:=by simpa using h0
    obtain⟨-,-,-,-,-,-,-,a0,a1,a2,af,b0,b1,b2,b3,bf,-⟩:=id hR5
    have hSl:∀ w',Below V.heap.size V w'->w'.cell? ⟨w.heap.size,0,none⟩=some (.slice ac X.cz.length cc)/\w'.cell? ⟨w.heap.size,1,none⟩=some (.slice ah X.heap.length ch)/\w'.cell? ⟨w.heap.size,2,none⟩=some (.int .i64 X.ez)/\w'.cell? ⟨w.heap.size+4,7,none⟩=some (.int .i64 r.2.2)/\w'.cell? ⟨w.heap.size+4,4,none⟩=some (.int .i64 r.1.sz_):=fun w' hb=>by
     have h:=hM5.later hb;have h':=hR5.later hb
     exact⟨h'.w0,h'.w1,h'.w2,h.c7,h.c4⟩
    have hS0:=hSl _ (qzL _ V).drew;clear h0
    go_upto_region 10 with (fail)
    refine xaY (S:=fun _=>True) [] (by kernel_rfl) ?_
    refine tj 10 (⟨some 68,.move (.tmp 9),47,_,_,none⟩) (.pointer (some ⟨w.heap.size+4,0,none⟩)) (trivial) ?_ ?_
    ·intro w hSw;obtain _h:=hSw;go_simp
    try simp only[Act.put,qzF,qzG,qzH]
    refine xc6 (S:=fun w'=>w'.cell? ⟨w.heap.size,0,none⟩=some (.slice ac X.cz.length cc)/\w'.cell? ⟨w.heap.size,1,none⟩=some (.slice ah X.heap.length ch)/\w'.cell? ⟨w.heap.size,2,none⟩=some (.int .i64 X.ez)/\w'.cell? ⟨w.heap.size+4,7,none⟩=some (.int .i64 r.2.2)/\w'.cell? ⟨w.heap.size+4,4,none⟩=some (.int .i64 r.1.sz_)) (late:=[12,13]) _ _ _ _ ?_
    refine tj 0 (⟨some 58,.load 25 (.tmp 3),25,_,_,none⟩) (WV (.slice ac X.cz.length cc) (.slice ah X.heap.length ch) X.ez) (hS0) ?_ ?_
    ·rintro w⟨q0,q1,q2,q3,q4⟩;go_simp
    try simp only[Act.put,qzF,qzG,qzH]
    refine tj 1 (⟨some 59,.move (.tmp 9),47,_,_,none⟩) (.pointer (some ⟨w.heap.size+4,0,none⟩)) (hS0) ?_ ?_
    ·rintro w⟨q0,q1,q2,q3,q4⟩;go_simp
    try simp only[Act.put,qzF,qzG,qzH]
    refine tj 2 (⟨some 60,.nilCheck (.tmp 59),0,_,_,none⟩) (.pointer (some ⟨w.heap.size+4,0,none⟩)) (hS0) ?_ ?_
    ·rintro w⟨q0,q1,q2,q3,q4⟩;go_simp
    try simp only[Act.put,qzF,qzG,qzH]
    refine tj 3 (⟨some 61,.fieldAddr 89 (.tmp 60) 5,0,_,_,none⟩) (.pointer (some ⟨w.heap.size+4,7,none⟩)) (hS0) ?_ ?_
    ·rintro w⟨q0,q1,q2,q3,q4⟩;go_simp
    try simp only[Act.put,qzF,qzG,qzH]
    refine tj 4 (⟨some 62,.load 33 (.tmp 61),33,_,_,none⟩) (.int .i64 r.2.2) (hS0) ?_ ?_
    ·rintro w⟨q0,q1,q2,q3,q4⟩;go_simp
    try simp only[Act.put,qzF,qzG,qzH]
    refine tj 5 (⟨some 63,.move (.tmp 9),47,_,_,none⟩) (.pointer (some ⟨w.heap.size+4,0,none⟩)) (hS0) ?_ ?_
    ·rintro w⟨q0,q1,q2,q3,q4⟩;go_simp
    try simp only[Act.put,qzF,qzG,qzH]
    refine tj 6 (⟨some 64,.nilCheck (.tmp 63),0,_,_,none⟩) (.pointer (some ⟨w.heap.size+4,0,none⟩)) (hS0) ?_ ?_
    ·rintro w⟨q0,q1,q2,q3,q4⟩;go_simp
    try simp only[Act.put,qzF,qzG,qzH]
    refine tj 7 (⟨some 65,.fieldAddr 89 (.tmp 64) 2,0,_,_,none⟩) (.pointer (some ⟨w.heap.size+4,4,none⟩)) (hS0) ?_ ?_
    ·rintro w⟨q0,q1,q2,q3,q4⟩;go_simp
    try simp only[Act.put,qzF,qzG,qzH]
    refine tj 8 (⟨some 66,.load 3 (.tmp 65),3,_,_,none⟩) (.int .i64 r.1.sz_) (hS0) ?_ ?_
    ·rintro w⟨q0,q1,q2,q3,q4⟩;go_simp
    try simp only[Act.put,qzF,qzG,qzH]
    refine tj 9 (⟨some 67,.build 37 #[(1,.tmp 62),(2,.tmp 66)],37,_,_,none⟩) (.agg #[.int .i64 0,.int .i64 0,.int .i64 r.2.2,.int .i64 r.1.sz_]) (hS0) ?_ ?_
    ·rintro w⟨q0,q1,q2,q3,q4⟩;go_simp
    try simp only[Act.put,qzF,qzG,qzH]
    obtain⟨z0,z1,z2,z3,z4⟩:=hSl _ (qzL _ V).drew;refine xag (rs:=[11]) (by kernel_rfl) (by simp) ?_
    intro i hi;simp only[List.mem_cons,List.not_mem_nil,or_false] at hi;subst hi;refine xa6 (o:=⟨none,.store 25 (.tmp 6) (.tmp 58),0,_,_,none⟩) rfl (fun K' hK=>?_)
    go_simp;refine hK _ _ (fun _=>?_) ?_
    ·exact⟨xkX z0 (by omega),xkX z1 (by omega),xkX z2 (by omega),xkX z3 (by omega),xkX z4 (by omega)⟩
    clear hK K'
    try simp only[Act.put,qzF,qzG,qzH]
    refine xag (rs:=[12]) (by kernel_rfl) (by simp) ?_
    intro i hi;simp only[List.mem_cons,List.not_mem_nil,or_false] at hi;subst hi;refine xa6 (o:=⟨none,.store 37 (.tmp 7) (.tmp 67),0,_,_,none⟩) rfl (fun K' hK=>?_)
    go_simp;refine hK _ _ (fun h=>absurd h (by decide)) ?_
    clear hK K'
    try simp only[Act.put,qzF,qzG,qzH]
    refine xcz (S':=fun _=>True) (late':=[]) (by kernel_rfl) ?_
    refine tj 13 (⟨some 8,.assign (.tmp 68),47,_,_,none⟩) (.pointer (some ⟨w.heap.size+4,0,none⟩)) (trivial) ?_ ?_
    ·intro w hSw;obtain _h:=hSw;go_simp
    try simp only[Act.put,qzF,qzG,qzH]
    refine xa0 (by kernel_rfl) ?_ _
    try simp only[Act.put,qzF,qzG,qzH]
    go_wp2;rw[HPl.out];refine qzK (v:=.tuple #[WV (.slice ac X.cz.length cc) (.slice ah X.heap.length ch) X.ez,RnV ⟨X.heap,xaU,r.2.2,r.1.sz_⟩,.pointer (some ⟨w.heap.size+4,0,none⟩)]) ?_ rfl (HQ.out _ _ _ _ _ _ _).drew
    simp[results,Tryz.results13,go_sem,a0,a1,a2,b0,b1,b2,b3]
  ·have hj':fj<0:=by omega
   have HRn:=hid (HFn.out hj);have HPl':Hid (xcI X s name args fuel=⟨X.heap,xaU,10,0⟩):=by show _=_;rw[HPl.out,HRn.out];simp
   have HSt':Hid (xf5 X s name args fuel=[]):=by show _=_;rw[HSt.out,HRn.out]
   have HQ:=hid fun u0 u1 u2 v0 v1 v2 v3=>RuPost.fin (z:=z) (P:=fun b=>b≠z/\b<w.heap.size) (r:=⟨X.heap,xaU,10,0⟩) hB1 ((xpr hC).later xaz hB1) ((xpK hH).later xaD hB1) (fun _ h=>h.1) (by omega) (by omega) hM1 rfl (t0 2 (by omega)) (t0 3 (by omega)) (xqI hzz) u0 u1 u2 v0 v1 v2 v3
   obtain⟨n0,n1,n2,-,-,-,-,a0,a1,a2,af,b0,b1,b2,b3,bf,-⟩:=id hR1;clear hfm HFn HPl HSt hj;go_wp2;rw[HPl'.out,HSt'.out];refine qzK (v:=.tuple #[WV (.slice ac X.cz.length cc) (.slice ah X.heap.length ch) X.ez,RnV ⟨X.heap,xaU,10,0⟩,.pointer (some ⟨w.heap.size+4,0,none⟩)]) ?_ rfl (HQ.out _ _ _ _ _ _ _)
   simp[results,Tryz.results13,go_sem,a0,a1,a2,b0,b1,b2,b3]
 ·have hw':(xap X s name args fuel == 0)=false:=by simpa using hw
  have hw2:(xap X s name args fuel != 0)=true:=by simpa using hw
  have HPl:Hid (xcI X s name args fuel=⟨X.heap,xaU,xap X s name args fuel,0⟩):=by show _=_;unfold xcI;rw[if_pos hw]
  have HSt:Hid (xf5 X s name args fuel=[]):=by show _=_;unfold xf5;rw[if_pos hw]
  generalize xap X s name args fuel=we at *;have HQ:=hid fun u0 u1 u2 v0 v1 v2 v3=>RuPost.fin (z:=z) (P:=fun b=>b≠z/\b<w.heap.size) (r:=⟨X.heap,xaU,we,0⟩) hB1 ((xpr hC).later xaz hB1) ((xpK hH).later xaD hB1) (fun _ h=>h.1) (by omega) (by omega) hM1 rfl (t0 2 (by omega)) (t0 3 (by omega)) (xqI hzz) u0 u1 u2 v0 v1 v2 v3
  obtain⟨n0,n1,n2,-,-,-,-,a0,a1,a2,af,b0,b1,b2,b3,bf,-⟩:=id hR1;clear hw;go_wp2;rw[HPl.out,HSt.out];refine qzK (v:=.tuple #[WV (.slice ac X.cz.length cc) (.slice ah X.heap.length ch) X.ez,RnV ⟨X.heap,xaU,we,0⟩,.pointer (some ⟨w.heap.size+4,0,none⟩)]) ?_ rfl (HQ.out _ _ _ _ _ _ _)
  simp[results,Tryz.results13,go_sem,a0,a1,a2,b0,b1,b2,b3]
theorem xeC (x:QE)(y:QL):(xax x y).lz.length<=3\/(xax x y).lz.length<=x.lz.length:=by
 unfold xax
 split
 ·exact Or.inr (qzC _)
 ·split
  ·exact Or.inl (by simp)
  ·exact Or.inl (by simp;omega)
theorem xkt (s:QS)(ep:Int)(y:QL):∀ (l:List QE) (z:QE),z∈xcX l s ep y->z.lz.length<=3\/∃ x∈l,z.lz.length<=x.lz.length
 | [],z,h=>by
  simp[xcX] at h
  subst h
  rcases xeC ⟨s,ep,false,[]⟩ y with h | h
  ·exact Or.inl h
  ·exact Or.inl (by simp at h;simp[h])
 | x :: r,z,h=>by
  unfold xcX at h
  split at h
  ·rw[List.mem_cons] at h
   rcases h with rfl | h
   ·rcases xeC (xbS x s ep) y with h | h
    ·exact Or.inl h
    ·refine Or.inr ⟨x,by simp,qzD h ?_⟩
     unfold xbS
     split<;>simp
   ·exact Or.inr ⟨z,by simp[h],qzC _⟩
  ·rw[List.mem_cons] at h
   rcases h with rfl | h
   ·exact Or.inr ⟨z,by simp,qzC _⟩
   ·rcases xkt s ep y r z h with h | ⟨x',hx,h⟩
    ·exact Or.inl h
    ·exact Or.inr ⟨x',by simp[hx],h⟩
theorem xeW (l:List QE)(X:QW)(s:QS)(c:Int)(nm:ByteArray):(xa2 l X s c nm).1.length<=l.length+1/\∀ z∈(xa2 l X s c nm).1,z.lz.length<=3\/∃ x∈l,z.lz.length<=x.lz.length:=by
 unfold xa2
 split
 ·exact⟨by simp,fun z hz=>Or.inr ⟨z,hz,qzC _⟩⟩
 ·split
  ·exact⟨by simp,fun z hz=>Or.inr ⟨z,hz,qzC _⟩⟩
  ·exact⟨xi8 _ _ _ _,fun z hz=>xkt _ _ _ _ z hz⟩
theorem xeY:∀ (ls:List QL) (c:Int),(xbo ls c).length<=ls.length+1
 | [],c=>by simp[xbo]
 | x :: r,c=>by
  unfold xbo
  split
  ·simp
  ·simpa using xeY r c
theorem xhS (s:QS)(c:Int):∀ l:List QT,(xc1 l s c).length<=l.length+1/\∀ z∈xc1 l s c,z.lz.length<=1\/∃ x∈l,z.lz.length<=x.lz.length+1
 | []=>⟨by simp[xc1],fun z hz=>by simp[xc1] at hz;subst hz;exact Or.inl (by simp)⟩
 | x :: r=>by
  obtain⟨h1,h2⟩:=xhS s c r;unfold xc1
  split
  ·refine⟨by simp,fun z hz=>?_⟩
   rw[List.mem_cons] at hz
   rcases hz with rfl | hz
   ·exact Or.inr ⟨x,by simp,xeY _ _⟩
   ·exact Or.inr ⟨z,by simp[hz],by omega⟩
  ·refine⟨by simpa using h1,fun z hz=>?_⟩
   rw[List.mem_cons] at hz
   rcases hz with rfl | hz
   ·exact Or.inr ⟨z,by simp,by omega⟩
   ·rcases h2 z hz with h | ⟨x',hx,h⟩
    ·exact Or.inl h
    ·exact Or.inr ⟨x',by simp[hx],h⟩
abbrev OB (lv tv:Value)(st:CSt):Obj:=.cells #[.slice none 0 0,.slice none 0 0,.int .i64 0,.int .i64 0,.int .i64 0,.int .i64 0,.int .i64 0,lv,tv,.int .i64 st.hits,.int .i64 st.nots] 39 (0,0)
structure CFew (st:CSt)(n:Nat):Prop where
 c:st.cells.length+n+1<=1954687339000
 cl:∀ x∈st.cells,x.lz.length<=8796093022000
 t:st.ts.length+n+1<=2513169436000
 tl:∀ x∈st.ts,x.lz.length+n+1<=8796093023000
 h:0<=st.hits/\st.hits+n<=1000000000
 k:0<=st.nots/\st.nots+n<=1000000000
theorem CFew.mono {st:CSt}{n n':Nat}(h:CFew st n)(hn:n'<=n):CFew st n' where
 c:=by have:=h.c;omega
 cl:=h.cl
 t:=by have:=h.t;omega
 tl:=fun x hx=>by have:=h.tl x hx;omega
 h:=by have:=h.h;omega
 k:=by have:=h.k;omega
theorem CFew.look {st:CSt}{n:Nat}(h:CFew st (n+1))(X:QW)(s:QS)(c:Int)(nm:ByteArray):CFew (xcb X st s c nm).1 n where
 c:=by
  have h1:=h.c;have h2:=(xeW st.cells X s c nm).1
  show (xa2 st.cells X s c nm).1.length+n+1<=_
  omega
 cl:=fun x hx=>by
  rcases (xeW st.cells X s c nm).2 x hx with h' | ⟨y,hy,h'⟩
  ·omega
  ·have:=h.cl y hy;omega
 t:=by
  have h1:=h.t;have h2:=(xhS s c st.ts).1
  show (xc1 st.ts s c).length+n+1<=_
  omega
 tl:=fun x hx=>by
  have h1:=h.t
  rcases (xhS s c st.ts).2 x hx with h' | ⟨y,hy,h'⟩
  ·omega
  ·have:=h.tl y hy;omega
 h:=by
  have h1:=h.h;unfold xcb;simp only
  split<;>omega
 k:=by
  have h1:=h.k;unfold xcb;simp only
  split<;>omega
theorem IsRow.fxl {α:Type}{E:Lay α}{sz bytes:Nat}{t lo:Nat}{T T':Nat->Nat}{S:Nat->Prop}{w w':World}{v:Value}{xs:List α}(h:IsRow E sz bytes (fun b=>lo<=b/\b<w.heap.size/\T b=t) w v xs)(G:Good E sz)(e:Ext T T' w)(k:Kp S T w w')(h0:¬ S t):IsRow E sz bytes (fun b=>lo<=b/\b<w'.heap.size/\T' b=t) w' v xs:=
 h.keep G (Keeps.of_block fun b hb hl=>k.blk b hl (by rw[hb.2.2];exact h0)) fun b hb=>⟨hb.1,qzE hb.2.1 k.size,by rw[e b hb.2.1];exact hb.2.2⟩
structure LcP (X:QW)(pb wb ob lo:Nat)(cv hv:Value)(T:Nat->Nat)(w:World)(st:CSt)(n:Nat):Prop where
 tp:T pb=0
 lp:pb<w.heap.size
 p0:w.cell? ⟨pb,0,none⟩=some (.pointer (some ⟨ob,0,none⟩))
 lk:LkP X wb cv hv T w () 0
 to3:T ob=3
 ll:lo<=w.heap.size
 box:∃ a m k g j i,w.heap[ob]?=some (OB (.slice a m k) (.slice g j i) st)/\xbk (fun b=>lo<=b/\b<w.heap.size/\T b=0) w (.slice a m k) st.cells/\xbc (fun b=>lo<=b/\b<w.heap.size/\T b=0) w (.slice g j i) st.ts
 few:CFew st n
theorem LcP.keep {X:QW}{pb wb ob lo:Nat}{cv hv:Value}{T T':Nat->Nat}{w w':World}{st:CSt}{n:Nat}{S:Nat->Prop}(h:LcP X pb wb ob lo cv hv T w st n)(e:Ext T T' w)(k:Kp S T w w')(h0:¬ S 0)(h3:¬ S 3):LcP X pb wb ob lo cv hv T' w' st n:=by
 obtain⟨a,m,kk,g,j,i,b1,b2,b3⟩:=h.box
 exact⟨by rw[e _ h.lp];exact h.tp,qzE h.lp k.size,k.cell h.p0 (by rw[h.tp];exact h0),h.lk.keep e k h0,by rw[e _ (xaf b1)];exact h.to3,qzD h.ll k.size,⟨a,m,kk,g,j,i,k.held b1 (by rw[h.to3];exact h3),b2.fxl xbw e k h0,b3.fxl xbZ e k h0⟩,h.few⟩
theorem LcP.mono {X:QW}{pb wb ob lo:Nat}{cv hv:Value}{T:Nat->Nat}{w:World}{st:CSt}{n n':Nat}(h:LcP X pb wb ob lo cv hv T w st n)(hn:n'<=n):LcP X pb wb ob lo cv hv T w st n':=⟨h.tp,h.lp,h.p0,h.lk,h.to3,h.ll,h.box,h.few.mono hn⟩
end Go.Proofs.YtapbeiccodnniaaGreat
