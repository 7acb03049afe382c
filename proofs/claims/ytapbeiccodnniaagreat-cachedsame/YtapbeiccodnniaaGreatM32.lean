/- A part. -/
import Derived.Test.YtapbeiccodnniaaGreatM31
namespace Go.Proofs.YtapbeiccodnniaaGreat
open Go.ChangeShapes Go.WideShapes Go.ChangeAt Go.RowKit
set_option linter.unusedSimpArgs false
set_option linter.unusedVariables false
set_option maxHeartbeats 8000000
set_option maxRecDepth 8000
theorem xi7 {p:Rp}(hX:Rx p):∀ d:Nat,d<=20->xoY p d
 | 0,h=>xf2 hX 0 h fun d' e=>by omega
 | d+1,h=>xf2 hX (d+1) h fun d' e=>by
  obtain rfl:d=d':=by omega
  exact xlO hX (xi7 hX d (by omega))
def xci (X:QW)(s:QV)(name:ByteArray)(args:List QV)(fuel:Int):Mc RSt × QV × Int:=
 xa1 (xcK X fuel) 20 ⟨X.heap,0,0,[]⟩ (xaw X.cz (xar X.heap s) name).1 (xaw X.cz (xar X.heap s) name).2 s args
def xf5 (X:QW)(s:QV)(name:ByteArray)(args:List QV)(fuel:Int):RSt:=if xap X s name args fuel≠0 then [] else (xci X s name args fuel).1.st
theorem xoe (X:QW)(s:QV)(name:ByteArray)(args:List QV)(fuel:Int):(xlZ X s name args fuel).1.heap=(xci X s name args fuel).1.heap/\(xlZ X s name args fuel).1.sz_=(xci X s name args fuel).1.sz_/\(xlZ X s name args fuel).2=(xci X s name args fuel).2:=by
 have h:=xfi (Rel:=fun (_:RSt) (_:Unit)=>True) (SOk:=fun _ _=>True) (E:=xcK X fuel) (E':=xcJ X fuel) ⟨rfl,rfl,rfl,fun _ _ _ _ _ _ _=>⟨rfl,trivial⟩,fun _ _ _ _ _ _ _ _=>trivial,fun _ _ _ _ _ _ _ _ _=>trivial⟩ 20 ⟨X.heap,0,0,[]⟩ ⟨X.heap,0,0,()⟩ (xaw X.cz (xar X.heap s) name).1 (xaw X.cz (xar X.heap s) name).2 s args ⟨rfl,rfl,rfl,trivial⟩
 exact⟨h.1.heap,h.1.sz_,h.2⟩
def RuPost (X:QW)(fuel:Int)(cv0:Value)(w:World)(r:Ran)(st:RSt)(e:Ending)(w':World):Prop:=
 Below w.heap.size w w'/\∃ cv hv T m deep err hv' sv ov,e=.returned (.tuple #[WV cv hv X.ez,RnV r,.pointer (some ⟨w.heap.size+4,0,none⟩)])/\xai Tru w' cv X.cz/\xaC Tru w' hv r.heap/\RMac ⟨X,fuel,cv0⟩ T w' (w.heap.size+4) m deep err hv' sv ov/\m.st=st
theorem xkX {U:World}{b o b':Nat}{v u0 u1 u2:Value}(h:U.cell? ⟨b,o,none⟩=some v)(hne:b≠b'):(((U.setCell ⟨b',0,none⟩ u0).setCell ⟨b',1,none⟩ u1).setCell ⟨b',2,none⟩ u2).cell? ⟨b,o,none⟩=some v:=
 (World.cell?_setCell_far _ _ _ _ (by simp;omega)).trans ((World.cell?_setCell_far _ _ _ _ (by simp;omega)).trans ((World.cell?_setCell_far _ _ _ _ (by simp;omega)).trans h))
theorem RuPost.fin {X:QW}{fuel:Int}{cv0:Value}{w V:World}{r:Ran}{st:RSt}{cv hv hv' sv ov:Value}{P:Nat->Prop}{T:Nat->Nat}{m:Mc RSt}{deep err:Int}(hb:Below w.heap.size w V)(hC:xai P V cv X.cz)(hH:xaC P V hv r.heap)(h2:¬ P (w.heap.size+2))(h3:¬ P (w.heap.size+3))(hM:RMac ⟨X,fuel,cv0⟩ T V (w.heap.size+4) m deep err hv' sv ov)(hst:m.st=st)(t2:T (w.heap.size+2)=4)(t3:T (w.heap.size+3)=4)(u0 u1 u2 v0 v1 v2 v3:Value) :
  RuPost X fuel cv0 w r st (.returned (.tuple #[WV cv hv X.ez,RnV r,.pointer (some ⟨w.heap.size+4,0,none⟩)])) (((((((V.setCell ⟨w.heap.size+2,0,none⟩ u0).setCell ⟨w.heap.size+2,1,none⟩ u1).setCell ⟨w.heap.size+2,2,none⟩ u2).setCell ⟨w.heap.size+3,0,none⟩ v0).setCell ⟨w.heap.size+3,1,none⟩ v1).setCell ⟨w.heap.size+3,2,none⟩ v2).setCell ⟨w.heap.size+3,3,none⟩ v3):=by
 have k:Keeps P V (((((((V.setCell ⟨w.heap.size+2,0,none⟩ u0).setCell ⟨w.heap.size+2,1,none⟩ u1).setCell ⟨w.heap.size+2,2,none⟩ u2).setCell ⟨w.heap.size+3,0,none⟩ v0).setCell ⟨w.heap.size+3,1,none⟩ v1).setCell ⟨w.heap.size+3,2,none⟩ v2).setCell ⟨w.heap.size+3,3,none⟩ v3):=xaq (xaq (xaq (xaq (xaq (xaq (xaq (Keeps.refl _ _) h2 _) h2 _) h2 _) h3 _) h3 _) h3 _) h3 _;have k4:Kp (fun t=>t=4) T V (((((((V.setCell ⟨w.heap.size+2,0,none⟩ u0).setCell ⟨w.heap.size+2,1,none⟩ u1).setCell ⟨w.heap.size+2,2,none⟩ u2).setCell ⟨w.heap.size+3,0,none⟩ v0).setCell ⟨w.heap.size+3,1,none⟩ v1).setCell ⟨w.heap.size+3,2,none⟩ v2).setCell ⟨w.heap.size+3,3,none⟩ v3):=(((((((Kp.refl _ _ _).set (fun _=>t2) _ _).set (fun _=>t2) _ _).set (fun _=>t2) _ _).set (fun _=>t3) _ _).set (fun _=>t3) _ _).set (fun _=>t3) _ _).set (fun _=>t3) _ _
 refine⟨((((((hb.setCell (by simp) _).setCell (by simp) _).setCell (by simp) _).setCell (by simp) _).setCell (by simp) _).setCell (by simp) _).setCell (by simp) _,cv,hv,T,m,deep,err,hv',sv,ov,rfl,hC.keep xaz k fun _ _=>trivial,hH.keep xaD k fun _ _=>trivial,hM.keep (.refl _ _) k4 (by omega) (by omega) (by omega) (by omega),hst⟩
theorem RuPost.drew {X:QW}{fuel:Int}{cv0:Value}{w w':World}{r:Ran}{st:RSt}{e:Ending}(h:RuPost X fuel cv0 w r st e w'):RuPost X fuel cv0 w r st e w'.drew:=by
 obtain⟨hb,cv,hv,T,m,deep,err,hv',sv,ov,h1,h2,h3,h4,h5⟩:=h
 exact⟨hb.drew,cv,hv,T,m,deep,err,hv',sv,ov,h1,h2.later xaz (Below.refl _ _).drew,h3.later xaD (Below.refl _ _).drew,h4.later (Below.refl _ _).drew,h5⟩
def xlv (n:Nat):Nat->Nat:=fun x=>if x<n then 0 else if x=n+4 then 1 else 4
theorem xgA {n x:Nat}(h:x<n):xlv n x=0:=by simp[xlv,h]
theorem xnl (n:Nat):xlv n (n+4)=1:=by simp[xlv]
theorem xnI {n x:Nat}(h:n<=x)(h4:x≠n+4):xlv n x=4:=by simp[xlv,h4];omega
theorem xjs {X:QW}{fuel:Int}{cv hv:Value}{w W:World}{P:Nat->Prop}(hC:xai P w cv X.cz)(hH:xaC P w hv X.heap)(hb:Below w.heap.size w W)(hbox:W.heap[w.heap.size+4]?=some (.cells #[cv,hv,.int .i64 X.ez,.int .i64 fuel,.int .i64 0,.int .i64 0,.int .i64 0,.int .i64 0,.slice none 0 0,.slice none 0 0] 89 (0,0))):RMac ⟨X,fuel,cv⟩ (xlv w.heap.size) W (w.heap.size+4) ⟨X.heap,0,0,[]⟩ 0 0 hv (.slice none 0 0) (.slice none 0 0):=by
 have hs:=hb.size;refine⟨hbox,xnl _,((xbF hC).later xaz hb).mono xaz fun b hb=>⟨by omega,xgA hb⟩,((xcq hH).later xaD hb).mono xaD fun b hb=>⟨by omega,xgA hb⟩,⟨rfl,Or.inl ⟨rfl,rfl⟩⟩,fun g hg=>(by cases hg),⟨rfl,Or.inl ⟨rfl,rfl⟩⟩,fun g hg=>(by cases hg)⟩
theorem xms {P Q:Nat->Prop}(X:QW)(hX:xaJ X=0)(s:QV)(name:ByteArray)(args:List QV)(fuel:Int)(cv hv av:Value)(w:World)(hC:xai P w cv X.cz)(hH:xaC P w hv X.heap)(hA:xaB Q w av args)(hn:name.size<=140737488351232) :
  Calls Tryz.prog 13 #[WV cv hv X.ez,ClV s name av,.int .i64 fuel] w fun e w'=>RuPost X fuel cv w (xcI X s name args fuel) (xf5 X s name args fuel) e w':=by
 obtain⟨ac,cc,rfl,-,-,hby,-⟩:=id hC;obtain⟨ah,ch,rfl,-,-,hbyh,-⟩:=id hH;obtain⟨aa,ca,rfl,-⟩:=id hA;have hR0:=(xka w (.slice ac X.cz.length cc) (.slice ah X.heap.length ch) X.ez s name (.slice aa args.length ca)).later (xaj _ (.cells #[.slice ac X.cz.length cc,.slice ah X.heap.length ch,.int .i64 X.ez,.int .i64 fuel,.int .i64 0,.int .i64 0,.int .i64 0,.int .i64 0,.slice none 0 0,.slice none 0 0] 89));have hB0:Below w.heap.size w (((((w.alloc (.cells #[.slice ac X.cz.length cc,.slice ah X.heap.length ch,.int .i64 X.ez] 25)).alloc (.cells #[.int .i64 s.k,.int .i64 s.n,.string name,.slice aa args.length ca] 30)).alloc (.cells #[.slice none 0 0,.slice none 0 0,.int .i64 0] 25)).alloc (.cells #[.int .i64 0,.int .i64 0,.int .i64 0,.int .i64 0] 37)).alloc (.cells #[.slice ac X.cz.length cc,.slice ah X.heap.length ch,.int .i64 X.ez,.int .i64 fuel,.int .i64 0,.int .i64 0,.int .i64 0,.int .i64 0,.slice none 0 0,.slice none 0 0] 89)):=xah (xah (xca _ _ _) (xca _ _ _)) (xaj _ _)
 have hbx0:(((((w.alloc (.cells #[.slice ac X.cz.length cc,.slice ah X.heap.length ch,.int .i64 X.ez] 25)).alloc (.cells #[.int .i64 s.k,.int .i64 s.n,.string name,.slice aa args.length ca] 30)).alloc (.cells #[.slice none 0 0,.slice none 0 0,.int .i64 0] 25)).alloc (.cells #[.int .i64 0,.int .i64 0,.int .i64 0,.int .i64 0] 37)).alloc (.cells #[.slice ac X.cz.length cc,.slice ah X.heap.length ch,.int .i64 X.ez,.int .i64 fuel,.int .i64 0,.int .i64 0,.int .i64 0,.int .i64 0,.slice none 0 0,.slice none 0 0] 89)).heap[w.heap.size+4]?=some (.cells #[.slice ac X.cz.length cc,.slice ah X.heap.length ch,.int .i64 X.ez,.int .i64 fuel,.int .i64 0,.int .i64 0,.int .i64 0,.int .i64 0,.slice none 0 0,.slice none 0 0] 89 (0,0)):=by
  have:=heap_alloc_new ((((w.alloc (.cells #[.slice ac X.cz.length cc,.slice ah X.heap.length ch,.int .i64 X.ez] 25)).alloc (.cells #[.int .i64 s.k,.int .i64 s.n,.string name,.slice aa args.length ca] 30)).alloc (.cells #[.slice none 0 0,.slice none 0 0,.int .i64 0] 25)).alloc (.cells #[.int .i64 0,.int .i64 0,.int .i64 0,.int .i64 0] 37)) (.cells #[.slice ac X.cz.length cc,.slice ah X.heap.length ch,.int .i64 X.ez,.int .i64 fuel,.int .i64 0,.int .i64 0,.int .i64 0,.int .i64 0,.slice none 0 0,.slice none 0 0] 89)
  simpa using this
 go_enter Tryz.func13,Tryz.ntmps13
 go_upto_region 2 with (fail)
 simp only[Nat.add_assoc,Nat.reduceAdd] at *;generalize (((((w.alloc (.cells #[.slice ac X.cz.length cc,.slice ah X.heap.length ch,.int .i64 X.ez] 25)).alloc (.cells #[.int .i64 s.k,.int .i64 s.n,.string name,.slice aa args.length ca] 30)).alloc (.cells #[.slice none 0 0,.slice none 0 0,.int .i64 0] 25)).alloc (.cells #[.int .i64 0,.int .i64 0,.int .i64 0,.int .i64 0] 37)).alloc (.cells #[.slice ac X.cz.length cc,.slice ah X.heap.length ch,.int .i64 X.ez,.int .i64 fuel,.int .i64 0,.int .i64 0,.int .i64 0,.int .i64 0,.slice none 0 0,.slice none 0 0] 89))=W at *;obtain⟨n0,n1,n2,m0,m1,m2,m3⟩:=And.intro hR0.w0 (And.intro hR0.w1 (And.intro hR0.w2 (And.intro hR0.c0 (And.intro hR0.c1 (And.intro hR0.c2 hR0.c3)))))
 go_wp2_with fail;refine (xfy X s name args fuel _ _ _ W ⟨_,_,_,rfl⟩ (hH.later xaD hB0) (hA.later xaK hB0) hn).mono ?_;rintro e w1 ⟨rfl,hb1⟩;have hR1:=hR0.later hb1;have hB1:=xah hB0 hb1;have hM1:=(xjs hC hH hB0 hbx0).later hb1;clear n0 n1 n2 m0 m1 m2 m3 hR0 hB0 hbx0 hb1;have t0:∀ i,i<4->xlv w.heap.size (w.heap.size+i)=4:=fun i hi=>xnI (by omega) (by omega)
 by_cases hw:xap X s name args fuel=0
 ·have HPl:Hid (xcI X s name args fuel=if (xci X s name args fuel).2.2≠0 then ⟨X.heap,xaU,(xci X s name args fuel).2.2,(xci X s name args fuel).1.sz_⟩ else ⟨(xci X s name args fuel).1.heap,(xci X s name args fuel).2.1,0,(xci X s name args fuel).1.sz_⟩):=by
   show _=_
   obtain⟨q1,q2,q3⟩:=xoe X s name args fuel;unfold xcI;rw[if_neg (by simpa using hw),q1,q2,q3]
  have HSt:Hid (xf5 X s name args fuel=(xci X s name args fuel).1.st):=by show _=_;unfold xf5;rw[if_neg (by simpa using hw)]
  obtain⟨hfu,hws,hwa⟩:=xcH hw;have hRx:Rx ⟨X,fuel,.slice ac X.cz.length cc⟩:=⟨hX,hfu⟩
  have HMi:Hid (MIn (Rp.E ⟨X,fuel,.slice ac X.cz.length cc⟩) ⟨X.heap,0,0,[]⟩):=by
   have he:=xdz hX
   exact⟨he,⟨Int.le_refl _,hfu.1⟩,⟨Int.le_refl _,by show (0:Int)<=300;omega⟩⟩
  have HX:=hid (And.intro hRx (And.intro hws hwa));rw[hw];clear hw hws hwa hfu
  go_upto_region 5 with (fail)
  have hSl:∀ w',Below w1.heap.size w1 w'->w'.cell? ⟨w.heap.size,0,none⟩=some (.slice ac X.cz.length cc)/\w'.cell? ⟨w.heap.size,1,none⟩=some (.slice ah X.heap.length ch)/\w'.cell? ⟨w.heap.size,2,none⟩=some (.int .i64 X.ez)/\w'.cell? ⟨w.heap.size+1,0,none⟩=some (.int .i64 s.k)/\w'.cell? ⟨w.heap.size+1,1,none⟩=some (.int .i64 s.n)/\w'.cell? ⟨w.heap.size+1,2,none⟩=some (.string name):=fun w' hb=>by
   have h:=hR1.later hb
   exact⟨h.w0,h.w1,h.w2,h.c0,h.c1,h.c2⟩
  have hS0:=hSl _ (Below.refl _ w1).drew;refine xaY (S:=fun w'=>w'.cell? ⟨w.heap.size,0,none⟩=some (.slice ac X.cz.length cc)/\w'.cell? ⟨w.heap.size,1,none⟩=some (.slice ah X.heap.length ch)/\w'.cell? ⟨w.heap.size,2,none⟩=some (.int .i64 X.ez)/\w'.cell? ⟨w.heap.size+1,0,none⟩=some (.int .i64 s.k)/\w'.cell? ⟨w.heap.size+1,1,none⟩=some (.int .i64 s.n)/\w'.cell? ⟨w.heap.size+1,2,none⟩=some (.string name)) [] (by kernel_rfl) ?_
  refine tk 0 (⟨some 29,.load 25 (.tmp 3),25,_,_,none⟩) (WV (.slice ac X.cz.length cc) (.slice ah X.heap.length ch) X.ez) rfl (hS0) (fun _ _ _ h=>h) rfl (by kernel_rfl) ?_ ?_
  ·intro w hSw;obtain⟨q0,q1,q2,q3,q4,q5⟩:=hSw;go_simp
  try simp only[Act.put,qzF,qzG,qzH]
  refine tk 1 (⟨some 30,.fieldAddr 25 (.tmp 3) 1,0,_,_,none⟩) (.pointer (some ⟨w.heap.size,1,none⟩)) rfl (hS0) (fun _ _ _ h=>h) rfl (by kernel_rfl) ?_ ?_
  ·intro w hSw;obtain⟨q0,q1,q2,q3,q4,q5⟩:=hSw;go_simp
  try simp only[Act.put,qzF,qzG,qzH]
  refine tk 2 (⟨some 31,.load 23 (.tmp 30),23,_,_,none⟩) (.slice ah X.heap.length ch) rfl (hS0) (fun _ _ _ h=>h) rfl (by kernel_rfl) ?_ ?_
  ·intro w hSw;obtain⟨q0,q1,q2,q3,q4,q5⟩:=hSw;go_simp
  try simp only[Act.put,qzF,qzG,qzH]
  refine tk 3 (⟨some 32,.fieldAddr 30 (.tmp 4) 0,0,_,_,none⟩) (.pointer (some ⟨w.heap.size+1,0,none⟩)) rfl (hS0) (fun _ _ _ h=>h) rfl (by kernel_rfl) ?_ ?_
  ·intro w hSw;obtain⟨q0,q1,q2,q3,q4,q5⟩:=hSw;go_simp
  try simp only[Act.put,qzF,qzG,qzH]
  refine tk 4 (⟨some 33,.load 27 (.tmp 32),27,_,_,none⟩) (VV s) rfl (hS0) (fun _ _ _ h=>h) rfl (by kernel_rfl) ?_ ?_
  ·intro w hSw;obtain⟨q0,q1,q2,q3,q4,q5⟩:=hSw;go_simp
  try simp only[Act.put,qzF,qzG,qzH]
  refine tk 6 (⟨some 35,.fieldAddr 30 (.tmp 4) 1,0,_,_,none⟩) (.pointer (some ⟨w.heap.size+1,2,none⟩)) rfl (hS0) (fun _ _ _ h=>h) rfl (by kernel_rfl) ?_ ?_
  ·intro w hSw;obtain⟨q0,q1,q2,q3,q4,q5⟩:=hSw;go_simp
  try simp only[Act.put,qzF,qzG,qzH]
  refine tk 7 (⟨some 36,.load 9 (.tmp 35),9,_,_,none⟩) (.string name) rfl (hS0) (fun _ _ _ h=>h) rfl (by kernel_rfl) ?_ ?_
  ·intro w hSw;obtain⟨q0,q1,q2,q3,q4,q5⟩:=hSw;go_simp
  try simp only[Act.put,qzF,qzG,qzH]
  refine xag (rs:=[5]) (by kernel_rfl) (by simp) ?_
  intro i hi;simp only[List.mem_cons,List.not_mem_nil,or_false] at hi;subst hi;refine xa6 (o:=⟨some 34,.call ⟨.value (.func 34),#[.tmp 31,.tmp 33],#[23,27]⟩,3,_,_,none⟩) rfl (fun K' hK=>?_)
  refine xbv rfl 34 (.func 34) #[.tmp 31,.tmp 33] _ rfl #[] rfl #[.slice ah X.heap.length ch,VV s] (by simp[Act.eval,Act.put]) (cf23 _ _) ?_
  refine (show Calls Tryz.prog 34 #[.slice ah X.heap.length ch,VV s] w1.drew _ from (xf1 X.heap _ s w1.drew (hH.later xaD (xah hB1 (Below.refl _ w1).drew))).mono ?_)
  rintro e w2 ⟨rfl,hb2⟩;refine⟨_,rfl,?_⟩;have hb12:Below w1.heap.size w1 w2:=xah (Below.refl _ w1).drew hb2;refine hK _ _ (fun _=>?_) ?_
  ·exact hSl _ hb12
  clear hK K'
  try simp only[Act.put,qzF,qzG,qzH]
  refine xag (rs:=[8]) (by kernel_rfl) (by simp) ?_
  intro i hi;simp only[List.mem_cons,List.not_mem_nil,or_false] at hi;subst hi;refine xa6 (o:=⟨some 37,.call ⟨.value (.func 19),#[.tmp 29,.tmp 34,.tmp 36],#[25,3,9]⟩,73,_,_,none⟩) rfl (fun K' hK=>?_)
  refine xbv rfl 19 (.func 19) #[.tmp 29,.tmp 34,.tmp 36] _ rfl #[] rfl #[WV (.slice ac X.cz.length cc) (.slice ah X.heap.length ch) X.ez,.int .i64 (xar X.heap s),.string name] (by simp[Act.eval,Act.put]) (cf22 _ _) ?_
  refine (show Calls Tryz.prog 19 #[WV (.slice ac X.cz.length cc) (.slice ah X.heap.length ch) X.ez,.int .i64 (xar X.heap s),.string name] w2 _ from (xhs X (xar X.heap s) name _ _ w2 (hC.later xaz (xah hB1 hb12)) (hH.later xaD (xah hB1 hb12))).mono ?_)
  rintro e w3 ⟨rfl,hb3⟩;refine⟨_,rfl,?_⟩;have hb13:Below w1.heap.size w1 w3:=xah hb12 hb3;obtain⟨fc,fj,hf⟩:∃ fc fj,xaw X.cz (xar X.heap s) name=(fc,fj):=⟨_,_,rfl⟩;rw[hf];refine hK _ _ (fun _=>?_) ?_
  ·exact hSl _ hb13
  clear hK K'
  try simp only[Act.put,qzF,qzG,qzH]
  refine tk 9 (⟨some 28,.move (.tmp 37),73,_,_,none⟩) (.tuple #[.int .i64 fc,.int .i64 fj]) rfl (hSl _ hb13) (fun _ _ _ h=>h) rfl (by kernel_rfl) ?_ ?_
  ·intro w hSw;obtain⟨q0,q1,q2,q3,q4,q5⟩:=hSw;go_simp
  try simp only[Act.put,qzF,qzG,qzH]
  refine tk 10 (⟨some 38,.extract (.tmp 28) 0,3,_,_,none⟩) (.int .i64 fc) rfl (hSl _ hb13) (fun _ _ _ h=>h) rfl (by kernel_rfl) ?_ ?_
  ·intro w hSw;obtain⟨q0,q1,q2,q3,q4,q5⟩:=hSw;go_simp
  try simp only[Act.put,qzF,qzG,qzH]
  refine tk 11 (⟨some 39,.extract (.tmp 28) 1,3,_,_,none⟩) (.int .i64 fj) rfl (hSl _ hb13) (fun _ _ _ h=>h) rfl (by kernel_rfl) ?_ ?_
  ·intro w hSw;obtain⟨q0,q1,q2,q3,q4,q5⟩:=hSw;go_simp
  try simp only[Act.put,qzF,qzG,qzH]
  refine tk 12 (⟨some 11,.assign (.tmp 38),3,_,_,none⟩) (.int .i64 fc) rfl (hSl _ hb13) (fun _ _ _ h=>h) rfl (by kernel_rfl) ?_ ?_
  ·intro w hSw;obtain⟨q0,q1,q2,q3,q4,q5⟩:=hSw;go_simp
  try simp only[Act.put,qzF,qzG,qzH]
  refine tk 13 (⟨some 12,.assign (.tmp 39),3,_,_,none⟩) (.int .i64 fj) rfl (hSl _ hb13) (fun _ _ _ h=>h) rfl (by kernel_rfl) ?_ ?_
  ·intro w hSw;obtain⟨q0,q1,q2,q3,q4,q5⟩:=hSw;go_simp
  try simp only[Act.put,qzF,qzG,qzH]
  refine xa0 (by kernel_rfl) ?_ _
  try simp only[Act.put,qzF,qzG,qzH]
  replace hR1:=hR1.later hb13;replace hM1:=hM1.later hb13;replace hB1:=xah hB1 hb13;have HRu:Hid (xci X s name args fuel=xa1 (Rp.E ⟨X,fuel,.slice ac X.cz.length cc⟩) 20 ⟨X.heap,0,0,[]⟩ fc fj s args):=by show _=_;unfold xci;rw[hf]
  have hfm:0<=fj->∃ mt,xaO X.cz fc fj=some mt:=fun h=>by have:=xgO (xs:=X.cz) (k:=xar X.heap s) (name:=name) (by rw[hf];exact h);rw[hf] at this;exact this
  have HFn:Hid (¬ 0<=fj->xci X s name args fuel=(⟨X.heap,0,0,[]⟩,xaU,10)):=fun h=>by
   unfold xci;have h2:¬ 0<=(xaw (Rp.X ⟨X,fuel,.slice ac X.cz.length cc⟩).cz (xar X.heap s) (QI.mk 0 0 0 0 name).name).2:=by show ¬ 0<=(xaw X.cz (xar X.heap s) name).2;rw[hf];exact h
   exact xiF (p:=⟨X,fuel,.slice ac X.cz.length cc⟩) (x:=QI.mk 0 0 0 0 name) (d:=20) h2
  have HA:=hid (hA.later xaK hB1);clear hb12 hb13 hb2 hb3 hSl hS0 hf
  by_cases hj:0<=fj
  ·obtain⟨mt,hmt⟩:=hfm hj;have hj':¬ (fj<0):=by omega
   have HMt:=hid hmt;clear hfm HFn hmt hj;obtain⟨r,hr⟩:∃ r,xci X s name args fuel=r:=⟨_,rfl⟩;rw[hr] at HPl HSt HRu;have hAF:xaB (Fx (xlv w.heap.size) w3) w3 (.slice aa args.length ca) args:=((xer hA).later xaK hB1).mono xaK fun b hb=>⟨by have:=hB1.size;omega,xgA hb⟩
   obtain⟨n0,n1,n2,m0,m1,m2,m3⟩:=And.intro hR1.w0 (And.intro hR1.w1 (And.intro hR1.w2 (And.intro hR1.c0 (And.intro hR1.c1 (And.intro hR1.c2 hR1.c3)))));go_wp2_with fail;refine (show Calls Tryz.prog 35 #[.pointer (some ⟨w.heap.size+4,0,none⟩),.int .i64 fc,.int .i64 fj,VV s,.slice aa args.length ca] w3 _ from (xi7 HX.out.1 20 (qzC _) 5 (xlv w.heap.size) w3 (w.heap.size+4) ⟨X.heap,0,0,[]⟩ _ _ _ fc fj s args _ mt (qzC _) hM1 HMi.out (by unfold xmP;simp) HX.out.2.1 HX.out.2.2 hAF HMt.out).mono ?_)
   rw[← HRu.out];rintro e w5 ⟨rfl,⟨T5,hv5,sv5,ov5,hE5,hM5⟩,hK5⟩;dsimp only;have hR5:=hR1.kp hK5 (fun i hi=>by rw[t0 i hi];unfold All;omega)
   have hB5:Below w.heap.size w w5:=hB1.trans (hK5.below (fun b hb=>by rw[xgA hb];unfold All;omega) hB1.size)
   have hz:=hR1.sz;have t52:T5 (w.heap.size+2)=4:=by rw[hE5 _ (by omega)];exact t0 2 (by omega)
   have t53:T5 (w.heap.size+3)=4:=by rw[hE5 _ (by omega)];exact t0 3 (by omega)
   have hCw:=(xbF hC).later xaz (xah hB5 (xaj w5 (.cells #[.int .i64 r.2.1.k,.int .i64 r.2.1.n] 27)));have hHw:=(xcq hH).later xaD (xah hB5 (xaj w5 (.cells #[.int .i64 r.2.1.k,.int .i64 r.2.1.n] 27)));have y0:(w5.alloc (.cells #[.int .i64 r.2.1.k,.int .i64 r.2.1.n] 27)).cell? ⟨w5.heap.size,0,none⟩=some (.int .i64 r.2.1.k):=xaa _ _ _ _ rfl 0;have y1:(w5.alloc (.cells #[.int .i64 r.2.1.k,.int .i64 r.2.1.n] 27)).cell? ⟨w5.heap.size,1,none⟩=some (.int .i64 r.2.1.n):=xaa _ _ _ _ rfl 1;replace hR5:=hR5.later (xaj w5 (.cells #[.int .i64 r.2.1.k,.int .i64 r.2.1.n] 27));replace hM5:=hM5.later (xaj w5 (.cells #[.int .i64 r.2.1.k,.int .i64 r.2.1.n] 27))
   replace hB5:=xah hB5 (xaj w5 (.cells #[.int .i64 r.2.1.k,.int .i64 r.2.1.n] 27));have hvl:w.heap.size+4<w5.heap.size:=qzE (xaf hM1.box) hK5.size;clear n0 n1 n2 m0 m1 m2 m3 hK5 hE5 hR1 hM1 hAF
   go_upto_region 9 with (fail)
   generalize (w5.alloc (.cells #[.int .i64 r.2.1.k,.int .i64 r.2.1.n] 27))=V at *;generalize w5.heap.size=vb at *;have c7:=hM5.c7;obtain⟨a5,c5,rfl,-⟩:=id hM5.heap
   by_cases h0:r.2.2=0
   ·rw[if_neg (by omega)] at HPl
    have HQ:=hid fun u0 u1 u2 v0 v1 v2 v3=>RuPost.fin (P:=Fx T5 V) (r:=⟨r.1.heap,r.2.1,0,r.1.sz_⟩) hB5 hM5.cls hM5.heap (fun h=>by have:=h.2;omega) (fun h=>by have:=h.2;omega) hM5 HSt.out.symm t52 t53 u0 u1 u2 v0 v1 v2 v3
    rw[h0] at c7;obtain⟨-,-,-,-,-,-,-,a0,a1,a2,af,b0,b1,b2,b3,bf,-⟩:=id hR5
    have hSl:∀ w',Below V.heap.size V w'->w'.cell? ⟨w.heap.size+4,0,none⟩=some (.slice ac X.cz.length cc)/\w'.cell? ⟨w.heap.size+4,1,none⟩=some (.slice a5 r.1.heap.length c5)/\w'.cell? ⟨w.heap.size+4,2,none⟩=some (.int .i64 X.ez)/\w'.cell? ⟨vb,0,none⟩=some (.int .i64 r.2.1.k)/\w'.cell? ⟨vb,1,none⟩=some (.int .i64 r.2.1.n)/\w'.cell? ⟨w.heap.size+4,4,none⟩=some (.int .i64 r.1.sz_):=fun w' hb=>by
     have h:=hM5.later hb
     exact⟨h.c0,h.c1,h.c2,qzA hb y0,qzA hb y1,h.c4⟩
    have hS0:=hSl _ (Below.refl _ V).drew;clear h0
    go_upto_region 11 with (fail)
    refine xaY (S:=fun _=>True) [] (by kernel_rfl) ?_
    refine tk 10 (⟨some 79,.move (.tmp 9),47,_,_,none⟩) (.pointer (some ⟨w.heap.size+4,0,none⟩)) rfl (trivial) (fun _ _ _ h=>h) rfl (by kernel_rfl) ?_ ?_
    ·intro w hSw;obtain _h:=hSw;go_simp
    try simp only[Act.put,qzF,qzG,qzH]
    refine xc6 (S:=fun w'=>w'.cell? ⟨w.heap.size+4,0,none⟩=some (.slice ac X.cz.length cc)/\w'.cell? ⟨w.heap.size+4,1,none⟩=some (.slice a5 r.1.heap.length c5)/\w'.cell? ⟨w.heap.size+4,2,none⟩=some (.int .i64 X.ez)/\w'.cell? ⟨vb,0,none⟩=some (.int .i64 r.2.1.k)/\w'.cell? ⟨vb,1,none⟩=some (.int .i64 r.2.1.n)/\w'.cell? ⟨w.heap.size+4,4,none⟩=some (.int .i64 r.1.sz_)) (late:=[12,13]) _ _ _ _ ?_
    refine tk 0 (⟨some 69,.move (.tmp 9),47,_,_,none⟩) (.pointer (some ⟨w.heap.size+4,0,none⟩)) rfl (hS0) (fun _ _ _ h=>h) rfl (by kernel_rfl) ?_ ?_
    ·intro w hSw;obtain⟨q0,q1,q2,q3,q4,q5⟩:=hSw;go_simp
    try simp only[Act.put,qzF,qzG,qzH]
    refine tk 1 (⟨some 70,.nilCheck (.tmp 69),0,_,_,none⟩) (.pointer (some ⟨w.heap.size+4,0,none⟩)) rfl (hS0) (fun _ _ _ h=>h) rfl (by kernel_rfl) ?_ ?_
    ·intro w hSw;obtain⟨q0,q1,q2,q3,q4,q5⟩:=hSw;go_simp
    try simp only[Act.put,qzF,qzG,qzH]
    refine tk 2 (⟨some 71,.fieldAddr 89 (.tmp 70) 0,0,_,_,none⟩) (.pointer (some ⟨w.heap.size+4,0,none⟩)) rfl (hS0) (fun _ _ _ h=>h) rfl (by kernel_rfl) ?_ ?_
    ·intro w hSw;obtain⟨q0,q1,q2,q3,q4,q5⟩:=hSw;go_simp
    try simp only[Act.put,qzF,qzG,qzH]
    refine tk 3 (⟨some 72,.load 25 (.tmp 71),25,_,_,none⟩) (WV (.slice ac X.cz.length cc) (.slice a5 r.1.heap.length c5) X.ez) rfl (hS0) (fun _ _ _ h=>h) rfl (by kernel_rfl) ?_ ?_
    ·intro w hSw;obtain⟨q0,q1,q2,q3,q4,q5⟩:=hSw;go_simp
    try simp only[Act.put,qzF,qzG,qzH]
    refine tk 4 (⟨some 73,.load 27 (.tmp 13),27,_,_,none⟩) (VV r.2.1) rfl (hS0) (fun _ _ _ h=>h) rfl (by kernel_rfl) ?_ ?_
    ·intro w hSw;obtain⟨q0,q1,q2,q3,q4,q5⟩:=hSw;go_simp
    try simp only[Act.put,qzF,qzG,qzH]
    refine tk 5 (⟨some 74,.move (.tmp 9),47,_,_,none⟩) (.pointer (some ⟨w.heap.size+4,0,none⟩)) rfl (hS0) (fun _ _ _ h=>h) rfl (by kernel_rfl) ?_ ?_
    ·intro w hSw;obtain⟨q0,q1,q2,q3,q4,q5⟩:=hSw;go_simp
    try simp only[Act.put,qzF,qzG,qzH]
    refine tk 6 (⟨some 75,.nilCheck (.tmp 74),0,_,_,none⟩) (.pointer (some ⟨w.heap.size+4,0,none⟩)) rfl (hS0) (fun _ _ _ h=>h) rfl (by kernel_rfl) ?_ ?_
    ·intro w hSw;obtain⟨q0,q1,q2,q3,q4,q5⟩:=hSw;go_simp
    try simp only[Act.put,qzF,qzG,qzH]
    refine tk 7 (⟨some 76,.fieldAddr 89 (.tmp 75) 2,0,_,_,none⟩) (.pointer (some ⟨w.heap.size+4,4,none⟩)) rfl (hS0) (fun _ _ _ h=>h) rfl (by kernel_rfl) ?_ ?_
    ·intro w hSw;obtain⟨q0,q1,q2,q3,q4,q5⟩:=hSw;go_simp
    try simp only[Act.put,qzF,qzG,qzH]
    refine tk 8 (⟨some 77,.load 3 (.tmp 76),3,_,_,none⟩) (.int .i64 r.1.sz_) rfl (hS0) (fun _ _ _ h=>h) rfl (by kernel_rfl) ?_ ?_
    ·intro w hSw;obtain⟨q0,q1,q2,q3,q4,q5⟩:=hSw;go_simp
    try simp only[Act.put,qzF,qzG,qzH]
    refine tk 9 (⟨some 78,.build 37 #[(0,.tmp 73),(2,.tmp 77)],37,_,_,none⟩) (.agg #[.int .i64 r.2.1.k,.int .i64 r.2.1.n,.int .i64 0,.int .i64 r.1.sz_]) rfl (hS0) (fun _ _ _ h=>h) rfl (by kernel_rfl) ?_ ?_
    ·intro w hSw;obtain⟨q0,q1,q2,q3,q4,q5⟩:=hSw;go_simp
    try simp only[Act.put,qzF,qzG,qzH]
    obtain⟨z0,z1,z2,z3,z4,z5⟩:=hSl _ (Below.refl _ V).drew;refine xag (rs:=[11]) (by kernel_rfl) (by simp) ?_
    intro i hi;simp only[List.mem_cons,List.not_mem_nil,or_false] at hi;subst hi;refine xa6 (o:=⟨none,.store 25 (.tmp 6) (.tmp 72),0,_,_,none⟩) rfl (fun K' hK=>?_)
    go_simp;refine hK _ _ (fun _=>?_) ?_
    ·exact⟨xkX z0 (by omega),xkX z1 (by omega),xkX z2 (by omega),xkX z3 (by omega),xkX z4 (by omega),xkX z5 (by omega)⟩
    clear hK K'
    try simp only[Act.put,qzF,qzG,qzH]
    refine xag (rs:=[12]) (by kernel_rfl) (by simp) ?_
    intro i hi;simp only[List.mem_cons,List.not_mem_nil,or_false] at hi;subst hi;refine xa6 (o:=⟨none,.store 37 (.tmp 7) (.tmp 78),0,_,_,none⟩) rfl (fun K' hK=>?_)
    go_simp;refine hK _ _ (fun h=>absurd h (by decide)) ?_
    clear hK K'
    try simp only[Act.put,qzF,qzG,qzH]
    refine xcz (S':=fun _=>True) (late':=[]) (by kernel_rfl) ?_
    refine tk 13 (⟨some 8,.assign (.tmp 79),47,_,_,none⟩) (.pointer (some ⟨w.heap.size+4,0,none⟩)) rfl (trivial) (fun _ _ _ h=>h) rfl (by kernel_rfl) ?_ ?_
    ·intro w hSw;obtain _h:=hSw;go_simp
    try simp only[Act.put,qzF,qzG,qzH]
    refine xa0 (by kernel_rfl) ?_ _
    try simp only[Act.put,qzF,qzG,qzH]
    go_wp2;rw[HPl.out];refine bodyPost_ret (v:=.tuple #[WV (.slice ac X.cz.length cc) (.slice a5 r.1.heap.length c5) X.ez,RnV ⟨r.1.heap,r.2.1,0,r.1.sz_⟩,.pointer (some ⟨w.heap.size+4,0,none⟩)]) ?_ rfl (HQ.out _ _ _ _ _ _ _).drew
    simp[results,Tryz.results13,go_sem,a0,a1,a2,b0,b1,b2,b3]
   ·rw[if_pos h0] at HPl;have HQ:=hid fun u0 u1 u2 v0 v1 v2 v3=>RuPost.fin (P:=fun b=>b<w.heap.size) (r:=⟨X.heap,xaU,r.2.2,r.1.sz_⟩) hB5 hCw hHw (by omega) (by omega) hM5 HSt.out.symm t52 t53 u0 u1 u2 v0 v1 v2 v3
    have h0':(r.2.2 == 0)=false:=by simpa using h0
    obtain⟨-,-,-,-,-,-,-,a0,a1,a2,af,b0,b1,b2,b3,bf,-⟩:=id hR5
    have hSl:∀ w',Below V.heap.size V w'->w'.cell? ⟨w.heap.size,0,none⟩=some (.slice ac X.cz.length cc)/\w'.cell? ⟨w.heap.size,1,none⟩=some (.slice ah X.heap.length ch)/\w'.cell? ⟨w.heap.size,2,none⟩=some (.int .i64 X.ez)/\w'.cell? ⟨w.heap.size+4,7,none⟩=some (.int .i64 r.2.2)/\w'.cell? ⟨w.heap.size+4,4,none⟩=some (.int .i64 r.1.sz_):=fun w' hb=>by
     have h:=hM5.later hb;have h':=hR5.later hb
     exact⟨h'.w0,h'.w1,h'.w2,h.c7,h.c4⟩
    have hS0:=hSl _ (Below.refl _ V).drew;clear h0
    go_upto_region 10 with (fail)
    refine xaY (S:=fun _=>True) [] (by kernel_rfl) ?_
    refine tk 10 (⟨some 68,.move (.tmp 9),47,_,_,none⟩) (.pointer (some ⟨w.heap.size+4,0,none⟩)) rfl (trivial) (fun _ _ _ h=>h) rfl (by kernel_rfl) ?_ ?_
    ·intro w hSw;obtain _h:=hSw;go_simp
    try simp only[Act.put,qzF,qzG,qzH]
    refine xc6 (S:=fun w'=>w'.cell? ⟨w.heap.size,0,none⟩=some (.slice ac X.cz.length cc)/\w'.cell? ⟨w.heap.size,1,none⟩=some (.slice ah X.heap.length ch)/\w'.cell? ⟨w.heap.size,2,none⟩=some (.int .i64 X.ez)/\w'.cell? ⟨w.heap.size+4,7,none⟩=some (.int .i64 r.2.2)/\w'.cell? ⟨w.heap.size+4,4,none⟩=some (.int .i64 r.1.sz_)) (late:=[12,13]) _ _ _ _ ?_
    refine tk 0 (⟨some 58,.load 25 (.tmp 3),25,_,_,none⟩) (WV (.slice ac X.cz.length cc) (.slice ah X.heap.length ch) X.ez) rfl (hS0) (fun _ _ _ h=>h) rfl (by kernel_rfl) ?_ ?_
    ·intro w hSw;obtain⟨q0,q1,q2,q3,q4⟩:=hSw;go_simp
    try simp only[Act.put,qzF,qzG,qzH]
    refine tk 1 (⟨some 59,.move (.tmp 9),47,_,_,none⟩) (.pointer (some ⟨w.heap.size+4,0,none⟩)) rfl (hS0) (fun _ _ _ h=>h) rfl (by kernel_rfl) ?_ ?_
    ·intro w hSw;obtain⟨q0,q1,q2,q3,q4⟩:=hSw;go_simp
    try simp only[Act.put,qzF,qzG,qzH]
    refine tk 2 (⟨some 60,.nilCheck (.tmp 59),0,_,_,none⟩) (.pointer (some ⟨w.heap.size+4,0,none⟩)) rfl (hS0) (fun _ _ _ h=>h) rfl (by kernel_rfl) ?_ ?_
    ·intro w hSw;obtain⟨q0,q1,q2,q3,q4⟩:=hSw;go_simp
    try simp only[Act.put,qzF,qzG,qzH]
    refine tk 3 (⟨some 61,.fieldAddr 89 (.tmp 60) 5,0,_,_,none⟩) (.pointer (some ⟨w.heap.size+4,7,none⟩)) rfl (hS0) (fun _ _ _ h=>h) rfl (by kernel_rfl) ?_ ?_
    ·intro w hSw;obtain⟨q0,q1,q2,q3,q4⟩:=hSw;go_simp
    try simp only[Act.put,qzF,qzG,qzH]
    refine tk 4 (⟨some 62,.load 33 (.tmp 61),33,_,_,none⟩) (.int .i64 r.2.2) rfl (hS0) (fun _ _ _ h=>h) rfl (by kernel_rfl) ?_ ?_
    ·intro w hSw;obtain⟨q0,q1,q2,q3,q4⟩:=hSw;go_simp
    try simp only[Act.put,qzF,qzG,qzH]
    refine tk 5 (⟨some 63,.move (.tmp 9),47,_,_,none⟩) (.pointer (some ⟨w.heap.size+4,0,none⟩)) rfl (hS0) (fun _ _ _ h=>h) rfl (by kernel_rfl) ?_ ?_
    ·intro w hSw;obtain⟨q0,q1,q2,q3,q4⟩:=hSw;go_simp
    try simp only[Act.put,qzF,qzG,qzH]
    refine tk 6 (⟨some 64,.nilCheck (.tmp 63),0,_,_,none⟩) (.pointer (some ⟨w.heap.size+4,0,none⟩)) rfl (hS0) (fun _ _ _ h=>h) rfl (by kernel_rfl) ?_ ?_
    ·intro w hSw;obtain⟨q0,q1,q2,q3,q4⟩:=hSw;go_simp
    try simp only[Act.put,qzF,qzG,qzH]
    refine tk 7 (⟨some 65,.fieldAddr 89 (.tmp 64) 2,0,_,_,none⟩) (.pointer (some ⟨w.heap.size+4,4,none⟩)) rfl (hS0) (fun _ _ _ h=>h) rfl (by kernel_rfl) ?_ ?_
    ·intro w hSw;obtain⟨q0,q1,q2,q3,q4⟩:=hSw;go_simp
    try simp only[Act.put,qzF,qzG,qzH]
    refine tk 8 (⟨some 66,.load 3 (.tmp 65),3,_,_,none⟩) (.int .i64 r.1.sz_) rfl (hS0) (fun _ _ _ h=>h) rfl (by kernel_rfl) ?_ ?_
    ·intro w hSw;obtain⟨q0,q1,q2,q3,q4⟩:=hSw;go_simp
    try simp only[Act.put,qzF,qzG,qzH]
    refine tk 9 (⟨some 67,.build 37 #[(1,.tmp 62),(2,.tmp 66)],37,_,_,none⟩) (.agg #[.int .i64 0,.int .i64 0,.int .i64 r.2.2,.int .i64 r.1.sz_]) rfl (hS0) (fun _ _ _ h=>h) rfl (by kernel_rfl) ?_ ?_
    ·intro w hSw;obtain⟨q0,q1,q2,q3,q4⟩:=hSw;go_simp
    try simp only[Act.put,qzF,qzG,qzH]
    obtain⟨z0,z1,z2,z3,z4⟩:=hSl _ (Below.refl _ V).drew;refine xag (rs:=[11]) (by kernel_rfl) (by simp) ?_
    intro i hi;simp only[List.mem_cons,List.not_mem_nil,or_false] at hi;subst hi;refine xa6 (o:=⟨none,.store 25 (.tmp 6) (.tmp 58),0,_,_,none⟩) rfl (fun K' hK=>?_)
    go_simp;refine hK _ _ (fun _=>?_) ?_
    ·exact⟨xkX z0 (by omega),xkX z1 (by omega),xkX z2 (by omega),xkX z3 (by omega),xkX z4 (by omega)⟩
    clear hK K'
    try simp only[Act.put,qzF,qzG,qzH]
    refine xag (rs:=[12]) (by kernel_rfl) (by simp) ?_
    intro i hi;simp only[List.mem_cons,List.not_mem_nil,or_false] at hi;subst hi;refine xa6 (o:=⟨none,.store 37 (.tmp 7) (.tmp 67),0,_,_,none⟩) rfl (fun K' hK=>?_)
    go_simp;refine hK _ _ (fun h=>absurd h (by decide)) ?_
    clear hK K'
    try simp only[Act.put,qzF,qzG,qzH]
    refine xcz (S':=fun _=>True) (late':=[]) (by kernel_rfl) ?_
    refine tk 13 (⟨some 8,.assign (.tmp 68),47,_,_,none⟩) (.pointer (some ⟨w.heap.size+4,0,none⟩)) rfl (trivial) (fun _ _ _ h=>h) rfl (by kernel_rfl) ?_ ?_
    ·intro w hSw;obtain _h:=hSw;go_simp
    try simp only[Act.put,qzF,qzG,qzH]
    refine xa0 (by kernel_rfl) ?_ _
    try simp only[Act.put,qzF,qzG,qzH]
    go_wp2;rw[HPl.out];refine bodyPost_ret (v:=.tuple #[WV (.slice ac X.cz.length cc) (.slice ah X.heap.length ch) X.ez,RnV ⟨X.heap,xaU,r.2.2,r.1.sz_⟩,.pointer (some ⟨w.heap.size+4,0,none⟩)]) ?_ rfl (HQ.out _ _ _ _ _ _ _).drew
    simp[results,Tryz.results13,go_sem,a0,a1,a2,b0,b1,b2,b3]
  ·have hj':fj<0:=by omega
   have HRn:=hid (HFn.out hj);have HPl':Hid (xcI X s name args fuel=⟨X.heap,xaU,10,0⟩):=by show _=_;rw[HPl.out,HRn.out];simp
   have HSt':Hid (xf5 X s name args fuel=[]):=by show _=_;rw[HSt.out,HRn.out]
   have HQ:=hid fun u0 u1 u2 v0 v1 v2 v3=>RuPost.fin (P:=fun b=>b<w.heap.size) (r:=⟨X.heap,xaU,10,0⟩) hB1 ((xbF hC).later xaz hB1) ((xcq hH).later xaD hB1) (by omega) (by omega) hM1 rfl (t0 2 (by omega)) (t0 3 (by omega)) u0 u1 u2 v0 v1 v2 v3
   obtain⟨n0,n1,n2,-,-,-,-,a0,a1,a2,af,b0,b1,b2,b3,bf,-⟩:=id hR1;clear hfm HFn HPl HSt hj;go_wp2;rw[HPl'.out,HSt'.out];refine bodyPost_ret (v:=.tuple #[WV (.slice ac X.cz.length cc) (.slice ah X.heap.length ch) X.ez,RnV ⟨X.heap,xaU,10,0⟩,.pointer (some ⟨w.heap.size+4,0,none⟩)]) ?_ rfl (HQ.out _ _ _ _ _ _ _)
   simp[results,Tryz.results13,go_sem,a0,a1,a2,b0,b1,b2,b3]
 ·have hw':(xap X s name args fuel == 0)=false:=by simpa using hw
  have hw2:(xap X s name args fuel != 0)=true:=by simpa using hw
  have HPl:Hid (xcI X s name args fuel=⟨X.heap,xaU,xap X s name args fuel,0⟩):=by show _=_;unfold xcI;rw[if_pos hw]
  have HSt:Hid (xf5 X s name args fuel=[]):=by show _=_;unfold xf5;rw[if_pos hw]
  generalize xap X s name args fuel=we at *;have HQ:=hid fun u0 u1 u2 v0 v1 v2 v3=>RuPost.fin (P:=fun b=>b<w.heap.size) (r:=⟨X.heap,xaU,we,0⟩) hB1 ((xbF hC).later xaz hB1) ((xcq hH).later xaD hB1) (by omega) (by omega) hM1 rfl (t0 2 (by omega)) (t0 3 (by omega)) u0 u1 u2 v0 v1 v2 v3
  obtain⟨n0,n1,n2,-,-,-,-,a0,a1,a2,af,b0,b1,b2,b3,bf,-⟩:=id hR1;clear hw;go_wp2;rw[HPl.out,HSt.out];refine bodyPost_ret (v:=.tuple #[WV (.slice ac X.cz.length cc) (.slice ah X.heap.length ch) X.ez,RnV ⟨X.heap,xaU,we,0⟩,.pointer (some ⟨w.heap.size+4,0,none⟩)]) ?_ rfl (HQ.out _ _ _ _ _ _ _)
  simp[results,Tryz.results13,go_sem,a0,a1,a2,b0,b1,b2,b3]
structure BoxW (w:World)(z:Nat):Prop where
 int:∀ k n,w.cell? ⟨z,k,none⟩=some (.int .i64 n)->∀ u,w.cell? ⟨z,k+1,none⟩≠some u
 str:∀ k s,w.cell? ⟨z,k,none⟩≠some (.string s)
theorem xn9 {w:World}{z:Nat}{a b:Option Addr}{n1 k1 n2 k2:Nat}{e:Int}{t:TypeId}{fr:Nat × Nat}(h:w.heap[z]?=some (.cells #[.slice a n1 k1,.slice b n2 k2,.int .i64 e] t fr)):BoxW w z:=by
 have hc:∀ k,w.cell? ⟨z,k,none⟩=(#[Value.slice a n1 k1,.slice b n2 k2,.int .i64 e]:Array Value)[k]?:=fun k=>qzB h
 refine⟨fun k n hk u hu=>?_,fun k s hk=>?_⟩
 ·rw[hc] at hk hu
  match k with
  | 0=>simp at hk
  | 1=>simp at hk
  | 2=>simp at hu
  | k+3=>simp at hk
 ·rw[hc] at hk
  match k with
  | 0=>simp at hk
  | 1=>simp at hk
  | 2=>simp at hk
  | k+3=>simp at hk
theorem xd2 {α:Type}{E:Lay α}{sz bytes:Nat}{P:Nat->Prop}{w:World}{z:Nat}{v:Value}{xs:List α}(h:IsRow E sz bytes P w v xs)(hE:∀ b o x,E P w (fun k=>w.cell? ⟨b,o+k,none⟩) x->E (fun b=>b≠z) w (fun k=>w.cell? ⟨b,o+k,none⟩) x/\b≠z):IsRow E sz bytes (fun b=>b≠z) w v xs:=by
 obtain⟨ad,cap,h1,h2,h3,h4,h5⟩:=h;refine⟨ad,cap,h1,h2,h3,h4,fun i x hx=>?_⟩
 obtain⟨b,o,e1,e2,e3⟩:=h5 i x hx;obtain⟨k1,k2⟩:=hE b _ _ e3
 exact⟨b,o,e1,k2,k1⟩
section
variable {P:Nat->Prop} {w:World} {z:Nat} {v:Value}
theorem xkT {xs:List QI}(hz:BoxW w z)(h:xa5 P w v xs):xa5 (fun b=>b≠z) w v xs:=xd2 h fun b o x hx=>⟨hx,fun e=>by subst e;exact hz.int _ _ hx.1 _ hx.2.1⟩
theorem xkQ {xs:List QV}(hz:BoxW w z)(h:xaB P w v xs):xaB (fun b=>b≠z) w v xs:=xd2 h fun b o x hx=>⟨hx,fun e=>by subst e;exact hz.int _ _ hx.1 _ hx.2⟩
theorem xjA {xs:List QM}(hz:BoxW w z)(h:xbd P w v xs):xbd (fun b=>b≠z) w v xs:=xd2 h fun b o x hx=>by
 obtain⟨h0,h1,h2,h3,h4,c,h5,h6⟩:=hx
 exact⟨⟨h0,h1,h2,h3,h4,c,h5,xkT hz h6⟩,fun e=>by subst e;exact hz.str _ _ h0⟩
theorem xg1 {xs:List QC}(hz:BoxW w z)(h:xai P w v xs):xai (fun b=>b≠z) w v xs:=xd2 h fun b o x hx=>by
 obtain⟨h0,h1,h2,h3,c,h5,h6⟩:=hx
 exact⟨⟨h0,h1,h2,h3,c,h5,xjA hz h6⟩,fun e=>by subst e;exact hz.str _ _ h0⟩
theorem xku {xs:List QO}(hz:BoxW w z)(h:xaC P w v xs):xaC (fun b=>b≠z) w v xs:=xd2 h fun b o x hx=>by
 obtain⟨h0,c,h5,h6⟩:=hx
 exact⟨⟨h0,c,h5,xkQ hz h6⟩,fun e=>by subst e;exact hz.int _ _ h0 _ h5⟩
end
structure CsR (X:QW)(w:World)(xb:Nat)(wr:World)(H:List QO)(l:List QE)(t:List QT)(cv hv lv tv:Value):Prop where
 bel:Below w.heap.size w wr
 lo:w.heap.size<=xb
 right:xaJ ⟨X.cz,H,X.ez⟩=0
 tru:TrueS ⟨X.cz,H,X.ez⟩ l
 cin:CIn ⟨X.cz,H,X.ez⟩ l t
 c:xai (fun b=>b≠xb) wr cv X.cz
 h:xaC (fun b=>b≠xb) wr hv H
 lc:xbk (fun b=>b≠xb) wr lv l
 tc:xbc (fun b=>b≠xb) wr tv t
 box:wr.heap[xb]?=some (.cells #[cv,hv,.int .i64 X.ez] 25 (0,0))
theorem xnP (X:QW):CIn X [] [] where
 c:=⟨by simp,fun x hx=>by simp at hx⟩
 cl:=fun x hx=>by cases hx
 t:=⟨by simp,fun x hx=>by simp at hx⟩
 tl:=fun x hx=>by cases hx
theorem bx3 {w:World}{z:Nat}{a b c:Value}{t:TypeId}(h:w.heap[z]?=some (.cells #[a,b,c] t (0,0))):(∀ o,w.frozen? ⟨z,o,none⟩=false)/\w.cell? ⟨z,0,none⟩=some a/\w.cell? ⟨z,1,none⟩=some b/\w.cell? ⟨z,2,none⟩=some c:=
 ⟨xam h,by rw[qzB h];rfl,by rw[qzB h];rfl,by rw[qzB h];rfl⟩
theorem bx4 {w:World}{z:Nat}{a b c d:Value}{t:TypeId}(h:w.heap[z]?=some (.cells #[a,b,c,d] t (0,0))):w.cell? ⟨z,0,none⟩=some a/\w.cell? ⟨z,1,none⟩=some b/\w.cell? ⟨z,2,none⟩=some c/\w.cell? ⟨z,3,none⟩=some d:=
 ⟨by rw[qzB h];rfl,by rw[qzB h];rfl,by rw[qzB h];rfl,by rw[qzB h];rfl⟩
theorem bx11 {w:World}{z:Nat}{v0 v1 v2 v3 v4 v5 v6 v7 v8 v9 v10:Value}{t:TypeId}(h:w.heap[z]?=some (.cells #[v0,v1,v2,v3,v4,v5,v6,v7,v8,v9,v10] t (0,0))):w.cell? ⟨z,0,none⟩=some v0/\w.cell? ⟨z,1,none⟩=some v1/\w.cell? ⟨z,2,none⟩=some v2/\w.cell? ⟨z,3,none⟩=some v3/\w.cell? ⟨z,4,none⟩=some v4/\w.cell? ⟨z,5,none⟩=some v5/\w.cell? ⟨z,6,none⟩=some v6/\w.cell? ⟨z,7,none⟩=some v7/\w.cell? ⟨z,8,none⟩=some v8:=by
 have hc:∀ k,w.cell? ⟨z,k,none⟩=(#[v0,v1,v2,v3,v4,v5,v6,v7,v8,v9,v10]:Array Value)[k]?:=fun k=>qzB h
 exact⟨hc 0,hc 1,hc 2,hc 3,hc 4,hc 5,hc 6,hc 7,hc 8⟩
theorem xoh {X:QW}{w F:World}{xb m:Nat}{H:List QO}{l:List QE}{t:List QT}{a1 a2 b1 b2:Option Addr}{n1 n2 k1 k2 m1 m2 j1 j2:Nat}{lv tv:Value}(bel:Below w.heap.size w F)(lo:w.heap.size<=xb)(right:xaJ ⟨X.cz,H,X.ez⟩=0)(tru:TrueS X l)(cin:CIn X l t)(hx:F.heap[xb]?=some (.cells #[.slice a1 n1 k1,.slice a2 n2 k2,.int .i64 X.ez] 25 (0,0)))
  (hC:xai Tru F (.slice b1 m1 j1) X.cz) (hH:xaC Tru F (.slice b2 m2 j2) H) (hm:xb<m) (h3:xbk (fun b=>m<=b) F lv l) (h4:xbc (fun b=>m<=b) F tv t) :
  CsR X w xb (((F.setCell ⟨xb,0,none⟩ (.slice b1 m1 j1)).setCell ⟨xb,1,none⟩ (.slice b2 m2 j2)).setCell ⟨xb,2,none⟩ (.int .i64 X.ez)).drew H l t (.slice b1 m1 j1) (.slice b2 m2 j2) lv tv:=by
 have hz:=xn9 hx;have k:Keeps (fun b=>b≠xb) F (((F.setCell ⟨xb,0,none⟩ (.slice b1 m1 j1)).setCell ⟨xb,1,none⟩ (.slice b2 m2 j2)).setCell ⟨xb,2,none⟩ (.int .i64 X.ez)):=xaq (xaq (xaq (Keeps.refl _ _) (fun h=>h rfl) _) (fun h=>h rfl) _) (fun h=>h rfl) _
 have hd:Below (((F.setCell ⟨xb,0,none⟩ (.slice b1 m1 j1)).setCell ⟨xb,1,none⟩ (.slice b2 m2 j2)).setCell ⟨xb,2,none⟩ (.int .i64 X.ez)).heap.size (((F.setCell ⟨xb,0,none⟩ (.slice b1 m1 j1)).setCell ⟨xb,1,none⟩ (.slice b2 m2 j2)).setCell ⟨xb,2,none⟩ (.int .i64 X.ez)) (((F.setCell ⟨xb,0,none⟩ (.slice b1 m1 j1)).setCell ⟨xb,1,none⟩ (.slice b2 m2 j2)).setCell ⟨xb,2,none⟩ (.int .i64 X.ez)).drew:=(Below.refl _ _).drew
 have hbox:(((F.setCell ⟨xb,0,none⟩ (.slice b1 m1 j1)).setCell ⟨xb,1,none⟩ (.slice b2 m2 j2)).setCell ⟨xb,2,none⟩ (.int .i64 X.ez)).heap[xb]?=some (.cells #[.slice b1 m1 j1,.slice b2 m2 j2,.int .i64 X.ez] 25 (0,0)):=by
  rw[xad (xad (xad hx _) _) _];rfl
 refine⟨((((bel.setCell (by simpa using lo) _).setCell (by simpa using lo) _).setCell (by simpa using lo) _)).drew,lo,right,tru,⟨cin.c,cin.cl,cin.t,cin.tl⟩,?_,?_,?_,?_,xac hbox hd⟩
 ·exact ((xg1 hz hC).keep xaz k fun _ h=>h).later xaz hd
 ·exact ((xku hz hH).keep xaD k fun _ h=>h).later xaD hd
 ·exact (((h3.mono xbw fun b hb=>(by omega:b≠xb))).keep xbw k fun _ h=>h).later xbw hd
 ·exact (((h4.mono xbZ fun b hb=>(by omega:b≠xb))).keep xbZ k fun _ h=>h).later xbZ hd
theorem xk0 {P Q:Nat->Prop}(X:QW)(L:List QCl)(cv hv v:Value)(w:World)(hC:xai P w cv X.cz)(hH:xaC P w hv X.heap)(hL:xhP Q w v L):Calls Tryz.prog 4 #[WV cv hv X.ez,v] w fun e w'=>e=.returned (.bool true)/\Below w.heap.size w w':=by
 obtain⟨ac,cc,rfl,-⟩:=id hC;obtain⟨ah,ch,rfl,-⟩:=id hH;obtain⟨ad,cap,rfl,hl1,hcap,hby,hrow⟩:=id hL;have hb0:=xaj w (.cells #[.slice ac X.cz.length cc,.slice ah X.heap.length ch,.int .i64 X.ez] 25);have hx0:(w.alloc (.cells #[.slice ac X.cz.length cc,.slice ah X.heap.length ch,.int .i64 X.ez] 25)).heap[w.heap.size]?=some (.cells #[.slice ac X.cz.length cc,.slice ah X.heap.length ch,.int .i64 X.ez] 25 (0,0)):=heap_alloc_new _ _;go_enter Tryz.func4,Tryz.ntmps4;go_wp2_with fail;generalize (w.alloc (.cells #[.slice ac X.cz.length cc,.slice ah X.heap.length ch,.int .i64 X.ez] 25))=W0 at *;refine (xi9 _).mono ?_
 rintro e w1 ⟨rfl,hb1⟩;replace hb0:=xah hb0 hb1;replace hx0:=xac hx0 hb1;clear hb1;obtain⟨-,s0,s1,s2⟩:=bx3 hx0;go_wp2_with fail;refine (xjO X _ _ _ (hC.later xaz hb0) (hH.later xaD hb0)).mono ?_;rintro e w2 ⟨rfl,hb2⟩;replace hb0:=xah hb0 hb2;replace hx0:=xac hx0 hb2;clear hb2 s0 s1 s2;obtain⟨-,s0,s1,s2⟩:=bx3 hx0
 by_cases hX:xaJ X=0
 ·rw[hX];have hbN:=xaj w2 (.cells #[.slice none 0 0,.slice none 0 0,.int .i64 0] 25);go_wp2
  go_loopg [5,6,22] L.length (fun g lv tv i wr=>∃ (j:Nat) (H:List QO) (l:List QE) (t:List QT) (cv hv:Value),j+g=L.length/\i=.int .i64 j/\CsR X w w2.heap.size wr H l t cv hv lv tv)
  case atStart=>
   have hs0:=hb0.size;have hb3:=xah hb0 (xaj w2 (.cells #[.slice ac X.cz.length cc,.slice ah X.heap.length ch,.int .i64 X.ez] 25));refine⟨0,X.heap,[],[],_,_,by omega,rfl,⟨hb3,hs0,hX,(fun x hx=>by cases hx),xnP _,((xbF hC).later xaz hb3).mono xaz fun b hb=>(by omega:b≠w2.heap.size),((xcq hH).later xaD hb3).mono xaD fun b hb=>(by omega:b≠w2.heap.size),⟨none,0,rfl,qzC _,by decide,by decide,fun i x hx=>by simp at hx⟩,⟨none,0,rfl,qzC _,by decide,by decide,fun i x hx=>by simp at hx⟩,heap_alloc_new _ _⟩⟩
  case round=>
   obtain⟨j,H,l,t,cv',hv',hj,rfl,hR⟩:=hrel;obtain⟨a1,k1,rfl,-⟩:=id hR.c;obtain⟨a2,k2,rfl,-⟩:=id hR.h;obtain⟨a3,k3,rfl,-⟩:=id hR.lc;obtain⟨a4,k4,rfl,-⟩:=id hR.tc;have HR:=hid hR;clear hx0 s0 s1 s2 hb0 hbN hC hH
   by_cases hlt:j<L.length
   ·obtain⟨b,o,rfl,-,hv0,hv1,hv2,hN,av,hv3,hA⟩:=hrow j L[j] (by simp[hlt])
    generalize L[j]=x at *;simp only[Nat.add_zero] at hv0;have u0:=qzA hR.bel hv0;have u1:=qzA hR.bel hv1;have u2:=qzA hR.bel hv2;have u3:=qzA hR.bel hv3;replace hA:=hA.later xaK hR.bel;obtain⟨aa,ca,rfl,-⟩:=id hA;clear hv0 hv1 hv2 hv3 hrow hR hL;have hj1:(j:Int)<(L.length:Int):=by omega
    have hj0:(0:Int)<=(j:Int):=by omega
    have hbB:=xaj wr (.cells #[.int .i64 x.s.k,.int .i64 x.s.n,.string x.name,.slice aa x.args.length ca] 30);have hzB:(wr.alloc (.cells #[.int .i64 x.s.k,.int .i64 x.s.n,.string x.name,.slice aa x.args.length ca] 30)).heap.size=wr.heap.size+1:=by simp
    have hpx:(wr.alloc (.cells #[.int .i64 x.s.k,.int .i64 x.s.n,.string x.name,.slice aa x.args.length ca] 30)).heap[wr.heap.size]?=some (.cells #[.int .i64 x.s.k,.int .i64 x.s.n,.string x.name,.slice aa x.args.length ca] 30 (0,0)):=heap_alloc_new _ _;have hbx:=xac HR.out.box hbB
    go_upto_region 11 with (fail)
    clear u0 u1 u2 u3;have hcR:=HR.out.c.later xaz hbB;have hhR:=HR.out.h.later xaD hbB;have hlR:=HR.out.lc.later xbw hbB;have htR:=HR.out.tc.later xbZ hbB;replace hA:=hA.later xaK hbB;generalize (wr.alloc (.cells #[.int .i64 x.s.k,.int .i64 x.s.n,.string x.name,.slice aa x.args.length ca] 30))=W at *;obtain⟨-,s0,s1,s2⟩:=bx3 hbx;obtain⟨p0,p1,p2,p3⟩:=bx4 hpx;go_wp2_with fail;refine (xfH ⟨X.cz,H,X.ez⟩ HR.out.right x.s x.name x.args 400 l t _ _ _ _ _ W hcR hhR hA hlR htR hN (HR.out.cin.few.mono (by omega))).mono ?_
    have hsame:=xit HR.out.right HR.out.tru HR.out.cin x.s x.name x.args 400;have hrt:=(xiu HR.out.right x.s x.name x.args 400).1;rintro e Y ⟨hbY,cvY,hvY,lvY,tvY,rfl,c1,c2,c3,c4⟩;generalize xdh (xaL ⟨X.cz,H,X.ez⟩ 400) ⟨X.cz,H,X.ez⟩ ⟨l,t,0,0⟩ x.s x.name x.args 400=r at *;obtain⟨e1,e2,e3⟩:=hsame;obtain⟨b1,j1,rfl⟩:∃ a c,cvY=.slice a X.cz.length c:=c1.get;obtain⟨b2,j2,rfl⟩:∃ a c,hvY=.slice a r.1.heap.length c:=c2.get;obtain⟨b3,j3,rfl⟩:∃ a c,lvY=.slice a r.2.cells.length c:=c3.get;obtain⟨b4,j4,rfl⟩:∃ a c,tvY=.slice a r.2.ts.length c:=c4.get;have HE1:=hid e1;rw[← e1] at hrt;have HE2:=hid e2;have HE3:=hid e3
    have HRT:=hid hrt;clear e1 e2 e3 hrt s0 s1 s2 p0 p1 p2 p3;dsimp only;have hbo:=xaj Y (.cells #[.slice b1 X.cz.length j1,.slice b2 r.1.heap.length j2,.int .i64 X.ez,.int .i64 r.1.v.k,.int .i64 r.1.v.n,.int .i64 r.1.err,.int .i64 r.1.sz_,.slice b3 r.2.cells.length j3,.slice b4 r.2.ts.length j4,.int .i64 r.2.hits,.int .i64 r.2.nots] 39);have hzo:(Y.alloc (.cells #[.slice b1 X.cz.length j1,.slice b2 r.1.heap.length j2,.int .i64 X.ez,.int .i64 r.1.v.k,.int .i64 r.1.v.n,.int .i64 r.1.err,.int .i64 r.1.sz_,.slice b3 r.2.cells.length j3,.slice b4 r.2.ts.length j4,.int .i64 r.2.hits,.int .i64 r.2.nots] 39)).heap.size=Y.heap.size+1:=by simp
    have hoB:(Y.alloc (.cells #[.slice b1 X.cz.length j1,.slice b2 r.1.heap.length j2,.int .i64 X.ez,.int .i64 r.1.v.k,.int .i64 r.1.v.n,.int .i64 r.1.err,.int .i64 r.1.sz_,.slice b3 r.2.cells.length j3,.slice b4 r.2.ts.length j4,.int .i64 r.2.hits,.int .i64 r.2.nots] 39)).heap[Y.heap.size]?=some (.cells #[.slice b1 X.cz.length j1,.slice b2 r.1.heap.length j2,.int .i64 X.ez,.int .i64 r.1.v.k,.int .i64 r.1.v.n,.int .i64 r.1.err,.int .i64 r.1.sz_,.slice b3 r.2.cells.length j3,.slice b4 r.2.ts.length j4,.int .i64 r.2.hits,.int .i64 r.2.nots] 39 (0,0)):=heap_alloc_new _ _;have hbYo:=xah hbY hbo;replace hbx:=xac hbx hbYo
    replace hpx:=xac hpx hbYo;replace hcR:=hcR.later xaz hbYo;replace hhR:=hhR.later xaD hbYo;replace hA:=hA.later xaK hbYo;replace c1:=c1.later xaz hbo;replace c2:=c2.later xaD hbo;replace c3:=c3.later xbw hbo;replace c4:=c4.later xbZ hbo;have hzY:=hbY.size;clear hlR htR hbY hbo
    go_upto_region 12 with (fail)
    generalize (Y.alloc (.cells #[.slice b1 X.cz.length j1,.slice b2 r.1.heap.length j2,.int .i64 X.ez,.int .i64 r.1.v.k,.int .i64 r.1.v.n,.int .i64 r.1.err,.int .i64 r.1.sz_,.slice b3 r.2.cells.length j3,.slice b4 r.2.ts.length j4,.int .i64 r.2.hits,.int .i64 r.2.nots] 39))=Z at *;obtain⟨-,s0,s1,s2⟩:=bx3 hbx;obtain⟨p0,p1,p2,p3⟩:=bx4 hpx;go_wp2_with fail;refine (xms ⟨X.cz,H,X.ez⟩ HR.out.right x.s x.name x.args 400 _ _ _ Z hcR hhR hA hN).mono ?_;rintro e V ⟨hbV,cv5,hv5,T5,mm,deep,err,hv',sv,ov,rfl,hCB,hHB,-,-⟩;dsimp only at *;rw[← HE1.out] at hHB ⊢;obtain⟨b5,j5,rfl⟩:∃ a c,cv5=.slice a X.cz.length c:=hCB.get
    obtain⟨b6,j6,rfl⟩:∃ a c,hv5=.slice a r.1.heap.length c:=hHB.get;clear s0 s1 s2 p0 p1 p2 p3 hcR hhR hA;have hby2:=xca V (.cells #[.slice b5 X.cz.length j5,.slice b6 r.1.heap.length j6,.int .i64 X.ez] 25) (.cells #[.int .i64 r.1.v.k,.int .i64 r.1.v.n,.int .i64 r.1.err,.int .i64 r.1.sz_] 37);have hzy:((V.alloc (.cells #[.slice b5 X.cz.length j5,.slice b6 r.1.heap.length j6,.int .i64 X.ez] 25)).alloc (.cells #[.int .i64 r.1.v.k,.int .i64 r.1.v.n,.int .i64 r.1.err,.int .i64 r.1.sz_] 37)).heap.size=V.heap.size+2:=by simp
    have hyB:((V.alloc (.cells #[.slice b5 X.cz.length j5,.slice b6 r.1.heap.length j6,.int .i64 X.ez] 25)).alloc (.cells #[.int .i64 r.1.v.k,.int .i64 r.1.v.n,.int .i64 r.1.err,.int .i64 r.1.sz_] 37)).heap[V.heap.size]?=some (.cells #[.slice b5 X.cz.length j5,.slice b6 r.1.heap.length j6,.int .i64 X.ez] 25 (0,0)):=xac (heap_alloc_new V _) (xaj _ _)
    have hrB:((V.alloc (.cells #[.slice b5 X.cz.length j5,.slice b6 r.1.heap.length j6,.int .i64 X.ez] 25)).alloc (.cells #[.int .i64 r.1.v.k,.int .i64 r.1.v.n,.int .i64 r.1.err,.int .i64 r.1.sz_] 37)).heap[V.heap.size+1]?=some (.cells #[.int .i64 r.1.v.k,.int .i64 r.1.v.n,.int .i64 r.1.err,.int .i64 r.1.sz_] 37 (0,0)):=by
     have:=heap_alloc_new (V.alloc (.cells #[.slice b5 X.cz.length j5,.slice b6 r.1.heap.length j6,.int .i64 X.ez] 25)) (.cells #[.int .i64 r.1.v.k,.int .i64 r.1.v.n,.int .i64 r.1.err,.int .i64 r.1.sz_] 37)
     simpa using this
    have hbVy:=xah hbV hby2;replace hbx:=xac hbx hbVy;replace hoB:=xac hoB hbVy;replace hCB:=hCB.later xaz hby2;replace hHB:=hHB.later xaD hby2;replace c1:=c1.later xaz hbVy;replace c2:=c2.later xaD hbVy;replace c3:=c3.later xbw hbVy;replace c4:=c4.later xbZ hbVy;have hzV:=hbV.size;have hbel:Below w.heap.size w ((V.alloc (.cells #[.slice b5 X.cz.length j5,.slice b6 r.1.heap.length j6,.int .i64 X.ez] 25)).alloc (.cells #[.int .i64 r.1.v.k,.int .i64 r.1.v.n,.int .i64 r.1.err,.int .i64 r.1.sz_] 37)):=xah (xah (xah HR.out.bel hbB) hbYo) hbVy;clear hbV hby2 hbVy hbYo hpx hbB
    go_upto_region 13 with (fail)
    generalize ((V.alloc (.cells #[.slice b5 X.cz.length j5,.slice b6 r.1.heap.length j6,.int .i64 X.ez] 25)).alloc (.cells #[.int .i64 r.1.v.k,.int .i64 r.1.v.n,.int .i64 r.1.err,.int .i64 r.1.sz_] 37))=U at *;obtain⟨-,y0,y1,y2⟩:=bx3 hyB;obtain⟨r0,r1,r2,r3⟩:=bx4 hrB;obtain⟨o0,o1,o2,o3,o4,o5,o6,o7,o8⟩:=bx11 hoB;have hne:∀ w,(binOp .neq 37 (RnV r.1) (RnV r.1)).run Tryz.prog w=.ok (.bool false) w:=fun w=>by rw[neqR,xmd];rfl
    go_wp2_with fail;refine (xlT ⟨X.cz,r.1.heap,X.ez⟩ _ _ _ _ U c1 c2 hCB hHB).mono ?_;rintro e F ⟨rfl,hbF⟩;replace hbx:=xac hbx hbF;replace hyB:=xac hyB hbF;replace hoB:=xac hoB hbF;replace hCB:=hCB.later xaz hbF;replace hHB:=hHB.later xaD hbF;replace c3:=c3.later xbw hbF;replace c4:=c4.later xbZ hbF;replace hbel:=xah hbel hbF;have hzF:=hbF.size;clear y0 y1 y2 r0 r1 r2 r3 o0 o1 o2 o3 o4 o5 o6 o7 o8 hrB hbF c1 c2 hne;obtain⟨sf,s0,s1,s2⟩:=bx3 hbx;obtain⟨-,y0,y1,y2⟩:=bx3 hyB;obtain⟨o0,o1,o2,o3,o4,o5,o6,o7,o8⟩:=bx11 hoB;go_wp2
    go_region
    go_wp2
    go_roundg (gk-1)
    case measure=>omega
    case rel=>
     have hx2:w2.heap.size<W.heap.size:=by have:=xaf HR.out.box;omega
     exact⟨j+1,r.1.heap,r.2.cells,r.2.ts,_,_,by omega,by go_num,xoh hbel HR.out.lo HRT.out HE2.out ⟨HE3.out.c,HE3.out.cl,HE3.out.t,HE3.out.tl⟩ hbx hCB hHB hx2 c3 c4⟩
   ·obtain rfl:j=L.length:=by omega
    clear hrow;go_wp2;refine bodyPost_ret (v:=.bool true) ?_ rfl ⟨rfl,HR.out.bel⟩
    simp[results,Tryz.results4,go_sem]
 ·go_wp2;refine bodyPost_ret (v:=.bool true) ?_ rfl ⟨rfl,hb0⟩
  simp[results,Tryz.results4,go_sem]
end Go.Proofs.YtapbeiccodnniaaGreat
