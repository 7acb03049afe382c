/- A part. -/
import Derived.Test.YtdfbgpiikeheiaaQ11
import Derived.Test.YtdfbgpiikeheiaaQ12
namespace Go.Proofs.Ytdfbgpiikeheiaa
open Go.ChangeShapes Go.WideShapes Go.ChangeAt Go.RowKit
set_option linter.unusedSimpArgs false
set_option linter.unusedVariables false
set_option maxHeartbeats 8000000
set_option maxRecDepth 8000
def a9G:QM:=⟨⟨#[103]⟩,0,0,0,[⟨4,0,0,0,⟨#[]⟩⟩,⟨17,0,0,0,⟨#[]⟩⟩]⟩
def a9M:QM:=⟨⟨#[109]⟩,0,0,0,[⟨1,0,0,0,⟨#[]⟩⟩,⟨14,0,0,0,⟨#[103]⟩⟩,⟨17,0,0,0,⟨#[]⟩⟩]⟩
def a9X (ms:List QM)(ep:Int):QW:=⟨xio++[⟨⟨#[65]⟩,0,1,ms⟩],[],ep⟩
theorem xrI:xcM xrh.cz ⟨#[65]⟩ 0 1=0:=by kernel_rfl
theorem xjR {xs:List QC}(h:xs.all (fun x=>decide (0<=x.slots) && decide (x.slots<=6))=true):xbY xs:=fun i x hx=>by
 have:=List.all_eq_true.1 h x (List.mem_of_getElem? hx)
 simpa using this
theorem xrK:xbY xrh.cz:=xjR (by kernel_rfl)
theorem xrW:xii (a9X [] 0) 4 ⟨⟨#[65]⟩,0,1,[]⟩ a9G=a9X [a9G] 1:=by kernel_rfl
theorem xrQ:xii (a9X [a9G] 1) 4 ⟨⟨#[65]⟩,0,1,[a9G]⟩ a9M=a9X [a9G,a9M] 2:=by kernel_rfl
def xkI:List QM->Bool
 | []=>true
 | [_]=>true
 | a :: b :: r=>ltN a.name b.name && xkI (b :: r)
theorem xic:∀ {xs:List QM},xkI xs=true->RisesM xs
 | [],_=>fun i x y hx _=>by simp at hx
 | [a],_=>fun i x y hx hy=>by simp at hy
 | a :: b :: r,h=>fun i x y hx hy=>by
  unfold xkI at h;simp only[Bool.and_eq_true] at h
  cases i with
  | zero=>simp at hx hy;subst hx hy;exact h.1
  | succ i=>exact xic h.2 i x y (by simpa using hx) (by simpa using hy)
theorem xgS {xs:List QC}(h:xs.all (fun x=>xkI x.mz)=true):xiX xs:=fun i x hx=>xic (List.all_eq_true.1 h x (List.mem_of_getElem? hx))
theorem xrU:xiX (a9X [] 0).cz:=xgS (by kernel_rfl)
theorem xrH:xiX (a9X [a9G] 1).cz:=xgS (by kernel_rfl)
theorem xrd {P:Nat->Prop}(cv hv:Value)(w:World)(hh:xai P w cv xrh.cz)(hH:xaD P w hv []):Calls Try.prog 28 #[WV cv hv 0,.string ⟨#[65]⟩,.int .i64 0,.int .i64 1] w fun e w'=>∃ a k,e=.returned (.tuple #[WV (.slice a 5 k) hv 0,.int .i64 4,.int .i64 0])/\xai (In w') w' (.slice a 5 k) (a9X [] 0).cz/\xaD (In w') w' hv []/\Below w.heap.size w w':=by
 refine (xnE xrh ⟨#[65]⟩ 0 1 cv hv w (by decide) hh hH xrK).mono ?_
 rintro e w' ⟨⟨h,-⟩ | ⟨h,cv',rfl,hC⟩,hb⟩
 ·exact absurd xrI h
 ·obtain⟨a,k,rfl⟩:=hC.get
  exact⟨a,k,rfl,xca hC,xc8 (hH.later xaE hb),hb⟩
theorem xpn {P:Nat->Prop}(X Y:QW)(x:QC)(m:QM)(cv hv mv:Value)(w:World)(ep:Int)(hep:X.ez=ep)(ep':Int)(hep':Y.ez=ep')(hx:X.cz[4]?=some x)(hno:¬ (xcw x.mz m.name<0/\8<=x.mz.length))(hY:xii X 4 x m=Y)(hl:Y.cz.length=5)(hn:m.name.size<=140737488351232)(hR:xiX X.cz)(hXh:X.heap=[])
  (hh:xai P w cv X.cz) (hH:xaD P w hv []) (hM:xaR P w mv m.code):Calls Try.prog 29 #[WV cv hv ep,.int .i64 4,MV m mv] w fun e w'=>∃ a k,e=.returned (.tuple #[WV (.slice a 5 k) hv ep',.int .i64 0])/\xai (fun b=>P b\/w.heap.size<=b) w' (.slice a 5 k) Y.cz/\Below w.heap.size w w':=by
 subst hep hep';refine (xik X 4 m cv hv mv w hh (by rw[hXh];exact hH) hM hn hR).mono ?_
 rintro e w' ⟨⟨h,-⟩ | ⟨k,x',hk,hx',h⟩,hb⟩
 ·have:=xae hx
  simp[xgI] at h
  omega
 ·obtain rfl:k=4:=by omega
  rw[hx] at hx';cases hx'
  rcases h with ⟨h1,h2,-⟩ | ⟨-,cv',rfl,hC⟩
  ·exact absurd ⟨h1,h2⟩ hno
  ·rw[hY] at hC;obtain⟨a,k',rfl⟩:=hC.get;rw[hl] at hC ⊢;refine⟨a,k',?_,hC,hb⟩;rw[← hY];rfl
theorem row9 {α:Type}{E:Lay α}{sz bytes:Nat}(G:Good E sz){P:Nat->Prop}(w:World)(cs:List Value)(t:TypeId)(xs:List α)(h:∀ w',Cells E sz P w' cs xs)(hP:P w.heap.size)(hs:xs.length*bytes<=140737488351232)(hm:xs.length<=maxLen):IsRow E sz bytes P (w.alloc (.cells cs.toArray t)) (.slice (some ⟨w.heap.size,0,none⟩) xs.length xs.length) xs:=
 Cells.row (h _) G hP (qzJ w _) (by rw[List.take_of_length_le (by simp[(h w).1])]) (qzC _) hm hs
def a9Gc:List Value:=[.int .i64 4,.int .i64 0,.int .i64 0,.int .i64 0,.string ⟨#[]⟩,.int .i64 17,.int .i64 0,.int .i64 0,.int .i64 0,.string ⟨#[]⟩]
def a9Mc:List Value:=[.int .i64 1,.int .i64 0,.int .i64 0,.int .i64 0,.string ⟨#[]⟩,.int .i64 14,.int .i64 0,.int .i64 0,.int .i64 0,.string ⟨#[103]⟩,.int .i64 17,.int .i64 0,.int .i64 0,.int .i64 0,.string ⟨#[]⟩]
theorem xdK {P:Nat->Prop}{w:World}(x:QI)(h:x.name.size<=140737488351232):Cells xeu 5 P w [.int .i64 x.op,.int .i64 x.a,.int .i64 x.b,.int .i64 x.c,.string x.name] [x]:=
 Cells.one xa2 rfl ⟨rfl,rfl,rfl,rfl,rfl,h⟩
theorem xnJ {P:Nat->Prop}(w:World):Cells xeu 5 P w a9Gc a9G.code:=
 (xdK (w:=w) ⟨4,0,0,0,⟨#[]⟩⟩ (by decide)).append xa2 (xdK ⟨17,0,0,0,⟨#[]⟩⟩ (by decide))
theorem xlP {P:Nat->Prop}(w:World):Cells xeu 5 P w a9Mc a9M.code:=
 ((xdK (w:=w) ⟨1,0,0,0,⟨#[]⟩⟩ (by decide)).append xa2 (xdK ⟨14,0,0,0,⟨#[103]⟩⟩ (by decide))).append xa2 (xdK ⟨17,0,0,0,⟨#[]⟩⟩ (by decide))
theorem xsF {w w':World}{B:Nat}{o:Obj}(h:w.heap[B]?=some o)(hb:Below w.heap.size w w'):w'.heap[B]?=some o:=by rw[hb.block _ (xal h)];exact h
theorem xsG {w:World}{B:Nat}{x y z:Value}{t:TypeId}(h:w.heap[B]?=some (.cells #[x,y,z] t (0,0))):(w.cell? ⟨B,0,none⟩=some x/\w.cell? ⟨B,1,none⟩=some y/\w.cell? ⟨B,2,none⟩=some z)/\(∀ o,w.frozen? ⟨B,o,none⟩=false):=by
 refine⟨⟨?_,?_,?_⟩,fun o=>by unfold World.frozen?;simp[h]⟩<;>rw[qzB h]<;>rfl
theorem xsp {w:World}{B:Nat}{x y z u v r:Value}{t:TypeId}(h:w.heap[B]?=some (.cells #[x,y,z] t (0,0))):(((w.setCell ⟨B,0,none⟩ u).setCell ⟨B,1,none⟩ v).setCell ⟨B,2,none⟩ r).heap[B]?=some (.cells #[u,v,r] t (0,0)):=by
 rw[xag (xag (xag h _) _) _];rfl
structure A9 (w:World)(B:Nat)(cv hv:Value)(X:QW)(w':World):Prop where
 box:w'.heap[B]?=some (.cells #[cv,hv,.int .i64 X.ez] 25 (0,0))
 C:xai (fun b=>b≠B) w' cv X.cz
 H:xaD (fun b=>b≠B) w' hv []
 bel:Below w.heap.size w w'
theorem A9.later {w:World}{B:Nat}{cv hv:Value}{X:QW}{w' w'':World}(h:A9 w B cv hv X w')(hb:Below w'.heap.size w' w''):A9 w B cv hv X w'':=
 ⟨xsF h.box hb,h.C.later xaA hb,h.H.later xaE hb,xaf h.bel hb⟩
theorem A9.set {w:World}{B:Nat}{cv hv cv':Value}{X Y:QW}{w1 w':World}(h:A9 w B cv hv X w1)(hb:Below w1.heap.size w1 w')(hC:xai (fun b=>b≠B\/w1.heap.size<=b) w' cv' Y.cz)(hB:w.heap.size<=B):A9 w B cv' hv Y (((w'.setCell ⟨B,0,none⟩ cv').setCell ⟨B,1,none⟩ hv).setCell ⟨B,2,none⟩ (.int .i64 Y.ez)):=by
 have hk:Keeps (fun b=>b≠B) w' (((w'.setCell ⟨B,0,none⟩ cv').setCell ⟨B,1,none⟩ hv).setCell ⟨B,2,none⟩ (.int .i64 Y.ez)):=
  xaC (xaC (xaC (Keeps.refl _ _) (by simp) _) (by simp) _) (by simp) _
 have hlt:=xal h.box;refine⟨xsp (xsF h.box hb),(hC.mono (Q:=fun b=>b≠B) xaA fun b hb=>?_).keep xaA hk fun _ h=>h,(h.H.later xaE hb).keep xaE hk fun _ h=>h,xbd (xaf h.bel hb) hB _ _ _⟩
 rcases hb with h | h
 ·exact h
 ·omega
abbrev a9Z:QW:=a9X [a9G,a9M] 2
theorem xhW:xaH a9Z=0:=by kernel_rfl
theorem a9_m:xaI a9Z.cz 4 1=some a9M:=by kernel_rfl
def a9F:Fst:=⟨4,⟨#[109]⟩,2,1,(xce a9Z 4 a9M [-1,4,-1]).1.code⟩
theorem xsN:xce a9Z 4 a9M [-1,4,-1]=(a9F,true):=by kernel_rfl
theorem xsP:xce a9Z 4 a9M []=(xdw,false):=by kernel_rfl
theorem xsJ:a9F.code.length=7:=by kernel_rfl
theorem xsM:a9F.code[1]?=some (ins 18 4 0 1):=by kernel_rfl
theorem xss {P Q:Nat->Prop}(cv hv sv:Value)(w:World)(hC:xai P w cv a9Z.cz)(hH:xaD P w hv [])(hS:xc5 Q w sv [-1,4,-1]) :
  Calls Try.prog 11 #[WV cv hv 2,.int .i64 4,.int .i64 1,sv] w fun e w'=>∃ g o cap,e=.returned (.tuple #[.agg #[.int .i64 4,.string ⟨#[109]⟩,.int .i64 2,.int .i64 1,.slice (some ⟨g,o,none⟩) 7 cap],.bool true])/\7<=cap/\cap<=9223372036854775807/\w'.cell? ⟨g,o+5,none⟩=some (.int .i64 18)/\Below w.heap.size w w':=by
 have:=xjB a9Z xhW 4 1 a9M a9_m [-1,4,-1] cv hv sv w hC hH hS;rw[xsN] at this;refine this.mono ?_;rintro e w' ⟨a,cap,rfl,hI,hb⟩;dsimp only at hI ⊢;rw[xsJ] at hI ⊢;obtain⟨a',cap',e',h1,h2,-,hrow⟩:=hI;simp only[Value.slice.injEq] at e';obtain⟨rfl,-,rfl⟩:=e';obtain⟨g,o,rfl,-,y0,-⟩:=hrow 1 _ xsM;rw[xsJ] at h1;unfold maxLen at h2
 exact⟨g,o,cap,rfl,h1,by omega,by simpa using y0,hb⟩
theorem xsC {P:Nat->Prop}(cv hv:Value)(w:World)(hC:xai P w cv a9Z.cz)(hH:xaD P w hv []) :
  Calls Try.prog 11 #[WV cv hv 2,.int .i64 4,.int .i64 1,.slice none 0 0] w fun e w'=>∃ a cap,e=.returned (.tuple #[.agg #[.int .i64 0,.string ⟨#[]⟩,.int .i64 0,.int .i64 0,.slice a 0 cap],.bool false])/\Below w.heap.size w w':=by
 have:=xjB (Q:=P) a9Z xhW 4 1 a9M a9_m [] cv hv (.slice none 0 0) w hC hH xbn;rw[xsP] at this;refine this.mono ?_;rintro e w' ⟨a,cap,rfl,-,hb⟩
 exact⟨a,cap,rfl,hb⟩
theorem xsH (w:World):xc5 (fun _=>True) (w.alloc (.cells #[.int .i64 (-1),.int .i64 4,.int .i64 (-1)] 3)) (.slice (some ⟨w.heap.size,0,none⟩) 3 3) [-1,4,-1]:=by
 have hg:=qzJ w (.cells #[.int .i64 (-1),.int .i64 4,.int .i64 (-1)] 3);refine⟨_,_,rfl,by decide,by decide,by decide,fun i x hx=>⟨w.heap.size,0,rfl,trivial,?_⟩⟩
 show (w.alloc _).cell? ⟨w.heap.size,0+i*1+0,none⟩=_
 rw[qzB hg]
 match i,hx with
 | 0,hx=>cases hx;rfl
 | 1,hx=>cases hx;rfl
 | 2,hx=>cases hx;rfl
 | i+3,hx=>simp at hx
theorem xr9 (w:World):Calls Try.prog 8 #[] w fun e w'=>e=.returned (.bool true)/\Below w.heap.size w w':=by
 go_enter Try.func8,Try.ntmps8;go_wp2_with fail;refine (xkT _).mono ?_;rintro e w1 ⟨cv,hv,rfl,hC,hH,hB⟩;obtain⟨x1,y1,rfl⟩:=hC.get;obtain⟨x2,y2,rfl⟩:=hH.get;go_wp2_with fail;refine (xrd _ _ _ hC hH).mono ?_;rintro e w2 ⟨a1,k1,rfl,hC1,hH1,hb⟩;replace hB:=xaf hB hb;clear hb hC hH
 have hA0:A9 w w2.heap.size (.slice a1 5 k1) (.slice x2 0 y2) (a9X [] 0) (w2.alloc (.cells #[.slice a1 5 k1,.slice x2 0 y2,.int .i64 0] 25)):=
  ⟨qzJ _ _,(hC1.later xaA (xak _ _)).mono xaA fun b h=>by have h':b<w2.heap.size:=h;omega,(hH1.later xaE (xak _ _)).mono xaE fun b h=>by have h':b<w2.heap.size:=h;omega,xaf hB (xak _ _)⟩
 have hz:w.heap.size<=w2.heap.size:=hB.size;clear hB hC1 hH1
 go_upto_region 2 with (fail)
 generalize (w2.alloc (.cells #[.slice a1 5 k1,.slice x2 0 y2,.int .i64 0] 25))=W3 at *;generalize w2.heap.size=B at *;obtain⟨⟨q0,q1,q2⟩,qf⟩:=xsG hA0.box;have hlt:=xal hA0.box
 have hG:xaR (fun b=>b≠B) (W3.alloc (.cells #[.int .i64 4,.int .i64 0,.int .i64 0,.int .i64 0,.string ⟨#[]⟩,.int .i64 17,.int .i64 0,.int .i64 0,.int .i64 0,.string ⟨#[]⟩] 59)) (.slice (some ⟨W3.heap.size,0,none⟩) 2 2) a9G.code:=
  row9 xa2 W3 a9Gc 59 a9G.code (fun w'=>xnJ w') (by omega) (by decide) (by decide)
 have hb3:=xak W3 (.cells #[.int .i64 4,.int .i64 0,.int .i64 0,.int .i64 0,.string ⟨#[]⟩,.int .i64 17,.int .i64 0,.int .i64 0,.int .i64 0,.string ⟨#[]⟩] 59);replace hA0:=hA0.later hb3;go_wp2_with fail;clear q0 q1 q2 qf;refine (xpn (a9X [] 0) (a9X [a9G] 1) ⟨⟨#[65]⟩,0,1,[]⟩ a9G _ _ _ _ 0 rfl 1 rfl rfl (by simp) xrW rfl (by decide) xrU rfl hA0.C hA0.H hG).mono ?_
 rintro e w4 ⟨a2,k2,rfl,hC2,hb4⟩;have hA1:A9 w B (.slice a2 5 k2) (.slice x2 0 y2) (a9X [a9G] 1) (((w4.setCell ⟨B,0,none⟩ (.slice a2 5 k2)).setCell ⟨B,1,none⟩ (.slice x2 0 y2)).setCell ⟨B,2,none⟩ (.int .i64 1)):=hA0.set (Y:=a9X [a9G] 1) hb4 hC2 hz;obtain⟨⟨q0,q1,q2⟩,qf⟩:=xsG (xsF hA0.box hb4);clear hC2 hG hA0 hb4 hb3 hlt
 go_upto_region 3 with (fail)
 generalize (((w4.setCell ⟨B,0,none⟩ (.slice a2 5 k2)).setCell ⟨B,1,none⟩ (.slice x2 0 y2)).setCell ⟨B,2,none⟩ (.int .i64 1))=W5 at *;clear q0 q1 q2 qf;obtain⟨⟨q0,q1,q2⟩,qf⟩:=xsG hA1.box;have hlt:=xal hA1.box
 have hG:xaR (fun b=>b≠B) (W5.alloc (.cells #[.int .i64 1,.int .i64 0,.int .i64 0,.int .i64 0,.string ⟨#[]⟩,.int .i64 14,.int .i64 0,.int .i64 0,.int .i64 0,.string ⟨#[103]⟩,.int .i64 17,.int .i64 0,.int .i64 0,.int .i64 0,.string ⟨#[]⟩] 59)) (.slice (some ⟨W5.heap.size,0,none⟩) 3 3) a9M.code:=
  row9 xa2 W5 a9Mc 59 a9M.code (fun w'=>xlP w') (by omega) (by decide) (by decide)
 have hb5:=xak W5 (.cells #[.int .i64 1,.int .i64 0,.int .i64 0,.int .i64 0,.string ⟨#[]⟩,.int .i64 14,.int .i64 0,.int .i64 0,.int .i64 0,.string ⟨#[103]⟩,.int .i64 17,.int .i64 0,.int .i64 0,.int .i64 0,.string ⟨#[]⟩] 59);replace hA1:=hA1.later hb5;go_wp2_with fail;clear q0 q1 q2 qf;refine (xpn (a9X [a9G] 1) (a9X [a9G,a9M] 2) ⟨⟨#[65]⟩,0,1,[a9G]⟩ a9M _ _ _ _ 1 rfl 2 rfl rfl (by simp) xrQ rfl (by decide) xrH rfl hA1.C hA1.H hG).mono ?_
 rintro e w6 ⟨a3,k3,rfl,hC3,hb6⟩;have hA2:A9 w B (.slice a3 5 k3) (.slice x2 0 y2) (a9X [a9G,a9M] 2) (((w6.setCell ⟨B,0,none⟩ (.slice a3 5 k3)).setCell ⟨B,1,none⟩ (.slice x2 0 y2)).setCell ⟨B,2,none⟩ (.int .i64 2)):=hA1.set (Y:=a9X [a9G,a9M] 2) hb6 hC3 hz;obtain⟨⟨q0,q1,q2⟩,qf⟩:=xsG (xsF hA1.box hb6);clear hC3 hG hA1 hb5 hb6 hlt
 go_upto_region 4 with (fail)
 generalize (((w6.setCell ⟨B,0,none⟩ (.slice a3 5 k3)).setCell ⟨B,1,none⟩ (.slice x2 0 y2)).setCell ⟨B,2,none⟩ (.int .i64 2))=W7 at *;clear q0 q1 q2 qf;have hI:=xsH W7;have hb7:=xak W7 (.cells #[.int .i64 (-1),.int .i64 4,.int .i64 (-1)] 3);obtain⟨⟨q0,q1,q2⟩,-⟩:=xsG hA2.box;replace hA2:=hA2.later hb7;go_wp2_with fail;clear q0 q1 q2;refine (xss _ _ _ _ hA2.C hA2.H hI).mono ?_;rintro e w8 ⟨g,o,cap,rfl,hc7,hcm,y0,hb8⟩;replace hA2:=hA2.later hb8;clear hb8 hI hb7;have hb9:=xak w8 (.cells #[.int .i64 4,.string ⟨#[109]⟩,.int .i64 2,.int .i64 1,.slice (some ⟨g,o,none⟩) 7 cap] 62);have hf:=qzJ w8 (.cells #[.int .i64 4,.string ⟨#[109]⟩,.int .i64 2,.int .i64 1,.slice (some ⟨g,o,none⟩) 7 cap] 62)
 have hlt:=World.block_lt_of_cell? w8 _ y0
 go_upto_region 5 with (fail)
 replace hA2:=hA2.later hb9;replace y0:=qzA hb9 y0;generalize (w8.alloc (.cells #[.int .i64 4,.string ⟨#[109]⟩,.int .i64 2,.int .i64 1,.slice (some ⟨g,o,none⟩) 7 cap] 62))=W9 at *;generalize w8.heap.size=BF at *;clear hb9 hlt;obtain⟨⟨q0,q1,q2⟩,-⟩:=xsG hA2.box;go_wp2_with fail;clear q0 q1 q2;refine (xsC _ _ _ hA2.C hA2.H).mono ?_;rintro e w10 ⟨a,cap',rfl,hb10⟩;replace hA2:=hA2.later hb10;replace y0:=qzA hb10 y0;replace hf:=xsF hf hb10;clear hb10;have hb11:=xak w10 (.cells #[.int .i64 0,.string ⟨#[]⟩,.int .i64 0,.int .i64 0,.slice a 0 cap'] 62)
 go_upto_region 6 with (fail)
 replace hA2:=hA2.later hb11;replace y0:=qzA hb11 y0;replace hf:=xsF hf hb11;generalize (w10.alloc (.cells #[.int .i64 0,.string ⟨#[]⟩,.int .i64 0,.int .i64 0,.slice a 0 cap'] 62))=W11 at *;clear hb11;have f0:W11.cell? ⟨BF,0,none⟩=some (.int .i64 4):=by rw[qzB hf];rfl
 have f1:W11.cell? ⟨BF,1,none⟩=some (.string ⟨#[109]⟩):=by rw[qzB hf];rfl
 have f3:W11.cell? ⟨BF,3,none⟩=some (.int .i64 1):=by rw[qzB hf];rfl
 have f4:W11.cell? ⟨BF,4,none⟩=some (.slice (some ⟨g,o,none⟩) 7 cap):=by rw[qzB hf];rfl
 have hbel:=hA2.bel;clear hf hA2;go_wp2
 go_ret
 exact⟨rfl,hbel⟩
theorem xid {P Q:Nat->Prop}(xs:List QI)(va vb:Value)(w:World)(ha:xaR P w va xs)(hb:xaR Q w vb xs):Calls Try.prog 45 #[va,vb] w fun e w'=>e=.returned (.bool true)/\Below w.heap.size w w':=by
 obtain⟨ad,cap,rfl,hl,hcap,hby,hrow⟩:=ha;obtain⟨ad',cap',rfl,hl',hcap',hby',hrow'⟩:=hb;go_enter Try.func45,Try.ntmps45;go_wp2
 go_loopg [13] xs.length (fun g c wr=>∃ j:Nat,j+g=xs.length/\c=.int .i64 j/\∃ n,wr=w.drewN n)
 case atStart=>exact⟨0,by omega,rfl,0,rfl⟩
 case round=>
  obtain⟨j,hj,rfl,nn,rfl⟩:=hrel
  by_cases hlt:j<xs.length
  ·obtain⟨b,o,rfl,-,q0,q1,q2,q3,q4,-⟩:=hrow j xs[j] (by simp[hlt])
   obtain⟨b',o',rfl,-,k0,k1,k2,k3,k4,-⟩:=hrow' j xs[j] (by simp[hlt])
   generalize xs[j]=x at *;simp only[Nat.add_zero] at q0 k0;have hj1:(j:Int)<(xs.length:Int):=by omega
   have hj0:(0:Int)<=(j:Int):=by omega
   clear hrow hrow';go_wp2
   go_quiet (fail)
   go_wp2
   go_roundg (gk-1)
   case measure=>omega
   case rel=>exact⟨j+1,by omega,by go_num,_,rfl⟩
  ·go_wp2
   go_ret
   exact⟨rfl,below_drewN (qzL _ _) _⟩
set_option maxRecDepth 100000 in
theorem xon {P Q:Nat->Prop}(X:QW)(ca ha cb hb:Value)(w:World)(h1:xai P w ca X.cz)(h2:xaD P w ha X.heap)(h3:xai Q w cb X.cz)(h4:xaD Q w hb X.heap):Calls Try.prog 16 #[WV ca ha X.ez,WV cb hb X.ez] w fun e w'=>e=.returned (.bool true)/\Below w.heap.size w w':=by
 obtain⟨ad,cap,rfl,hl,hcap,hby,hrow⟩:=h1;obtain⟨ah,kh,rfl,hlh,hkh,hbh,hrh⟩:=h2;obtain⟨ad',cap',rfl,hl',hcap',hby',hrow'⟩:=h3;obtain⟨ah',kh',rfl,hlh',hkh',hbh',hrh'⟩:=h4;unfold maxLen at hcap hcap' hkh hkh';go_enter Try.func16,Try.ntmps16;go_wp2;have hW:=xbP w (Obj.cells #[Value.slice ad X.cz.length cap,Value.slice ah X.heap.length kh,Value.int .i64 X.ez] 25) (Obj.cells #[Value.slice ad' X.cz.length cap',Value.slice ah' X.heap.length kh',Value.int .i64 X.ez] 25);have a1:((w.alloc (Obj.cells #[Value.slice ad X.cz.length cap,Value.slice ah X.heap.length kh,Value.int .i64 X.ez] 25)).alloc (Obj.cells #[Value.slice ad' X.cz.length cap',Value.slice ah' X.heap.length kh',Value.int .i64 X.ez] 25)).cell? ⟨w.heap.size,1,none⟩=some (Value.slice ah X.heap.length kh):=qzA (xak _ _) (by rw[xaa _ _ _ _ rfl];rfl)
 have b0:((w.alloc (Obj.cells #[Value.slice ad X.cz.length cap,Value.slice ah X.heap.length kh,Value.int .i64 X.ez] 25)).alloc (Obj.cells #[Value.slice ad' X.cz.length cap',Value.slice ah' X.heap.length kh',Value.int .i64 X.ez] 25)).cell? ⟨w.heap.size+1,0,none⟩=some (Value.slice ad' X.cz.length cap'):=by rw[xaa _ _ _ _ (by simp)];rfl
 have b1:((w.alloc (Obj.cells #[Value.slice ad X.cz.length cap,Value.slice ah X.heap.length kh,Value.int .i64 X.ez] 25)).alloc (Obj.cells #[Value.slice ad' X.cz.length cap',Value.slice ah' X.heap.length kh',Value.int .i64 X.ez] 25)).cell? ⟨w.heap.size+1,1,none⟩=some (Value.slice ah' X.heap.length kh'):=by rw[xaa _ _ _ _ (by simp)];rfl
 generalize ((w.alloc (Obj.cells #[Value.slice ad X.cz.length cap,Value.slice ah X.heap.length kh,Value.int .i64 X.ez] 25)).alloc (Obj.cells #[Value.slice ad' X.cz.length cap',Value.slice ah' X.heap.length kh',Value.int .i64 X.ez] 25))=W at *
 go_loopg [40] X.cz.length (fun g c wr=>∃ j:Nat,j+g=X.cz.length/\c=.int .i64 j/\Below W.heap.size W wr)
 case atStart=>exact⟨0,by omega,rfl,qzL _ _⟩
 case round=>
  obtain⟨j,hj,rfl,hbel⟩:=hrel;have hbw:=xaf hW hbel;have b0':=qzA hbel b0
  by_cases hlt:j<X.cz.length
  ·obtain⟨b,o,rfl,-,p0,p1,p2,-,sv,p3,hms⟩:=hrow j X.cz[j] (by simp[hlt])
   obtain⟨b',o',rfl,-,q0,q1,q2,-,sv',q3,hms'⟩:=hrow' j X.cz[j] (by simp[hlt])
   generalize X.cz[j]=x at *;simp only[Nat.add_zero] at p0 q0;replace p0:=qzA hbw p0;replace p1:=qzA hbw p1;replace p2:=qzA hbw p2;replace p3:=qzA hbw p3;replace q0:=fun y=>qzA (xak wr y) (qzA hbw q0)
   replace q1:=fun y=>qzA (xak wr y) (qzA hbw q1)
   replace q2:=fun y=>qzA (xak wr y) (qzA hbw q2)
   replace q3:=fun y=>qzA (xak wr y) (qzA hbw q3)
   have b0'':=fun y=>qzA (xak wr y) b0'
   replace hms:=hms.later xbq hbw;replace hms':=hms'.later xbq hbw;obtain⟨am,km,rfl,hlm,hkm,hbm,hrm⟩:=id hms;obtain⟨am',km',rfl,hlm',hkm',hbm',hrm'⟩:=id hms';unfold maxLen at hkm hkm';have hj1:(j:Int)<(X.cz.length:Int):=by omega
   have hj0:(0:Int)<=(j:Int):=by omega
   go_wp2;have hB2:=xbP wr (Obj.cells #[Value.string x.name,Value.int .i64 x.super,Value.int .i64 x.slots,Value.slice am x.mz.length km] 52) (Obj.cells #[Value.string x.name,Value.int .i64 x.super,Value.int .i64 x.slots,Value.slice am' x.mz.length km'] 52);have m1:((wr.alloc (Obj.cells #[Value.string x.name,Value.int .i64 x.super,Value.int .i64 x.slots,Value.slice am x.mz.length km] 52)).alloc (Obj.cells #[Value.string x.name,Value.int .i64 x.super,Value.int .i64 x.slots,Value.slice am' x.mz.length km'] 52)).cell? ⟨wr.heap.size+1,3,none⟩=some (Value.slice am' x.mz.length km'):=by rw[xaa _ _ _ _ (by simp)];rfl
   obtain⟨go,hgo⟩:∃ go,go=gk:=⟨_,rfl⟩;have hBW:=xaf hbel hB2;replace hms:=hms.later xbq hB2;replace hms':=hms'.later xbq hB2;clear p0 p1 p2 p3 q0 q1 q2 q3 b0' b0'' hrm hrm' hB2 hbw hbel;generalize hBx:wr.heap.size+1=Bx at *;generalize ((wr.alloc (Obj.cells #[Value.string x.name,Value.int .i64 x.super,Value.int .i64 x.slots,Value.slice am x.mz.length km] 52)).alloc (Obj.cells #[Value.string x.name,Value.int .i64 x.super,Value.int .i64 x.slots,Value.slice am' x.mz.length km'] 52))=W2 at *
   go_loopg [81] x.mz.length (fun g c wi=>∃ k:Nat,k+g=x.mz.length/\c=.int .i64 k/\Below W2.heap.size W2 wi)
   case atStart=>exact⟨0,by omega,rfl,qzL _ _⟩
   case round=>
    obtain⟨k,hk,rfl,hbi⟩:=hrel
    by_cases hkl:k<x.mz.length
    ·obtain⟨am0,km0,e0,-,-,-,hrm⟩:=hms.later xbq hbi;simp only[Value.slice.injEq] at e0;obtain⟨rfl,-,rfl⟩:=e0;obtain⟨am0',km0',e0',-,-,-,hrm'⟩:=hms'.later xbq hbi;simp only[Value.slice.injEq] at e0';obtain⟨rfl,-,rfl⟩:=e0';obtain⟨b,o,rfl,-,p0,p1,p2,p3,-,sv,p4,hcc⟩:=hrm k x.mz[k] (by simp[hkl])
     obtain⟨b',o',rfl,-,q0,q1,q2,q3,-,sv',q4,hcc'⟩:=hrm' k x.mz[k] (by simp[hkl])
     generalize x.mz[k]=y at *;simp only[Nat.add_zero] at p0 q0;replace q0:=fun y=>qzA (xak wr y) q0
     replace q1:=fun y=>qzA (xak wr y) q1
     replace q2:=fun y=>qzA (xak wr y) q2
     replace q3:=fun y=>qzA (xak wr y) q3
     replace q4:=fun y=>qzA (xak wr y) q4
     have m1':=fun y=>qzA (xak wr y) (qzA hbi m1)
     obtain⟨ac,kc,rfl⟩:=hcc.get;obtain⟨ac',kc',rfl⟩:=hcc'.get;have hk1:(k:Int)<(x.mz.length:Int):=by omega
     have hk0:(0:Int)<=(k:Int):=by omega
     clear hrm hrm'
     go_wp2_with (go_at_call 45;refine (xid y.code _ _ _ (hcc.later xa2 (by first | exact xbP _ _ _ | exact (xbP _ _ _).drew)) (hcc'.later xa2 (by first | exact xbP _ _ _ | exact (xbP _ _ _).drew))).mono ?_;rintro e w5 ⟨rfl,hb5⟩)
     go_roundg (gk-1)
     case measure=>omega
     case rel=>exact⟨k+1,by omega,by go_num,xaf hbi (xaf (xbP _ _ _) hb5)⟩
    ·go_wp2
     go_roundg (go-1)
     case measure=>omega
     case rel=>exact⟨j+1,by omega,by go_num,xaf hBW hbi⟩
  ·have a1':=qzA hbel a1;have b1':=qzA hbel b1;have hbw:=xaf hW hbel;clear hrow hrow' b0' a1 b1 b0;go_wp2;have hW3:=hbw;generalize wr=W3 at *
   go_loopg [130] X.heap.length (fun g c wr=>∃ j:Nat,j+g=X.heap.length/\c=.int .i64 j/\Below W3.heap.size W3 wr)
   case atStart=>exact⟨0,by omega,rfl,qzL _ _⟩
   case round=>
    obtain⟨j,hj,rfl,hbel⟩:=hrel;have cb1:=qzA hbel b1';have hbw:=xaf hW3 hbel
    by_cases hlt:j<X.heap.length
    ·obtain⟨b,o,rfl,-,hv1,sv,hv2,hsl⟩:=hrh j X.heap[j] (by simp[hlt])
     obtain⟨b',o',rfl,-,hv1',sv',hv2',hsl'⟩:=hrh' j X.heap[j] (by simp[hlt])
     generalize X.heap[j]=x at *;simp only[Nat.add_zero] at hv1 hv1';have u1:=qzA hbw hv1;have u2:=qzA hbw hv2;have u1':=qzA hbw hv1';have u2':=qzA hbw hv2';replace hsl:=hsl.later xa1 hbw;replace hsl':=hsl'.later xa1 hbw;clear hv1 hv2 hv1' hv2';obtain⟨ad2,cap2,rfl,hl2,hcap2,hby2,-⟩:=id hsl;obtain⟨ad2',cap2',rfl,hl2',hcap2',hby2',-⟩:=id hsl';unfold maxLen at hcap2 hcap2';have hj1:(j:Int)<(X.heap.length:Int):=by omega
     have hj0:(0:Int)<=(j:Int):=by omega
     have k1:=fun x=>qzA (xak wr x) u1
     have k2:=fun x=>qzA (xak wr x) u2
     have k1':=fun x=>qzA (xak wr x) u1'
     have k2':=fun x=>qzA (xak wr x) u2'
     have kb:=fun x=>qzA (xak wr x) cb1
     go_wp2
     go_quiet (fail)
     go_wp2;have hD:Below wr.heap.size wr ((wr.alloc (Obj.cells #[Value.int .i64 x.cls,Value.slice ad2 x.slots.length cap2] 82)).drewN nq):=below_drewN (xak _ _) nq;have m1:((wr.alloc (Obj.cells #[Value.int .i64 x.cls,Value.slice ad2 x.slots.length cap2] 82)).drewN nq).cell? ⟨wr.heap.size,1,none⟩=some (Value.slice ad2 x.slots.length cap2):=by simp
     have m2:=qzA hD u2';have mb:=qzA hD cb1;have hBW:=xaf hbel hD;obtain⟨Bx,hBx⟩:∃ Bx,Bx=wr.heap.size:=⟨_,rfl⟩;rw[← hBx] at m1 ⊢;clear hBx;replace hsl:=hsl.later xa1 hD;replace hsl':=hsl'.later xa1 hD;clear k1 k2 k1' k2' kb u1 u2 u1' u2' cb1 hD;generalize (wr.alloc (Obj.cells #[Value.int .i64 x.cls,Value.slice ad2 x.slots.length cap2] 82)).drewN nq=W2 at *;clear hbel hbw;obtain⟨go,hgo⟩:∃ go,go=gk:=⟨_,rfl⟩
     go_loopg [160] x.slots.length (fun g c wi=>∃ k:Nat,k+g=x.slots.length/\c=.int .i64 k/\∃ n,wi=W2.drewN n)
     case atStart=>exact⟨0,by omega,rfl,0,rfl⟩
     case round=>
      obtain⟨k,hk,rfl,nn,rfl⟩:=hrel
      by_cases hkl:k<x.slots.length
      ·obtain⟨a0,c0,e0,-,-,-,hr2⟩:=hsl;simp only[Value.slice.injEq] at e0;obtain⟨rfl,-,rfl⟩:=e0;obtain⟨a0',c0',e0',-,-,-,hr2'⟩:=hsl';simp only[Value.slice.injEq] at e0';obtain⟨rfl,-,rfl⟩:=e0';obtain⟨b2,o2,rfl,-,q1,q2⟩:=hr2 k x.slots[k] (by simp[hkl])
       obtain⟨b3,o3,rfl,-,q3,q4⟩:=hr2' k x.slots[k] (by simp[hkl])
       generalize x.slots[k]=y at *;simp only[Nat.add_zero] at q1 q3;have hk1:(k:Int)<(x.slots.length:Int):=by omega
       have hk0:(0:Int)<=(k:Int):=by omega
       clear hr2 hr2';go_wp2
       go_quiet (fail)
       go_wp2
       go_roundg (gk-1)
       case measure=>omega
       case rel=>exact⟨k+1,by omega,by go_num,_,rfl⟩
      ·go_wp2
       go_roundg (go-1)
       case measure=>omega
       case rel=>exact⟨j+1,by omega,by go_num,below_drewN hBW nn⟩
    ·go_wp2
     go_ret
     exact⟨rfl,hbw⟩
structure IsR (X:QW)(cv hv:Value)(s:QV)(name:ByteArray)(av:Value)(w:World)(lb:Nat)(fs:List Fst)(lv:Value)(wr:World):Prop where
 bel:Below w.heap.size w wr
 wb:wr.heap[w.heap.size]?=some (.cells #[cv,hv,.int .i64 X.ez] 25 (0,0))
 cb:wr.heap[w.heap.size+1]?=some (.cells #[.int .i64 s.k,.int .i64 s.n,.string name,av] 30 (0,0))
 lo:w.heap.size+1<lb
 box:wr.heap[lb]?=some (.cells #[lv] 49 (0,0))
 own:∃ cs,ownsAt wr (lb+1) 62 5 lv fs.length cs/\Cells xmb 5 (fun b=>lb+1<=b/\lv.ownBlock≠some b) wr cs fs
 made:∀ f∈fs,xd7 X f
section
variable {X:QW} {cv hv:Value} {s:QV} {name:ByteArray} {av:Value} {w:World} {lb:Nat} {fs:List Fst} {lv:Value} {wr ws:World}
theorem IsR.later (h:IsR X cv hv s name av w lb fs lv wr)(hb:Below wr.heap.size wr ws):IsR X cv hv s name av w lb fs lv ws:=by
 obtain⟨cs,h1,h2⟩:=h.own
 exact⟨xaf h.bel hb,xad h.wb hb,xad h.cb hb,h.lo,xad h.box hb,⟨cs,h1.keep fun g hg=>hb.block g (h1.lt g hg).2,h2.later xhR hb⟩,h.made⟩
theorem IsR.al (h:IsR X cv hv s name av w lb fs lv wr):(wr.cell? ⟨w.heap.size,0,none⟩=some cv/\wr.cell? ⟨w.heap.size,1,none⟩=some hv/\wr.cell? ⟨w.heap.size,2,none⟩=some (.int .i64 X.ez))/\(wr.cell? ⟨w.heap.size+1,0,none⟩=some (.int .i64 s.k)/\wr.cell? ⟨w.heap.size+1,1,none⟩=some (.int .i64 s.n)/\wr.cell? ⟨w.heap.size+1,2,none⟩=some (.string name)/\wr.cell? ⟨w.heap.size+1,3,none⟩=some av)/\wr.cell? ⟨lb,0,none⟩=some lv:=by
 refine⟨⟨?_,?_,?_⟩,⟨?_,?_,?_,?_⟩,?_⟩<;>first | (rw[qzB h.wb];rfl) | (rw[qzB h.cb];rfl) | (rw[qzB h.box];rfl)
theorem IsR.fal (h:IsR X cv hv s name av w lb fs lv wr):∃ cs,FaL wr (lb+1) fs cs lv wr:=by
 obtain⟨cs,h1,h2⟩:=h.own
 exact⟨cs,qzL _ _,xal h.box,h1,h2⟩
theorem IsR.add (h:IsR X cv hv s name av w lb fs lv wr){f:Fst}{cs:List Value}{v':Value}(hm:xd7 X f)(hF:FaL wr (lb+1) (fs++[f]) cs v' ws):IsR X cv hv s name av w lb (fs++[f]) v' (ws.setCell ⟨lb,0,none⟩ v'):=by
 have hlo:=h.lo;have hlt:=xal h.box;have hk:Keeps (fun b=>lb+1<=b/\v'.ownBlock≠some b) ws (ws.setCell ⟨lb,0,none⟩ v'):=xaC (Keeps.refl _ _) (fun h=>by have:=h.1;omega) _
 have hb:∀ b o,b<lb->wr.heap[b]?=some o->(ws.setCell ⟨lb,0,none⟩ v').heap[b]?=some o:=fun b o hb ho=>by rw[xac (by omega),hF.bel.block b (by omega)];exact ho
 refine⟨(h.bel.trans (hF.bel.mono (by omega))).setCell (by simp;omega) _,hb _ _ (by omega) h.wb,hb _ _ (by omega) h.cb,h.lo,?_,⟨cs,hF.own.keep fun g hg=>xac (by have:=(hF.own.lt g hg).1;omega) _,hF.row.keep xhR hk fun _ h=>h⟩,fun g hg=>?_⟩
 ·rw[xag (show ws.heap[lb]?=some (.cells #[lv] 49 (0,0)) from (hF.bel.block lb (by omega)).trans h.box)];rfl
 ·rcases List.mem_append.1 hg with h' | h'
  ·exact h.made g h'
  ·rw[List.mem_singleton] at h';subst h';exact hm
end
theorem xsr {X:QW}{cv hv:Value}{s:QV}{name:ByteArray}{av:Value}{w wr:World}(hb:Below w.heap.size w wr)(h1:wr.heap[w.heap.size]?=some (.cells #[cv,hv,.int .i64 X.ez] 25 (0,0)))(h2:wr.heap[w.heap.size+1]?=some (.cells #[.int .i64 s.k,.int .i64 s.n,.string name,av] 30 (0,0))):IsR X cv hv s name av w wr.heap.size [] (.slice none 0 0) (wr.alloc (.cells #[.slice none 0 0] 49)):=
 ⟨xaf hb (xak _ _),xad h1 (xak _ _),xad h2 (xak _ _),xal h2,qzJ _ _,⟨[],⟨rfl,Or.inl ⟨rfl,rfl⟩⟩,Cells.nil⟩,fun f hf=>by cases hf⟩
structure StR (V:World)(n:Nat)(ss:List Int)(wr:World):Prop where
 bel:Below V.heap.size V wr
 row:wr.heap[V.heap.size]?=some (xfu ss)
 len:ss.length=n
theorem StR.later {V wr ws:World}{n:Nat}{ss:List Int}(h:StR V n ss wr)(hb:Below wr.heap.size wr ws):StR V n ss ws:=⟨xaf h.bel hb,xad h.row hb,h.len⟩
theorem StR.set {V wr:World}{n:Nat}{ss:List Int}(h:StR V n ss wr)(k:Nat)(v:Int):StR V n (ss.set k v) (wr.setCell ⟨V.heap.size,k,none⟩ (.int .i64 v)):=⟨h.bel.setCell (qzC _) _,xfJ h.row k v,by rw[List.length_set];exact h.len⟩
theorem StR.ints {V wr:World}{n:Nat}{ss:List Int}(h:StR V n ss wr)(hn:n<=1000):xc5 (fun _=>True) wr (.slice (some ⟨V.heap.size,0,none⟩) n n) ss:=by
 have hl:=h.len;refine⟨_,n,by rw[hl],by omega,by unfold maxLen;omega,by omega,fun i x hx=>⟨V.heap.size,0,rfl,trivial,?_⟩⟩
 have hi:=xae hx
 show wr.cell? ⟨V.heap.size,0+i*1+0,none⟩=_
 rw[show 0+i*1+0=i from by omega,xer h.row hi,List.getD_eq_getElem?_getD,hx]
 rfl
theorem xsh {P:Nat->Prop}(m:QM)(cv:Value)(w:World)(hK:xaR P w cv m.code):Calls Try.prog 10 #[MV m cv] w fun e w'=>(∃ r,e=.returned (.bool r))/\Below w.heap.size w w':=by
 obtain⟨ak,ck,rfl,hl,hck,-,hrow⟩:=id hK;unfold maxLen at hck;have hb0:=xak w (.cells #[.string m.name,.int .i64 m.args,.int .i64 m.temps,.int .i64 m.prim,.slice ak m.code.length ck] 55);have hx0:=qzJ w (.cells #[.string m.name,.int .i64 m.args,.int .i64 m.temps,.int .i64 m.prim,.slice ak m.code.length ck] 55);go_enter Try.func10,Try.ntmps10
 go_upto_region 1 with (fail)
 generalize (w.alloc (.cells #[.string m.name,.int .i64 m.args,.int .i64 m.temps,.int .i64 m.prim,.slice ak m.code.length ck] 55))=W at *;have z4:W.cell? ⟨w.heap.size,4,none⟩=some (.slice ak m.code.length ck):=by rw[qzB hx0];rfl
 go_wp2;clear z4
 go_loopg [8] m.code.length (fun g i wr=>∃ j:Nat,j+g=m.code.length/\i=.int .i64 j/\Below w.heap.size w wr/\wr.heap[w.heap.size]?=some (.cells #[.string m.name,.int .i64 m.args,.int .i64 m.temps,.int .i64 m.prim,.slice ak m.code.length ck] 55 (0,0)))
 case atStart=>exact⟨0,by omega,rfl,hb0,hx0⟩
 case round=>
  obtain⟨j,hj,rfl,hb,hx⟩:=hrel;clear hb0 hx0
  by_cases hlt:j<m.code.length
  ·obtain⟨b,o,rfl,-,q0,q1,q2,q3,q4,-⟩:=hrow j m.code[j] (by simp[hlt])
   generalize m.code[j]=x at *;simp only[Nat.add_zero] at q0;replace q0:=qzA hb q0;replace q1:=qzA hb q1;replace q2:=qzA hb q2;replace q3:=qzA hb q3;replace q4:=qzA hb q4;have hj1:(j:Int)<(m.code.length:Int):=by omega
   have hj0:(0:Int)<=(j:Int):=by omega
   have hbx:=xak wr (.cells #[.int .i64 x.op,.int .i64 x.a,.int .i64 x.b,.int .i64 x.c,.string x.name] 59);have z0:(wr.alloc (.cells #[.int .i64 x.op,.int .i64 x.a,.int .i64 x.b,.int .i64 x.c,.string x.name] 59)).cell? ⟨wr.heap.size,0,none⟩=some (.int .i64 x.op):=by rw[xaa _ _ _ _ rfl];rfl
   clear hrow
   go_upto_region 4 with (fail)
   clear q0 q1 q2 q3 q4;replace hb:=xaf hb hbx;replace hx:=xad hx hbx;generalize (wr.alloc (.cells #[.int .i64 x.op,.int .i64 x.a,.int .i64 x.b,.int .i64 x.c,.string x.name] 59))=V at *;generalize wr.heap.size=xb at *;clear hbx
   by_cases h1:x.op=14
   ·have hd1:(x.op == 14)=true:=by simpa using h1
    go_wp2;refine qzK (v:=.bool false) ?_ rfl ⟨⟨_,rfl⟩,hb⟩
    simp[results,Try.results10,go_sem]
   ·have hd1:(x.op == 14)=false:=by simpa using h1
    by_cases h2:x.op=13
    ·have hd2:(x.op == 13)=true:=by simpa using h2
     go_wp2;refine qzK (v:=.bool false) ?_ rfl ⟨⟨_,rfl⟩,hb⟩
     simp[results,Try.results10,go_sem]
    ·have hd2:(x.op == 13)=false:=by simpa using h2
     go_wp2
     go_roundg (gk-1)
     case measure=>omega
     case rel=>exact⟨j+1,by omega,by go_num,hb,hx⟩
  ·have z3:wr.cell? ⟨w.heap.size,3,none⟩=some (.int .i64 m.prim):=by rw[qzB hx];rfl
   go_wp2;refine qzK (v:=.bool (m.prim == 0)) ?_ rfl ⟨⟨_,rfl⟩,hb⟩
   simp[results,Try.results10,go_sem]
theorem xo1 {w:World}{l:List Int}(hl:l.length<=1000)(n:Nat)(hn:w.heap.size=n):xc5 (fun b=>n<=b) (w.alloc (.cells (xcf l).toArray 3 (0,0))) (.slice (some ⟨n,0,none⟩) l.length l.length) l:=
 Cells.row (xhH l) xil (qzC _) (xbj _ _ _ hn) (by rw[List.take_of_length_le (by simp[xcf])];simp[xcf]) (qzC _) (by unfold maxLen;omega) (by omega)
def NextP (w:World)(x:QI)(p:Int)(e:Ending)(w':World):Prop:=
 ∃ a k,e=.returned (.tuple #[.int .i64 (xaS x p).need,.int .i64 (xaS x p).more,.slice a (xaS x p).next.length k])/\xc5 (fun b=>w.heap.size<=b) w' (.slice a (xaS x p).next.length k) (xaS x p).next/\Below w.heap.size w w'
theorem NextP.mk {w W:World}{x:QI}{p need more:Int}{l:List Int}{e:Ending}{n:Nat}(h:xaS x p=⟨need,more,l⟩)(hn:W.heap.size=n)(hl:l.length<=1000)(hw:w.heap.size<=n)(he:e=.returned (.tuple #[.int .i64 need,.int .i64 more,.slice (some ⟨n,0,none⟩) l.length l.length]))(hb:Below w.heap.size w W):NextP w x p e (W.alloc (.cells (xcf l).toArray 3 (0,0))):=by
 unfold NextP;rw[h]
 exact⟨_,_,he,(xo1 hl n hn).mono xil fun b hb=>by omega,hb.alloc (by omega) _⟩
theorem NextP.drew {w w':World}{x:QI}{p:Int}{e:Ending}(h:NextP w x p e w'):NextP w x p e w'.drew:=by
 obtain⟨a,k,h1,h2,h3⟩:=h
 exact⟨a,k,h1,h2.later xil (qzL _ _).drew,h3.drew⟩
theorem xmD (x:QI)(p:Int)(w:World)(hx:x.op=14->0<=x.a/\x.a<=4)(hp:IntKind.i64.wrap (p+1)=p+1):Calls Try.prog 66 #[IV x,.int .i64 p] w fun e w'=>NextP w x p e w':=by
 obtain⟨op,xa,xb,xc,nm⟩:=x;simp only at hx;have hb1:=xak w (Obj.cells #[.int .i64 op,.int .i64 xa,.int .i64 xb,.int .i64 xc,.string nm] 59);go_enter Try.func66,Try.ntmps66
 by_cases h1:op=9\/op=11\/op=12
 ·rcases h1 with rfl | rfl | rfl
  all_goals
   go_wp2;refine qzK (v:=.tuple #[.int .i64 1,.int .i64 (-1),.slice (some ⟨w.heap.size+1,0,none⟩) 1 1]) (by simp[results,Try.results66,go_sem]) rfl (NextP.mk (l:=[p+1]) (by simp[xaS]) (by simp) (by simp) (by omega) rfl (xak _ _))
 ·by_cases h2:op=10
  ·subst h2;go_wp2;refine qzK (v:=.tuple #[.int .i64 (1),.int .i64 (1),.slice (some ⟨w.heap.size+1,0,none⟩) 1 1]) (by simp[results,Try.results66,go_sem]) rfl (NextP.mk (l:=[p+1]) (by simp[xaS]) (by simp) (by simp) (by omega) rfl (xak _ _))
  ·by_cases h3:op=14
   ·subst h3;obtain⟨q1,q2⟩:=hx rfl;have hw1:IntKind.i64.wrap (xa+1)=xa+1:=xat (by omega) (by omega)
    have hw2:IntKind.i64.wrap (-xa)=-xa:=xat (by omega) (by omega)
    go_wp2
    go_region
    all_goals go_wp2
    all_goals refine qzK (v:=.tuple #[.int .i64 (xa+1),.int .i64 (-xa),.slice (some ⟨w.heap.size+1,0,none⟩) 1 1]) (by simp[results,Try.results66,go_sem]) rfl ?_
    all_goals exact (NextP.mk (l:=[p+1]) (by simp[xaS]) (by simp) (by simp) (by omega) rfl (xak _ _)).drew
   ·by_cases h4:op=15
    ·subst h4;go_wp2
     go_region
     all_goals go_wp2
     all_goals refine qzK (v:=.tuple #[.int .i64 0,.int .i64 0,.slice (some ⟨w.heap.size+1,0,none⟩) 1 1]) (by simp[results,Try.results66,go_sem]) rfl ?_
     all_goals exact (NextP.mk (l:=[xa]) (by simp[xaS]) (by simp) (by simp) (by omega) rfl (xak _ _)).drew
    ·by_cases h5:op=16
     ·subst h5;go_wp2
      go_region
      all_goals go_wp2
      all_goals refine qzK (v:=.tuple #[.int .i64 1,.int .i64 (-1),.slice (some ⟨w.heap.size+1,0,none⟩) 2 2]) (by simp[results,Try.results66,go_sem]) rfl ?_
      all_goals exact (NextP.mk (l:=[p+1,xa]) (by simp[xaS]) (by simp) (by simp) (by omega) rfl (xak _ _)).drew
     ·by_cases h6:op=17
      ·subst h6;go_wp2;refine qzK (v:=.tuple #[.int .i64 1,.int .i64 (-1),.slice none 0 0]) (by simp[results,Try.results66,go_sem]) rfl ?_
       unfold NextP;rw[show xaS ⟨17,xa,xb,xc,nm⟩ p=⟨1,-1,[]⟩ from by simp[xaS]]
       exact⟨none,0,rfl,xbn,xak _ _⟩
      ·have n1:¬ op=9:=fun h=>h1 (Or.inl h)
       have n2:¬ op=11:=fun h=>h1 (Or.inr (Or.inl h))
       have n3:¬ op=12:=fun h=>h1 (Or.inr (Or.inr h))
       go_wp2;refine qzK (v:=.tuple #[.int .i64 0,.int .i64 1,.slice (some ⟨w.heap.size+1,0,none⟩) 1 1]) (by simp[results,Try.results66,go_sem]) rfl (NextP.mk (l:=[p+1]) (by simp[xaS,h2,h3,h4,h5,h6,n1,n2,n3]) (by simp) (by simp) (by omega) rfl (xak _ _))
abbrev RowI (w:World)(base g k:Nat)(l:List Int):Prop:=w.ownsRow base 3 1 (.slice (some ⟨g,0,none⟩) l.length k) l.length (xcf l)
theorem RowI.lt {w:World}{base g k:Nat}{l:List Int}(h:RowI w base g k l):base<=g/\g<w.heap.size:=by
 obtain⟨-,⟨e,-⟩ | ⟨g',c,cur,e,h1,h2,-⟩⟩:=h
 ·cases e
 ·cases e;exact⟨h1,xal h2⟩
theorem RowI.keep {w w':World}{base g k:Nat}{l:List Int}(h:RowI w base g k l)(hk:w'.heap[g]?=w.heap[g]?):RowI w' base g k l:=by
 obtain⟨h0,⟨e,-⟩ | ⟨g',c,cur,e,h1,h2,h3⟩⟩:=h
 ·cases e
 ·cases e;exact⟨h0,Or.inr ⟨g,k,cur,rfl,h1,hk.trans h2,h3⟩⟩
theorem RowI.cell {w:World}{base g k:Nat}{l:List Int}(h:RowI w base g k l){j:Nat}(hj:j<l.length):w.cell? ⟨g,j,none⟩=some (.int .i64 (l.getD j 0)):=by
 obtain⟨h0,⟨e,-⟩ | ⟨g',c,cur,e,h1,h2,h3,h4,h5,h6⟩⟩:=h
 ·cases e
 ·cases e
  have hq:(xcf l)[j]?=some (.int .i64 (l.getD j 0)):=by simp[xcf,hj]
  rw[qzB h2];rw[← h6,List.getElem?_take] at hq
  split at hq
  ·simpa using hq
  ·cases hq
structure Two (w:World)(base gA kA gB kB:Nat)(A B:List Int):Prop where
 a:RowI w base gA kA A
 b:RowI w base gB kB B
 ne:gA≠gB
theorem Two.keep {w w':World}{base gA kA gB kB:Nat}{A B:List Int}(h:Two w base gA kA gB kB A B)(hb:∀ b,base<=b->b<w.heap.size->w'.heap[b]?=w.heap[b]?):Two w' base gA kA gB kB A B:=
 ⟨h.a.keep (hb _ h.a.lt.1 h.a.lt.2),h.b.keep (hb _ h.b.lt.1 h.b.lt.2),h.ne⟩
theorem Two.later {w w':World}{base gA kA gB kB:Nat}{A B:List Int}(h:Two w base gA kA gB kB A B)(hb:Below w.heap.size w w'):Two w' base gA kA gB kB A B:=h.keep fun b _ hl=>hb.block b hl
theorem Two.first {w w2:World}{base gA kA gB kB gg cap2:Nat}{A B:List Int}{X:Obj}{t:Int}(h:Two w base gA kA gB kB A B)(hown:w2.ownsRow base 3 1 (.slice (some ⟨gg,0,none⟩) (A.length+1) cap2) (A.length+1) (xcf A++[.int .i64 t]))(hgr:(w.alloc X).grownBy w2 (Value.ownBlock (.slice (some ⟨gA,0,none⟩) A.length kA)))(hor:(Value.ownBlock (.slice (some ⟨gA,0,none⟩) A.length kA))=some gg\/gg=(w.alloc X).heap.size)(hbase:base<=w.heap.size):Two w2 base gg cap2 gB kB (A++[t]) B/\Below base w w2:=by
 have hne:=h.ne;have hbl:=h.b.lt;have hal:=h.a.lt
 simp[Value.ownBlock] at hor
 refine⟨⟨?_,(h.b.keep ((xak w X).block _ hbl.2)).keep (hgr.block gB (by simp;omega) (by simp[Value.ownBlock];omega)),by omega⟩,?_⟩
 ·show w2.ownsRow base 3 1 (.slice (some ⟨gg,0,none⟩) (A++[t]).length cap2) (A++[t]).length (xcf (A++[t]))
  simpa [xcf] using hown
 ·exact ((qzL base w).alloc hbase X).grown hgr (by simp;omega) fun k hk=>by simp[Value.ownBlock] at hk;omega
theorem Two.swap {w:World}{base gA kA gB kB:Nat}{A B:List Int}(h:Two w base gA kA gB kB A B):Two w base gB kB gA kA B A:=⟨h.b,h.a,Ne.symm h.ne⟩
structure RefH (w W0:World)(code:List QI)(gA kA gB kB:Nat)(A B h:List Int)(wr:World):Prop where
 two:Two wr (w.heap.size+3) gA kA gB kB A B
 row:wr.heap[w.heap.size+1+1]?=some (xfu h)
 bel:Below (w.heap.size+2) W0 wr
 size:w.heap.size+3<=wr.heap.size
 len:A.length=B.length
theorem RefH.later {w W0:World}{code:List QI}{gA kA gB kB:Nat}{A B h:List Int}{wr w':World}(hS:RefH w W0 code gA kA gB kB A B h wr)(hb:Below wr.heap.size wr w'):RefH w W0 code gA kA gB kB A B h w':=
 ⟨hS.two.later hb,xad hS.row hb,hS.bel.trans (hb.mono (by have:=hS.size;omega)),qzD hS.size hb.size,hS.len⟩
theorem xnV {A B:List Int}(hl:A.length=B.length){k:Nat}(hk:k<A.length):(A.zip B).drop k=(A.getD k 0,B.getD k 0) :: (A.zip B).drop (k+1):=by
 have h1:k<(A.zip B).length:=by simp;omega
 rw[List.drop_eq_getElem_cons h1]
 congr 1
 simp[show k<B.length by omega,hk]
theorem xob {A B:List Int}(hl:A.length=B.length){k:Nat}(hk:k<=A.length)(l:List Int)(v:Int):((A++l).zip (B++l.map fun _=>v)).drop k=(A.zip B).drop k++l.map fun t=>(t,v):=by
 rw[List.zip_append hl,List.drop_append_of_le_length (by simp;omega)]
 congr 1
 induction l with
 | nil=>rfl
 | cons a r ih=>simp[ih]
theorem xiF {P:Nat->Prop}(m:QM)(mv:Value)(w:World)(hc:xaR P w mv m.code)(hs:xdr m.code):Calls Try.prog 47 #[MV m mv] w fun e w'=>xkQ w m.code e w':=by
 obtain⟨ad,cap,rfl,hcl,hcap,hcb,hrow⟩:=id hc;unfold maxLen at hcap;obtain⟨i0,hi,hz0,hz1,hz2⟩:=xa8 xj0;have hmi:=xfY m.code.length (by omega)
 go_enter Try.func47,Try.ntmps47;go_wp2;generalize hW0:((w.alloc (Obj.cells #[Value.string m.name,Value.int .i64 m.args,Value.int .i64 m.temps,Value.int .i64 m.prim,Value.slice ad m.code.length cap] 55)).alloc (Obj.cells #[Value.int .i64 0,Value.int .i64 0] 79))=W0 at *;have hs0:W0.heap.size=w.heap.size+1+1:=by rw[← hW0];simp
 have hbW:Below w.heap.size w W0:=by rw[← hW0];exact xbP _ _ _
 have mb:W0.heap[w.heap.size]?=some (.cells #[Value.string m.name,Value.int .i64 m.args,Value.int .i64 m.temps,Value.int .i64 m.prim,Value.slice ad m.code.length cap] 55 (0,0)):=by rw[← hW0,(xak _ _).block _ (by simp)];exact xbj _ _ _ rfl
 have rb:W0.heap[w.heap.size+1]?=some (.cells #[Value.int .i64 0,Value.int .i64 0] 79 (0,0)):=by rw[← hW0];exact xbj _ _ _ (by simp)
 clear hW0
 go_loopg [22] m.code.length (fun g i wr=>∃ j:Nat,j+g=m.code.length/\i=.int .i64 j/\Below (w.heap.size+2) W0 wr/\wr.heap.size=w.heap.size+3/\wr.heap[w.heap.size+1+1]?=some (xfu (List.replicate j (-1)++List.replicate (m.code.length-j) 0)))
 case atStart=>exact⟨0,by omega,rfl,(xak _ _).mono (by omega),by simp[hs0],by simpa using xbj W0 (xfu (List.replicate m.code.length 0)) _ hs0⟩
 case round=>
  obtain⟨j,hg,rfl,hb,hz,hr⟩:=hrel
  by_cases hj:j<m.code.length
  ·have hj1:(j:Int)<(m.code.length:Int):=by omega
   have hj0:(0:Int)<=(j:Int):=by omega
   have hcell:=xer hr (k:=j) (by simp;omega)
   have hfree:=xeH hr j;have hset:=xfJ hr j (-1);rw[xoK hj] at hset;generalize (List.replicate j (-1:Int)++List.replicate (m.code.length-j) 0).getD j 0=u at hcell;go_wp2
   go_roundg (gk-1)
   case measure=>omega
   case rel=>exact⟨j+1,by omega,by go_num,hb.setCell (by show w.heap.size+2<=w.heap.size+1+1;omega) _,by rw[xa6];exact hz,hset⟩
  ·obtain rfl:j=m.code.length:=by omega
   have hr':wr.heap[w.heap.size+1+1]?=some (xfu (xc3 m.code.length)):=by simpa [xc3] using hr
   clear hr;have hj1:(m.code.length:Int)<=(m.code.length:Int):=by omega
   have hb2:=xbP wr (Obj.cells #[Value.int .i64 0] 3) (Obj.cells #[Value.int .i64 0] 3)
   have hT:Two ((wr.alloc (Obj.cells #[Value.int .i64 0] 3)).alloc (Obj.cells #[Value.int .i64 0] 3)) (w.heap.size+3) (w.heap.size+3) 1 (w.heap.size+3+1) 1 [0] [0]:=
    ⟨⟨rfl,Or.inr ⟨_,1,#[Value.int .i64 0],rfl,qzC _,((xak _ _).block _ (by simp[hz])).trans (xbj _ _ _ hz),by simp,by unfold maxLen;omega,rfl,rfl⟩⟩,
     ⟨rfl,Or.inr ⟨_,1,#[Value.int .i64 0],rfl,by omega,xbj _ _ _ (by simp[hz]),by simp,by unfold maxLen;omega,rfl,rfl⟩⟩,by omega⟩
   have hS:RefH w W0 m.code (w.heap.size+3) 1 (w.heap.size+3+1) 1 [0] [0] (xc3 m.code.length) ((wr.alloc (Obj.cells #[Value.int .i64 0] 3)).alloc (Obj.cells #[Value.int .i64 0] 3)):=
    ⟨hT,xad hr' hb2,hb.trans (hb2.mono (by omega)),by simp[hz],rfl⟩
   go_wp2
   go_loopg [6,7,8] (2*m.code.length+1) (fun g va vb kk wr=>∃ (gA kA gB kB:Nat) (A B h:List Int) (k:Nat),va=.slice (some ⟨gA,0,none⟩) A.length kA/\vb=.slice (some ⟨gB,0,none⟩) B.length kB/\kk=.int .i64 k/\k+g<=2*m.code.length+1/\k<=A.length/\xje m.code g h ((A.zip B).drop k)=xaT m.code/\HInv m.code h ((A.zip B).drop k)/\xeK h ((A.zip B).drop k)<=g/\RefH w W0 m.code gA kA gB kB A B h wr)
   case atStart=>exact⟨w.heap.size+3,1,w.heap.size+3+1,1,[0],[0],_,0,by simp[hz],by simp[hz],rfl,by omega,by simp,rfl,HInv.start _,Nat.le_of_eq (xge _),hS⟩
   case round=>
    obtain⟨gA,kA,gB,kB,A,B,h,k,rfl,rfl,rfl,hkg,hkA,hR,hI,hL,hS⟩:=hrel;clear hT hb2 hr' hb hz;have HLEN:Hid (A.length=B.length):=hS.len
    by_cases hk:k<A.length
    ·have hzd:=xnV HLEN.out hk;rw[hzd] at hR hI hL;obtain⟨g',rfl⟩:∃ g',gk=g'+1:=⟨gk-1,by simp[xeK] at hL;omega⟩
     have HR:Hid (xje m.code (g'+1) h ((A.getD k 0,B.getD k 0) :: (A.zip B).drop (k+1))=xaT m.code):=hR;have HI:Hid (HInv m.code h ((A.getD k 0,B.getD k 0) :: (A.zip B).drop (k+1))):=hI;have HL:Hid (xeK h ((A.getD k 0,B.getD k 0) :: (A.zip B).drop (k+1))<=g'+1):=hL;have hw:=hI.wait _ (List.mem_cons_self ..);have hhl:=hI.len;simp only at hw;clear hR hI hL hzd;have ca:=hS.two.a.cell hk;have cb:=hS.two.b.cell (j:=k) (by have:=HLEN.out;omega)
     obtain⟨p,hp⟩:∃ p,p=A.getD k 0:=⟨_,rfl⟩;obtain⟨n,hn⟩:∃ n,n=B.getD k 0:=⟨_,rfl⟩;rw[← hp] at ca HR HI HL;rw[← hn] at cb HR HI HL hw;clear hp hn;have hk0:(0:Int)<=(k:Int):=by omega
     have hk1:(k:Int)<(A.length:Int):=by omega
     have hk2:(k:Int)<(B.length:Int):=by have:=HLEN.out;omega
     go_wp2
     go_quiet (fail)
     replace hS:=hS.later (below_drewN (qzL _ _) nq);clear ca cb;generalize wr.drewN nq=wq at *;have hbq:Below w.heap.size w wq:=hbW.trans (hS.bel.mono (by omega))
     have mq:wq.heap[w.heap.size]?=some (.cells #[Value.string m.name,Value.int .i64 m.args,Value.int .i64 m.temps,Value.int .i64 m.prim,Value.slice ad m.code.length cap] 55 (0,0)):=(hS.bel.block _ (by omega)).trans mb
     have rq:wq.heap[w.heap.size+1]?=some (.cells #[Value.int .i64 0,Value.int .i64 0] 79 (0,0)):=(hS.bel.block _ (by omega)).trans rb
     have mc:wq.cell? ⟨w.heap.size,4,none⟩=some (.slice ad m.code.length cap):=by rw[qzB mq];rfl
     obtain⟨rc,rf⟩:(∀ q,wq.cell? ⟨w.heap.size+1,q,none⟩=(#[Value.int .i64 0,.int .i64 0]:Array Value)[q]?)/\(∀ o,wq.frozen? ⟨w.heap.size+1,o,none⟩=false):=⟨fun q=>by rw[qzB rq],fun o=>by unfold World.frozen?;simp[rq]⟩
     have hfault:Hid (∀ (f:Int × Int) (W:World),xc1 m.code h (p,n)=.inl f->Below w.heap.size w W->xkQ w m.code (.returned (.tuple #[.slice none 0 0,FV f])) W):=fun f W hst hb=>by
      have HE:xaT m.code=([],f):=by rw[← HR.out];unfold xje;rw[hst]
      exact⟨hb,Or.inr ⟨by rw[HE];exact xgh hst,by rw[HE]⟩⟩
     have hbs:∀ (W:World) (u v:Value),Below w.heap.size w W->Below w.heap.size w ((W.setCell ⟨w.heap.size+1,0,none⟩ u).setCell ⟨w.heap.size+1,1,none⟩ v):=fun W u v hb=>(hb.setCell (by show w.heap.size<=w.heap.size+1;omega) _).setCell (by show w.heap.size<=w.heap.size+1;omega) _
     have HBS:=(show Hid (∀ (W:World) (u v:Value),Below w.heap.size w W->Below w.heap.size w ((W.setCell ⟨w.heap.size+1,0,none⟩ u).setCell ⟨w.heap.size+1,1,none⟩ v)) from hbs)
     clear hbs
     cases hx:xdf m.code p with
     | none=>
      have hst:xc1 m.code h (p,n)=.inl (9,(m.code.length:Int)):=by unfold xc1;simp only[hx]
      have HF:=hfault.out _ (((wq.setCell ⟨w.heap.size+1,0,none⟩ (.int .i64 9)).setCell ⟨w.heap.size+1,1,none⟩ (.int .i64 m.code.length))) hst (HBS.out _ _ _ hbq);have HF2:=hfault.out _ (((wq.setCell ⟨w.heap.size+1,0,none⟩ (.int .i64 9)).setCell ⟨w.heap.size+1,1,none⟩ (.int .i64 m.code.length))).drew hst (HBS.out _ _ _ hbq).drew;rw[xi7] at hx
      by_cases hpl:(m.code.length:Int)<=p
      ·go_wp2
       go_region
       all_goals go_wp2
       all_goals refine qzK (v:=.tuple #[.slice none 0 0,FV (9,m.code.length)]) ?_ rfl ?_
       all_goals first
        | (simp[results,Try.results47,go_sem,rc,rf];done)
        | exact HF
        | exact HF2
      ·have hpl':decide ((m.code.length:Int)<=p)=false:=by simpa using hpl
       have hp0:p<0:=by omega
       go_wp2
       go_region
       all_goals go_wp2
       all_goals refine qzK (v:=.tuple #[.slice none 0 0,FV (9,m.code.length)]) ?_ rfl ?_
       all_goals first
        | (simp[results,Try.results47,go_sem,rc,rf];done)
        | exact HF
        | exact HF2
     | some x=>
      obtain⟨q,rfl,hxq⟩:=xdE hx;have hq:=xae hxq;have hq0:(0:Int)<=(q:Int):=by omega
      have hq1:(q:Int)<(m.code.length:Int):=by omega
      have hq2:decide ((m.code.length:Int)<=(q:Int))=false:=by simp;omega
      have hcell:=xer hS.row (k:=q) (by omega)
      have hfree:=xeH hS.row q;have hsx:=hs x (List.mem_of_getElem? hxq);obtain⟨bc,oc,rfl,-,e0,e1,e2,e3,e4,-⟩:=hrow q x hxq;simp only[Nat.add_zero] at e0;have hbc:=World.block_lt_of_cell? _ _ e0;simp only at hbc;obtain⟨u,hu⟩:∃ u,u=h.getD q 0:=⟨_,rfl⟩
      have hst0:Hid (xc1 m.code h ((q:Int),n)=if 0<=u then (if u≠n then .inl (8,(q:Int)) else .inr (h,[])) else if n<(xaS x q).need\/x.op=17/\n≠1 then .inl (8,(q:Int)) else if 12<n+(xaS x q).more then .inl (4,(q:Int)) else .inr (h.set q n,(xaS x q).next.map fun t=>(t,n+(xaS x q).more))):=by
       show _=_
       unfold xc1;simp only[hx,Int.toNat_natCast];rw[← hu]
      rw[← hu] at hcell;clear hu hx
      by_cases hv0:0<=u
      ·by_cases hv1:u=n
       ·have hst:xc1 m.code h ((q:Int),n)=.inr (h,[]):=by rw[hst0.out,if_pos hv0,if_neg (by simpa using hv1)]
        obtain⟨k1,k2⟩:=HI.out.step hs hst
        have K3:Hid (xje m.code g' h ((A.zip B).drop (k+1))=xaT m.code):=by
         show _=_
         rw[← HR.out]
         conv=>rhs;unfold xje;rw[hst]
         simp
        have k4:=HL.out;rw[List.append_nil] at k1 k2;have K1:Hid (HInv m.code h ((A.zip B).drop (k+1))):=k1;have K2:Hid (xeK h ((A.zip B).drop (k+1))<=g'):=by show _<=_;omega
        subst hv1;clear k1 k2 k4;go_wp2
        go_roundg g'
        case measure=>omega
        case rel=>exact⟨gA,kA,gB,kB,A,B,h,k+1,rfl,rfl,by go_num,by omega,by omega,K3.out,K1.out,K2.out,hS⟩
       ·have hst:xc1 m.code h ((q:Int),n)=.inl (8,(q:Int)):=by rw[hst0.out,if_pos hv0,if_pos hv1]
        have HF:=hfault.out _ _ hst (HBS.out wq (.int .i64 8) (.int .i64 q) hbq);have hv1':(u != n)=true:=by simpa using hv1
        go_wp2;refine qzK (v:=.tuple #[.slice none 0 0,FV (8,(q:Int))]) ?_ rfl HF
        simp[results,Try.results47,go_sem,rc,rf]
      ·have hv0':decide (0<=u)=false:=by simpa using hv0
       have hS1:RefH w W0 m.code gA kA gB kB A B (h.set q n) (wq.setCell ⟨w.heap.size+1+1,q,none⟩ (.int .i64 n)):=by
        have hsz:=hS.size;refine⟨hS.two.keep fun b h1 _=>xac (by omega) _,xfJ hS.row q n,hS.bel.setCell (by show w.heap.size+2<=w.heap.size+1+1;omega) _,by rw[xa6];exact hS.size,hS.len⟩
       have rq1:(wq.setCell ⟨w.heap.size+1+1,q,none⟩ (.int .i64 n)).heap[w.heap.size+1]?=some (.cells #[Value.int .i64 0,Value.int .i64 0] 79 (0,0)):=(xac (by omega) _).trans rq
       have mq1:(wq.setCell ⟨w.heap.size+1+1,q,none⟩ (.int .i64 n)).heap[w.heap.size]?=_:=(xac (by omega) _).trans mq
       have mc1:(wq.setCell ⟨w.heap.size+1+1,q,none⟩ (.int .i64 n)).cell? ⟨w.heap.size,4,none⟩=some (.slice (some ⟨bc,oc,none⟩) m.code.length cap):=by rw[qzB mq1];rfl
       have hbq1:Below w.heap.size w (wq.setCell ⟨w.heap.size+1+1,q,none⟩ (.int .i64 n)):=hbq.setCell (by show w.heap.size<=w.heap.size+1+1;omega) _
       have j0:=qzA hbq1 e0;have j1:=qzA hbq1 e1;have j2:=qzA hbq1 e2;have j3:=qzA hbq1 e3;have j4:=qzA hbq1 e4;go_wp2_with fail;clear mc hcell hfree rc rf rq mq hS j0 j1 j2 j3 j4 hbq mc1;generalize (wq.setCell ⟨w.heap.size+1+1,q,none⟩ (.int .i64 n))=w5 at *;refine (xmD x q _ hsx (xat (by omega) (by omega))).mono ?_
       rintro e w6 ⟨an,kn,rfl,hIn,hb6⟩;have hrg:=xem hsx q;generalize hNX:xaS x q=NX at *;obtain⟨need,more,next⟩:=NX;simp only at hrg hIn;have hbq6:=xaf hbq1 hb6;have mq6:=xad mq1 hb6;have mc6:w6.cell? ⟨w.heap.size,4,none⟩=some (.slice (some ⟨bc,oc,none⟩) m.code.length cap):=by rw[qzB mq6];rfl
       have rq6:=xad rq1 hb6;obtain⟨rc,rf⟩:(∀ q,w6.cell? ⟨w.heap.size+1,q,none⟩=(#[Value.int .i64 0,.int .i64 0]:Array Value)[q]?)/\(∀ o,w6.frozen? ⟨w.heap.size+1,o,none⟩=false):=⟨fun q=>by rw[qzB rq6],fun o=>by unfold World.frozen?;simp[rq6]⟩
       have op6:=qzA hbq6 e0;have hS6:=hS1.later hb6;have hsum:IntKind.i64.wrap (n+more)=n+more:=xat (by omega) (by omega)
       have hst1:Hid (xc1 m.code h ((q:Int),n)=if n<need\/x.op=17/\n≠1 then .inl (8,(q:Int)) else if 12<n+more then .inl (4,(q:Int)) else .inr (h.set q n,next.map fun t=>(t,n+more))):=by
        show _=_
        rw[hst0.out,if_neg (by omega)]
       clear hst0
       by_cases c1:n<need
       ·have hst:xc1 m.code h ((q:Int),n)=.inl (8,(q:Int)):=by rw[hst1.out,if_pos (Or.inl c1)]
        have HF:=hfault.out _ _ hst (HBS.out w6 (.int .i64 8) (.int .i64 q) hbq6);go_wp2;refine qzK (v:=.tuple #[.slice none 0 0,FV (8,(q:Int))]) ?_ rfl HF
        simp[results,Try.results47,go_sem,rc,rf]
       ·have c1':decide (n<need)=false:=by simpa using c1
        by_cases c2:x.op=17/\n≠1
        ·have hst:xc1 m.code h ((q:Int),n)=.inl (8,(q:Int)):=by rw[hst1.out,if_pos (Or.inr c2)]
         have HF:=hfault.out _ _ hst (HBS.out w6 (.int .i64 8) (.int .i64 q) hbq6);have c3:=c2.1;have c4:(n != 1)=true:=by simpa using c2.2
         clear c2;go_wp2;refine qzK (v:=.tuple #[.slice none 0 0,FV (8,(q:Int))]) ?_ rfl HF
         simp[results,Try.results47,go_sem,rc,rf]
        ·have HNO:Hid (¬ (n<need\/x.op=17/\n≠1)):=fun h=>h.elim c1 c2
         have hsel:(x.op == 17)=false\/(x.op == 17)=true/\(n != 1)=false:=by
          by_cases h17:x.op=17
          ·right;refine⟨by simpa using h17,?_⟩
           have:n=1:=Classical.byContradiction fun h=>c2 ⟨h17,h⟩
           simp[this]
          ·left;simpa using h17
         clear c2;obtain⟨go,hgo⟩:∃ go,go=g':=⟨_,rfl⟩
         go_upto_region 19 with (fail)
         go_cut [101] (fun s101 wx=>s101=.bool false/\w6=wx)
         case first=>
          rcases hsel with hsel | ⟨hsel,hsel2⟩
          all_goals
           go_wp2_with fail
           go_meet
           case rel=>exact⟨rfl,rfl⟩
         case rest=>
          obtain⟨rfl,rfl⟩:=hcut
          by_cases c5:12<n+more
          ·have hst:xc1 m.code h ((q:Int),n)=.inl (4,(q:Int)):=by rw[hst1.out,if_neg HNO.out,if_pos c5]
           have HF:=hfault.out _ _ hst (HBS.out w6 (.int .i64 4) (.int .i64 q) hbq6);go_wp2;refine qzK (v:=.tuple #[.slice none 0 0,FV (4,(q:Int))]) ?_ rfl HF
           simp[results,Try.results47,go_sem,rc,rf]
          ·have c5':decide (12<n+more)=false:=by simpa using c5
           have hst:xc1 m.code h ((q:Int),n)=.inr (h.set q n,next.map fun t=>(t,n+more)):=by rw[hst1.out,if_neg HNO.out,if_neg c5]
           obtain⟨k1,k2⟩:=HI.out.step hs hst;have k4:=HL.out;have hzm:=xob HLEN.out (k:=k+1) (by omega) next (n+more)
           have K3:Hid (xje m.code g' (h.set q n) (((A++next).zip (B++next.map fun _=>n+more)).drop (k+1))=xaT m.code):=by
            show _=_
            rw[← HR.out,hzm]
            conv=>rhs;unfold xje;rw[hst]
           have K1:Hid (HInv m.code (h.set q n) (((A++next).zip (B++next.map fun _=>n+more)).drop (k+1))):=by show HInv _ _ _;rw[hzm];exact k1
           have K2:Hid (xeK (h.set q n) (((A++next).zip (B++next.map fun _=>n+more)).drop (k+1))<=g'):=by show _<=_;rw[hzm];omega
           have hAl:A.length<=2*m.code.length+1:=by
            have e1:((A.zip B).drop (k+1)).length+(k+1)=A.length:=by have:=HLEN.out;simp;omega
            simp[xeK] at k4
            simp at e1
            have:=HLEN.out
            omega
           clear hst k1 k2 k4 hzm HR HI HL hfault;obtain⟨an',kn',en,hin1,hin2,hin3,hin4⟩:=id hIn;simp only[Value.slice.injEq] at en;obtain⟨rfl,-,rfl⟩:=en;unfold maxLen at hin2;have hgA:=hS1.two.a.lt;have hgB:=hS1.two.b.lt;have hs56:=hb6.size;have hnl:next.length<=2:=hrg.2.2.2.2.2;go_wp2
           go_loopg [6,7,112] next.length (fun g2 va vb ii wi=>∃ (i gA kA gB kB:Nat),i+g2=next.length/\ii=.int .i64 i/\va=.slice (some ⟨gA,0,none⟩) (A++next.take i).length kA/\vb=.slice (some ⟨gB,0,none⟩) (B++(next.take i).map fun _=>n+more).length kB/\RefH w W0 m.code gA kA gB kB (A++next.take i) (B++(next.take i).map fun _=>n+more) (h.set q n) wi/\Keeps (fun b=>w5.heap.size<=b/\b<w6.heap.size) w6 wi/\(gA<w5.heap.size\/w6.heap.size<=gA)/\(gB<w5.heap.size\/w6.heap.size<=gB)/\w6.heap.size<=wi.heap.size)
           case atStart=>exact⟨0,gA,kA,gB,kB,by omega,rfl,by simp,by simp,by simpa using hS6,Keeps.refl _ _,Or.inl hgA.2,Or.inl hgB.2,qzC _⟩
           case round=>
            obtain⟨i,gA,kA,gB,kB,hik,rfl,rfl,rfl,hSi,hKi,hgAi,hgBi,hszi⟩:=hrel
            by_cases hil:i<next.length
            ·have hi1:(i:Int)<(next.length:Int):=by omega
             have hi0:(0:Int)<=(i:Int):=by omega
             obtain⟨b2,o2,rfl,hb2,hv⟩:=hin4 i next[i] (List.getElem?_eq_getElem hil);have hv':w6.cell? ⟨b2,o2+i*1+0,none⟩=some (.int .i64 next[i]):=hv;simp only[Nat.mul_one,Nat.add_zero] at hv';have hv2:=hKi _ _ _ ⟨hb2,World.block_lt_of_cell? _ _ hv'⟩ hv';have ht:next.take (i+1)=next.take i++[next[i]]:=by rw[List.take_add_one,List.getElem?_eq_getElem hil];rfl
             have HT:Hid (next.take (i+1)=next.take i++[next[i]]):=ht;have hti:(next.take i).length=i:=by rw[List.length_take];omega
             have hlA:(A++next.take i).length<=2*m.code.length+3:=by rw[List.length_append,hti];omega
             have hlB:(B++(next.take i).map fun _=>n+more).length<=2*m.code.length+3:=by rw[List.length_append,List.length_map,hti];have:=HLEN.out;omega
             have hsz:=hSi.size;generalize next[i]=t at *;have HAi:Hid (A++next.take (i+1)=(A++next.take i)++[t]):=by show _=_;rw[HT.out,List.append_assoc]
             have HBi:Hid (B++(next.take (i+1)).map (fun _=>n+more)=(B++(next.take i).map fun _=>n+more)++[n+more]):=by show _=_;rw[HT.out,List.map_append,List.append_assoc];rfl
             generalize A++next.take i=A1 at *;generalize (B++(next.take i).map fun _=>n+more)=B1 at *
             clear hv ht hti hv';have hTi:=hSi.two;have hkk:∀ {W W':World} {g:Nat},(g<w5.heap.size\/w6.heap.size<=g)->w6.heap.size<=W.heap.size->(∀ b,b<W.heap.size->b≠g->W'.heap[b]?=W.heap[b]?)->Keeps (fun b=>w5.heap.size<=b/\b<w6.heap.size) W W':=fun hg hs' h=>Keeps.of_block fun b hb hl=>h b hl (by omega)
             go_wp2_with (first
              | (at_builtin;refine wpList_append_lies _ rfl (.tmp 116) (.tmp 118) 48 rfl (w.heap.size+3) 3 i0 _ 1 8 Try.underlying48 hi hz0 hz1 hz2 rfl (by decide) (.slice (some ⟨gA,0,none⟩) A1.length kA) A1.length (xcf A1) rfl (hTi.a.alloc _) ⟨_,0,none⟩ 1 1 [.int .i64 t] rfl rfl (fun j u hu=>(by rw[Addr.add_lit,Nat.zero_add];exact (xaa wr _ 3 _ rfl j).trans (by simpa using hu))) (by intro u hu;simp at hu;subst hu;rfl) (by omega) (by unfold maxLen;omega) (by omega) (by simp;omega) _ rfl ?_;intro g2 c2 w2 hown2 hgr2 hor2 hlt2;have hT2:=hTi.first hown2 hgr2 hor2 hsz;have hs2:=hT2.2.size)
              | (at_builtin;refine wpList_append_lies _ rfl (.tmp 120) (.tmp 124) 48 rfl (w.heap.size+3) 3 i0 _ 1 8 Try.underlying48 hi hz0 hz1 hz2 rfl (by decide) (.slice (some ⟨gB,0,none⟩) B1.length kB) B1.length (xcf B1) rfl (hT2.1.b.alloc _) ⟨_,0,none⟩ 1 1 [.int .i64 (n+more)] rfl rfl (fun j u hu=>(by rw[Addr.add_lit,Nat.zero_add];exact (xaa w2 _ 3 _ rfl j).trans (by simpa using hu))) (by intro u hu;simp at hu;subst hu;rfl) (by omega) (by unfold maxLen;omega) (by omega) (by simp;omega) _ rfl ?_;intro g3 c3 w3 hown3 hgr3 hor3 hlt3;have hT3:=hT2.1.swap.first hown3 hgr3 hor3 (by omega)))
             have hs3:=hT3.2.size;have hne:=hTi.ne
             simp[Value.ownBlock] at hor2 hor3
             have hK2:Keeps (fun b=>w5.heap.size<=b/\b<w6.heap.size) wr w2:=hkk hgAi hszi fun b hb hb'=>(hgr2.block b (by simp;omega) (by simp[Value.ownBlock];omega)).trans ((xak _ _).block b hb)
             have hK3:Keeps (fun b=>w5.heap.size<=b/\b<w6.heap.size) w2 w3:=hkk hgBi (by omega) fun b hb hb'=>(hgr3.block b (by simp;omega) (by simp[Value.ownBlock];omega)).trans ((xak _ _).block b hb)
             have hl1:=hSi.len
             go_roundg (gk-1)
             case measure=>omega
             case rel=>
              refine⟨i+1,g2,c2,g3,c3,by omega,by go_num,by rw[HAi.out];simp,by rw[HBi.out];simp,?_,(hKi.trans hK2).trans hK3,by omega,by omega,by omega⟩
              rw[HAi.out,HBi.out]
              exact⟨hT3.1.swap,((hT2.2.trans hT3.2).block _ (by omega)).trans hSi.row,hSi.bel.trans ((hT2.2.trans hT3.2).mono (by omega)),by omega,by simp;exact hl1⟩
            ·obtain rfl:i=next.length:=by omega
             have hi1:(next.length:Int)<=(next.length:Int):=by omega
             rw[List.take_length] at hSi;simp only[List.take_length];go_wp2
             go_roundg go
             case measure=>omega
             case rel=>exact⟨gA,kA,gB,kB,A++next,B++next.map fun _=>n+more,h.set q n,k+1,by simp,by simp,by go_num,by omega,by simp;omega,by rw[hgo];exact K3.out,K1.out,by rw[hgo];exact K2.out,hSi⟩
    ·have hkeq:k=A.length:=by omega
     have HE:Hid (xaT m.code=(h,(0,0))):=by
      show _=_
      rw[← hR,List.drop_eq_nil_of_le (by have:=HLEN.out;simp;omega)]
      cases gk<;>rfl
     clear hR hI hL;have hk1:(A.length:Int)<=(k:Int):=by omega
     have hbq:Below w.heap.size w wr:=hbW.trans (hS.bel.mono (by omega))
     have rq:wr.heap[w.heap.size+1]?=some (.cells #[Value.int .i64 0,Value.int .i64 0] 79 (0,0)):=(hS.bel.block _ (by omega)).trans rb
     obtain⟨rc,rf⟩:(∀ q,wr.cell? ⟨w.heap.size+1,q,none⟩=(#[Value.int .i64 0,.int .i64 0]:Array Value)[q]?)/\(∀ o,wr.frozen? ⟨w.heap.size+1,o,none⟩=false):=⟨fun q=>by rw[qzB rq],fun o=>by unfold World.frozen?;simp[rq]⟩
     clear hkeq;go_wp2;refine qzK (v:=.tuple #[.slice (some ⟨w.heap.size+1+1,0,none⟩) m.code.length m.code.length,FV (0,0)]) ?_ rfl ⟨?_,Or.inl ⟨by rw[HE.out],_,rfl,?_,by omega⟩⟩
     ·simp[results,Try.results47,go_sem,rc,rf]
     ·exact ((hbq.setCell (by simp) _).setCell (by simp) _)
     ·rw[xac (by omega),xac (by omega),HE.out]
      exact hS.row
end Go.Proofs.Ytdfbgpiikeheiaa
