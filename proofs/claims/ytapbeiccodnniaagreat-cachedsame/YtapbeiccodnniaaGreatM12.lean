/- A part. -/
import Derived.Test.YtapbeiccodnniaaGreatM11
import Derived.Deep.RegionWith
import Derived.Deep.RegionHeld
namespace Go.Proofs.YtapbeiccodnniaaGreat
open Go.ChangeShapes Go.WideShapes Go.ChangeAt Go.RowKit
set_option linter.unusedSimpArgs false
set_option linter.unusedVariables false
set_option maxHeartbeats 8000000
set_option maxRecDepth 8000
def xbS (x:QE)(s:QS)(ep:Int):QE:=if x.ez=ep then x else ⟨s,ep,false,[]⟩
def xcX:List QE->QS->Int->QL->List QE
 | [],s,ep,y=>[xax ⟨s,ep,false,[]⟩ y]
 | x :: r,s,ep,y=>if eqS x.site s then xax (xbS x s ep) y :: r else x :: xcX r s ep y
theorem xhx:∀ {xs:List QE} {s:QS} {ep:Int} {y:QL},xbt (fun x=>eqS x.site s) xs=-1->xcX xs s ep y=xs++[xax ⟨s,ep,false,[]⟩ y]
 | [],s,ep,y,_=>rfl
 | x :: r,s,ep,y,h=>by
  have hx:eqS x.site s=false:=by
   cases hb:eqS x.site s with
   | false=>rfl
   | true=>rw[xb4 (j:=0) (x:=x) rfl hb (fun i y hi _=>by omega)] at h;simp at h
  have hr:xbt (fun x:QE=>eqS x.site s) r=-1:=by
   unfold xbt at h ⊢;rw[List.findIdx?_cons,hx] at h
   cases hf:r.findIdx? (fun x=>eqS x.site s) with
   | none=>rfl
   | some k=>rw[hf] at h;simp at h;omega
  simp[xcX,hx,xhx hr]
theorem xkS:∀ {xs:List QE} {s:QS} {ep:Int} {y:QL} {j:Nat} {x:QE},xs[j]?=some x->eqS x.site s=true->(∀ i z,i<j->xs[i]?=some z->eqS z.site s=false)->xcX xs s ep y=xs.set j (xax (xbS x s ep) y)
 | [],s,ep,y,j,x,h,_,_=>by simp at h
 | z :: r,s,ep,y,0,x,h,hp,_=>by
  simp at h;subst h
  simp[xcX,hp]
 | z :: r,s,ep,y,j+1,x,h,hp,hn=>by
  have hz:=hn 0 z (by omega) rfl
  simp only[xcX,hz,List.set_cons_succ];rw[xkS (xs:=r) (j:=j) (x:=x) (by simpa using h) hp (fun i u hi hu=>hn (i+1) u (by omega) (by simpa using hu))]
  rfl
theorem xhQ {α:Type}{E:Lay α}{sz:Nat}(G:Good E sz){w:World}{g j cap:Nat}{xs:List α}{x':α}{vs:List Value}{Q S:Nat->Prop}(hj:j<xs.length)
  (hoth:∀ i y,i≠j->xs[i]?=some y->∃ R:Nat->Prop,¬ R g/\(∀ b,R b->S b)/\E R w (fun k=>w.cell? ⟨g,i*sz+k,none⟩) y)
  (hblk:∀ k,k<sz->∃ u,w.cell? ⟨g,j*sz+k,none⟩=some u) (hl:vs.length=sz) (hE:E Q w (fun k=>vs[k]?) x') (hQ:¬ Q g) (hQS:∀ b,Q b->S b) (hSg:S g) (hc1:xs.length<=cap) (hc2:cap<=maxLen) :
  IsRow E sz 0 S (w.setCells g (j*sz) vs) (.slice (some ⟨g,0,none⟩) xs.length cap) (xs.set j x'):=by
 have hK:∀ R:Nat->Prop,¬ R g->Keeps R w (w.setCells g (j*sz) vs):=fun R hR=>Keeps.of_block fun b hb _=>xaI (by intro e;subst e;exact hR hb) _ _ _
 refine⟨some ⟨g,0,none⟩,cap,by simp,by simpa using hc1,hc2,by simp,fun i y hy=>⟨g,0,rfl,hSg,?_⟩⟩
 by_cases hij:i=j
 ·subst hij;rw[List.getElem?_set_self hj] at hy
  cases hy
  refine G.move hE hQS (hK Q hQ) fun k hk v hv=>?_
  have:=World.cell?_setCells_in g vs (i*sz) w (fun q hq=>by obtain⟨u,hu⟩:=hblk q (by omega);rw[hu];rfl) k (by omega)
  rw[Nat.zero_add,this];rw[List.getElem?_eq_getElem (by omega)] at hv
  exact hv
 ·rw[List.getElem?_set_ne (by omega)] at hy
  obtain⟨R,hR,hRS,hT⟩:=hoth i y hij hy;refine G.move hT hRS (hK R hR) fun k hk v hv=>?_
  rw[Nat.zero_add,World.cell?_setCells_out g vs (j*sz) w _ (fun q hq=>?_)]
  ·exact hv
  ·by_cases hlt:i<j
   ·left
    have:=Nat.mul_le_mul_right sz (show i+1<=j by omega)
    rw[Nat.add_mul] at this
    simp;omega
   ·right
    have:=Nat.mul_le_mul_right sz (show j+1<=i by omega)
    rw[Nat.add_mul] at this
    simp;omega
theorem xj0 {P:Nat->Prop}(xs:List QE)(v:Value)(s:QS)(ep c fd:Int)(w:World)(hh:xbk P w v xs)(hby:(xs.length+1)*72<=140737488355328)(hls:∀ x∈xs,x.lz.length*16<=281474976710656) :
  Calls Tryz.prog 63 #[v,SV s,.int .i64 ep,.int .i64 c,.int .i64 fd] w fun e w'=>∃ g cap,e=.returned (.slice (some ⟨g,0,none⟩) (xcX xs s ep ⟨c,fd⟩).length cap)/\xbk (fun b=>w.heap.size<=b) w' (.slice (some ⟨g,0,none⟩) (xcX xs s ep ⟨c,fd⟩).length cap) (xcX xs s ep ⟨c,fd⟩)/\Below w.heap.size w w':=by
 have hml:xs.length<=maxLen:=by unfold maxLen;omega
 obtain⟨ad,cap,rfl,-,-,-,-⟩:=id hh;have hb0:=xaj w (.cells #[.int .i64 s.cls,.string s.name,.int .i64 s.at'] 67);have hs0:=xeS w s 67;go_enter Tryz.func63,Tryz.ntmps63;go_wp2_with fail;refine (xdi xs _ _ (hh.later xbw hb0) (by omega) hls).mono ?_
 rintro e w1 ⟨g,rfl,hown,hg,hb1⟩;have hs1:=hs0.later hb1;have hb01:Below w.heap.size w w1:=xbz (Below.refl _ _) hb1;have hg0:w.heap.size<g:=by simp at hg;omega
 clear hb1 hb0 hs0 hg hh;obtain⟨s0,s1,s2⟩:=id hs1;go_wp2_with fail;refine (xeq xs _ s _ (xcs (hown.row0 xct hml))).mono ?_;rintro e w2 ⟨rfl,hb2⟩;replace hown:=hown.later xct hb2;obtain⟨s0,s1,s2⟩:=hs1.later hb2;have hb02:Below w.heap.size w w2:=xah hb01 hb2;clear hb2 hb01
 rcases xb2 (fun x:QE=>eqS x.site s) xs with hf | ⟨j,x,hf,hx,hp,hn⟩
 ·have HO:Hid (xcX xs s ep ⟨c,fd⟩=xs++[xax ⟨s,ep,false,[]⟩ ⟨c,fd⟩]):=xhx hf;rw[hf];have hrow:=hown.row0 xct hml
  go_wp2_with (at_builtin;refine xbp (R:=fun b=>g<=b/\b<w2.heap.size) xct rfl (.tmp 22) (.tmp 26) 31 rfl 70 _ 72 Tryz.underlying31 xmQ rfl xs _ rfl (hrow.later xct (xaj _ _)) _ 70 [.int .i64 s.cls,.string s.name,.int .i64 s.at',.int .i64 ep,.bool false,.slice none 0 0] rfl (heap_alloc_new _ _) rfl ⟨s,ep,false,[]⟩ (P':=fun b=>False) ⟨rfl,rfl,rfl,rfl,rfl,_,rfl,none,rfl,fun _=>rfl,none,0,rfl,by simp,by simp,by simp,fun i x hx=>by simp at hx⟩ (fun h=>by cases h) (by unfold maxLen;omega) hby (fun _ h=>h) (fun _ h=>h.elim) ?_;intro g' cap' w3 hrow3 hg3 hgl3 hb3 hblk3;obtain⟨cur3,q1,q2,q3,q4,q5,q6⟩:=hblk3;have k0:=q6 0 _ rfl;have k1:=q6 1 _ rfl;have k2:=q6 2 _ rfl;have k3:=q6 3 _ rfl;have k4:=q6 4 _ rfl;have k5:=q6 5 _ rfl;simp only[Nat.add_zero] at k0;have fz3:∀ o,w3.frozen? ⟨g',o,none⟩=false:=(fun o=>by simp[World.frozen?,q1]);have hn1:(xs.length:Int)<(xs.length:Int)+1:=(by omega);have hn0:(0:Int)<=(xs.length:Int):=(by omega);clear hrow3)
  refine (xds (P:=fun _=>False) ⟨s,ep,false,[]⟩ ⟨c,fd⟩ _ w3 ⟨none,rfl,fun _=>rfl,none,0,rfl,by simp,by simp,by simp,fun i x hx=>by simp at hx⟩).mono ?_
  rintro e w4 ⟨a4,n4,c4,rfl,hn4,hL4,hb4⟩;have hg3':w2.heap.size+1<=g':=by simpa using hg3
  have hz2:=hb02.size;have hb3':Below w.heap.size w w3:=xbz hb02 hb3;have hz3:=hb3'.size;generalize xax ⟨s,ep,false,[]⟩ ⟨c,fd⟩=x' at *;have k0:=qzA hb4 k0;have k1:=qzA hb4 k1;have k2:=qzA hb4 k2;have k3:=qzA hb4 k3;have k4:=qzA hb4 k4;have k5:=qzA hb4 k5;have f4:∀ o,w4.frozen? ⟨g',o,none⟩=false:=fun o=>(hb4.frozen (p:=⟨g',o,none⟩) hgl3).trans (fz3 o)
  have HOTH:Hid (∀ i y,i≠xs.length->(xs++[(⟨s,ep,false,[]⟩:QE)])[i]?=some y->∃ R:Nat->Prop,¬ R g'/\(∀ b,R b->w.heap.size<=b)/\xhq R w4 (fun k=>w4.cell? ⟨g',i*6+k,none⟩) y):=fun i y hi hy=>by
   refine⟨fun b=>g<=b/\b<w2.heap.size,fun h=>by omega,fun b h=>by omega,CellT.plain ?_⟩
   refine xct.move (q5.2 i y hy) (fun _ h=>h) (.of_below hb4) fun k hk v hv=>?_
   rw[List.getElem?_take] at hv
   split at hv
   ·refine qzA hb4 ?_;rw[qzB q1]
    simpa using hv
   ·cases hv
  have HBK:Hid (∀ k,k<6->∃ u,w4.cell? ⟨g',xs.length*6+k,none⟩=some u):=fun k hk=>by
   match k,hk with
   | 0,_=>exact⟨_,k0⟩
   | 1,_=>exact⟨_,k1⟩
   | 2,_=>exact⟨_,k2⟩
   | 3,_=>exact⟨_,k3⟩
   | 4,_=>exact⟨_,k4⟩
   | 5,_=>exact⟨_,k5⟩
  clear hb3 fz3 q6 q5 hrow hf hown;subst hn4;go_wp2_with fail
  go_ret
  rw[HO.out];refine⟨g',cap',by simp,?_,((((((hb3'.trans (hb4.mono hz3)).setCell (by simp;omega) _).setCell (by simp;omega) _).setCell (by simp;omega) _).setCell (by simp;omega) _).setCell (by simp;omega) _).setCell (by simp;omega) _⟩
  have:=xhQ xbw (g:=g') (j:=xs.length) (cap:=cap') (xs:=xs++[⟨s,ep,false,[]⟩]) (x':=x') (vs:=[.int .i64 x'.site.cls,.string x'.site.name,.int .i64 x'.site.at',.int .i64 x'.ez,.bool x'.many,.slice a4 x'.lz.length c4]) (Q:=fun b=>False\/w3.heap.size<=b) (S:=fun b=>w.heap.size<=b) (by simp) HOTH.out HBK.out rfl ⟨rfl,rfl,rfl,rfl,rfl,_,rfl,hL4⟩ (by rintro (h | h)<;>first | exact h | omega) (fun b h=>by rcases h with h | h<;>first | exact h.elim | omega) (by omega) (by simpa using q3) q4
  rw[show (xs++[(⟨s,ep,false,[]⟩:QE)]).set xs.length x'=xs++[x'] by simp,show (xs++[(⟨s,ep,false,[]⟩:QE)]).length=xs.length+1 by simp] at this
  rw[show (xs++[x']).length=xs.length+1 by simp]
  exact this
 ·have HO:Hid (xcX xs s ep ⟨c,fd⟩=xs.set j (xax (xbS x s ep) ⟨c,fd⟩)):=xkS hx hp hn;have hj:=xae hx;have hj0:(0:Int)<=(j:Int):=by omega
  have hj1:(j:Int)<(xs.length:Int):=by omega
  obtain⟨k0,k1,k2,k3,k4,lv,k5,htl⟩:=hown.2 j x hj hx;replace k0:w2.cell? ⟨g,j*6,none⟩=some (.int .i64 x.site.cls):=k0;replace k1:w2.cell? ⟨g,j*6+1,none⟩=some (.string x.site.name):=k1;replace k2:w2.cell? ⟨g,j*6+2,none⟩=some (.int .i64 x.site.at'):=k2;replace k3:w2.cell? ⟨g,j*6+3,none⟩=some (.int .i64 x.ez):=k3;replace k4:w2.cell? ⟨g,j*6+4,none⟩=some (.bool x.many):=k4;replace k5:w2.cell? ⟨g,j*6+5,none⟩=some lv:=k5;have hz2:=hb02.size;have fz2:∀ o,w2.frozen? ⟨g,o,none⟩=false:=hown.unfrozen;have hgl:g<w2.heap.size:=by obtain⟨⟨cur,h1,-⟩,-⟩:=hown;exact xaf h1
  have HOTH:Hid (∀ w',Keeps (fun b=>g<b/\b<w2.heap.size) w2 w'->(∀ i k,i<xs.length->i≠j->k<6->∀ v,w2.cell? ⟨g,i*6+k,none⟩=some v->w'.cell? ⟨g,i*6+k,none⟩=some v)->∀ i y,i≠j->xs[i]?=some y->∃ R:Nat->Prop,¬ R g/\(∀ b,R b->w.heap.size<=b)/\xhq R w' (fun k=>w'.cell? ⟨g,i*6+k,none⟩) y):=fun w' hk hcl i y hi hy=>by
   refine⟨fun b=>g<b/\b<w2.heap.size,fun h=>by omega,fun b h=>by omega,CellT.plain ?_⟩
   exact xct.move (hown.2 i y (xae hy) hy) (fun _ h=>h) hk fun k hk' v hv=>hcl i k (xae hy) hi hk' v hv
  rw[hf];clear hf hn hx hs1
  by_cases he:x.ez=ep
  ·have HF:Hid (xbS x s ep=x):=by show _=_;unfold xbS;rw[if_pos he]
   rw[HF.out] at HO;subst he;go_wp2_with fail;refine (xds x ⟨c,fd⟩ lv w2 htl).mono ?_;rintro e w3 ⟨a3,n3,c3,rfl,hn3,hL3,hb3⟩;generalize xax x ⟨c,fd⟩=x' at *;have HO3:Hid (∀ i y,i≠j->xs[i]?=some y->∃ R:Nat->Prop,¬ R g/\(∀ b,R b->w.heap.size<=b)/\xhq R w3 (fun k=>w3.cell? ⟨g,i*6+k,none⟩) y):=HOTH.out w3 (.of_below hb3) fun i k _ _ _ v hv=>qzA hb3 hv
   have m0:=qzA hb3 k0;have m1:=qzA hb3 k1;have m2:=qzA hb3 k2;have m3:=qzA hb3 k3;have m4:=qzA hb3 k4;have m5:=qzA hb3 k5;have hbw3:=xah hb02 hb3;clear k0 k1 k2 k3 k4 k5 HOTH hown htl s0 s1 s2;have f3:∀ o,w3.frozen? ⟨g,o,none⟩=false:=fun o=>(hb3.frozen (p:=⟨g,o,none⟩) hgl).trans (fz2 o)
   have HBK:Hid (∀ k,k<6->∃ u,w3.cell? ⟨g,j*6+k,none⟩=some u):=fun k hk=>by
    match k,hk with
    | 0,_=>exact⟨_,m0⟩
    | 1,_=>exact⟨_,m1⟩
    | 2,_=>exact⟨_,m2⟩
    | 3,_=>exact⟨_,m3⟩
    | 4,_=>exact⟨_,m4⟩
    | 5,_=>exact⟨_,m5⟩
   subst hn3;go_wp2_with fail
   go_ret
   rw[HO.out];refine⟨g,xs.length,by simp,?_,(((((hbw3.setCell (by simp;omega) _).setCell (by simp;omega) _).setCell (by simp;omega) _).setCell (by simp;omega) _).setCell (by simp;omega) _).setCell (by simp;omega) _⟩
   have:=xhQ xbw (g:=g) (j:=j) (cap:=xs.length) (xs:=xs) (x':=x') (vs:=[.int .i64 x'.site.cls,.string x'.site.name,.int .i64 x'.site.at',.int .i64 x'.ez,.bool x'.many,.slice a3 x'.lz.length c3]) (Q:=fun b=>(g<b/\b<w2.heap.size)\/w2.heap.size<=b) (S:=fun b=>w.heap.size<=b) hj HO3.out HBK.out rfl ⟨rfl,rfl,rfl,rfl,rfl,_,rfl,hL3⟩ (by rintro (h | h)<;>first | exact h | omega) (fun b h=>by rcases h with h | h<;>first | exact h.elim | omega) (by omega) (qzC _) hml
   rw[show (xs.set j x').length=xs.length by simp]
   exact this
  ·have HF:Hid (xbS x s ep=⟨s,ep,false,[]⟩):=by show _=_;unfold xbS;rw[if_neg he]
   rw[HF.out] at HO;have hd:(x.ez != ep)=true:=by simpa using he
   go_wp2_with fail
   have hin:=fun k (hk:k<6)=>World.cell?_setCells_in g [.int .i64 s.cls,.string s.name,.int .i64 s.at',.int .i64 ep,.bool false,.slice none 0 0] (j*6) w2 (fun q hq=>by
    simp only[List.length_cons,List.length_nil] at hq
    match q,hq with
    | 0,_=>show (w2.cell? ⟨g,j*6,none⟩).isSome=true;rw[k0];rfl
    | 1,_=>rw[k1];rfl
    | 2,_=>rw[k2];rfl
    | 3,_=>rw[k3];rfl
    | 4,_=>rw[k4];rfl
    | 5,_=>rw[k5];rfl) k (by simpa using hk)
   have hW:Keeps (fun b=>g<b/\b<w2.heap.size) w2 (w2.setCells g (j*6) [.int .i64 s.cls,.string s.name,.int .i64 s.at',.int .i64 ep,.bool false,.slice none 0 0]):=Keeps.of_block fun b hb _=>xaI (by omega) _ _ _
   have hWo:∀ i k,i<xs.length->i≠j->k<6->∀ v,w2.cell? ⟨g,i*6+k,none⟩=some v->(w2.setCells g (j*6) [.int .i64 s.cls,.string s.name,.int .i64 s.at',.int .i64 ep,.bool false,.slice none 0 0]).cell? ⟨g,i*6+k,none⟩=some v:=fun i k hi hij hk v hv=>by
    rw[World.cell?_setCells_out g _ (j*6) w2 _ (fun _ _=>?_)]
    ·exact hv
    ·simp;omega
   have hWb:Below w.heap.size w (w2.setCells g (j*6) [.int .i64 s.cls,.string s.name,.int .i64 s.at',.int .i64 ep,.bool false,.slice none 0 0]):=(((((hb02.setCell (by simp;omega) _).setCell (by simp;omega) _).setCell (by simp;omega) _).setCell (by simp;omega) _).setCell (by simp;omega) _).setCell (by simp;omega) _
   have hWz:(w2.setCells g (j*6) [.int .i64 s.cls,.string s.name,.int .i64 s.at',.int .i64 ep,.bool false,.slice none 0 0]).heap.size=w2.heap.size:=xbh _ _ _;have hWf:∀ o,(w2.setCells g (j*6) [.int .i64 s.cls,.string s.name,.int .i64 s.at',.int .i64 ep,.bool false,.slice none 0 0]).frozen? ⟨g,o,none⟩=false:=fun o=>by simpa [World.setCells] using fz2 o
   change Calls Tryz.prog 84 _ (w2.setCells g (j*6) [.int .i64 s.cls,.string s.name,.int .i64 s.at',.int .i64 ep,.bool false,.slice none 0 0]) _;generalize (w2.setCells g (j*6) [.int .i64 s.cls,.string s.name,.int .i64 s.at',.int .i64 ep,.bool false,.slice none 0 0])=W2 at *;refine (xds (P:=fun _=>False) ⟨s,ep,false,[]⟩ ⟨c,fd⟩ _ W2 ⟨none,rfl,fun _=>rfl,none,0,rfl,by simp,by simp,by simp,fun i x hx=>by simp at hx⟩).mono ?_
   rintro e w3 ⟨a3,n3,c3,rfl,hn3,hL3,hb3⟩;generalize xax ⟨s,ep,false,[]⟩ ⟨c,fd⟩=x' at *;have HO3:Hid (∀ i y,i≠j->xs[i]?=some y->∃ R:Nat->Prop,¬ R g/\(∀ b,R b->w.heap.size<=b)/\xhq R w3 (fun k=>w3.cell? ⟨g,i*6+k,none⟩) y):=HOTH.out w3 (hW.trans (.of_below hb3)) fun i k h1 h2 h3 v hv=>qzA hb3 (hWo i k h1 h2 h3 v hv)
   have m0:w3.cell? ⟨g,j*6,none⟩=some (.int .i64 s.cls):=qzA hb3 (hin 0 (by omega))
   have m1:w3.cell? ⟨g,j*6+1,none⟩=some (.string s.name):=qzA hb3 (hin 1 (by omega))
   have m2:w3.cell? ⟨g,j*6+2,none⟩=some (.int .i64 s.at'):=qzA hb3 (hin 2 (by omega))
   have m3:w3.cell? ⟨g,j*6+3,none⟩=some (.int .i64 ep):=qzA hb3 (hin 3 (by omega))
   have m4:w3.cell? ⟨g,j*6+4,none⟩=some (.bool false):=qzA hb3 (hin 4 (by omega))
   have m5:w3.cell? ⟨g,j*6+5,none⟩=some (.slice none 0 0):=qzA hb3 (hin 5 (by omega))
   have hbw3:=xah hWb hb3;clear k0 k1 k2 k3 k4 k5 HOTH hown htl s0 s1 s2;have f3:∀ o,w3.frozen? ⟨g,o,none⟩=false:=fun o=>(hb3.frozen (p:=⟨g,o,none⟩) (by simp;omega)).trans (hWf o)
   clear hin hW hWo hWf hWb
   have HBK:Hid (∀ k,k<6->∃ u,w3.cell? ⟨g,j*6+k,none⟩=some u):=fun k hk=>by
    match k,hk with
    | 0,_=>exact⟨_,m0⟩
    | 1,_=>exact⟨_,m1⟩
    | 2,_=>exact⟨_,m2⟩
    | 3,_=>exact⟨_,m3⟩
    | 4,_=>exact⟨_,m4⟩
    | 5,_=>exact⟨_,m5⟩
   subst hn3;go_wp2_with fail
   go_ret
   rw[HO.out];refine⟨g,xs.length,by simp,?_,(((((hbw3.setCell (by simp;omega) _).setCell (by simp;omega) _).setCell (by simp;omega) _).setCell (by simp;omega) _).setCell (by simp;omega) _).setCell (by simp;omega) _⟩
   have:=xhQ xbw (g:=g) (j:=j) (cap:=xs.length) (xs:=xs) (x':=x') (vs:=[.int .i64 x'.site.cls,.string x'.site.name,.int .i64 x'.site.at',.int .i64 x'.ez,.bool x'.many,.slice a3 x'.lz.length c3]) (Q:=fun b=>False\/W2.heap.size<=b) (S:=fun b=>w.heap.size<=b) hj HO3.out HBK.out rfl ⟨rfl,rfl,rfl,rfl,rfl,_,rfl,hL3⟩ (by rintro (h | h)<;>first | exact h | omega) (fun b h=>by rcases h with h | h<;>first | exact h.elim | omega) (by omega) (qzC _) hml
   rw[show (xs.set j x').length=xs.length by simp]
   exact this
def xa2 (xs:List QE)(X:QW)(s:QS)(c:Int)(name:ByteArray):List QE × (Int × Int) × Bool:=
 if xcN X.cz.length (xft xs s X.ez c) then (xs,xaw X.cz (xft xs s X.ez c) name,true)
 else if (xaw X.cz c name).1<0 then (xs,xaw X.cz c name,false)
 else (xcX xs s X.ez ⟨c,(xaw X.cz c name).1⟩,xaw X.cz c name,false)
structure FdR (w:World)(P:Nat->Prop)(v cv hv:Value)(xs:List QE)(X:QW)(s:QS)(w':World):Prop where
 bel:Below w.heap.size w w'
 cl:xbk P w' v xs
 hc:xai P w' cv X.cz
 hh:xaC P w' hv X.heap
 w0:w'.cell? ⟨w.heap.size,0,none⟩=some cv
 w1:w'.cell? ⟨w.heap.size,1,none⟩=some hv
 w2:w'.cell? ⟨w.heap.size,2,none⟩=some (.int .i64 X.ez)
 st:SiteAt w' (w.heap.size+1) s
theorem FdR.later {w:World}{P:Nat->Prop}{v cv hv:Value}{xs:List QE}{X:QW}{s:QS}{w' w'':World}(h:FdR w P v cv hv xs X s w')(hb:Below w'.heap.size w' w''):FdR w P v cv hv xs X s w'':=
 ⟨xah h.bel hb,h.cl.later xbw hb,h.hc.later xaz hb,h.hh.later xaD hb,qzA hb h.w0,qzA hb h.w1,qzA hb h.w2,h.st.later hb⟩
theorem xjY {P:Nat->Prop}(xs:List QE)(X:QW)(s:QS)(c:Int)(name:ByteArray)(v cv hv:Value)(w:World)(hx:xbk P w v xs)(hC:xai P w cv X.cz)(hH:xaC P w hv X.heap)(hby:(xs.length+1)*72<=140737488355328)(hls:∀ x∈xs,x.lz.length*16<=281474976710656) :
  Calls Tryz.prog 46 #[v,WV cv hv X.ez,SV s,.int .i64 c,.string name] w fun e w'=>∃ a k,e=.returned (.tuple #[.slice a (xa2 xs X s c name).1.length k,.int .i64 (xa2 xs X s c name).2.1.1,.int .i64 (xa2 xs X s c name).2.1.2,.bool (xa2 xs X s c name).2.2])/\xbk (fun b=>w.heap.size<=b) w' (.slice a (xa2 xs X s c name).1.length k) (xa2 xs X s c name).1/\Below w.heap.size w w':=by
 have hml:xs.length<=maxLen:=by unfold maxLen;omega
 have hR0:FdR w P v cv hv xs X s ((w.alloc (.cells #[cv,hv,.int .i64 X.ez] 25)).alloc (.cells #[.int .i64 s.cls,.string s.name,.int .i64 s.at'] 67)):=by
  have hb:=xca w (.cells #[cv,hv,.int .i64 X.ez] 25) (.cells #[.int .i64 s.cls,.string s.name,.int .i64 s.at'] 67);refine⟨hb,hx.later xbw hb,hC.later xaz hb,hH.later xaD hb,qzA (xaj _ _) (by rw[xaa _ _ _ _ rfl];rfl),qzA (xaj _ _) (by rw[xaa _ _ _ _ rfl];rfl),qzA (xaj _ _) (by rw[xaa _ _ _ _ rfl];rfl),?_⟩
  have:=xeS (w.alloc (.cells #[cv,hv,.int .i64 X.ez] 25)) s 67
  simpa using this
 obtain⟨ad,cap,rfl,-,-,-,-⟩:=id hx;obtain⟨ac,cc,rfl,-,-,-,-⟩:=id hC;obtain⟨ah,ch,rfl,-,-,-,-⟩:=id hH;clear hx hC hH;go_enter Tryz.func46,Tryz.ntmps46
 go_upto_region 1 with (fail)
 generalize ((w.alloc (.cells #[.slice ac X.cz.length cc,.slice ah X.heap.length ch,.int .i64 X.ez] 25)).alloc (.cells #[.int .i64 s.cls,.string s.name,.int .i64 s.at'] 67))=W0 at *;obtain⟨-,-,-,-,b0,b1,b2,s0,s1,s2⟩:=id hR0;go_wp2_with fail;refine (xm5 xs _ s X.ez c _ hR0.cl).mono ?_;rintro e w1 ⟨rfl,hb1⟩;have hR1:=hR0.later hb1;clear hR0 hb1 b0 b1 b2 s0 s1 s2;obtain⟨k,hk⟩:∃ k,k=xft xs s X.ez c:=⟨_,rfl⟩;rw[← hk];obtain⟨-,-,-,-,b0,b1,b2,s0,s1,s2⟩:=id hR1
 by_cases h0:0<=k
 ·have hd0:decide (0<=k)=true:=by simpa using h0
  by_cases h1:k<X.cz.length
  ·have hd1:decide (k<(X.cz.length:Int))=true:=by simpa using h1
   have HE:Hid (xa2 xs X s c name=(xs,xaw X.cz k name,true)):=by show _=_;unfold xa2;rw[← hk,if_pos (by simp[xcN,h0,h1])]
   clear hk;go_wp2_with fail;refine (xeI X k name _ _ _ hR1.hc hR1.hh).mono ?_;rintro e w2 ⟨rfl,hb2⟩;have hR2:=hR1.later hb2;clear hR1 hb2 b0 b1 b2 s0 s1 s2;go_wp2_with fail;refine (xdi xs _ _ hR2.cl (by omega) hls).mono ?_
   rintro e w3 ⟨g,rfl,hown,hg,hb3⟩;go_wp2;rw[HE.out];refine bodyPost_ret (v:=.tuple #[.slice (some ⟨g,0,none⟩) xs.length xs.length,.int .i64 (xaw X.cz k name).1,.int .i64 (xaw X.cz k name).2,.bool true]) ?_ rfl ⟨_,_,rfl,?_,xah hR2.bel hb3⟩
   ·simp[results,Tryz.results46,go_sem]
   ·exact (xcs (hown.row0 xct hml)).mono xbw fun b h=>by have:=hR2.bel.size;omega
  ·have hd1:decide (k<(X.cz.length:Int))=false:=by simpa using h1
   have HE0:Hid (xa2 xs X s c name=if (xaw X.cz c name).1<0 then (xs,xaw X.cz c name,false) else (xcX xs s X.ez ⟨c,(xaw X.cz c name).1⟩,xaw X.cz c name,false)):=by show _=_;unfold xa2;rw[← hk,if_neg (by simp[xcN];omega)]
   clear hk;go_wp2_with fail;refine (xeI X c name _ _ _ hR1.hc hR1.hh).mono ?_;rintro e w2 ⟨rfl,hb2⟩;have hR2:=hR1.later hb2;clear hR1 hb2 b0 b1 b2 s0 s1 s2;obtain⟨-,-,-,-,b0,b1,b2,s0,s1,s2⟩:=id hR2;generalize xaw X.cz c name=r at *;obtain⟨r1,r2⟩:=r;simp only at HE0 ⊢
   by_cases hr:r1<0
   ·have HE:Hid (xa2 xs X s c name=(xs,(r1,r2),false)):=by show _=_;rw[HE0.out,if_pos hr]
    go_wp2_with fail;refine (xdi xs _ _ hR2.cl (by omega) hls).mono ?_
    rintro e w3 ⟨g,rfl,hown,hg,hb3⟩;go_wp2;rw[HE.out];refine bodyPost_ret (v:=.tuple #[.slice (some ⟨g,0,none⟩) xs.length xs.length,.int .i64 r1,.int .i64 r2,.bool false]) ?_ rfl ⟨_,_,rfl,?_,xah hR2.bel hb3⟩
    ·simp[results,Tryz.results46,go_sem]
    ·exact (xcs (hown.row0 xct hml)).mono xbw fun b h=>by have:=hR2.bel.size;omega
   ·have HE:Hid (xa2 xs X s c name=(xcX xs s X.ez ⟨c,r1⟩,(r1,r2),false)):=by show _=_;rw[HE0.out,if_neg hr]
    have hr':0<=r1:=by omega
    go_wp2_with fail;refine (xj0 xs _ s X.ez c r1 _ hR2.cl hby hls).mono ?_;rintro e w3 ⟨g,k3,rfl,hP3,hb3⟩;generalize xcX xs s X.ez ⟨c,r1⟩=ys at *;go_wp2;rw[HE.out];refine bodyPost_ret (v:=.tuple #[.slice (some ⟨g,0,none⟩) ys.length k3,.int .i64 r1,.int .i64 r2,.bool false]) ?_ rfl ⟨_,_,rfl,?_,xah hR2.bel hb3⟩
    ·simp[results,Tryz.results46,go_sem]
    ·exact hP3.mono xbw fun b h=>by have:=hR2.bel.size;omega
 ·have hd0:decide (0<=k)=false:=by simpa using h0
  have HE0:Hid (xa2 xs X s c name=if (xaw X.cz c name).1<0 then (xs,xaw X.cz c name,false) else (xcX xs s X.ez ⟨c,(xaw X.cz c name).1⟩,xaw X.cz c name,false)):=by show _=_;unfold xa2;rw[← hk,if_neg (by simp[xcN];omega)]
  clear hk;go_wp2_with fail;refine (xeI X c name _ _ _ hR1.hc hR1.hh).mono ?_;rintro e w2 ⟨rfl,hb2⟩;have hR2:=hR1.later hb2;clear hR1 hb2 b0 b1 b2 s0 s1 s2;obtain⟨-,-,-,-,b0,b1,b2,s0,s1,s2⟩:=id hR2;generalize xaw X.cz c name=r at *;obtain⟨r1,r2⟩:=r;simp only at HE0 ⊢
  by_cases hr:r1<0
  ·have HE:Hid (xa2 xs X s c name=(xs,(r1,r2),false)):=by show _=_;rw[HE0.out,if_pos hr]
   go_wp2_with fail;refine (xdi xs _ _ hR2.cl (by omega) hls).mono ?_
   rintro e w3 ⟨g,rfl,hown,hg,hb3⟩;go_wp2;rw[HE.out];refine bodyPost_ret (v:=.tuple #[.slice (some ⟨g,0,none⟩) xs.length xs.length,.int .i64 r1,.int .i64 r2,.bool false]) ?_ rfl ⟨_,_,rfl,?_,xah hR2.bel hb3⟩
   ·simp[results,Tryz.results46,go_sem]
   ·exact (xcs (hown.row0 xct hml)).mono xbw fun b h=>by have:=hR2.bel.size;omega
  ·have HE:Hid (xa2 xs X s c name=(xcX xs s X.ez ⟨c,r1⟩,(r1,r2),false)):=by show _=_;rw[HE0.out,if_neg hr]
   have hr':0<=r1:=by omega
   go_wp2_with fail;refine (xj0 xs _ s X.ez c r1 _ hR2.cl hby hls).mono ?_;rintro e w3 ⟨g,k3,rfl,hP3,hb3⟩;generalize xcX xs s X.ez ⟨c,r1⟩=ys at *;go_wp2;rw[HE.out];refine bodyPost_ret (v:=.tuple #[.slice (some ⟨g,0,none⟩) ys.length k3,.int .i64 r1,.int .i64 r2,.bool false]) ?_ rfl ⟨_,_,rfl,?_,xah hR2.bel hb3⟩
   ·simp[results,Tryz.results46,go_sem]
   ·exact hP3.mono xbw fun b h=>by have:=hR2.bel.size;omega
theorem xed {xs:List QC}{name:ByteArray}:∀ {l:List Int},xcZ xs name l=(-1,-1)\/∃ k∈l,0<=xcu (xbD xs k) name/\xcZ xs name l=(k,xcu (xbD xs k) name)
 | []=>Or.inl rfl
 | k :: r=>by
  unfold xcZ
  split
  ·rename_i hk
   exact Or.inr ⟨k,by simp,hk,rfl⟩
  ·rcases xed (xs:=xs) (name:=name) (l:=r) with h | ⟨q,hq,h1,h2⟩
   ·exact Or.inl h
   ·exact Or.inr ⟨q,by simp[hq],h1,h2⟩
theorem xh2 (xs:List QC)(c:Int)(name:ByteArray)(h:0<=(xaw xs c name).1):xaw xs (xaw xs c name).1 name=xaw xs c name:=by
 rw[xeo c];rw[xeo c] at h
 rcases xed (xs:=xs) (name:=name) (l:=xde xs (xs.length+1) c) with he | ⟨k,hk,h1,he⟩
 ·rw[he] at h;simp at h
 ·rw[he];simp only;rw[xeo];obtain⟨i,hi,hik⟩:=List.mem_iff_getElem.1 hk;obtain⟨q,x,e,hx⟩:=xdS _ _ i _ (by rw[List.getElem?_eq_getElem hi])
  rw[hik] at e;have hc:xby xs k=some x:=by rw[e,xfp];exact hx
  unfold xde;rw[hc];simp only[xcZ];rw[if_pos h1]
theorem xdC (x:QE)(y z:QL)(h:z∈(xax x y).lz):z∈x.lz\/z=y:=by
 unfold xax at h
 split at h
 ·exact Or.inl h
 ·split at h
  ·simp at h
  ·rw[List.mem_append] at h
   rcases h with h | h
   ·exact Or.inl h
   ·simp at h;exact Or.inr h
theorem xi8:∀ (l:List QE) (s:QS) (ep:Int) (y:QL),(xcX l s ep y).length<=l.length+1
 | [],s,ep,y=>by simp[xcX]
 | x :: r,s,ep,y=>by
  unfold xcX
  split
  ·simp
  ·simpa using xi8 r s ep y
def TrueS (X:QW)(l:List QE):Prop:=∀ x∈l,x.ez=X.ez->∀ y∈x.lz,∀ nm,xcW X.cz x.site nm->xaw X.cz y.found nm=xaw X.cz y.cls nm
theorem xaZ (x:QE)(y:QL):(xax x y).site=x.site/\(xax x y).ez=x.ez:=by
 unfold xax
 split
 ·exact⟨rfl,rfl⟩
 ·split<;>exact⟨rfl,rfl⟩
theorem xcP {x:QE}{s:QS}{ep:Int}(hs:x.site=s):(xbS x s ep).site=s/\(xbS x s ep).ez=ep/\∀ u∈(xbS x s ep).lz,x.ez=ep/\u∈x.lz:=by
 unfold xbS
 split
 ·rename_i h;exact⟨hs,h,fun u hu=>⟨h,hu⟩⟩
 ·exact⟨rfl,rfl,fun u hu=>by simp at hu⟩
theorem xhN (s:QS)(ep:Int)(y:QL):∀ (l:List QE) (z:QE),z∈xcX l s ep y->z∈l\/(z.site=s/\z.ez=ep/\∀ u∈z.lz,u=y\/∃ x∈l,x.site=s/\x.ez=ep/\u∈x.lz)
 | [],z,h=>by
  simp[xcX] at h
  subst h;refine Or.inr ⟨(xaZ _ _).1,(xaZ _ _).2,fun u hu=>?_⟩
  rcases xdC _ _ _ hu with h | h
  ·simp at h
  ·exact Or.inl h
 | x :: r,z,h=>by
  unfold xcX at h
  split at h
  ·rename_i hs;rw[List.mem_cons] at h
   rcases h with rfl | h
   ·have hf:=xcP (ep:=ep) ((xcf _ _).1 hs);refine Or.inr ⟨(xaZ _ _).1.trans hf.1,(xaZ _ _).2.trans hf.2.1,fun u hu=>?_⟩
    rcases xdC _ _ _ hu with h | h
    ·exact Or.inr ⟨x,by simp,(xcf _ _).1 hs,hf.2.2 u h⟩
    ·exact Or.inl h
   ·exact Or.inl (by simp[h])
  ·rw[List.mem_cons] at h
   rcases h with rfl | h
   ·exact Or.inl (by simp)
   ·rcases xhN s ep y r z h with h | ⟨h1,h2,h3⟩
    ·exact Or.inl (by simp[h])
    ·refine Or.inr ⟨h1,h2,fun u hu=>?_⟩
     rcases h3 u hu with h | ⟨x',hx',h⟩
     ·exact Or.inl h
     ·exact Or.inr ⟨x',by simp[hx'],h⟩
theorem xlF {l:List QE}{s:QS}{ep c:Int}(h:0<=xft l s ep c):∃ x∈l,x.site=s/\x.ez=ep/\∃ y∈x.lz,y.cls=c/\y.found=xft l s ep c:=by
 unfold xft at h ⊢
 cases hf:l.find? fun x=>eqS x.site s with
 | none=>rw[hf] at h;simp at h
 | some x=>
  rw[hf] at h;simp only[Option.map_some,Option.getD_some] at h ⊢;have hx:=List.mem_of_find?_eq_some hf;have hs:x.site=s:=by have h':=List.find?_some hf;exact (xcf _ _).1 h'
  by_cases he:x.ez=ep
  ·rw[if_pos he] at h ⊢;unfold xen at h ⊢
   cases hy:x.lz.find? fun y=>y.cls == c with
   | none=>rw[hy] at h;simp at h
   | some y=>
    refine⟨x,hx,hs,he,y,List.mem_of_find?_eq_some hy,?_,by simp⟩
    have:=List.find?_some hy
    simpa using this
  ·rw[if_neg he] at h;simp at h
theorem TrueS.find {X:QW}(hX:xaJ X=0){l:List QE}(h:TrueS X l){s:QS}{name:ByteArray}(hn:xcW X.cz s name)(c:Int):(xa2 l X s c name).2.1=xaw X.cz c name/\TrueS X (xa2 l X s c name).1:=by
 unfold xa2
 split
 ·rename_i hh;have h0:0<=xft l s X.ez c:=by simp[xcN] at hh;omega
  obtain⟨x,hx,hs,he,y,hy,h1,h2⟩:=xlF h0;refine⟨?_,h⟩
  show xaw X.cz (xft l s X.ez c) name=_
  rw[← h2,← h1]
  exact h x hx he y hy name (by rw[hs];exact hn)
 ·split
  ·exact⟨rfl,h⟩
  ·rename_i hk;refine⟨rfl,fun z hz he u hu nm hnm=>?_⟩
   rcases xhN _ _ _ _ z hz with h' | ⟨h1,h2,h3⟩
   ·exact h z h' he u hu nm hnm
   ·rw[h1] at hnm
    rcases h3 u hu with rfl | ⟨x,hx,e1,e2,hu'⟩
    ·rw[xmz hX hnm hn]
     exact xh2 X.cz c name (by omega)
    ·exact h x hx e2 u hu' nm (by rw[e1];exact hnm)
structure CSt where
 cells:List QE
 ts:List QT
 hits:Int
 nots:Int
def xcb (X:QW)(st:CSt)(s:QS)(c:Int)(name:ByteArray):CSt × (Int × Int):=
 (⟨(xa2 st.cells X s c name).1,xc1 st.ts s c,if (xa2 st.cells X s c name).2.2 then st.hits+1 else st.hits,if (xa2 st.cells X s c name).2.2 then st.nots else st.nots+1⟩,(xa2 st.cells X s c name).2.1)
def xaL (X:QW)(fuel:Int):Env CSt:=⟨X.cz,fuel,xcb X,xfk⟩
abbrev Ask:=QS × Int × ByteArray
def xcQ (X:QW)(fuel:Int):Env (List Ask):=⟨X.cz,fuel,fun q s c nm=>(q++[(s,c,nm)],xaw X.cz c nm),xfk⟩
def xcB (X:QW)(st:CSt)(q:List Ask):CSt:=q.foldl (fun st a=>(xcb X st a.1 a.2.1 a.2.2).1) st
theorem xfr {cs:List QC}{c n:Int}{m:QM}(h:xaO cs c n=some m){k:Nat}{x:QI}(hk:m.code[k]?=some x)(h14:x.op=14):xcW cs ⟨c,m.name,k⟩ x.name:=⟨n,m,k,x,h,rfl,rfl,hk,h14,rfl⟩
theorem xlm {X:QW}(hX:xaJ X=0)(fuel:Int)(st0:CSt):ER (fun (q:List Ask) st=>st=xcB X st0 q/\TrueS X st.cells) (xcW X.cz) (xcQ X fuel) (xaL X fuel) where
 cz:=rfl
 fuel:=rfl
 quick:=rfl
 look:=fun q st s c name h hs=>by
  obtain⟨h1,h2⟩:=TrueS.find hX h.2 hs c;refine⟨h1,?_,h2⟩
  show (xcb X st s c name).1=xcB X st0 (q++[(s,c,name)])
  unfold xcB;rw[List.foldl_append,h.1]
  rfl
 plain:=fun c n m h k x hk h14=>xfr h hk h14
 fast:=fun c n m q h hq=>by cases hq
theorem xou (X:QW)(fuel:Int):ER (fun (_:Unit) (_:List Ask)=>True) (xcW X.cz) (xcJ X fuel) (xcQ X fuel) where
 cz:=rfl
 fuel:=rfl
 quick:=rfl
 look:=fun _ _ _ _ _ _ _=>⟨rfl,trivial⟩
 plain:=fun c n m h k x hk h14=>xfr h hk h14
 fast:=fun c n m q h hq=>by cases hq
def nfB (X:QW)(a:Ask):Bool:=decide ((xaw X.cz a.2.1 a.2.2).1<0)
theorem xnm (X:QW)(fuel:Int):Cnt (xcQ X fuel) List.length (fun q=>q.countP (nfB X)) where
 a:=fun st s c nm=>by simp[xcQ]
 b:=fun st s c nm=>by
  simp only[xcQ,List.countP_append,List.countP_cons,List.countP_nil]
  by_cases h:(xaw X.cz c nm).1<0
  ·refine Or.inr ⟨by simp[nfB,h],?_⟩
   unfold xaO xby;rw[if_neg (by omega)]
   rfl
  ·exact Or.inl (by simp[nfB,h])
structure CRan (X:QW)(st0:CSt)(q:List Ask)(r:Mc CSt × QV × Int)(p:Mc Unit × QV × Int):Prop where
 heap:r.1.heap=p.1.heap
 sz_:r.1.sz_=p.1.sz_
 res:r.2=p.2
 st:r.1.st=xcB X st0 q
 tru:TrueS X r.1.st.cells
 few:(q.length:Int)<=p.1.sz_+1
 good:r.2.2≠10->q.countP (nfB X)=0
 bad:q.countP (nfB X)<=1
theorem xf4 {X:QW}(hX:xaJ X=0)(fuel:Int)(d:Nat)(c n:Int)(s:QV)(a:List QV)(st1:CSt)(h1:TrueS X st1.cells):CRan X st1 (xa1 (xcQ X fuel) d ⟨X.heap,0,0,[]⟩ c n s a).1.st (xa1 (xaL X fuel) d ⟨X.heap,0,0,st1⟩ c n s a) (xa1 (xcJ X fuel) d ⟨X.heap,0,0,()⟩ c n s a):=by
 obtain⟨⟨a1,a2,a3,-⟩,a4⟩:=xfi (xou X fuel) d ⟨X.heap,0,0,()⟩ ⟨X.heap,0,0,[]⟩ c n s a ⟨rfl,rfl,rfl,trivial⟩;obtain⟨⟨b1,b2,b3,b4⟩,b5⟩:=xfi (xlm hX fuel st1) d ⟨X.heap,0,0,[]⟩ ⟨X.heap,0,0,st1⟩ c n s a ⟨rfl,rfl,rfl,rfl,h1⟩;have hi:=(xjW (xnm X fuel) d ⟨X.heap,0,0,[]⟩ c n s a).1;generalize xa1 (xcQ X fuel) d ⟨X.heap,0,0,[]⟩ c n s a=l at *;refine⟨b1.trans a1,b2.trans a2,b5.trans a4,b4.1,b4.2,?_,?_,?_⟩
 ·rw[← a2]
  by_cases h:l.2.2=0
  ·have:=(hi.good h).1;simp at this;omega
  ·have:=(hi.bad h).1;simp at this;omega
 ·rw[b5];intro h10
  by_cases h:l.2.2=0
  ·simpa using (hi.good h).2
  ·rcases (hi.bad h).2 with h' | ⟨h',-⟩
   ·simpa using h'
   ·exact absurd h' h10
 ·by_cases h:l.2.2=0
  ·have:=(hi.good h).2;simp only[List.countP_nil] at this;omega
  ·rcases (hi.bad h).2 with h' | ⟨-,h'⟩
   ·simp only[List.countP_nil] at h';omega
   ·simp only[List.countP_nil] at h';omega
theorem xjd {X:QW}(hX:xaJ X=0)(fuel:Int){st0:CSt}(h0:TrueS X st0.cells)(d:Nat)(c n:Int)(s:QV)(a:List QV):∃ q,(∀ st1,TrueS X st1.cells->CRan X st1 q (xa1 (xaL X fuel) d ⟨X.heap,0,0,st1⟩ c n s a) (xa1 (xcJ X fuel) d ⟨X.heap,0,0,()⟩ c n s a)):=by
 exact⟨_,fun st1 h1=>xf4 hX fuel d c n s a st1 h1⟩
def xd0 (l:List QE)(s:QS):Option QE:=l.find? fun x=>eqS x.site s
theorem xeG (s:QS):eqS s s=true:=(xcf s s).2 rfl
theorem xfs (s:QS)(ep:Int)(y:QL):∀ l:List QE,xd0 (xcX l s ep y) s=some (xax (match xd0 l s with | none=>⟨s,ep,false,[]⟩ | some x=>xbS x s ep) y)
 | []=>by simp[xcX,xd0,(xaZ _ _).1,xeG]
 | x :: r=>by
  unfold xcX xd0
  by_cases h:eqS x.site s=true
  ·have hf:=xcP (ep:=ep) ((xcf _ _).1 h);rw[if_pos h,List.find?_cons_of_pos (by rw[(xaZ _ _).1,hf.1];exact xeG s),List.find?_cons_of_pos (p:=fun x:QE=>eqS x.site s) h]
  ·rw[if_neg h,List.find?_cons_of_neg (by simpa using h),List.find?_cons_of_neg (by simpa using h)]
   exact xfs s ep y r
theorem xfb (s s':QS)(ep:Int)(y:QL)(hs:s'≠s):∀ l:List QE,xd0 (xcX l s ep y) s'=xd0 l s'
 | []=>by
  have:eqS (xax ⟨s,ep,false,[]⟩ y).site s'=false:=by rw[(xaZ _ _).1];exact Bool.eq_false_iff.2 fun h=>hs ((xcf _ _).1 h).symm
  simp[xcX,xd0,this]
 | x :: r=>by
  unfold xcX xd0
  by_cases h:eqS x.site s=true
  ·have hxs:=(xcf _ _).1 h;have hf:=xcP (ep:=ep) hxs;have h1:eqS (xax (xbS x s ep) y).site s'=false:=by rw[(xaZ _ _).1,hf.1];exact Bool.eq_false_iff.2 fun h=>hs ((xcf _ _).1 h).symm
   have h2:eqS x.site s'=false:=by rw[hxs];exact Bool.eq_false_iff.2 fun h=>hs ((xcf _ _).1 h).symm
   rw[if_pos h,List.find?_cons_of_neg (by simpa using h1),List.find?_cons_of_neg (by simpa using h2)]
  ·rw[if_neg h]
   by_cases h':eqS x.site s'=true
   ·rw[List.find?_cons_of_pos (p:=fun x:QE=>eqS x.site s') h',List.find?_cons_of_pos (p:=fun x:QE=>eqS x.site s') h']
   ·rw[List.find?_cons_of_neg (by simpa using h'),List.find?_cons_of_neg (by simpa using h')]
    exact xfb s s' ep y hs r
def KM (X:QW)(l:List QE)(s:QS)(c:Int):Prop:=∃ x,xd0 l s=some x/\x.ez=X.ez/\(x.many=true\/xcN X.cz.length (xen x.lz c)=true)
def Rng (X:QW)(l:List QE):Prop:=∀ x∈l,∀ y∈x.lz,xcN X.cz.length y.found=true
theorem xeN {ls:List QL}{c:Int}{y:QL}(h:(ls.find? fun y=>y.cls == c)=some y):xen ls c=y.found:=by unfold xen;rw[h];rfl
theorem xmg {X:QW}{ls:List QL}{c:Int}(h:xcN X.cz.length (xen ls c)=true):∃ y,(ls.find? fun y=>y.cls == c)=some y:=by
 cases hf:ls.find? fun y=>y.cls == c with
 | some y=>exact⟨y,rfl⟩
 | none=>unfold xen at h;rw[hf] at h;simp[xcN] at h
theorem xj2 {ls:List QL}{c:Int}(h:0<=xbt (fun z:QL=>z.cls == c) ls):∃ y,(ls.find? fun y=>y.cls == c)=some y:=by
 cases hf:ls.find? fun y=>y.cls == c with
 | some y=>exact⟨y,rfl⟩
 | none=>
  rw[List.find?_eq_none] at hf;rw[xbM fun i y hy=>by simpa using hf y (List.mem_of_getElem? hy)] at h
  omega
theorem KM.with {X:QW}{x:QE}{c:Int}(y:QL)(h:x.many=true\/xcN X.cz.length (xen x.lz c)=true):(xax x y).many=true\/xcN X.cz.length (xen (xax x y).lz c)=true:=by
 unfold xax
 split
 ·exact h
 ·split
  ·exact Or.inl rfl
  ·rcases h with h | h
   ·exact Or.inl h
   ·obtain⟨z,hz⟩:=xmg h;refine Or.inr ?_;have:((x.lz++[y]).find? fun y=>y.cls == c)=some z:=by rw[List.find?_append,hz];rfl
    rw[xeN this,← xeN hz]
    exact h
theorem KM.put {X:QW}{l:List QE}{s:QS}{c:Int}(h:KM X l s c)(s':QS)(y:QL):KM X (xcX l s' X.ez y) s c:=by
 obtain⟨x,h1,h2,h3⟩:=h
 by_cases hs:s=s'
 ·subst hs;refine⟨_,xfs _ _ _ _,?_,?_⟩
  ·rw[(xaZ _ _).2,h1];simp only;unfold xbS;rw[if_pos h2];exact h2
  ·rw[h1];simp only;unfold xbS;rw[if_pos h2];exact KM.with y h3
 ·exact⟨x,by rw[xfb _ _ _ _ hs];exact h1,h2,h3⟩
theorem xj3 {X:QW}{l:List QE}{s:QS}{c:Int}(h:xcN X.cz.length (xft l s X.ez c)=true):KM X l s c:=by
 unfold xft at h
 cases hf:l.find? fun x=>eqS x.site s with
 | none=>rw[hf] at h;simp[xcN] at h
 | some x=>
  rw[hf] at h;simp only[Option.map_some,Option.getD_some] at h
  by_cases he:x.ez=X.ez
  ·rw[if_pos he] at h
   exact⟨x,hf,he,Or.inr h⟩
  ·rw[if_neg he] at h;simp[xcN] at h
theorem KM.get {X:QW}{l:List QE}{s:QS}{c:Int}(h:KM X l s c)(hm:∀ x∈l,x.many=false):xcN X.cz.length (xft l s X.ez c)=true:=by
 obtain⟨x,h1,h2,h3⟩:=h;have hx:=List.mem_of_find?_eq_some h1;rw[hm x hx] at h3;unfold xft;unfold xd0 at h1;rw[h1];simp only[Option.map_some,Option.getD_some];rw[if_pos h2]
 rcases h3 with h | h
 ·cases h
 ·exact h
theorem xoR {X:QW}{l:List QE}(hr:Rng X l)(s:QS)(y:QL)(hy:xcN X.cz.length y.found=true):KM X (xcX l s X.ez y) s y.cls:=by
 refine⟨_,xfs _ _ _ _,?_,?_⟩
 ·rw[(xaZ _ _).2]
  cases hc:xd0 l s with
  | none=>rfl
  | some x=>
   have:=(xcf _ _).1 (show eqS x.site s=true from by have h':=List.find?_some hc;exact h')
   exact (xcP (ep:=X.ez) this).2.1
 ·have hz:∀ z∈(match xd0 l s with | none=>(⟨s,X.ez,false,[]⟩:QE) | some x=>xbS x s X.ez).lz,xcN X.cz.length z.found=true:=by
   cases hc:xd0 l s with
   | none=>intro z hz;simp at hz
   | some x=>
    intro z hz;have:=(xcf _ _).1 (show eqS x.site s=true from by have h':=List.find?_some hc;exact h')
    exact hr x (List.mem_of_find?_eq_some hc) z ((xcP (ep:=X.ez) this).2.2 z hz).2
  generalize (match xd0 l s with | none=>(⟨s,X.ez,false,[]⟩:QE) | some x=>xbS x s X.ez)=x at hz ⊢
  unfold xax
  split
  ·rename_i h
   rcases h with h | h
   ·exact Or.inl h
   ·obtain⟨z,hf⟩:=xj2 h;refine Or.inr ?_;rw[xeN hf]
    exact hz z (List.mem_of_find?_eq_some hf)
  ·split
   ·exact Or.inl rfl
   ·rename_i h h';refine Or.inr ?_
    have hn:(x.lz.find? fun z=>z.cls == y.cls)=none:=by
     rw[List.find?_eq_none];intro z hz';intro hzc
     apply h
     refine Or.inr ?_
     cases hi:x.lz.findIdx? fun z=>z.cls == y.cls with
     | some j=>unfold xbt;rw[hi];simp
     | none=>rw[List.findIdx?_eq_none_iff] at hi;have:=hi z hz';rw[this] at hzc;cases hzc
    have:((x.lz++[y]).find? fun z=>z.cls == y.cls)=some y:=by rw[List.find?_append,hn];simp
    rw[xeN this]
    exact hy
theorem Rng.put {X:QW}{l:List QE}(h:Rng X l)(s:QS)(y:QL)(hy:xcN X.cz.length y.found=true):Rng X (xcX l s X.ez y):=fun z hz u hu=>by
 rcases xhN _ _ _ _ z hz with h' | ⟨-,-,h3⟩
 ·exact h z h' u hu
 ·rcases h3 u hu with rfl | ⟨x,hx,-,-,hu'⟩
  ·exact hy
  ·exact h x hx u hu'
theorem xmY (xs:List QC)(c:Int)(nm:ByteArray)(h:¬ (xaw xs c nm).1<0):xcN xs.length (xaw xs c nm).1=true:=by
 rw[xeo c] at h ⊢
 rcases xed (xs:=xs) (name:=nm) (l:=xde xs (xs.length+1) c) with he | ⟨k,hk,h1,he⟩
 ·rw[he] at h;simp at h
 ·rw[he];obtain⟨i,hi,hik⟩:=List.mem_iff_getElem.1 hk;obtain⟨q,x,e,hx⟩:=xdS _ _ i _ (by rw[List.getElem?_eq_getElem hi])
  rw[hik] at e;have:=xae hx
  simp[xcN]
  omega
theorem xjJ {X:QW}{l:List QE}(hr:Rng X l)(s:QS)(c:Int)(nm:ByteArray):Rng X (xa2 l X s c nm).1/\(∀ s' c',KM X l s' c'->KM X (xa2 l X s c nm).1 s' c')/\(nfB X (s,c,nm)=false->KM X (xa2 l X s c nm).1 s c):=by
 unfold xa2
 split
 ·rename_i h
  exact⟨hr,fun _ _ h=>h,fun _=>xj3 h⟩
 ·split
  ·rename_i h
   exact⟨hr,fun _ _ h=>h,fun h'=>by simp[nfB,h] at h'⟩
  ·rename_i h;have hin:=xmY X.cz c nm h
   exact⟨hr.put s _ hin,fun s' c' h=>h.put s _,fun _=>xoR hr s ⟨c,_⟩ hin⟩
theorem xhk {X:QW}:∀ (q:List Ask) (st:CSt),Rng X st.cells->Rng X (xcB X st q).cells/\(∀ s c,KM X st.cells s c->KM X (xcB X st q).cells s c)/\(∀ a∈q,nfB X a=false->KM X (xcB X st q).cells a.1 a.2.1)
 | [],st,h=>⟨h,fun _ _ h=>h,fun a ha=>by cases ha⟩
 | a :: r,st,h=>by
  obtain⟨h1,h2,h3⟩:=xjJ h a.1 a.2.1 a.2.2;obtain⟨i1,i2,i3⟩:=xhk r (xcb X st a.1 a.2.1 a.2.2).1 h1;refine⟨i1,fun s c hk=>i2 s c (h2 s c hk),fun b hb hn=>?_⟩
  rw[List.mem_cons] at hb
  rcases hb with rfl | hb
  ·exact i2 _ _ (h3 hn)
  ·exact i3 b hb hn
theorem xgd (X:QW):∀ (q:List Ask) (st:CSt),(xcB X st q).hits+(xcB X st q).nots=st.hits+st.nots+q.length/\st.hits<=(xcB X st q).hits/\st.nots<=(xcB X st q).nots
 | [],st=>⟨by simp[xcB],Int.le_refl _,Int.le_refl _⟩
 | a :: r,st=>by
  obtain⟨h1,h2,h3⟩:=xgd X r (xcb X st a.1 a.2.1 a.2.2).1;have e:xcB X st (a :: r)=xcB X (xcb X st a.1 a.2.1 a.2.2).1 r:=rfl;rw[e]
  have:(xcb X st a.1 a.2.1 a.2.2).1.hits+(xcb X st a.1 a.2.1 a.2.2).1.nots=st.hits+st.nots+1/\st.hits<=(xcb X st a.1 a.2.1 a.2.2).1.hits/\st.nots<=(xcb X st a.1 a.2.1 a.2.2).1.nots:=by
   unfold xcb;simp only
   split<;>refine⟨by omega,by omega,by omega⟩
  simp only[List.length_cons]
  omega
theorem xf9 {X:QW}{F:List QE}(hm:∀ x∈F,x.many=false):∀ (q:List Ask) (st:CSt),st.cells=F->(∀ a∈q,nfB X a=false->KM X F a.1 a.2.1)->(xcB X st q).cells=F/\(xcB X st q).nots<=st.nots+q.countP (nfB X)
 | [],st,h,_=>⟨h,by simp[xcB]⟩
 | a :: r,st,h,hq=>by
  have e:xcB X st (a :: r)=xcB X (xcb X st a.1 a.2.1 a.2.2).1 r:=rfl
  have hs:(xcb X st a.1 a.2.1 a.2.2).1.cells=F/\(xcb X st a.1 a.2.1 a.2.2).1.nots<=st.nots+(if nfB X a then 1 else 0):=by
   unfold xcb;simp only;rw[h]
   by_cases hk:xcN X.cz.length (xft F a.1 X.ez a.2.1)=true
   ·unfold xa2;rw[if_pos hk];refine⟨rfl,?_⟩;simp only[if_true]
    split<;>omega
   ·by_cases hn:nfB X a=true
    ·have hn':(xaw X.cz a.2.1 a.2.2).1<0:=by simpa [nfB] using hn
     unfold xa2;rw[if_neg hk,if_pos hn',hn]
     exact⟨rfl,by simp⟩
    ·exact absurd ((hq a (by simp) (by simpa using hn)).get hm) hk
  obtain⟨i1,i2⟩:=xf9 hm r _ hs.1 fun b hb=>hq b (by simp[hb])
  rw[e];refine⟨i1,?_⟩;rw[List.countP_cons];have h2:=hs.2
  split at h2
  ·rename_i hb;rw[if_pos hb];simp only[Int.natCast_add,Int.natCast_one];omega
  ·rename_i hb;rw[if_neg hb];simp only[Int.natCast_add];omega
structure AgPost (a b:Mc CSt × QV × Int):Prop where
 res:b.2=a.2/\b.1.sz_=a.1.sz_
 pos:0<=a.1.st.hits/\0<=a.1.st.nots/\0<=b.1.st.hits/\0<=b.1.st.nots
 all:a.1.st.hits+a.1.st.nots=b.1.st.hits+b.1.st.nots
 few:a.1.st.hits+a.1.st.nots<=a.1.sz_+1
 good:(∀ x∈a.1.st.cells,x.many=false)->a.2.2≠10->b.1.st.nots=0
 bad:(∀ x∈a.1.st.cells,x.many=false)->b.1.st.nots<=1
theorem xnJ {X:QW}(hX:xaJ X=0)(fuel:Int)(c n:Int)(s:QV)(args:List QV)(ts:List QT):AgPost (xa1 (xaL X fuel) 20 ⟨X.heap,0,0,⟨[],[],0,0⟩⟩ c n s args) (xa1 (xaL X fuel) 20 ⟨X.heap,0,0,⟨(xa1 (xaL X fuel) 20 ⟨X.heap,0,0,⟨[],[],0,0⟩⟩ c n s args).1.st.cells,ts,0,0⟩⟩ c n s args):=by
 have h0:TrueS X (⟨[],[],0,0⟩:CSt).cells:=fun x hx=>by cases hx
 obtain⟨q,hq⟩:=xjd hX fuel h0 20 c n s args;have ha:=hq _ h0;generalize xa1 (xaL X fuel) 20 ⟨X.heap,0,0,⟨[],[],0,0⟩⟩ c n s args=a at ha ⊢;have hb:=hq ⟨a.1.st.cells,ts,0,0⟩ ha.tru;generalize xa1 (xaL X fuel) 20 ⟨X.heap,0,0,⟨a.1.st.cells,ts,0,0⟩⟩ c n s args=b at hb ⊢;obtain⟨a1,a2,a3⟩:=xgd X q ⟨[],[],0,0⟩;obtain⟨b1,b2,b3⟩:=xgd X q ⟨a.1.st.cells,ts,0,0⟩;rw[← ha.st] at a1 a2 a3;rw[← hb.st] at b1 b2 b3;simp only at a1 a2 a3 b1 b2 b3;have hk:=(xhk (X:=X) q ⟨[],[],0,0⟩ (fun x hx=>by cases hx)).2.2
 rw[← ha.st] at hk
 have hag:(∀ x∈a.1.st.cells,x.many=false)->b.1.st.nots<=q.countP (nfB X):=fun hm=>by
  have:=(xf9 hm q ⟨a.1.st.cells,ts,0,0⟩ rfl hk).2;rw[← hb.st] at this
  simpa using this
 have hfew:=ha.few;rw[← ha.sz_] at hfew;refine⟨⟨hb.res.trans ha.res.symm,hb.sz_.trans ha.sz_.symm⟩,⟨a2,a3,b2,b3⟩,by omega,by omega,fun hm h10=>?_,fun hm=>?_⟩
 ·have h1:=hag hm;rw[ha.good h10] at h1
  simp at h1
  omega
 ·have h1:=hag hm;have h2:=ha.bad
  omega
theorem xeC (x:QE)(y:QL):(xax x y).lz.length<=3\/(xax x y).lz.length<=x.lz.length:=by
 unfold xax
 split
 ·exact Or.inr (qzC _)
 ·split
  ·exact Or.inl (by simp)
  ·exact Or.inl (by simp;omega)
theorem xkt (s:QS)(ep:Int)(y:QL):∀ (l:List QE) (z:QE),z∈xcX l s ep y->z.lz.length<=3\/∃ x∈l,z.lz.length<=x.lz.length
 | [],z,h=>by
  simp[xcX] at h
  subst h
  rcases xeC ⟨s,ep,false,[]⟩ y with h | h
  ·exact Or.inl h
  ·exact Or.inl (by simp at h;simp[h])
 | x :: r,z,h=>by
  unfold xcX at h
  split at h
  ·rw[List.mem_cons] at h
   rcases h with rfl | h
   ·rcases xeC (xbS x s ep) y with h | h
    ·exact Or.inl h
    ·refine Or.inr ⟨x,by simp,qzD h ?_⟩
     unfold xbS
     split<;>simp
   ·exact Or.inr ⟨z,by simp[h],qzC _⟩
  ·rw[List.mem_cons] at h
   rcases h with rfl | h
   ·exact Or.inr ⟨z,by simp,qzC _⟩
   ·rcases xkt s ep y r z h with h | ⟨x',hx,h⟩
    ·exact Or.inl h
    ·exact Or.inr ⟨x',by simp[hx],h⟩
theorem xeW (l:List QE)(X:QW)(s:QS)(c:Int)(nm:ByteArray):(xa2 l X s c nm).1.length<=l.length+1/\∀ z∈(xa2 l X s c nm).1,z.lz.length<=3\/∃ x∈l,z.lz.length<=x.lz.length:=by
 unfold xa2
 split
 ·exact⟨by simp,fun z hz=>Or.inr ⟨z,hz,qzC _⟩⟩
 ·split
  ·exact⟨by simp,fun z hz=>Or.inr ⟨z,hz,qzC _⟩⟩
  ·exact⟨xi8 _ _ _ _,fun z hz=>xkt _ _ _ _ z hz⟩
theorem xeY:∀ (ls:List QL) (c:Int),(xbo ls c).length<=ls.length+1
 | [],c=>by simp[xbo]
 | x :: r,c=>by
  unfold xbo
  split
  ·simp
  ·simpa using xeY r c
theorem xhS (s:QS)(c:Int):∀ l:List QT,(xc1 l s c).length<=l.length+1/\∀ z∈xc1 l s c,z.lz.length<=1\/∃ x∈l,z.lz.length<=x.lz.length+1
 | []=>⟨by simp[xc1],fun z hz=>by simp[xc1] at hz;subst hz;exact Or.inl (by simp)⟩
 | x :: r=>by
  obtain⟨h1,h2⟩:=xhS s c r;unfold xc1
  split
  ·refine⟨by simp,fun z hz=>?_⟩
   rw[List.mem_cons] at hz
   rcases hz with rfl | hz
   ·exact Or.inr ⟨x,by simp,xeY _ _⟩
   ·exact Or.inr ⟨z,by simp[hz],by omega⟩
  ·refine⟨by simpa using h1,fun z hz=>?_⟩
   rw[List.mem_cons] at hz
   rcases hz with rfl | hz
   ·exact Or.inr ⟨z,by simp,by omega⟩
   ·rcases h2 z hz with h | ⟨x',hx,h⟩
    ·exact Or.inl h
    ·exact Or.inr ⟨x',by simp[hx],h⟩
abbrev OB (lv tv:Value)(st:CSt):Obj:=.cells #[.slice none 0 0,.slice none 0 0,.int .i64 0,.int .i64 0,.int .i64 0,.int .i64 0,.int .i64 0,lv,tv,.int .i64 st.hits,.int .i64 st.nots] 39 (0,0)
structure CFew (st:CSt)(n:Nat):Prop where
 c:st.cells.length+n+1<=1000000000000
 cl:∀ x∈st.cells,x.lz.length<=1000000000000
 t:st.ts.length+n+1<=1000000000000
 tl:∀ x∈st.ts,x.lz.length+n+1<=1000000000000
 h:0<=st.hits/\st.hits+n<=1000000000
 k:0<=st.nots/\st.nots+n<=1000000000
theorem CFew.mono {st:CSt}{n n':Nat}(h:CFew st n)(hn:n'<=n):CFew st n' where
 c:=by have:=h.c;omega
 cl:=h.cl
 t:=by have:=h.t;omega
 tl:=fun x hx=>by have:=h.tl x hx;omega
 h:=by have:=h.h;omega
 k:=by have:=h.k;omega
theorem CFew.look {st:CSt}{n:Nat}(h:CFew st (n+1))(X:QW)(s:QS)(c:Int)(nm:ByteArray):CFew (xcb X st s c nm).1 n where
 c:=by
  have h1:=h.c;have h2:=(xeW st.cells X s c nm).1
  show (xa2 st.cells X s c nm).1.length+n+1<=_
  omega
 cl:=fun x hx=>by
  rcases (xeW st.cells X s c nm).2 x hx with h' | ⟨y,hy,h'⟩
  ·omega
  ·have:=h.cl y hy;omega
 t:=by
  have h1:=h.t;have h2:=(xhS s c st.ts).1
  show (xc1 st.ts s c).length+n+1<=_
  omega
 tl:=fun x hx=>by
  have h1:=h.t
  rcases (xhS s c st.ts).2 x hx with h' | ⟨y,hy,h'⟩
  ·omega
  ·have:=h.tl y hy;omega
 h:=by
  have h1:=h.h;unfold xcb;simp only
  split<;>omega
 k:=by
  have h1:=h.k;unfold xcb;simp only
  split<;>omega
theorem IsRow.fxl {α:Type}{E:Lay α}{sz bytes:Nat}{t lo:Nat}{T T':Nat->Nat}{S:Nat->Prop}{w w':World}{v:Value}{xs:List α}(h:IsRow E sz bytes (fun b=>lo<=b/\b<w.heap.size/\T b=t) w v xs)(G:Good E sz)(e:Ext T T' w)(k:Kp S T w w')(h0:¬ S t):IsRow E sz bytes (fun b=>lo<=b/\b<w'.heap.size/\T' b=t) w' v xs:=
 h.keep G (Keeps.of_block fun b hb hl=>k.blk b hl (by rw[hb.2.2];exact h0)) fun b hb=>⟨hb.1,qzE hb.2.1 k.size,by rw[e b hb.2.1];exact hb.2.2⟩
structure LcP (X:QW)(pb wb ob lo:Nat)(cv hv:Value)(T:Nat->Nat)(w:World)(st:CSt)(n:Nat):Prop where
 tp:T pb=0
 lp:pb<w.heap.size
 p0:w.cell? ⟨pb,0,none⟩=some (.pointer (some ⟨ob,0,none⟩))
 lk:LkP X wb cv hv T w () 0
 to3:T ob=3
 ll:lo<=w.heap.size
 box:∃ a m k g j i,w.heap[ob]?=some (OB (.slice a m k) (.slice g j i) st)/\xbk (fun b=>lo<=b/\b<w.heap.size/\T b=0) w (.slice a m k) st.cells/\xbc (fun b=>lo<=b/\b<w.heap.size/\T b=0) w (.slice g j i) st.ts
 few:CFew st n
theorem LcP.keep {X:QW}{pb wb ob lo:Nat}{cv hv:Value}{T T':Nat->Nat}{w w':World}{st:CSt}{n:Nat}{S:Nat->Prop}(h:LcP X pb wb ob lo cv hv T w st n)(e:Ext T T' w)(k:Kp S T w w')(h0:¬ S 0)(h3:¬ S 3):LcP X pb wb ob lo cv hv T' w' st n:=by
 obtain⟨a,m,kk,g,j,i,b1,b2,b3⟩:=h.box
 exact⟨by rw[e _ h.lp];exact h.tp,qzE h.lp k.size,k.cell h.p0 (by rw[h.tp];exact h0),h.lk.keep e k h0,by rw[e _ (xaf b1)];exact h.to3,qzD h.ll k.size,⟨a,m,kk,g,j,i,k.held b1 (by rw[h.to3];exact h3),b2.fxl xbw e k h0,b3.fxl xbZ e k h0⟩,h.few⟩
theorem LcP.mono {X:QW}{pb wb ob lo:Nat}{cv hv:Value}{T:Nat->Nat}{w:World}{st:CSt}{n n':Nat}(h:LcP X pb wb ob lo cv hv T w st n)(hn:n'<=n):LcP X pb wb ob lo cv hv T w st n':=⟨h.tp,h.lp,h.p0,h.lk,h.to3,h.ll,h.box,h.few.mono hn⟩
section
variable {P:Program} {md:Region.Mode} {ops:Array Oper} {Q:Exit->Act->World->Prop} {S:World->Prop}
def xdg (P:Program)(md:Region.Mode)(ops:Array Oper)(Q:Exit->Act->World->Prop)(S:World->Prop)(L:Nat):Nat->Array Bool->Act->World->Prop
 | 0,listed,a,w=>Region.ready md ops listed=[]/\Q .normal a w
 | fuel+1,listed,a,w=>
  (Region.ready md ops listed=[]->Q .normal a w)/\
  ∀ i∈Region.ready md ops listed,wpOp P ops Q i (fun a' w'=>(i≠L->S w')/\xdg P md ops Q S L fuel (listed.setIfInBounds i true) a' w') a w
theorem xdT {L:Nat}:∀ (fuel:Nat) (listed:Array Bool) (a:Act) (w:World),xdg P md ops Q S L fuel listed a w->wpAny P md ops Q fuel listed a w
 | 0,_,_,_,h=>h
 | fuel+1,_,_,_,h=>⟨h.1,fun i hi=>wpOp_mono (fun a' w' h'=>xdT fuel _ a' w' h'.2) (h.2 i hi)⟩
def xmo (md:Region.Mode)(ops:Array Oper)(L:Nat):Bool:=
 match ops[L]? with
 | none=>false
 | some o=>(List.range ops.size).all fun k=>k == L || o.after.any fun e=>Region.binds md e && e.on == k
theorem xhU {L i:Nat}{listed:Array Bool}(h:xmo md ops L=true)(hi:i∈Region.ready md ops listed)(hL:L∈Region.ready md ops listed):i=L:=by
 by_cases hne:i=L
 ·exact hne
 ·obtain⟨hjun,oj,hoj,hall⟩:=mem_ready.1 hL;obtain⟨hiun,oi,hoi,-⟩:=mem_ready.1 hi;unfold xmo at h;rw[hoj] at h;simp only[List.all_eq_true,List.mem_range] at h;have hlt:i<ops.size:=(Array.getElem?_eq_some_iff.1 hoi).1;have:=h i hlt;simp only[Bool.or_eq_true,beq_iff_eq,hne,false_or,Array.any_eq_true,Bool.and_eq_true] at this;obtain⟨x,hx,hb,ho⟩:=this;have h1:=hall _ (Array.getElem_mem hx) hb;rw[ho] at h1
  rcases Nat.lt_or_ge i listed.size with h' | h'
  ·simp[h'] at hiun h1
   rw[hiun] at h1
   cases h1
  ·simp[Array.getElem?_eq_none h'] at h1
theorem xhj {L i:Nat}{oi:Oper}{v:Value}(hlast:xmo md ops L=true)(hiL:i≠L)(hi:ops[i]?=some oi)(hsel:∀ (j:Nat) (o:Oper) cs b,ops[j]?=some o->o.op≠.select cs b)
  (hQ:∀ c a w,Q (.panic c) (a.put oi.dst v) w->Q (.panic c) a w) :
  ∀ (fuel:Nat) (listed:Array Bool) (a:Act) (w:World),
   (∀ j oj,ops[j]?=some oj->j≠i->listed.getD j true=false->(∀ e∈oj.after,Region.binds md e=true->e.on≠i)->oi.apart ops oj=true)->
   i∈Region.ready md ops listed->YieldsIf P ops S oi v a->S w->
   xdg P md ops Q S L fuel (listed.setIfInBounds i true) (a.put oi.dst v) w->xdg P md ops Q S L (fuel+1) listed a w:=by
 intro fuel
 induction fuel with
 | zero=>
  intro listed a w _ hr hy hS H;refine⟨fun h=>(by rw[h] at hr;cases hr),fun j hj=>?_⟩
  by_cases hji:j=i
  ·subst hji;exact hy.wpOp hi hS ⟨fun _=>hS,H⟩
  ·have:=ready_mono hj hji;rw[H.1] at this
   cases this
 | succ fuel ih=>
  intro listed a w hfree hr hy hS H;refine⟨fun h=>(by rw[h] at hr;cases hr),fun j hj=>?_⟩
  by_cases hji:j=i
  ·subst hji;exact hy.wpOp hi hS ⟨fun _=>hS,H⟩
  ·have hjL:j≠L:=fun e=>by subst e;exact hji (xhU hlast hr hj).symm
   have h1:=H.2 j (ready_mono hj hji);obtain⟨hjun,oj,hoj,hall⟩:=mem_ready.1 hj
   have hnot:∀ e∈oj.after,Region.binds md e=true->e.on≠i:=fun e he hb heq=>by
    have h1:=hall e he hb;have h0:=(mem_ready.1 hr).1;rw[heq] at h1
    rcases Nat.lt_or_ge i listed.size with h' | h'
    ·simp[h'] at h0 h1;rw[h0] at h1;cases h1
    ·simp[Array.getElem?_eq_none h'] at h1
   have h2:=wpOp_putIf hoj (hfree j oj hoj hji hjun hnot) (fun cs b=>hsel i oi cs b hi) (fun cs b=>hsel j oj cs b hoj) hQ hy h1
   have hfree':∀ k ok,ops[k]?=some ok->k≠i->(listed.setIfInBounds j true).getD k true=false->
     (∀ e∈ok.after,Region.binds md e=true->e.on≠i)->oi.apart ops ok=true:=fun k ok hk hki hun hno=>by
    refine hfree k ok hk hki ?_ hno
    by_cases hjk:j=k
    ·subst hjk;exact hjun
    ·rw[getD_set_ne true hjk] at hun;exact hun
   refine wpOp_mono (fun a' w' h3=>⟨fun _=>h3.2.1 hjL,ih (listed.setIfInBounds j true) a' w' hfree' (ready_mono hr (Ne.symm hji)) h3.1 (h3.2.1 hjL) ?_⟩) h2
   rw[Array.setIfInBounds_comm _ _ hji]
   exact h3.2.2
theorem xbs {L i:Nat}{oi:Oper}{v:Value}{fuel:Nat}{listed:Array Bool}{a:Act}{w:World}(hlast:xmo md ops L=true)(hiL:(i == L)=false)(hi:ops[i]?=some oi)
  (hs:Region.noSelect ops=true) (hf:Region.free md ops listed i=true) (hr:(Region.ready md ops listed).contains i=true)
  (hQ:∀ c a w,Q (.panic c) (a.put oi.dst v) w->Q (.panic c) a w) (hy:YieldsIf P ops S oi v a) (hS:S w)
  (h:xdg P md ops Q S L fuel (listed.setIfInBounds i true) (a.put oi.dst v) w):xdg P md ops Q S L (fuel+1) listed a w:=
 xhj hlast (by simpa using hiL) hi (Region.noSelect_spec hs) hQ fuel listed a w (Region.free_spec hi hf) (by simpa using hr) hy hS h
theorem xhV {L:Nat}{listed:Array Bool}{a:Act}{w:World}(hr:Region.ready md ops listed=[])(h:Q .normal a w):∀ fuel,xdg P md ops Q S L fuel listed a w
 | 0=>⟨hr,h⟩
 | _+1=>⟨fun _=>h,by rw[hr];simp⟩
theorem xcC {L:Nat}{rs:List Nat}{fuel:Nat}{listed:Array Bool}{a:Act}{w:World}(hr:Region.ready md ops listed=rs)(hne:rs≠[])
  (h:∀ i∈rs,wpOp P ops Q i (fun a' w'=>(i≠L->S w')/\xdg P md ops Q S L fuel (listed.setIfInBounds i true) a' w') a w):xdg P md ops Q S L (fuel+1) listed a w:=
 ⟨fun h0=>absurd (hr ▸ h0) hne,hr ▸ h⟩
theorem xmj {L i:Nat}{fuel:Nat}{listed:Array Bool}{a:Act}{w:World}{o:Oper}(ho:ops[i]?=some o)
  (h:∀ K':Act->World->Prop,(∀ a w,(i≠L->S w)->xdg P md ops Q S L fuel (listed.setIfInBounds i true) a w->K' a w)->if Region.wanted o (yielded ops a.tmps)=true then Oper.wp P o a w K' Q else K' (a.put o.dst undef) w) :
  wpOp P ops Q i (fun a' w'=>(i≠L->S w')/\xdg P md ops Q S L fuel (listed.setIfInBounds i true) a' w') a w:=
 wpOp_step ho (fun K' hK=>h K' (fun a w hS hW=>hK a w ⟨hS,hW⟩))
theorem xfz {id:Nat}{a:Act}{w:World}(L:Nat)(hm:P.follows .mixedOrders=true)
  (h:xdg P .any ops Q S L ops.size (Array.replicate ops.size false) a w.drew):(Code.region id ops true).wp P Q a w:=
 wp_region_any hm (xdT _ _ _ _ h)
end
end Go.Proofs.YtapbeiccodnniaaGreat
