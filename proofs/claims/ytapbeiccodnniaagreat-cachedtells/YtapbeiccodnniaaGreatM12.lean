/- A part. -/
import Derived.Test.YtapbeiccodnniaaGreatM10
import Derived.Test.YtapbeiccodnniaaGreatM11
import Derived.Deep.RegionHeld
namespace Go.Proofs.YtapbeiccodnniaaGreat
open Go.ChangeShapes Go.WideShapes Go.ChangeAt Go.RowKit
set_option linter.unusedSimpArgs false
set_option linter.unusedVariables false
set_option maxHeartbeats 8000000
set_option maxRecDepth 8000
theorem xbT {P:Program}(w:World)(t ty e:TypeId)(i:TypeInfo)(ht:P.underlying t=some (.slice e))(hi:P.info? e=some i)(B:Nat)(ad:Option Addr)(cap:Nat) :
  (Builtin.append_ #[t,t] ty #[.slice (some ⟨B,0,none⟩) 0 0,.slice ad 0 cap]).run P w=.ok (.slice (some ⟨B,0,none⟩) 0 0) w:=by
 have hl:∀ (x:Addr),(loadCells x 0).run P w=.ok #[] w:=fun x=>by simpa using run_loadCells_list (P:=P) w x [] (by simp)
 cases ad<;>simp[Builtin.append_,run_underlying ht,sizeOf,typeInfo,hi,Builtin.lenOf,Builtin.firstCells,storeCells,hl]
theorem xa4 {ops:Array Oper}{rest:List Oper}{o:Oper}{a:Act}{w:World}{Q:Exit->Act->World->Prop}(hgd:o.guard=none)(s x:Operand)(T e:TypeId)(z:Value)(sz bytes:Nat)
  (hop:o.op=Op.call { callee:=Callee.builtin Builtin.append,args:=#[s,x],argTypes:=#[T,T] }) (hT:Tryz.prog.underlying T=some (.slice e)) (hI:(Tryz.prog.info? e).map (fun i=>(i.zero,i.size,i.bytes))=some (some z,sz,bytes)) (hzs:z.cells.size=sz) (hsz:0<sz) (hbz:0<bytes)
  (B:Nat) (hs:a.eval s=.slice (some ⟨B,0,none⟩) 0 0) (hB:w.heap[B]?=some (.cells #[] e (0,0)))
  (ad:Option Addr) (n cap:Nat) (hx:a.eval x=.slice ad n cap) (cs:List Value) (hlen:cs.length=n*sz) (hsrc:∀ j u,cs[j]?=some u->∃ b,ad=some b/\w.cell? (b.add j)=some u) (hn:n*bytes<=140737488351232)
  (hK:∀ g cap' w',w'.ownsRow B e sz (.slice (some ⟨g,0,none⟩) n cap') n cs->(g=B\/w.heap.size<=g)->g<w'.heap.size->Below w.heap.size w w'->wpList Tryz.prog ops Q rest (a.put o.dst (.slice (some ⟨g,0,none⟩) n cap')) w') :
  wpList Tryz.prog ops Q (o :: rest) a w:=by
 refine wpList_plain hgd fun K hKK=>?_
 obtain⟨i0,hi,hz0,hz1,hz2⟩:=xa3 hI;have hBl:=xaf hB
 by_cases h0:n=0
 ·subst h0;have hcs:cs=[]:=List.eq_nil_of_length_eq_zero (by simpa using hlen)
  have hrun:=xbT (P:=Tryz.prog) w T o.type e i0 hT hi B ad cap;unfold Oper.wp
  simp[execOp,hop,resolve,invoke,builtin,hs,hx,hrun,Result.andThen]
  refine hKK _ _ (hK B 0 w ?_ (Or.inl rfl) hBl (qzL _ _));rw[hcs]
  exact⟨by simp,.inr ⟨B,0,#[],rfl,qzC _,hB,qzC _,by unfold maxLen;omega,by simp,by simp⟩⟩
 ·obtain⟨b,rfl⟩:∃ b,ad=some b:=by
   have:0<cs.length:=by rw[hlen];exact Nat.mul_pos (by omega) hsz
   obtain⟨b,e,-⟩:=hsrc 0 cs[0] (by simp[this])
   exact⟨b,e⟩
  have hnb:n<=140737488351232:=qzD (Nat.le_mul_of_pos_right n hbz) hn;obtain⟨v',w',hrun,r1,r2⟩:=run_append_arg_grows (P:=Tryz.prog) w T o.type e i0 _ sz bytes hT hi hz0 hz1 hz2 hzs hsz ⟨B,0,none⟩ 0 0 [] (by simp) (fun j u hu=>by simp at hu) b n cap cs hlen (fun j u hu=>by obtain⟨b',e,h⟩:=hsrc j u hu;cases e;exact h) (by omega) (by unfold maxLen;omega) (by rw[Nat.zero_add];omega)
  simp only[Nat.zero_add,List.nil_append] at r1;obtain⟨g,cap',rfl,hg,hgl⟩:=r1.form (by omega)
  unfold Oper.wp
  simp[execOp,hop,resolve,invoke,builtin,hs,hx,hrun,Result.andThen]
  refine hKK _ _ (hK g cap' w' ?_ (Or.inr hg) hgl ((qzL _ _).grown r2 (qzC _) (fun k hk=>by cases hk)))
  obtain⟨q1,q2⟩:=r1;refine⟨q1,?_⟩
  rcases q2 with q2 | ⟨g',c',cur,e,h1,h2⟩
  ·exact .inl q2
  ·exact .inr ⟨g',c',cur,e,by omega,h2⟩
theorem xmO (a:Option Addr)(n c:Nat)(w:World):(binOp .eql 28 (.slice a n c) (.slice none 0 0)).run Tryz.prog w=.ok (.bool (a == none)) w:=by
 have u:=Tryz.underlying28
 cases a<;>go_simp<;>rfl
theorem xcR {P:Nat->Prop}(xs:List QV)(v:Value)(w:World)(h:xaB P w v xs):Calls Tryz.prog 118 #[v] w fun e w'=>∃ a c,e=.returned (.slice a xs.length c)/\xaB (fun b=>w.heap.size<=b/\b<w'.heap.size) w' (.slice a xs.length c) xs/\Below w.heap.size w w':=by
 obtain⟨ad,cap,rfl,hl,hcap,hby,hrow⟩:=h
 cases ad with
 | none=>
  have hx:xs=[]:=by
   cases xs with
   | nil=>rfl
   | cons x r=>obtain⟨b,o,e,-⟩:=hrow 0 x rfl;cases e
  subst hx;have hq:=xmO none 0 cap;go_enter Tryz.func118,Tryz.ntmps118;go_wp2
  go_ret
  exact⟨none,0,rfl,⟨none,0,rfl,by simp,by simp,by simp,fun i x hx=>by simp at hx⟩,qzL _ _⟩
 | some ad=>
  obtain⟨cs,hcs,hsrc⟩:=hrow.cells xaK;have hvc:=xco (E:=()) hcs;have hlen:=hcs.1;clear hrow;have hq:=xmO (some ad) xs.length cap;go_enter Tryz.func118,Tryz.ntmps118
  go_wp2_with (at_builtin;refine xa4 rfl (.tmp 5) (.tmp 6) 28 27 _ 2 16 rfl Tryz.underlying28 xbW rfl (by omega) (by omega) w.heap.size rfl (by first | exact qzJ _ _ | (simp;done)) (some ad) xs.length cap rfl cs hlen (fun j u hj=>by obtain⟨b,e,h⟩:=hsrc j u hj;exact⟨b,e,qzA (xaj _ _) h⟩) hby ?_;intro g cap' w' hown hg hgl hb)
  go_ret
  have hbw:Below w.heap.size w w':=xbz (qzL _ _) hb;refine⟨some ⟨g,0,none⟩,cap',rfl,?_,hbw⟩;obtain⟨q1,q2 | ⟨g',c',cur,e,h1,h2,h3,h4,h5,h6⟩⟩:=hown
  ·cases q2.1
  ·cases e
   have hg2:w.heap.size<=g:=by rcases hg with h | h<;>simp at*<;> omega
   exact Cells.row (E:=xmM) (sz:=2) (cs:=cs) ⟨hlen,fun i x hx=>hcs.2 i x hx⟩ xaK ⟨hg2,hgl⟩ h2 h6 h3 h4 hby
theorem ownsAt.tail {w:World}{g o cap:Nat}{xs:List QV}(h:ownsAt w 0 27 2 (.slice (some ⟨g,o,none⟩) xs.length cap) xs.length (xal xs)){k:Nat}(hk:k<=xs.length)(hb:xs.length<=1000000000):xaB (fun b=>b=g) w (.slice (some ⟨g,o+k*2,none⟩) (xs.drop k).length (cap-k)) (xs.drop k):=by
 have hv:=h.vals (by omega)
 obtain⟨a',c',e,h1,h2,h3,hr⟩:=hv
 cases e
 have hl:(xs.drop k).length=xs.length-k:=by simp
 refine⟨_,_,rfl,by omega,by unfold maxLen at *;omega,by omega,fun i x hx=>⟨g,o+k*2,rfl,rfl,?_⟩⟩
 rw[List.getElem?_drop] at hx;obtain⟨b,o',e,-,h0,h1⟩:=hr _ x hx
 cases e
 exact⟨by show w.cell? ⟨_,_,_⟩=_;rw[show o+k*2+i*2+0=o+(k+i)*2+0 by omega];exact h0,by show w.cell? ⟨_,_,_⟩=_;rw[show o+k*2+i*2+1=o+(k+i)*2+1 by omega];exact h1⟩
theorem xbY {T:Nat->Nat}{K:Nat}{w w1:World}{fb:Nat}{f:Fr}{cv av tv kv:Value}{a:Option Addr}{cap k:Nat}(h:FrAt T K w fb f cv av tv (.slice a f.stack.length cap) kv)(hk:k<=f.stack.length){av':Value}(hb:Below w.heap.size w w1)(hv:xaB (fun b=>w.heap.size<=b/\b<w1.heap.size) w1 av' (f.stack.drop k)) :
  ∃ T',Ext T T' w/\FrAt T' K (w1.setCell ⟨fb,10,none⟩ (.slice a k cap)) fb { f with stack:=f.stack.take k } cv av tv (.slice a k cap) kv/\xaB (Fx T' (w1.setCell ⟨fb,10,none⟩ (.slice a k cap))) (w1.setCell ⟨fb,10,none⟩ (.slice a k cap)) av' (f.stack.drop k)/\Kp (fun t=>t=K) T w (w1.setCell ⟨fb,10,none⟩ (.slice a k cap)):=by
 have hlt:=xaf h.box;have e:=xao T w 0;have kk:Kp (fun t=>t=K) T w (w1.setCell ⟨fb,10,none⟩ (.slice a k cap)):=(Kp.of_below hb).set (fun _=>h.tag) _ _
 have h':FrAt (xau T w 0) K w fb f cv av tv (.slice a f.stack.length cap) kv:=h.keep (S:=fun _=>False) e (Kp.refl _ _ _) id id id id
 refine⟨xau T w 0,e,h'.cut (m:=k) (kk.tags e) (xeP (xac h.box hb) _ _) hk,?_,kk⟩;refine hv.keep xaK (Keeps.of_setCell (fun hp=>?_) _) fun b hb'=>⟨by rw[xbg];exact hb'.2,xav hb'.1⟩
 have:=hp.1;simp only at this
 omega
theorem xii {T:Nat->Nat}{K:Nat}{w:World}{fb:Nat}{f:Fr}{cv av tv sv kv:Value}(h:FrAt T K w fb f cv av tv sv kv)(n:Int)(k:Nat)(hk:k=xbu f.stack n):Calls Tryz.prog 114 #[.pointer (some ⟨fb,0,none⟩),.int .i64 n] w fun e w'=>∃ a c T' sv',e=.returned (.slice a (f.stack.drop k).length c)/\Ext T T' w/\FrAt T' K w' fb { f with stack:=f.stack.take k } cv av tv sv' kv/\xaB (Fx T' w') w' (.slice a (f.stack.drop k).length c) (f.stack.drop k)/\Kp (fun t=>t=K) T w w':=by
 have hlt:=xaf h.box;have c0:w.cell? ⟨fb,10,none⟩=some sv:=by rw[qzB h.box];rfl
 have hfew:=h.few;have hkl:k<=f.stack.length:=by rw[hk];unfold xbu;omega
 have HL:=hid hkl;obtain⟨a,cap,rfl,hc1,hc2⟩:=h.stack.form;unfold maxLen at hc2;have hk2:k<=cap:=by omega
 have hk3:(k:Int)<=(cap:Int):=by omega
 have hk4:(k:Int)<=(f.stack.length:Int):=by omega
 have H0:=hid h;have HS:=hid h.stack;have HX:=hid h.box;clear h
 by_cases hn:n<0
 ·have hn':decide (n<0)=true:=by simpa using hn
  have hkL0:k=f.stack.length:=by rw[hk];unfold xbu;omega
  have hkw:IntKind.i64.wrap ((f.stack.length:Int)-0)=(k:Int):=by rw[xaE (by omega) (by omega)];omega
  have hkw2:IntKind.i64.wrap (f.stack.length:Int)=(k:Int):=by rw[xaE (by omega) (by omega)];omega
  by_cases hck:cap=k
  ·have hkL:f.stack.length=k:=by omega
   have HV:Hid (xaB (fun _=>False) w.drew (.slice a (f.stack.drop k).length 0) (f.stack.drop k)):=by
    have e0:f.stack.drop k=[]:=List.drop_eq_nil_of_le (by omega)
    rw[e0]
    exact⟨a,0,rfl,by simp,by simp,by simp,fun i x hx=>by simp at hx⟩
   have HDL:Hid ((f.stack.drop k).length=f.stack.length-k):=by show _=_;simp
   rw[HDL.out] at HV;have hck0:cap-k=0:=by omega
   clear hck hkL;clear hk hkL0;go_enter Tryz.func114,Tryz.ntmps114;go_wp2
   go_region
   go_wp2_with fail;refine (xcR (f.stack.drop k) _ _ HV.out).mono ?_;rintro e w1 ⟨a1,c1,rfl,hv1,hb1⟩;have hbw:Below w.heap.size w w1:=((qzL w.heap.size w).drew).trans hb1;have hbx:=xac HX.out hbw;have d0:w1.cell? ⟨fb,10,none⟩=some _:=(by rw[qzB hbx];rfl)
   have df:=xam hbx;have HV1:Hid (xaB (fun b=>w.heap.size<=b/\b<w1.heap.size) w1 _ (f.stack.drop k)):=hv1
   have HBW:=hid hbw;clear hv1 hb1 hbw hbx;go_wp2;obtain⟨T',q1,q2,q3,q4⟩:=xbY H0.out HL.out HBW.out HV1.out
   go_ret
   exact⟨a1,c1,T',_,(by rw[HDL.out];rfl),q1,q2,q3,q4⟩
  ·obtain⟨g,o,rfl⟩:∃ g o,a=some ⟨g,o,none⟩:=by
    obtain⟨-,⟨e,-⟩ | ⟨g,o,c,cur,e,-⟩⟩:=HS.out
    ·simp only[Value.slice.injEq] at e;omega
    ·cases e;exact⟨g,o,rfl⟩
   have HV:Hid (xaB (fun b=>b=g) w.drew (.slice (some ⟨g,o+k*2,none⟩) (f.stack.drop k).length (cap-k)) (f.stack.drop k)):=(ownsAt.tail HS.out HL.out hfew).later xaK (qzL _ _).drew
   have HDL:Hid ((f.stack.drop k).length=f.stack.length-k):=by show _=_;simp
   rw[HDL.out] at HV;have hck0:¬ (cap-k=0):=by omega
   clear hck;clear hk hkL0;go_enter Tryz.func114,Tryz.ntmps114;go_wp2
   go_region
   go_wp2_with fail;refine (xcR (f.stack.drop k) _ _ HV.out).mono ?_;rintro e w1 ⟨a1,c1,rfl,hv1,hb1⟩;have hbw:Below w.heap.size w w1:=((qzL w.heap.size w).drew).trans hb1;have hbx:=xac HX.out hbw;have d0:w1.cell? ⟨fb,10,none⟩=some _:=(by rw[qzB hbx];rfl)
   have df:=xam hbx;have HV1:Hid (xaB (fun b=>w.heap.size<=b/\b<w1.heap.size) w1 _ (f.stack.drop k)):=hv1
   have HBW:=hid hbw;clear hv1 hb1 hbw hbx;go_wp2;obtain⟨T',q1,q2,q3,q4⟩:=xbY H0.out HL.out HBW.out HV1.out
   go_ret
   exact⟨a1,c1,T',_,(by rw[HDL.out];rfl),q1,q2,q3,q4⟩
 ·obtain⟨m,rfl⟩:∃ m:Nat,n=(m:Int):=⟨n.toNat,by omega⟩
  by_cases hm:f.stack.length<m
  ·have hkw:IntKind.i64.wrap ((f.stack.length:Int)-(f.stack.length:Int))=(k:Int):=by rw[hk];unfold xbu;rw[xaE (by omega) (by omega)];omega
   have hm2:(f.stack.length:Int)<(m:Int):=by omega
   have hkw2:(0:Int)=(k:Int):=by rw[hk];unfold xbu;omega
   by_cases hck:cap=k
   ·have hkL:f.stack.length=k:=by omega
    have HV:Hid (xaB (fun _=>False) w.drew (.slice a (f.stack.drop k).length 0) (f.stack.drop k)):=by
     have e0:f.stack.drop k=[]:=List.drop_eq_nil_of_le (by omega)
     rw[e0]
     exact⟨a,0,rfl,by simp,by simp,by simp,fun i x hx=>by simp at hx⟩
    have HDL:Hid ((f.stack.drop k).length=f.stack.length-k):=by show _=_;simp
    rw[HDL.out] at HV;have hck0:cap-k=0:=by omega
    clear hck hkL;clear hk;go_enter Tryz.func114,Tryz.ntmps114;go_wp2
    go_region
    go_wp2_with fail;refine (xcR (f.stack.drop k) _ _ HV.out).mono ?_;rintro e w1 ⟨a1,c1,rfl,hv1,hb1⟩;have hbw:Below w.heap.size w w1:=((qzL w.heap.size w).drew).trans hb1;have hbx:=xac HX.out hbw;have d0:w1.cell? ⟨fb,10,none⟩=some _:=(by rw[qzB hbx];rfl)
    have df:=xam hbx;have HV1:Hid (xaB (fun b=>w.heap.size<=b/\b<w1.heap.size) w1 _ (f.stack.drop k)):=hv1
    have HBW:=hid hbw;clear hv1 hb1 hbw hbx;go_wp2;obtain⟨T',q1,q2,q3,q4⟩:=xbY H0.out HL.out HBW.out HV1.out
    go_ret
    exact⟨a1,c1,T',_,(by rw[HDL.out];rfl),q1,q2,q3,q4⟩
   ·obtain⟨g,o,rfl⟩:∃ g o,a=some ⟨g,o,none⟩:=by
     obtain⟨-,⟨e,-⟩ | ⟨g,o,c,cur,e,-⟩⟩:=HS.out
     ·simp only[Value.slice.injEq] at e;omega
     ·cases e;exact⟨g,o,rfl⟩
    have HV:Hid (xaB (fun b=>b=g) w.drew (.slice (some ⟨g,o+k*2,none⟩) (f.stack.drop k).length (cap-k)) (f.stack.drop k)):=(ownsAt.tail HS.out HL.out hfew).later xaK (qzL _ _).drew
    have HDL:Hid ((f.stack.drop k).length=f.stack.length-k):=by show _=_;simp
    rw[HDL.out] at HV;have hck0:¬ (cap-k=0):=by omega
    clear hck;clear hk;go_enter Tryz.func114,Tryz.ntmps114;go_wp2
    go_region
    go_wp2_with fail;refine (xcR (f.stack.drop k) _ _ HV.out).mono ?_;rintro e w1 ⟨a1,c1,rfl,hv1,hb1⟩;have hbw:Below w.heap.size w w1:=((qzL w.heap.size w).drew).trans hb1;have hbx:=xac HX.out hbw;have d0:w1.cell? ⟨fb,10,none⟩=some _:=(by rw[qzB hbx];rfl)
    have df:=xam hbx;have HV1:Hid (xaB (fun b=>w.heap.size<=b/\b<w1.heap.size) w1 _ (f.stack.drop k)):=hv1
    have HBW:=hid hbw;clear hv1 hb1 hbw hbx;go_wp2;obtain⟨T',q1,q2,q3,q4⟩:=xbY H0.out HL.out HBW.out HV1.out
    go_ret
    exact⟨a1,c1,T',_,(by rw[HDL.out];rfl),q1,q2,q3,q4⟩
  ·have hkw:IntKind.i64.wrap ((f.stack.length:Int)-(m:Int))=(k:Int):=by rw[hk];unfold xbu;rw[xaE (by omega) (by omega)];omega
   have hm2:¬ ((f.stack.length:Int)<(m:Int)):=by omega
   by_cases hck:cap=k
   ·have hkL:f.stack.length=k:=by omega
    have HV:Hid (xaB (fun _=>False) w.drew (.slice a (f.stack.drop k).length 0) (f.stack.drop k)):=by
     have e0:f.stack.drop k=[]:=List.drop_eq_nil_of_le (by omega)
     rw[e0]
     exact⟨a,0,rfl,by simp,by simp,by simp,fun i x hx=>by simp at hx⟩
    have HDL:Hid ((f.stack.drop k).length=f.stack.length-k):=by show _=_;simp
    rw[HDL.out] at HV;have hck0:cap-k=0:=by omega
    clear hck hkL;clear hk;go_enter Tryz.func114,Tryz.ntmps114;go_wp2
    go_region
    go_wp2_with fail;refine (xcR (f.stack.drop k) _ _ HV.out).mono ?_;rintro e w1 ⟨a1,c1,rfl,hv1,hb1⟩;have hbw:Below w.heap.size w w1:=((qzL w.heap.size w).drew).trans hb1;have hbx:=xac HX.out hbw;have d0:w1.cell? ⟨fb,10,none⟩=some _:=(by rw[qzB hbx];rfl)
    have df:=xam hbx;have HV1:Hid (xaB (fun b=>w.heap.size<=b/\b<w1.heap.size) w1 _ (f.stack.drop k)):=hv1
    have HBW:=hid hbw;clear hv1 hb1 hbw hbx;go_wp2;obtain⟨T',q1,q2,q3,q4⟩:=xbY H0.out HL.out HBW.out HV1.out
    go_ret
    exact⟨a1,c1,T',_,(by rw[HDL.out];rfl),q1,q2,q3,q4⟩
   ·obtain⟨g,o,rfl⟩:∃ g o,a=some ⟨g,o,none⟩:=by
     obtain⟨-,⟨e,-⟩ | ⟨g,o,c,cur,e,-⟩⟩:=HS.out
     ·simp only[Value.slice.injEq] at e;omega
     ·cases e;exact⟨g,o,rfl⟩
    have HV:Hid (xaB (fun b=>b=g) w.drew (.slice (some ⟨g,o+k*2,none⟩) (f.stack.drop k).length (cap-k)) (f.stack.drop k)):=(ownsAt.tail HS.out HL.out hfew).later xaK (qzL _ _).drew
    have HDL:Hid ((f.stack.drop k).length=f.stack.length-k):=by show _=_;simp
    rw[HDL.out] at HV;have hck0:¬ (cap-k=0):=by omega
    clear hck;clear hk;go_enter Tryz.func114,Tryz.ntmps114;go_wp2
    go_region
    go_wp2_with fail;refine (xcR (f.stack.drop k) _ _ HV.out).mono ?_;rintro e w1 ⟨a1,c1,rfl,hv1,hb1⟩;have hbw:Below w.heap.size w w1:=((qzL w.heap.size w).drew).trans hb1;have hbx:=xac HX.out hbw;have d0:w1.cell? ⟨fb,10,none⟩=some _:=(by rw[qzB hbx];rfl)
    have df:=xam hbx;have HV1:Hid (xaB (fun b=>w.heap.size<=b/\b<w1.heap.size) w1 _ (f.stack.drop k)):=hv1
    have HBW:=hid hbw;clear hv1 hb1 hbw hbx;go_wp2;obtain⟨T',q1,q2,q3,q4⟩:=xbY H0.out HL.out HBW.out HV1.out
    go_ret
    exact⟨a1,c1,T',_,(by rw[HDL.out];rfl),q1,q2,q3,q4⟩
section
variable {ops:Array Oper} {o:Oper} {a:Act} {w:World} {K:Act->World->Prop} {Q:Exit->Act->World->Prop} {F:Prop}
theorem xpo (hw:Region.wanted o (yielded ops a.tmps)=true)(s x:Operand)(hop:o.op=Op.call { callee:=Callee.builtin Builtin.append,args:=#[s,x],argTypes:=#[68,68] })
  (B0 B:Nat) (hs:a.eval s=.slice (some ⟨B,0,none⟩) 0 0) (hB:w.heap[B]?=some (.cells #[] 72 (0,0))) (hB0:B0<=B) (ad:Option Addr) (cap:Nat) (ls:List QL) (hx:a.eval x=.slice ad ls.length cap) {P:Nat->Prop} (hl:xbI P w (.slice ad ls.length cap) ls) (hn:ls.length<1000)
  (hK:∀ g cap' w',Out xda 2 72 B0 w' (.slice (some ⟨g,0,none⟩) ls.length cap') ls->Below w.heap.size w w'->K (a.put o.dst (.slice (some ⟨g,0,none⟩) ls.length cap')) w') :
  if Region.wanted o (yielded ops a.tmps)=true then Oper.wp Tryz.prog o a w K Q else F:=by
 rw[if_pos hw];obtain⟨i0,hi,hz0,hz1,hz2⟩:=xa3 xi4;have hBl:=xaf hB;obtain⟨ad',cap0,e0,-,-,-,hr⟩:=hl;simp only[Value.slice.injEq] at e0;obtain⟨rfl,-,rfl⟩:=e0;obtain⟨cs,hcs,hsrc⟩:=hr.cells xbq
 by_cases h0:ls.length=0
 ·obtain rfl:ls=[]:=List.eq_nil_of_length_eq_zero h0;have hrun:=xbT (P:=Tryz.prog) w 68 o.type 72 i0 Tryz.underlying68 hi B ad cap;simp only[List.length_nil] at hx hK;unfold Oper.wp
  simp[execOp,hop,resolve,invoke,builtin,hs,hx,hrun,Result.andThen]
  refine hK B 0 w ⟨[],⟨by simp,.inr ⟨B,0,#[],rfl,hB0,hB,qzC _,by unfold maxLen;omega,rfl,rfl⟩⟩,.nil⟩ (qzL _ _)
 ·obtain⟨b,rfl⟩:∃ b,ad=some b:=by
   have h1:=hcs.1;obtain⟨b,e,-⟩:=hsrc 0 (cs[0]'(by omega)) (by simp)
   exact⟨b,e⟩
  obtain⟨v',w',hrun,r1,r2⟩:=run_append_arg_grows (P:=Tryz.prog) w 68 o.type 72 i0 _ 2 16 Tryz.underlying68 hi hz0 hz1 hz2 rfl (by decide) ⟨B,0,none⟩ 0 0 [] rfl (fun j u hu=>by simp at hu) b ls.length cap cs hcs.1 (fun j u hu=>by obtain⟨b',e,h⟩:=hsrc j u hu;cases e;exact h) (by omega) (by unfold maxLen;omega) (by omega)
  simp only[Nat.zero_add,List.nil_append] at r1;obtain⟨g,cap',rfl,hg,hgl⟩:=r1.form (by omega)
  unfold Oper.wp
  simp[execOp,hop,resolve,invoke,builtin,hs,hx,hrun,Result.andThen]
  refine hK g cap' w' ⟨cs,?_,hcs.1,hcs.2⟩ ((qzL _ _).grown r2 (qzC _) (fun k hk=>by cases hk))
  obtain⟨q1,q2⟩:=r1;refine⟨q1,?_⟩
  rcases q2 with q2 | ⟨g',c',cur,e,h1,h2⟩
  ·exact .inl q2
  ·exact .inr ⟨g',c',cur,e,by omega,h2⟩
theorem xpp (hw:Region.wanted o (yielded ops a.tmps)=true)(s x:Operand)(hop:o.op=Op.call { callee:=Callee.builtin Builtin.append,args:=#[s,x],argTypes:=#[68,68] })
  (B0:Nat) (v:Value) (ls:List QL) (hs:a.eval s=v) (hout:Out xda 2 72 B0 w v ls) (hB0:B0<=w.heap.size) (B:Nat) (y:QL) (hx:a.eval x=.slice (some ⟨B,0,none⟩) 1 1) (hB:w.heap[B]?=some (.cells #[.int .i64 y.cls,.int .i64 y.found] 72 (0,0))) (hn:ls.length<1000)
  (hK:∀ g cap' w',Out xda 2 72 B0 w' (.slice (some ⟨g,0,none⟩) (ls.length+1) cap') (ls++[y])->Below B0 w w'->K (a.put o.dst (.slice (some ⟨g,0,none⟩) (ls.length+1) cap')) w') :
  if Region.wanted o (yielded ops a.tmps)=true then Oper.wp Tryz.prog o a w K Q else F:=by
 rw[if_pos hw];obtain⟨i0,hi,hz0,hz1,hz2⟩:=xa3 xi4;obtain⟨cs,hown,hcs⟩:=id hout;have hob:=hout.block;refine wp_append_lies w s x 68 hop B0 72 i0 _ 2 16 Tryz.underlying68 hi hz0 hz1 hz2 rfl (by decide) v ls.length cs hs hown ⟨B,0,none⟩ 1 1 [.int .i64 y.cls,.int .i64 y.found] hx rfl (fun j u hj=>World.news_of_block hB j u (by simpa using hj)) (by intro u hu;simp at hu;rcases hu with rfl | rfl<;>rfl) (by omega) (by unfold maxLen;omega) (by omega) hB0 w.heap.size rfl ?_
 intro g cap w' hown' hgr hor hlt;refine hK g cap w' ⟨cs++[.int .i64 y.cls,.int .i64 y.found],by simpa using hown',?_⟩ ((qzL _ _).grown hgr hB0 (fun k hk=>(hob k hk).1))
 refine Cells.append ⟨hcs.1,hcs.2⟩ xbq (Cells.one xbq rfl ⟨rfl,rfl⟩)
end
abbrev xrm (Z:Nat->Prop)(B:Nat):Nat->Prop:=fun b=>Z b/\(b<B\/B+6<=b)
structure PutR (Z:Nat->Prop)(B:Nat)(s:QS)(ep c fd:Int)(ov:Value)(pre:List QE)(d:Bool)(w:World):Prop where
 site:SiteAt w B s
 e:w.cell? ⟨B+1,0,none⟩=some (.int .i64 ep)
 c:w.cell? ⟨B+2,0,none⟩=some (.int .i64 c)
 f:w.cell? ⟨B+3,0,none⟩=some (.int .i64 fd)
 o:w.cell? ⟨B+4,0,none⟩=some ov
 d:w.cell? ⟨B+5,0,none⟩=some (.bool d)
 fo:w.frozen? ⟨B+4,0,none⟩=false
 fd:w.frozen? ⟨B+5,0,none⟩=false
 out:OutN (xrm Z B) xhq 6 70 (B+6) w ov pre
 sz:B+6<=w.heap.size
theorem PutR.later {Z:Nat->Prop}{B:Nat}{s:QS}{ep c fd:Int}{ov:Value}{pre:List QE}{d:Bool}{w w':World}(h:PutR Z B s ep c fd ov pre d w)(hb:Below w.heap.size w w'):PutR Z B s ep c fd ov pre d w':=
 ⟨h.site.later hb,qzA hb h.e,qzA hb h.c,qzA hb h.f,qzA hb h.o,qzA hb h.d,(hb.frozen (p:=⟨B+4,0,none⟩) (by have:=h.sz;simp;omega)).trans h.fo,(hb.frozen (p:=⟨B+5,0,none⟩) (by have:=h.sz;simp;omega)).trans h.fd,h.out.later xbw hb,qzD h.sz hb.size⟩
theorem PutR.next {Z:Nat->Prop}{B:Nat}{s:QS}{ep c fd:Int}{ov ov':Value}{pre pre':List QE}{d:Bool}{w w':World}(h:PutR Z B s ep c fd ov pre d w)(hb:Below (B+6) w w')(ho:OutN (xrm Z B) xhq 6 70 (B+6) w' ov' pre'):PutR Z B s ep c fd ov' pre' d (w'.setCell ⟨B+4,0,none⟩ ov'):=by
 have hz:=h.sz
 have hk:∀ b o v,b<B+6->b≠B+4->w.cell? ⟨b,o,none⟩=some v->(w'.setCell ⟨B+4,0,none⟩ ov').cell? ⟨b,o,none⟩=some v:=fun b o v h1 h2 h3=>by
  rw[qzM _ _ _ _ (by intro e;injection e with e1 _ _;omega),hb.cell (p:=⟨b,o,none⟩) h1]
  exact h3
 refine⟨⟨hk _ _ _ (by omega) (by omega) h.site.c0,hk _ _ _ (by omega) (by omega) h.site.c1,hk _ _ _ (by omega) (by omega) h.site.c2⟩,hk _ _ _ (by omega) (by omega) h.e,hk _ _ _ (by omega) (by omega) h.c,hk _ _ _ (by omega) (by omega) h.f,?_,hk _ _ _ (by omega) (by omega) h.d,?_,?_,ho.set xbw (by intro h;have:=h.2;omega) (by omega) _,by simpa using qzD hz hb.size⟩
 ·exact xcn (v:=ov) ((hb.cell (p:=⟨B+4,0,none⟩) (by simp)).trans h.o) _
 ·simpa using (hb.frozen (p:=⟨B+4,0,none⟩) (by simp)).trans h.fo
 ·simpa using (hb.frozen (p:=⟨B+5,0,none⟩) (by simp)).trans h.fd
theorem PutR.done {Z:Nat->Prop}{B:Nat}{s:QS}{ep c fd:Int}{ov:Value}{pre:List QE}{d:Bool}{w:World}(h:PutR Z B s ep c fd ov pre d w)(d':Bool):PutR Z B s ep c fd ov pre d' (w.setCell ⟨B+5,0,none⟩ (.bool d')):=by
 have hk:∀ b o v,b≠B+5->w.cell? ⟨b,o,none⟩=some v->(w.setCell ⟨B+5,0,none⟩ (.bool d')).cell? ⟨b,o,none⟩=some v:=fun b o v h2 h3=>by
  rw[qzM _ _ _ _ (by intro e;injection e with e1 _ _;omega)]
  exact h3
 exact⟨⟨hk _ _ _ (by omega) h.site.c0,hk _ _ _ (by omega) h.site.c1,hk _ _ _ (by omega) h.site.c2⟩,hk _ _ _ (by omega) h.e,hk _ _ _ (by omega) h.c,hk _ _ _ (by omega) h.f,hk _ _ _ (by omega) h.o,xcn h.d _,by simpa using h.fo,by simpa using h.fd,h.out.set xbw (by intro h;have:=h.2;omega) (by omega) _,by simpa using h.sz⟩
section
variable {P:Program} {md:Region.Mode} {ops:Array Oper} {Q:Exit->Act->World->Prop} {S:World->Prop}
def xdg (P:Program)(md:Region.Mode)(ops:Array Oper)(Q:Exit->Act->World->Prop)(S:World->Prop)(L:Nat):Nat->Array Bool->Act->World->Prop
 | 0,listed,a,w=>Region.ready md ops listed=[]/\Q .normal a w
 | fuel+1,listed,a,w=>
  (Region.ready md ops listed=[]->Q .normal a w)/\
  ∀ i∈Region.ready md ops listed,wpOp P ops Q i (fun a' w'=>(i≠L->S w')/\xdg P md ops Q S L fuel (listed.setIfInBounds i true) a' w') a w
theorem xdT {L:Nat}:∀ (fuel:Nat) (listed:Array Bool) (a:Act) (w:World),xdg P md ops Q S L fuel listed a w->wpAny P md ops Q fuel listed a w
 | 0,_,_,_,h=>h
 | fuel+1,_,_,_,h=>⟨h.1,fun i hi=>wpOp_mono (fun a' w' h'=>xdT fuel _ a' w' h'.2) (h.2 i hi)⟩
def xmo (md:Region.Mode)(ops:Array Oper)(L:Nat):Bool:=
 match ops[L]? with
 | none=>false
 | some o=>(List.range ops.size).all fun k=>k == L || o.after.any fun e=>Region.binds md e && e.on == k
theorem xhU {L i:Nat}{listed:Array Bool}(h:xmo md ops L=true)(hi:i∈Region.ready md ops listed)(hL:L∈Region.ready md ops listed):i=L:=by
 by_cases hne:i=L
 ·exact hne
 ·obtain⟨hjun,oj,hoj,hall⟩:=mem_ready.1 hL;obtain⟨hiun,oi,hoi,-⟩:=mem_ready.1 hi;unfold xmo at h;rw[hoj] at h;simp only[List.all_eq_true,List.mem_range] at h;have hlt:i<ops.size:=(Array.getElem?_eq_some_iff.1 hoi).1;have:=h i hlt;simp only[Bool.or_eq_true,beq_iff_eq,hne,false_or,Array.any_eq_true,Bool.and_eq_true] at this;obtain⟨x,hx,hb,ho⟩:=this;have h1:=hall _ (Array.getElem_mem hx) hb;rw[ho] at h1
  rcases Nat.lt_or_ge i listed.size with h' | h'
  ·simp[h'] at hiun h1
   rw[hiun] at h1
   cases h1
  ·simp[Array.getElem?_eq_none h'] at h1
theorem xhj {L i:Nat}{oi:Oper}{v:Value}(hlast:xmo md ops L=true)(hiL:i≠L)(hi:ops[i]?=some oi)(hsel:∀ (j:Nat) (o:Oper) cs b,ops[j]?=some o->o.op≠.select cs b)
  (hQ:∀ c a w,Q (.panic c) (a.put oi.dst v) w->Q (.panic c) a w) :
  ∀ (fuel:Nat) (listed:Array Bool) (a:Act) (w:World),
   (∀ j oj,ops[j]?=some oj->j≠i->listed.getD j true=false->(∀ e∈oj.after,Region.binds md e=true->e.on≠i)->oi.apart ops oj=true)->
   i∈Region.ready md ops listed->YieldsIf P ops S oi v a->S w->
   xdg P md ops Q S L fuel (listed.setIfInBounds i true) (a.put oi.dst v) w->xdg P md ops Q S L (fuel+1) listed a w:=by
 intro fuel
 induction fuel with
 | zero=>
  intro listed a w _ hr hy hS H;refine⟨fun h=>(by rw[h] at hr;cases hr),fun j hj=>?_⟩
  by_cases hji:j=i
  ·subst hji;exact hy.wpOp hi hS ⟨fun _=>hS,H⟩
  ·have:=ready_mono hj hji;rw[H.1] at this
   cases this
 | succ fuel ih=>
  intro listed a w hfree hr hy hS H;refine⟨fun h=>(by rw[h] at hr;cases hr),fun j hj=>?_⟩
  by_cases hji:j=i
  ·subst hji;exact hy.wpOp hi hS ⟨fun _=>hS,H⟩
  ·have hjL:j≠L:=fun e=>by subst e;exact hji (xhU hlast hr hj).symm
   have h1:=H.2 j (ready_mono hj hji);obtain⟨hjun,oj,hoj,hall⟩:=mem_ready.1 hj
   have hnot:∀ e∈oj.after,Region.binds md e=true->e.on≠i:=fun e he hb heq=>by
    have h1:=hall e he hb;have h0:=(mem_ready.1 hr).1;rw[heq] at h1
    rcases Nat.lt_or_ge i listed.size with h' | h'
    ·simp[h'] at h0 h1;rw[h0] at h1;cases h1
    ·simp[Array.getElem?_eq_none h'] at h1
   have h2:=wpOp_putIf hoj (hfree j oj hoj hji hjun hnot) (fun cs b=>hsel i oi cs b hi) (fun cs b=>hsel j oj cs b hoj) hQ hy h1
   have hfree':∀ k ok,ops[k]?=some ok->k≠i->(listed.setIfInBounds j true).getD k true=false->
     (∀ e∈ok.after,Region.binds md e=true->e.on≠i)->oi.apart ops ok=true:=fun k ok hk hki hun hno=>by
    refine hfree k ok hk hki ?_ hno
    by_cases hjk:j=k
    ·subst hjk;exact hjun
    ·rw[getD_set_ne true hjk] at hun;exact hun
   refine wpOp_mono (fun a' w' h3=>⟨fun _=>h3.2.1 hjL,ih (listed.setIfInBounds j true) a' w' hfree' (ready_mono hr (Ne.symm hji)) h3.1 (h3.2.1 hjL) ?_⟩) h2
   rw[Array.setIfInBounds_comm _ _ hji]
   exact h3.2.2
theorem xbs {L i:Nat}{oi:Oper}{v:Value}{fuel:Nat}{listed:Array Bool}{a:Act}{w:World}(hlast:xmo md ops L=true)(hiL:(i == L)=false)(hi:ops[i]?=some oi)
  (hs:Region.noSelect ops=true) (hf:Region.free md ops listed i=true) (hr:(Region.ready md ops listed).contains i=true)
  (hQ:∀ c a w,Q (.panic c) (a.put oi.dst v) w->Q (.panic c) a w) (hy:YieldsIf P ops S oi v a) (hS:S w)
  (h:xdg P md ops Q S L fuel (listed.setIfInBounds i true) (a.put oi.dst v) w):xdg P md ops Q S L (fuel+1) listed a w:=
 xhj hlast (by simpa using hiL) hi (Region.noSelect_spec hs) hQ fuel listed a w (Region.free_spec hi hf) (by simpa using hr) hy hS h
theorem xhV {L:Nat}{listed:Array Bool}{a:Act}{w:World}(hr:Region.ready md ops listed=[])(h:Q .normal a w):∀ fuel,xdg P md ops Q S L fuel listed a w
 | 0=>⟨hr,h⟩
 | _+1=>⟨fun _=>h,by rw[hr];simp⟩
theorem xcC {L:Nat}{rs:List Nat}{fuel:Nat}{listed:Array Bool}{a:Act}{w:World}(hr:Region.ready md ops listed=rs)(hne:rs≠[])
  (h:∀ i∈rs,wpOp P ops Q i (fun a' w'=>(i≠L->S w')/\xdg P md ops Q S L fuel (listed.setIfInBounds i true) a' w') a w):xdg P md ops Q S L (fuel+1) listed a w:=
 ⟨fun h0=>absurd (hr ▸ h0) hne,hr ▸ h⟩
theorem xmj {L i:Nat}{fuel:Nat}{listed:Array Bool}{a:Act}{w:World}{o:Oper}(ho:ops[i]?=some o)
  (h:∀ K':Act->World->Prop,(∀ a w,(i≠L->S w)->xdg P md ops Q S L fuel (listed.setIfInBounds i true) a w->K' a w)->if Region.wanted o (yielded ops a.tmps)=true then Oper.wp P o a w K' Q else K' (a.put o.dst undef) w) :
  wpOp P ops Q i (fun a' w'=>(i≠L->S w')/\xdg P md ops Q S L fuel (listed.setIfInBounds i true) a' w') a w:=
 wpOp_step ho (fun K' hK=>h K' (fun a w hS hW=>hK a w ⟨hS,hW⟩))
theorem xfz {id:Nat}{a:Act}{w:World}(L:Nat)(hm:P.follows .mixedOrders=true)
  (h:xdg P .any ops Q S L ops.size (Array.replicate ops.size false) a w.drew):(Code.region id ops true).wp P Q a w:=
 wp_region_any hm (xdT _ _ _ _ h)
end
end Go.Proofs.YtapbeiccodnniaaGreat
