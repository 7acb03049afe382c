/- A part. -/
import Derived.Test.YtapbeiccodnniaaGreatM15
namespace Go.Proofs.YtapbeiccodnniaaGreat
open Go.ChangeShapes Go.WideShapes Go.ChangeAt Go.RowKit
set_option linter.unusedSimpArgs false
set_option linter.unusedVariables false
set_option maxHeartbeats 8000000
set_option maxRecDepth 8000
section
variable {σ:Type} {p:Mp σ} {T T':Nat->Nat} {w w':World} {mb:Nat} {m m':Mc σ} {calls calls':Int} {hv:Value} {g:Nat} {s:Nat->Nat} {K fb:Nat} {f:Fr} {cv av tv sv kv:Value}
theorem xmX (v:QV)(w:World):(Instr.field 27 (VV v) 0).run Tryz.prog w=.ok (.int .i64 v.k) w:=by
 obtain⟨i0,hi,hz0,hz1,hz2⟩:=xa3 xh7
 simp[Instr.field,run_underlying Tryz.underlying27,part,sizeOf,typeInfo,hi,hz1,asAgg]
theorem xjg (h:MacAt p T w mb m calls hv g s)(hF:FrAt T K w fb f cv av tv sv kv)(a b:Int)(ht:0<=m.turns/\m.turns<=300):Calls Tryz.prog 109 #[.pointer (some ⟨mb,0,none⟩),.pointer (some ⟨fb,0,none⟩),.int .i64 a,.int .i64 b] w fun e w'=>e=.returned (.int .i64 (xbr m f a b).2.2)/\MacAt p T w' mb (xbr m f a b).1 calls hv g s/\((xbr m f a b).2.2=0->∃ sv',FrAt T K w' fb (xbr m f a b).2.1 cv av tv sv' kv)/\Kp (fun t=>t=1\/t=K) T w w':=by
 have hp:=hF.pos;have hfl:=xmX;go_enter Tryz.func109,Tryz.ntmps109;go_wp2_with fail;refine (xdD hF).mono ?_;rintro e w1 ⟨rfl,⟨sv1,hF1⟩,hK1⟩;have hM1:=h.keep (.refl _ _) hK1 (by omega) (by omega) (by omega)
 have HK:=hid hK1;clear h hF hK1
 by_cases h2:f.top.k=2
 ·have HE:Hid (xbr m f a b=(m,f.pop,0)):=by show _=_;unfold xbr;rw[if_pos h2]
  have h2':(f.top.k == 2)=true:=by simpa using h2
  have HM:=hid hM1;have HF:=hid hF1;clear hM1 hF1;go_wp2
  go_ret
  rw[HE.out]
  exact⟨rfl,HM.out,fun _=>⟨_,HF.out⟩,HK.out.mono fun t h=>Or.inr h⟩
 have h2':(f.top.k == 2)=false:=by simpa using h2
 by_cases h1:f.top.k=1
 ·have HE:Hid (xbr m f a b=xaX m f.pop a b):=by show _=_;unfold xbr;rw[if_neg h2,if_pos h1]
  have h1':(f.top.k == 1)=true:=by simpa using h1
  go_wp2_with fail;refine (xi6 hM1 hF1 a b ht).mono ?_;rintro e w2 ⟨rfl,hM2,hF2,hK2⟩;have HM:=hid hM2;have HF:=hid hF2;have HK2:=hid hK2;clear hM1 hF1 hM2 hF2 hK2;go_wp2
  go_ret
  rw[HE.out]
  exact⟨rfl,HM.out,fun _=>⟨_,HF.out⟩,(HK.out.mono fun t h=>Or.inr h).trans (.refl _ _) HK2.out⟩
 have h1':(f.top.k == 1)=false:=by simpa using h1
 have HE:Hid (xbr m f a b=(m,f,11)):=by show _=_;unfold xbr;rw[if_neg h2,if_neg h1]
 have HM:=hid hM1;clear hM1 hF1;go_wp2
 go_ret
 rw[HE.out]
 exact⟨rfl,HM.out,fun h=>absurd h (by simp),HK.out.mono fun t h=>Or.inr h⟩
theorem xfj {ops:Array Oper}{o:Oper}{a:Act}{w:World}{K:Act->World->Prop}{Q:Exit->Act->World->Prop}{E:Prop}(hgd:o.guard=none)(s x:Operand)
  (hop:o.op=Op.call { callee:=Callee.builtin Builtin.append,args:=#[s,x],argTypes:=#[23,23] }) (g n:Nat) (hs:a.eval s=.slice (some ⟨g,0,none⟩) n n) (Bb:Nat) (hx:a.eval x=.slice (some ⟨Bb,0,none⟩) 1 1)
  (cur:Array Value) (hcur:w.heap[g]?=some (.cells cur 64 (0,0))) (hlen:cur.size=n*2) (x0 x1:Value) (h0:w.cell? ⟨Bb,0,none⟩=some x0) (h1:w.cell? ⟨Bb,1,none⟩=some x1) (o0:x0.oneCell'=true) (o1:x1.oneCell'=true) (hn:n<1000)
  (hK:∀ g' cap cur' w',n+1<=cap->cap<=maxLen->w'.heap[g']?=some (.cells cur' 64 (0,0))->cur'.toList.take ((n+1)*2)=cur.toList++[x0,x1]->w.heap.size<=g'->Below w.heap.size w w'->K (a.put o.dst (.slice (some ⟨g',0,none⟩) (n+1) cap)) w') :
  if Region.wanted o (yielded ops a.tmps)=true then Oper.wp Tryz.prog o a w K Q else E:=by
 obtain⟨i0,hi,hz0,hz1,hz2⟩:=xa3 xgX
 refine step_append_grows hgd s x 23 hop 64 i0 _ 2 32 Tryz.underlying23 hi hz0 hz1 hz2 rfl (by decide) (some ⟨g,0,none⟩) n n cur.toList hs (fun h=>by cases h) (by simpa using hlen)
  (fun b hb j u hu=>by cases hb;rw[Addr.add_lit,Nat.zero_add,qzB hcur];simpa using hu) ⟨Bb,0,none⟩ 1 1 [x0,x1] hx rfl
  (fun j u hu=>by
   rw[Addr.add_lit,Nat.zero_add]
   match j,hu with
   | 0,hu=>simp at hu;rw[← hu];exact h0
   | 1,hu=>simp at hu;rw[← hu];exact h1)
  (fun u hu=>by simp at hu;rcases hu with h | h<;>rw[h]<;>assumption) (by omega) (by unfold maxLen;omega) (by omega) ?_
 intro v' w' hown hgr;obtain⟨-,h | ⟨g',cap,cur',rfl,hb,hh,hc1,hc2,-,hc4⟩⟩:=hown
 ·omega
 ·exact hK g' cap cur' w' hc1 hc2 hh hc4 hb ((qzL _ _).grown hgr (qzC _) (fun k hk=>by cases hk))
structure NwS (w:World)(k:Nat)(w':World):Prop where
 bel:Below w.heap.size w w'
 c0:∃ u,w'.cell? ⟨w.heap.size,0,none⟩=some u
 c1:∃ u,w'.cell? ⟨w.heap.size,1,none⟩=some u
 fr:∀ o,w'.frozen? ⟨w.heap.size,o,none⟩=false
 vals:w'.heap[w.heap.size+1]?=some (.cells (xal (List.replicate k xaU)).toArray 27 (0,0))
theorem NwS.later {w w' w1:World}{k:Nat}(h:NwS w k w')(hb:Below w'.heap.size w' w1):NwS w k w1:=
 have h0:=h.c0;have h1:=h.c1
 ⟨xah h.bel hb,h0.elim fun u hu=>⟨u,qzA hb hu⟩,h1.elim fun u hu=>⟨u,qzA hb hu⟩,fun o=>(hb.frozen (p:=⟨w.heap.size,o,none⟩) (h0.elim fun u hu=>World.block_lt_of_cell? w' ⟨w.heap.size,0,none⟩ hu)).trans (h.fr o),xac h.vals hb⟩
theorem xdU {w:World}{a b:Addr}{x:Value}(h:∃ u,w.cell? a=some u):∃ u,(w.setCell b x).cell? a=some u:=by
 obtain⟨u,h⟩:=h;obtain⟨v,hv⟩:=cell?_setCell_some (w:=w) (p:=b) (x:=x) (q:=a) (v:=u) h
 exact⟨v,hv⟩
theorem NwS.set {w w':World}{k:Nat}(h:NwS w k w')(o:Nat)(u:Value):NwS w k (w'.setCell ⟨w.heap.size,o,none⟩ u):=
 ⟨h.bel.setCell (qzC _) _,xdU h.c0,xdU h.c1,fun o'=>by rw[World.frozen?_setCell];exact h.fr o',by rw[xab (by omega)];exact h.vals⟩
theorem xoH {w w':World}{k b:Nat}{x y:Value}(hb:w.heap.size<b)(h:w'.cell? ⟨b,0,none⟩=some x/\w'.cell? ⟨b,1,none⟩=some y/\NwS w k w')(o o':Nat)(u u':Value) :
  ((w'.setCell ⟨w.heap.size,o,none⟩ u).setCell ⟨w.heap.size,o',none⟩ u').cell? ⟨b,0,none⟩=some x/\((w'.setCell ⟨w.heap.size,o,none⟩ u).setCell ⟨w.heap.size,o',none⟩ u').cell? ⟨b,1,none⟩=some y/\NwS w k ((w'.setCell ⟨w.heap.size,o,none⟩ u).setCell ⟨w.heap.size,o',none⟩ u'):=
 ⟨(qzI _ _ _ _ (by simp;omega)).trans ((qzI _ _ _ _ (by simp;omega)).trans h.1),(qzI _ _ _ _ (by simp;omega)).trans ((qzI _ _ _ _ (by simp;omega)).trans h.2.1),(h.2.2.set _ _).set _ _⟩
theorem xnE {w w' w1:World}{k:Nat}{a b:Addr}{x y:Value}(h:w'.cell? a=some x/\w'.cell? b=some y/\NwS w k w')(hb:Below w'.heap.size w' w1):w1.cell? a=some x/\w1.cell? b=some y/\NwS w k w1:=⟨qzA hb h.1,qzA hb h.2.1,h.2.2.later hb⟩
theorem xnU {w1 wx w2:World}{hs:List QO}{cur cur':Array Value}{c:Int}{k g g' cap vb lo:Nat}{s:Nat->Nat}(hR:HRow w1 g s hs hs.length)(hcur:w1.heap[g]?=some (.cells cur 64 (0,0)))(hlen:cur.size=hs.length*2)(hx:Below w1.heap.size w1 wx)(hb2:Below wx.heap.size wx w2)(hv:w2.heap[vb]?=some (.cells (xal (List.replicate k xaU)).toArray 27 (0,0)))
  (h1:hs.length+1<=cap) (h2:cap<=maxLen) (hh:w2.heap[g']?=some (.cells cur' 64 (0,0))) (hcl:cur'.toList.take ((hs.length+1)*2)=cur.toList++[.int .i64 c,.slice (some ⟨vb,0,none⟩) k k]) (hg':wx.heap.size<=g') (hvg:vb<g) (hl:hs.length<1000) (hk:k<=2147483647) (hlo:lo<=vb) {T:Nat->Nat} (hT:∀ b,lo<=b->T b=2) :
  HeapSt T w2 (.slice (some ⟨g',0,none⟩) (hs.length+1) cap) g' (fun i=>if i=hs.length then vb else s i) (hs++[⟨c,List.replicate k xaU⟩]):=by
 have hb:=xah hx hb2;have hgl:=xaf hcur;have hxs:=hx.size
 have hcell:∀ j,j<(hs.length+1)*2->w2.cell? ⟨g',j,none⟩=(cur.toList++[.int .i64 c,.slice (some ⟨vb,0,none⟩) k k])[j]?:=fun j hj=>by
  rw[qzB hh,← hcl,List.getElem?_take,if_pos hj];simp
 have hcl':cur.toList.length=hs.length*2:=by simpa using hlen
 have hin:∀ i x,hs[i]?=some x->s i<w1.heap.size:=fun i x hx=>hR.lt i (xae hx)
 refine⟨⟨cap,by simp,by simpa using h1,h2⟩,by simp;omega,xaf hh,hT _ (by omega),fun i x hi=>?_,fun i j hi hj e=>?_⟩
 ·by_cases hil:i<hs.length
  ·rw[List.getElem?_append_left hil] at hi;obtain⟨e1,e2,e3,e4,e5⟩:=hR.obj i x hil hi;simp only[show i≠hs.length by omega,if_false]
   have d:∀ j,j<hs.length*2->w2.cell? ⟨g',j,none⟩=w1.cell? ⟨g,j,none⟩:=fun j hj=>by
    rw[hcell j (by omega),List.getElem?_append_left (by omega),qzB hcur];simp
   have:=hin i x hi
   exact⟨by rw[d _ (by omega)];exact e1,by rw[d _ (by omega)];exact e2,xac e3 hb,hT _ (by omega),by omega,e5⟩
  ·have hi':i=hs.length:=by
    have:=xae hi
    simp at this;omega
   subst hi'
   simp at hi
   subst hi;simp only[if_true];refine⟨?_,?_,hv,hT _ hlo,by omega,by simp;omega⟩
   ·rw[hcell _ (by omega),List.getElem?_append_right (by omega),hcl'];simp
   ·rw[hcell _ (by omega),List.getElem?_append_right (by omega),hcl',show hs.length*2+1-hs.length*2=1 by omega];simp
 ·simp at hi hj
  have big:∀ i,i<hs.length->vb<s i:=fun i hi=>by
   have hx:hs[i]?=some hs[i]:=by simp[hi]
   have:=(hR.obj i _ hi hx).2.2.2.1
   omega
  by_cases a1:i=hs.length
  ·by_cases a2:j=hs.length
   ·omega
   ·rw[if_pos a1,if_neg a2] at e;have:=big j (by omega);omega
  ·by_cases a2:j=hs.length
   ·rw[if_neg a1,if_pos a2] at e;have:=big i (by omega);omega
   ·rw[if_neg a1,if_neg a2] at e
    rcases Nat.lt_trichotomy i j with h | h | h
    ·have:=hR.inc i j h (by omega);omega
    ·exact h
    ·have:=hR.inc j i h (by omega);omega
def xll (w:World)(hs:List QO)(c:Int)(k:Nat)(e:Ending)(w':World):Prop:=Below w.heap.size w w'/\
  ((60<=hs.length\/2147483647<k)->e=.returned (.tuple #[.slice none 0 0,VV xaU,.int .i64 15]))/\
  (¬ (60<=hs.length\/2147483647<k)->∃ g s cap,e=.returned (.tuple #[.slice (some ⟨g,0,none⟩) (hs.length+1) cap,VV ⟨4,hs.length⟩,.int .i64 0])/\∀ T:Nat->Nat,T w.heap.size=4->(∀ b,w.heap.size+1<=b->T b=2)->HeapSt T w' (.slice (some ⟨g,0,none⟩) (hs.length+1) cap) g s (hs++[⟨c,List.replicate k xaU⟩]))
theorem xlX {P:Nat->Prop}(hs:List QO)(hv:Value)(c:Int)(k:Nat)(w:World)(h:xaC P w hv hs):Calls Tryz.prog 112 #[hv,.int .i64 c,.int .i64 k] w fun e w'=>xll w hs c k e w':=by
 obtain⟨a,cap,rfl,-⟩:=id h
 by_cases h6:60<=hs.length
 ·have h6':(60:Int)<=(hs.length:Int):=by omega
  have HN:Hid (60<=hs.length\/2147483647<k):=Or.inl h6;go_enter Tryz.func112,Tryz.ntmps112;go_wp2;refine qzK (v:=.tuple #[.slice none 0 0,VV xaU,.int .i64 15]) ?_ rfl ⟨xaj _ _,fun _=>rfl,fun hn=>absurd HN.out hn⟩
  simp[results,Tryz.results112,go_sem]
 have h6':¬ ((60:Int)<=(hs.length:Int)):=by omega
 by_cases h7:2147483647<k
 ·have h7':(2147483647:Int)<(k:Int):=by omega
  have HN:Hid (60<=hs.length\/2147483647<k):=Or.inr h7;go_enter Tryz.func112,Tryz.ntmps112;go_wp2;refine qzK (v:=.tuple #[.slice none 0 0,VV xaU,.int .i64 15]) ?_ rfl ⟨xaj _ _,fun _=>rfl,fun hn=>absurd HN.out hn⟩
  simp[results,Tryz.results112,go_sem]
 have h7':¬ ((2147483647:Int)<(k:Int)):=by omega
 have hmk:=xcA k (by omega)
 have HN:Hid (¬ (60<=hs.length\/2147483647<k)):=by show ¬ _;omega
 have hk0:¬ ((k:Int)<0):=by omega
 have hb3:Below w.heap.size w (((w.alloc (.cells #[.int .i64 0,.int .i64 0] 27)).alloc (.cells (madeCells #[.int .i64 0,.int .i64 0] (k*2)) 27)).alloc (.cells #[.int .i64 c,.slice (some ⟨w.heap.size+1,0,none⟩) k k] 64)).drew:=(xfv _ _ _ _).drew;have hH:=h.later xaD hb3;have hsz:(((w.alloc (.cells #[.int .i64 0,.int .i64 0] 27)).alloc (.cells (madeCells #[.int .i64 0,.int .i64 0] (k*2)) 27)).alloc (.cells #[.int .i64 c,.slice (some ⟨w.heap.size+1,0,none⟩) k k] 64)).drew.heap.size=w.heap.size+3:=by simp
 have hS0:(((w.alloc (.cells #[.int .i64 0,.int .i64 0] 27)).alloc (.cells (madeCells #[.int .i64 0,.int .i64 0] (k*2)) 27)).alloc (.cells #[.int .i64 c,.slice (some ⟨w.heap.size+1,0,none⟩) k k] 64)).drew.cell? ⟨w.heap.size+1+1,0,none⟩=some (.int .i64 c)/\(((w.alloc (.cells #[.int .i64 0,.int .i64 0] 27)).alloc (.cells (madeCells #[.int .i64 0,.int .i64 0] (k*2)) 27)).alloc (.cells #[.int .i64 c,.slice (some ⟨w.heap.size+1,0,none⟩) k k] 64)).drew.cell? ⟨w.heap.size+1+1,1,none⟩=some (.slice (some ⟨w.heap.size+1,0,none⟩) k k)/\NwS w k (((w.alloc (.cells #[.int .i64 0,.int .i64 0] 27)).alloc (.cells (madeCells #[.int .i64 0,.int .i64 0] (k*2)) 27)).alloc (.cells #[.int .i64 c,.slice (some ⟨w.heap.size+1,0,none⟩) k k] 64)).drew:=by
  refine⟨xaa _ _ _ _ (by simp) 0,xaa _ _ _ _ (by simp) 1,hb3,⟨_,qzA (xca _ _ _).drew (xaa w #[.int .i64 0,.int .i64 0] 27 _ rfl 0)⟩,⟨_,qzA (xca _ _ _).drew (xaa w #[.int .i64 0,.int .i64 0] 27 _ rfl 1)⟩,fun o=>((xca _ _ _).drew.frozen (p:=⟨w.heap.size,o,none⟩) (by simp)).trans (xam (qzJ w (.cells #[.int .i64 0,.int .i64 0] 27)) o),?_⟩
  rw[← xji];refine xac (w:=(w.alloc (.cells #[.int .i64 0,.int .i64 0] 27)).alloc (.cells (madeCells #[.int .i64 0,.int .i64 0] (k*2)) 27)) ?_ (xaj _ _).drew;have:=qzJ (w.alloc (.cells #[.int .i64 0,.int .i64 0] 27)) (.cells (madeCells #[.int .i64 0,.int .i64 0] (k*2)) 27)
  simpa using this
 clear h;go_enter Tryz.func112,Tryz.ntmps112;go_wp2;generalize (((w.alloc (.cells #[.int .i64 0,.int .i64 0] 27)).alloc (.cells (madeCells #[.int .i64 0,.int .i64 0] (k*2)) 27)).alloc (.cells #[.int .i64 c,.slice (some ⟨w.heap.size+1,0,none⟩) k k] 64))=W0 at *;clear hmk;have hszW:W0.heap.size=w.heap.size+3:=hsz
 go_region_held3 (fun w'=>w'.cell? ⟨w.heap.size+1+1,0,none⟩=some (.int .i64 c)/\w'.cell? ⟨w.heap.size+1+1,1,none⟩=some (Value.slice (some { block:=w.heap.size+1,off:=0 }) k k)/\NwS w k w')
  (first | with_reducible exact hS0 | with_reducible exact hY | exact xoH (by omega) hY _ _ _ _ | exact xnE (‹_/\_/\NwS w k _›) (xaj _ _))
  (first
   | (refine xfj rfl (.tmp 24) (.tmp 26) rfl g hs.length rfl _ rfl cur (by first | exact hcur | exact ((xaj _ _).block _ (xaf hcur)).trans hcur) hlen (.int .i64 c) (Value.slice (some { block:=w.heap.size+1,off:=0 }) k k) (by first | (rw[xaa _ _ _ _ rfl];rfl) | exact qzA hb1 (xaa W0 _ 64 _ hszW 0)) (by first | (rw[xaa _ _ _ _ rfl];rfl) | exact qzA hb1 (xaa W0 _ 64 _ hszW 1)) rfl rfl hl0 ?_;intro g' cap' cur' w2 n1 n2 hh2 hcl hg2 hb2;have hY:=xnE (‹_/\_/\NwS w k _›) hb2;have hfin:Hid (∀ T:Nat->Nat,(∀ b,w.heap.size+1<=b->T b=2)->HeapSt T w2 (.slice (some ⟨g',0,none⟩) (hs.length+1) cap') g' _ (hs++[⟨c,List.replicate k xaU⟩])):=(fun T hT=>xnU xiz hcur hlen (by first | exact qzL _ _ | exact xaj _ _) hb2 hY.2.2.vals n1 n2 hh2 hcl hg2 (by omega) hl0 (by omega) (qzC _) hT);obtain⟨-,⟨v0,u0⟩,⟨v1,u1⟩,hfr,-⟩:=id hY.2.2)
   | (go_at_call 57;refine (xiZ hs _ _ (hH.later xaD (by first | exact qzL _ _ | exact xaj _ _))).mono ?_;rintro e w1 ⟨g,sg,rfl,xiz,hg1,hb1⟩;obtain⟨cur,hcur,hlen⟩:=xiz.row;have hl0:hs.length<1000:=(by omega);have hg3:w.heap.size+3<=g:=(by simp at hg1;omega);have hY:=xnE (‹_/\_/\NwS w k _›) hb1))
 all_goals go_wp2
 all_goals (
  refine qzK (v:=.tuple #[.slice (some ⟨g',0,none⟩) (hs.length+1) cap',VV ⟨4,hs.length⟩,.int .i64 0]) ?_ rfl ⟨((hY.2.2.set _ _).set _ _).bel,fun h=>absurd h HN.out,fun _=>⟨g',(fun i=>if i=hs.length then w.heap.size+1 else sg i),cap',rfl,fun T hT1 hT2=>?_⟩⟩
  ·simp[results,Tryz.results112,go_sem,u0,u1]
  ·exact (hfin.out T hT2).keep (.refl _ _) (((Kp.refl (fun t=>t=4) _ _).set (fun _=>hT1) _ _).set (fun _=>hT1) _ _) (by omega))
structure MkS (w:World)(mb:Nat)(v0 v1:Value)(ep:Int)(w':World):Prop where
 bel:Below w.heap.size w w'
 m0:w'.cell? ⟨mb,0,none⟩=some v0
 m1:w'.cell? ⟨mb,1,none⟩=some v1
 m2:w'.cell? ⟨mb,2,none⟩=some (.int .i64 ep)
 lt:mb<w.heap.size
theorem MkS.later {w:World}{mb:Nat}{v0 v1:Value}{ep:Int}{w' w'':World}(h:MkS w mb v0 v1 ep w')(hb:Below w'.heap.size w' w''):MkS w mb v0 v1 ep w'':=⟨xah h.bel hb,qzA hb h.m0,qzA hb h.m1,qzA hb h.m2,h.lt⟩
theorem MkS.set {w:World}{mb:Nat}{v0 v1:Value}{ep:Int}{w':World}(h:MkS w mb v0 v1 ep w'){b:Nat}(hb:w.heap.size<=b)(o:Nat)(u:Value):MkS w mb v0 v1 ep (w'.setCell ⟨b,o,none⟩ u):=
 have hl:=h.lt
 ⟨h.bel.setCell hb _,(qzI _ _ _ _ (by simp;omega)).trans h.m0,(qzI _ _ _ _ (by simp;omega)).trans h.m1,(qzI _ _ _ _ (by simp;omega)).trans h.m2,hl⟩
theorem MkS.al {w:World}{mb:Nat}{v0 v1:Value}{ep:Int}{w':World}(h:MkS w mb v0 v1 ep w'):w'.cell? ⟨mb,0,none⟩=some v0/\w'.cell? ⟨mb,1,none⟩=some v1/\w'.cell? ⟨mb,2,none⟩=some (.int .i64 ep)/\MkS w mb v0 v1 ep w':=⟨h.m0,h.m1,h.m2,h⟩
theorem xmD (w:World)(x:Obj):w.heap.size<(w.alloc x).drew.heap.size:=by simp
theorem xph (T:Nat->Nat)(w:World){W' w2:World}{hv:Value}{g:Nat}{s:Nat->Nat}{xs:List QO}(h:∀ T:Nat->Nat,T W'.heap.size=4->(∀ b,W'.heap.size+1<=b->T b=2)->HeapSt T w2 hv g s xs):Hid (∃ T2,(w.heap.size<=W'.heap.size->Ext T T2 w)/\HeapSt T2 w2 hv g s xs/\∀ b,w.heap.size<=b->b<=W'.heap.size->T2 b=4):=by
 refine⟨fun b=>if b<w.heap.size/\b<W'.heap.size then T b else if b<=W'.heap.size then 4 else 2,fun hs b hb=>?_,h _ ?_ fun b hb=>?_,fun b h1 h2=>?_⟩
 ·simp only[if_pos (And.intro hb (qzE hb hs))]
 ·simp
 ·simp only[if_neg (show ¬ (b<w.heap.size/\b<W'.heap.size) by omega),if_neg (show ¬ b<=W'.heap.size by omega)]
 ·simp only[if_neg (show ¬ (b<w.heap.size/\b<W'.heap.size) by omega),if_pos h2]
theorem xjp {hv2:Value}{g2:Nat}{s2:Nat->Nat}{xs2:List QO}{w2 U:World}{T2:Nat->Nat}{v:QV}(hM:MacAt p T w mb m calls hv g s)(hF:FrAt T K w fb f cv av tv sv kv)(hE:Ext T T2 w)(hH:HeapSt T2 w2 hv2 g2 s2 xs2)(ha:U.heap[mb]?=some (MB p { m with heap:=xs2 } calls hv2))(kU:Kp (fun t=>t=1\/t=4) T2 w2 U)(kw:Kp (fun t=>t=1) T w U)(hroom:f.stack.length<1000000000) :
  Calls Tryz.prog 103 #[.pointer (some ⟨fb,0,none⟩),VV v] U fun e w'=>e=.returned (.tuple #[])/\(∃ T',Ext T T' w/\(∃ hv' g' s',MacAt p T' w' mb { m with heap:=xs2 } calls hv' g' s')/\(((0:Int)=0)->∃ sv',FrAt T' K w' fb (f.push v) cv av tv sv' kv))/\Kp (fun t=>t=1\/t=K\/t=K+2) T w w':=by
 have hp:=hF.pos;have hMU:MacAt p T2 U mb { m with heap:=xs2 } calls hv2 g2 s2:=⟨ha,by rw[hE _ (xaf hM.box)];exact hM.tag,hH.keep (.refl _ _) kU (by omega),hM.cls.fx xaz hE kw (by omega)⟩
 have hFU:=hF.keep hE kw (by omega) (by omega) (by omega) (by omega)
 refine (xdM hFU v hroom).mono ?_;rintro e w4 ⟨rfl,⟨T4,sv4,e4,hF4⟩,k4⟩;have ew:Ext T T4 w:=hE.trans kw.size e4;refine⟨rfl,⟨T4,ew,⟨_,_,_,hMU.keep e4 k4 (by omega) (by omega) (by omega)⟩,fun _=>⟨_,hF4⟩⟩,?_⟩
 exact (kw.mono fun t h=>Or.inl h).trans hE (k4.mono fun t h=>Or.inr h)
def xly (p:Mp σ)(T:Nat->Nat)(w:World)(mb:Nat)(m:Mc σ)(calls:Int)(K fb:Nat)(f:Fr)(cv av tv kv:Value)(r:Mc σ × Fr × Int)(e:Ending)(w':World):Prop:=
 e=.returned (.int .i64 r.2.2)/\(∃ T',Ext T T' w/\(∃ hv' g' s',MacAt p T' w' mb r.1 calls hv' g' s')/\(r.2.2=0->∃ sv',FrAt T' K w' fb r.2.1 cv av tv sv' kv))/\Kp (fun t=>t=1\/t=K\/t=K+2) T w w'
theorem xfx (h:MacAt p T w mb m calls hv g s)(hF:FrAt T K w fb f cv av tv sv kv)(c:Int)(hsl:xa8 p.E.cz c=xaP p.E.cz c/\0<=xaP p.E.cz c)(hroom:f.stack.length<1000000000):Calls Tryz.prog 106 #[.pointer (some ⟨mb,0,none⟩),.pointer (some ⟨fb,0,none⟩),.int .i64 c] w fun e w'=>xly p T w mb m calls K fb f cv av tv kv (xbQ p.E m f c) e w':=by
 have hp:=hF.pos;have hlm:=xaf h.box;have hlf:=xaf hF.box;obtain⟨k,hk⟩:∃ k:Nat,xaP p.E.cz c=(k:Int):=⟨(xaP p.E.cz c).toNat,by omega⟩
 have HE:Hid (xbQ p.E m f c=if 60<=m.heap.length\/2147483647<k then (m,f,15) else ({ m with heap:=m.heap++[⟨c,List.replicate k xaU⟩] },f.push ⟨4,m.heap.length⟩,0)):=by
  show _=_
  unfold xbQ;rw[hk];simp only[Int.toNat_natCast]
  by_cases hc:60<=m.heap.length\/(2147483647:Int)<(k:Int)
  ·rw[if_pos hc,if_pos (by omega)]
  ·rw[if_neg hc,if_neg (by omega)]
 have hW:xa8 p.E.cz c=(k:Int):=by rw[hsl.1,hk]
 clear hk hsl;have hd:Below w.heap.size w w.drew:=(qzL _ _).drew;have hM:=h;have hFr:=hF;have hH:=hM.heap.heap.mono (Q:=fun _=>True) xaD fun _ _=>trivial
 have hC:=hM.cls.mono (Q:=fun _=>True) xaz fun _ _=>trivial
 have hS0:MkS w mb p.cv hv p.ep w.drew:=⟨hd,hM.c0,hM.c1,hM.c2,hlm⟩;have HM:=hid hM;have HF:=hid hFr;obtain⟨ac,cc,hcv,-⟩:=id hC;obtain⟨ah,ch,rfl,-⟩:=id hH
 have hslots:∀ w':World,Below w.heap.size w w'->Calls Tryz.prog 113 #[WV p.cv (.slice ah m.heap.length ch) p.ep,.int .i64 c] w' fun e w''=>e=.returned (.int .i64 (k:Int))/\Below w'.heap.size w' w'':=fun w' hb=>by
  have:=xjk ⟨p.E.cz,m.heap,p.ep⟩ c _ _ w' (hC.later xaz hb) (hH.later xaD hb);rw[hW] at this
  exact this
 rw[hcv] at hslots hS0;have hnew:∀ w':World,Below w.heap.size w w'->Calls Tryz.prog 112 #[.slice ah m.heap.length ch,.int .i64 c,.int .i64 (k:Int)] w' fun e w''=>xll w' m.heap c k e w'':=fun w' hb=>xlX m.heap _ c k w' (hH.later xaD hb)
 clear h hF hM hFr hW hcv hC hH
 by_cases hc:60<=m.heap.length\/2147483647<k
 ·rw[if_pos hc] at HE;rw[HE.out];have HC:=hid hc;clear hc;go_enter Tryz.func106,Tryz.ntmps106;go_wp2;have tokA:True:=trivial
  go_region_held3 (fun w'=>w'.cell? ⟨mb,0,none⟩=some (.slice ac p.E.cz.length cc)/\w'.cell? ⟨mb,1,none⟩=some (.slice ah m.heap.length ch)/\w'.cell? ⟨mb,2,none⟩=some (.int .i64 p.ep)/\MkS w mb (.slice ac p.E.cz.length cc) (.slice ah m.heap.length ch) p.ep w')
   (first | with_reducible exact hS0.al | with_reducible exact hY.al | with_reducible exact hY2.al | exact (hY2.later (xaj _ _)).al | exact ((‹_/\_/\_/\MkS w mb (.slice ac p.E.cz.length cc) (.slice ah m.heap.length ch) p.ep _›).2.2.2.later (xaj _ _)).al | exact ((hY2.set (by omega) _ _).set (by omega) _ _).al)
   (first
    | (have _t:=tokA;go_at_call 113;refine (hslots _ (‹_/\_/\_/\MkS w mb (.slice ac p.E.cz.length cc) (.slice ah m.heap.length ch) p.ep _›).2.2.2.bel).mono ?_;rintro e w1 ⟨rfl,hb1⟩;have hY:=(‹_/\_/\_/\MkS w mb (.slice ac p.E.cz.length cc) (.slice ah m.heap.length ch) p.ep _›).2.2.2.later hb1;clear tokA;have tokB:True:=trivial;obtain⟨hc1,hf1⟩:=xhH hb1;have hz1:=hY.bel.size;try (have hl:=qzE (xmD w _) hb1.size))
    | (have _t:=tokB;go_at_call 112;refine (hnew _ (‹_/\_/\_/\MkS w mb (.slice ac p.E.cz.length cc) (.slice ah m.heap.length ch) p.ep _›).2.2.2.bel).mono ?_;rintro e w2 ⟨hb2,hp1,-⟩;obtain rfl:=hp1 HC.out;clear hp1;have hY2:=(‹_/\_/\_/\MkS w mb (.slice ac p.E.cz.length cc) (.slice ah m.heap.length ch) p.ep _›).2.2.2.later hb2;have hsz0:=(‹_/\_/\_/\MkS w mb (.slice ac p.E.cz.length cc) (.slice ah m.heap.length ch) p.ep _›).2.2.2.bel.size;clear tokB;obtain⟨hc2,hf2⟩:=xhH hb2;have hz2:=hb2.size;have hz3:=hb1.size))
  all_goals (
   have HBF:=hid (‹_/\_/\_/\MkS w mb (.slice ac p.E.cz.length cc) (.slice ah m.heap.length ch) p.ep _›).2.2.2.bel;clear hY hY2;go_wp2
   go_ret
   exact⟨rfl,⟨T,.refl _ _,⟨_,_,_,HM.out.later HBF.out⟩,fun h=>absurd h (by simp)⟩,Kp.of_below HBF.out⟩)
 ·rw[if_neg hc] at HE;rw[HE.out];have HC:=hid hc;clear hc;go_enter Tryz.func106,Tryz.ntmps106;go_wp2;have tokA:True:=trivial
  go_region_held3 (fun w'=>w'.cell? ⟨mb,0,none⟩=some (.slice ac p.E.cz.length cc)/\w'.cell? ⟨mb,1,none⟩=some (.slice ah m.heap.length ch)/\w'.cell? ⟨mb,2,none⟩=some (.int .i64 p.ep)/\MkS w mb (.slice ac p.E.cz.length cc) (.slice ah m.heap.length ch) p.ep w')
   (first | with_reducible exact hS0.al | with_reducible exact hY.al | with_reducible exact hY2.al | exact (hY2.later (xaj _ _)).al | exact ((‹_/\_/\_/\MkS w mb (.slice ac p.E.cz.length cc) (.slice ah m.heap.length ch) p.ep _›).2.2.2.later (xaj _ _)).al | exact ((hY2.set (by omega) _ _).set (by omega) _ _).al)
   (first
    | (have _t:=tokA;go_at_call 113;refine (hslots _ (‹_/\_/\_/\MkS w mb (.slice ac p.E.cz.length cc) (.slice ah m.heap.length ch) p.ep _›).2.2.2.bel).mono ?_;rintro e w1 ⟨rfl,hb1⟩;have hY:=(‹_/\_/\_/\MkS w mb (.slice ac p.E.cz.length cc) (.slice ah m.heap.length ch) p.ep _›).2.2.2.later hb1;clear tokA;have tokB:True:=trivial;obtain⟨hc1,hf1⟩:=xhH hb1;have hz1:=hY.bel.size;try (have hl:=qzE (xmD w _) hb1.size))
    | (have _t:=tokB;go_at_call 112;refine (hnew _ (‹_/\_/\_/\MkS w mb (.slice ac p.E.cz.length cc) (.slice ah m.heap.length ch) p.ep _›).2.2.2.bel).mono ?_;rintro e w2 ⟨hb2,-,hp2⟩;obtain⟨g2,s2,cap2,rfl,hheap⟩:=hp2 HC.out;have hsum:=xph T w hheap;clear hp2 hheap;have hY2:=(‹_/\_/\_/\MkS w mb (.slice ac p.E.cz.length cc) (.slice ah m.heap.length ch) p.ep _›).2.2.2.later hb2;have hsz0:=(‹_/\_/\_/\MkS w mb (.slice ac p.E.cz.length cc) (.slice ah m.heap.length ch) p.ep _›).2.2.2.bel.size;clear tokB;obtain⟨hc2,hf2⟩:=xhH hb2;have hz2:=hb2.size;have hz3:=hb1.size))
  all_goals (
   have HW2:=hid hY2.bel;have hx2:=xac HM.out.box HW2.out;have hm1:w2.cell? ⟨mb,1,none⟩=some (.slice ah m.heap.length ch):=by rw[qzB hx2];rfl
   have hmf:=xam hx2;have HX2:=hid hx2;have hlm2:mb<w2.heap.size:=xaf hx2;have hn1:¬ mb=w2.heap.size:=by omega
   have hn2:¬ mb=w1.heap.size:=by omega
   have hn3:¬ mb=w.heap.size:=by omega
   have hn4:¬ w2.heap.size=mb:=by omega
   have hn5:¬ w1.heap.size=mb:=by omega
   have hn6:¬ w.heap.size=mb:=by omega
   clear hY hY2 hx2;go_wp2_with fail;obtain⟨T2,hE,hH2,hT4⟩:=hsum.out;have hE2:=hE (by first | omega | (simp;omega))
   have hmt:T2 mb=1:=by rw[hE2 mb hlm];exact HM.out.tag
   have h4:∀ b,w.heap.size<=b->b<=w1.heap.size->T2 b=4:=fun b h1 h2=>hT4 b h1 (by first | omega | (simp;omega))
   refine (xjp (v:=⟨4,m.heap.length⟩) HM.out HF.out hE2 hH2
    (by first | exact xac (xiq HX2.out _ _) (xaj _ _) | exact xiq (by rw[xab hn2,xab hn2];exact HX2.out) _ _ | exact xiq (by rw[xab hn3,xab hn3];exact HX2.out) _ _)
    (by first | exact ((Kp.refl _ _ _).set (fun _=>Or.inl hmt) _ _).on (xaj _ _) | exact (((Kp.refl _ _ _).set (fun _=>Or.inr (h4 _ (by omega) (by omega))) _ _).set (fun _=>Or.inr (h4 _ (by omega) (by omega))) _ _).set (fun _=>Or.inl hmt) _ _)
    (by first | exact ((Kp.of_below HW2.out).set (fun _=>HM.out.tag) _ _).on (xaj _ _) | exact (((Kp.of_below HW2.out).set (fun h=>absurd h (by omega)) _ _).set (fun h=>absurd h (by omega)) _ _).set (fun _=>HM.out.tag) _ _)
    hroom).mono ?_
   rintro e w4 ⟨rfl,q1,q2⟩;have Q1:=hid q1;have Q2:=hid q2;clear q1 q2 hc1 hf1 hc2 hf2;go_wp2
   go_ret
   obtain⟨T',a1,a2,a3⟩:=Q1.out
   exact⟨rfl,⟨T',a1,a2,fun _=>a3 (by trivial)⟩,Q2.out⟩)
end
theorem xlG (s:ByteArray)(w:World)(hs:s.size<=140737488351232):Calls Tryz.prog 54 #[.string s] w fun e w'=>e=.returned (.bool (xbf s))/\Below w.heap.size w w':=by
 by_cases h0:s.size<1
 ·have h0':(s.size:Int)<1:=by omega
  have hn:xbf s=false:=by simp[xbf];omega
  rw[hn];go_enter Tryz.func54,Tryz.ntmps54;go_wp2
  go_ret
  exact⟨rfl,qzL _ _⟩
 ·have h0':(1:Int)<=(s.size:Int):=by omega
  by_cases h1:12<s.size
  ·have h1':(12:Int)<(s.size:Int):=by omega
   have hn:xbf s=false:=by simp[xbf];omega
   rw[hn];go_enter Tryz.func54,Tryz.ntmps54;go_wp2
   go_ret
   exact⟨rfl,qzL _ _⟩
  ·have h1':(s.size:Int)<=12:=by omega
   have HN:Hid (xbf s=okB s):=by show _=_;unfold xbf;rw[decide_eq_true (by omega)];rfl
   go_enter Tryz.func54,Tryz.ntmps54;go_wp2
   go_loopg [14] s.size (fun g c wr=>∃ j:Nat,j+g=s.size/\c=.int .i64 j/\wr=w/\∀ i (hi:i<s.size),i<j->33<=s[i].toNat/\s[i].toNat<=126)
   case atStart=>exact⟨0,by omega,rfl,rfl,fun i _ hi=>by omega⟩
   case round=>
    obtain⟨j,hj,rfl,rfl,hok⟩:=hrel;have HO:Hid (∀ i (hi:i<s.size),i<j->33<=s[i].toNat/\s[i].toNat<=126):=hok;clear hok
    by_cases hlt:j<s.size
    ·have hj0:(0:Int)<=(j:Int):=by omega
     have hj1:(j:Int)<(s.size:Int):=by omega
     by_cases c1:s[j].toNat<=32
     ·have hn:Hid (okB s=false):=xfK hlt (by omega)
      have c1':((s[j].toNat:Nat):Int)<=32:=by omega
      go_wp2
      go_ret
      exact⟨xb7 (by rw[HN.out,hn.out]),qzL _ _⟩
     ·have c1':(32:Int)<((s[j].toNat:Nat):Int):=by omega
      by_cases c2:126<s[j].toNat
      ·have hn:Hid (okB s=false):=xfK hlt (by omega)
       have c2':(126:Int)<((s[j].toNat:Nat):Int):=by omega
       go_wp2
       go_ret
       exact⟨xb7 (by rw[HN.out,hn.out]),qzL _ _⟩
      ·have c2':((s[j].toNat:Nat):Int)<=126:=by omega
       have HT:Hid (33<=s[j].toNat/\s[j].toNat<=126):=by constructor<;>omega
       clear c1 c2;go_wp2
       go_roundg (gk-1)
       case measure=>omega
       case rel=>
        refine⟨j+1,by omega,by go_num,rfl,fun i hi hij=>?_⟩
        by_cases he:i=j
        ·subst he;exact HT.out
        ·exact HO.out i hi (by omega)
    ·go_wp2
     go_ret
     exact⟨xb7 (by rw[HN.out,xib fun i hi=>HO.out i hi (by omega)]),qzL _ _⟩
theorem xdk {α:Type}{E:Lay α}{sz bytes:Nat}{P:Nat->Prop}{w:World}{v:Value}{xs:List α}(h:IsRow E sz bytes P w v xs)(hE:∀ f x,E P w f x->E (fun b=>b<w.heap.size) w f x/\∃ u,f 0=some u):IsRow E sz bytes (fun b=>b<w.heap.size) w v xs:=by
 obtain⟨ad,cap,h1,h2,h3,h4,h5⟩:=h;refine⟨ad,cap,h1,h2,h3,h4,fun i x hx=>?_⟩
 obtain⟨b,o,e1,e2,e3⟩:=h5 i x hx;obtain⟨k1,u,k2⟩:=hE _ _ e3
 exact⟨b,o,e1,World.block_lt_of_cell? w _ k2,k1⟩
theorem xjc {P:Nat->Prop}{w:World}{v:Value}{xs:List QI}(h:xa5 P w v xs):xa5 (fun b=>b<w.heap.size) w v xs:=xdk h fun f x hx=>⟨hx,_,hx.1⟩
theorem xer {P:Nat->Prop}{w:World}{v:Value}{xs:List QV}(h:xaB P w v xs):xaB (fun b=>b<w.heap.size) w v xs:=xdk h fun f x hx=>⟨hx,_,hx.1⟩
theorem xhT {P:Nat->Prop}{w:World}{v:Value}{xs:List QM}(h:xbd P w v xs):xbd (fun b=>b<w.heap.size) w v xs:=xdk h fun f x hx=>by
 obtain⟨h0,h1,h2,h3,h4,c,h5,h6⟩:=hx
 exact⟨⟨h0,h1,h2,h3,h4,c,h5,xjc h6⟩,_,h0⟩
theorem xbF {P:Nat->Prop}{w:World}{v:Value}{xs:List QC}(h:xai P w v xs):xai (fun b=>b<w.heap.size) w v xs:=xdk h fun f x hx=>by
 obtain⟨h0,h1,h2,h3,c,h5,h6⟩:=hx
 exact⟨⟨h0,h1,h2,h3,c,h5,xhT h6⟩,_,h0⟩
theorem xcq {P:Nat->Prop}{w:World}{v:Value}{xs:List QO}(h:xaC P w v xs):xaC (fun b=>b<w.heap.size) w v xs:=xdk h fun f x hx=>by
 obtain⟨h0,c,h5,h6⟩:=hx
 exact⟨⟨h0,c,h5,xer h6⟩,_,h0⟩
abbrev ClV (s:QV)(name:ByteArray)(av:Value):Value:=.agg #[.int .i64 s.k,.int .i64 s.n,.string name,av]
theorem xc2 {α:Type}{f:Nat->α->Int}:∀ {l:List α} {k:Nat},(∀ i y,l[i]?=some y->f (k+i) y=0)->xbe f k l=0
 | [],_,_=>rfl
 | x :: r,k,h=>by
  unfold xbe;rw[if_neg (by have:=h 0 x rfl;simpa using this)]
  exact xc2 fun i y hy=>by have:=h (i+1) y (by simpa using hy);rw[show k+1+i=k+(i+1) by omega];exact this
structure WcR (w:World)(cv hv:Value)(ep:Int)(s:QV)(name:ByteArray)(av:Value)(w':World):Prop where
 bel:Below w.heap.size w w'
 w0:w'.cell? ⟨w.heap.size,0,none⟩=some cv
 w1:w'.cell? ⟨w.heap.size,1,none⟩=some hv
 w2:w'.cell? ⟨w.heap.size,2,none⟩=some (.int .i64 ep)
 c0:w'.cell? ⟨w.heap.size+1,0,none⟩=some (.int .i64 s.k)
 c1:w'.cell? ⟨w.heap.size+1,1,none⟩=some (.int .i64 s.n)
 c2:w'.cell? ⟨w.heap.size+1,2,none⟩=some (.string name)
 c3:w'.cell? ⟨w.heap.size+1,3,none⟩=some av
theorem WcR.later {w:World}{cv hv:Value}{ep:Int}{s:QV}{name:ByteArray}{av:Value}{w' w'':World}(h:WcR w cv hv ep s name av w')(hb:Below w'.heap.size w' w''):WcR w cv hv ep s name av w'':=
 ⟨xah h.bel hb,qzA hb h.w0,qzA hb h.w1,qzA hb h.w2,qzA hb h.c0,qzA hb h.c1,qzA hb h.c2,qzA hb h.c3⟩
theorem xgc (w:World)(cv hv:Value)(ep:Int)(s:QV)(name:ByteArray)(av:Value):WcR w cv hv ep s name av ((w.alloc (.cells #[cv,hv,.int .i64 ep] 25)).alloc (.cells #[.int .i64 s.k,.int .i64 s.n,.string name,av] 30)):=
 ⟨xca _ _ _,qzA (xaj _ _) (xaa _ _ _ _ rfl 0),qzA (xaj _ _) (xaa _ _ _ _ rfl 1),qzA (xaj _ _) (xaa _ _ _ _ rfl 2),xaa _ _ _ _ (by simp) 0,xaa _ _ _ _ (by simp) 1,xaa _ _ _ _ (by simp) 2,xaa _ _ _ _ (by simp) 3⟩
theorem xkq {P Q:Nat->Prop}(X:QW)(s:QV)(name:ByteArray)(args:List QV)(fuel:Int)(cv hv av:Value)(w:World)(hcv:∃ a n c,cv=.slice a n c)(hH:xaC P w hv X.heap)(hA:xaB Q w av args)(hn:name.size<=140737488351232):Calls Tryz.prog 41 #[WV cv hv X.ez,ClV s name av,.int .i64 fuel] w fun e w'=>e=.returned (.int .i64 (xap X s name args fuel))/\Below w.heap.size w w':=by
 have hR:=xgc w cv hv X.ez s name av;obtain⟨ah,ch,rfl,-⟩:=id hH;obtain⟨aa,ca,rfl,hal,hac,-,hrow⟩:=id hA;obtain⟨ac,nc,cc,rfl⟩:=hcv;unfold maxLen at hac;go_enter Tryz.func41,Tryz.ntmps41
 go_upto_region 1 with (fail)
 generalize ((w.alloc (.cells #[.slice ac nc cc,.slice ah X.heap.length ch,.int .i64 X.ez] 25)).alloc (.cells #[.int .i64 s.k,.int .i64 s.n,.string name,.slice aa args.length ca] 30))=W at *;obtain⟨-,w0,w1,w2,c0,c1,c2,c3⟩:=id hR;go_wp2_with fail;refine (xlG name _ hn).mono ?_;rintro e w1' ⟨rfl,hb1⟩;have hR1:=hR.later hb1;clear w0 w1 w2 c0 c1 c2 c3 hR hb1;obtain⟨-,w0,w1,w2,c0,c1,c2,c3⟩:=id hR1
 cases hnb:xbf name with
 | false=>
  have HE:Hid (xap X s name args fuel=7):=by show _=_;unfold xap;rw[if_pos hnb]
  go_wp2
  go_ret
  exact⟨xak HE.out.symm,hR1.bel⟩
 | true=>
  by_cases h4:4<args.length
  ·have HE:Hid (xap X s name args fuel=5):=by show _=_;unfold xap;rw[if_neg (by rw[hnb];simp),if_pos h4]
   have h4':(4:Int)<(args.length:Int):=by omega
   go_wp2
   go_ret
   exact⟨xak HE.out.symm,hR1.bel⟩
  have h4':¬ ((4:Int)<(args.length:Int)):=by omega
  by_cases hf:fuel<0
  ·have HE:Hid (xap X s name args fuel=3):=by show _=_;unfold xap;rw[if_neg (by rw[hnb];simp),if_neg h4,if_pos (Or.inl hf)]
   have hf':decide (fuel<0)=true:=by simpa using hf
   go_wp2
   go_ret
   exact⟨xak HE.out.symm,hR1.bel⟩
  have hf':decide (fuel<0)=false:=by simpa using hf
  by_cases hg:400<fuel
  ·have HE:Hid (xap X s name args fuel=3):=by show _=_;unfold xap;rw[if_neg (by rw[hnb];simp),if_neg h4,if_pos (Or.inr hg)]
   have hg':decide (400<fuel)=true:=by simpa using hg
   go_wp2
   go_ret
   exact⟨xak HE.out.symm,hR1.bel⟩
  have hg':decide (400<fuel)=false:=by simpa using hg
  have HE:Hid (xap X s name args fuel=if xas X.heap.length s≠0 then xas X.heap.length s else xbe (fun _ v=>xas X.heap.length v) 0 args):=by show _=_;unfold xap;rw[if_neg (by rw[hnb];simp),if_neg h4,if_neg (by omega)]
  clear hnb hf hg;have hvw:=fun w=>xfL s (X.heap.length:Int) w
  generalize xas X.heap.length s=ws at *;go_wp2_with fail;refine (hvw _).mono ?_;rintro e w2' ⟨rfl,hb2⟩;have hR2:=hR1.later hb2;clear w0 w1 w2 c0 c1 c2 c3 hR1 hb2 hvw;obtain⟨-,w0,w1,w2,c0,c1,c2,c3⟩:=id hR2
  by_cases hws:ws=0
  ·have hws':(ws != 0)=false:=by simpa using hws
   rw[if_neg (by simpa using hws)] at HE
   clear hws;go_wp2;clear w0 w1 w2 c0 c1 c2 c3
   go_loopg [40] args.length (fun gk c wr=>∃ j:Nat,j+gk=args.length/\c=.int .i64 j/\WcR w (.slice ac nc cc) (.slice ah X.heap.length ch) X.ez s name (.slice aa args.length ca) wr/\∀ i y,i<j->args[i]?=some y->xas X.heap.length y=0)
   case atStart=>exact⟨0,by omega,rfl,hR2,fun i y hi=>by omega⟩
   case round=>
    clear hR2;obtain⟨j,hj,rfl,hRr,hok⟩:=hrel;have HO:=hid hok;clear hok;obtain⟨-,w0,w1,w2,c0,c1,c2,c3⟩:=id hRr
    by_cases hlt:j<args.length
    ·have hx:args[j]?=some args[j]:=by simp[hlt]
     have HX:=hid hx;generalize args[j]=y at *;obtain⟨b,o,rfl,-,v0,v1⟩:=hrow j y hx;simp only[Nat.add_zero] at v0;have u0:=qzA hRr.bel v0;have u1:=qzA hRr.bel v1;clear v0 v1 hrow hx;have hj1:(j:Int)<(args.length:Int):=by omega
     have hj0:(0:Int)<=(j:Int):=by omega
     have hvw:=fun w=>xfL y (X.heap.length:Int) w
     obtain⟨wy,hwy⟩:∃ wy,wy=xas X.heap.length y:=⟨_,rfl⟩;rw[← hwy] at hvw;have HWY:=hid hwy;clear hwy;have hRa:=hRr.later (xaj wr (.cells #[.int .i64 y.k,.int .i64 y.n] 27));have y0:(wr.alloc (.cells #[.int .i64 y.k,.int .i64 y.n] 27)).cell? ⟨wr.heap.size,0,none⟩=some (.int .i64 y.k):=xaa _ _ _ _ rfl 0;have y1:(wr.alloc (.cells #[.int .i64 y.k,.int .i64 y.n] 27)).cell? ⟨wr.heap.size,1,none⟩=some (.int .i64 y.n):=xaa _ _ _ _ rfl 1
     go_upto_region 13 with (fail)
     clear w0 w1 w2 c0 c1 c2 c3 u0 u1 hRr;generalize (wr.alloc (.cells #[.int .i64 y.k,.int .i64 y.n] 27))=V at *;obtain⟨-,w0,w1,w2,c0,c1,c2,c3⟩:=id hRa;go_wp2_with fail;refine (hvw _).mono ?_;rintro e w5 ⟨rfl,hb5⟩;have hR5:=hRa.later hb5;clear w0 w1 w2 c0 c1 c2 c3 hRa hb5 hvw y0 y1
     by_cases hz:wy=0
     ·have hz':(wy != 0)=false:=by simpa using hz
      go_wp2
      go_roundg (gk-1)
      case measure=>omega
      case rel=>
       refine⟨j+1,by omega,by go_num,hR5,fun i y' hi hy=>?_⟩
       by_cases hij:i=j
       ·subst hij;rw[HX.out] at hy;cases hy;rw[← HWY.out];exact hz
       ·exact HO.out i y' (by omega) hy
     ·have hz':(wy != 0)=true:=by simpa using hz
      go_wp2
      go_ret
      refine⟨xak ?_,hR5.bel⟩;have:=xc4 (f:=fun _ v=>xas X.heap.length v) (k:=0) HX.out (by rw[← HWY.out];exact hz) (fun i y' hi hy=>HO.out i y' hi hy)
      rw[HE.out,this,HWY.out]
    ·obtain rfl:j=args.length:=by omega
     go_wp2
     go_ret
     refine⟨xak ?_,hRr.bel⟩;rw[HE.out,xc2 fun i y hy=>HO.out i y (xae hy) hy]
  ·have hws':(ws != 0)=true:=by simpa using hws
   rw[if_pos hws] at HE;go_wp2
   go_ret
   exact⟨xak HE.out.symm,hR2.bel⟩
end Go.Proofs.YtapbeiccodnniaaGreat
