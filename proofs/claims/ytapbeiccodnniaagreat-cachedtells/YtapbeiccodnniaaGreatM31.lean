/- A part. -/
import Derived.Test.YtapbeiccodnniaaGreatM30
namespace Go.Proofs.YtapbeiccodnniaaGreat
open Go.ChangeShapes Go.WideShapes Go.ChangeAt Go.RowKit
set_option linter.unusedSimpArgs false
set_option linter.unusedVariables false
set_option maxHeartbeats 8000000
section
variable {P:Program} {md:Region.Mode} {ops:Array Oper} {Q:Exit->Act->World->Prop} {S:World->Prop}
def xbV (P:Program)(md:Region.Mode)(ops:Array Oper)(Q:Exit->Act->World->Prop)(S:World->Prop)(late:List Nat):Nat->Array Bool->Act->World->Prop
 | 0,listed,a,w=>Region.ready md ops listed=[]/\Q .normal a w
 | fuel+1,listed,a,w=>
  (Region.ready md ops listed=[]->Q .normal a w)/\
  ∀ i∈Region.ready md ops listed,wpOp P ops Q i (fun a' w'=>(late.contains i=false->S w')/\xbV P md ops Q S late fuel (listed.setIfInBounds i true) a' w') a w
theorem xdX {late:List Nat}:∀ (fuel:Nat) (listed:Array Bool) (a:Act) (w:World),xbV P md ops Q S late fuel listed a w->wpAny P md ops Q fuel listed a w
 | 0,_,_,_,h=>h
 | fuel+1,_,_,_,h=>⟨h.1,fun i hi=>wpOp_mono (fun a' w' h'=>xdX fuel _ a' w' h'.2) (h.2 i hi)⟩
def xon (md:Region.Mode)(ops:Array Oper)(i:Nat):Nat->Nat->Bool
 | 0,_=>false
 | n+1,k=>match ops[k]? with
  | none=>false
  | some o=>o.after.any fun e=>Region.binds md e && (e.on == i || xon md ops i n e.on)
def xoj (md:Region.Mode)(ops:Array Oper)(listed:Array Bool):Prop:=∀ k o,ops[k]?=some o->listed.getD k true=true->∀ e∈o.after,Region.binds md e=true->listed.getD e.on true=true
def xnD (md:Region.Mode)(ops:Array Oper)(listed:Array Bool):Bool:=
 (List.range ops.size).all fun k=>match ops[k]? with
  | none=>true
  | some o=>!(listed.getD k true) || o.after.all fun e=>!(Region.binds md e) || listed.getD e.on true
theorem xjG {listed:Array Bool}(h:xnD md ops listed=true):xoj md ops listed:=by
 intro k o hk hl e he hb;unfold xnD at h;rw[List.all_eq_true] at h;have:=h k (List.mem_range.2 (Array.getElem?_eq_some_iff.1 hk).1);rw[hk] at this;simp only[hl,Bool.not_true,Bool.false_or,Array.all_eq_true'] at this;have h1:=this e he
 simpa [hb] using h1
theorem xea {l:Array Bool}{i k:Nat}(h:l.getD k true=true):(l.setIfInBounds i true).getD k true=true:=by
 by_cases hik:i=k
 ·subst hik
  rcases Nat.lt_or_ge i l.size with h' | h'
  ·simp[h']
  ·simp[h']
 ·rw[getD_set_ne true hik];exact h
theorem xjM {listed:Array Bool}{i:Nat}(hd:xoj md ops listed)(hi:i∈Region.ready md ops listed):xoj md ops (listed.setIfInBounds i true):=by
 intro k o hk hl e he hb;obtain⟨hiun,oi,hoi,hall⟩:=mem_ready.1 hi
 by_cases hki:i=k
 ·subst hki;rw[hoi] at hk
  cases hk
  have h1:=hall e he hb;refine xea ?_
  rcases Nat.lt_or_ge e.on listed.size with h' | h'
  ·simp[h'] at h1 ⊢;exact h1
  ·simp[Array.getElem?_eq_none h']
 ·rw[getD_set_ne true hki] at hl
  exact xea (hd k o hk hl e he hb)
theorem xfF {listed:Array Bool}{i:Nat}(hd:xoj md ops listed):∀ (n k:Nat),xon md ops i n k=true->listed.getD k true=true->listed.getD i true=true
 | 0,k,h,_=>by cases h
 | n+1,k,h,hl=>by
  unfold xon at h
  split at h
  ·cases h
  ·rename_i o ho;rw[Array.any_eq_true'] at h;obtain⟨e,he,h⟩:=h;simp only[Bool.and_eq_true,Bool.or_eq_true,beq_iff_eq] at h;obtain⟨hb,h⟩:=h;have hl':=hd k o ho hl e he hb
   rcases h with h | h
   ·rw[← h];exact hl'
   ·exact xfF hd n e.on h hl'
theorem xj7 {listed:Array Bool}{i l:Nat}(hd:xoj md ops listed){n:Nat}(h:xon md ops i n l=true)(hl:l∈Region.ready md ops listed):listed.getD i true=true:=by
 cases n with
 | zero=>cases h
 | succ n=>
  obtain⟨hlun,o,ho,hall⟩:=mem_ready.1 hl;unfold xon at h;rw[ho] at h;simp only[] at h;rw[Array.any_eq_true'] at h;obtain⟨e,he,h⟩:=h;simp only[Bool.and_eq_true,Bool.or_eq_true,beq_iff_eq] at h;obtain⟨hb,h⟩:=h;have h1:=hall e he hb
  have hl':listed.getD e.on true=true:=by
   rcases Nat.lt_or_ge e.on listed.size with h' | h'
   ·simp[h'] at h1 ⊢;exact h1
   ·simp[Array.getElem?_eq_none h']
  rcases h with h | h
  ·rw[← h];exact hl'
  ·exact xfF hd n e.on h hl'
def xmu (md:Region.Mode)(ops:Array Oper)(late:List Nat)(i:Nat):Bool:=late.all fun l=>xon md ops i ops.size l
theorem xh8 {late:List Nat}{listed:Array Bool}{i j:Nat}(h:xmu md ops late i=true)(hd:xoj md ops listed)(hi:i∈Region.ready md ops listed)(hj:j∈Region.ready md ops listed):late.contains j=false:=by
 by_cases hc:late.contains j=true
 ·exfalso;unfold xmu at h;rw[List.all_eq_true] at h;have h1:=xj7 hd (h j (by simpa using hc)) hj
  have h0:=(mem_ready.1 hi).1
  rcases Nat.lt_or_ge i listed.size with h' | h'
  ·simp[h'] at h0 h1;rw[h0] at h1;cases h1
  ·simp[Array.getElem?_eq_none h'] at h0
 ·simpa using hc
theorem xhg {late:List Nat}{i:Nat}{oi:Oper}{v:Value}(hlate:xmu md ops late i=true)(hi:ops[i]?=some oi)(hsel:∀ (j:Nat) (o:Oper) cs b,ops[j]?=some o->o.op≠.select cs b)
  (hQ:∀ c a w,Q (.panic c) (a.put oi.dst v) w->Q (.panic c) a w) :
  ∀ (fuel:Nat) (listed:Array Bool) (a:Act) (w:World),xoj md ops listed->
   (∀ j oj,ops[j]?=some oj->j≠i->listed.getD j true=false->(∀ e∈oj.after,Region.binds md e=true->e.on≠i)->oi.apart ops oj=true)->
   i∈Region.ready md ops listed->YieldsIf P ops S oi v a->S w->
   xbV P md ops Q S late fuel (listed.setIfInBounds i true) (a.put oi.dst v) w->xbV P md ops Q S late (fuel+1) listed a w:=by
 intro fuel
 induction fuel with
 | zero=>
  intro listed a w _ _ hr hy hS H;refine⟨fun h=>(by rw[h] at hr;cases hr),fun j hj=>?_⟩
  by_cases hji:j=i
  ·subst hji;exact hy.wpOp hi hS ⟨fun _=>hS,H⟩
  ·have:=ready_mono hj hji;rw[H.1] at this
   cases this
 | succ fuel ih=>
  intro listed a w hd hfree hr hy hS H;refine⟨fun h=>(by rw[h] at hr;cases hr),fun j hj=>?_⟩
  by_cases hji:j=i
  ·subst hji;exact hy.wpOp hi hS ⟨fun _=>hS,H⟩
  ·have hjL:late.contains j=false:=xh8 hlate hd hr hj;have h1:=H.2 j (ready_mono hj hji);obtain⟨hjun,oj,hoj,hall⟩:=mem_ready.1 hj
   have hnot:∀ e∈oj.after,Region.binds md e=true->e.on≠i:=fun e he hb heq=>by
    have h1:=hall e he hb;have h0:=(mem_ready.1 hr).1;rw[heq] at h1
    rcases Nat.lt_or_ge i listed.size with h' | h'
    ·simp[h'] at h0 h1;rw[h0] at h1;cases h1
    ·simp[Array.getElem?_eq_none h'] at h1
   have h2:=wpOp_putIf hoj (hfree j oj hoj hji hjun hnot) (fun cs b=>hsel i oi cs b hi) (fun cs b=>hsel j oj cs b hoj) hQ hy h1
   have hfree':∀ k ok,ops[k]?=some ok->k≠i->(listed.setIfInBounds j true).getD k true=false->
     (∀ e∈ok.after,Region.binds md e=true->e.on≠i)->oi.apart ops ok=true:=fun k ok hk hki hun hno=>by
    refine hfree k ok hk hki ?_ hno
    by_cases hjk:j=k
    ·subst hjk;exact hjun
    ·rw[getD_set_ne true hjk] at hun;exact hun
   refine wpOp_mono (fun a' w' h3=>⟨fun _=>h3.2.1 hjL,ih (listed.setIfInBounds j true) a' w' (xjM hd hj) hfree' (ready_mono hr (Ne.symm hji)) h3.1 (h3.2.1 hjL) ?_⟩) h2
   rw[Array.setIfInBounds_comm _ _ hji]
   exact h3.2.2
theorem xm6 {late:List Nat}{i:Nat}{oi:Oper}{v:Value}{fuel:Nat}{listed:Array Bool}{a:Act}{w:World}(hlate:xmu md ops late i=true)(hd:xnD md ops listed=true)(hi:ops[i]?=some oi)
  (hs:Region.noSelect ops=true) (hf:Region.free md ops listed i=true) (hr:(Region.ready md ops listed).contains i=true)
  (hQ:∀ c a w,Q (.panic c) (a.put oi.dst v) w->Q (.panic c) a w) (hy:YieldsIf P ops S oi v a) (hS:S w)
  (h:xbV P md ops Q S late fuel (listed.setIfInBounds i true) (a.put oi.dst v) w):xbV P md ops Q S late (fuel+1) listed a w:=
 xhg hlate hi (Region.noSelect_spec hs) hQ fuel listed a w (xjG hd) (Region.free_spec hi hf) (by simpa using hr) hy hS h
theorem xa0 {late:List Nat}{listed:Array Bool}{a:Act}{w:World}(hr:Region.ready md ops listed=[])(h:Q .normal a w):∀ fuel,xbV P md ops Q S late fuel listed a w
 | 0=>⟨hr,h⟩
 | _+1=>⟨fun _=>h,by rw[hr];simp⟩
theorem xag {late:List Nat}{rs:List Nat}{fuel:Nat}{listed:Array Bool}{a:Act}{w:World}(hr:Region.ready md ops listed=rs)(hne:rs≠[])
  (h:∀ i∈rs,wpOp P ops Q i (fun a' w'=>(late.contains i=false->S w')/\xbV P md ops Q S late fuel (listed.setIfInBounds i true) a' w') a w):xbV P md ops Q S late (fuel+1) listed a w:=
 ⟨fun h0=>absurd (hr ▸ h0) hne,hr ▸ h⟩
theorem xa6 {late:List Nat}{i:Nat}{fuel:Nat}{listed:Array Bool}{a:Act}{w:World}{o:Oper}(ho:ops[i]?=some o)
  (h:∀ K':Act->World->Prop,(∀ a w,(late.contains i=false->S w)->xbV P md ops Q S late fuel (listed.setIfInBounds i true) a w->K' a w)->if Region.wanted o (yielded ops a.tmps)=true then Oper.wp P o a w K' Q else K' (a.put o.dst undef) w) :
  wpOp P ops Q i (fun a' w'=>(late.contains i=false->S w')/\xbV P md ops Q S late fuel (listed.setIfInBounds i true) a' w') a w:=
 wpOp_step ho (fun K' hK=>h K' (fun a w hS hW=>hK a w ⟨hS,hW⟩))
theorem xfl {S':World->Prop}{late late':List Nat}:∀ (fuel:Nat) (listed:Array Bool) (a:Act) (w:World),(∀ i,i∈Region.ready md ops listed->late.contains i=true)->(∀ i,late.contains i=false->listed.getD i true=true)->
  xbV P md ops Q S' late' fuel listed a w->xbV P md ops Q S late fuel listed a w
 | 0,_,_,_,_,_,h=>h
 | fuel+1,listed,a,w,h0,h1,h=>⟨h.1,fun i hi=>wpOp_mono (fun a' w' h'=>⟨fun hl=>(by rw[h0 i hi] at hl;cases hl),xfl fuel _ a' w' (fun j hj=>by
   by_cases hc:late.contains j=true
   ·exact hc
   ·exfalso;have:=h1 j (by simpa using hc)
    have h2:=(mem_ready.1 hj).1;have h3:=xea (i:=i) this
    rcases Nat.lt_or_ge j (listed.setIfInBounds i true).size with h' | h'
    ·simp only[Array.getD_eq_getD_getElem?,Array.getElem?_eq_getElem h',Option.getD_some] at h2 h3;rw[h2] at h3;cases h3
    ·rw[Array.getD_eq_getD_getElem?,Array.getElem?_eq_none h'] at h2;cases h2) (fun j hj=>xea (h1 j hj)) h'.2⟩) (h.2 i hi)⟩
def xoA (ops:Array Oper)(late:List Nat)(listed:Array Bool):Bool:=listed.size == ops.size && (List.range ops.size).all fun i=>late.contains i || listed.getD i true
theorem xcz {S':World->Prop}{late late':List Nat}{fuel:Nat}{listed:Array Bool}{a:Act}{w:World}(ho:xoA ops late listed=true)(h:xbV P md ops Q S' late' fuel listed a w):xbV P md ops Q S late fuel listed a w:=by
 unfold xoA at ho;simp only[Bool.and_eq_true,beq_iff_eq,List.all_eq_true,List.mem_range,Bool.or_eq_true] at ho
 have h1:∀ i,late.contains i=false->listed.getD i true=true:=fun i hi=>by
  rcases Nat.lt_or_ge i ops.size with h' | h'
  ·rcases ho.2 i h' with h'' | h''
   ·rw[hi] at h'';cases h''
   ·exact h''
  ·rw[Array.getD_eq_getD_getElem?,Array.getElem?_eq_none (by omega)];rfl
 refine xfl fuel listed a w (fun i hi=>?_) h1 h
 by_cases hc:late.contains i=true
 ·exact hc
 ·exfalso;have h2:=(mem_ready.1 hi).1;have h3:=h1 i (by simpa using hc)
  rcases Nat.lt_or_ge i listed.size with h' | h'
  ·simp only[Array.getD_eq_getD_getElem?,Array.getElem?_eq_getElem h',Option.getD_some] at h2 h3;rw[h2] at h3;cases h3
  ·rw[Array.getD_eq_getD_getElem?,Array.getElem?_eq_none h'] at h2;cases h2
theorem xaY {id:Nat}{a:Act}{w:World}(late:List Nat)(hm:P.follows .mixedOrders=true)
  (h:xbV P .any ops Q S late ops.size (Array.replicate ops.size false) a w.drew):(Code.region id ops true).wp P Q a w:=
 wp_region_any hm (xdX _ _ _ _ h)
end
section
variable {P:Program} {md:Region.Mode} {ops:Array Oper} {Q:Exit->Act->World->Prop} {S:World->Prop}
def okT (md:Region.Mode)(ops:Array Oper)(late:List Nat)(listed:Array Bool)(i:Nat):Bool:=xmu md ops late i && (xnD md ops listed && (Region.noSelect ops && (Region.free md ops listed i && (Region.ready md ops listed).contains i)))
theorem tk {late:List Nat}(i:Nat)(oi:Oper)(v:Value){fuel:Nat}{listed:Array Bool}{a:Act}{w:World}(hi:ops[i]?=some oi)(hS:S w)(hQ:∀ c a w,Q (.panic c) (a.put oi.dst v) w->Q (.panic c) a w)(hw:Region.wanted oi (yielded ops a.tmps)=true)
  (ho:okT md ops late listed i=true) (hy:∀ w,S w->(execOp a.eval oi).run P w=.ok (.value v) w) (h:xbV P md ops Q S late fuel (listed.setIfInBounds i true) (a.put oi.dst v) w):xbV P md ops Q S late (fuel+1) listed a w:=by
 unfold okT at ho;simp only[Bool.and_eq_true] at ho
 exact xm6 ho.1 ho.2.1 hi ho.2.2.1 ho.2.2.2.1 ho.2.2.2.2 hQ (Or.inl ⟨hw,hy⟩) hS h
theorem tj {late:List Nat}(i:Nat)(oi:Oper)(v:Value){fuel:Nat}{listed:Array Bool}{a:Act}{w:World}(hS:S w)(hy:∀ w,S w->(execOp a.eval oi).run P w=.ok (.value v) w)(h:xbV P md ops Q S late fuel (listed.setIfInBounds i true) (a.put oi.dst v) w)(hi:ops[i]?=some oi:=by rfl)(hQ:∀ c a w,Q (.panic c) (a.put oi.dst v) w->Q (.panic c) a w:=by exact fun _ _ _ h=>h)(hw:Region.wanted oi (yielded ops a.tmps)=true:=by rfl)(ho:okT md ops late listed i=true:=by kernel_rfl):xbV P md ops Q S late (fuel+1) listed a w:=tk i oi v hi hS hQ hw ho hy h
def AllR (p:Nat->Prop):List Nat->Prop
 | []=>True
 | i :: l=>p i/\AllR p l
theorem AllR.all {p:Nat->Prop}:∀ {l:List Nat},AllR p l->∀ i∈l,p i
 | [],_,i,h=>by simp at h
 | k :: l,h,i,hi=>by
  rcases List.mem_cons.1 hi with rfl | hi
  ·exact h.1
  ·exact AllR.all h.2 i hi
theorem rdy {late:List Nat}(rs:List Nat){fuel:Nat}{listed:Array Bool}{a:Act}{w:World}(hne:rs.isEmpty=false)(hr:Region.ready md ops listed=rs)
  (h:AllR (fun i=>wpOp P ops Q i (fun a' w'=>(late.contains i=false->S w')/\xbV P md ops Q S late fuel (listed.setIfInBounds i true) a' w') a w) rs):xbV P md ops Q S late (fuel+1) listed a w:=
 xag hr (by intro e;rw[e] at hne;cases hne) h.all
end
set_option maxRecDepth 8000
theorem xb3 {w:World}(T ty e:TypeId)(z:Value)(sz bytes:Nat)(hT:Tryz.prog.underlying T=some (.slice e))(hI:(Tryz.prog.info? e).map (fun i=>(i.zero,i.size,i.bytes))=some (some z,sz,bytes))(hzs:z.cells.size=sz)(hsz:0<sz)(hbz:0<bytes)
  (B:Nat) (hB:w.heap[B]?=some (.cells #[] e (0,0))) (ad:Option Addr) (n cap:Nat) (cs:List Value) (hlen:cs.length=n*sz) (hsrc:∀ j u,cs[j]?=some u->∃ b,ad=some b/\w.cell? (b.add j)=some u) (hn:n*bytes<=140737488351232) :
  ∃ g cap' w',(Builtin.append_ #[T,T] ty #[.slice (some ⟨B,0,none⟩) 0 0,.slice ad n cap]).run Tryz.prog w=.ok (.slice (some ⟨g,0,none⟩) n cap') w'/\w'.ownsRow B e sz (.slice (some ⟨g,0,none⟩) n cap') n cs/\(g=B\/w.heap.size<=g)/\g<w'.heap.size/\Below w.heap.size w w':=by
 obtain⟨i0,hi,hz0,hz1,hz2⟩:=xa3 hI;have hBl:=xaf hB
 by_cases h0:n=0
 ·subst h0;have hcs:cs=[]:=List.eq_nil_of_length_eq_zero (by simpa using hlen)
  refine⟨B,0,w,xbT (P:=Tryz.prog) w T ty e i0 hT hi B ad cap,?_,Or.inl rfl,hBl,qzL _ _⟩;rw[hcs]
  exact⟨by simp,.inr ⟨B,0,#[],rfl,qzC _,hB,qzC _,by unfold maxLen;omega,by simp,by simp⟩⟩
 ·obtain⟨b,rfl⟩:∃ b,ad=some b:=by
   have:0<cs.length:=by rw[hlen];exact Nat.mul_pos (by omega) hsz
   obtain⟨b,e,-⟩:=hsrc 0 cs[0] (by simp[this])
   exact⟨b,e⟩
  have hnb:n<=140737488351232:=qzD (Nat.le_mul_of_pos_right n hbz) hn;obtain⟨v',w',hrun,r1,r2⟩:=run_append_arg_grows (P:=Tryz.prog) w T ty e i0 _ sz bytes hT hi hz0 hz1 hz2 hzs hsz ⟨B,0,none⟩ 0 0 [] (by simp) (fun j u hu=>by simp at hu) b n cap cs hlen (fun j u hu=>by obtain⟨b',e,h⟩:=hsrc j u hu;cases e;exact h) (by omega) (by unfold maxLen;omega) (by rw[Nat.zero_add];omega)
  simp only[Nat.zero_add,List.nil_append] at r1;obtain⟨g,cap',rfl,hg,hgl⟩:=r1.form (by omega)
  refine⟨g,cap',w',hrun,?_,Or.inr hg,hgl,(qzL _ _).grown r2 (qzC _) (fun k hk=>by cases hk)⟩
  obtain⟨q1,q2⟩:=r1;refine⟨q1,?_⟩
  rcases q2 with q2 | ⟨g',c',cur,e,h1,h2⟩
  ·exact .inl q2
  ·exact .inr ⟨g',c',cur,e,by omega,h2⟩
theorem xkB {α:Type}{E:Lay α}{sz bytes:Nat}(G:Good E sz){t:TypeId}{Q:Nat->Prop}{B n:Nat}{v:Value}{w:World}{cs:List Value}{xs:List α}(hown:ownsAt w B t sz v n cs)(hc:Cells E sz Q w cs xs)(hn:xs.length=n)(hQ:∀ b,B<=b->b<w.heap.size->Q b)(hby:n*bytes<=140737488351232):IsRow E sz bytes Q w v xs:=by
 obtain⟨h0,⟨rfl,h1⟩ | ⟨g,o,cap,cur,rfl,h3,h4,h5,h6,h7,h8⟩⟩:=hown
 ·obtain rfl:=List.eq_nil_of_length_eq_zero (hn.trans h1)
  exact xbG
 ·subst hn;refine⟨_,_,rfl,h5,h6,hby,fun i x hx=>⟨g,o,rfl,hQ _ h3 (xaf h4),G.move (hc.2 i x hx) (fun _ h=>h) (.refl _ _) fun k hk v hv=>?_⟩⟩
  rw[← h8,List.getElem?_take] at hv
  split at hv
  ·rw[List.getElem?_drop] at hv;rw[qzB h4,Nat.add_assoc]
   simpa using hv
  ·cases hv
theorem tk0 (k:Nat):(List.replicate k xaU).length=k:=List.length_replicate
section
variable {p:Rp} {T:Nat->Nat} {U w4 w5:World} {mb:Nat} {m:Mc RSt} {deep err:Int} {hv sv ov:Value}
theorem xoa {v0 v':Value}{cs:List Value}{vb k:Nat}{c:Int}(h:RMac p T U mb m deep err hv sv ov)(hcs:Cells xlt 2 (Fx T U) U cs m.heap)(hb4:Below U.heap.size U w4)(hvb:U.heap.size<=vb)(hvw:w4.heap[vb]?=some (.cells (xal (List.replicate k xaU)).toArray 27 (0,0)))(hvg:some vb≠v0.ownBlock)
  (r1:ownsAt w5 U.heap.size 64 2 v' (m.heap.length+1) (cs++[.int .i64 c,.slice (some ⟨vb,0,none⟩) k k])) (r3:Below U.heap.size w4 w5) (r4:∀ b,b<w4.heap.size->some b≠v0.ownBlock->w5.heap[b]?=w4.heap[b]?) (hl:m.heap.length<=1000) (hk:k<=2147483647) :
  RMac p (xau T U 0) (w5.setCell ⟨mb,1,none⟩ v') mb { m with heap:=m.heap++[⟨c,List.replicate k xaU⟩] } deep err v' sv ov/\Kp (fun t=>t=1) T U (w5.setCell ⟨mb,1,none⟩ v'):=by
 have hlm:=xaf h.box;have hb5:Below U.heap.size U w5:=hb4.trans r3;have k1:Kp (fun t=>t=1) T U (w5.setCell ⟨mb,1,none⟩ v'):=(Kp.of_below hb5).set (fun _=>h.tag) _ _
 have hex:=xao T U 0;refine⟨?_,k1⟩;have hv5:w5.heap[vb]?=some (.cells (xal (List.replicate k xaU)).toArray 27 (0,0)):=by rw[r4 vb (xaf hvw) hvg];exact hvw
 have hbox:w5.heap[mb]?=some (RB p m deep err hv sv ov):=by rw[hb5.block _ hlm];exact h.box
 have hb':=xj1 hbox (m.heap++[⟨c,List.replicate k xaU⟩]) v';have hv6:(w5.setCell ⟨mb,1,none⟩ v').heap[vb]?=some (.cells (xal (List.replicate k xaU)).toArray 27 (0,0)):=by rw[xab (by omega)];exact hv5
 have hr1:ownsAt (w5.setCell ⟨mb,1,none⟩ v') U.heap.size 64 2 v' (m.heap.length+1) (cs++[.int .i64 c,.slice (some ⟨vb,0,none⟩) k k]):=r1.keep fun g hg=>xab (by have:=r1.lt g hg;omega) _
 generalize hU:w5.setCell ⟨mb,1,none⟩ v'=V at *;have hall:∀ b,U.heap.size<=b->b<V.heap.size->Fx (xau T U 0) V b:=fun b h1 h2=>⟨h2,xav h1⟩
 have hsz:U.heap.size<=V.heap.size:=k1.size;have hc0:Cells xlt 2 (Fx (xau T U 0) V) V cs m.heap:=hcs.keep xaD (Keeps.of_block fun b hb hl=>k1.blk b hl (by rw[hb.2];omega)) fun b hb=>⟨by omega,by rw[hex b hb.1];exact hb.2⟩
 have hv7:xaB (Fx (xau T U 0) V) V (.slice (some ⟨vb,0,none⟩) k k) (List.replicate k xaU):=by
  have:=xgp (P:=Fx (xau T U 0) V) hv6 (hall vb hvb (xaf hv6)) (by rw[tk0];omega)
  rw[tk0] at this
  exact this
 have hc1:Cells xlt 2 (Fx (xau T U 0) V) V [.int .i64 c,.slice (some ⟨vb,0,none⟩) k k] [⟨c,List.replicate k xaU⟩]:=Cells.one xaD rfl ⟨rfl,_,rfl,hv7⟩;have hs1:=h.sites.keep (w':=V) fun b hg=>k1.blk b (h.sites.lt b hg).2 (by rw[h.stag b hg];omega)
 have ho1:=h.of.keep (w':=V) fun b hg=>k1.blk b (h.of.lt b hg).2 (by rw[h.otag b hg];omega)
 exact⟨hb',by rw[hex _ hlm];exact h.tag,h.cls.fx xaz hex k1 (by omega),xkB xaD hr1 (hc0.append xaD hc1) (by simp) hall (by omega),hs1,fun b hg=>by rw[hex _ (h.sites.lt b hg).2];exact h.stag b hg,ho1,fun b hg=>by rw[hex _ (h.of.lt b hg).2];exact h.otag b hg⟩
end
section
variable {p:Rp} {d:Nat} {T T1 T2:Nat->Nat} {w wr w2:World} {mb K:Nat} {R:Mc RSt × QV × Int} {av kv:Value} {gk:Nat} {at' at2:Value} {m:Mc RSt} {f:Fr}
variable {c:Int} {n1 n2 n3 G' k:Nat} {x:QI} {hv sv ov st st':Value} {U w':World}
theorem xkR (hX:Rx p)(hR:BdR p d T w mb K R av kv gk at' T1 m f 0 wr)(hg:gk=G'+1)(hx:NxOk f k x)(hop:x.op=13)(h6:60<=m.heap.length){W2:World}(hE:Ext T1 T2 wr)(hK:Kp (All K) T1 wr W2)(hM:RMac p T2 W2 mb m (20-(d:Int)) 15 hv sv ov) :
  BdX p d T w mb K R av kv c n1 n2 n3 G' (.int .i64 ((k:Int)+1)) W2:=by
 have hr:xan (xa1 p.E d) p.E d m { f with pc:=f.pc+1 } f.pc x=(m,{ f with pc:=f.pc+1 },15):=by
  rw[xbK _ _ (by omega)];unfold xcy;rw[if_neg (by omega),if_neg (by omega),if_neg (by omega),if_neg (by omega),if_pos hop]
  unfold xbQ;rw[if_pos (Or.inl h6)]
 exact xcj hX hR hg hx (by omega) hr hE hK hM (fun h=>by cases h) (fun h=>by cases h) (fun h=>by cases h)
theorem xmn (hX:Rx p)(hR:BdR p d T w mb K R av kv gk at' T1 m f 0 wr)(hg:gk=G'+1)(hx:NxOk f k x)(hop:x.op=13)(h6:¬ 60<=m.heap.length){sl:Nat}(hsl:xaP p.X.cz x.a=(sl:Int))(hs2:sl<=2147483647)(hL:xiO c n1 n2 n3 f){W2:World}(hE:Ext T1 T2 wr)(hK:Kp (All K) T1 wr W2)(hM:RMac p T2 W2 mb { m with heap:=m.heap++[⟨x.a,List.replicate sl xaU⟩] } (20-(d:Int)) 0 hv sv ov)(hF:RF T2 K W2 w.heap.size { f with stack:=f.stack++[⟨4,(m.heap.length:Int)⟩] } av kv st) :
  BdX p d T w mb K R av kv c n1 n2 n3 G' (.int .i64 ((k:Int)+1)) W2:=by
 have hr:xan (xa1 p.E d) p.E d m { f with pc:=f.pc+1 } f.pc x=({ m with heap:=m.heap++[⟨x.a,List.replicate sl xaU⟩] },({ f with pc:=f.pc+1 }:Fr).push ⟨4,(m.heap.length:Int)⟩,0):=by
  rw[xbK _ _ (by omega)];unfold xcy;rw[if_neg (by omega),if_neg (by omega),if_neg (by omega),if_neg (by omega),if_pos hop]
  unfold xbQ
  have hc:¬ (60<=m.heap.length\/2147483647<xaP p.E.cz x.a):=by
   show ¬ (60<=m.heap.length\/2147483647<xaP p.X.cz x.a)
   rw[hsl];omega
  rw[if_neg hc]
  show (({ m with heap:=m.heap++[⟨x.a,List.replicate (xaP p.X.cz x.a).toNat xaU⟩] }:Mc RSt),_,_)=_
  rw[hsl];rfl
 exact xcj hX hR hg hx (by omega) hr hE hK hM (fun _=>⟨_,hF.at _⟩) (fun _=>by show f.pc+1=_;rw[hx.pc]) (fun _=>hL)
end
theorem xlY {p:Rp}(hX:Rx p)(c:Int):xbL p.X.cz/\∃ sl:Nat,xaP p.X.cz c=(sl:Int)/\sl<=1000:=by
 have ho:=xd1 hX.right;obtain⟨hs,-,-,-⟩:=xbE hX.right;have hm:=hs.many;have h:=xcv ho (p.X.cz.length+1) c 0 (Int.le_refl _);have e:xaP p.X.cz c=upE xd6 p.X.cz (p.X.cz.length+1) c 0:=rfl;rw[← e] at h
 exact⟨ho,(xaP p.X.cz c).toNat,by omega,by omega⟩
end Go.Proofs.YtapbeiccodnniaaGreat
