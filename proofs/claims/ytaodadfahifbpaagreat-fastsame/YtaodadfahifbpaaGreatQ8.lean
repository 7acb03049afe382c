/- A part. -/
import Derived.Test.YtaodadfahifbpaaGreatQ7
namespace Go.Proofs.YtaodadfahifbpaaGreat
open Go.ChangeShapes Go.WideShapes Go.ChangeAt Go.RowKit
set_option linter.unusedSimpArgs false
set_option linter.unusedVariables false
set_option maxHeartbeats 8000000
section
variable {P:Program} {md:Region.Mode} {ops:Array Oper} {Q:Exit->Act->World->Prop} {S:World->Prop}
def xbN (P:Program)(md:Region.Mode)(ops:Array Oper)(Q:Exit->Act->World->Prop)(S:World->Prop)(late:List Nat):Nat->Array Bool->Act->World->Prop
 | 0,listed,a,w=>Region.ready md ops listed=[]/\Q .normal a w
 | fuel+1,listed,a,w=>
  (Region.ready md ops listed=[]->Q .normal a w)/\
  ∀ i∈Region.ready md ops listed,wpOp P ops Q i (fun a' w'=>(late.contains i=false->S w')/\xbN P md ops Q S late fuel (listed.setIfInBounds i true) a' w') a w
theorem xev {late:List Nat}:∀ (fuel:Nat) (listed:Array Bool) (a:Act) (w:World),xbN P md ops Q S late fuel listed a w->wpAny P md ops Q fuel listed a w
 | 0,_,_,_,h=>h
 | fuel+1,_,_,_,h=>⟨h.1,fun i hi=>wpOp_mono (fun a' w' h'=>xev fuel _ a' w' h'.2) (h.2 i hi)⟩
def xq2 (md:Region.Mode)(ops:Array Oper)(i:Nat):Nat->Nat->Bool
 | 0,_=>false
 | n+1,k=>match ops[k]? with
  | none=>false
  | some o=>o.after.any fun e=>Region.binds md e && (e.on == i || xq2 md ops i n e.on)
def xq0 (md:Region.Mode)(ops:Array Oper)(listed:Array Bool):Prop:=∀ k o,ops[k]?=some o->listed.getD k true=true->∀ e∈o.after,Region.binds md e=true->listed.getD e.on true=true
def xoz (md:Region.Mode)(ops:Array Oper)(listed:Array Bool):Bool:=
 (List.range ops.size).all fun k=>match ops[k]? with
  | none=>true
  | some o=>!(listed.getD k true) || o.after.all fun e=>!(Region.binds md e) || listed.getD e.on true
theorem xkY {listed:Array Bool}(h:xoz md ops listed=true):xq0 md ops listed:=by
 intro k o hk hl e he hb;unfold xoz at h;rw[List.all_eq_true] at h;have:=h k (List.mem_range.2 (Array.getElem?_eq_some_iff.1 hk).1);rw[hk] at this;simp only[hl,Bool.not_true,Bool.false_or,Array.all_eq_true'] at this;have h1:=this e he
 simpa [hb] using h1
theorem xe2 {l:Array Bool}{i k:Nat}(h:l.getD k true=true):(l.setIfInBounds i true).getD k true=true:=by
 by_cases hik:i=k
 ·subst hik
  rcases Nat.lt_or_ge i l.size with h' | h'
  ·simp[h']
  ·simp[h']
 ·rw[getD_set_ne true hik];exact h
theorem xls {listed:Array Bool}{i:Nat}(hd:xq0 md ops listed)(hi:i∈Region.ready md ops listed):xq0 md ops (listed.setIfInBounds i true):=by
 intro k o hk hl e he hb;obtain⟨hiun,oi,hoi,hall⟩:=mem_ready.1 hi
 by_cases hki:i=k
 ·subst hki;rw[hoi] at hk
  cases hk
  have h1:=hall e he hb;refine xe2 ?_
  rcases Nat.lt_or_ge e.on listed.size with h' | h'
  ·simp[h'] at h1 ⊢;exact h1
  ·simp[Array.getElem?_eq_none h']
 ·rw[getD_set_ne true hki] at hl
  exact xe2 (hd k o hk hl e he hb)
theorem xhg {listed:Array Bool}{i:Nat}(hd:xq0 md ops listed):∀ (n k:Nat),xq2 md ops i n k=true->listed.getD k true=true->listed.getD i true=true
 | 0,k,h,_=>by cases h
 | n+1,k,h,hl=>by
  unfold xq2 at h
  split at h
  ·cases h
  ·rename_i o ho;rw[Array.any_eq_true'] at h;obtain⟨e,he,h⟩:=h;simp only[Bool.and_eq_true,Bool.or_eq_true,beq_iff_eq] at h;obtain⟨hb,h⟩:=h;have hl':=hd k o ho hl e he hb
   rcases h with h | h
   ·rw[← h];exact hl'
   ·exact xhg hd n e.on h hl'
theorem xlN {listed:Array Bool}{i l:Nat}(hd:xq0 md ops listed){n:Nat}(h:xq2 md ops i n l=true)(hl:l∈Region.ready md ops listed):listed.getD i true=true:=by
 cases n with
 | zero=>cases h
 | succ n=>
  obtain⟨hlun,o,ho,hall⟩:=mem_ready.1 hl;unfold xq2 at h;rw[ho] at h;simp only[] at h;rw[Array.any_eq_true'] at h;obtain⟨e,he,h⟩:=h;simp only[Bool.and_eq_true,Bool.or_eq_true,beq_iff_eq] at h;obtain⟨hb,h⟩:=h;have h1:=hall e he hb
  have hl':listed.getD e.on true=true:=by
   rcases Nat.lt_or_ge e.on listed.size with h' | h'
   ·simp[h'] at h1 ⊢;exact h1
   ·simp[Array.getElem?_eq_none h']
  rcases h with h | h
  ·rw[← h];exact hl'
  ·exact xhg hd n e.on h hl'
def xnl (md:Region.Mode)(ops:Array Oper)(late:List Nat)(i:Nat):Bool:=late.all fun l=>xq2 md ops i ops.size l
theorem xjH {late:List Nat}{listed:Array Bool}{i j:Nat}(h:xnl md ops late i=true)(hd:xq0 md ops listed)(hi:i∈Region.ready md ops listed)(hj:j∈Region.ready md ops listed):late.contains j=false:=by
 by_cases hc:late.contains j=true
 ·exfalso;unfold xnl at h;rw[List.all_eq_true] at h;have h1:=xlN hd (h j (by simpa using hc)) hj
  have h0:=(mem_ready.1 hi).1
  rcases Nat.lt_or_ge i listed.size with h' | h'
  ·simp[h'] at h0 h1;rw[h0] at h1;cases h1
  ·simp[Array.getElem?_eq_none h'] at h0
 ·simpa using hc
theorem xiS {late:List Nat}{i:Nat}{oi:Oper}{v:Value}(hlate:xnl md ops late i=true)(hi:ops[i]?=some oi)(hsel:∀ (j:Nat) (o:Oper) cs b,ops[j]?=some o->o.op≠.select cs b)
  (hQ:∀ c a w,Q (.panic c) (a.put oi.dst v) w->Q (.panic c) a w) :
  ∀ (fuel:Nat) (listed:Array Bool) (a:Act) (w:World),xq0 md ops listed->
   (∀ j oj,ops[j]?=some oj->j≠i->listed.getD j true=false->(∀ e∈oj.after,Region.binds md e=true->e.on≠i)->oi.apart ops oj=true)->
   i∈Region.ready md ops listed->YieldsIf P ops S oi v a->S w->
   xbN P md ops Q S late fuel (listed.setIfInBounds i true) (a.put oi.dst v) w->xbN P md ops Q S late (fuel+1) listed a w:=by
 intro fuel
 induction fuel with
 | zero=>
  intro listed a w _ _ hr hy hS H;refine⟨fun h=>(by rw[h] at hr;cases hr),fun j hj=>?_⟩
  by_cases hji:j=i
  ·subst hji;exact hy.wpOp hi hS ⟨fun _=>hS,H⟩
  ·have:=ready_mono hj hji;rw[H.1] at this
   cases this
 | succ fuel ih=>
  intro listed a w hd hfree hr hy hS H;refine⟨fun h=>(by rw[h] at hr;cases hr),fun j hj=>?_⟩
  by_cases hji:j=i
  ·subst hji;exact hy.wpOp hi hS ⟨fun _=>hS,H⟩
  ·have hjL:late.contains j=false:=xjH hlate hd hr hj;have h1:=H.2 j (ready_mono hj hji);obtain⟨hjun,oj,hoj,hall⟩:=mem_ready.1 hj
   have hnot:∀ e∈oj.after,Region.binds md e=true->e.on≠i:=fun e he hb heq=>by
    have h1:=hall e he hb;have h0:=(mem_ready.1 hr).1;rw[heq] at h1
    rcases Nat.lt_or_ge i listed.size with h' | h'
    ·simp[h'] at h0 h1;rw[h0] at h1;cases h1
    ·simp[Array.getElem?_eq_none h'] at h1
   have h2:=wpOp_putIf hoj (hfree j oj hoj hji hjun hnot) (fun cs b=>hsel i oi cs b hi) (fun cs b=>hsel j oj cs b hoj) hQ hy h1
   have hfree':∀ k ok,ops[k]?=some ok->k≠i->(listed.setIfInBounds j true).getD k true=false->
     (∀ e∈ok.after,Region.binds md e=true->e.on≠i)->oi.apart ops ok=true:=fun k ok hk hki hun hno=>by
    refine hfree k ok hk hki ?_ hno
    by_cases hjk:j=k
    ·subst hjk;exact hjun
    ·rw[getD_set_ne true hjk] at hun;exact hun
   refine wpOp_mono (fun a' w' h3=>⟨fun _=>h3.2.1 hjL,ih (listed.setIfInBounds j true) a' w' (xls hd hj) hfree' (ready_mono hr (Ne.symm hji)) h3.1 (h3.2.1 hjL) ?_⟩) h2
   rw[Array.setIfInBounds_comm _ _ hji]
   exact h3.2.2
theorem xee {late:List Nat}{i:Nat}{oi:Oper}{v:Value}{fuel:Nat}{listed:Array Bool}{a:Act}{w:World}(hlate:xnl md ops late i=true)(hd:xoz md ops listed=true)(hi:ops[i]?=some oi)
  (hs:Region.noSelect ops=true) (hf:Region.free md ops listed i=true) (hr:(Region.ready md ops listed).contains i=true)
  (hQ:∀ c a w,Q (.panic c) (a.put oi.dst v) w->Q (.panic c) a w) (hy:YieldsIf P ops S oi v a) (hS:S w)
  (h:xbN P md ops Q S late fuel (listed.setIfInBounds i true) (a.put oi.dst v) w):xbN P md ops Q S late (fuel+1) listed a w:=
 xiS hlate hi (Region.noSelect_spec hs) hQ fuel listed a w (xkY hd) (Region.free_spec hi hf) (by simpa using hr) hy hS h
theorem xaz {late:List Nat}{listed:Array Bool}{a:Act}{w:World}(hr:Region.ready md ops listed=[])(h:Q .normal a w):∀ fuel,xbN P md ops Q S late fuel listed a w
 | 0=>⟨hr,h⟩
 | _+1=>⟨fun _=>h,by rw[hr];simp⟩
theorem xab {late:List Nat}{rs:List Nat}{fuel:Nat}{listed:Array Bool}{a:Act}{w:World}(hr:Region.ready md ops listed=rs)(hne:rs≠[])
  (h:∀ i∈rs,wpOp P ops Q i (fun a' w'=>(late.contains i=false->S w')/\xbN P md ops Q S late fuel (listed.setIfInBounds i true) a' w') a w):xbN P md ops Q S late (fuel+1) listed a w:=
 ⟨fun h0=>absurd (hr ▸ h0) hne,hr ▸ h⟩
theorem xaN {late:List Nat}{i:Nat}{fuel:Nat}{listed:Array Bool}{a:Act}{w:World}{o:Oper}(ho:ops[i]?=some o)
  (h:∀ K':Act->World->Prop,(∀ a w,(late.contains i=false->S w)->xbN P md ops Q S late fuel (listed.setIfInBounds i true) a w->K' a w)->if Region.wanted o (yielded ops a.tmps)=true then Oper.wp P o a w K' Q else K' (a.put o.dst undef) w) :
  wpOp P ops Q i (fun a' w'=>(late.contains i=false->S w')/\xbN P md ops Q S late fuel (listed.setIfInBounds i true) a' w') a w:=
 wpOp_step ho (fun K' hK=>h K' (fun a w hS hW=>hK a w ⟨hS,hW⟩))
theorem xgi {S':World->Prop}{late late':List Nat}:∀ (fuel:Nat) (listed:Array Bool) (a:Act) (w:World),(∀ i,i∈Region.ready md ops listed->late.contains i=true)->(∀ i,late.contains i=false->listed.getD i true=true)->
  xbN P md ops Q S' late' fuel listed a w->xbN P md ops Q S late fuel listed a w
 | 0,_,_,_,_,_,h=>h
 | fuel+1,listed,a,w,h0,h1,h=>⟨h.1,fun i hi=>wpOp_mono (fun a' w' h'=>⟨fun hl=>(by rw[h0 i hi] at hl;cases hl),xgi fuel _ a' w' (fun j hj=>by
   by_cases hc:late.contains j=true
   ·exact hc
   ·exfalso;have:=h1 j (by simpa using hc)
    have h2:=(mem_ready.1 hj).1;have h3:=xe2 (i:=i) this
    rcases Nat.lt_or_ge j (listed.setIfInBounds i true).size with h' | h'
    ·simp only[Array.getD_eq_getD_getElem?,Array.getElem?_eq_getElem h',Option.getD_some] at h2 h3;rw[h2] at h3;cases h3
    ·rw[Array.getD_eq_getD_getElem?,Array.getElem?_eq_none h'] at h2;cases h2) (fun j hj=>xe2 (h1 j hj)) h'.2⟩) (h.2 i hi)⟩
def xq4 (ops:Array Oper)(late:List Nat)(listed:Array Bool):Bool:=listed.size == ops.size && (List.range ops.size).all fun i=>late.contains i || listed.getD i true
theorem xcN {S':World->Prop}{late late':List Nat}{fuel:Nat}{listed:Array Bool}{a:Act}{w:World}(ho:xq4 ops late listed=true)(h:xbN P md ops Q S' late' fuel listed a w):xbN P md ops Q S late fuel listed a w:=by
 unfold xq4 at ho;simp only[Bool.and_eq_true,beq_iff_eq,List.all_eq_true,List.mem_range,Bool.or_eq_true] at ho
 have h1:∀ i,late.contains i=false->listed.getD i true=true:=fun i hi=>by
  rcases Nat.lt_or_ge i ops.size with h' | h'
  ·rcases ho.2 i h' with h'' | h''
   ·rw[hi] at h'';cases h''
   ·exact h''
  ·rw[Array.getD_eq_getD_getElem?,Array.getElem?_eq_none (by omega)];rfl
 refine xgi fuel listed a w (fun i hi=>?_) h1 h
 by_cases hc:late.contains i=true
 ·exact hc
 ·exfalso;have h2:=(mem_ready.1 hi).1;have h3:=h1 i (by simpa using hc)
  rcases Nat.lt_or_ge i listed.size with h' | h'
  ·simp only[Array.getD_eq_getD_getElem?,Array.getElem?_eq_getElem h',Option.getD_some] at h2 h3;rw[h2] at h3;cases h3
  ·rw[Array.getD_eq_getD_getElem?,Array.getElem?_eq_none h'] at h2;cases h2
theorem xav {id:Nat}{a:Act}{w:World}(late:List Nat)(hm:P.follows .mixedOrders=true)
  (h:xbN P .any ops Q S late ops.size (Array.replicate ops.size false) a w.drew):(Code.region id ops true).wp P Q a w:=
 wp_region_any hm (xev _ _ _ _ h)
end
section
variable {P:Program} {md:Region.Mode} {ops:Array Oper} {Q:Exit->Act->World->Prop} {S:World->Prop}
def okT (md:Region.Mode)(ops:Array Oper)(late:List Nat)(listed:Array Bool)(i:Nat):Bool:=xnl md ops late i && (xoz md ops listed && (Region.noSelect ops && (Region.free md ops listed i && (Region.ready md ops listed).contains i)))
theorem tk {late:List Nat}(i:Nat)(oi:Oper)(v:Value){fuel:Nat}{listed:Array Bool}{a:Act}{w:World}(hi:ops[i]?=some oi)(hS:S w)(hQ:∀ c a w,Q (.panic c) (a.put oi.dst v) w->Q (.panic c) a w)(hw:Region.wanted oi (yielded ops a.tmps)=true)
  (ho:okT md ops late listed i=true) (hy:∀ w,S w->(execOp a.eval oi).run P w=.ok (.value v) w) (h:xbN P md ops Q S late fuel (listed.setIfInBounds i true) (a.put oi.dst v) w):xbN P md ops Q S late (fuel+1) listed a w:=by
 unfold okT at ho;simp only[Bool.and_eq_true] at ho
 exact xee ho.1 ho.2.1 hi ho.2.2.1 ho.2.2.2.1 ho.2.2.2.2 hQ (Or.inl ⟨hw,hy⟩) hS h
theorem tj {late:List Nat}(i:Nat)(oi:Oper)(v:Value){fuel:Nat}{listed:Array Bool}{a:Act}{w:World}(hS:S w)(hy:∀ w,S w->(execOp a.eval oi).run P w=.ok (.value v) w)(h:xbN P md ops Q S late fuel (listed.setIfInBounds i true) (a.put oi.dst v) w)(hi:ops[i]?=some oi:=by rfl)(hQ:∀ c a w,Q (.panic c) (a.put oi.dst v) w->Q (.panic c) a w:=by exact fun _ _ _ h=>h)(hw:Region.wanted oi (yielded ops a.tmps)=true:=by rfl)(ho:okT md ops late listed i=true:=by kernel_rfl):xbN P md ops Q S late (fuel+1) listed a w:=tk i oi v hi hS hQ hw ho hy h
def AllR (p:Nat->Prop):List Nat->Prop
 | []=>True
 | i :: l=>p i/\AllR p l
theorem AllR.all {p:Nat->Prop}:∀ {l:List Nat},AllR p l->∀ i∈l,p i
 | [],_,i,h=>by simp at h
 | k :: l,h,i,hi=>by
  rcases List.mem_cons.1 hi with rfl | hi
  ·exact h.1
  ·exact AllR.all h.2 i hi
theorem rdy {late:List Nat}(rs:List Nat){fuel:Nat}{listed:Array Bool}{a:Act}{w:World}(hne:rs.isEmpty=false)(hr:Region.ready md ops listed=rs)
  (h:AllR (fun i=>wpOp P ops Q i (fun a' w'=>(late.contains i=false->S w')/\xbN P md ops Q S late fuel (listed.setIfInBounds i true) a' w') a w) rs):xbN P md ops Q S late (fuel+1) listed a w:=
 xab hr (by intro e;rw[e] at hne;cases hne) h.all
end
set_option maxRecDepth 8000
theorem xct {P:Program}{ops:Array Oper}{o:Oper}{a:Act}{w w':World}{K:Act->World->Prop}{Q:Exit->Act->World->Prop}{E:Prop}(hg:o.guard=none)(s x:Operand)(T:TypeId)(hop:o.op=Op.call { callee:=Callee.builtin Builtin.append,args:=#[s,x],argTypes:=#[T,T] })
  (vs vx v':Value) (hs:a.eval s=vs) (hx:a.eval x=vx) (hrun:(Builtin.append_ #[T,T] o.type #[vs,vx]).run P w=.ok v' w') (hK:K (a.put o.dst v') w'):if Region.wanted o (yielded ops a.tmps)=true then Oper.wp P o a w K Q else E:=by
 have hw:Region.wanted o (yielded ops a.tmps)=true:=by simp[Region.wanted,hg]
 rw[if_pos hw];unfold Oper.wp
 simp[execOp,hop,resolve,invoke,builtin,hs,hx,hrun,Result.andThen]
 exact hK
theorem xbT {w:World}{b:Nat}{cur:Array Value}{t:TypeId}(h:w.heap[b]?=some (.cells cur t (0,0)))(o:Nat):w.frozen? ⟨b,o,none⟩=false:=by unfold World.frozen?;simp[h]
theorem xaZ {P:Program}{ops:Array Oper}{o:Oper}{a:Act}{w:World}{K:Act->World->Prop}{Q:Exit->Act->World->Prop}{E:Prop}(hg:o.guard=none)(fn:Nat)(cal:Operand)(args:Array Operand)(tys:Array TypeId)(hop:o.op=Op.call { callee:=Callee.value cal,args:=args,argTypes:=tys })
  (caps:Array Value) (hcal:a.eval cal=.func (.func fn) #[] caps) (vs:Array Value) (hvs:args.map a.eval=vs) (hcf:(callFunc fn (vs++caps)).run P w=.ok (.enter fn (vs++caps)) w) (hc:Calls P fn (vs++caps) w fun e w'=>∃ v,e=.returned v/\K (a.put o.dst v) w'):if Region.wanted o (yielded ops a.tmps)=true then Oper.wp P o a w K Q else E:=by
 have hw:Region.wanted o (yielded ops a.tmps)=true:=by simp[Region.wanted,hg]
 rw[if_pos hw];unfold Oper.wp
 have hr:(execOp a.eval o).run P w=.ok (.enter fn (vs++caps)) w:=by
  simp[execOp,hop,resolve,invoke,hcal,hvs,Deferred.ofValue]
  exact hcf
 rw[hr,Oper.upon_enter];refine hc.mono ?_;rintro e w' ⟨v,rfl,h⟩
 exact h
theorem xdN {fn:Nat}{f:Func}(hf:Tryz.prog.funcs[fn]?=some f)(hn:(f.name == "runtime.NumGoroutine")=false)(hb:f.body.isSome=true)(args:Array Value)(w:World):(callFunc fn args).run Tryz.prog w=.ok (.enter fn args) w:=by
 have h1:¬ f.name = "runtime.NumGoroutine" := by simpa using hn
 have h2:¬ f.body=none:=by intro h;rw[h] at hb;cases hb
 simp[callFunc,hf,h1,h2]
theorem xk7 {P:Program}{ops:Array Oper}{o:Oper}{a:Act}{w:World}{K:Act->World->Prop}{Q:Exit->Act->World->Prop}{E:Prop}(hw:Region.wanted o (yielded ops a.tmps)=true)(fn:Nat)(cal:Operand)(args:Array Operand)(tys:Array TypeId)(hop:o.op=Op.call { callee:=Callee.value cal,args:=args,argTypes:=tys })
  (caps:Array Value) (hcal:a.eval cal=.func (.func fn) #[] caps) (vs:Array Value) (hvs:args.map a.eval=vs) (hcf:(callFunc fn (vs++caps)).run P w=.ok (.enter fn (vs++caps)) w) (hc:Calls P fn (vs++caps) w fun e w'=>∃ v,e=.returned v/\K (a.put o.dst v) w'):if Region.wanted o (yielded ops a.tmps)=true then Oper.wp P o a w K Q else E:=by
 rw[if_pos hw];unfold Oper.wp
 have hr:(execOp a.eval o).run P w=.ok (.enter fn (vs++caps)) w:=by
  simp[execOp,hop,resolve,invoke,hcal,hvs,Deferred.ofValue]
  exact hcf
 rw[hr,Oper.upon_enter];refine hc.mono ?_;rintro e w' ⟨v,rfl,h⟩
 exact h
theorem xe3 {α:Type}{E:Lay α}{sz bytes:Nat}{P:Nat->Prop}{w:World}{v:Value}{xs:List α}(h:IsRow E sz bytes P w v xs)(hE:∀ f x,E P w f x->E (fun b=>b<w.heap.size) w f x/\∃ u,f 0=some u):IsRow E sz bytes (fun b=>b<w.heap.size) w v xs:=by
 obtain⟨ad,cap,h1,h2,h3,h4,h5⟩:=h;refine⟨ad,cap,h1,h2,h3,h4,fun i x hx=>?_⟩
 obtain⟨b,o,e1,e2,e3⟩:=h5 i x hx;obtain⟨k1,u,k2⟩:=hE _ _ e3
 exact⟨b,o,e1,World.block_lt_of_cell? w _ k2,k1⟩
theorem xjy {P:Nat->Prop}{w:World}{v:Value}{xs:List QI}(h:xaR P w v xs):xaR (fun b=>b<w.heap.size) w v xs:=xe3 h fun f x hx=>⟨hx,_,hx.1⟩
theorem xi3 {P:Nat->Prop}{w:World}{v:Value}{xs:List QM}(h:xbm P w v xs):xbm (fun b=>b<w.heap.size) w v xs:=xe3 h fun f x hx=>by
 obtain⟨h0,h1,h2,h3,h4,c,h5,h6⟩:=hx
 exact⟨⟨h0,h1,h2,h3,h4,c,h5,xjy h6⟩,_,h0⟩
theorem xd6 {P:Nat->Prop}{w:World}{v:Value}{xs:List QC}(h:xai P w v xs):xai (fun b=>b<w.heap.size) w v xs:=xe3 h fun f x hx=>by
 obtain⟨h0,h1,h2,h3,c,h5,h6⟩:=hx
 exact⟨⟨h0,h1,h2,h3,c,h5,xi3 h6⟩,_,h0⟩
theorem xdn {P:Program}{md:Region.Mode}{ops:Array Oper}{Q:Exit->Act->World->Prop}{S:World->Prop}{late late':List Nat}:∀ (fuel:Nat) (listed:Array Bool) (a:Act) (w:World),xbN P md ops Q S late fuel listed a w->xbN P md ops Q (fun _=>True) late' fuel listed a w
 | 0,_,_,_,h=>h
 | fuel+1,_,_,_,h=>⟨h.1,fun i hi=>wpOp_mono (fun a' w' h'=>⟨fun _=>trivial,xdn fuel _ a' w' h'.2⟩) (h.2 i hi)⟩
theorem cf26 (args:Array Value)(w:World):(callFunc 43 args).run Tryz.prog w=.ok (.enter 43 args) w:=xdN Tryz.func43 (by kernel_rfl) (by kernel_rfl) args w
theorem cf27 (args:Array Value)(w:World):(callFunc 44 args).run Tryz.prog w=.ok (.enter 44 args) w:=xdN Tryz.func44 (by kernel_rfl) (by kernel_rfl) args w
theorem cf28 (args:Array Value)(w:World):(callFunc 45 args).run Tryz.prog w=.ok (.enter 45 args) w:=xdN Tryz.func45 (by kernel_rfl) (by kernel_rfl) args w
theorem cf45 (args:Array Value)(w:World):(callFunc 38 args).run Tryz.prog w=.ok (.enter 38 args) w:=xdN Tryz.func38 (by kernel_rfl) (by kernel_rfl) args w
theorem cf46 (args:Array Value)(w:World):(callFunc 64 args).run Tryz.prog w=.ok (.enter 64 args) w:=xdN Tryz.func64 (by kernel_rfl) (by kernel_rfl) args w
theorem xp9 {U:World}{b o b' o':Nat}{v u:Value}(h:U.cell? ⟨b,o,none⟩=some v)(hne:b≠b'):(U.setCell ⟨b',o',none⟩ u).cell? ⟨b,o,none⟩=some v:=(qzI _ _ _ _ (by simp;omega)).trans h
abbrev xk4 (U:World)(b:Nat)(u0 u1 u2 u3 u4:Value):World:=((((U.setCell ⟨b,0,none⟩ u0).setCell ⟨b,1,none⟩ u1).setCell ⟨b,2,none⟩ u2).setCell ⟨b,3,none⟩ u3).setCell ⟨b,4,none⟩ u4
theorem xc2 {U:World}{b o b':Nat}{v u0 u1 u2 u3 u4:Value}(h:U.cell? ⟨b,o,none⟩=some v)(hne:b≠b'):(xk4 U b' u0 u1 u2 u3 u4).cell? ⟨b,o,none⟩=some v:=xp9 (xp9 (xp9 (xp9 (xp9 h hne) hne) hne) hne) hne
theorem xr2 {U:World}{b b':Nat}{u0 u1 u2 u3 u4:Value}(hne:b≠b'):(xk4 U b' u0 u1 u2 u3 u4).heap[b]?=U.heap[b]?:=by
 rw[xac hne,xac hne,xac hne,xac hne,xac hne]
theorem xrN {w U:World}{lo b:Nat}{u0 u1 u2 u3 u4:Value}(h:Below lo w U)(hb:lo<=b):Below lo w (xk4 U b u0 u1 u2 u3 u4):=((((h.setCell hb _).setCell hb _).setCell hb _).setCell hb _).setCell hb _
abbrev xaU:QV:=⟨0,0⟩
def xaM (l:List QV)(n:Int):QV:=if n<0 then xaU else l[n.toNat]?.getD xaU
def xaW (l:List QV)(n:Int)(v:QV):List QV:=if n<0 then l else l.set n.toNat v
def xaQ (l:List QV)(n:Int):QV:=xaM l ((l.length:Int)-1-n)
def xaG (n:Int):List QV:=List.replicate (min (max n 0) 40).toNat xaU
def xbp (l:List QV)(n:Int):Nat:=l.length-(max n 0).toNat
def xd2 (h:List QO)(v:QV):Option QO:=if v.k=4/\0<=v.n then h[v.n.toNat]? else none
def xas (h:List QO)(v:QV):Int:=if v.k=0 then 1 else if v.k=1\/v.k=2 then 2 else if v.k=3 then 3 else ((xd2 h v).map QO.cls).getD 0
def xcF (h:List QO)(v:QV)(n:Int):QV:=((xd2 h v).map fun o=>xaM o.slots n).getD xaU
def xaX (h:List QO)(v:QV)(n:Int)(x:QV):List QO:=match xd2 h v with
 | none=>h
 | some o=>h.set v.n.toNat ⟨o.cls,xaW o.slots n x⟩
def xbR (p:Int)(a b:QV):QV × Int:=
 if a.k≠3\/b.k≠3 then (xaU,12)
 else if p=1 then (⟨3,(a.n+b.n).tmod 1073741825⟩,0)
 else if p=2 then (⟨3,(a.n-b.n).tmod 1073741825⟩,0)
 else if p=3 then (⟨3,(a.n*b.n).tmod 1073741825⟩,0)
 else if p=4 then (⟨if a.n<b.n then 2 else 1,0⟩,0)
 else if p=5 then (⟨if a.n=b.n then 2 else 1,0⟩,0)
 else (xaU,1)
structure Mc (σ:Type) where
 heap:List QO
 sz_:Int
 tz:Int
 st:σ
structure Fr where
 cls:Int
 meth:QM
 self:QV
 args:List QV
 temps:List QV
 stack:List QV
 code:List QI
 pc:Int
 fast:Bool
structure Env (σ:Type) where
 cz:List QC
 fuel:Int
 look:σ->QS->Int->ByteArray->σ × (Int × Int)
 quick:Int->Int->Option (List QI × Int)
section
variable {σ:Type}
abbrev Ent (σ:Type):=Mc σ->Int->Int->QV->List QV->Mc σ × QV × Int
def Fr.push (f:Fr)(v:QV):Fr:={ f with stack:=f.stack++[v] }
def Fr.pop (f:Fr):Fr:={ f with stack:=f.stack.dropLast }
def Fr.top (f:Fr):QV:=xaQ f.stack 0
def Fr.site (f:Fr)(at':Int)(x:QI):QS:=⟨f.cls,f.meth.name,if f.fast then x.c else at'⟩
def Fr.leave (f:Fr)(at':Int):Fr:={ f with code:=f.meth.code,temps:=(xaG f.meth.temps).zipIdx.map (fun p=>(f.temps[p.2]?).getD xaU),pc:=at',fast:=false }
def xao (h:List QO)(f:Fr)(x:QI):Option QV:=
 if x.op=1 then some f.self else if x.op=2 then some (xaM f.args x.a) else if x.op=3 then some (xaM f.temps x.a) else if x.op=4 then some (xcF h f.self x.a)
 else if x.op=5 then some ⟨3,x.a⟩ else if x.op=6 then some xaU else if x.op=7 then some ⟨1,0⟩ else if x.op=8 then some ⟨2,0⟩ else none
def xaV (m:Mc σ)(f:Fr)(at' tg:Int):Mc σ × Fr × Int:=
 let m':Mc σ:=if tg<=at' then { m with tz:=m.tz+1 } else m
 if 300<m'.tz then (m',f,16) else (m',{ f with pc:=tg },0)
def xau (E:Env σ)(d:Nat)(m:Mc σ):Mc σ × Int:=if E.fuel<=m.sz_ then (m,13) else if d=0 then (m,14) else ({ m with sz_:=m.sz_+1 },0)
def xbD (ent:Ent σ)(E:Env σ)(m:Mc σ)(f:Fr)(at':Int)(x:QI):Mc σ × Fr × Int:=
 let k:=xbp f.stack x.a
 let args:=f.stack.drop k
 let self:=xaQ (f.stack.take k) 0
 let l:=E.look m.st (f.site at' x) (xas m.heap self) x.name
 let r:=ent { m with st:=l.1 } l.2.1 l.2.2 self args
 if r.2.2≠0 then (r.1,f,r.2.2) else (r.1,{ f with stack:=(f.stack.take k).dropLast++[r.2.1] },0)
def xbV (E:Env σ)(m:Mc σ)(f:Fr)(c:Int):Mc σ × Fr × Int:=
 if 60<=m.heap.length\/2147483647<xaY E.cz c then (m,f,15)
 else ({ m with heap:=m.heap++[⟨c,List.replicate (xaY E.cz c).toNat xaU⟩] },f.push ⟨4,m.heap.length⟩,0)
def xbz (m:Mc σ)(f:Fr)(at' tg:Int):Mc σ × Fr × Int:=if f.top.k=2 then (m,f.pop,0) else if f.top.k=1 then xaV m f.pop at' tg else (m,f,11)
def xbQ (E:Env σ)(d:Nat)(m:Mc σ)(f:Fr)(x:QI):Mc σ × Fr × Int:=
 if f.fast=false then (m,f,1)
 else if x.op=18 then (m,if xas m.heap (xaQ f.stack x.b)=x.a then f else f.leave x.c,0)
 else if x.op=19 then (m,f.push (xcF m.heap (xaM f.temps x.a) x.b),0)
 else if x.op=20 then ({ m with heap:=xaX m.heap (xaM f.temps x.a) x.b f.top },f.pop,0)
 else if x.op=21 then ((xau E d m).1,f,(xau E d m).2)
 else (m,f,1)
def xaj (ent:Ent σ)(E:Env σ)(d:Nat)(m:Mc σ)(f:Fr)(at':Int)(x:QI):Mc σ × Fr × Int:=
 match xao m.heap f x with
 | some v=>(m,f.push v,0)
 | none=>
  if x.op=9 then (m,f.pop,0)
  else if x.op=10 then (m,f.push f.top,0)
  else if x.op=11 then (m,{ f.pop with temps:=xaW f.temps x.a f.top },0)
  else if x.op=12 then ({ m with heap:=xaX m.heap f.self x.a f.top },f.pop,0)
  else if x.op=13 then xbV E m f x.a
  else if x.op=14 then xbD ent E m f at' x
  else if x.op=15 then xaV m f at' x.a
  else if x.op=16 then xbz m f at' x.a
  else xbQ E d m f x
def xb7 (ent:Ent σ)(E:Env σ)(d:Nat):Nat->Mc σ->Fr->Mc σ × QV × Int
 | 0,m,_=>(m,xaU,9)
 | g+1,m,f=>match (if f.pc<0 then none else f.code[f.pc.toNat]?) with
  | none=>(m,xaU,9)
  | some x=>
   if x.op=17 then (m,f.top,0)
   else
    let r:=xaj ent E d m { f with pc:=f.pc+1 } f.pc x
    if r.2.2≠0 then (r.1,xaU,r.2.2) else xb7 ent E d g r.1 r.2.1
def xaI (xs:List QC)(c n:Int):Option QM:=(xbx xs c).bind fun x=>if 0<=n then x.mz[n.toNat]? else none
def xaK (E:Env σ)(c n:Int)(mt:QM)(self:QV)(args:List QV):Fr:=match E.quick c n with
 | none=>⟨c,mt,self,args,xaG mt.temps,[],mt.code,0,false⟩
 | some q=>⟨c,mt,self,args,xaG q.2,[],q.1,0,true⟩
def xf4 (f:Fr):Nat:=700*(f.code.length+f.meth.code.length+1)
def xbc (E:Env σ)(d:Nat)(body:Mc σ->Fr->Mc σ × QV × Int):Ent σ:=fun m c n self args=>match xaI E.cz c n with
 | none=>(m,xaU,10)
 | some mt=>
  if mt.args≠args.length then (m,xaU,8)
  else if mt.prim≠0 then (if E.fuel<=m.sz_ then (m,xaU,13) else ({ m with sz_:=m.sz_+1 },xbR mt.prim self (xaM args 0)))
  else if (xau E d m).2≠0 then (m,xaU,(xau E d m).2) else body (xau E d m).1 (xaK E c n mt self args)
def xa4 (E:Env σ):Nat->Ent σ
 | 0=>xbc E 0 fun m _=>(m,xaU,14)
 | d+1=>xbc E (d+1) fun m f=>xb7 (xa4 E d) E d (xf4 f) m f
theorem xe9 (m:Mc σ)(f:Fr)(a b:Int):(xaV m f a b).1.sz_=m.sz_:=by
 unfold xaV
 by_cases h:b<=a
 ·simp only[h,if_true];split<;>rfl
 ·simp only[h,if_false];split<;>rfl
theorem xhp (E:Env σ)(m:Mc σ)(f:Fr)(c:Int):(xbV E m f c).1.sz_=m.sz_:=by
 unfold xbV;split<;>rfl
theorem xhe (m:Mc σ)(f:Fr)(a b:Int):(xbz m f a b).1.sz_=m.sz_:=by
 unfold xbz
 split
 ·rfl
 ·split
  ·exact xe9 _ _ _ _
  ·rfl
end
def xam:List QV->List Value
 | []=>[]
 | v :: r=>.int .i64 v.k :: .int .i64 v.n :: xam r
theorem xbA:∀ q,(xam q).length=q.length*2
 | []=>rfl
 | p :: q=>by simp[xam,xbA q];omega
theorem xcA:∀ q r,xam (q++r)=xam q++xam r
 | [],r=>rfl
 | p :: q,r=>by simp[xam,xcA q r]
theorem xbZ:∀ {q:List QV} {i:Nat} {x:QV},q[i]?=some x->(xam q)[i*2]?=some (.int .i64 x.k)/\(xam q)[i*2+1]?=some (.int .i64 x.n)
 | [],i,x,h=>by simp at h
 | p :: q,0,x,h=>by simp at h;subst h;exact⟨rfl,rfl⟩
 | p :: q,i+1,x,h=>by
  have:=xbZ (q:=q) (i:=i) (x:=x) (by simpa using h)
  rw[show (i+1)*2=i*2+1+1 by omega]
  exact this
theorem xfk:∀ (q:List QV) (i:Nat) (x:QV),((xam q).set (i*2) (.int .i64 x.k)).set (i*2+1) (.int .i64 x.n)=xam (q.set i x)
 | [],i,x=>by simp[xam]
 | p :: q,0,x=>by simp[xam]
 | p :: q,i+1,x=>by
  rw[show (i+1)*2=i*2+1+1 by omega]
  simp only[xam,List.set_cons_succ];rw[xfk q i x]
theorem xeo:∀ (q:List QV) (n:Nat),(xam q).take (n*2)=xam (q.take n)
 | [],n=>by simp[xam]
 | p :: q,0=>by simp[xam]
 | p :: q,n+1=>by
  rw[show (n+1)*2=n*2+1+1 by omega]
  simp only[xam,List.take_succ_cons];rw[xeo q n]
theorem xgd:∀ (q:List QV) (n:Nat),(xam q).drop (n*2)=xam (q.drop n)
 | [],n=>by simp[xam]
 | p :: q,0=>by simp[xam]
 | p :: q,n+1=>by
  rw[show (n+1)*2=n*2+1+1 by omega]
  simp only[xam,List.drop_succ_cons]
  exact xgd q n
theorem xhf:∀ n,xam (List.replicate n xaU)=List.replicate (n*2) (.int .i64 0)
 | 0=>rfl
 | n+1=>by
  rw[show (n+1)*2=n*2+1+1 by omega]
  simp only[List.replicate_succ,xam];rw[xhf n]
theorem xg9:∀ (q:List QV),∀ u∈xam q,u.oneCell'=true
 | [],u,h=>by simp[xam] at h
 | p :: q,u,h=>by
  simp only[xam,List.mem_cons] at h
  rcases h with rfl | rfl | h
  ·rfl
  ·rfl
  ·exact xg9 q u h
theorem xcy {E:Unit}:∀ {cs:List Value} {xs:List QV} {P:Nat->Prop} {w:World},Cells xpo 2 P w cs xs->cs=xam xs:=fun {cs xs P w} h=>by
 obtain⟨h1,h2⟩:=h
 apply List.ext_getElem?
 intro j
 by_cases hj:j<xs.length*2
 ·have hi:j / 2<xs.length:=by omega
  have hx:xs[j / 2]?=some xs[j / 2]:=by simp[hi]
  obtain⟨e1,e2⟩:=h2 _ _ hx;obtain⟨d1,d2⟩:=xbZ hx
  rcases Nat.mod_two_eq_zero_or_one j with hm | hm
  ·have:j=j / 2*2:=by omega
   rw[this,d1];simpa using e1
  ·have:j=j / 2*2+1:=by omega
   rw[this,d2];simpa using e2
 ·rw[List.getElem?_eq_none (by omega),List.getElem?_eq_none (by rw[xbA];omega)]
structure Kp (S:Nat->Prop)(T:Nat->Nat)(w w':World):Prop where
 os:w'.os=w.os
 tape:w'.tape=w.tape
 output:w'.output=w.output
 size:w.heap.size<=w'.heap.size
 blk:∀ b,b<w.heap.size->¬ S (T b)->w'.heap[b]?=w.heap[b]?
def Ext (T T':Nat->Nat)(w:World):Prop:=∀ b,b<w.heap.size->T' b=T b
theorem Ext.refl (T:Nat->Nat)(w:World):Ext T T w:=fun _ _=>rfl
theorem Ext.trans {T T' T'':Nat->Nat}{w w':World}(h:Ext T T' w)(hs:w.heap.size<=w'.heap.size)(k:Ext T' T'' w'):Ext T T'' w:=fun b hb=>(k b (by omega)).trans (h b hb)
theorem Kp.refl (S:Nat->Prop)(T:Nat->Nat)(w:World):Kp S T w w:=⟨rfl,rfl,rfl,qzC _,fun _ _ _=>rfl⟩
theorem Kp.of_below {S:Nat->Prop}{T:Nat->Nat}{w w':World}(h:Below w.heap.size w w'):Kp S T w w':=⟨h.os,h.tape,h.output,h.size,fun b hb _=>h.block b hb⟩
theorem Kp.trans {S:Nat->Prop}{T T':Nat->Nat}{w w' w'':World}(h:Kp S T w w')(e:Ext T T' w)(k:Kp S T' w' w''):Kp S T w w'':=
 ⟨k.os.trans h.os,k.tape.trans h.tape,k.output.trans h.output,qzD h.size k.size,fun b hb hs=>(k.blk b (qzE hb h.size) (by rw[e b hb];exact hs)).trans (h.blk b hb hs)⟩
theorem Kp.on {S:Nat->Prop}{T:Nat->Nat}{w w' w'':World}(h:Kp S T w w')(k:Below w'.heap.size w' w''):Kp S T w w'':=h.trans (.refl _ _) (.of_below k)
theorem Kp.drew {S:Nat->Prop}{T:Nat->Nat}{w w':World}(h:Kp S T w w'):Kp S T w w'.drew:=⟨h.os,h.tape,h.output,h.size,h.blk⟩
theorem Kp.mono {S S':Nat->Prop}{T:Nat->Nat}{w w':World}(h:Kp S T w w')(hs:∀ t,S t->S' t):Kp S' T w w':=⟨h.os,h.tape,h.output,h.size,fun b hb n=>h.blk b hb fun k=>n (hs _ k)⟩
theorem Kp.tags {S:Nat->Prop}{T T':Nat->Nat}{w w':World}(h:Kp S T w w')(e:Ext T T' w):Kp S T' w w':=⟨h.os,h.tape,h.output,h.size,fun b hb n=>h.blk b hb (by rw[← e b hb];exact n)⟩
theorem Kp.below {S:Nat->Prop}{T:Nat->Nat}{w w':World}(h:Kp S T w w'){lo:Nat}(hl:∀ b,b<lo->¬ S (T b))(hs:lo<=w.heap.size):Below lo w w':=⟨h.os,h.tape,h.output,h.size,fun b hb=>h.blk b (by omega) (hl b hb)⟩
theorem Kp.set {S:Nat->Prop}{T:Nat->Nat}{w w':World}(h:Kp S T w w'){b:Nat}(hb:b<w.heap.size->S (T b))(o:Nat)(v:Value):Kp S T w (w'.setCell ⟨b,o,none⟩ v):=by
 have k:=qzL w'.heap.size w';have hd:Below 0 w' (w'.setCell ⟨b,o,none⟩ v):=(qzL 0 w').setCell (Nat.zero_le _) _;refine⟨hd.os.trans h.os,hd.tape.trans h.tape,hd.output.trans h.output,qzD h.size hd.size,fun c hc n=>?_⟩
 rw[xac (fun e=>n (by rw[e];exact hb (by omega)))]
 exact h.blk c hc n
theorem Kp.held {S:Nat->Prop}{T:Nat->Nat}{w w':World}(h:Kp S T w w'){b:Nat}{o:Obj}(hb:w.heap[b]?=some o)(hs:¬ S (T b)):w'.heap[b]?=some o:=by
 rw[h.blk b (xal hb) hs];exact hb
theorem Kp.cell {S:Nat->Prop}{T:Nat->Nat}{w w':World}(h:Kp S T w w'){b o:Nat}{v:Value}(hb:w.cell? ⟨b,o,none⟩=some v)(hs:¬ S (T b)):w'.cell? ⟨b,o,none⟩=some v:=by
 have hl:=World.block_lt_of_cell? w ⟨b,o,none⟩ hb;unfold World.cell? at hb ⊢;rw[h.blk b hl hs]
 exact hb
abbrev Fx (T:Nat->Nat)(w:World):Nat->Prop:=fun b=>b<w.heap.size/\T b=0
abbrev Hx (T:Nat->Nat)(w:World):Nat->Prop:=fun b=>b<w.heap.size/\T b=2
theorem IsRow.fx {α:Type}{E:Lay α}{sz bytes:Nat}{t:Nat}{T T':Nat->Nat}{S:Nat->Prop}{w w':World}{v:Value}{xs:List α}(h:IsRow E sz bytes (fun b=>b<w.heap.size/\T b=t) w v xs)(G:Good E sz)(e:Ext T T' w)(k:Kp S T w w')(h0:¬ S t):IsRow E sz bytes (fun b=>b<w'.heap.size/\T' b=t) w' v xs:=
 h.keep G (Keeps.of_block fun b hb hl=>k.blk b hl (by rw[hb.2];exact h0)) fun b hb=>⟨qzE hb.1 k.size,by rw[e b hb.1];exact hb.2⟩
def xaF (T:Nat->Nat)(w:World)(t:Nat):Nat->Nat:=fun b=>if b<w.heap.size then T b else t
theorem xaq (T:Nat->Nat)(w:World)(t:Nat):Ext T (xaF T w t) w:=fun b hb=>by simp[xaF,hb]
theorem xaJ {T:Nat->Nat}{w:World}{t b:Nat}(h:w.heap.size<=b):xaF T w t b=t:=by simp[xaF];omega
def xjd (T:Nat->Nat)(g t:Nat):Nat->Nat:=fun b=>if b=g then t else T b
theorem xez {T:Nat->Nat}{w:World}{g t:Nat}(h:w.heap.size<=g):Ext T (xjd T g t) w:=fun b hb=>by simp[xjd];omega
theorem xdI (T:Nat->Nat)(g t:Nat):xjd T g t g=t:=by simp[xjd]
structure HeapSt (T:Nat->Nat)(w:World)(hv:Value)(g:Nat)(s:Nat->Nat)(xs:List QO):Prop where
 form:∃ cap,hv=.slice (some ⟨g,0,none⟩) xs.length cap/\xs.length<=cap/\cap<=maxLen
 len:xs.length*32<=140737488351232
 there:g<w.heap.size
 tg:T g=2
 obj:∀ i x,xs[i]?=some x->w.cell? ⟨g,i*2,none⟩=some (.int .i64 x.cls)/\w.cell? ⟨g,i*2+1,none⟩=some (.slice (some ⟨s i,0,none⟩) x.slots.length x.slots.length)/\w.heap[s i]?=some (.cells (xam x.slots).toArray 27 (0,0))/\T (s i)=2/\s i≠g/\x.slots.length*16<=140737488351232
 inj:∀ i j,i<xs.length->j<xs.length->s i=s j->i=j
theorem xfz {w:World}{g:Nat}{vs:List QV}{t:TypeId}(h:w.heap[g]?=some (.cells (xam vs).toArray t (0,0))){i:Nat}{x:QV}(hx:vs[i]?=some x):w.cell? ⟨g,i*2,none⟩=some (.int .i64 x.k)/\w.cell? ⟨g,i*2+1,none⟩=some (.int .i64 x.n):=by
 rw[qzB h,qzB h];have:=xbZ hx
 simpa using this
theorem xhM {w:World}{g:Nat}{vs:List QV}{t:TypeId}{P:Nat->Prop}(h:w.heap[g]?=some (.cells (xam vs).toArray t (0,0)))(hP:P g)(hb:vs.length*16<=140737488351232):xaO P w (.slice (some ⟨g,0,none⟩) vs.length vs.length) vs:=by
 refine⟨_,_,rfl,qzC _,by unfold maxLen;omega,hb,fun i x hx=>⟨g,0,rfl,hP,?_⟩⟩
 have:=xfz h hx;simp only[Nat.zero_add]
 exact⟨by simpa using this.1,this.2⟩
theorem HeapSt.heap {T:Nat->Nat}{w:World}{hv:Value}{g:Nat}{s:Nat->Nat}{xs:List QO}(h:HeapSt T w hv g s xs):xaD (Hx T w) w hv xs:=by
 obtain⟨cap,rfl,h1,h2⟩:=h.form;refine⟨_,_,rfl,h1,h2,h.len,fun i x hx=>⟨g,0,rfl,⟨h.there,h.tg⟩,?_⟩⟩
 obtain⟨e1,e2,e3,e4,e5,e6⟩:=h.obj i x hx;simp only[Nat.zero_add]
 exact⟨by simpa using e1,_,e2,xhM e3 ⟨xal e3,e4⟩ e6⟩
theorem HeapSt.keep {T T':Nat->Nat}{S:Nat->Prop}{w w':World}{hv:Value}{g:Nat}{s:Nat->Nat}{xs:List QO}(h:HeapSt T w hv g s xs)(e:Ext T T' w)(k:Kp S T w w')(h2:¬ S 2):HeapSt T' w' hv g s xs:=by
 refine⟨h.form,h.len,qzE h.there k.size,by rw[e g h.there];exact h.tg,fun i x hx=>?_,h.inj⟩
 obtain⟨e1,e2,e3,e4,e5,e6⟩:=h.obj i x hx
 exact⟨k.cell e1 (by rw[h.tg];exact h2),k.cell e2 (by rw[h.tg];exact h2),k.held e3 (by rw[e4];exact h2),by rw[e _ (xal e3)];exact e4,e5,e6⟩
theorem xkM {w:World}{g:Nat}{vs:List QV}{t:TypeId}(h:w.heap[g]?=some (.cells (xam vs).toArray t (0,0)))(j:Nat)(v:QV):((w.setCell ⟨g,j*2,none⟩ (.int .i64 v.k)).setCell ⟨g,j*2+1,none⟩ (.int .i64 v.n)).heap[g]?=some (.cells (xam (vs.set j v)).toArray t (0,0)):=by
 rw[xag (xag h _),← xfk]
 simp
abbrev VV (v:QV):Value:=.agg #[.int .i64 v.k,.int .i64 v.n]
theorem xc7 {P:Nat->Prop}(l:List QV)(lv:Value)(n:Int)(w:World)(h:xaO P w lv l):Calls Tryz.prog 92 #[lv,.int .i64 n] w fun e w'=>e=.returned (VV (xaM l n))/\Below w.heap.size w w':=by
 obtain⟨ad,cap,rfl,hl,hcap,hby,hrow⟩:=h;unfold maxLen at hcap
 by_cases hn:n<0
 ·have HE:Hid (xaM l n=xaU):=by show _=_;unfold xaM;rw[if_pos hn]
  have hn':decide (n<0)=true:=by simpa using hn
  go_enter Tryz.func92,Tryz.ntmps92;go_wp2;refine qzK (v:=VV xaU) ?_ rfl ⟨by rw[HE.out],xak _ _⟩
  simp[results,Tryz.results92,go_sem]
 ·have hn':decide (n<0)=false:=by simpa using hn
  obtain⟨k,rfl⟩:∃ k:Nat,n=k:=⟨n.toNat,by omega⟩
  by_cases hk:k<l.length
  ·have hx:l[k]?=some l[k]:=by simp[hk]
   have HE:Hid (xaM l k=l[k]):=by show _=_;unfold xaM;rw[if_neg hn];simp[hk]
   generalize l[k]=x at *;obtain⟨b,o,rfl,-,h0,h1⟩:=hrow k x hx;simp only[Nat.add_zero] at h0;have c0:=qzA (xak w (.cells #[.int .i64 0,.int .i64 0] 27)) h0;have c1:=qzA (xak w (.cells #[.int .i64 0,.int .i64 0] 27)) h1;have hk1:(k:Int)<(l.length:Int):=by omega
   have hk2:¬ ((l.length:Int)<=(k:Int)):=by omega
   go_enter Tryz.func92,Tryz.ntmps92;go_wp2;refine qzK (v:=VV x) ?_ rfl ⟨by rw[HE.out],xak _ _⟩
   simp[results,Tryz.results92,go_sem]
  ·have HE:Hid (xaM l k=xaU):=by show _=_;unfold xaM;rw[if_neg hn];simp[hk]
   have hk2:((l.length:Int)<=(k:Int)):=by omega
   go_enter Tryz.func92,Tryz.ntmps92;go_wp2;refine qzK (v:=VV xaU) ?_ rfl ⟨by rw[HE.out],xak _ _⟩
   simp[results,Tryz.results92,go_sem]
theorem xld (n:Nat):madeCells #[.int .i64 0,.int .i64 0] (n*2)=(xam (List.replicate n xaU)).toArray:=by
 rw[xhf];unfold madeCells
 apply Array.ext
 ·simp
 ·intro i h1 h2
  simp
  rcases Nat.mod_two_eq_zero_or_one i with h | h<;>simp[h]
theorem xfW (n:Int)(w:World):Calls Tryz.prog 93 #[.int .i64 n] w fun e w'=>∃ g,e=.returned (.slice (some ⟨g,0,none⟩) (xaG n).length (xaG n).length)/\w'.heap[g]?=some (.cells (xam (xaG n)).toArray 27 (0,0))/\w.heap.size<=g/\Below w.heap.size w w':=by
 by_cases hn:n<0
 ·have HR:Hid (xaG n=List.replicate 0 xaU):=by show _=_;unfold xaG;congr 1;omega
  have hmk:∀ w:World,(Instr.makeSlice 28 (.int .i64 0) (.int .i64 0)).run Tryz.prog w=.ok (.slice (some ⟨w.heap.size,0,none⟩) 0 0) (w.alloc (.cells (madeCells #[.int .i64 0,.int .i64 0] (0*2)) 27)):=xcH 0 (by omega)
  have hn':decide (n<0)=true:=by simpa using hn
  go_enter Tryz.func93,Tryz.ntmps93;go_wp2
  go_ret
  rw[HR.out,List.length_replicate]
  exact⟨_,rfl,by rw[← xld];exact qzJ _ _,qzC _,xak _ _⟩
 ·obtain⟨m,rfl⟩:∃ m:Nat,n=(m:Int):=⟨n.toNat,by omega⟩
  by_cases hm4:m<=40
  ·have HR:Hid (xaG m=List.replicate m xaU):=by show _=_;unfold xaG;congr 1;omega
   have hmk:=xcH m (by omega)
   have hm5:(m:Int)<=40:=by omega
   have hm6:¬ (40<(m:Int)):=by omega
   go_enter Tryz.func93,Tryz.ntmps93;go_wp2
   go_ret
   rw[HR.out,List.length_replicate]
   exact⟨_,rfl,by rw[← xld];exact qzJ _ _,qzC _,xak _ _⟩
  ·have HR:Hid (xaG m=List.replicate 40 xaU):=by show _=_;unfold xaG;congr 1;omega
   have hmk:∀ w:World,(Instr.makeSlice 28 (.int .i64 40) (.int .i64 40)).run Tryz.prog w=.ok (.slice (some ⟨w.heap.size,0,none⟩) 40 40) (w.alloc (.cells (madeCells #[.int .i64 0,.int .i64 0] (40*2)) 27)):=xcH 40 (by omega)
   have hm5:40<(m:Int):=by omega
   go_enter Tryz.func93,Tryz.ntmps93;go_wp2
   go_ret
   rw[HR.out,List.length_replicate]
   exact⟨_,rfl,by rw[← xld];exact qzJ _ _,qzC _,xak _ _⟩
theorem xfp (l:List QV)(g:Nat)(n:Int)(v:QV)(w:World)(h:w.heap[g]?=some (.cells (xam l).toArray 27 (0,0))):Calls Tryz.prog 102 #[.slice (some ⟨g,0,none⟩) l.length l.length,.int .i64 n,VV v] w fun e w'=>e=.returned (.tuple #[])/\w'.heap[g]?=some (.cells (xam (xaW l n v)).toArray 27 (0,0))/\w.heap.size<w'.heap.size/\∀ (S:Nat->Prop) (T:Nat->Nat),S (T g)->Kp S T w w':=by
 have hgl:=xal h;have hb1:=xak w (.cells #[.int .i64 v.k,.int .i64 v.n] 27);have h1:=xad h hb1
 by_cases hn:n<0
 ·have HE:Hid (xaW l n v=l):=by show _=_;unfold xaW;rw[if_pos hn]
  have hn':decide (0<=n)=false:=by simpa using hn
  go_enter Tryz.func102,Tryz.ntmps102;go_wp2;refine bodyPost_end (v:=.tuple #[]) (by simp[results,Tryz.results102,go_sem]) rfl ⟨rfl,by rw[HE.out];exact h1,by simp,fun S T hs=>Kp.of_below (xak _ _)⟩
 ·obtain⟨k,rfl⟩:∃ k:Nat,n=k:=⟨n.toNat,by omega⟩
  have HE:Hid (xaW l k v=l.set k v):=by show _=_;unfold xaW;rw[if_neg hn];simp
  have hn':decide (0<=(k:Int))=true:=by simp
  by_cases hk:k<l.length
  ·have hk1:(k:Int)<(l.length:Int):=by omega
   obtain⟨c0,c1⟩:=xfz h1 (show l[k]?=some l[k] by simp[hk])
   have f0:∀ o,(w.alloc (.cells #[.int .i64 v.k,.int .i64 v.n] 27)).frozen? ⟨g,o,none⟩=false:=fun o=>by unfold World.frozen?;simp only[h1];simp
   have hset:=xkM h1 k v;have b0:=(xaa w #[.int .i64 v.k,.int .i64 v.n] 27 _ rfl 0);have b1:=(xaa w #[.int .i64 v.k,.int .i64 v.n] 27 _ rfl 1);have HK:Hid (∀ (S:Nat->Prop) (T:Nat->Nat),Kp S T w (w.alloc (.cells #[.int .i64 v.k,.int .i64 v.n] 27))):=fun S T=>Kp.of_below (xak _ _)
   have hz:w.heap.size<(w.alloc (.cells #[.int .i64 v.k,.int .i64 v.n] 27)).heap.size:=by simp
   have hne:¬ w.heap.size=g:=by omega
   have hne':¬ g=w.heap.size:=by omega
   go_enter Tryz.func102,Tryz.ntmps102
   go_upto_region 1 with (fail)
   generalize (w.alloc (.cells #[.int .i64 v.k,.int .i64 v.n] 27))=W at *
   simp at b0 b1
   go_wp2;refine bodyPost_end (v:=.tuple #[]) (by simp[results,Tryz.results102,go_sem]) rfl ⟨rfl,by rw[HE.out];exact hset,by simpa using hz,fun S T hs=>((HK.out S T).set (fun _=>hs) _ _).set (fun _=>hs) _ _⟩
  ·have hk1:((l.length:Int)<=(k:Int)):=by omega
   have hs:l.set k v=l:=List.set_eq_of_length_le (by omega)
   go_enter Tryz.func102,Tryz.ntmps102;go_wp2;refine bodyPost_end (v:=.tuple #[]) (by simp[results,Tryz.results102,go_sem]) rfl ⟨rfl,by rw[HE.out,hs];exact h1,by simp,fun S T hs=>Kp.of_below (xak _ _)⟩
theorem hid {p:Prop}(h:p):Hid p:=h
theorem xaw {P:Program}{ops:Array Oper}{o:Oper}{a:Act}{w w':World}{K:Act->World->Prop}{Q:Exit->Act->World->Prop}{E:Prop}(hg:o.guard=none)(s x:Operand)(T:TypeId)(hop:o.op=Op.call { callee:=Callee.builtin Builtin.append,args:=#[s,x],argTypes:=#[T,T] })
  (vs vx v':Value) (hs:a.eval s=vs) (hx:a.eval x=vx) (hrun:(Builtin.append_ #[T,T] o.type #[vs,vx]).run P w=.ok v' w') (hK:K (a.put o.dst v') w'):if Region.wanted o (yielded ops a.tmps)=true then Oper.wp P o a w K Q else E:=by
 have hw:Region.wanted o (yielded ops a.tmps)=true:=by simp[Region.wanted,hg]
 rw[if_pos hw];unfold Oper.wp
 simp[execOp,hop,resolve,invoke,builtin,hs,hx,hrun,Result.andThen]
 exact hK
theorem xap {w:World}{b:Nat}{cur:Array Value}{t:TypeId}(h:w.heap[b]?=some (.cells cur t (0,0)))(o:Nat):w.frozen? ⟨b,o,none⟩=false:=by unfold World.frozen?;simp[h]
theorem ownsAt.vals {w:World}{base:Nat}{v:Value}{xs:List QV}(h:ownsAt w base 27 2 v xs.length (xam xs))(hb:xs.length*16<=140737488351232):xaO (fun b=>v.ownBlock=some b) w v xs:=by
 obtain⟨h1,⟨rfl,h2⟩ | ⟨g,o,cap,cur,rfl,h3,h4,h5,h6,h7,h8⟩⟩:=h
 ·have:xs=[]:=List.eq_nil_of_length_eq_zero h2;subst this
  exact⟨none,0,rfl,by simp,by simp,by simp,fun i x hx=>by simp at hx⟩
 ·refine⟨_,_,rfl,h5,h6,hb,fun i x hx=>⟨g,o,rfl,rfl,?_⟩⟩
  have hi:=xae hx
  have hcell:∀ j,j<xs.length*2->w.cell? ⟨g,o+j,none⟩=(xam xs)[j]?:=fun j hj=>by
   rw[← h8,qzB h4,List.getElem?_take,if_pos hj,List.getElem?_drop]
   simp
  obtain⟨e1,e2⟩:=xbZ hx
  exact⟨by show w.cell? ⟨g,o+i*2+0,none⟩=_;rw[Nat.add_zero,hcell _ (by omega)];exact e1,by show w.cell? ⟨g,o+i*2+1,none⟩=_;rw[Nat.add_assoc,hcell _ (by omega)];exact e2⟩
theorem ownsAt.take {w:World}{base n:Nat}{a:Option Addr}{cap:Nat}{xs:List QV}(h:ownsAt w base 27 2 (.slice a n cap) n (xam xs)){k:Nat}(hk:k<=n):ownsAt w base 27 2 (.slice a k cap) k (xam (xs.take k)):=by
 have hx:xs.length=n:=by have:=h.1;rw[xbA] at this;omega
 obtain⟨h1,⟨e,h2⟩ | ⟨g,o,cap',cur,e,h3,h4,h5,h6,h7,h8⟩⟩:=h
 ·cases e
  obtain rfl:k=0:=by omega
  exact⟨by simp[xam],Or.inl ⟨rfl,rfl⟩⟩
 ·cases e
  refine⟨by rw[xbA,List.length_take];omega,Or.inr ⟨g,o,cap,cur,rfl,h3,h4,by omega,h6,h7,?_⟩⟩
  rw[← xeo,← h8,List.take_take]
  congr 1
  omega
theorem ownsAt.base {w:World}{base base':Nat}{e:TypeId}{sz:Nat}{v:Value}{n:Nat}{xs:List Value}(h:ownsAt w base e sz v n xs)(hb:∀ g,v.ownBlock=some g->base'<=g):ownsAt w base' e sz v n xs:=by
 obtain⟨h1,h2 | ⟨g,o,cap,cur,rfl,h3,h4,h5⟩⟩:=h
 ·exact⟨h1,Or.inl h2⟩
 ·exact⟨h1,Or.inr ⟨g,o,cap,cur,rfl,hb g (by simp[Value.ownBlock]),h4,h5⟩⟩
abbrev FB (f:Fr)(cv av tv sv kv:Value):Obj:=.cells #[.int .i64 f.cls,.string f.meth.name,.int .i64 f.meth.args,.int .i64 f.meth.temps,.int .i64 f.meth.prim,cv,.int .i64 f.self.k,.int .i64 f.self.n,av,tv,sv,kv,.int .i64 f.pc,.bool f.fast] 149 (0,0)
structure FrAt (T:Nat->Nat)(K:Nat)(w:World)(fb:Nat)(f:Fr)(cv av tv sv kv:Value):Prop where
 box:w.heap[fb]?=some (FB f cv av tv sv kv)
 tag:T fb=K
 args:xaO (Fx T w) w av f.args
 temps:∃ tb,tv=.slice (some ⟨tb,0,none⟩) f.temps.length f.temps.length/\w.heap[tb]?=some (.cells (xam f.temps).toArray 27 (0,0))/\T tb=K+1/\f.temps.length<=40
 stack:ownsAt w 0 27 2 sv f.stack.length (xam f.stack)
 stag:∀ g,sv.ownBlock=some g->T g=K+2
 few:f.stack.length<=1000000000
 code:xaR (Fx T w) w kv f.code
 meth:xaR (Fx T w) w cv f.meth.code
 pos:5<=K
section
variable {T T':Nat->Nat} {K:Nat} {w w':World} {fb:Nat} {f:Fr} {cv av tv sv kv:Value}
theorem FrAt.keep {S:Nat->Prop}(h:FrAt T K w fb f cv av tv sv kv)(e:Ext T T' w)(k:Kp S T w w')(h0:¬ S 0)(h1:¬ S K)(h2:¬ S (K+1))(h3:¬ S (K+2)):FrAt T' K w' fb f cv av tv sv kv:=by
 obtain⟨tb,e1,e2,e3,e4⟩:=h.temps;refine⟨k.held h.box (by rw[h.tag];exact h1),by rw[e _ (xal h.box)];exact h.tag,h.args.fx xa1 e k h0,⟨tb,e1,k.held e2 (by rw[e3];exact h2),by rw[e _ (xal e2)];exact e3,e4⟩,h.stack.keep fun g hg=>k.blk g (h.stack.lt g hg).2 (by rw[h.stag g hg];exact h3),fun g hg=>by rw[e _ (h.stack.lt g hg).2];exact h.stag g hg,h.few,h.code.fx xa2 e k h0,h.meth.fx xa2 e k h0,h.pos⟩
theorem FrAt.later (h:FrAt T K w fb f cv av tv sv kv)(hb:Below w.heap.size w w'):FrAt T K w' fb f cv av tv sv kv:=h.keep (S:=fun _=>False) (.refl _ _) (.of_below hb) id id id id
theorem FrAt.turn {f':Fr}{sv':Value}(h:FrAt T K w fb f cv av tv sv kv)(k:Kp (fun t=>t=K) T w w')(hb:w'.heap[fb]?=some (FB f' cv av tv sv' kv))(e1:f'.args=f.args)(e2:f'.temps=f.temps)(e3:f'.code=f.code)(e4:f'.meth=f.meth)(hs:ownsAt w 0 27 2 sv' f'.stack.length (xam f'.stack))(ho:∀ g,sv'.ownBlock=some g->T g=K+2)(hf:f'.stack.length<=1000000000):FrAt T K w' fb f' cv av tv sv' kv:=by
 obtain⟨tb,d1,d2,d3,d4⟩:=h.temps;have hp:=h.pos;refine⟨hb,h.tag,by rw[e1];exact h.args.fx xa1 (.refl _ _) k (by omega),⟨tb,by rw[e2];exact d1,by rw[e2];exact k.held d2 (by rw[d3];omega),d3,by rw[e2];exact d4⟩,hs.keep fun g hg=>k.blk g (hs.lt g hg).2 (by rw[ho g hg];omega),ho,hf,by rw[e3];exact h.code.fx xa2 (.refl _ _) k (by omega),by rw[e4];exact h.meth.fx xa2 (.refl _ _) k (by omega),hp⟩
theorem FrAt.cut {a:Option Addr}{cap m:Nat}(h:FrAt T K w fb f cv av tv (.slice a f.stack.length cap) kv)(k:Kp (fun t=>t=K) T w w')(hb:w'.heap[fb]?=some (FB { f with stack:=f.stack.take m } cv av tv (.slice a m cap) kv))(hm:m<=f.stack.length):FrAt T K w' fb { f with stack:=f.stack.take m } cv av tv (.slice a m cap) kv:=by
 have hl:(f.stack.take m).length=m:=by rw[List.length_take];omega
 refine h.turn k hb rfl rfl rfl rfl ?_ (fun g hg=>h.stag g (by cases a<;>exact hg)) (by show (f.stack.take m).length<=_;rw[hl];have:=h.few;omega)
 show ownsAt w 0 27 2 _ (f.stack.take m).length _
 rw[hl]
 exact h.stack.take hm
theorem FrAt.vals (h:FrAt T K w fb f cv av tv sv kv):xaO (fun b=>sv.ownBlock=some b) w sv f.stack:=h.stack.vals (by have:=h.few;omega)
end
theorem xoI {n:Nat}(h:n<=1000000000)(k:Int)(hk:0<=k/\k<=9223372036854775807):IntKind.i64.wrap (IntKind.i64.wrap ((n:Int)-1)-k)=(n:Int)-1-k:=by
 rw[xat (n:=(n:Int)-1) (by omega) (by omega),xat (by omega) (by omega)]
theorem xgq {T:Nat->Nat}{K:Nat}{w:World}{fb:Nat}{f:Fr}{cv av tv sv kv:Value}(h:FrAt T K w fb f cv av tv sv kv)(n:Int)(hn:0<=n/\n<=9223372036854775807):Calls Tryz.prog 99 #[.pointer (some ⟨fb,0,none⟩),.int .i64 n] w fun e w'=>e=.returned (VV (xaQ f.stack n))/\Below w.heap.size w w':=by
 have hv:=h.vals;have hlt:=xal h.box;have c0:w.cell? ⟨fb,10,none⟩=some sv:=by rw[qzB h.box];rfl
 have hfew:=h.few;have HR:Hid (IntKind.i64.wrap (IntKind.i64.wrap ((f.stack.length:Int)-1)-n)=(f.stack.length:Int)-1-n):=xoI hfew n hn;clear h;obtain⟨a,cap,rfl,-⟩:=id hv;have hb1:Below w.heap.size w (w.alloc (.cells #[.int .i64 0,.int .i64 0] 27)).drew:=(xak w _).drew;have hv1:=hv.later xa1 hb1;have c1:=qzA hb1 c0;have r0:(w.alloc (.cells #[.int .i64 0,.int .i64 0] 27)).drew.cell? ⟨w.heap.size,0,none⟩=some (.int .i64 0):=xaa w #[.int .i64 0,.int .i64 0] 27 _ rfl 0;have r1:(w.alloc (.cells #[.int .i64 0,.int .i64 0] 27)).drew.cell? ⟨w.heap.size,1,none⟩=some (.int .i64 0):=xaa w #[.int .i64 0,.int .i64 0] 27 _ rfl 1
 have rf:∀ o,(w.alloc (.cells #[.int .i64 0,.int .i64 0] 27)).drew.frozen? ⟨w.heap.size,o,none⟩=false:=xap (qzJ w (.cells #[.int .i64 0,.int .i64 0] 27));have hz:w.heap.size<(w.alloc (.cells #[.int .i64 0,.int .i64 0] 27)).drew.heap.size:=by simp
 clear hv c0;go_enter Tryz.func99,Tryz.ntmps99
 go_upto_region 1 with (fail)
 generalize (w.alloc (.cells #[.int .i64 0,.int .i64 0] 27))=W at *
 go_region_held3 (fun w'=>w'.cell? ⟨fb,10,none⟩=some (Value.slice a f.stack.length cap))
  (first | with_reducible exact c1 | with_reducible exact c2 | exact (qzI _ _ _ _ (by simp;omega)).trans ((qzI _ _ _ _ (by simp;omega)).trans c2))
  (first | (go_at_call 92;rw[HR.out];refine (xc7 f.stack _ _ _ hv1).mono ?_;rintro e w1 ⟨rfl,hb2⟩;have c2:=qzA hb2 c1;have s0:=qzA hb2 r0;have s1:=qzA hb2 r1;have sf:∀ o,w1.frozen? ⟨w.heap.size,o,none⟩=false:=fun o=>(hb2.frozen (p:=⟨w.heap.size,o,none⟩) hz).trans (rf o)))
 go_wp2;refine qzK (v:=VV (xaQ f.stack n)) ?_ rfl ⟨rfl,((xaf hb1 hb2).setCell (by simp) _).setCell (by simp) _⟩
 simp[results,Tryz.results99,go_sem,s0,s1]
 exact⟨rfl,rfl⟩
theorem xgf (w:World):w.drew.heap=w.heap:=rfl
theorem xfB {w:World}{fb:Nat}{f:Fr}{cv av tv sv kv:Value}(h:w.heap[fb]?=some (FB f cv av tv sv kv))(l:List QV)(sv':Value):(w.setCell ⟨fb,10,none⟩ sv').heap[fb]?=some (FB { f with stack:=l } cv av tv sv' kv):=by
 rw[xag h];rfl
theorem xen {T:Nat->Nat}{K:Nat}{w:World}{fb:Nat}{f:Fr}{cv av tv sv kv:Value}(h:FrAt T K w fb f cv av tv sv kv):Calls Tryz.prog 94 #[.pointer (some ⟨fb,0,none⟩)] w fun e w'=>e=.returned (VV f.top)/\(∃ sv',FrAt T K w' fb f.pop cv av tv sv' kv)/\Kp (fun t=>t=K) T w w':=by
 have hlt:=xal h.box;have hb1:Below w.heap.size w (w.alloc (.cells #[.int .i64 0,.int .i64 0] 27)):=xak w _;have h1:=h.later hb1;have r0:(w.alloc (.cells #[.int .i64 0,.int .i64 0] 27)).cell? ⟨w.heap.size,0,none⟩=some (.int .i64 0):=xaa w #[.int .i64 0,.int .i64 0] 27 _ rfl 0;have r1:(w.alloc (.cells #[.int .i64 0,.int .i64 0] 27)).cell? ⟨w.heap.size,1,none⟩=some (.int .i64 0):=xaa w #[.int .i64 0,.int .i64 0] 27 _ rfl 1;have rf:∀ o,(w.alloc (.cells #[.int .i64 0,.int .i64 0] 27)).frozen? ⟨w.heap.size,o,none⟩=false:=xap (qzJ w (.cells #[.int .i64 0,.int .i64 0] 27));have hz:w.heap.size<(w.alloc (.cells #[.int .i64 0,.int .i64 0] 27)).heap.size:=by simp
 have HF:Hid (FrAt T K w fb f cv av tv sv kv):=h;have hfew:=h.few;clear h;go_enter Tryz.func94,Tryz.ntmps94
 go_upto_region 1 with (fail)
 generalize (w.alloc (.cells #[.int .i64 0,.int .i64 0] 27))=W at *;go_wp2_with fail;refine (xgq h1 0 ⟨by omega,by omega⟩).mono ?_
 rintro e w1 ⟨rfl,hb2⟩;have h2:=h1.later hb2;have hbb:=xaf hb1 hb2;have s0:=qzA hb2 r0;have s1:=qzA hb2 r1;have sf:∀ o,w1.frozen? ⟨w.heap.size,o,none⟩=false:=fun o=>(hb2.frozen (p:=⟨w.heap.size,o,none⟩) hz).trans (rf o)
 have c0:w1.cell? ⟨fb,10,none⟩=some sv:=by rw[qzB h2.box];rfl
 have cf:=xap h2.box;have hz2:=hb2.size;have hzz:¬ fb=w.heap.size:=by omega
 have hzz':¬ w.heap.size=fb:=by omega
 have hbx:=h2.box;have hst:=h2.stack;have hl1:fb<w1.heap.size:=by omega
 have hl2:w.heap.size<w1.heap.size:=by omega
 obtain⟨a,cap,rfl,hc1,hc2⟩:=hst.form;unfold maxLen at hc2;have HT:Hid (f.top=xaQ f.stack 0):=rfl;have HS:Hid (ownsAt w1 0 27 2 (.slice a f.stack.length cap) f.stack.length (xam f.stack)):=hst;have H2:Hid (FrAt T K w1 fb f cv av tv (.slice a f.stack.length cap) kv):=h2;have HX:Hid (w1.heap[fb]?=some (FB f cv av tv (.slice a f.stack.length cap) kv)):=hbx;clear h1 h2 r0 r1 rf hst hbx hb1 hb2;obtain⟨v,hv⟩:∃ v,v=xaQ f.stack 0:=⟨_,rfl⟩;rw[← hv] at HT ⊢;clear hv;go_wp2;have HK:Hid (Kp (fun t=>t=K) T w1 (w1.alloc (.cells #[.int .i64 v.k,.int .i64 v.n] 27))):=Kp.of_below (xak _ _)
 have H3:Hid (FrAt T K (w1.alloc (.cells #[.int .i64 v.k,.int .i64 v.n] 27)) fb f cv av tv (.slice a f.stack.length cap) kv):=H2.out.later (xak _ _);have d0:=qzA (xak w1 (.cells #[.int .i64 v.k,.int .i64 v.n] 27)) c0;have df:∀ o,(w1.alloc (.cells #[.int .i64 v.k,.int .i64 v.n] 27)).frozen? ⟨fb,o,none⟩=false:=xap H3.out.box;have u0:=qzA (xak w1 (.cells #[.int .i64 v.k,.int .i64 v.n] 27)) s0;have u1:=qzA (xak w1 (.cells #[.int .i64 v.k,.int .i64 v.n] 27)) s1;have uf:∀ o,(w1.alloc (.cells #[.int .i64 v.k,.int .i64 v.n] 27)).frozen? ⟨w.heap.size,o,none⟩=false:=fun o=>((xak w1 _).frozen (p:=⟨w.heap.size,o,none⟩) hl2).trans (sf o)
 have b0:(w1.alloc (.cells #[.int .i64 v.k,.int .i64 v.n] 27)).cell? ⟨w1.heap.size,0,none⟩=some (.int .i64 v.k):=xaa _ _ _ _ rfl 0;have b1:(w1.alloc (.cells #[.int .i64 v.k,.int .i64 v.n] 27)).cell? ⟨w1.heap.size,1,none⟩=some (.int .i64 v.n):=xaa _ _ _ _ rfl 1;have n1:¬ w1.heap.size=fb:=by omega
 have n2:¬ w1.heap.size=w.heap.size:=by omega
 have n3:¬ w.heap.size=w1.heap.size:=by omega
 have n4:¬ fb=w1.heap.size:=by omega
 have HBV:Hid (Below w.heap.size w (w1.alloc (.cells #[.int .i64 v.k,.int .i64 v.n] 27))):=xaf hbb (xak _ _);clear s0 s1 sf c0 cf H2 HS HX;generalize (w1.alloc (.cells #[.int .i64 v.k,.int .i64 v.n] 27))=V at *;have HL:Hid (f.pop={ f with stack:=f.stack.take (f.stack.length-1) }):=by show _=_;unfold Fr.pop;rw[List.dropLast_eq_take]
 by_cases h0:f.stack.length=0
 ·have hw:IntKind.i64.wrap (((0:Nat):Int)-1)=-1:=by rfl
  have h0':Hid (f.stack.length-1=0):=by show _=_;omega
  rw[h0] at d0
  go_region
  go_wp2;refine qzK (v:=VV v) ?_ rfl ⟨by rw[HT.out],⟨.slice a 0 cap,?_⟩,?_⟩
  ·simp[results,Tryz.results94,go_sem,u0,u1,n2,n3]
  ·rw[HL.out,h0'.out];refine HF.out.cut (m:=0) ?_ ?_ (by omega)
   ·exact (((((Kp.of_below HBV.out).set (fun _=>HF.out.tag) _ _).set (fun h=>absurd h (Nat.lt_irrefl _)) _ _).set (fun h=>absurd h (Nat.lt_irrefl _)) _ _)).drew
   ·rw[xgf,xac hzz,xac hzz]
    exact xfB H3.out.box _ _
  ·exact (((((Kp.of_below HBV.out).set (fun _=>HF.out.tag) _ _).set (fun h=>absurd h (Nat.lt_irrefl _)) _ _).set (fun h=>absurd h (Nat.lt_irrefl _)) _ _)).drew
 ·obtain⟨m,hm⟩:∃ m,f.stack.length=m+1:=⟨f.stack.length-1,by omega⟩
  have hw:IntKind.i64.wrap ((f.stack.length:Int)-1)=(m:Int):=by rw[hm,xat (by omega) (by omega)];omega
  have hm0:¬ ((m:Int)<0):=by omega
  have hm1:m<=cap:=by omega
  have hm2:(m:Int)<=(cap:Int):=by omega
  have HM:Hid (f.stack.length-1=m):=by show _=_;omega
  have HM2:Hid (m<=f.stack.length):=by show _<=_;omega
  clear hm h0;generalize hL:f.stack.length=L at hw d0
  go_region
  go_wp2;refine qzK (v:=VV v) ?_ rfl ⟨by rw[HT.out],⟨.slice a m cap,?_⟩,?_⟩
  ·simp[results,Tryz.results94,go_sem,u0,u1,n2,n3]
  ·rw[HL.out,HM.out];refine HF.out.cut (m:=m) ?_ ?_ HM2.out
   ·exact (((((Kp.of_below HBV.out).set (fun _=>HF.out.tag) _ _).set (fun h=>absurd h (Nat.lt_irrefl _)) _ _).set (fun h=>absurd h (Nat.lt_irrefl _)) _ _)).drew
   ·rw[xgf,xac hzz,xac hzz]
    exact xfB H3.out.box _ _
  ·exact (((((Kp.of_below HBV.out).set (fun _=>HF.out.tag) _ _).set (fun h=>absurd h (Nat.lt_irrefl _)) _ _).set (fun h=>absurd h (Nat.lt_irrefl _)) _ _)).drew
theorem FrAt.pushed {T:Nat->Nat}{K:Nat}{w U w':World}{fb:Nat}{f:Fr}{cv av tv sv sv' kv:Value}{v:QV}(h:FrAt T K w fb f cv av tv sv kv)(hU:Below w.heap.size w U)(hn:f.stack.length<1000000000)
  (r1:ownsAt w' 0 27 2 sv' (f.stack.length+1) (xam f.stack++[.int .i64 v.k,.int .i64 v.n])) (r2:sv'.ownBlock=sv.ownBlock\/∃ g,sv'.ownBlock=some g/\U.heap.size<=g) (r3:Below 0 U w') (r4:∀ b,b<U.heap.size->some b≠sv.ownBlock->w'.heap[b]?=U.heap[b]?) (hx:w'.heap[fb]?=some (FB f cv av tv sv kv)) :
  (∃ T',Ext T T' w/\FrAt T' K (w'.setCell ⟨fb,10,none⟩ sv') fb (f.push v) cv av tv sv' kv)/\Kp (fun t=>t=K\/t=K+2) T w (w'.setCell ⟨fb,10,none⟩ sv'):=by
 have hlt:=xal h.box;have hp:=h.pos
 have kU:Kp (fun t=>t=K\/t=K+2) T w w':=⟨r3.os.trans hU.os,r3.tape.trans hU.tape,r3.output.trans hU.output,qzD hU.size r3.size,fun b hb hs=>by
  rw[r4 b (qzE hb hU.size) (fun e=>hs (Or.inr (h.stag b e.symm))),hU.block b hb]⟩
 have k:=kU.set (b:=fb) (fun _=>Or.inl h.tag) 10 sv'
 obtain⟨T',hT,hg⟩:∃ T',Ext T T' w/\∀ g,sv'.ownBlock=some g->T' g=K+2:=by
  rcases r2 with e | ⟨g,e,hg⟩
  ·exact⟨T,.refl _ _,fun g hg=>h.stag g (by rw[← e];exact hg)⟩
  ·exact⟨xjd T g (K+2),xez (qzD hU.size hg),fun g' h'=>by rw[e] at h';cases h';exact xdI _ _ _⟩
 refine⟨⟨T',hT,?_⟩,k⟩;obtain⟨tb,d1,d2,d3,d4⟩:=h.temps;refine⟨xfB hx (f.stack++[v]) sv',by rw[hT _ hlt];exact h.tag,h.args.fx xa1 hT k (by omega),⟨tb,d1,k.held d2 (by rw[d3];omega),by rw[hT _ (xal d2)];exact d3,d4⟩,?_,hg,?_,h.code.fx xa2 hT k (by omega),h.meth.fx xa2 hT k (by omega),hp⟩
 ·have r1':ownsAt w' 0 27 2 sv' (f.push v).stack.length (xam (f.push v).stack):=by
   show ownsAt w' 0 27 2 sv' (f.stack++[v]).length (xam (f.stack++[v]))
   rw[xcA,List.length_append]
   exact r1
  exact r1'.keep fun g hg'=>xac (fun e=>by have:=hg g hg';rw[e,hT _ hlt,h.tag] at this;omega) _
 ·show (f.stack++[v]).length<=_
  simp;omega
theorem xew {T:Nat->Nat}{K:Nat}{w:World}{fb:Nat}{f:Fr}{cv av tv sv kv:Value}(h:FrAt T K w fb f cv av tv sv kv)(v:QV)(hroom:f.stack.length<1000000000):Calls Tryz.prog 101 #[.pointer (some ⟨fb,0,none⟩),VV v] w fun e w'=>e=.returned (.tuple #[])/\(∃ T' sv',Ext T T' w/\FrAt T' K w' fb (f.push v) cv av tv sv' kv)/\Kp (fun t=>t=K\/t=K+2) T w w':=by
 have hlt:=xal h.box;have h1:=h.later (xak w (.cells #[.int .i64 v.k,.int .i64 v.n] 27));have b0:(w.alloc (.cells #[.int .i64 v.k,.int .i64 v.n] 27)).cell? ⟨w.heap.size,0,none⟩=some (.int .i64 v.k):=xaa _ _ _ _ rfl 0;have b1:(w.alloc (.cells #[.int .i64 v.k,.int .i64 v.n] 27)).cell? ⟨w.heap.size,1,none⟩=some (.int .i64 v.n):=xaa _ _ _ _ rfl 1;have HBV:Hid (Below w.heap.size w (w.alloc (.cells #[.int .i64 v.k,.int .i64 v.n] 27))):=xak _ _;go_enter Tryz.func101,Tryz.ntmps101
 go_upto_region 1 with (fail)
 generalize (w.alloc (.cells #[.int .i64 v.k,.int .i64 v.n] 27))=V at *;have c0:V.cell? ⟨fb,10,none⟩=some sv:=by rw[qzB h1.box];rfl
 have cf:=xap h1.box;have hl1:fb<V.heap.size:=xal h1.box;have hl2:¬ fb=V.heap.size:=by omega
 have hst:ownsAt (V.alloc (.cells #[.int .i64 v.k,.int .i64 v.n] 27)).drew 0 27 2 sv f.stack.length (xam f.stack):=(h1.stack.alloc _).keep fun g hg=>rfl
 obtain⟨v',w',hrun,r1,r2,r3,r4⟩:=xaL (w:=(V.alloc (.cells #[.int .i64 v.k,.int .i64 v.n] 27)).drew) 28 28 27 _ 2 16 Tryz.underlying28 xcg rfl (by omega) 0 f.stack.length sv (xam f.stack) hst V.heap.size [.int .i64 v.k,.int .i64 v.n] rfl (qzJ V _) (by simp;exact⟨rfl,rfl⟩) (by unfold maxLen;omega) (by omega) (by omega)
 obtain⟨a,cap,rfl,hc1,hc2⟩:=h1.stack.form;obtain⟨a',cap',rfl,-⟩:=r1.form;have R1:Hid (ownsAt w' 0 27 2 (.slice a' (f.stack.length+1) cap') (f.stack.length+1) (xam f.stack++[.int .i64 v.k,.int .i64 v.n])):=r1;have R2:=hid r2;have R4:=hid r4;have HB3:Hid (Below 0 _ w'):=r3;have hnb:some fb≠(Value.slice a f.stack.length cap).ownBlock:=fun e=>by have:=h1.stag fb e.symm;rw[h1.tag] at this;omega
 have hbx:w'.heap[fb]?=some (FB f cv av tv (.slice a f.stack.length cap) kv):=by
  rw[r4 fb (by simp;omega) hnb];exact xad h1.box (xak _ _).drew
 have d0:w'.cell? ⟨fb,10,none⟩=some (.slice a f.stack.length cap):=by rw[qzB hbx];rfl
 have df:=xap hbx;have HX:=hid hbx;have H0:=hid h;have HBU:Hid (Below w.heap.size w (V.alloc (.cells #[.int .i64 v.k,.int .i64 v.n] 27)).drew):=xaf HBV.out (xak _ _).drew;clear r1 r2 r3 r4 hst h1 hbx hnb h
 go_region_law (refine xaw rfl (.tmp 8) (.tmp 10) 28 rfl (.slice a f.stack.length cap) (.slice (some ⟨V.heap.size,0,none⟩) 1 1) (.slice a' (f.stack.length+1) cap') (by simp[Act.eval,Act.put]) (by simp[Act.eval,Act.put]) hrun ?_)
 all_goals (
  go_wp2;obtain⟨⟨T',e1,e2⟩,e3⟩:=H0.out.pushed (v:=v) HBU.out hroom R1.out R2.out HB3.out R4.out HX.out
  exact bodyPost_end (v:=.tuple #[]) (by simp[results,Tryz.results101,go_sem]) rfl ⟨rfl,⟨T',_,e1,e2⟩,e3⟩)
theorem xfs {h h':Int}{v:QV}(hv:xax h v=0)(hh:h<=h'):xax h' v=0:=by
 unfold xax xcu at hv ⊢
 split at hv
 ·cases hv
 ·split at hv
  ·rename_i a b;rw[if_neg a,if_pos b];exact hv
  ·split at hv
   ·rename_i a b c;rw[if_neg a,if_neg b,if_pos c];exact hv
   ·rename_i a b c;rw[if_neg a,if_neg b,if_neg c]
    split at hv
    ·cases hv
    ·rename_i d;rw[if_neg (by omega)]
theorem xa5 (h:Int):xax h xaU=0:=by simp[xax,xcu]
def VsOk (h:Int)(l:List QV):Prop:=∀ v∈l,xax h v=0
theorem VsOk.later {h h':Int}{l:List QV}(hl:VsOk h l)(hh:h<=h'):VsOk h' l:=fun v hv=>xfs (hl v hv) hh
theorem VsOk.entry {h:Int}{l:List QV}(hl:VsOk h l)(n:Int):xax h (xaM l n)=0:=by
 unfold xaM
 split
 ·exact xa5 h
 ·cases hq:l[n.toNat]? with
  | none=>exact xa5 h
  | some v=>exact hl v (List.mem_of_getElem? hq)
theorem VsOk.setEntry {h:Int}{l:List QV}(hl:VsOk h l)(n:Int){x:QV}(hx:xax h x=0):VsOk h (xaW l n x):=by
 unfold xaW
 split
 ·exact hl
 ·intro v hv
  rcases List.mem_or_eq_of_mem_set hv with h1 | rfl
  ·exact hl v h1
  ·exact hx
theorem xbE (l:List QV)(n:Int)(x:QV):(xaW l n x).length=l.length:=by unfold xaW;split<;>simp
theorem VsOk.append {h:Int}{l:List QV}(hl:VsOk h l){x:QV}(hx:xax h x=0):VsOk h (l++[x]):=fun v hv=>by
 simp at hv
 rcases hv with h1 | rfl
 ·exact hl v h1
 ·exact hx
theorem VsOk.sub {h:Int}{l k:List QV}(hl:VsOk h l)(hk:∀ v∈k,v∈l):VsOk h k:=fun v hv=>hl v (hk v hv)
theorem xeB (h n:Int):VsOk h (xaG n):=fun v hv=>by
 unfold xaG at hv;rw[(List.mem_replicate.1 hv).2]
 exact xa5 h
structure HOk (cs:List QC)(h:List QO):Prop where
 len:h.length<=60
 obj:∀ o∈h,xbW cs.length o.cls=true/\(o.slots.length:Int)=xbe cs o.cls/\VsOk h.length o.slots
theorem xgU {h:List QO}{v:QV}{o:QO}(e:xd2 h v=some o):h[v.n.toNat]?=some o:=by
 unfold xd2 at e
 split at e
 ·exact e
 ·cases e
theorem HOk.slot {cs:List QC}{h:List QO}(hh:HOk cs h)(v:QV)(n:Int):xax h.length (xcF h v n)=0:=by
 unfold xcF
 cases e:xd2 h v with
 | none=>exact xa5 _
 | some o=>exact (hh.obj o (List.mem_of_getElem? (xgU e))).2.2.entry n
theorem xck (h:List QO)(v:QV)(n:Int)(x:QV):(xaX h v n x).length=h.length:=by unfold xaX;split<;>simp
theorem HOk.setSlot {cs:List QC}{h:List QO}(hh:HOk cs h)(v:QV)(n:Int){x:QV}(hx:xax h.length x=0):HOk cs (xaX h v n x):=by
 refine⟨by rw[xck];exact hh.len,fun o ho=>?_⟩
 rw[xck];unfold xaX at ho
 split at ho
 ·exact hh.obj o ho
 ·rename_i p e
  rcases List.mem_or_eq_of_mem_set ho with h1 | rfl
  ·exact hh.obj o h1
  ·obtain⟨a,b,c⟩:=hh.obj p (List.mem_of_getElem? (xgU e))
   exact⟨a,by simp only[xbE];exact b,c.setEntry n hx⟩
theorem HOk.make {cs:List QC}{h:List QO}(hh:HOk cs h){c:Int}(hc:xbW cs.length c=true){k:Nat}(hk:(k:Int)=xbe cs c)(hl:h.length<60):HOk cs (h++[⟨c,List.replicate k xaU⟩]):=by
 refine⟨by simp;omega,fun o ho=>?_⟩
 simp only[List.length_append,List.length_cons,List.length_nil,List.mem_append,List.mem_singleton] at ho ⊢
 rcases ho with h1 | rfl
 ·obtain⟨a,b,d⟩:=hh.obj o h1
  exact⟨a,b,d.later (by omega)⟩
 ·exact⟨hc,by simpa using hk,fun v hv=>by rw[(List.mem_replicate.1 hv).2];exact xa5 _⟩
def CodeOk (cs:List QC)(l:List QI):Prop:=∀ x∈l,(x.op=5->-1073741824<=x.a/\x.a<=1073741824)/\(x.op=13->xbW cs.length x.a=true)
structure FOk (cs:List QC)(h:Int)(f:Fr):Prop where
 self:xax h f.self=0
 args:VsOk h f.args
 temps:VsOk h f.temps
 stack:VsOk h f.stack
 code:CodeOk cs f.code
 plain:CodeOk cs f.meth.code
theorem FOk.later {cs:List QC}{h h':Int}{f:Fr}(hf:FOk cs h f)(hh:h<=h'):FOk cs h' f:=⟨xfs hf.self hh,hf.args.later hh,hf.temps.later hh,hf.stack.later hh,hf.code,hf.plain⟩
theorem FOk.push {cs:List QC}{h:Int}{f:Fr}(hf:FOk cs h f){v:QV}(hv:xax h v=0):FOk cs h (f.push v):=⟨hf.self,hf.args,hf.temps,hf.stack.append hv,hf.code,hf.plain⟩
theorem FOk.pop {cs:List QC}{h:Int}{f:Fr}(hf:FOk cs h f):FOk cs h f.pop:=⟨hf.self,hf.args,hf.temps,hf.stack.sub fun v hv=>List.dropLast_subset _ hv,hf.code,hf.plain⟩
theorem FOk.top {cs:List QC}{h:Int}{f:Fr}(hf:FOk cs h f):xax h f.top=0:=hf.stack.entry _
theorem FOk.leave {cs:List QC}{h:Int}{f:Fr}(hf:FOk cs h f)(c:Int):FOk cs h (f.leave c):=by
 refine⟨hf.self,hf.args,fun v hv=>?_,hf.stack,hf.plain,hf.plain⟩
 simp only[Fr.leave,List.mem_map] at hv;obtain⟨p,-,rfl⟩:=hv
 cases hq:f.temps[p.2]? with
 | none=>exact xa5 h
 | some v=>exact hf.temps v (List.mem_of_getElem? hq)
section
variable {σ:Type}
structure EOk (E:Env σ):Prop where
 meths:∀ c n m,xaI E.cz c n=some m->CodeOk E.cz m.code
 fast:∀ c n q,E.quick c n=some q->CodeOk E.cz q.1
 slots:∀ c,xbe E.cz c=xaY E.cz c/\0<=xaY E.cz c
structure ROk (cs:List QC)(m m':Mc σ):Prop where
 heap:HOk cs m'.heap
 more:m.heap.length<=m'.heap.length
def xni (cs:List QC)(ent:Ent σ):Prop:=∀ m c n s a,HOk cs m.heap->xax m.heap.length s=0->VsOk m.heap.length a->ROk cs m (ent m c n s a).1/\xax (ent m c n s a).1.heap.length (ent m c n s a).2.1=0
def xgs (cs:List QC)(m:Mc σ)(r:Mc σ × Fr × Int):Prop:=ROk cs m r.1/\(r.2.2=0->FOk cs r.1.heap.length r.2.1)
theorem xlU {cs:List QC}{m:Mc σ}{f:Fr}(hm:HOk cs m.heap)(hf:FOk cs m.heap.length f)(a b:Int):xgs cs m (xaV m f a b):=by
 have hf':∀ t,FOk cs m.heap.length { f with pc:=t }:=fun t=>⟨hf.self,hf.args,hf.temps,hf.stack,hf.code,hf.plain⟩
 unfold xaV xgs
 by_cases h:b<=a
 ·simp only[h,if_true]
  split
  ·exact⟨⟨hm,qzC _⟩,fun h=>by cases h⟩
  ·exact⟨⟨hm,qzC _⟩,fun _=>hf' b⟩
 ·simp only[h,if_false]
  split
  ·exact⟨⟨hm,qzC _⟩,fun h=>by cases h⟩
  ·exact⟨⟨hm,qzC _⟩,fun _=>hf' b⟩
theorem xqP {cs:List QC}{m:Mc σ}{f:Fr}(hm:HOk cs m.heap)(hf:FOk cs m.heap.length f)(a b:Int):xgs cs m (xbz m f a b):=by
 unfold xbz
 split
 ·exact⟨⟨hm,qzC _⟩,fun _=>hf.pop⟩
 ·split
  ·exact xlU hm hf.pop a b
  ·exact⟨⟨hm,qzC _⟩,fun _=>hf⟩
theorem xpx {E:Env σ}(hE:EOk E){m:Mc σ}{f:Fr}(hm:HOk E.cz m.heap)(hf:FOk E.cz m.heap.length f){c:Int}(hc:xbW E.cz.length c=true):xgs E.cz m (xbV E m f c):=by
 unfold xbV
 split
 ·exact⟨⟨hm,qzC _⟩,fun _=>hf⟩
 ·rename_i h;obtain⟨h1,h2⟩:=hE.slots c;refine⟨⟨hm.make hc (by rw[h1];omega) (by omega),by simp⟩,fun _=>?_⟩
  refine (hf.later ?_).push ?_
  ·simp only[List.length_append,List.length_cons,List.length_nil];omega
  ·simp only[List.length_append,List.length_cons,List.length_nil,xax,xcu];rw[if_neg (by omega),if_neg (by omega),if_neg (by omega),if_neg (by omega)]
theorem xkF {cs:List QC}(E:Env σ)(d:Nat){m:Mc σ}(hm:HOk cs m.heap):ROk cs m (xau E d m).1/\(xau E d m).1.heap=m.heap:=by
 unfold xau
 split
 ·exact⟨⟨hm,qzC _⟩,rfl⟩
 ·split
  ·exact⟨⟨hm,qzC _⟩,rfl⟩
  ·exact⟨⟨hm,qzC _⟩,rfl⟩
theorem xqY {cs:List QC}(E:Env σ)(d:Nat){m:Mc σ}{f:Fr}(hm:HOk cs m.heap)(hf:FOk cs m.heap.length f)(x:QI):xgs cs m (xbQ E d m f x):=by
 unfold xbQ
 split
 ·exact⟨⟨hm,qzC _⟩,fun h=>by cases h⟩
 ·split
  ·refine⟨⟨hm,qzC _⟩,fun _=>?_⟩
   simp only[]
   split
   ·exact hf
   ·exact hf.leave x.c
  ·split
   ·exact⟨⟨hm,qzC _⟩,fun _=>hf.push (hm.slot _ _)⟩
   ·split
    ·refine⟨⟨hm.setSlot _ _ hf.top,by simp[xck]⟩,fun _=>?_⟩
     simp only[xck]
     exact hf.pop
    ·split
     ·obtain⟨h1,h2⟩:=xkF (cs:=cs) E d hm;refine⟨h1,fun _=>?_⟩
      simp only[h2]
      exact hf
     ·exact⟨⟨hm,qzC _⟩,fun h=>by cases h⟩
theorem xqh {cs:List QC}{ent:Ent σ}(he:xni cs ent)(E:Env σ){m:Mc σ}{f:Fr}(hm:HOk cs m.heap)(hf:FOk cs m.heap.length f)(at':Int)(x:QI):xgs cs m (xbD ent E m f at' x):=by
 unfold xbD;simp only[];generalize E.look m.st (f.site at' x) (xas m.heap (xaQ (f.stack.take (xbp f.stack x.a)) 0)) x.name=l;have ht:VsOk m.heap.length (f.stack.take (xbp f.stack x.a)):=hf.stack.sub fun v hv=>List.mem_of_mem_take hv
 obtain⟨h1,h2⟩:=he { m with st:=l.1 } l.2.1 l.2.2 (xaQ (f.stack.take (xbp f.stack x.a)) 0) (f.stack.drop (xbp f.stack x.a)) hm (ht.entry _) (hf.stack.sub fun v hv=>List.mem_of_mem_drop hv)
 generalize ent { m with st:=l.1 } l.2.1 l.2.2 (xaQ (f.stack.take (xbp f.stack x.a)) 0) (f.stack.drop (xbp f.stack x.a))=r at h1 h2 ⊢
 have hmore:m.heap.length<=r.1.heap.length:=h1.more
 split
 ·rename_i h;exact⟨⟨h1.heap,hmore⟩,fun h'=>absurd h' h⟩
 ·refine⟨⟨h1.heap,hmore⟩,fun _=>?_⟩
  have hf':=hf.later (h':=(r.1.heap.length:Int)) (by omega)
  have ht':VsOk (r.1.heap.length:Int) (f.stack.take (xbp f.stack x.a)):=ht.later (by omega)
  exact⟨hf'.self,hf'.args,hf'.temps,((ht'.sub fun v hv=>List.dropLast_subset _ hv).append h2),hf'.code,hf'.plain⟩
theorem xmi {cs:List QC}{h:List QO}{f:Fr}(hm:HOk cs h)(hf:FOk cs h.length f){x:QI}(hx:x.op=5->-1073741824<=x.a/\x.a<=1073741824){v:QV}(e:xao h f x=some v):xax h.length v=0:=by
 unfold xao at e
 split at e
 ·cases e;exact hf.self
 ·split at e
  ·cases e;exact hf.args.entry _
  ·split at e
   ·cases e;exact hf.temps.entry _
   ·split at e
    ·cases e;exact hm.slot _ _
    ·split at e
     ·rename_i h5
      cases e
      have:=hx h5;simp only[xax,xcu];rw[if_neg (by omega),if_neg (by omega),if_pos trivial,if_neg (by omega)]
     ·split at e
      ·cases e;exact xa5 _
      ·split at e
       ·cases e;simp[xax,xcu]
       ·split at e
        ·cases e;simp[xax,xcu]
        ·cases e
theorem xjj {E:Env σ}(hE:EOk E){ent:Ent σ}(he:xni E.cz ent)(d:Nat){m:Mc σ}{f:Fr}(hm:HOk E.cz m.heap)(hf:FOk E.cz m.heap.length f)(at':Int){x:QI}(h5:x.op=5->-1073741824<=x.a/\x.a<=1073741824)(h13:x.op=13->xbW E.cz.length x.a=true):xgs E.cz m (xaj ent E d m f at' x):=by
 unfold xaj
 split
 ·rename_i v e
  exact⟨⟨hm,qzC _⟩,fun _=>hf.push (xmi hm hf h5 e)⟩
 ·split
  ·exact⟨⟨hm,qzC _⟩,fun _=>hf.pop⟩
  ·split
   ·exact⟨⟨hm,qzC _⟩,fun _=>hf.push hf.top⟩
   ·split
    ·exact⟨⟨hm,qzC _⟩,fun _=>⟨hf.self,hf.args,hf.temps.setEntry _ hf.top,hf.pop.stack,hf.code,hf.plain⟩⟩
    ·split
     ·refine⟨⟨hm.setSlot _ _ hf.top,by simp[xck]⟩,fun _=>?_⟩
      simp only[xck]
      exact hf.pop
     ·split
      ·rename_i h;exact xpx hE hm hf (h13 h)
      ·split
       ·exact xqh he E hm hf at' x
       ·split
        ·exact xlU hm hf at' x.a
        ·split
         ·exact xqP hm hf at' x.a
         ·exact xqY E d hm hf x
theorem ROk.trans {cs:List QC}{a b c:Mc σ}(h:ROk cs a b)(k:ROk cs b c):ROk cs a c:=⟨k.heap,qzD h.more k.more⟩
theorem xpi {E:Env σ}(hE:EOk E){ent:Ent σ}(he:xni E.cz ent)(d:Nat):∀ (g:Nat) {m:Mc σ} {f:Fr},HOk E.cz m.heap->FOk E.cz m.heap.length f->ROk E.cz m (xb7 ent E d g m f).1/\xax (xb7 ent E d g m f).1.heap.length (xb7 ent E d g m f).2.1=0
 | 0,m,f,hm,hf=>⟨⟨hm,qzC _⟩,xa5 _⟩
 | g+1,m,f,hm,hf=>by
  unfold xb7
  cases hq:(if f.pc<0 then none else f.code[f.pc.toNat]?) with
  | none=>exact⟨⟨hm,qzC _⟩,xa5 _⟩
  | some x=>
   have hx:x∈f.code:=by
    split at hq
    ·cases hq
    ·exact List.mem_of_getElem? hq
   simp only[]
   by_cases h17:x.op=17
   ·rw[if_pos h17];exact⟨⟨hm,qzC _⟩,hf.top⟩
   ·rw[if_neg h17];have hf1:FOk E.cz m.heap.length { f with pc:=f.pc+1 }:=⟨hf.self,hf.args,hf.temps,hf.stack,hf.code,hf.plain⟩
    obtain⟨h1,h2⟩:=xjj hE he d hm hf1 f.pc (hf.code x hx).1 (hf.code x hx).2;generalize xaj ent E d m { f with pc:=f.pc+1 } f.pc x=r at h1 h2 ⊢
    by_cases h0:r.2.2≠0
    ·rw[if_pos h0];exact⟨h1,xa5 _⟩
    ·rw[if_neg h0];obtain⟨k1,k2⟩:=xpi hE he d g h1.heap (h2 (by simpa using h0))
     exact⟨h1.trans k1,k2⟩
theorem xlq (h:Int){a b:QV}(p:Int):xax h (xbR p a b).1=0:=by
 have tm:∀ n:Int,-1073741824<=n.tmod 1073741825/\n.tmod 1073741825<=1073741824:=fun n=>by
  have h1:=Int.tmod_lt_of_pos n (b:=1073741825) (by omega)
  have h2:=Int.lt_tmod_of_pos n (b:=1073741825) (by omega)
  omega
 have num:∀ n:Int,xax h ⟨3,n.tmod 1073741825⟩=0:=fun n=>by
  have:=tm n;simp only[xax,xcu];rw[if_neg (by omega),if_neg (by omega),if_pos trivial,if_neg (by omega)]
 have bol:∀ c:Prop,∀ _:Decidable c,xax h ⟨if c then 2 else 1,0⟩=0:=fun c _=>by
  by_cases hc:c<;>simp[hc,xax,xcu]
 unfold xbR
 split
 ·exact xa5 h
 ·split
  ·exact num _
  ·split
   ·exact num _
   ·split
    ·exact num _
    ·split
     ·exact bol _ _
     ·split
      ·exact bol _ _
      ·exact xa5 h
theorem xkS {E:Env σ}(hE:EOk E)(d:Nat){body:Mc σ->Fr->Mc σ × QV × Int}(hb:∀ {m f},HOk E.cz m.heap->FOk E.cz m.heap.length f->ROk E.cz m (body m f).1/\xax (body m f).1.heap.length (body m f).2.1=0):xni E.cz (xbc E d body):=by
 intro m c n s a hm hs ha;unfold xbc
 cases hmt:xaI E.cz c n with
 | none=>exact⟨⟨hm,qzC _⟩,xa5 _⟩
 | some mt=>
  simp only[]
  split
  ·exact⟨⟨hm,qzC _⟩,xa5 _⟩
  ·split
   ·split
    ·exact⟨⟨hm,qzC _⟩,xa5 _⟩
    ·exact⟨⟨hm,qzC _⟩,xlq _ _⟩
   ·split
    ·exact⟨⟨hm,qzC _⟩,xa5 _⟩
    ·obtain⟨h1,h2⟩:=xkF (cs:=E.cz) E d hm
     have hf:FOk E.cz (xau E d m).1.heap.length (xaK E c n mt s a):=by
      rw[h2];have hmc:=hE.meths c n mt hmt;unfold xaK
      cases hq:E.quick c n with
      | none=>exact⟨hs,ha,xeB _ _,fun v hv=>by simp at hv,hmc,hmc⟩
      | some q=>exact⟨hs,ha,xeB _ _,fun v hv=>by simp at hv,hE.fast c n q hq,hmc⟩
     obtain⟨k1,k2⟩:=hb h1.heap hf
     exact⟨h1.trans k1,k2⟩
theorem xl9 {E:Env σ}(hE:EOk E):∀ d:Nat,xni E.cz (xa4 E d)
 | 0=>xkS hE 0 fun hm hf=>⟨⟨hm,qzC _⟩,xa5 _⟩
 | d+1=>xkS hE (d+1) fun hm hf=>xpi hE (xl9 hE d) d _ hm hf
theorem xhZ {f:QI->Int}:∀ {l:List QI} {k:Nat} {p:Int × Int},xlj f k l=some p->p.1≠0
 | [],k,p,h=>by simp[xlj] at h
 | z :: r,k,p,h=>by
  unfold xlj at h
  split at h
  ·rename_i hz;cases h;exact hz
  ·exact xhZ h
def xgC:Int->Int->Option (List QI × Int):=fun _ _=>none
theorem xhj {X:QW}(h:xaH X=0):HOk X.cz X.heap:=by
 obtain⟨hs,-,-,ho⟩:=xcl h;refine⟨hs.heap,fun o hm=>?_⟩
 obtain⟨i,hi,rfl⟩:=List.mem_iff_getElem.1 hm;have hr:=ho i _ hi (List.getElem?_eq_getElem hi);unfold roE at hr
 split at hr
 ·cases hr
 ·rename_i hn;have hn':=not_or.1 hn;refine⟨by simpa using hn'.1,by simpa using hn'.2,fun v hv=>?_⟩
  obtain⟨k,hk,rfl⟩:=List.mem_iff_getElem.1 hv
  exact xbM hr k _ (List.getElem?_eq_getElem hk)
theorem xeq {X:QW}(h:xaH X=0):xbY X.cz:=fun i x hx=>by
 obtain⟨hs,hc,-,-⟩:=xcl h;have hr:=hc i x (xae hx) hx;unfold rcE at hr
 split at hr
 ·cases hr
 ·split at hr
  ·split at hr
   ·cases hr
   ·split at hr
    ·cases hr
    ·split at hr
     ·cases hr
     ·split at hr
      ·cases hr
      ·omega
  ·split at hr
   ·cases hr
   ·split at hr
    ·cases hr
    ·split at hr
     ·cases hr
     ·omega
theorem xei {X:QW}(h:xaH X=0)(c:Int):xbe X.cz c=xaY X.cz c/\0<=xaY X.cz c:=by
 have ho:=xeq h;obtain⟨hs,-,-,-⟩:=xcl h;have hm:=hs.many
 exact⟨xfA ho (by omega) c,(xcD ho (X.cz.length+1) c 0 (Int.le_refl _)).1⟩
theorem xdb {X:QW}(h:xaH X=0){c n:Int}{m:QM}(hm:xaI X.cz c n=some m):CodeOk X.cz m.code:=by
 obtain⟨hs,-,hk,-⟩:=xcl h;unfold xaI at hm
 cases hx:xbx X.cz c with
 | none=>rw[hx] at hm;cases hm
 | some x=>
  rw[hx] at hm;simp only[Option.bind_some] at hm;obtain⟨k,rfl,hx'⟩:=xa7 hx
  split at hm
  ·have hr:=hk k x (xae hx') hx';unfold rkE at hr
   split at hr
   ·cases hr
   ·split at hr
    ·cases hr
    ·have hq:=xbM hr _ _ hm;unfold rmE at hq
     split at hq
     ·cases hq
     ·split at hq
      ·rename_i hp;unfold xgQ at hp;rw[List.any_eq_true] at hp;obtain⟨p,-,hp⟩:=hp;simp only[Bool.and_eq_true,decide_eq_true_eq] at hp;have:m.code=[]:=List.eq_nil_of_length_eq_zero hp.2;rw[this];intro y hy
       simp at hy
      ·unfold xd9 at hq
       split at hq
       ·rename_i a;exact absurd hq a
       ·split at hq
        ·rename_i f e
         exact absurd hq (xhZ e)
        ·rename_i e;intro y hy;have hn:=xhY e y hy;unfold xgb at hn
         split at hn
         ·cases hn
         ·split at hn
          ·cases hn
          ·rename_i hra;unfold raE at hra;refine⟨fun h5=>?_,fun h13=>?_⟩
           ·simp[h5,inR] at hra
            omega
           ·simp[h13,inR] at hra
            simp[xbW]
            omega
  ·cases hm
theorem xnW {X:QW}(h:xaH X=0)(fuel:Int)(look:σ->QS->Int->ByteArray->σ × (Int × Int)):EOk (⟨X.cz,fuel,look,xgC⟩:Env σ):=
 ⟨fun c n m hm=>xdb h hm,fun c n q hq=>(by cases hq),fun c=>xei h c⟩
end
end Go.Proofs.YtaodadfahifbpaaGreat
