/- A part. -/
import Derived.Test.YtbafokihegegiaaGreatDoorM25
namespace Go.Proofs.YtbafokihegegiaaGreatDoor
open Go.ChangeShapes Go.WideShapes Go.ChangeAt Go.RowKit
set_option linter.unusedSimpArgs false
set_option linter.unusedVariables false
set_option maxHeartbeats 8000000
set_option maxRecDepth 100000
theorem xrK:(Tryz.prog.info? 56).map (fun i=>(i.zero,i.size,i.bytes))=some (some (.agg #[.int .i64 0,.string ⟨#[]⟩,.int .i64 0,.int .i64 0,.string ⟨#[]⟩,.int .i64 0,.int .i64 0,.int .i64 0,.slice none 0 0,.int .i64 0,.int .i64 0,.string ⟨#[]⟩,.slice none 0 0]),13,160):=by kernel_rfl
section
variable {α:Type} {E:Lay α} {sz:Nat} {P:Nat->Prop} {w:World} {o:Oper} {a:Act} {Q:Exit->Act->World->Prop} {K:Act->World->Prop}
theorem xhx (G:Good E sz)(s x:Operand)(T:TypeId)(ho:o.op=.call { callee:=.builtin .append,args:=#[s,x],argTypes:=#[T,T] })
  (e:TypeId) (z:Value) (bytes:Nat) (hu:Tryz.prog.underlying T=some (.slice e)) (hI:(Tryz.prog.info? e).map (fun i=>(i.zero,i.size,i.bytes))=some (some z,sz,bytes)) (hz:z.cells.size=sz)
  (xs ys:List α) (b1 b2:Addr) (c2:Nat) (hs:a.eval s=.slice (some b1) xs.length xs.length) (hrow:IsRow E sz bytes P w (.slice (some b1) xs.length xs.length) xs) (hx:a.eval x=.slice (some b2) ys.length c2) (hrow2:IsRow E sz bytes P w (.slice (some b2) ys.length c2) ys)
  (hne:0<ys.length) (nn:Nat) (hnn:xs.length+ys.length=nn) (hb1:nn<=maxLen) (hb2:nn*bytes<=140737488351232)
  (h:∀ g cap w',IsRow E sz bytes (fun b=>P b\/w.heap.size<=b) w' (.slice (some ⟨g,0,none⟩) nn cap) (xs++ys)->Below w.heap.size w w'->K (a.put o.dst (.slice (some ⟨g,0,none⟩) nn cap)) w'):Oper.wp Tryz.prog o a w K Q:=by
 subst hnn;obtain⟨i0,hi,hz0,hz1,hz2⟩:=xbu hI;obtain⟨ad,cap0,e0,hl,hcap,-,hr⟩:=hrow;obtain⟨ad2,cap2,e2,hl2,hcap2,-,hr2⟩:=hrow2;simp only[Value.slice.injEq] at e0 e2;obtain⟨rfl,-,-⟩:=e0;obtain⟨rfl,-,-⟩:=e2;obtain⟨cs,hcs,hsrc⟩:=hr.cells G;obtain⟨ds,hds,hsrc2⟩:=hr2.cells G;have hp:=G.pos;obtain⟨v',w',hrun,hown,hgr⟩:=run_append_arg_grows (P:=Tryz.prog) w T o.type e i0 z sz bytes hu hi hz0 hz1 hz2 hz hp b1 xs.length xs.length cs hcs.1 (fun j u hj=>by obtain⟨a',e',h'⟩:=hsrc j u hj;cases e';exact h') b2 ys.length c2 ds hds.1 (fun j u hj=>by obtain⟨a',e',h'⟩:=hsrc2 j u hj;cases e';exact h') (by omega) hb1 (by omega)
 unfold Oper.wp
 simp[execOp,ho,resolve,invoke,builtin,hs,hx,hrun,Result.andThen]
 have hbel:Below w.heap.size w w':=(Below.refl _ _).grown hgr (qzC _) (fun k hk=>by cases hk)
 obtain⟨hl',⟨rfl,h0⟩ | ⟨g,cap,cur,rfl,h1,h2,h3,h4,h5,h6⟩⟩:=id hown
 ·omega
 ·have hC:Cells E sz (fun b=>P b\/w.heap.size<=b) w' (cs++ds) (xs++ys):=Cells.append (hcs.keep G (.of_below hbel) fun b h=>.inl h) G (hds.keep G (.of_below hbel) fun b h=>.inl h)
  have:=hC.row G (g:=g) (cap:=cap) (bytes:=bytes) (.inr h1) h2 (by simpa using h6) (by simpa using h3) h4 (by simpa using hb2)
  exact h g cap w' (by simpa using this) hbel
end
theorem xhf {k:Int}{v:QV}{name:ByteArray}{args:List QV}(h:name.size<=100):NamesOk (xdj k v name args):=⟨by show ByteArray.size ⟨#[]⟩<=_;decide,by show ByteArray.size ⟨#[]⟩<=_;decide,by show name.size<=_;omega⟩
theorem xnm {n t:Int}(h0:-1000<=n)(h1:n<=1000)(ht0:0<=t)(ht1:t<=60):-60000<=n*t/\n*t<=60000:=by
 have a:=Int.mul_le_mul_of_nonneg_right h1 ht0;have b:=Int.mul_le_mul_of_nonneg_right h0 ht0
 omega
end Go.Proofs.YtbafokihegegiaaGreatDoor
