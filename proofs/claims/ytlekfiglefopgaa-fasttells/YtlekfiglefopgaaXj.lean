/- Calls and appends as steps of regions that draw; what lies where. -/
import Derived.Test.YtlekfiglefopgaaIc
import Derived.Test.YtlekfiglefopgaaXi
namespace Go.Proofs.Ytlekfiglefopgaa
open Go.ChangeShapes Go.WideShapes Go.ChangeAt Go.RowKit
set_option linter.unusedSimpArgs false
set_option linter.unusedVariables false
set_option maxRecDepth 8000

theorem step_append_run {P : Program} {ops : Array Oper} {o : Oper} {a : Act} {w w' : World} {K : Act → World → Prop} {Q : Exit → Act → World → Prop} {E : Prop} (hg : o.guard = none) (s x : Operand) (T : TypeId) (hop : o.op = Op.call { callee := Callee.builtin Builtin.append, args := #[s, x], argTypes := #[T, T] })
    (vs vx v' : Value) (hs : a.eval s = vs) (hx : a.eval x = vx) (hrun : (Builtin.append_ #[T, T] o.type #[vs, vx]).run P w = .ok v' w') (hK : K (a.put o.dst v') w') : if Region.wanted o (yielded ops a.tmps) = true then Oper.wp P o a w K Q else E := by
  have hw : Region.wanted o (yielded ops a.tmps) = true := by simp [Region.wanted, hg]
  rw [if_pos hw]
  unfold Oper.wp
  simp [execOp, hop, resolve, invoke, builtin, hs, hx, hrun, Result.andThen]
  exact hK
theorem row_free {w : World} {b : Nat} {cur : Array Value} {t : TypeId} (h : w.heap[b]? = some (.cells cur t (0, 0))) (o : Nat) : w.frozen? ⟨b, o, none⟩ = false := by unfold World.frozen?; simp [h]
theorem step_call {P : Program} {ops : Array Oper} {o : Oper} {a : Act} {w : World} {K : Act → World → Prop} {Q : Exit → Act → World → Prop} {E : Prop} (hg : o.guard = none) (fn : Nat) (cal : Operand) (args : Array Operand) (tys : Array TypeId) (hop : o.op = Op.call { callee := Callee.value cal, args := args, argTypes := tys })
    (caps : Array Value) (hcal : a.eval cal = .func (.func fn) #[] caps) (vs : Array Value) (hvs : args.map a.eval = vs) (hcf : (callFunc fn (vs ++ caps)).run P w = .ok (.enter fn (vs ++ caps)) w) (hc : Calls P fn (vs ++ caps) w fun e w' => ∃ v, e = .returned v ∧ K (a.put o.dst v) w') : if Region.wanted o (yielded ops a.tmps) = true then Oper.wp P o a w K Q else E := by
  have hw : Region.wanted o (yielded ops a.tmps) = true := by simp [Region.wanted, hg]
  rw [if_pos hw]
  unfold Oper.wp
  have hr : (execOp a.eval o).run P w = .ok (.enter fn (vs ++ caps)) w := by
    simp [execOp, hop, resolve, invoke, hcal, hvs, Deferred.ofValue]
    exact hcf
  rw [hr, Oper.upon_enter]
  refine hc.mono ?_
  rintro e w' ⟨v, rfl, h⟩
  exact h
theorem cf_of {fn : Nat} {f : Func} (hf : Try.prog.funcs[fn]? = some f) (hn : (f.name == "runtime.NumGoroutine") = false) (hb : f.body.isSome = true) (args : Array Value) (w : World) : (callFunc fn args).run Try.prog w = .ok (.enter fn args) w := by
  have h1 : ¬ f.name = "runtime.NumGoroutine" := by simpa using hn
  have h2 : ¬ f.body = none := by intro h; rw [h] at hb; cases hb
  simp [callFunc, hf, h1, h2]
theorem step_callG {P : Program} {ops : Array Oper} {o : Oper} {a : Act} {w : World} {K : Act → World → Prop} {Q : Exit → Act → World → Prop} {E : Prop} (hw : Region.wanted o (yielded ops a.tmps) = true) (fn : Nat) (cal : Operand) (args : Array Operand) (tys : Array TypeId) (hop : o.op = Op.call { callee := Callee.value cal, args := args, argTypes := tys })
    (caps : Array Value) (hcal : a.eval cal = .func (.func fn) #[] caps) (vs : Array Value) (hvs : args.map a.eval = vs) (hcf : (callFunc fn (vs ++ caps)).run P w = .ok (.enter fn (vs ++ caps)) w) (hc : Calls P fn (vs ++ caps) w fun e w' => ∃ v, e = .returned v ∧ K (a.put o.dst v) w') : if Region.wanted o (yielded ops a.tmps) = true then Oper.wp P o a w K Q else E := by
  rw [if_pos hw]
  unfold Oper.wp
  have hr : (execOp a.eval o).run P w = .ok (.enter fn (vs ++ caps)) w := by
    simp [execOp, hop, resolve, invoke, hcal, hvs, Deferred.ofValue]
    exact hcf
  rw [hr, Oper.upon_enter]
  refine hc.mono ?_
  rintro e w' ⟨v, rfl, h⟩
  exact h
theorem bound_row {α : Type} {E : Lay α} {sz bytes : Nat} {P : Nat → Prop} {w : World} {v : Value} {xs : List α} (h : IsRow E sz bytes P w v xs) (hE : ∀ f x, E P w f x → E (fun b => b < w.heap.size) w f x ∧ ∃ u, f 0 = some u) : IsRow E sz bytes (fun b => b < w.heap.size) w v xs := by
  obtain ⟨ad, cap, h1, h2, h3, h4, h5⟩ := h
  refine ⟨ad, cap, h1, h2, h3, h4, fun i x hx => ?_⟩
  obtain ⟨b, o, e1, e2, e3⟩ := h5 i x hx
  obtain ⟨k1, u, k2⟩ := hE _ _ e3
  exact ⟨b, o, e1, World.block_lt_of_cell? w _ k2, k1⟩
theorem bound_code {P : Nat → Prop} {w : World} {v : Value} {xs : List QI} (h : IsCode P w v xs) : IsCode (fun b => b < w.heap.size) w v xs := bound_row h fun f x hx => ⟨hx, _, hx.1⟩
theorem bound_vals {P : Nat → Prop} {w : World} {v : Value} {xs : List QV} (h : IsVals P w v xs) : IsVals (fun b => b < w.heap.size) w v xs := bound_row h fun f x hx => ⟨hx, _, hx.1⟩
theorem bound_meths {P : Nat → Prop} {w : World} {v : Value} {xs : List QM} (h : IsMeths P w v xs) : IsMeths (fun b => b < w.heap.size) w v xs := bound_row h fun f x hx => by
  obtain ⟨h0, h1, h2, h3, h4, c, h5, h6⟩ := hx
  exact ⟨⟨h0, h1, h2, h3, h4, c, h5, bound_code h6⟩, _, h0⟩
theorem bound_classes {P : Nat → Prop} {w : World} {v : Value} {xs : List QC} (h : IsClasses P w v xs) : IsClasses (fun b => b < w.heap.size) w v xs := bound_row h fun f x hx => by
  obtain ⟨h0, h1, h2, h3, c, h5, h6⟩ := hx
  exact ⟨⟨h0, h1, h2, h3, c, h5, bound_meths h6⟩, _, h0⟩
theorem bound_heap {P : Nat → Prop} {w : World} {v : Value} {xs : List QO} (h : IsHeap P w v xs) : IsHeap (fun b => b < w.heap.size) w v xs := bound_row h fun f x hx => by
  obtain ⟨h0, c, h5, h6⟩ := hx
  exact ⟨⟨h0, c, h5, bound_vals h6⟩, _, h0⟩
theorem wpAnyM_true {P : Program} {md : Region.Mode} {ops : Array Oper} {Q : Exit → Act → World → Prop} {S : World → Prop} {late late' : List Nat} : ∀ (fuel : Nat) (listed : Array Bool) (a : Act) (w : World), wpAnyM P md ops Q S late fuel listed a w → wpAnyM P md ops Q (fun _ => True) late' fuel listed a w
  | 0, _, _, _, h => h
  | fuel + 1, _, _, _, h => ⟨h.1, fun i hi => wpOp_mono (fun a' w' h' => ⟨fun _ => trivial, wpAnyM_true fuel _ a' w' h'.2⟩) (h.2 i hi)⟩
theorem cf23 (args : Array Value) (w : World) : (callFunc 22 args).run Try.prog w = .ok (.enter 22 args) w := cf_of Try.func22 (by kernel_rfl) (by kernel_rfl) args w
theorem cf24 (args : Array Value) (w : World) : (callFunc 23 args).run Try.prog w = .ok (.enter 23 args) w := cf_of Try.func23 (by kernel_rfl) (by kernel_rfl) args w
theorem cf25 (args : Array Value) (w : World) : (callFunc 24 args).run Try.prog w = .ok (.enter 24 args) w := cf_of Try.func24 (by kernel_rfl) (by kernel_rfl) args w
theorem cf26 (args : Array Value) (w : World) : (callFunc 25 args).run Try.prog w = .ok (.enter 25 args) w := cf_of Try.func25 (by kernel_rfl) (by kernel_rfl) args w
theorem cf27 (args : Array Value) (w : World) : (callFunc 26 args).run Try.prog w = .ok (.enter 26 args) w := cf_of Try.func26 (by kernel_rfl) (by kernel_rfl) args w
theorem cf28 (args : Array Value) (w : World) : (callFunc 27 args).run Try.prog w = .ok (.enter 27 args) w := cf_of Try.func27 (by kernel_rfl) (by kernel_rfl) args w
theorem cf29 (args : Array Value) (w : World) : (callFunc 28 args).run Try.prog w = .ok (.enter 28 args) w := cf_of Try.func28 (by kernel_rfl) (by kernel_rfl) args w
theorem cf45 (args : Array Value) (w : World) : (callFunc 38 args).run Try.prog w = .ok (.enter 38 args) w := cf_of Try.func38 (by kernel_rfl) (by kernel_rfl) args w
theorem cf46 (args : Array Value) (w : World) : (callFunc 39 args).run Try.prog w = .ok (.enter 39 args) w := cf_of Try.func39 (by kernel_rfl) (by kernel_rfl) args w
theorem cf47 (args : Array Value) (w : World) : (callFunc 40 args).run Try.prog w = .ok (.enter 40 args) w := cf_of Try.func40 (by kernel_rfl) (by kernel_rfl) args w
theorem cf48 (args : Array Value) (w : World) : (callFunc 41 args).run Try.prog w = .ok (.enter 41 args) w := cf_of Try.func41 (by kernel_rfl) (by kernel_rfl) args w
theorem cf30 (args : Array Value) (w : World) : (callFunc 35 args).run Try.prog w = .ok (.enter 35 args) w := cf_of Try.func35 (by kernel_rfl) (by kernel_rfl) args w
theorem cf12 (args : Array Value) (w : World) : (callFunc 34 args).run Try.prog w = .ok (.enter 34 args) w := cf_of Try.func34 (by kernel_rfl) (by kernel_rfl) args w
theorem cf11 (args : Array Value) (w : World) : (callFunc 33 args).run Try.prog w = .ok (.enter 33 args) w := cf_of Try.func33 (by kernel_rfl) (by kernel_rfl) args w
theorem cf31 (args : Array Value) (w : World) : (callFunc 18 args).run Try.prog w = .ok (.enter 18 args) w := cf_of Try.func18 (by kernel_rfl) (by kernel_rfl) args w
theorem cf34 (args : Array Value) (w : World) : (callFunc 19 args).run Try.prog w = .ok (.enter 19 args) w := cf_of Try.func19 (by kernel_rfl) (by kernel_rfl) args w
theorem cfar {U : World} {b o b' o' : Nat} {v u : Value} (h : U.cell? ⟨b, o, none⟩ = some v) (hne : b ≠ b') : (U.setCell ⟨b', o', none⟩ u).cell? ⟨b, o, none⟩ = some v := (World.cell?_setCell_far _ _ _ _ (by simp; omega)).trans h
/-- Five cells of a box. -/
abbrev set5 (U : World) (b : Nat) (u0 u1 u2 u3 u4 : Value) : World := ((((U.setCell ⟨b, 0, none⟩ u0).setCell ⟨b, 1, none⟩ u1).setCell ⟨b, 2, none⟩ u2).setCell ⟨b, 3, none⟩ u3).setCell ⟨b, 4, none⟩ u4
theorem far5 {U : World} {b o b' : Nat} {v u0 u1 u2 u3 u4 : Value} (h : U.cell? ⟨b, o, none⟩ = some v) (hne : b ≠ b') : (set5 U b' u0 u1 u2 u3 u4).cell? ⟨b, o, none⟩ = some v := cfar (cfar (cfar (cfar (cfar h hne) hne) hne) hne) hne
theorem blk5 {U : World} {b b' : Nat} {u0 u1 u2 u3 u4 : Value} (hne : b ≠ b') : (set5 U b' u0 u1 u2 u3 u4).heap[b]? = U.heap[b]? := by
  rw [setCell_else hne, setCell_else hne, setCell_else hne, setCell_else hne, setCell_else hne]
theorem bel5 {w U : World} {lo b : Nat} {u0 u1 u2 u3 u4 : Value} (h : Below lo w U) (hb : lo ≤ b) : Below lo w (set5 U b u0 u1 u2 u3 u4) := ((((h.setCell hb _).setCell hb _).setCell hb _).setCell hb _).setCell hb _
end Go.Proofs.Ytlekfiglefopgaa
