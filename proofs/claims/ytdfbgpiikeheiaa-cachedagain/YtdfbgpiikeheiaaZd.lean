/- A frame in memory: what lies on the stack; below, pop, push. -/
import Derived.Test.YtdfbgpiikeheiaaZb
import Derived.Deep.RegionLawGrows
namespace Go.Proofs.Ytdfbgpiikeheiaa
open Go.ChangeShapes Go.WideShapes Go.ChangeAt Go.RowKit
set_option linter.unusedSimpArgs false
set_option linter.unusedVariables false
set_option maxRecDepth 8000

theorem hid {p : Prop} (h : p) : Hid p := h
theorem step_append_run {P : Program} {ops : Array Oper} {o : Oper} {a : Act} {w w' : World} {K : Act → World → Prop} {Q : Exit → Act → World → Prop} {E : Prop} (hg : o.guard = none) (s x : Operand) (T : TypeId) (hop : o.op = Op.call { callee := Callee.builtin Builtin.append, args := #[s, x], argTypes := #[T, T] })
    (vs vx v' : Value) (hs : a.eval s = vs) (hx : a.eval x = vx) (hrun : (Builtin.append_ #[T, T] o.type #[vs, vx]).run P w = .ok v' w') (hK : K (a.put o.dst v') w') : if Region.wanted o (yielded ops a.tmps) = true then Oper.wp P o a w K Q else E := by
  have hw : Region.wanted o (yielded ops a.tmps) = true := by simp [Region.wanted, hg]
  rw [if_pos hw]
  unfold Oper.wp
  simp [execOp, hop, resolve, invoke, builtin, hs, hx, hrun, Result.andThen]
  exact hK
theorem row_free {w : World} {b : Nat} {cur : Array Value} {t : TypeId} (h : w.heap[b]? = some (.cells cur t (0, 0))) (o : Nat) : w.frozen? ⟨b, o, none⟩ = false := by unfold World.frozen?; simp [h]
theorem ownsAt.vals {w : World} {base : Nat} {v : Value} {xs : List QV} (h : ownsAt w base 27 2 v xs.length (vcells xs)) (hb : xs.length * 16 ≤ 140737488351232) : IsVals (fun b => v.ownBlock = some b) w v xs := by
  obtain ⟨h1, ⟨rfl, h2⟩ | ⟨g, o, cap, cur, rfl, h3, h4, h5, h6, h7, h8⟩⟩ := h
  · have : xs = [] := List.eq_nil_of_length_eq_zero h2
    subst this
    exact ⟨none, 0, rfl, by simp, by simp, by simp, fun i x hx => by simp at hx⟩
  · refine ⟨_, _, rfl, h5, h6, hb, fun i x hx => ⟨g, o, rfl, rfl, ?_⟩⟩
    have hi := lt_of_get hx
    have hcell : ∀ j, j < xs.length * 2 → w.cell? ⟨g, o + j, none⟩ = (vcells xs)[j]? := fun j hj => by
      rw [← h8, cell_of_row _ _ _ _ _ _ h4, List.getElem?_take, if_pos hj, List.getElem?_drop]
      simp
    obtain ⟨e1, e2⟩ := vcells_get hx
    exact ⟨by show w.cell? ⟨g, o + i * 2 + 0, none⟩ = _; rw [Nat.add_zero, hcell _ (by omega)]; exact e1, by show w.cell? ⟨g, o + i * 2 + 1, none⟩ = _; rw [Nat.add_assoc, hcell _ (by omega)]; exact e2⟩
theorem ownsAt.take {w : World} {base n : Nat} {a : Option Addr} {cap : Nat} {xs : List QV} (h : ownsAt w base 27 2 (.slice a n cap) n (vcells xs)) {k : Nat} (hk : k ≤ n) : ownsAt w base 27 2 (.slice a k cap) k (vcells (xs.take k)) := by
  have hx : xs.length = n := by have := h.1; rw [vcells_len] at this; omega
  obtain ⟨h1, ⟨e, h2⟩ | ⟨g, o, cap', cur, e, h3, h4, h5, h6, h7, h8⟩⟩ := h
  · cases e
    obtain rfl : k = 0 := by omega
    exact ⟨by simp [vcells], Or.inl ⟨rfl, rfl⟩⟩
  · cases e
    refine ⟨by rw [vcells_len, List.length_take]; omega, Or.inr ⟨g, o, cap, cur, rfl, h3, h4, by omega, h6, h7, ?_⟩⟩
    rw [← vcells_take, ← h8, List.take_take]
    congr 1
    omega
theorem ownsAt.base {w : World} {base base' : Nat} {e : TypeId} {sz : Nat} {v : Value} {n : Nat} {xs : List Value} (h : ownsAt w base e sz v n xs) (hb : ∀ g, v.ownBlock = some g → base' ≤ g) : ownsAt w base' e sz v n xs := by
  obtain ⟨h1, h2 | ⟨g, o, cap, cur, rfl, h3, h4, h5⟩⟩ := h
  · exact ⟨h1, Or.inl h2⟩
  · exact ⟨h1, Or.inr ⟨g, o, cap, cur, rfl, hb g (by simp [Value.ownBlock]), h4, h5⟩⟩

abbrev FB (f : Fr) (cv av tv sv kv : Value) : Obj := .cells #[.int .i64 f.cls, .string f.meth.name, .int .i64 f.meth.args, .int .i64 f.meth.temps, .int .i64 f.meth.prim, cv, .int .i64 f.self.k, .int .i64 f.self.n, av, tv, sv, kv, .int .i64 f.pc, .bool f.fast] 154 (0, 0)
/-- A frame at block fb. -/
structure FrAt (T : Nat → Nat) (K : Nat) (w : World) (fb : Nat) (f : Fr) (cv av tv sv kv : Value) : Prop where
  box : w.heap[fb]? = some (FB f cv av tv sv kv)
  tag : T fb = K
  args : IsVals (Fx T w) w av f.args
  temps : ∃ tb, tv = .slice (some ⟨tb, 0, none⟩) f.temps.length f.temps.length ∧ w.heap[tb]? = some (.cells (vcells f.temps).toArray 27 (0, 0)) ∧ T tb = K + 1 ∧ f.temps.length ≤ 40
  stack : ownsAt w 0 27 2 sv f.stack.length (vcells f.stack)
  stag : ∀ g, sv.ownBlock = some g → T g = K + 2
  few : f.stack.length ≤ 1000000000
  code : IsCode (Fx T w) w kv f.code
  meth : IsCode (Fx T w) w cv f.meth.code
  pos : 5 ≤ K
section
variable {T T' : Nat → Nat} {K : Nat} {w w' : World} {fb : Nat} {f : Fr} {cv av tv sv kv : Value}
theorem FrAt.keep {S : Nat → Prop} (h : FrAt T K w fb f cv av tv sv kv) (e : Ext T T' w) (k : Kp S T w w') (h0 : ¬ S 0) (h1 : ¬ S K) (h2 : ¬ S (K + 1)) (h3 : ¬ S (K + 2)) : FrAt T' K w' fb f cv av tv sv kv := by
  obtain ⟨tb, e1, e2, e3, e4⟩ := h.temps
  refine ⟨k.held h.box (by rw [h.tag]; exact h1), by rw [e _ (blk_lt h.box)]; exact h.tag, h.args.fx goodV e k h0, ⟨tb, e1, k.held e2 (by rw [e3]; exact h2), by rw [e _ (blk_lt e2)]; exact e3, e4⟩, h.stack.keep fun g hg => k.blk g (h.stack.lt g hg).2 (by rw [h.stag g hg]; exact h3), fun g hg => by rw [e _ (h.stack.lt g hg).2]; exact h.stag g hg, h.few, h.code.fx goodI e k h0, h.meth.fx goodI e k h0, h.pos⟩
theorem FrAt.later (h : FrAt T K w fb f cv av tv sv kv) (hb : Below w.heap.size w w') : FrAt T K w' fb f cv av tv sv kv := h.keep (S := fun _ => False) (.refl _ _) (.of_below hb) id id id id
/-- Only the box is turned: another stack, another place. -/
theorem FrAt.turn {f' : Fr} {sv' : Value} (h : FrAt T K w fb f cv av tv sv kv) (k : Kp (fun t => t = K) T w w') (hb : w'.heap[fb]? = some (FB f' cv av tv sv' kv)) (e1 : f'.args = f.args) (e2 : f'.temps = f.temps) (e3 : f'.code = f.code) (e4 : f'.meth = f.meth) (hs : ownsAt w 0 27 2 sv' f'.stack.length (vcells f'.stack)) (ho : ∀ g, sv'.ownBlock = some g → T g = K + 2) (hf : f'.stack.length ≤ 1000000000) : FrAt T K w' fb f' cv av tv sv' kv := by
  obtain ⟨tb, d1, d2, d3, d4⟩ := h.temps
  have hp := h.pos
  refine ⟨hb, h.tag, by rw [e1]; exact h.args.fx goodV (.refl _ _) k (by omega), ⟨tb, by rw [e2]; exact d1, by rw [e2]; exact k.held d2 (by rw [d3]; omega), d3, by rw [e2]; exact d4⟩, hs.keep fun g hg => k.blk g (hs.lt g hg).2 (by rw [ho g hg]; omega), ho, hf, by rw [e3]; exact h.code.fx goodI (.refl _ _) k (by omega), by rw [e4]; exact h.meth.fx goodI (.refl _ _) k (by omega), hp⟩
theorem FrAt.cut {a : Option Addr} {cap m : Nat} (h : FrAt T K w fb f cv av tv (.slice a f.stack.length cap) kv) (k : Kp (fun t => t = K) T w w') (hb : w'.heap[fb]? = some (FB { f with stack := f.stack.take m } cv av tv (.slice a m cap) kv)) (hm : m ≤ f.stack.length) : FrAt T K w' fb { f with stack := f.stack.take m } cv av tv (.slice a m cap) kv := by
  have hl : (f.stack.take m).length = m := by rw [List.length_take]; omega
  refine h.turn k hb rfl rfl rfl rfl ?_ (fun g hg => h.stag g (by cases a <;> exact hg)) (by show (f.stack.take m).length ≤ _; rw [hl]; have := h.few; omega)
  show ownsAt w 0 27 2 _ (f.stack.take m).length _
  rw [hl]
  exact h.stack.take hm
theorem FrAt.vals (h : FrAt T K w fb f cv av tv sv kv) : IsVals (fun b => sv.ownBlock = some b) w sv f.stack := h.stack.vals (by have := h.few; omega)
end

theorem wrap_sub {n : Nat} (h : n ≤ 1000000000) (k : Int) (hk : 0 ≤ k ∧ k ≤ 9223372036854775807) : IntKind.i64.wrap (IntKind.i64.wrap ((n : Int) - 1) - k) = (n : Int) - 1 - k := by
  rw [wrap_of (n := (n : Int) - 1) (by omega) (by omega), wrap_of (by omega) (by omega)]

set_option maxHeartbeats 1000000 in
theorem below_any {T : Nat → Nat} {K : Nat} {w : World} {fb : Nat} {f : Fr} {cv av tv sv kv : Value} (h : FrAt T K w fb f cv av tv sv kv) (n : Int) (hn : 0 ≤ n ∧ n ≤ 9223372036854775807) : Calls Try.prog 109 #[.pointer (some ⟨fb, 0, none⟩), .int .i64 n] w fun e w' => e = .returned (VV (belowE f.stack n)) ∧ Below w.heap.size w w' := by
  have hv := h.vals
  have hlt := blk_lt h.box
  have c0 : w.cell? ⟨fb, 10, none⟩ = some sv := by rw [cell_of_row _ _ _ _ _ _ h.box]; rfl
  have hfew := h.few
  have HR : Hid (IntKind.i64.wrap (IntKind.i64.wrap ((f.stack.length : Int) - 1) - n) = (f.stack.length : Int) - 1 - n) := wrap_sub hfew n hn
  clear h
  obtain ⟨a, cap, rfl, -⟩ := id hv
  have hb1 : Below w.heap.size w (w.alloc (.cells #[.int .i64 0, .int .i64 0] 27)).drew := (bel1 w _).drew
  have hv1 := hv.later goodV hb1
  have c1 := cell_later hb1 c0
  have r0 : (w.alloc (.cells #[.int .i64 0, .int .i64 0] 27)).drew.cell? ⟨w.heap.size, 0, none⟩ = some (.int .i64 0) := cell_new w #[.int .i64 0, .int .i64 0] 27 _ rfl 0
  have r1 : (w.alloc (.cells #[.int .i64 0, .int .i64 0] 27)).drew.cell? ⟨w.heap.size, 1, none⟩ = some (.int .i64 0) := cell_new w #[.int .i64 0, .int .i64 0] 27 _ rfl 1
  have rf : ∀ o, (w.alloc (.cells #[.int .i64 0, .int .i64 0] 27)).drew.frozen? ⟨w.heap.size, o, none⟩ = false := row_free (heap_alloc_new w (.cells #[.int .i64 0, .int .i64 0] 27))
  have hz : w.heap.size < (w.alloc (.cells #[.int .i64 0, .int .i64 0] 27)).drew.heap.size := by simp
  clear hv c0
  go_enter Try.func109, Try.ntmps109
  go_upto_region 1 with (fail)
  generalize (w.alloc (.cells #[.int .i64 0, .int .i64 0] 27)) = W at *
  go_region_held3 (fun w' => w'.cell? ⟨fb, 10, none⟩ = some (Value.slice a f.stack.length cap))
    (first | with_reducible exact c1 | with_reducible exact c2 | exact (World.cell?_setCell_far _ _ _ _ (by simp; omega)).trans ((World.cell?_setCell_far _ _ _ _ (by simp; omega)).trans c2))
    (first | (go_at_call 100; rw [HR.out]; refine (entry_any f.stack _ _ _ hv1).mono ?_; rintro e w1 ⟨rfl, hb2⟩; have c2 := cell_later hb2 c1; have s0 := cell_later hb2 r0; have s1 := cell_later hb2 r1; have sf : ∀ o, w1.frozen? ⟨w.heap.size, o, none⟩ = false := fun o => (hb2.frozen (p := ⟨w.heap.size, o, none⟩) hz).trans (rf o)))
  go_wp2
  refine bodyPost_ret (v := VV (belowE f.stack n)) ?_ rfl ⟨rfl, ((nstep hb1 hb2).setCell (by simp) _).setCell (by simp) _⟩
  simp [results, Try.results109, go_sem, s0, s1]
  exact ⟨rfl, rfl⟩

theorem drew_heap (w : World) : w.drew.heap = w.heap := rfl
theorem fb_set10 {w : World} {fb : Nat} {f : Fr} {cv av tv sv kv : Value} (h : w.heap[fb]? = some (FB f cv av tv sv kv)) (l : List QV) (sv' : Value) : (w.setCell ⟨fb, 10, none⟩ sv').heap[fb]? = some (FB { f with stack := l } cv av tv sv' kv) := by
  rw [setCell_same h]; rfl
theorem dropLast_take {α : Type} {l : List α} {m : Nat} (h : l.length = m + 1) : l.dropLast = l.take m := by rw [List.dropLast_eq_take, h]; rfl
set_option maxHeartbeats 2000000 in
theorem pop_any {T : Nat → Nat} {K : Nat} {w : World} {fb : Nat} {f : Fr} {cv av tv sv kv : Value} (h : FrAt T K w fb f cv av tv sv kv) : Calls Try.prog 102 #[.pointer (some ⟨fb, 0, none⟩)] w fun e w' => e = .returned (VV f.top) ∧ (∃ sv', FrAt T K w' fb f.pop cv av tv sv' kv) ∧ Kp (fun t => t = K) T w w' := by
  have hlt := blk_lt h.box
  have hb1 : Below w.heap.size w (w.alloc (.cells #[.int .i64 0, .int .i64 0] 27)) := bel1 w _
  have h1 := h.later hb1
  have r0 : (w.alloc (.cells #[.int .i64 0, .int .i64 0] 27)).cell? ⟨w.heap.size, 0, none⟩ = some (.int .i64 0) := cell_new w #[.int .i64 0, .int .i64 0] 27 _ rfl 0
  have r1 : (w.alloc (.cells #[.int .i64 0, .int .i64 0] 27)).cell? ⟨w.heap.size, 1, none⟩ = some (.int .i64 0) := cell_new w #[.int .i64 0, .int .i64 0] 27 _ rfl 1
  have rf : ∀ o, (w.alloc (.cells #[.int .i64 0, .int .i64 0] 27)).frozen? ⟨w.heap.size, o, none⟩ = false := row_free (heap_alloc_new w (.cells #[.int .i64 0, .int .i64 0] 27))
  have hz : w.heap.size < (w.alloc (.cells #[.int .i64 0, .int .i64 0] 27)).heap.size := by simp
  have HF : Hid (FrAt T K w fb f cv av tv sv kv) := h
  have hfew := h.few
  clear h
  go_enter Try.func102, Try.ntmps102
  go_upto_region 1 with (fail)
  generalize (w.alloc (.cells #[.int .i64 0, .int .i64 0] 27)) = W at *
  go_wp2_with fail
  refine (below_any h1 0 ⟨by omega, by omega⟩).mono ?_
  rintro e w1 ⟨rfl, hb2⟩
  have h2 := h1.later hb2
  have hbb := nstep hb1 hb2
  have s0 := cell_later hb2 r0
  have s1 := cell_later hb2 r1
  have sf : ∀ o, w1.frozen? ⟨w.heap.size, o, none⟩ = false := fun o => (hb2.frozen (p := ⟨w.heap.size, o, none⟩) hz).trans (rf o)
  have c0 : w1.cell? ⟨fb, 10, none⟩ = some sv := by rw [cell_of_row _ _ _ _ _ _ h2.box]; rfl
  have cf := row_free h2.box
  have hz2 := hb2.size
  have hzz : ¬ fb = w.heap.size := by omega
  have hzz' : ¬ w.heap.size = fb := by omega
  have hbx := h2.box
  have hst := h2.stack
  have hl1 : fb < w1.heap.size := by omega
  have hl2 : w.heap.size < w1.heap.size := by omega
  obtain ⟨a, cap, rfl, hc1, hc2⟩ := hst.form
  unfold maxLen at hc2
  have HT : Hid (f.top = belowE f.stack 0) := rfl
  have HS : Hid (ownsAt w1 0 27 2 (.slice a f.stack.length cap) f.stack.length (vcells f.stack)) := hst
  have H2 : Hid (FrAt T K w1 fb f cv av tv (.slice a f.stack.length cap) kv) := h2
  have HX : Hid (w1.heap[fb]? = some (FB f cv av tv (.slice a f.stack.length cap) kv)) := hbx
  clear h1 h2 r0 r1 rf hst hbx hb1 hb2
  obtain ⟨v, hv⟩ : ∃ v, v = belowE f.stack 0 := ⟨_, rfl⟩
  rw [← hv] at HT ⊢
  clear hv
  go_wp2
  have HK : Hid (Kp (fun t => t = K) T w1 (w1.alloc (.cells #[.int .i64 v.k, .int .i64 v.n] 27))) := Kp.of_below (bel1 _ _)
  have H3 : Hid (FrAt T K (w1.alloc (.cells #[.int .i64 v.k, .int .i64 v.n] 27)) fb f cv av tv (.slice a f.stack.length cap) kv) := H2.out.later (bel1 _ _)
  have d0 := cell_later (bel1 w1 (.cells #[.int .i64 v.k, .int .i64 v.n] 27)) c0
  have df : ∀ o, (w1.alloc (.cells #[.int .i64 v.k, .int .i64 v.n] 27)).frozen? ⟨fb, o, none⟩ = false := row_free H3.out.box
  have u0 := cell_later (bel1 w1 (.cells #[.int .i64 v.k, .int .i64 v.n] 27)) s0
  have u1 := cell_later (bel1 w1 (.cells #[.int .i64 v.k, .int .i64 v.n] 27)) s1
  have uf : ∀ o, (w1.alloc (.cells #[.int .i64 v.k, .int .i64 v.n] 27)).frozen? ⟨w.heap.size, o, none⟩ = false := fun o => ((bel1 w1 _).frozen (p := ⟨w.heap.size, o, none⟩) hl2).trans (sf o)
  have b0 : (w1.alloc (.cells #[.int .i64 v.k, .int .i64 v.n] 27)).cell? ⟨w1.heap.size, 0, none⟩ = some (.int .i64 v.k) := cell_new _ _ _ _ rfl 0
  have b1 : (w1.alloc (.cells #[.int .i64 v.k, .int .i64 v.n] 27)).cell? ⟨w1.heap.size, 1, none⟩ = some (.int .i64 v.n) := cell_new _ _ _ _ rfl 1
  have n1 : ¬ w1.heap.size = fb := by omega
  have n2 : ¬ w1.heap.size = w.heap.size := by omega
  have n3 : ¬ w.heap.size = w1.heap.size := by omega
  have n4 : ¬ fb = w1.heap.size := by omega
  have HBV : Hid (Below w.heap.size w (w1.alloc (.cells #[.int .i64 v.k, .int .i64 v.n] 27))) := nstep hbb (bel1 _ _)
  clear s0 s1 sf c0 cf H2 HS HX
  generalize (w1.alloc (.cells #[.int .i64 v.k, .int .i64 v.n] 27)) = V at *
  have HL : Hid (f.pop = { f with stack := f.stack.take (f.stack.length - 1) }) := by show _ = _; unfold Fr.pop; rw [List.dropLast_eq_take]
  by_cases h0 : f.stack.length = 0
  · have hw : IntKind.i64.wrap (((0 : Nat) : Int) - 1) = -1 := by rfl
    have h0' : Hid (f.stack.length - 1 = 0) := by show _ = _; omega
    rw [h0] at d0
    go_region
    go_wp2
    refine bodyPost_ret (v := VV v) ?_ rfl ⟨by rw [HT.out], ⟨.slice a 0 cap, ?_⟩, ?_⟩
    · simp [results, Try.results102, go_sem, u0, u1, n2, n3]
    · rw [HL.out, h0'.out]
      refine HF.out.cut (m := 0) ?_ ?_ (by omega)
      · exact (((((Kp.of_below HBV.out).set (fun _ => HF.out.tag) _ _).set (fun h => absurd h (Nat.lt_irrefl _)) _ _).set (fun h => absurd h (Nat.lt_irrefl _)) _ _)).drew
      · rw [drew_heap, setCell_else hzz, setCell_else hzz]
        exact fb_set10 H3.out.box _ _
    · exact (((((Kp.of_below HBV.out).set (fun _ => HF.out.tag) _ _).set (fun h => absurd h (Nat.lt_irrefl _)) _ _).set (fun h => absurd h (Nat.lt_irrefl _)) _ _)).drew
  · obtain ⟨m, hm⟩ : ∃ m, f.stack.length = m + 1 := ⟨f.stack.length - 1, by omega⟩
    have hw : IntKind.i64.wrap ((f.stack.length : Int) - 1) = (m : Int) := by rw [hm, wrap_of (by omega) (by omega)]; omega
    have hm0 : ¬ ((m : Int) < 0) := by omega
    have hm1 : m ≤ cap := by omega
    have hm2 : (m : Int) ≤ (cap : Int) := by omega
    have HM : Hid (f.stack.length - 1 = m) := by show _ = _; omega
    have HM2 : Hid (m ≤ f.stack.length) := by show _ ≤ _; omega
    clear hm h0
    generalize hL : f.stack.length = L at hw d0
    go_region
    go_wp2
    refine bodyPost_ret (v := VV v) ?_ rfl ⟨by rw [HT.out], ⟨.slice a m cap, ?_⟩, ?_⟩
    · simp [results, Try.results102, go_sem, u0, u1, n2, n3]
    · rw [HL.out, HM.out]
      refine HF.out.cut (m := m) ?_ ?_ HM2.out
      · exact (((((Kp.of_below HBV.out).set (fun _ => HF.out.tag) _ _).set (fun h => absurd h (Nat.lt_irrefl _)) _ _).set (fun h => absurd h (Nat.lt_irrefl _)) _ _)).drew
      · rw [drew_heap, setCell_else hzz, setCell_else hzz]
        exact fb_set10 H3.out.box _ _
    · exact (((((Kp.of_below HBV.out).set (fun _ => HF.out.tag) _ _).set (fun h => absurd h (Nat.lt_irrefl _)) _ _).set (fun h => absurd h (Nat.lt_irrefl _)) _ _)).drew

theorem FrAt.pushed {T : Nat → Nat} {K : Nat} {w U w' : World} {fb : Nat} {f : Fr} {cv av tv sv sv' kv : Value} {v : QV} (h : FrAt T K w fb f cv av tv sv kv) (hU : Below w.heap.size w U) (hn : f.stack.length < 1000000000)
    (r1 : ownsAt w' 0 27 2 sv' (f.stack.length + 1) (vcells f.stack ++ [.int .i64 v.k, .int .i64 v.n])) (r2 : sv'.ownBlock = sv.ownBlock ∨ ∃ g, sv'.ownBlock = some g ∧ U.heap.size ≤ g) (r3 : Below 0 U w') (r4 : ∀ b, b < U.heap.size → some b ≠ sv.ownBlock → w'.heap[b]? = U.heap[b]?) (hx : w'.heap[fb]? = some (FB f cv av tv sv kv)) :
    (∃ T', Ext T T' w ∧ FrAt T' K (w'.setCell ⟨fb, 10, none⟩ sv') fb (f.push v) cv av tv sv' kv) ∧ Kp (fun t => t = K ∨ t = K + 2) T w (w'.setCell ⟨fb, 10, none⟩ sv') := by
  have hlt := blk_lt h.box
  have hp := h.pos
  have kU : Kp (fun t => t = K ∨ t = K + 2) T w w' := ⟨r3.os.trans hU.os, r3.tape.trans hU.tape, r3.output.trans hU.output, Nat.le_trans hU.size r3.size, fun b hb hs => by
    rw [r4 b (Nat.lt_of_lt_of_le hb hU.size) (fun e => hs (Or.inr (h.stag b e.symm))), hU.block b hb]⟩
  have k := kU.set (b := fb) (fun _ => Or.inl h.tag) 10 sv'
  obtain ⟨T', hT, hg⟩ : ∃ T', Ext T T' w ∧ ∀ g, sv'.ownBlock = some g → T' g = K + 2 := by
    rcases r2 with e | ⟨g, e, hg⟩
    · exact ⟨T, .refl _ _, fun g hg => h.stag g (by rw [← e]; exact hg)⟩
    · exact ⟨tag1 T g (K + 2), tag1_ext (Nat.le_trans hU.size hg), fun g' h' => by rw [e] at h'; cases h'; exact tag1_self _ _ _⟩
  refine ⟨⟨T', hT, ?_⟩, k⟩
  obtain ⟨tb, d1, d2, d3, d4⟩ := h.temps
  refine ⟨fb_set10 hx (f.stack ++ [v]) sv', by rw [hT _ hlt]; exact h.tag, h.args.fx goodV hT k (by omega), ⟨tb, d1, k.held d2 (by rw [d3]; omega), by rw [hT _ (blk_lt d2)]; exact d3, d4⟩, ?_, hg, ?_, h.code.fx goodI hT k (by omega), h.meth.fx goodI hT k (by omega), hp⟩
  · have r1' : ownsAt w' 0 27 2 sv' (f.push v).stack.length (vcells (f.push v).stack) := by
      show ownsAt w' 0 27 2 sv' (f.stack ++ [v]).length (vcells (f.stack ++ [v]))
      rw [vcells_append, List.length_append]
      exact r1
    exact r1'.keep fun g hg' => setCell_else (fun e => by have := hg g hg'; rw [e, hT _ hlt, h.tag] at this; omega) _
  · show (f.stack ++ [v]).length ≤ _
    simp; omega

set_option maxHeartbeats 2000000 in
theorem push_any {T : Nat → Nat} {K : Nat} {w : World} {fb : Nat} {f : Fr} {cv av tv sv kv : Value} (h : FrAt T K w fb f cv av tv sv kv) (v : QV) (hroom : f.stack.length < 1000000000) : Calls Try.prog 111 #[.pointer (some ⟨fb, 0, none⟩), VV v] w fun e w' => e = .returned (.tuple #[]) ∧ (∃ T' sv', Ext T T' w ∧ FrAt T' K w' fb (f.push v) cv av tv sv' kv) ∧ Kp (fun t => t = K ∨ t = K + 2) T w w' := by
  have hlt := blk_lt h.box
  have h1 := h.later (bel1 w (.cells #[.int .i64 v.k, .int .i64 v.n] 27))
  have b0 : (w.alloc (.cells #[.int .i64 v.k, .int .i64 v.n] 27)).cell? ⟨w.heap.size, 0, none⟩ = some (.int .i64 v.k) := cell_new _ _ _ _ rfl 0
  have b1 : (w.alloc (.cells #[.int .i64 v.k, .int .i64 v.n] 27)).cell? ⟨w.heap.size, 1, none⟩ = some (.int .i64 v.n) := cell_new _ _ _ _ rfl 1
  have HBV : Hid (Below w.heap.size w (w.alloc (.cells #[.int .i64 v.k, .int .i64 v.n] 27))) := bel1 _ _
  go_enter Try.func111, Try.ntmps111
  go_upto_region 1 with (fail)
  generalize (w.alloc (.cells #[.int .i64 v.k, .int .i64 v.n] 27)) = V at *
  have c0 : V.cell? ⟨fb, 10, none⟩ = some sv := by rw [cell_of_row _ _ _ _ _ _ h1.box]; rfl
  have cf := row_free h1.box
  have hl1 : fb < V.heap.size := blk_lt h1.box
  have hl2 : ¬ fb = V.heap.size := by omega
  have hst : ownsAt (V.alloc (.cells #[.int .i64 v.k, .int .i64 v.n] 27)).drew 0 27 2 sv f.stack.length (vcells f.stack) := (h1.stack.alloc _).keep fun g hg => rfl
  obtain ⟨v', w', hrun, r1, r2, r3, r4⟩ := run_append_at (w := (V.alloc (.cells #[.int .i64 v.k, .int .i64 v.n] 27)).drew) 28 28 27 _ 2 16 Try.underlying28 info27 rfl (by omega) 0 f.stack.length sv (vcells f.stack) hst V.heap.size [.int .i64 v.k, .int .i64 v.n] rfl (heap_alloc_new V _) (by simp; exact ⟨rfl, rfl⟩) (by unfold maxLen; omega) (by omega) (by omega)
  obtain ⟨a, cap, rfl, hc1, hc2⟩ := h1.stack.form
  obtain ⟨a', cap', rfl, -⟩ := r1.form
  have R1 : Hid (ownsAt w' 0 27 2 (.slice a' (f.stack.length + 1) cap') (f.stack.length + 1) (vcells f.stack ++ [.int .i64 v.k, .int .i64 v.n])) := r1
  have R2 := hid r2
  have R4 := hid r4
  have HB3 : Hid (Below 0 _ w') := r3
  have hnb : some fb ≠ (Value.slice a f.stack.length cap).ownBlock := fun e => by have := h1.stag fb e.symm; rw [h1.tag] at this; omega
  have hbx : w'.heap[fb]? = some (FB f cv av tv (.slice a f.stack.length cap) kv) := by
    rw [r4 fb (by simp; omega) hnb]; exact box_later' h1.box (bel1 _ _).drew
  have d0 : w'.cell? ⟨fb, 10, none⟩ = some (.slice a f.stack.length cap) := by rw [cell_of_row _ _ _ _ _ _ hbx]; rfl
  have df := row_free hbx
  have HX := hid hbx
  have H0 := hid h
  have HBU : Hid (Below w.heap.size w (V.alloc (.cells #[.int .i64 v.k, .int .i64 v.n] 27)).drew) := nstep HBV.out (bel1 _ _).drew
  clear r1 r2 r3 r4 hst h1 hbx hnb h
  go_region_law (refine step_append_run rfl (.tmp 8) (.tmp 10) 28 rfl (.slice a f.stack.length cap) (.slice (some ⟨V.heap.size, 0, none⟩) 1 1) (.slice a' (f.stack.length + 1) cap') (by simp [Act.eval, Act.put]) (by simp [Act.eval, Act.put]) hrun ?_)
  all_goals (
    go_wp2
    obtain ⟨⟨T', e1, e2⟩, e3⟩ := H0.out.pushed (v := v) HBU.out hroom R1.out R2.out HB3.out R4.out HX.out
    exact bodyPost_end (v := .tuple #[]) (by simp [results, Try.results111, go_sem]) rfl ⟨rfl, ⟨T', _, e1, e2⟩, e3⟩)
end Go.Proofs.Ytdfbgpiikeheiaa
