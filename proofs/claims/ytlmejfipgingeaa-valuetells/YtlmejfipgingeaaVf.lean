/- New: one object more. -/
import Derived.Test.YtlmejfipgingeaaVe
import Derived.Deep.RegionLawGrows
namespace Go.Proofs.Ytlmejfipgingeaa
open Go.ChangeShapes Go.WideShapes Go.ChangeAt Go.RowKit
set_option linter.unusedSimpArgs false
set_option linter.unusedVariables false

theorem made_vals (m : Nat) : madeCells #[Value.int IntKind.i64 0, Value.int IntKind.i64 0] (m * 2) = ((List.replicate m (⟨0, 0⟩ : QV)).flatMap valCell).toArray := by
  apply Array.ext_getElem?
  intro j
  conv => rhs; rw [List.getElem?_toArray, flat_get valCell 2 (by omega) valCell_len]
  by_cases hj : j < m * 2
  · have h1 : j / 2 < m := by omega
    have hm : j % 2 = 0 ∨ j % 2 = 1 := by omega
    rcases hm with hm | hm <;> simp [madeCells, hj, h1, hm, valCell]
  · have h1 : ¬ j / 2 < m := by omega
    simp [madeCells, hj, List.getElem?_replicate, h1]

theorem cell_new (w : World) (cs : Array Value) (t : TypeId) (n : Nat) (hn : w.heap.size = n) (j : Nat) : (w.alloc (.cells cs t)).cell? ⟨n, j, none⟩ = cs[j]? := by
  subst hn
  exact cell_of_row _ _ _ _ _ _ (heap_alloc_new w _)
abbrev newW (w : World) (c : Int) (m : Nat) : World := (((w.alloc (Obj.cells #[Value.int IntKind.i64 0, Value.int IntKind.i64 0] 24)).alloc (Obj.cells (madeCells #[Value.int IntKind.i64 0, Value.int IntKind.i64 0] (m * 2)) 24)).alloc (Obj.cells #[Value.int IntKind.i64 c, Value.slice (some { block := w.heap.size + 1, off := 0 }) m m] 39))
theorem newW_facts (w : World) (c : Int) (m : Nat) (hm : m ≤ 100) : Below w.heap.size w (newW w c m) ∧ IsVals (w.heap.size + 1) (newW w c m) (.slice (some ⟨w.heap.size + 1, 0, none⟩) m m) (List.replicate m ⟨0, 0⟩) ∧
    (newW w c m).cell? ⟨w.heap.size + 1 + 1, 0, none⟩ = some (.int .i64 c) ∧ (newW w c m).cell? ⟨w.heap.size + 1 + 1, 1, none⟩ = some (Value.slice (some { block := w.heap.size + 1, off := 0 }) m m) ∧
    (newW w c m).cell? ⟨w.heap.size, 0, none⟩ = some (.int .i64 0) ∧ (newW w c m).cell? ⟨w.heap.size, 1, none⟩ = some (.int .i64 0) ∧ (∀ o, (newW w c m).frozen? ⟨w.heap.size, o, none⟩ = false) ∧ (newW w c m).heap.size = w.heap.size + 3 := by
  refine ⟨bel3 _ _ _ _, ?_, by rw [cell_new _ _ _ _ (by simp)]; rfl, by rw [cell_new _ _ _ _ (by simp)]; rfl, cell_later (bel2 _ _ _) (by rw [cell_new _ _ _ _ rfl]; rfl), cell_later (bel2 _ _ _) (by rw [cell_new _ _ _ _ rfl]; rfl), fun o => ?_, by simp⟩
  rotate_left
  · rw [(bel2 (w.alloc (Obj.cells #[Value.int IntKind.i64 0, Value.int IntKind.i64 0] 24)) _ _).frozen (by simp)]
    unfold World.frozen?
    rw [heap_alloc_new w _]
    simp
  refine IsVals.later (bel1 _ _) ?_
  refine ⟨some ⟨w.heap.size + 1, 0, none⟩, m, by simp, by simp, by unfold maxLen; omega, by simp; omega, vals_row (Nat.le_refl _) (fr := (0, 0)) (t := 24) ?_⟩
  have := heap_alloc_new (w.alloc (Obj.cells #[Value.int IntKind.i64 0, Value.int IntKind.i64 0] 24)) (Obj.cells (madeCells #[Value.int IntKind.i64 0, Value.int IntKind.i64 0] (m * 2)) 24)
  rw [made_vals] at this ⊢
  simpa using this

/-- 'append(own, made)' where own is full: a step of a region that draws its order. -/
theorem step_append_obj {ops : Array Oper} {o : Oper} {a : Act} {w : World} {K : Act → World → Prop} {Q : Exit → Act → World → Prop} {E : Prop} (hgd : o.guard = none) (s x : Operand)
    (hop : o.op = Op.call { callee := Callee.builtin Builtin.append, args := #[s, x], argTypes := #[22, 22] }) (g n : Nat) (hs : a.eval s = .slice (some ⟨g, 0, none⟩) n n) (Bb : Nat) (hx : a.eval x = .slice (some ⟨Bb, 0, none⟩) 1 1)
    (cur : Array Value) (hcur : w.heap[g]? = some (.cells cur 39 (0, 0))) (hlen : cur.size = n * 2) (x0 x1 : Value) (h0 : w.cell? ⟨Bb, 0, none⟩ = some x0) (h1 : w.cell? ⟨Bb, 1, none⟩ = some x1) (o0 : x0.oneCell' = true) (o1 : x1.oneCell' = true) (hn : n < 1000)
    (hK : ∀ g' cap cur' w', n + 1 ≤ cap → cap ≤ maxLen → w'.heap[g']? = some (.cells cur' 39 (0, 0)) → cur'.toList.take ((n + 1) * 2) = cur.toList ++ [x0, x1] → w.heap.size ≤ g' → Below w.heap.size w w' → K (a.put o.dst (.slice (some ⟨g', 0, none⟩) (n + 1) cap)) w') :
    if Region.wanted o (yielded ops a.tmps) = true then Oper.wp Try.prog o a w K Q else E := by
  obtain ⟨i0, hi, hz0, hz1, hz2⟩ := info_parts info39
  refine step_append_grows hgd s x 22 hop 39 i0 _ 2 32 Try.underlying22 hi hz0 hz1 hz2 rfl (by decide) (some ⟨g, 0, none⟩) n n cur.toList hs (fun h => by cases h) (by simpa using hlen)
    (fun b hb j u hu => by cases hb; rw [Addr.add_lit, Nat.zero_add, cell_of_row _ _ _ _ _ _ hcur]; simpa using hu) ⟨Bb, 0, none⟩ 1 1 [x0, x1] hx rfl
    (fun j u hu => by
      rw [Addr.add_lit, Nat.zero_add]
      match j, hu with
      | 0, hu => simp at hu; rw [← hu]; exact h0
      | 1, hu => simp at hu; rw [← hu]; exact h1)
    (fun u hu => by simp at hu; rcases hu with h | h <;> rw [h] <;> assumption) (by omega) (by unfold maxLen; omega) (by omega) ?_
  intro v' w' hown hgr
  obtain ⟨-, h | ⟨g', cap, cur', rfl, hb, hh, hc1, hc2, -, hc4⟩⟩ := hown
  · omega
  · exact hK g' cap cur' w' hc1 hc2 hh hc4 hb ((Below.refl _ _).grown hgr (Nat.le_refl _) (fun k hk => by cases hk))

/-- What holds all through the last statement of New. -/
structure NewS (w : World) (m : Nat) (w' : World) : Prop where
  bel : Below w.heap.size w w'
  c0 : ∃ u, w'.cell? ⟨w.heap.size, 0, none⟩ = some u
  c1 : ∃ u, w'.cell? ⟨w.heap.size, 1, none⟩ = some u
  fr : ∀ o, w'.frozen? ⟨w.heap.size, o, none⟩ = false
  vals : IsVals (w.heap.size + 1) w' (.slice (some ⟨w.heap.size + 1, 0, none⟩) m m) (List.replicate m ⟨0, 0⟩)
theorem NewS.later {w w' w1 : World} {m : Nat} (h : NewS w m w') (hb : Below w'.heap.size w' w1) : NewS w m w1 := by
  obtain ⟨u0, h0⟩ := h.c0
  obtain ⟨u1, h1⟩ := h.c1
  exact ⟨h.bel.trans (hb.mono h.bel.size), ⟨u0, cell_later hb h0⟩, ⟨u1, cell_later hb h1⟩, fun o => (hb.frozen (p := ⟨w.heap.size, o, none⟩) (World.block_lt_of_cell? w' ⟨w.heap.size, 0, none⟩ h0)).trans (h.fr o), h.vals.later hb⟩
theorem cell_some_set {w : World} {a b : Addr} {x : Value} (h : ∃ u, w.cell? a = some u) : ∃ u, (w.setCell b x).cell? a = some u := by
  obtain ⟨u, h⟩ := h
  obtain ⟨v, hv⟩ := cell?_setCell_some (w := w) (p := b) (x := x) (q := a) (v := u) h
  exact ⟨v, hv⟩
theorem NewS.set {w w' : World} {m : Nat} (h : NewS w m w') (o : Nat) (u : Value) : NewS w m (w'.setCell ⟨w.heap.size, o, none⟩ u) :=
  ⟨h.bel.setCell (Nat.le_refl _) _, cell_some_set h.c0, cell_some_set h.c1, fun o' => by rw [World.frozen?_setCell]; exact h.fr o', h.vals.keep (Keeps.of_setCell (by simp) _) (Nat.le_refl _)⟩
theorem keepY {w w' w1 : World} {m : Nat} {a b : Addr} {x y : Value} (h : w'.cell? a = some x ∧ w'.cell? b = some y ∧ NewS w m w') (hb : Below w'.heap.size w' w1) : w1.cell? a = some x ∧ w1.cell? b = some y ∧ NewS w m w1 :=
  ⟨cell_later hb h.1, cell_later hb h.2.1, h.2.2.later hb⟩
theorem keepZ {w w' : World} {m b : Nat} {x y : Value} (hb : w.heap.size < b) (h : w'.cell? ⟨b, 0, none⟩ = some x ∧ w'.cell? ⟨b, 1, none⟩ = some y ∧ NewS w m w') (o o' : Nat) (u u' : Value) :
    ((w'.setCell ⟨w.heap.size, o, none⟩ u).setCell ⟨w.heap.size, o', none⟩ u').cell? ⟨b, 0, none⟩ = some x ∧ ((w'.setCell ⟨w.heap.size, o, none⟩ u).setCell ⟨w.heap.size, o', none⟩ u').cell? ⟨b, 1, none⟩ = some y ∧ NewS w m ((w'.setCell ⟨w.heap.size, o, none⟩ u).setCell ⟨w.heap.size, o', none⟩ u') := by
  have k := fun (w' : World) (o : Nat) (u : Value) => Keeps.of_setCell (lo := b) (w := w') (a := ⟨w.heap.size, o, none⟩) hb u
  exact ⟨k _ _ _ _ _ _ (Nat.le_refl _) (k _ _ _ _ _ _ (Nat.le_refl _) h.1), k _ _ _ _ _ _ (Nat.le_refl _) (k _ _ _ _ _ _ (Nat.le_refl _) h.2.1), (h.2.2.set _ _).set _ _⟩
/-- The row behind the append. -/
theorem new_fin {w w1 wx w2 : World} {hs : List QO} {cur cur' : Array Value} {c : Int} {m g g' cap : Nat} (hoc : ObjCells g w1 cur.toList hs) (hg : w.heap.size + 1 ≤ g) (hx : Below w1.heap.size w1 wx) (hb2 : Below wx.heap.size wx w2) (hS : NewS w m wx)
    (h1 : hs.length + 1 ≤ cap) (h2 : cap ≤ maxLen) (hh : w2.heap[g']? = some (.cells cur' 39 (0, 0))) (hcl : cur'.toList.take ((hs.length + 1) * 2) = cur.toList ++ [.int .i64 c, Value.slice (some { block := w.heap.size + 1, off := 0 }) m m]) (hg' : w.heap.size + 1 ≤ g') (hl : hs.length < 1000) :
    IsHeap (w.heap.size + 1) w2 (.slice (some ⟨g', 0, none⟩) (hs.length + 1) cap) (hs ++ [⟨c, List.replicate m ⟨0, 0⟩⟩]) := by
  have h3 := cells_heap (lo := w.heap.size + 1) (hs := hs ++ [⟨c, List.replicate m ⟨0, 0⟩⟩]) (cap := cap) hg' hh (by
    simp only [List.length_append, List.length_cons, List.length_nil]
    rw [hcl]
    exact ((((hoc.mono hg).later hx).later hb2).snoc (hS.vals.later hb2))) (by simpa using h1) h2 (by simp; omega)
  simpa using h3

set_option maxHeartbeats 1000000 in
theorem new_full {lo : Nat} (hs : List QO) (c : Int) (m : Nat) (v : Value) (w : World) (hh : IsHeap lo w v hs) (hm : m ≤ 100) (hf : 60 ≤ hs.length) : Calls Try.prog 16 #[v, .int .i64 c, .int .i64 m] w fun e w' => e = .returned (.tuple #[.slice none 0 0, V2 0 0, .int .i64 15]) ∧ Below w.heap.size w w' := by
  obtain ⟨ad, cap, rfl, hl, hcap, hby, hrow⟩ := hh
  have hf' : (60 : Int) ≤ (hs.length : Int) := by omega
  go_enter Try.func16, Try.ntmps16
  go_wp2
  exact bodyPost_ret (v := .tuple #[.slice none 0 0, V2 0 0, .int .i64 15]) (by simp [results, Try.results16, go_sem]) rfl ⟨rfl, bel1 _ _⟩

set_option maxHeartbeats 1000000 in
theorem new_room {lo : Nat} (hs : List QO) (c : Int) (m : Nat) (v : Value) (w : World) (hh : IsHeap lo w v hs) (hm : m ≤ 100) (hf : hs.length < 60) : Calls Try.prog 16 #[v, .int .i64 c, .int .i64 m] w fun e w' =>
    ∃ g cap, e = .returned (.tuple #[.slice (some ⟨g, 0, none⟩) (hs.length + 1) cap, V2 4 hs.length, .int .i64 0]) ∧ IsHeap w.heap.size w' (.slice (some ⟨g, 0, none⟩) (hs.length + 1) cap) (hs ++ [⟨c, List.replicate m ⟨0, 0⟩⟩]) ∧ Below w.heap.size w w' := by
  have hh0 := hh
  obtain ⟨ad, cap, rfl, hl, hcap, hby, hrow⟩ := hh
  have hf' : (hs.length : Int) < (60 : Int) := by omega
  have hmk := make_vals m (by omega)
  have hmax : max (m : Int) 0 = (m : Int) := by omega
  go_enter Try.func16, Try.ntmps16
  go_wp2
  have hfacts := newW_facts w c m hm
  unfold newW at hfacts
  obtain ⟨hB0, hV0, c9a, c9b, c7a, c7b, f7, hsz⟩ := hfacts
  have hH := hh0
  generalize (((w.alloc (Obj.cells #[Value.int IntKind.i64 0, Value.int IntKind.i64 0] 24)).alloc (Obj.cells (madeCells #[Value.int IntKind.i64 0, Value.int IntKind.i64 0] (m * 2)) 24)).alloc (Obj.cells #[Value.int IntKind.i64 c, Value.slice (some { block := w.heap.size + 1, off := 0 }) m m] 39)) = W0 at *
  clear hh0 hrow hmk hmax
  have hS0 : W0.drew.cell? ⟨w.heap.size + 1 + 1, 0, none⟩ = some (.int .i64 c) ∧ W0.drew.cell? ⟨w.heap.size + 1 + 1, 1, none⟩ = some (Value.slice (some { block := w.heap.size + 1, off := 0 }) m m) ∧ NewS w m W0.drew := ⟨c9a, c9b, hB0.drew, ⟨_, c7a⟩, ⟨_, c7b⟩, f7, hV0.later (Below.refl _ _).drew⟩
  have hszd : W0.drew.heap.size = w.heap.size + 3 := hsz
  go_region_held3 (fun w' => w'.cell? ⟨w.heap.size + 1 + 1, 0, none⟩ = some (.int .i64 c) ∧ w'.cell? ⟨w.heap.size + 1 + 1, 1, none⟩ = some (Value.slice (some { block := w.heap.size + 1, off := 0 }) m m) ∧ NewS w m w')
    (first | exact hS0 | exact hY | exact keepZ (by omega) hY _ _ _ _ | exact keepY (‹_ ∧ _ ∧ NewS w m _›) (bel1 _ _))
    (first
      | (refine step_append_obj rfl (.tmp 24) (.tmp 26) rfl g hs.length rfl _ rfl cur (by first | exact hcur | exact ((bel1 _ _).block _ (blk_lt hcur)).trans hcur) hlen (.int .i64 c) (Value.slice (some { block := w.heap.size + 1, off := 0 }) m m) (by first | (rw [cell_new _ _ _ _ rfl]; rfl) | exact cell_later hb1 (cell_new W0 _ 39 _ hsz 0)) (by first | (rw [cell_new _ _ _ _ rfl]; rfl) | exact cell_later hb1 (cell_new W0 _ 39 _ hsz 1)) rfl rfl hl0 ?_; intro g' cap' cur' w2 n1 n2 hh2 hcl hg2 hb2; have hY := keepY (‹_ ∧ _ ∧ NewS w m _›) hb2; have hfin := new_fin hoc hg3 (by first | exact Below.refl _ _ | exact bel1 _ _) hb2 (‹_ ∧ _ ∧ NewS w m _›).2.2 n1 n2 hh2 hcl (Nat.le_trans (by have := hb1.size; simp at this ⊢; omega) hg2) hl0; obtain ⟨u0, hu0⟩ := hY.2.2.c0; obtain ⟨u1, hu1⟩ := hY.2.2.c1; have hfr := hY.2.2.fr)
      | (go_at_call 15; refine (own_any hs _ _ (hH.later (‹_ ∧ _ ∧ NewS w m _›).2.2.bel)).mono ?_; rintro e w1 ⟨g, rfl, hown, hg1, hb1⟩; obtain ⟨cur, hcur, hoc⟩ := hown.cells; have hlen : cur.size = hs.length * 2 := hoc.1; have hl0 : hs.length < 1000 := (by omega); have hg3 : w.heap.size + 1 ≤ g := (by simp at hg1; omega); have hY := keepY (‹_ ∧ _ ∧ NewS w m _›) hb1))
  all_goals go_wp2
  all_goals
    refine bodyPost_ret (v := .tuple #[.slice (some ⟨g', 0, none⟩) (hs.length + 1) cap', V2 4 hs.length, .int .i64 0]) ?_ rfl ⟨g', cap', rfl, ?_, ?_⟩
    · simp [results, Try.results16, go_sem, hu0, hu1]
    · exact (hfin.keep ((Keeps.of_setCell (by simp) _).trans (Keeps.of_setCell (by simp) _)) (by omega))
    · exact ((hY.2.2.set _ _).set _ _).bel
end Go.Proofs.Ytlmejfipgingeaa
