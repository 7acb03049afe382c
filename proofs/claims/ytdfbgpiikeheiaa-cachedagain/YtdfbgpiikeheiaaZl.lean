/- Else; a new object. -/
import Derived.Test.YtdfbgpiikeheiaaZh
import Derived.Test.YtdfbgpiikeheiaaZo
namespace Go.Proofs.Ytdfbgpiikeheiaa
open Go.ChangeShapes Go.WideShapes Go.ChangeAt Go.RowKit
set_option linter.unusedSimpArgs false
set_option linter.unusedVariables false
set_option maxRecDepth 8000

section
variable {σ : Type} {p : Mp σ} {T T' : Nat → Nat} {w w' : World} {mb : Nat} {m m' : Mc σ} {calls calls' : Int} {hv : Value} {g : Nat} {s : Nat → Nat} {K fb : Nat} {f : Fr} {cv av tv sv kv : Value}
theorem field27 (v : QV) (w : World) : (Instr.field 27 (VV v) 0).run Try.prog w = .ok (.int .i64 v.k) w := by
  obtain ⟨i0, hi, hz0, hz1, hz2⟩ := info_parts info3
  simp [Instr.field, run_underlying Try.underlying27, part, sizeOf, typeInfo, hi, hz1, asAgg]
set_option maxHeartbeats 1000000 in
theorem orElse_any (h : MacAt p T w mb m calls hv g s) (hF : FrAt T K w fb f cv av tv sv kv) (a b : Int) (ht : 0 ≤ m.turns ∧ m.turns ≤ 300) : Calls Try.prog 117 #[.pointer (some ⟨mb, 0, none⟩), .pointer (some ⟨fb, 0, none⟩), .int .i64 a, .int .i64 b] w fun e w' => e = .returned (.int .i64 (elseE m f a b).2.2) ∧ MacAt p T w' mb (elseE m f a b).1 calls hv g s ∧ ((elseE m f a b).2.2 = 0 → ∃ sv', FrAt T K w' fb (elseE m f a b).2.1 cv av tv sv' kv) ∧ Kp (fun t => t = 1 ∨ t = K) T w w' := by
  have hp := hF.pos
  have hfl := field27
  go_enter Try.func117, Try.ntmps117
  go_wp2_with fail
  refine (pop_any hF).mono ?_
  rintro e w1 ⟨rfl, ⟨sv1, hF1⟩, hK1⟩
  have hM1 := h.keep (.refl _ _) hK1 (by omega) (by omega) (by omega)
  have HK := hid hK1
  clear h hF hK1
  by_cases h2 : f.top.k = 2
  · have HE : Hid (elseE m f a b = (m, f.pop, 0)) := by show _ = _; unfold elseE; rw [if_pos h2]
    have h2' : (f.top.k == 2) = true := by simpa using h2
    have HM := hid hM1
    have HF := hid hF1
    clear hM1 hF1
    go_wp2
    go_ret
    rw [HE.out]
    exact ⟨rfl, HM.out, fun _ => ⟨_, HF.out⟩, HK.out.mono fun t h => Or.inr h⟩
  have h2' : (f.top.k == 2) = false := by simpa using h2
  by_cases h1 : f.top.k = 1
  · have HE : Hid (elseE m f a b = jumpE m f.pop a b) := by show _ = _; unfold elseE; rw [if_neg h2, if_pos h1]
    have h1' : (f.top.k == 1) = true := by simpa using h1
    go_wp2_with fail
    refine (jump_any hM1 hF1 a b ht).mono ?_
    rintro e w2 ⟨rfl, hM2, hF2, hK2⟩
    have HM := hid hM2
    have HF := hid hF2
    have HK2 := hid hK2
    clear hM1 hF1 hM2 hF2 hK2
    go_wp2
    go_ret
    rw [HE.out]
    exact ⟨rfl, HM.out, fun _ => ⟨_, HF.out⟩, (HK.out.mono fun t h => Or.inr h).trans (.refl _ _) HK2.out⟩
  have h1' : (f.top.k == 1) = false := by simpa using h1
  have HE : Hid (elseE m f a b = (m, f, 11)) := by show _ = _; unfold elseE; rw [if_neg h2, if_neg h1]
  have HM := hid hM1
  clear hM1 hF1
  go_wp2
  go_ret
  rw [HE.out]
  exact ⟨rfl, HM.out, fun h => absurd h (by simp), HK.out.mono fun t h => Or.inr h⟩

theorem step_append_obj {ops : Array Oper} {o : Oper} {a : Act} {w : World} {K : Act → World → Prop} {Q : Exit → Act → World → Prop} {E : Prop} (hgd : o.guard = none) (s x : Operand)
    (hop : o.op = Op.call { callee := Callee.builtin Builtin.append, args := #[s, x], argTypes := #[23, 23] }) (g n : Nat) (hs : a.eval s = .slice (some ⟨g, 0, none⟩) n n) (Bb : Nat) (hx : a.eval x = .slice (some ⟨Bb, 0, none⟩) 1 1)
    (cur : Array Value) (hcur : w.heap[g]? = some (.cells cur 82 (0, 0))) (hlen : cur.size = n * 2) (x0 x1 : Value) (h0 : w.cell? ⟨Bb, 0, none⟩ = some x0) (h1 : w.cell? ⟨Bb, 1, none⟩ = some x1) (o0 : x0.oneCell' = true) (o1 : x1.oneCell' = true) (hn : n < 1000)
    (hK : ∀ g' cap cur' w', n + 1 ≤ cap → cap ≤ maxLen → w'.heap[g']? = some (.cells cur' 82 (0, 0)) → cur'.toList.take ((n + 1) * 2) = cur.toList ++ [x0, x1] → w.heap.size ≤ g' → Below w.heap.size w w' → K (a.put o.dst (.slice (some ⟨g', 0, none⟩) (n + 1) cap)) w') :
    if Region.wanted o (yielded ops a.tmps) = true then Oper.wp Try.prog o a w K Q else E := by
  obtain ⟨i0, hi, hz0, hz1, hz2⟩ := info_parts info82
  refine step_append_grows hgd s x 23 hop 82 i0 _ 2 32 Try.underlying23 hi hz0 hz1 hz2 rfl (by decide) (some ⟨g, 0, none⟩) n n cur.toList hs (fun h => by cases h) (by simpa using hlen)
    (fun b hb j u hu => by cases hb; rw [Addr.add_lit, Nat.zero_add, cell_of_row _ _ _ _ _ _ hcur]; simpa using hu) ⟨Bb, 0, none⟩ 1 1 [x0, x1] hx rfl
    (fun j u hu => by
      rw [Addr.add_lit, Nat.zero_add]
      match j, hu with
      | 0, hu => simp at hu; rw [← hu]; exact h0
      | 1, hu => simp at hu; rw [← hu]; exact h1)
    (fun u hu => by simp at hu; rcases hu with h | h <;> rw [h] <;> assumption) (by omega) (by unfold maxLen; omega) (by omega) ?_
  intro v' w' hown hgr
  obtain ⟨-, h | ⟨g', cap, cur', rfl, hb, hh, hc1, hc2, -, hc4⟩⟩ := hown
  · omega
  · exact hK g' cap cur' w' hc1 hc2 hh hc4 hb ((Below.refl _ _).grown hgr (Nat.le_refl _) (fun k hk => by cases hk))
/-- What holds all through the last statement of New. -/
structure NwS (w : World) (k : Nat) (w' : World) : Prop where
  bel : Below w.heap.size w w'
  c0 : ∃ u, w'.cell? ⟨w.heap.size, 0, none⟩ = some u
  c1 : ∃ u, w'.cell? ⟨w.heap.size, 1, none⟩ = some u
  fr : ∀ o, w'.frozen? ⟨w.heap.size, o, none⟩ = false
  vals : w'.heap[w.heap.size + 1]? = some (.cells (vcells (List.replicate k nilV)).toArray 27 (0, 0))
theorem NwS.later {w w' w1 : World} {k : Nat} (h : NwS w k w') (hb : Below w'.heap.size w' w1) : NwS w k w1 :=
  have h0 := h.c0
  have h1 := h.c1
  ⟨nstep h.bel hb, h0.elim fun u hu => ⟨u, cell_later hb hu⟩, h1.elim fun u hu => ⟨u, cell_later hb hu⟩, fun o => (hb.frozen (p := ⟨w.heap.size, o, none⟩) (h0.elim fun u hu => World.block_lt_of_cell? w' ⟨w.heap.size, 0, none⟩ hu)).trans (h.fr o), box_later' h.vals hb⟩
theorem cell_some_set {w : World} {a b : Addr} {x : Value} (h : ∃ u, w.cell? a = some u) : ∃ u, (w.setCell b x).cell? a = some u := by
  obtain ⟨u, h⟩ := h
  obtain ⟨v, hv⟩ := cell?_setCell_some (w := w) (p := b) (x := x) (q := a) (v := u) h
  exact ⟨v, hv⟩
theorem NwS.set {w w' : World} {k : Nat} (h : NwS w k w') (o : Nat) (u : Value) : NwS w k (w'.setCell ⟨w.heap.size, o, none⟩ u) :=
  ⟨h.bel.setCell (Nat.le_refl _) _, cell_some_set h.c0, cell_some_set h.c1, fun o' => by rw [World.frozen?_setCell]; exact h.fr o', by rw [setCell_else (by omega)]; exact h.vals⟩
theorem keepNZ {w w' : World} {k b : Nat} {x y : Value} (hb : w.heap.size < b) (h : w'.cell? ⟨b, 0, none⟩ = some x ∧ w'.cell? ⟨b, 1, none⟩ = some y ∧ NwS w k w') (o o' : Nat) (u u' : Value) :
    ((w'.setCell ⟨w.heap.size, o, none⟩ u).setCell ⟨w.heap.size, o', none⟩ u').cell? ⟨b, 0, none⟩ = some x ∧ ((w'.setCell ⟨w.heap.size, o, none⟩ u).setCell ⟨w.heap.size, o', none⟩ u').cell? ⟨b, 1, none⟩ = some y ∧ NwS w k ((w'.setCell ⟨w.heap.size, o, none⟩ u).setCell ⟨w.heap.size, o', none⟩ u') :=
  ⟨(World.cell?_setCell_far _ _ _ _ (by simp; omega)).trans ((World.cell?_setCell_far _ _ _ _ (by simp; omega)).trans h.1), (World.cell?_setCell_far _ _ _ _ (by simp; omega)).trans ((World.cell?_setCell_far _ _ _ _ (by simp; omega)).trans h.2.1), (h.2.2.set _ _).set _ _⟩
theorem keepN {w w' w1 : World} {k : Nat} {a b : Addr} {x y : Value} (h : w'.cell? a = some x ∧ w'.cell? b = some y ∧ NwS w k w') (hb : Below w'.heap.size w' w1) : w1.cell? a = some x ∧ w1.cell? b = some y ∧ NwS w k w1 := ⟨cell_later hb h.1, cell_later hb h.2.1, h.2.2.later hb⟩
/-- The objects behind the append. -/
theorem newHeap {w1 wx w2 : World} {hs : List QO} {cur cur' : Array Value} {c : Int} {k g g' cap vb lo : Nat} {s : Nat → Nat} (hR : HRow w1 g s hs hs.length) (hcur : w1.heap[g]? = some (.cells cur 82 (0, 0))) (hlen : cur.size = hs.length * 2) (hx : Below w1.heap.size w1 wx) (hb2 : Below wx.heap.size wx w2) (hv : w2.heap[vb]? = some (.cells (vcells (List.replicate k nilV)).toArray 27 (0, 0)))
    (h1 : hs.length + 1 ≤ cap) (h2 : cap ≤ maxLen) (hh : w2.heap[g']? = some (.cells cur' 82 (0, 0))) (hcl : cur'.toList.take ((hs.length + 1) * 2) = cur.toList ++ [.int .i64 c, .slice (some ⟨vb, 0, none⟩) k k]) (hg' : wx.heap.size ≤ g') (hvg : vb < g) (hl : hs.length < 1000) (hk : k ≤ 2147483647) (hlo : lo ≤ vb) {T : Nat → Nat} (hT : ∀ b, lo ≤ b → T b = 2) :
    HeapSt T w2 (.slice (some ⟨g', 0, none⟩) (hs.length + 1) cap) g' (fun i => if i = hs.length then vb else s i) (hs ++ [⟨c, List.replicate k nilV⟩]) := by
  have hb := nstep hx hb2
  have hgl := blk_lt hcur
  have hxs := hx.size
  have hcell : ∀ j, j < (hs.length + 1) * 2 → w2.cell? ⟨g', j, none⟩ = (cur.toList ++ [.int .i64 c, .slice (some ⟨vb, 0, none⟩) k k])[j]? := fun j hj => by
    rw [cell_of_row _ _ _ _ _ _ hh, ← hcl, List.getElem?_take, if_pos hj]; simp
  have hcl' : cur.toList.length = hs.length * 2 := by simpa using hlen
  have hin : ∀ i x, hs[i]? = some x → s i < w1.heap.size := fun i x hx => hR.lt i (lt_of_get hx)
  refine ⟨⟨cap, by simp, by simpa using h1, h2⟩, by simp; omega, blk_lt hh, hT _ (by omega), fun i x hi => ?_, fun i j hi hj e => ?_⟩
  · by_cases hil : i < hs.length
    · rw [List.getElem?_append_left hil] at hi
      obtain ⟨e1, e2, e3, e4, e5⟩ := hR.obj i x hil hi
      simp only [show i ≠ hs.length by omega, if_false]
      have d : ∀ j, j < hs.length * 2 → w2.cell? ⟨g', j, none⟩ = w1.cell? ⟨g, j, none⟩ := fun j hj => by
        rw [hcell j (by omega), List.getElem?_append_left (by omega), cell_of_row _ _ _ _ _ _ hcur]; simp
      have := hin i x hi
      exact ⟨by rw [d _ (by omega)]; exact e1, by rw [d _ (by omega)]; exact e2, box_later' e3 hb, hT _ (by omega), by omega, e5⟩
    · have hi' : i = hs.length := by
        have := lt_of_get hi
        simp at this; omega
      subst hi'
      simp at hi
      subst hi
      simp only [if_true]
      refine ⟨?_, ?_, hv, hT _ hlo, by omega, by simp; omega⟩
      · rw [hcell _ (by omega), List.getElem?_append_right (by omega), hcl']; simp
      · rw [hcell _ (by omega), List.getElem?_append_right (by omega), hcl', show hs.length * 2 + 1 - hs.length * 2 = 1 by omega]; simp
  · simp at hi hj
    have big : ∀ i, i < hs.length → vb < s i := fun i hi => by
      have hx : hs[i]? = some hs[i] := by simp [hi]
      have := (hR.obj i _ hi hx).2.2.2.1
      omega
    by_cases a1 : i = hs.length
    · by_cases a2 : j = hs.length
      · omega
      · rw [if_pos a1, if_neg a2] at e
        have := big j (by omega); omega
    · by_cases a2 : j = hs.length
      · rw [if_neg a1, if_pos a2] at e
        have := big i (by omega); omega
      · rw [if_neg a1, if_neg a2] at e
        rcases Nat.lt_trichotomy i j with h | h | h
        · have := hR.inc i j h (by omega); omega
        · exact h
        · have := hR.inc j i h (by omega); omega
/-- What New leaves. -/
def NewPost (w : World) (hs : List QO) (c : Int) (k : Nat) (e : Ending) (w' : World) : Prop := Below w.heap.size w w' ∧
    ((60 ≤ hs.length ∨ 2147483647 < k) → e = .returned (.tuple #[.slice none 0 0, VV nilV, .int .i64 15])) ∧
    (¬ (60 ≤ hs.length ∨ 2147483647 < k) → ∃ g s cap, e = .returned (.tuple #[.slice (some ⟨g, 0, none⟩) (hs.length + 1) cap, VV ⟨4, hs.length⟩, .int .i64 0]) ∧ ∀ T : Nat → Nat, T w.heap.size = 4 → (∀ b, w.heap.size + 1 ≤ b → T b = 2) → HeapSt T w' (.slice (some ⟨g, 0, none⟩) (hs.length + 1) cap) g s (hs ++ [⟨c, List.replicate k nilV⟩]))
set_option maxHeartbeats 2000000 in
theorem vnew_any {P : Nat → Prop} (hs : List QO) (hv : Value) (c : Int) (k : Nat) (w : World) (h : IsHeap P w hv hs) : Calls Try.prog 120 #[hv, .int .i64 c, .int .i64 k] w fun e w' => NewPost w hs c k e w' := by
  obtain ⟨a, cap, rfl, -⟩ := id h
  by_cases h6 : 60 ≤ hs.length
  · have h6' : (60 : Int) ≤ (hs.length : Int) := by omega
    have HN : Hid (60 ≤ hs.length ∨ 2147483647 < k) := Or.inl h6
    go_enter Try.func120, Try.ntmps120
    go_wp2
    refine bodyPost_ret (v := .tuple #[.slice none 0 0, VV nilV, .int .i64 15]) ?_ rfl ⟨bel1 _ _, fun _ => rfl, fun hn => absurd HN.out hn⟩
    simp [results, Try.results120, go_sem]
  have h6' : ¬ ((60 : Int) ≤ (hs.length : Int)) := by omega
  by_cases h7 : 2147483647 < k
  · have h7' : (2147483647 : Int) < (k : Int) := by omega
    have HN : Hid (60 ≤ hs.length ∨ 2147483647 < k) := Or.inr h7
    go_enter Try.func120, Try.ntmps120
    go_wp2
    refine bodyPost_ret (v := .tuple #[.slice none 0 0, VV nilV, .int .i64 15]) ?_ rfl ⟨bel1 _ _, fun _ => rfl, fun hn => absurd HN.out hn⟩
    simp [results, Try.results120, go_sem]
  have h7' : ¬ ((2147483647 : Int) < (k : Int)) := by omega
  have hmk := make_vals k (by omega)
  have HN : Hid (¬ (60 ≤ hs.length ∨ 2147483647 < k)) := by show ¬ _; omega
  have hk0 : ¬ ((k : Int) < 0) := by omega
  have hb3 : Below w.heap.size w (((w.alloc (.cells #[.int .i64 0, .int .i64 0] 27)).alloc (.cells (madeCells #[.int .i64 0, .int .i64 0] (k * 2)) 27)).alloc (.cells #[.int .i64 c, .slice (some ⟨w.heap.size + 1, 0, none⟩) k k] 82)).drew := (bel3 _ _ _ _).drew
  have hH := h.later goodO hb3
  have hsz : (((w.alloc (.cells #[.int .i64 0, .int .i64 0] 27)).alloc (.cells (madeCells #[.int .i64 0, .int .i64 0] (k * 2)) 27)).alloc (.cells #[.int .i64 c, .slice (some ⟨w.heap.size + 1, 0, none⟩) k k] 82)).drew.heap.size = w.heap.size + 3 := by simp
  have hS0 : (((w.alloc (.cells #[.int .i64 0, .int .i64 0] 27)).alloc (.cells (madeCells #[.int .i64 0, .int .i64 0] (k * 2)) 27)).alloc (.cells #[.int .i64 c, .slice (some ⟨w.heap.size + 1, 0, none⟩) k k] 82)).drew.cell? ⟨w.heap.size + 1 + 1, 0, none⟩ = some (.int .i64 c) ∧ (((w.alloc (.cells #[.int .i64 0, .int .i64 0] 27)).alloc (.cells (madeCells #[.int .i64 0, .int .i64 0] (k * 2)) 27)).alloc (.cells #[.int .i64 c, .slice (some ⟨w.heap.size + 1, 0, none⟩) k k] 82)).drew.cell? ⟨w.heap.size + 1 + 1, 1, none⟩ = some (.slice (some ⟨w.heap.size + 1, 0, none⟩) k k) ∧ NwS w k (((w.alloc (.cells #[.int .i64 0, .int .i64 0] 27)).alloc (.cells (madeCells #[.int .i64 0, .int .i64 0] (k * 2)) 27)).alloc (.cells #[.int .i64 c, .slice (some ⟨w.heap.size + 1, 0, none⟩) k k] 82)).drew := by
    refine ⟨cell_new _ _ _ _ (by simp) 0, cell_new _ _ _ _ (by simp) 1, hb3, ⟨_, cell_later (bel2 _ _ _).drew (cell_new w #[.int .i64 0, .int .i64 0] 27 _ rfl 0)⟩, ⟨_, cell_later (bel2 _ _ _).drew (cell_new w #[.int .i64 0, .int .i64 0] 27 _ rfl 1)⟩, fun o => ((bel2 _ _ _).drew.frozen (p := ⟨w.heap.size, o, none⟩) (by simp)).trans (row_free (heap_alloc_new w (.cells #[.int .i64 0, .int .i64 0] 27)) o), ?_⟩
    rw [← madeV]
    refine box_later' (w := (w.alloc (.cells #[.int .i64 0, .int .i64 0] 27)).alloc (.cells (madeCells #[.int .i64 0, .int .i64 0] (k * 2)) 27)) ?_ (bel1 _ _).drew
    have := heap_alloc_new (w.alloc (.cells #[.int .i64 0, .int .i64 0] 27)) (.cells (madeCells #[.int .i64 0, .int .i64 0] (k * 2)) 27)
    simpa using this
  clear h
  go_enter Try.func120, Try.ntmps120
  go_wp2
  generalize (((w.alloc (.cells #[.int .i64 0, .int .i64 0] 27)).alloc (.cells (madeCells #[.int .i64 0, .int .i64 0] (k * 2)) 27)).alloc (.cells #[.int .i64 c, .slice (some ⟨w.heap.size + 1, 0, none⟩) k k] 82)) = W0 at *
  clear hmk
  have hszW : W0.heap.size = w.heap.size + 3 := hsz
  go_region_held3 (fun w' => w'.cell? ⟨w.heap.size + 1 + 1, 0, none⟩ = some (.int .i64 c) ∧ w'.cell? ⟨w.heap.size + 1 + 1, 1, none⟩ = some (Value.slice (some { block := w.heap.size + 1, off := 0 }) k k) ∧ NwS w k w')
    (first | with_reducible exact hS0 | with_reducible exact hY | exact keepNZ (by omega) hY _ _ _ _ | exact keepN (‹_ ∧ _ ∧ NwS w k _›) (bel1 _ _))
    (first
      | (refine step_append_obj rfl (.tmp 24) (.tmp 26) rfl g hs.length rfl _ rfl cur (by first | exact hcur | exact ((bel1 _ _).block _ (blk_lt hcur)).trans hcur) hlen (.int .i64 c) (Value.slice (some { block := w.heap.size + 1, off := 0 }) k k) (by first | (rw [cell_new _ _ _ _ rfl]; rfl) | exact cell_later hb1 (cell_new W0 _ 82 _ hszW 0)) (by first | (rw [cell_new _ _ _ _ rfl]; rfl) | exact cell_later hb1 (cell_new W0 _ 82 _ hszW 1)) rfl rfl hl0 ?_; intro g' cap' cur' w2 n1 n2 hh2 hcl hg2 hb2; have hY := keepN (‹_ ∧ _ ∧ NwS w k _›) hb2; have hfin : Hid (∀ T : Nat → Nat, (∀ b, w.heap.size + 1 ≤ b → T b = 2) → HeapSt T w2 (.slice (some ⟨g', 0, none⟩) (hs.length + 1) cap') g' _ (hs ++ [⟨c, List.replicate k nilV⟩])) := (fun T hT => newHeap hRow hcur hlen (by first | exact Below.refl _ _ | exact bel1 _ _) hb2 hY.2.2.vals n1 n2 hh2 hcl hg2 (by omega) hl0 (by omega) (Nat.le_refl _) hT); obtain ⟨-, ⟨v0, u0⟩, ⟨v1, u1⟩, hfr, -⟩ := id hY.2.2)
      | (go_at_call 60; refine (vown_any hs _ _ (hH.later goodO (by first | exact Below.refl _ _ | exact bel1 _ _))).mono ?_; rintro e w1 ⟨g, sg, rfl, hRow, hg1, hb1⟩; obtain ⟨cur, hcur, hlen⟩ := hRow.row; have hl0 : hs.length < 1000 := (by omega); have hg3 : w.heap.size + 3 ≤ g := (by simp at hg1; omega); have hY := keepN (‹_ ∧ _ ∧ NwS w k _›) hb1))
  all_goals go_wp2
  all_goals (
    refine bodyPost_ret (v := .tuple #[.slice (some ⟨g', 0, none⟩) (hs.length + 1) cap', VV ⟨4, hs.length⟩, .int .i64 0]) ?_ rfl ⟨((hY.2.2.set _ _).set _ _).bel, fun h => absurd h HN.out, fun _ => ⟨g', (fun i => if i = hs.length then w.heap.size + 1 else sg i), cap', rfl, fun T hT1 hT2 => ?_⟩⟩
    · simp [results, Try.results120, go_sem, u0, u1]
    · exact (hfin.out T hT2).keep (.refl _ _) (((Kp.refl (fun t => t = 4) _ _).set (fun _ => hT1) _ _).set (fun _ => hT1) _ _) (by omega))

theorem HeapSt.same {T T' : Nat → Nat} {w w' : World} {hv : Value} {g : Nat} {s : Nat → Nat} {xs : List QO} (h : HeapSt T w hv g s xs) (e : ∀ b, T b = 2 → b < w.heap.size → T' b = 2 ∧ w'.heap[b]? = w.heap[b]?) (hz : w.heap.size ≤ w'.heap.size) : HeapSt T' w' hv g s xs := by
  have hc : ∀ o u, w.cell? ⟨g, o, none⟩ = some u → w'.cell? ⟨g, o, none⟩ = some u := fun o u hu => by
    unfold World.cell? at hu ⊢
    rw [(e g h.tg h.there).2]; exact hu
  refine ⟨h.form, h.len, Nat.lt_of_lt_of_le h.there hz, (e g h.tg h.there).1, fun i x hx => ?_, h.inj⟩
  obtain ⟨e1, e2, e3, e4, e5, e6⟩ := h.obj i x hx
  exact ⟨hc _ _ e1, hc _ _ e2, by rw [(e _ e4 (blk_lt e3)).2]; exact e3, (e _ e4 (blk_lt e3)).1, e5, e6⟩
/-- What makeObject's walk holds. -/
structure MkS (w : World) (mb : Nat) (v0 v1 : Value) (ep : Int) (w' : World) : Prop where
  bel : Below w.heap.size w w'
  m0 : w'.cell? ⟨mb, 0, none⟩ = some v0
  m1 : w'.cell? ⟨mb, 1, none⟩ = some v1
  m2 : w'.cell? ⟨mb, 2, none⟩ = some (.int .i64 ep)
  lt : mb < w.heap.size
theorem MkS.later {w : World} {mb : Nat} {v0 v1 : Value} {ep : Int} {w' w'' : World} (h : MkS w mb v0 v1 ep w') (hb : Below w'.heap.size w' w'') : MkS w mb v0 v1 ep w'' := ⟨nstep h.bel hb, cell_later hb h.m0, cell_later hb h.m1, cell_later hb h.m2, h.lt⟩
theorem MkS.set {w : World} {mb : Nat} {v0 v1 : Value} {ep : Int} {w' : World} (h : MkS w mb v0 v1 ep w') {b : Nat} (hb : w.heap.size ≤ b) (o : Nat) (u : Value) : MkS w mb v0 v1 ep (w'.setCell ⟨b, o, none⟩ u) :=
  have hl := h.lt
  ⟨h.bel.setCell hb _, (World.cell?_setCell_far _ _ _ _ (by simp; omega)).trans h.m0, (World.cell?_setCell_far _ _ _ _ (by simp; omega)).trans h.m1, (World.cell?_setCell_far _ _ _ _ (by simp; omega)).trans h.m2, hl⟩
theorem MkS.al {w : World} {mb : Nat} {v0 v1 : Value} {ep : Int} {w' : World} (h : MkS w mb v0 v1 ep w') : w'.cell? ⟨mb, 0, none⟩ = some v0 ∧ w'.cell? ⟨mb, 1, none⟩ = some v1 ∧ w'.cell? ⟨mb, 2, none⟩ = some (.int .i64 ep) ∧ MkS w mb v0 v1 ep w' := ⟨h.m0, h.m1, h.m2, h⟩
/-- A value's box that is new. -/
structure BoxV (w : World) (b : Nat) : Prop where
  c0 : w.cell? ⟨b, 0, none⟩ = some (.int .i64 0)
  c1 : w.cell? ⟨b, 1, none⟩ = some (.int .i64 0)
  fr : ∀ o, w.frozen? ⟨b, o, none⟩ = false
  lt : b < w.heap.size
theorem boxV_new (w : World) : BoxV (w.alloc (.cells #[.int .i64 0, .int .i64 0] 27)) w.heap.size := ⟨cell_new _ _ _ _ rfl 0, cell_new _ _ _ _ rfl 1, row_free (heap_alloc_new w (.cells #[.int .i64 0, .int .i64 0] 27)), by simp⟩
theorem boxV_newD (w : World) : BoxV (w.alloc (.cells #[.int .i64 0, .int .i64 0] 27)).drew w.heap.size := ⟨(boxV_new w).c0, (boxV_new w).c1, (boxV_new w).fr, (boxV_new w).lt⟩
theorem sizeAD (w : World) (x : Obj) : w.heap.size < (w.alloc x).drew.heap.size := by simp
theorem BoxV.later {w w' : World} {b : Nat} (h : BoxV w b) (hb : Below w.heap.size w w') : BoxV w' b := ⟨cell_later hb h.c0, cell_later hb h.c1, fun o => (hb.frozen (p := ⟨b, o, none⟩) h.lt).trans (h.fr o), Nat.lt_of_lt_of_le h.lt hb.size⟩
/-- Tags for what New made. -/
theorem mkSum (T : Nat → Nat) (w : World) {W' w2 : World} {hv : Value} {g : Nat} {s : Nat → Nat} {xs : List QO} (h : ∀ T : Nat → Nat, T W'.heap.size = 4 → (∀ b, W'.heap.size + 1 ≤ b → T b = 2) → HeapSt T w2 hv g s xs) : Hid (∃ T2, (w.heap.size ≤ W'.heap.size → Ext T T2 w) ∧ HeapSt T2 w2 hv g s xs ∧ ∀ b, w.heap.size ≤ b → b ≤ W'.heap.size → T2 b = 4) := by
  refine ⟨fun b => if b < w.heap.size ∧ b < W'.heap.size then T b else if b ≤ W'.heap.size then 4 else 2, fun hs b hb => ?_, h _ ?_ fun b hb => ?_, fun b h1 h2 => ?_⟩
  · simp only [if_pos (And.intro hb (Nat.lt_of_lt_of_le hb hs))]
  · simp
  · simp only [if_neg (show ¬ (b < w.heap.size ∧ b < W'.heap.size) by omega), if_neg (show ¬ b ≤ W'.heap.size by omega)]
  · simp only [if_neg (show ¬ (b < w.heap.size ∧ b < W'.heap.size) by omega), if_pos h2]
theorem push_after {hv2 : Value} {g2 : Nat} {s2 : Nat → Nat} {xs2 : List QO} {w2 U : World} {T2 : Nat → Nat} {v : QV} (hM : MacAt p T w mb m calls hv g s) (hF : FrAt T K w fb f cv av tv sv kv) (hE : Ext T T2 w) (hH : HeapSt T2 w2 hv2 g2 s2 xs2) (ha : U.heap[mb]? = some (MB p { m with heap := xs2 } calls hv2)) (kU : Kp (fun t => t = 1 ∨ t = 4) T2 w2 U) (kw : Kp (fun t => t = 1) T w U) (hroom : f.stack.length < 1000000000) :
    Calls Try.prog 111 #[.pointer (some ⟨fb, 0, none⟩), VV v] U fun e w' => e = .returned (.tuple #[]) ∧ (∃ T', Ext T T' w ∧ (∃ hv' g' s', MacAt p T' w' mb { m with heap := xs2 } calls hv' g' s') ∧ (((0 : Int) = 0) → ∃ sv', FrAt T' K w' fb (f.push v) cv av tv sv' kv)) ∧ Kp (fun t => t = 1 ∨ t = K ∨ t = K + 2) T w w' := by
  have hp := hF.pos
  have hMU : MacAt p T2 U mb { m with heap := xs2 } calls hv2 g2 s2 := ⟨ha, by rw [hE _ (blk_lt hM.box)]; exact hM.tag, hH.keep (.refl _ _) kU (by omega), hM.cls.fx goodC hE kw (by omega)⟩
  have hFU := hF.keep hE kw (by omega) (by omega) (by omega) (by omega)
  refine (push_any hFU v hroom).mono ?_
  rintro e w4 ⟨rfl, ⟨T4, sv4, e4, hF4⟩, k4⟩
  have ew : Ext T T4 w := hE.trans kw.size e4
  refine ⟨rfl, ⟨T4, ew, ⟨_, _, _, hMU.keep e4 k4 (by omega) (by omega) (by omega)⟩, fun _ => ⟨_, hF4⟩⟩, ?_⟩
  exact (kw.mono fun t h => Or.inl h).trans hE (k4.mono fun t h => Or.inr h)
/-- What makeObject leaves. -/
def MakePost (p : Mp σ) (T : Nat → Nat) (w : World) (mb : Nat) (m : Mc σ) (calls : Int) (K fb : Nat) (f : Fr) (cv av tv kv : Value) (r : Mc σ × Fr × Int) (e : Ending) (w' : World) : Prop :=
  e = .returned (.int .i64 r.2.2) ∧ (∃ T', Ext T T' w ∧ (∃ hv' g' s', MacAt p T' w' mb r.1 calls hv' g' s') ∧ (r.2.2 = 0 → ∃ sv', FrAt T' K w' fb r.2.1 cv av tv sv' kv)) ∧ Kp (fun t => t = 1 ∨ t = K ∨ t = K + 2) T w w'
set_option maxHeartbeats 2000000 in
theorem makeObject_any (h : MacAt p T w mb m calls hv g s) (hF : FrAt T K w fb f cv av tv sv kv) (c : Int) (hsl : slotsW p.E.classes c = slotsE p.E.classes c ∧ 0 ≤ slotsE p.E.classes c) (hroom : f.stack.length < 1000000000) : Calls Try.prog 114 #[.pointer (some ⟨mb, 0, none⟩), .pointer (some ⟨fb, 0, none⟩), .int .i64 c] w fun e w' => MakePost p T w mb m calls K fb f cv av tv kv (makeE p.E m f c) e w' := by
  have hp := hF.pos
  have hlm := blk_lt h.box
  have hlf := blk_lt hF.box
  obtain ⟨k, hk⟩ : ∃ k : Nat, slotsE p.E.classes c = (k : Int) := ⟨(slotsE p.E.classes c).toNat, by omega⟩
  have HE : Hid (makeE p.E m f c = if 60 ≤ m.heap.length ∨ 2147483647 < k then (m, f, 15) else ({ m with heap := m.heap ++ [⟨c, List.replicate k nilV⟩] }, f.push ⟨4, m.heap.length⟩, 0)) := by
    show _ = _
    unfold makeE
    rw [hk]
    simp only [Int.toNat_natCast]
    by_cases hc : 60 ≤ m.heap.length ∨ (2147483647 : Int) < (k : Int)
    · rw [if_pos hc, if_pos (by omega)]
    · rw [if_neg hc, if_neg (by omega)]
  have hW : slotsW p.E.classes c = (k : Int) := by rw [hsl.1, hk]
  clear hk hsl
  have hd : Below w.heap.size w w.drew := (Below.refl _ _).drew
  have hM := h
  have hFr := hF
  have hH := hM.heap.heap.mono (Q := fun _ => True) goodO fun _ _ => trivial
  have hC := hM.cls.mono (Q := fun _ => True) goodC fun _ _ => trivial
  have hS0 : MkS w mb p.cv hv p.ep w.drew := ⟨hd, hM.c0, hM.c1, hM.c2, hlm⟩
  have HM := hid hM
  have HF := hid hFr
  obtain ⟨ac, cc, hcv, -⟩ := id hC
  obtain ⟨ah, ch, rfl, -⟩ := id hH
  have hslots : ∀ w' : World, Below w.heap.size w w' → Calls Try.prog 121 #[WV p.cv (.slice ah m.heap.length ch) p.ep, .int .i64 c] w' fun e w'' => e = .returned (.int .i64 (k : Int)) ∧ Below w'.heap.size w' w'' := fun w' hb => by
    have := slotsW_any ⟨p.E.classes, m.heap, p.ep⟩ c _ _ w' (hC.later goodC hb) (hH.later goodO hb)
    rw [hW] at this
    exact this
  rw [hcv] at hslots hS0
  have hnew : ∀ w' : World, Below w.heap.size w w' → Calls Try.prog 120 #[.slice ah m.heap.length ch, .int .i64 c, .int .i64 (k : Int)] w' fun e w'' => NewPost w' m.heap c k e w'' := fun w' hb => vnew_any m.heap _ c k w' (hH.later goodO hb)
  clear h hF hM hFr hW hcv hC hH
  by_cases hc : 60 ≤ m.heap.length ∨ 2147483647 < k
  · rw [if_pos hc] at HE
    rw [HE.out]
    have HC := hid hc
    clear hc
    go_enter Try.func114, Try.ntmps114
    go_wp2
    have tokA : True := trivial
    go_region_held3 (fun w' => w'.cell? ⟨mb, 0, none⟩ = some (.slice ac p.E.classes.length cc) ∧ w'.cell? ⟨mb, 1, none⟩ = some (.slice ah m.heap.length ch) ∧ w'.cell? ⟨mb, 2, none⟩ = some (.int .i64 p.ep) ∧ MkS w mb (.slice ac p.E.classes.length cc) (.slice ah m.heap.length ch) p.ep w')
      (first | with_reducible exact hS0.al | with_reducible exact hY.al | with_reducible exact hY2.al | exact (hY2.later (bel1 _ _)).al | exact ((‹_ ∧ _ ∧ _ ∧ MkS w mb (.slice ac p.E.classes.length cc) (.slice ah m.heap.length ch) p.ep _›).2.2.2.later (bel1 _ _)).al | exact ((hY2.set (by omega) _ _).set (by omega) _ _).al)
      (first
        | (have _t := tokA; go_at_call 121; refine (hslots _ (‹_ ∧ _ ∧ _ ∧ MkS w mb (.slice ac p.E.classes.length cc) (.slice ah m.heap.length ch) p.ep _›).2.2.2.bel).mono ?_; rintro e w1 ⟨rfl, hb1⟩; have hY := (‹_ ∧ _ ∧ _ ∧ MkS w mb (.slice ac p.E.classes.length cc) (.slice ah m.heap.length ch) p.ep _›).2.2.2.later hb1; clear tokA; have tokB : True := trivial; obtain ⟨hc1, hf1⟩ := bcell hb1; have hz1 := hY.bel.size; try (have hl := Nat.lt_of_lt_of_le (sizeAD w _) hb1.size))
        | (have _t := tokB; go_at_call 120; refine (hnew _ (‹_ ∧ _ ∧ _ ∧ MkS w mb (.slice ac p.E.classes.length cc) (.slice ah m.heap.length ch) p.ep _›).2.2.2.bel).mono ?_; rintro e w2 ⟨hb2, hp1, -⟩; obtain rfl := hp1 HC.out; clear hp1; have hY2 := (‹_ ∧ _ ∧ _ ∧ MkS w mb (.slice ac p.E.classes.length cc) (.slice ah m.heap.length ch) p.ep _›).2.2.2.later hb2; have hsz0 := (‹_ ∧ _ ∧ _ ∧ MkS w mb (.slice ac p.E.classes.length cc) (.slice ah m.heap.length ch) p.ep _›).2.2.2.bel.size; clear tokB; obtain ⟨hc2, hf2⟩ := bcell hb2; have hz2 := hb2.size; have hz3 := hb1.size))
    all_goals (
      have HBF := hid (‹_ ∧ _ ∧ _ ∧ MkS w mb (.slice ac p.E.classes.length cc) (.slice ah m.heap.length ch) p.ep _›).2.2.2.bel
      clear hY hY2
      go_wp2
      go_ret
      exact ⟨rfl, ⟨T, .refl _ _, ⟨_, _, _, HM.out.later HBF.out⟩, fun h => absurd h (by simp)⟩, Kp.of_below HBF.out⟩)
  · rw [if_neg hc] at HE
    rw [HE.out]
    have HC := hid hc
    clear hc
    go_enter Try.func114, Try.ntmps114
    go_wp2
    have tokA : True := trivial
    go_region_held3 (fun w' => w'.cell? ⟨mb, 0, none⟩ = some (.slice ac p.E.classes.length cc) ∧ w'.cell? ⟨mb, 1, none⟩ = some (.slice ah m.heap.length ch) ∧ w'.cell? ⟨mb, 2, none⟩ = some (.int .i64 p.ep) ∧ MkS w mb (.slice ac p.E.classes.length cc) (.slice ah m.heap.length ch) p.ep w')
      (first | with_reducible exact hS0.al | with_reducible exact hY.al | with_reducible exact hY2.al | exact (hY2.later (bel1 _ _)).al | exact ((‹_ ∧ _ ∧ _ ∧ MkS w mb (.slice ac p.E.classes.length cc) (.slice ah m.heap.length ch) p.ep _›).2.2.2.later (bel1 _ _)).al | exact ((hY2.set (by omega) _ _).set (by omega) _ _).al)
      (first
        | (have _t := tokA; go_at_call 121; refine (hslots _ (‹_ ∧ _ ∧ _ ∧ MkS w mb (.slice ac p.E.classes.length cc) (.slice ah m.heap.length ch) p.ep _›).2.2.2.bel).mono ?_; rintro e w1 ⟨rfl, hb1⟩; have hY := (‹_ ∧ _ ∧ _ ∧ MkS w mb (.slice ac p.E.classes.length cc) (.slice ah m.heap.length ch) p.ep _›).2.2.2.later hb1; clear tokA; have tokB : True := trivial; obtain ⟨hc1, hf1⟩ := bcell hb1; have hz1 := hY.bel.size; try (have hl := Nat.lt_of_lt_of_le (sizeAD w _) hb1.size))
        | (have _t := tokB; go_at_call 120; refine (hnew _ (‹_ ∧ _ ∧ _ ∧ MkS w mb (.slice ac p.E.classes.length cc) (.slice ah m.heap.length ch) p.ep _›).2.2.2.bel).mono ?_; rintro e w2 ⟨hb2, -, hp2⟩; obtain ⟨g2, s2, cap2, rfl, hheap⟩ := hp2 HC.out; have hsum := mkSum T w hheap; clear hp2 hheap; have hY2 := (‹_ ∧ _ ∧ _ ∧ MkS w mb (.slice ac p.E.classes.length cc) (.slice ah m.heap.length ch) p.ep _›).2.2.2.later hb2; have hsz0 := (‹_ ∧ _ ∧ _ ∧ MkS w mb (.slice ac p.E.classes.length cc) (.slice ah m.heap.length ch) p.ep _›).2.2.2.bel.size; clear tokB; obtain ⟨hc2, hf2⟩ := bcell hb2; have hz2 := hb2.size; have hz3 := hb1.size))
    all_goals (
      have HW2 := hid hY2.bel
      have hx2 := box_later' HM.out.box HW2.out
      have hm1 : w2.cell? ⟨mb, 1, none⟩ = some (.slice ah m.heap.length ch) := by rw [cell_of_row _ _ _ _ _ _ hx2]; rfl
      have hmf := row_free hx2
      have HX2 := hid hx2
      have hlm2 : mb < w2.heap.size := blk_lt hx2
      have hn1 : ¬ mb = w2.heap.size := by omega
      have hn2 : ¬ mb = w1.heap.size := by omega
      have hn3 : ¬ mb = w.heap.size := by omega
      have hn4 : ¬ w2.heap.size = mb := by omega
      have hn5 : ¬ w1.heap.size = mb := by omega
      have hn6 : ¬ w.heap.size = mb := by omega
      clear hY hY2 hx2
      go_wp2_with fail
      obtain ⟨T2, hE, hH2, hT4⟩ := hsum.out
      have hE2 := hE (by first | omega | (simp; omega))
      have hmt : T2 mb = 1 := by rw [hE2 mb hlm]; exact HM.out.tag
      have h4 : ∀ b, w.heap.size ≤ b → b ≤ w1.heap.size → T2 b = 4 := fun b h1 h2 => hT4 b h1 (by first | omega | (simp; omega))
      refine (push_after (v := ⟨4, m.heap.length⟩) HM.out HF.out hE2 hH2
        (by first | exact box_later' (mb_set1 HX2.out _ _) (bel1 _ _) | exact mb_set1 (by rw [setCell_else hn2, setCell_else hn2]; exact HX2.out) _ _ | exact mb_set1 (by rw [setCell_else hn3, setCell_else hn3]; exact HX2.out) _ _)
        (by first | exact ((Kp.refl _ _ _).set (fun _ => Or.inl hmt) _ _).on (bel1 _ _) | exact (((Kp.refl _ _ _).set (fun _ => Or.inr (h4 _ (by omega) (by omega))) _ _).set (fun _ => Or.inr (h4 _ (by omega) (by omega))) _ _).set (fun _ => Or.inl hmt) _ _)
        (by first | exact ((Kp.of_below HW2.out).set (fun _ => HM.out.tag) _ _).on (bel1 _ _) | exact (((Kp.of_below HW2.out).set (fun h => absurd h (by omega)) _ _).set (fun h => absurd h (by omega)) _ _).set (fun _ => HM.out.tag) _ _)
        hroom).mono ?_
      rintro e w4 ⟨rfl, q1, q2⟩
      have Q1 := hid q1
      have Q2 := hid q2
      clear q1 q2 hc1 hf1 hc2 hf2
      go_wp2
      go_ret
      obtain ⟨T', a1, a2, a3⟩ := Q1.out
      exact ⟨rfl, ⟨T', a1, a2, fun _ => a3 (by trivial)⟩, Q2.out⟩)
end
end Go.Proofs.Ytdfbgpiikeheiaa
