/- A slice of one's own that is cut at its head, and appended to. -/
import Derived.Test.YtjmidhghiahbaaaGreatDoorCf
import Derived.ArgAppend
namespace Go.Proofs.YtjmidhghiahbaaaGreatDoor
open Go.ChangeShapes Go.WideShapes Go.ChangeAt Go.RowKit
set_option linter.unusedSimpArgs false
set_option linter.unusedVariables false
set_option maxRecDepth 8000

/-- The slice v, of n elements of sz cells, is in a row of its own from block base on, wherever in it; its cells are xs. -/
def ownsAt (w : World) (base : Nat) (e : TypeId) (sz : Nat) (v : Value) (n : Nat) (xs : List Value) : Prop :=
  xs.length = n * sz ∧ ((v = .slice none 0 0 ∧ n = 0) ∨ ∃ g o cap cur, v = .slice (some ⟨g, o, none⟩) n cap ∧ base ≤ g ∧ w.heap[g]? = some (.cells cur e (0, 0)) ∧ n ≤ cap ∧ cap ≤ maxLen ∧ o + cap * sz ≤ cur.size ∧ (cur.toList.drop o).take (n * sz) = xs)
/-- All but the box bl, and the row ow, are as they were. -/
structure Led (w w' : World) (lo bl : Nat) (ow : Option Nat) : Prop where
  bel : Below lo w w'
  blk : ∀ b, b < w.heap.size → b ≠ bl → some b ≠ ow → w'.heap[b]? = w.heap[b]?
theorem ownsAt.keep {w w' : World} {base : Nat} {e : TypeId} {sz : Nat} {v : Value} {n : Nat} {xs : List Value} (h : ownsAt w base e sz v n xs) (hk : ∀ g, v.ownBlock = some g → w'.heap[g]? = w.heap[g]?) : ownsAt w' base e sz v n xs := by
  obtain ⟨h1, h2 | ⟨g, o, cap, cur, rfl, h3, h4, h5⟩⟩ := h
  · exact ⟨h1, Or.inl h2⟩
  · exact ⟨h1, Or.inr ⟨g, o, cap, cur, rfl, h3, by rw [hk g (by simp [Value.ownBlock])]; exact h4, h5⟩⟩
theorem ownsAt.lt {w : World} {base : Nat} {e : TypeId} {sz : Nat} {v : Value} {n : Nat} {xs : List Value} (h : ownsAt w base e sz v n xs) : ∀ g, v.ownBlock = some g → base ≤ g ∧ g < w.heap.size := by
  obtain ⟨h1, h2 | ⟨g, o, cap, cur, rfl, h3, h4, h5⟩⟩ := h
  · intro g hg; rw [h2.1] at hg; cases hg
  · intro g' hg
    simp [Value.ownBlock] at hg
    subst hg
    exact ⟨h3, blk_lt h4⟩
theorem ownsAt.alloc {w : World} {base : Nat} {e : TypeId} {sz : Nat} {v : Value} {n : Nat} {xs : List Value} (h : ownsAt w base e sz v n xs) (o : Obj) : ownsAt (w.alloc o) base e sz v n xs :=
  h.keep fun g hg => (bel1 w o).block _ (h.lt g hg).2
theorem ownsAt.form {w : World} {base : Nat} {e : TypeId} {sz : Nat} {v : Value} {n : Nat} {xs : List Value} (h : ownsAt w base e sz v n xs) : ∃ a cap, v = .slice a n cap ∧ n ≤ cap ∧ cap ≤ maxLen := by
  obtain ⟨-, ⟨rfl, rfl⟩ | ⟨g, o, cap, cur, rfl, -, -, h1, h2, -⟩⟩ := h
  · exact ⟨none, 0, rfl, Nat.le_refl _, by unfold maxLen; omega⟩
  · exact ⟨_, cap, rfl, h1, h2⟩
theorem setCells_row {g : Nat} {t : TypeId} : ∀ (vs : List Value) (o : Nat) (w : World) (cur : Array Value), w.heap[g]? = some (.cells cur t (0, 0)) → o + vs.length ≤ cur.size → (w.setCells g o vs).heap[g]? = some (.cells (cur.toList.take o ++ vs ++ cur.toList.drop (o + vs.length)).toArray t (0, 0))
  | [], o, w, cur, h, hl => by simpa [World.setCells] using h
  | v :: vs, o, w, cur, h, hl => by
    simp only [List.length_cons] at hl
    unfold World.setCells
    rw [setCells_row vs (o + 1) _ _ (setCell_same h v) (by simp; omega)]
    congr 3
    apply List.ext_getElem?
    intro i
    simp only [Array.toList_setIfInBounds, List.length_cons, List.getElem?_append, List.length_append, List.length_take, List.length_set, Array.length_toList, List.getElem?_take, List.getElem?_drop, List.getElem?_set, List.getElem?_cons]
    have e1 : min (o + 1) cur.size = o + 1 := by omega
    have e2 : min o cur.size = o := by omega
    rw [e1, e2]
    by_cases h1 : i < o
    · simp [h1, show i < o + 1 by omega, show i < o + 1 + vs.length by omega, show i < o + (vs.length + 1) by omega, show ¬ o = i by omega]
    · by_cases h2 : i = o
      · subst h2
        simp [show i < i + 1 + vs.length by omega, show i < cur.size by omega]
      · by_cases h3 : i < o + 1 + vs.length
        · obtain ⟨d, rfl⟩ : ∃ d, i = o + 1 + d := ⟨i - (o + 1), by omega⟩
          simp [show ¬ (o + 1 + d < o) by omega, h3, show o + 1 + d < o + (vs.length + 1) by omega, show ¬ (o + 1 + d < o + 1) by omega, show o + 1 + d - (o + 1) = d by omega, show o + 1 + d - o = d + 1 by omega]
        · have h4 : ¬ (i < o + (vs.length + 1)) := by omega
          simp only [h3, h4, if_false, show ¬ i < o by omega]
          rw [show o + 1 + vs.length + (i - (o + 1 + vs.length)) = i by omega, show o + (vs.length + 1) + (i - (o + (vs.length + 1))) = i by omega]
          simp [show ¬ o = i by omega]
theorem bel_setCells (g : Nat) : ∀ (vs : List Value) (o : Nat) (w : World), Below g w (w.setCells g o vs)
  | [], o, w => Below.refl _ _
  | v :: vs, o, w => by
    unfold World.setCells
    exact ((Below.refl g w).setCell (Nat.le_refl g) _).trans (bel_setCells g vs (o + 1) _)
theorem ownsAt_of {w : World} {base base' : Nat} {e : TypeId} {sz : Nat} {v : Value} {n : Nat} {xs : List Value} (h : w.ownsRow base' e sz v n xs) (hb : base ≤ base') : ownsAt w base e sz v n xs := by
  obtain ⟨h1, h2 | ⟨g, c, cur, e, h3, h4, h5, h6, h7, h8⟩⟩ := h
  · exact ⟨h1, Or.inl h2⟩
  · exact ⟨h1, Or.inr ⟨g, 0, c, cur, e, by omega, h4, h5, h6, by omega, by simpa using h8⟩⟩
theorem run_append_at {w : World} (T ty e : TypeId) (z : Value) (sz bytes : Nat) (hT : Tryz.prog.underlying T = some (.slice e)) (hI : (Tryz.prog.info? e).map (fun i => (i.zero, i.size, i.bytes)) = some (some z, sz, bytes)) (hzs : z.cells.size = sz) (hsz : 0 < sz)
    (base n : Nat) (v : Value) (xs : List Value) (hown : ownsAt w base e sz v n xs) (Bb : Nat) (news : List Value) (hl : news.length = sz) (hX : w.heap[Bb]? = some (.cells news.toArray e (0, 0))) (h1 : ∀ u ∈ news, u.oneCell' = true) (h63 : n + 1 ≤ maxLen) (hby : (n + 1) * bytes ≤ 140737488355328) (hbase : base ≤ w.heap.size) :
    ∃ v' w', (Builtin.append_ #[T, T] ty #[v, .slice (some ⟨Bb, 0, none⟩) 1 1]).run Tryz.prog w = .ok v' w' ∧ ownsAt w' base e sz v' (n + 1) (xs ++ news) ∧ (v'.ownBlock = v.ownBlock ∨ ∃ g, v'.ownBlock = some g ∧ w.heap.size ≤ g) ∧ Below base w w' ∧ (∀ b, b < w.heap.size → some b ≠ v.ownBlock → w'.heap[b]? = w.heap[b]?) := by
  obtain ⟨i0, hi, hz0, hz1, hz2⟩ := info_parts hI
  have hnews : ∀ j u, news[j]? = some u → w.cell? ((⟨Bb, 0, none⟩ : Addr).add j) = some u := fun j u hu => by rw [Addr.add_lit, Nat.zero_add, cell_of_row _ _ _ _ _ _ hX]; simpa using hu
  obtain ⟨hxl, ⟨rfl, rfl⟩ | ⟨g, o, cap, cur, rfl, h3, h4, h5, h6, h7, h8⟩⟩ := id hown
  · obtain ⟨v', w', hrun, r1, r2, _⟩ := run_append_own (P := Tryz.prog) w w.heap.size T ty e i0 z sz bytes hT hi hz0 hz1 hz2 hzs hsz (.slice none 0 0) 0 [] (World.ownsRow_nil w _ e sz) ⟨Bb, 0, none⟩ 1 1 news (by omega) hnews h1 h63 hby (Nat.le_refl _)
    have hxs : xs = [] := List.eq_nil_of_length_eq_zero (by simpa using hxl)
    subst hxs
    refine ⟨v', w', hrun, ownsAt_of (by simpa using r1) hbase, Or.inr ?_, ?_, fun b hb hne => r2.block b hb hne⟩
    · obtain ⟨-, h | ⟨g, c, cur, e, h3, h4, -⟩⟩ := r1
      · omega
      · exact ⟨g, by rw [e]; rfl, h3⟩
    · exact (Below.refl _ _).grown r2 hbase fun k hk => by cases hk
  · by_cases hr : n + 1 ≤ cap
    · have hcs : cur.toList.length = cur.size := by simp
      have hon : o + n * sz + news.length ≤ cur.size := by
        have : (n + 1) * sz ≤ cap * sz := Nat.mul_le_mul_right _ hr
        rw [Nat.add_mul] at this
        omega
      have hrun := run_append_room_cells (P := Tryz.prog) w T ty e i0 hT hi g o n cap ⟨Bb, 0, none⟩ 1 1 news (by rw [hz1]; omega) hnews h1 hr (fun j hj => by rw [hz1, cell_of_row _ _ _ _ _ _ h4]; simp; omega) (fun j hj => by unfold World.frozen?; simp [h4])
      rw [hz1] at hrun
      have hrow := setCells_row news (o + n * sz) w cur h4 hon
      refine ⟨_, _, hrun, ⟨by rw [List.length_append, hxl, hl, Nat.add_mul]; omega, Or.inr ⟨g, o, cap, _, rfl, h3, hrow, hr, h6, ?_, ?_⟩⟩, Or.inl rfl, ?_, fun b hb hne => setCells_else (fun e => hne (by rw [e]; rfl)) _ _ _⟩
      · simp
        omega
      · rw [← h8]
        apply List.ext_getElem?
        intro i
        simp only [List.getElem?_take, List.getElem?_drop, List.getElem?_append, List.length_append, List.length_take, List.length_drop, hcs]
        have e1 : min (o + n * sz) cur.size = o + n * sz := by omega
        have e2 : min (n * sz) (cur.size - o) = n * sz := by omega
        rw [e1, e2]
        have e3 : (n + 1) * sz = n * sz + sz := by rw [Nat.add_mul]; omega
        rw [e3]
        by_cases g1 : i < n * sz
        · simp [g1, show i < n * sz + sz by omega, show o + i < o + n * sz by omega, show o + i < o + n * sz + news.length by omega]
        · by_cases g2 : i < n * sz + sz
          · simp [g1, g2, show ¬ (o + i < o + n * sz) by omega, show o + i < o + n * sz + news.length by omega, show o + i - (o + n * sz) = i - n * sz by omega]
          · simp [g1, g2]
            omega
      · refine ⟨?_, ?_, ?_, ?_, fun k hk => setCells_else (by omega) _ _ _⟩
        · exact (bel_setCells _ _ _ _).os
        · exact (bel_setCells _ _ _ _).tape
        · exact (bel_setCells _ _ _ _).output
        · rw [setCells_size]; exact Nat.le_refl _
    · obtain ⟨v', w', hrun, r1, r2⟩ := run_append_arg_grows (P := Tryz.prog) w T ty e i0 z sz bytes hT hi hz0 hz1 hz2 hzs hsz ⟨g, o, none⟩ n cap xs hxl (fun j u hu => by
        rw [Addr.add_lit, cell_of_row _ _ _ _ _ _ h4]
        rw [← h8, List.getElem?_take] at hu
        split at hu
        · rw [List.getElem?_drop] at hu; simpa using hu
        · cases hu) ⟨Bb, 0, none⟩ 1 1 news (by omega) hnews (by omega) h63 hby
      refine ⟨v', w', hrun, ownsAt_of r1 hbase, Or.inr ?_, ?_, fun b hb hne => r2.block b hb (by simp)⟩
      · obtain ⟨-, h | ⟨g, c, cur, e, h3, h4, -⟩⟩ := r1
        · omega
        · exact ⟨g, by rw [e]; rfl, h3⟩
      · exact (Below.refl _ _).grown r2 hbase fun k hk => by cases hk
theorem wpList_append_at {ops : Array Oper} {rest : List Oper} {o : Oper} {a : Act} {w : World} {Q : Exit → Act → World → Prop} (hgd : o.guard = none) (s x : Operand) (T e : TypeId) (z : Value) (sz bytes : Nat)
    (hop : o.op = Op.call { callee := Callee.builtin Builtin.append, args := #[s, x], argTypes := #[T, T] }) (hT : Tryz.prog.underlying T = some (.slice e)) (hI : (Tryz.prog.info? e).map (fun i => (i.zero, i.size, i.bytes)) = some (some z, sz, bytes)) (hzs : z.cells.size = sz) (hsz : 0 < sz)
    (base n : Nat) (v : Value) (xs : List Value) (hs : a.eval s = v) (hown : ownsAt w base e sz v n xs) (Bb : Nat) (hx : a.eval x = .slice (some ⟨Bb, 0, none⟩) 1 1) (news : List Value) (hl : news.length = sz) (hX : w.heap[Bb]? = some (.cells news.toArray e (0, 0))) (h1 : ∀ u ∈ news, u.oneCell' = true) (h63 : n + 1 ≤ maxLen) (hby : (n + 1) * bytes ≤ 140737488355328) (hbase : base ≤ w.heap.size)
    (hK : ∀ a' cap' w', ownsAt w' base e sz (.slice a' (n + 1) cap') (n + 1) (xs ++ news) → ((Value.slice a' (n + 1) cap').ownBlock = v.ownBlock ∨ ∃ g, (Value.slice a' (n + 1) cap').ownBlock = some g ∧ w.heap.size ≤ g) → Below base w w' → (∀ b, b < w.heap.size → some b ≠ v.ownBlock → w'.heap[b]? = w.heap[b]?) → wpList Tryz.prog ops Q rest (a.put o.dst (.slice a' (n + 1) cap')) w') :
    wpList Tryz.prog ops Q (o :: rest) a w := by
  refine wpList_plain hgd fun K hKK => ?_
  obtain ⟨v', w', hrun, r1, r2, r3, r4⟩ := run_append_at T o.type e z sz bytes hT hI hzs hsz base n v xs hown Bb news hl hX h1 h63 hby hbase
  obtain ⟨a', cap', rfl, -⟩ := r1.form
  unfold Oper.wp
  simp [execOp, hop, resolve, invoke, builtin, hs, hx, hrun, Result.andThen]
  exact hKK _ _ (hK a' cap' w' r1 r2 r3 r4)
end Go.Proofs.YtjmidhghiahbaaaGreatDoor
