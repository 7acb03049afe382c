/- Two appends on rows of objects, as steps of a region that draws its order. -/
import Derived.Test.YtlmejfipgingeaaVr
import Derived.Deep.AppendLies
namespace Go.Proofs.Ytlmejfipgingeaa
open Go.ChangeShapes Go.WideShapes Go.ChangeAt Go.RowKit
set_option linter.unusedSimpArgs false
set_option linter.unusedVariables false

theorem run_append_none {P : Program} (w : World) (t ty e : TypeId) (i : TypeInfo) (ht : P.underlying t = some (.slice e)) (hi : P.info? e = some i) (B : Nat) (ad : Option Addr) (cap : Nat) :
    (Builtin.append_ #[t, t] ty #[.slice (some ⟨B, 0, none⟩) 0 0, .slice ad 0 cap]).run P w = .ok (.slice (some ⟨B, 0, none⟩) 0 0) w := by
  have hl : ∀ (x : Addr), (loadCells x 0).run P w = .ok #[] w := fun x => by simpa using run_loadCells_list (P := P) w x [] (by simp)
  cases ad <;> simp [Builtin.append_, run_underlying ht, sizeOf, typeInfo, hi, Builtin.lenOf, Builtin.firstCells, storeCells, hl]

/-- 'append([]Object{}, h...)': a row that holds the cells of h. -/
theorem step_append_src {ops : Array Oper} {o : Oper} {a : Act} {w : World} {K : Act → World → Prop} {Q : Exit → Act → World → Prop} {E : Prop} (hw : Region.wanted o (yielded ops a.tmps) = true) (s x : Operand)
    (hop : o.op = Op.call { callee := Callee.builtin Builtin.append, args := #[s, x], argTypes := #[22, 22] }) (B : Nat) (hs : a.eval s = .slice (some ⟨B, 0, none⟩) 0 0) (hB : w.heap[B]? = some (.cells #[] 39 (0, 0)))
    (ad : Option Addr) (n cap : Nat) (hx : a.eval x = .slice ad n cap) (cs : List Value) (hlen : cs.length = n * 2) (hsrc : ∀ j u, cs[j]? = some u → ∃ b, ad = some b ∧ w.cell? (b.add j) = some u) (hn : n < 1000)
    (hK : ∀ g cap' w', w'.ownsRow B 39 2 (.slice (some ⟨g, 0, none⟩) n cap') n cs → (g = B ∨ w.heap.size ≤ g) → g < w'.heap.size → Below w.heap.size w w' → K (a.put o.dst (.slice (some ⟨g, 0, none⟩) n cap')) w') :
    if Region.wanted o (yielded ops a.tmps) = true then Oper.wp Try.prog o a w K Q else E := by
  rw [if_pos hw]
  obtain ⟨i0, hi, hz0, hz1, hz2⟩ := info_parts info39
  have hBl := blk_lt hB
  by_cases h0 : n = 0
  · subst h0
    have hcs : cs = [] := List.eq_nil_of_length_eq_zero (by simpa using hlen)
    have hrun := run_append_none (P := Try.prog) w 22 o.type 39 i0 Try.underlying22 hi B ad cap
    unfold Oper.wp
    simp [execOp, hop, resolve, invoke, builtin, hs, hx, hrun, Result.andThen]
    refine hK B 0 w ?_ (Or.inl rfl) hBl (Below.refl _ _)
    rw [hcs]
    exact ⟨rfl, .inr ⟨B, 0, #[], rfl, Nat.le_refl _, hB, Nat.le_refl _, by unfold maxLen; omega, rfl, rfl⟩⟩
  · obtain ⟨b, rfl⟩ : ∃ b, ad = some b := by
      have : 0 < cs.length := by omega
      obtain ⟨b, e, -⟩ := hsrc 0 cs[0] (by simp [this])
      exact ⟨b, e⟩
    obtain ⟨v', w', hrun, r1, r2⟩ := run_append_arg_grows (P := Try.prog) w 22 o.type 39 i0 _ 2 32 Try.underlying22 hi hz0 hz1 hz2 rfl (by decide) ⟨B, 0, none⟩ 0 0 [] rfl (fun j u hu => by simp at hu) b n cap cs hlen (fun j u hu => by obtain ⟨b', e, h⟩ := hsrc j u hu; cases e; exact h) (by omega) (by unfold maxLen; omega) (by omega)
    simp only [Nat.zero_add, List.nil_append] at r1
    obtain ⟨g, cap', rfl, hg, hgl⟩ := r1.form (by omega)
    unfold Oper.wp
    simp [execOp, hop, resolve, invoke, builtin, hs, hx, hrun, Result.andThen]
    refine hK g cap' w' ?_ (Or.inr hg) hgl ((Below.refl _ _).grown r2 (Nat.le_refl _) (fun k hk => by cases hk))
    obtain ⟨q1, q2⟩ := r1
    refine ⟨q1, ?_⟩
    rcases q2 with q2 | ⟨g', c', cur, e, h1, h2⟩
    · exact .inl q2
    · exact .inr ⟨g', c', cur, e, by omega, h2⟩

/-- 'append(v, Object{..})' on a row of one's own. -/
theorem step_append_own {ops : Array Oper} {o : Oper} {a : Act} {w : World} {K : Act → World → Prop} {Q : Exit → Act → World → Prop} {E : Prop} (hw : Region.wanted o (yielded ops a.tmps) = true) (s x : Operand)
    (hop : o.op = Op.call { callee := Callee.builtin Builtin.append, args := #[s, x], argTypes := #[22, 22] }) (B g n cap : Nat) (hs : a.eval s = .slice (some ⟨g, 0, none⟩) n cap) (cs : List Value) (hown : w.ownsRow B 39 2 (.slice (some ⟨g, 0, none⟩) n cap) n cs) (hBl : B ≤ w.heap.size)
    (Bb : Nat) (hx : a.eval x = .slice (some ⟨Bb, 0, none⟩) 1 1) (x0 x1 : Value) (h0 : w.cell? ⟨Bb, 0, none⟩ = some x0) (h1 : w.cell? ⟨Bb, 1, none⟩ = some x1) (o0 : x0.oneCell' = true) (o1 : x1.oneCell' = true) (hn : n < 1000)
    (hK : ∀ g' cap' cur' w', n + 1 ≤ cap' → cap' ≤ maxLen → w'.heap[g']? = some (.cells cur' 39 (0, 0)) → cur'.toList.take ((n + 1) * 2) = cs ++ [x0, x1] → B ≤ g' → Below B w w' → (∀ k, k ≠ g → k < w.heap.size → w'.heap[k]? = w.heap[k]?) → K (a.put o.dst (.slice (some ⟨g', 0, none⟩) (n + 1) cap')) w') :
    if Region.wanted o (yielded ops a.tmps) = true then Oper.wp Try.prog o a w K Q else E := by
  rw [if_pos hw]
  obtain ⟨i0, hi, hz0, hz1, hz2⟩ := info_parts info39
  refine wp_append_lies w s x 22 hop B 39 i0 _ 2 32 Try.underlying22 hi hz0 hz1 hz2 rfl (by decide) _ n cs hs hown ⟨Bb, 0, none⟩ 1 1 [x0, x1] hx rfl
    (fun j u hu => by
      rw [Addr.add_lit, Nat.zero_add]
      match j, hu with
      | 0, hu => simp at hu; rw [← hu]; exact h0
      | 1, hu => simp at hu; rw [← hu]; exact h1)
    (fun u hu => by simp at hu; rcases hu with h | h <;> rw [h] <;> assumption) (by omega) (by unfold maxLen; omega) (by omega) hBl _ rfl ?_
  intro g' cap' w' hown' hgr hat hlt
  obtain ⟨-, h | ⟨g'', c'', cur', e, hb, hh, hc1, hc2, -, hc4⟩⟩ := hown'
  · omega
  · simp only [Value.slice.injEq, Option.some.injEq, Addr.mk.injEq] at e
    obtain ⟨⟨rfl, -, -⟩, -, rfl⟩ := e
    have hgB : B ≤ g := by
      obtain ⟨-, h | ⟨g3, c3, cur3, e3, hb3, -⟩⟩ := hown
      · simp at h
      · simp only [Value.slice.injEq, Option.some.injEq, Addr.mk.injEq] at e3
        obtain ⟨⟨rfl, -, -⟩, -, -⟩ := e3
        exact hb3
    refine hK _ _ cur' w' hc1 hc2 hh hc4 hb ((Below.refl _ _).grown hgr hBl (fun k hk => ?_)) (fun k hk hkl => hgr.block k hkl (fun e => hk ?_))
    · simp [Value.ownBlock] at hk
      omega
    · simp [Value.ownBlock] at e
      exact e

theorem blk_drew (w : World) (n : Nat) : w.drew.heap[n]? = w.heap[n]? := rfl
theorem blk_at (w : World) (o : Obj) (n : Nat) : (w.alloc o).heap[n]? = if n = w.heap.size then some o else w.heap[n]? := by
  show (w.heap.push o)[n]? = _
  rw [Array.getElem?_push]
theorem siz_drew (w : World) : w.drew.heap.size = w.heap.size := rfl
theorem siz_alloc (w : World) (o : Obj) : (w.alloc o).heap.size = w.heap.size + 1 := by simp

/-- The same, where the element is 'Object{c, make(m)}': what comes of it are those objects. -/
theorem step_append_made {ops : Array Oper} {o : Oper} {a : Act} {w : World} {K : Act → World → Prop} {Q : Exit → Act → World → Prop} {E : Prop} (hw : Region.wanted o (yielded ops a.tmps) = true) (s x y : Operand)
    (hop : o.op = Op.call { callee := Callee.builtin Builtin.append, args := #[s, x], argTypes := #[22, 22] }) (B g cap : Nat) (hs : List QO) (he : a.eval s = .slice (some ⟨g, 0, none⟩) hs.length cap) (cs : List Value) (hown : w.ownsRow B 39 2 (.slice (some ⟨g, 0, none⟩) hs.length cap) hs.length cs) (hBl : B ≤ w.heap.size)
    (Bb : Nat) (hx : a.eval x = .slice (some ⟨Bb, 0, none⟩) 1 1) (Bm m : Nat) (hy : a.eval y = .slice (some ⟨Bm, 0, none⟩) m m) (c : Int) (hm : m ≤ 100) (hX : w.heap[Bb]? = some (.cells #[.int .i64 c, .slice (some ⟨Bm, 0, none⟩) m m] 39 (0, 0)))
    (hM : w.heap[Bm]? = some (.cells (madeCells #[Value.int IntKind.i64 0, Value.int IntKind.i64 0] (m * 2)) 24 (0, 0))) (hne : Bm ≠ g) (W1 : World) (hW1 : Below W1.heap.size W1 w) (hWB : W1.heap.size ≤ B) (hoc : ObjCells 0 W1 cs hs) (hn : hs.length < 1000)
    (hK : ∀ g' cap' w', IsHeap 0 w' (.slice (some ⟨g', 0, none⟩) (hs.length + 1) cap') (hs ++ [⟨c, List.replicate m ⟨0, 0⟩⟩]) → Below B w w' → K (a.put o.dst (.slice (some ⟨g', 0, none⟩) (hs.length + 1) cap')) w') :
    if Region.wanted o (yielded ops a.tmps) = true then Oper.wp Try.prog o a w K Q else E := by
  refine step_append_own hw s x hop B g hs.length cap he cs hown hBl Bb hx (.int .i64 c) (.slice (some ⟨Bm, 0, none⟩) m m) (by rw [cell_of_row _ _ _ _ _ _ hX]; rfl) (by rw [cell_of_row _ _ _ _ _ _ hX]; rfl) rfl rfl hn ?_
  intro g' cap' cur' w' h1 h2 hh hcl hg' hb hk
  refine hK g' cap' w' ?_ hb
  have hv : IsVals 0 w' (.slice (some ⟨Bm, 0, none⟩) m m) (List.replicate m ⟨0, 0⟩) := by
    refine ⟨some ⟨Bm, 0, none⟩, m, by simp, by simp, by unfold maxLen; omega, by simp; omega, vals_row (Nat.zero_le _) (fr := (0, 0)) (t := 24) ?_⟩
    rw [hk Bm hne (blk_lt hM), hM, made_vals]
  have h3 := cells_heap (lo := 0) (hs := hs ++ [⟨c, List.replicate m ⟨0, 0⟩⟩]) (cap := cap') (Nat.zero_le _) hh (by
    simp only [List.length_append, List.length_cons, List.length_nil]
    rw [hcl]
    exact (hoc.later (hW1.trans (hb.mono hWB))).snoc hv) (by simpa using h1) h2 (by simp; omega)
  simpa using h3

end Go.Proofs.Ytlmejfipgingeaa
