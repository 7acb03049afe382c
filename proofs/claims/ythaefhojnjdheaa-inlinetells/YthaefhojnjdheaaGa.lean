/- 'append([]T{}, src...)': a row that holds the cells of src. -/
import Derived.Test.YthaefhojnjdheaaEc
import Derived.Deep.AppendLies
namespace Go.Proofs.Ythaefhojnjdheaa
open Go.ChangeShapes Go.WideShapes Go.ChangeAt Go.RowKit
set_option linter.unusedSimpArgs false
set_option linter.unusedVariables false
set_option maxRecDepth 8000

theorem run_append_none {P : Program} (w : World) (t ty e : TypeId) (i : TypeInfo) (ht : P.underlying t = some (.slice e)) (hi : P.info? e = some i) (B : Nat) (ad : Option Addr) (cap : Nat) :
    (Builtin.append_ #[t, t] ty #[.slice (some ⟨B, 0, none⟩) 0 0, .slice ad 0 cap]).run P w = .ok (.slice (some ⟨B, 0, none⟩) 0 0) w := by
  have hl : ∀ (x : Addr), (loadCells x 0).run P w = .ok #[] w := fun x => by simpa using run_loadCells_list (P := P) w x [] (by simp)
  cases ad <;> simp [Builtin.append_, run_underlying ht, sizeOf, typeInfo, hi, Builtin.lenOf, Builtin.firstCells, storeCells, hl]

theorem wpList_append_src {ops : Array Oper} {rest : List Oper} {o : Oper} {a : Act} {w : World} {Q : Exit → Act → World → Prop} (hgd : o.guard = none) (s x : Operand) (T e : TypeId) (z : Value) (sz bytes : Nat)
    (hop : o.op = Op.call { callee := Callee.builtin Builtin.append, args := #[s, x], argTypes := #[T, T] }) (hT : Try.prog.underlying T = some (.slice e)) (hI : (Try.prog.info? e).map (fun i => (i.zero, i.size, i.bytes)) = some (some z, sz, bytes)) (hzs : z.cells.size = sz) (hsz : 0 < sz) (hbz : 0 < bytes)
    (B : Nat) (hs : a.eval s = .slice (some ⟨B, 0, none⟩) 0 0) (hB : w.heap[B]? = some (.cells #[] e (0, 0)))
    (ad : Option Addr) (n cap : Nat) (hx : a.eval x = .slice ad n cap) (cs : List Value) (hlen : cs.length = n * sz) (hsrc : ∀ j u, cs[j]? = some u → ∃ b, ad = some b ∧ w.cell? (b.add j) = some u) (hn : n * bytes ≤ 140737488351232)
    (hK : ∀ g cap' w', w'.ownsRow B e sz (.slice (some ⟨g, 0, none⟩) n cap') n cs → (g = B ∨ w.heap.size ≤ g) → g < w'.heap.size → Below w.heap.size w w' → wpList Try.prog ops Q rest (a.put o.dst (.slice (some ⟨g, 0, none⟩) n cap')) w') :
    wpList Try.prog ops Q (o :: rest) a w := by
  refine wpList_plain hgd fun K hKK => ?_
  obtain ⟨i0, hi, hz0, hz1, hz2⟩ := info_parts hI
  have hBl := blk_lt hB
  by_cases h0 : n = 0
  · subst h0
    have hcs : cs = [] := List.eq_nil_of_length_eq_zero (by simpa using hlen)
    have hrun := run_append_none (P := Try.prog) w T o.type e i0 hT hi B ad cap
    unfold Oper.wp
    simp [execOp, hop, resolve, invoke, builtin, hs, hx, hrun, Result.andThen]
    refine hKK _ _ (hK B 0 w ?_ (Or.inl rfl) hBl (Below.refl _ _))
    rw [hcs]
    exact ⟨by simp, .inr ⟨B, 0, #[], rfl, Nat.le_refl _, hB, Nat.le_refl _, by unfold maxLen; omega, by simp, by simp⟩⟩
  · obtain ⟨b, rfl⟩ : ∃ b, ad = some b := by
      have : 0 < cs.length := by rw [hlen]; exact Nat.mul_pos (by omega) hsz
      obtain ⟨b, e, -⟩ := hsrc 0 cs[0] (by simp [this])
      exact ⟨b, e⟩
    have hnb : n ≤ 140737488351232 := Nat.le_trans (Nat.le_mul_of_pos_right n hbz) hn
    obtain ⟨v', w', hrun, r1, r2⟩ := run_append_arg_grows (P := Try.prog) w T o.type e i0 _ sz bytes hT hi hz0 hz1 hz2 hzs hsz ⟨B, 0, none⟩ 0 0 [] (by simp) (fun j u hu => by simp at hu) b n cap cs hlen (fun j u hu => by obtain ⟨b', e, h⟩ := hsrc j u hu; cases e; exact h) (by omega) (by unfold maxLen; omega) (by rw [Nat.zero_add]; omega)
    simp only [Nat.zero_add, List.nil_append] at r1
    obtain ⟨g, cap', rfl, hg, hgl⟩ := r1.form (by omega)
    unfold Oper.wp
    simp [execOp, hop, resolve, invoke, builtin, hs, hx, hrun, Result.andThen]
    refine hKK _ _ (hK g cap' w' ?_ (Or.inr hg) hgl ((Below.refl _ _).grown r2 (Nat.le_refl _) (fun k hk => by cases hk)))
    obtain ⟨q1, q2⟩ := r1
    refine ⟨q1, ?_⟩
    rcases q2 with q2 | ⟨g', c', cur, e, h1, h2⟩
    · exact .inl q2
    · exact .inr ⟨g', c', cur, e, by omega, h2⟩
end Go.Proofs.Ythaefhojnjdheaa
