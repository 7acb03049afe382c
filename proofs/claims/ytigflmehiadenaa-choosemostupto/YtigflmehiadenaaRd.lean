/- Readings with a bound on what is within. -/
import Derived.Test.YtigflmehiadenaaRb
namespace Go.Proofs.Ytigflmehiadenaa
open Go.ChangeShapes Go.WideShapes Go.ChangeAt Go.RowKit Go.Deep
set_option linter.unusedSimpArgs false
set_option linter.unusedVariables false
set_option maxRecDepth 8000

theorem bulk_mem {H : Type} : ∀ {l : List (DataW H)} {d : DataW H}, d ∈ l → Rows.uptoBulk d ≤ Rows.uptoBulkAll l
  | [], d, h => by simp at h
  | x :: r, d, h => by
    simp only [Rows.uptoBulkAll]
    rcases List.mem_cons.1 h with rfl | h
    · omega
    · have := bulk_mem h; omega

section
variable {H : Type} {enc : TypeId × Value → H} {w : World} {base : Nat} {spare : Nat → Bool} {held : Bool}

theorem read_row_b {α : Type} {E : Lay α} {sz bytes M : Nat} (G : Good E sz) {T e : TypeId} (ht : Try.prog.underlying T = some (.slice e)) (hc : Try.prog.cellsOf e = sz) (hb : Try.prog.bytesOf e = bytes) (hp : 0 < bytes)
    (hel : ∀ (n : Nat) (cs : List Value) (x : DataW H × List MemPlace), cs.length = sz → DataW.trod enc Try.prog w base spare held n e cs = some x → (∀ n ∈ x.1.weights Try.prog e, n ≤ 140737488351232) → Rows.uptoBulk x.1 ≤ M → ∃ y, E Tru w (fun k => cs[k]?) y)
    {fuel : Nat} {v : Value} {x : DataW H × List MemPlace} (h : DataW.trod enc Try.prog w base spare held fuel T [v] = some x) (hw : ∀ n ∈ x.1.weights Try.prog T, n ≤ 140737488351232) (hM : Rows.uptoBulk x.1 ≤ M) : ∃ xs, IsRow E sz bytes Tru w v xs := by
  have hsz := G.pos
  rcases open_slice ht h with ⟨hcs, -⟩ | ⟨a, len, cap, m, n, D, Pl, hcs, -, hl, hm, hmm, rfl, hx⟩
  · simp only [List.cons.injEq, and_true] at hcs
    subst hcs
    exact ⟨[], none, 0, rfl, Nat.le_refl _, by unfold maxLen; omega, by simp, fun i x hx => by simp at hx⟩
  · simp only [List.cons.injEq, and_true] at hcs
    subst hcs
    have hlm : len ≤ m := by rw [hmm]; split <;> omega
    have hbd : len * bytes ≤ 140737488351232 := by
      have := hw ((((List.range len).map D).length + ((List.range (m - len)).map fun j => D (len + j)).length) * Try.prog.bytesOf e) (by simp [DataW.weights, ht])
      rw [hb] at this
      simp at this
      rw [show len + (m - len) = m by omega] at this
      exact Nat.le_trans (Nat.mul_le_mul_right _ hlm) this
    have hsl : ∀ i, i < len → ∃ y, ∃ b o, a = ⟨b, o, none⟩ ∧ E Tru w (fun k => w.cell? ⟨b, o + i * sz + k, none⟩) y := fun i hi => by
      obtain ⟨cs, h1, h2⟩ := hx i (by omega)
      rw [hc] at h1
      obtain ⟨_, hlen, hcell⟩ := World.cells?_some h1
      obtain ⟨y, hy⟩ := hel n cs _ hlen h2 (fun q hq => hw q (by
        simp only [DataW.weights, ht, List.mem_cons, List.mem_append]
        exact Or.inr (Or.inl (wAll_mem (d := D i) (by simp; exact ⟨i, hi, rfl⟩) q hq)))) (Nat.le_trans (by
        have := bulk_mem (l := (List.range len).map D) (d := D i) (by simp; exact ⟨i, hi, rfl⟩)
        simp only [Rows.uptoBulk]; omega) hM)
      obtain ⟨b, o, rfl⟩ : ∃ b o, a = ⟨b, o, none⟩ := by
        obtain ⟨cs0, k1, -⟩ := hx 0 (by omega)
        rw [hc] at k1
        obtain ⟨_, hlen0, hcell0⟩ := World.cells?_some k1
        have h0 := hcell0 0 (by omega)
        rw [add_add, Nat.zero_mul, Nat.add_zero, List.getElem?_eq_getElem (by omega)] at h0
        exact addr_lit h0
      refine ⟨y, b, o, rfl, G.move hy (fun _ h => h) (.refl _ _) fun k hk u hu => ?_⟩
      have h0 := hcell k (by omega)
      rw [add_add, Addr.add_lit, ← Nat.add_assoc] at h0
      rw [h0]
      exact hu
    obtain ⟨xs, h1, h2⟩ := choose_list len hsl
    refine ⟨xs, some a, cap, by rw [h1], by rw [h1]; exact hl, hm, by rw [h1]; exact hbd, fun i x hx => ?_⟩
    obtain ⟨b, o, rfl, hE⟩ := h2 i x hx
    exact ⟨b, o, rfl, trivial, hE⟩

theorem read_tally_b {n M : Nat} {cs : List Value} {x : DataW H × List MemPlace} (hl : cs.length = 4) (h : DataW.trod enc Try.prog w base spare held n 46 cs = some x) (hw : ∀ n ∈ x.1.weights Try.prog 46, n ≤ 140737488351232) (hM : Rows.uptoBulk x.1 ≤ M) : ∃ y, LayAnd TallyC (fun x => x.lines.length ≤ M) Tru w (fun k => cs[k]?) y := by
  obtain ⟨xs, k, hk, hxy, _, hxl, hf⟩ := DataW.trod_struct Try.underlying46 h
  match xs, hxl, cs, hl with
  | [y0, y1], _, [v0, v1, v2, v3], _ =>
    have g0 := hf 0 _ rfl
    have g1 := hf 1 _ rfl
    simp [cells28, cells44] at g0 g1
    obtain ⟨s, q0, q1, q2⟩ := read_site rfl g0
    rw [hxy] at hw hM
    obtain ⟨ls, hls⟩ := read_lines g1 (fun q hq => hw q (weights_at (j := 1) (xs := [y0, y1]) Try.underlying46 rfl rfl q hq))
    obtain ⟨k1, k2⟩ := hls.weak
    have hb := bulk_row Try.underlying44 g1 k1
    refine ⟨⟨s, ls⟩, ⟨q0, q1, q2, _, rfl, k1⟩, ?_⟩
    simp only [List.map_cons, List.map_nil, Rows.uptoBulk, Rows.uptoBulkAll] at hM
    show ls.length ≤ M
    omega
theorem read_tallies_b {fuel M : Nat} {v : Value} {x : DataW H × List MemPlace} (h : DataW.trod enc Try.prog w base spare held fuel 26 [v] = some x) (hw : ∀ n ∈ x.1.weights Try.prog 26, n ≤ 140737488351232) (hM : Rows.uptoBulk x.1 ≤ M) : ∃ xs, IsTallies Tru w v xs ∧ xs.length ≤ M ∧ ∀ x ∈ xs, x.lines.length ≤ M := by
  obtain ⟨xs, hx⟩ := read_row_b (goodT.and _) Try.underlying26 cells46 bytes46 (by omega) (fun n cs x hl h hw hM => read_tally_b hl h hw hM) h hw hM
  obtain ⟨h1, h2⟩ := hx.split
  exact ⟨xs, h1.weak.1, Nat.le_trans (bulk_row Try.underlying26 h h1.weak.1) hM, h2⟩
end
end Go.Proofs.Ytigflmehiadenaa
