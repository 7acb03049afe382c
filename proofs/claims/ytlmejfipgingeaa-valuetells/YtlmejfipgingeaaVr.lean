/- What came in as objects, read: its values lie in memory as the contracts ask. -/
import Derived.Test.YtlmejfipgingeaaVh
import Derived.Deep.SlicePairs
import Derived.SizedLaws
import Derived.ChangeOld
namespace Go.Proofs.Ytlmejfipgingeaa
open Go.ChangeShapes Go.WideShapes Go.ChangeAt Go.RowKit Go.Deep
set_option linter.unusedSimpArgs false
set_option linter.unusedVariables false

theorem bytes24 : Try.prog.bytesOf 24 = 16 := by kernel_rfl
theorem bytes39 : Try.prog.bytesOf 39 = 32 := by kernel_rfl
theorem cells24 : Try.prog.cellsOf 24 = 2 := by kernel_rfl
theorem cells39 : Try.prog.cellsOf 39 = 2 := by kernel_rfl
theorem cells3 : Try.prog.cellsOf 3 = 1 := by kernel_rfl
theorem cells37 : Try.prog.cellsOf 37 = 1 := by kernel_rfl
theorem laidOut : laidOutB Try.prog = true := by kernel_rfl
theorem own : ownKnob Try.prog.godebug = none := by kernel_rfl

theorem wAll_mem {H : Type} {P : Program} {e : TypeId} : ∀ {l : List (DataW H)} {d : DataW H}, d ∈ l → ∀ n ∈ d.weights P e, n ∈ DataW.weightsAll P e l
  | d' :: r, d, hd, n, hn => by
    simp only [DataW.weightsAll, List.mem_append]
    rcases List.mem_cons.1 hd with rfl | h
    · exact Or.inl hn
    · exact Or.inr (wAll_mem h n hn)

/-- An address at which a cell lies. -/
theorem addr_lit {w : World} {a : Addr} {v : Value} (h : w.cell? (a.add 0) = some v) : ∃ b o, a = ⟨b, o, none⟩ := by
  have hs := World.cell?_spot h
  obtain ⟨b, o, spot⟩ := a
  refine ⟨b, o, ?_⟩
  have : spot = none := by simpa [Addr.add] using hs
  rw [this]

section
variable {H : Type} {enc : TypeId × Value → H} {w : World} {base : Nat} {spare : Nat → Bool} {held : Bool}

theorem read_vals {fuel : Nat} {v : Value} {x : DataW H × List MemPlace} (h : DataW.trod enc Try.prog w base spare held fuel 37 [v] = some x) (hw : ∀ n ∈ x.1.weights Try.prog 37, n ≤ 140737488351232) : ∃ xs, IsVals 0 w v xs := by
  rcases open_slice_pairs Try.underlying37 Try.underlying24 cells24 rfl rfl cells3 cells3 h with ⟨hcs, -⟩ | ⟨a, len, cap, m, n, V0, V1, D0, D1, P0, P1, hcs, -, hl, hm, hmm, rfl, hx⟩
  · simp only [List.cons.injEq, and_true] at hcs
    subst hcs
    exact ⟨[], none, 0, rfl, Nat.le_refl _, by unfold maxLen; omega, by simp, fun i x hx => by simp at hx⟩
  · simp only [List.cons.injEq, and_true] at hcs
    subst hcs
    have hlm : len ≤ m := by rw [hmm]; split <;> omega
    have hb : len * 16 ≤ 140737488351232 := by
      have := hw ((((List.range len).map fun i => DataW.agg [D0 i, D1 i]).length + ((List.range (m - len)).map fun j => DataW.agg [D0 (len + j), D1 (len + j)]).length) * Try.prog.bytesOf 24) (by simp [DataW.weights, Try.underlying37])
      rw [bytes24] at this
      simp at this
      omega
    refine ⟨(List.range len).map fun i => ⟨intOf (V0 i), intOf (V1 i)⟩, some a, cap, by simp, by simpa using hl, hm, by simpa using hb, fun i y hy => ?_⟩
    have hi := lt_of_get hy
    simp at hi
    simp [List.getElem?_range hi] at hy
    subst hy
    obtain ⟨c0, c1, t0, t1⟩ := hx i (by omega)
    obtain ⟨k0, e0, -, -⟩ := DataW.trod_int Try.underlying3 t0
    obtain ⟨k1, e1, -, -⟩ := DataW.trod_int Try.underlying3 t1
    simp only [List.cons.injEq, and_true] at e0 e1
    rw [e0] at c0
    rw [e1] at c1
    obtain ⟨b, o, rfl⟩ := addr_lit (hx 0 (by omega)).1
    rw [Addr.add_lit] at c0 c1
    refine ⟨b, o, rfl, Nat.zero_le _, ?_, ?_⟩
    · rw [e0]; exact c0
    · rw [e1]; exact c1

theorem read_heap {fuel : Nat} {v : Value} {x : DataW H × List MemPlace} (h : DataW.trod enc Try.prog w base spare held fuel 22 [v] = some x) (hw : ∀ n ∈ x.1.weights Try.prog 22, n ≤ 140737488351232) : ∃ hs, IsHeap 0 w v hs := by
  rcases open_slice_pairs Try.underlying22 Try.underlying39 cells39 rfl rfl cells3 cells37 h with ⟨hcs, -⟩ | ⟨a, len, cap, m, n, V0, V1, D0, D1, P0, P1, hcs, -, hl, hm, hmm, rfl, hx⟩
  · simp only [List.cons.injEq, and_true] at hcs
    subst hcs
    exact ⟨[], isHeap_nil w⟩
  · simp only [List.cons.injEq, and_true] at hcs
    subst hcs
    have hlm : len ≤ m := by rw [hmm]; split <;> omega
    have hb : len * 32 ≤ 140737488351232 := by
      have := hw ((((List.range len).map fun i => DataW.agg [D0 i, D1 i]).length + ((List.range (m - len)).map fun j => DataW.agg [D0 (len + j), D1 (len + j)]).length) * Try.prog.bytesOf 39) (by simp [DataW.weights, Try.underlying22])
      rw [bytes39] at this
      simp at this
      omega
    have hsl : ∀ i, i < len → ∃ xs, IsVals 0 w (V1 i) xs := fun i hi => by
      obtain ⟨c0, c1, t0, t1⟩ := hx i (by omega)
      refine read_vals t1 fun n hn => hw n ?_
      simp only [DataW.weights, Try.underlying22, List.mem_cons, List.mem_append]
      refine Or.inr (Or.inl (wAll_mem (d := DataW.agg [D0 i, D1 i]) (by simp; exact ⟨i, hi, rfl, rfl⟩) n ?_))
      simp only [DataW.weights, Try.underlying39, List.map_cons, List.map_nil, DataW.weightsEach, List.append_nil, List.mem_append]
      exact Or.inr hn
    have hsl' : ∃ X : Nat → List QV, ∀ i, i < len → IsVals 0 w (V1 i) (X i) := choose_lt hsl
    obtain ⟨X, hX⟩ := hsl'
    refine ⟨(List.range len).map fun i => ⟨intOf (V0 i), X i⟩, some a, cap, by simp, by simpa using hl, hm, by simpa using hb, fun i y hy => ?_⟩
    have hi := lt_of_get hy
    simp at hi
    simp [List.getElem?_range hi] at hy
    subst hy
    obtain ⟨c0, c1, t0, t1⟩ := hx i (by omega)
    obtain ⟨k0, e0, -, -⟩ := DataW.trod_int Try.underlying3 t0
    simp only [List.cons.injEq, and_true] at e0
    rw [e0] at c0
    obtain ⟨b, o, rfl⟩ := addr_lit (hx 0 (by omega)).1
    rw [Addr.add_lit] at c0 c1
    refine ⟨b, o, rfl, Nat.zero_le _, ?_, V1 i, ?_, hX i hi⟩
    · rw [e0]; exact c0
    · exact c1
end

end Go.Proofs.Ytlmejfipgingeaa
