/- Package code: Heights. -/
import Derived.Test.YtdfbgpiikeheiaaKe
import Derived.Test.YtdfbgpiikeheiaaDa
namespace Go.Proofs.Ytdfbgpiikeheiaa
open Go.ChangeShapes Go.WideShapes Go.ChangeAt Go.RowKit
set_option linter.unusedSimpArgs false
set_option linter.unusedVariables false
set_option maxRecDepth 8000

theorem make_ints (n : Nat) (hb : n * 8 ≤ 140737488351232) (w : World) : (Instr.makeSlice 48 (.int .i64 (n : Int)) (.int .i64 (n : Int))).run Try.prog w = .ok (.slice (some ⟨w.heap.size, 0, none⟩) n n) (w.alloc (hRow (List.replicate n 0))) := by
  obtain ⟨i0, hi, hz0, hz1, hz2⟩ := info_parts info3
  have := run_make (P := Try.prog) w 48 3 i0 _ Try.underlying48 hi hz0 .i64 .i64 n n (by omega) (by omega) (by rw [hz2]; omega) (by omega)
  rw [this, hz1]
  simp [madeCells, Value.cells, hRow, hCells]
  congr 2
  apply Array.ext
  · simp
  · intro i h1 h2
    simp [Nat.mod_one]

theorem fill_set {n j : Nat} (h : j < n) : (List.replicate j (-1 : Int) ++ List.replicate (n - j) 0).set j (-1) = List.replicate (j + 1) (-1) ++ List.replicate (n - (j + 1)) 0 := by
  apply List.ext_getElem?
  intro i
  simp only [List.getElem?_set, List.getElem?_append, List.length_append, List.length_replicate, List.getElem?_replicate]
  by_cases h1 : i = j
  · subst h1
    simp
    omega
  · by_cases h2 : i < j
    · simp [h2, show i < j + 1 by omega, show ¬ j = i by omega]
    · simp only [show ¬ j = i by omega, if_false, h2, show ¬ (i < j + 1) by omega]
      by_cases h3 : i < n
      · rw [if_pos (by omega), if_pos (by omega)]
      · rw [if_neg (by omega), if_neg (by omega)]
theorem ownsAt.head {w : World} {base : Nat} {e : TypeId} {a : Option Addr} {cap : Nat} {p : Int × Int} {q : List (Int × Int)} (h : ownsAt w base e 2 (.slice a (q.length + 1) cap) (q.length + 1) (qCells (p :: q))) : ∃ g o, a = some ⟨g, o, none⟩ ∧ w.cell? ⟨g, o, none⟩ = some (.int .i64 p.1) ∧ w.cell? ⟨g, o + 1, none⟩ = some (.int .i64 p.2) ∧ q.length + 1 ≤ cap ∧ cap ≤ maxLen ∧
    (∀ o', (o' = o + 2 ∨ cap = 1 ∧ o' = o) → ownsAt w base e 2 (.slice (some ⟨g, o', none⟩) q.length (cap - 1)) q.length (qCells q)) := by
  obtain ⟨h1, ⟨e, -⟩ | ⟨g, o, cap', cur, e, h3, h4, h5, h6, h7, h8⟩⟩ := h
  · cases e
  · cases e
    have hl : 2 * (q.length + 1) ≤ cap * 2 := by omega
    have hcell : ∀ j, j < (q.length + 1) * 2 → w.cell? ⟨g, o + j, none⟩ = (qCells (p :: q))[j]? := fun j hj => by
      rw [← h8, cell_of_row _ _ _ _ _ _ h4, List.getElem?_take, if_pos hj, List.getElem?_drop]
      simp
    refine ⟨g, o, rfl, ?_, ?_, h5, h6, fun o' ho' => ⟨by rw [qCells_len], Or.inr ⟨g, o', cap - 1, cur, rfl, h3, h4, by omega, by unfold maxLen at *; omega, by omega, ?_⟩⟩⟩
    · have := hcell 0 (by omega); simpa [qCells] using this
    · have := hcell 1 (by omega); simpa [qCells] using this
    · rcases ho' with rfl | ⟨hc, rfl⟩
      · apply List.ext_getElem?
        intro i
        have e1 : (qCells q)[i]? = (qCells (p :: q))[i + 2]? := by simp [qCells]
        rw [e1, ← h8]
        simp only [List.getElem?_take, List.getElem?_drop]
        rw [show o + 2 + i = o + (i + 2) by omega]
        by_cases h9 : i < q.length * 2
        · rw [if_pos h9, if_pos (by omega)]
        · rw [if_neg h9, if_neg (by omega)]
      · have : q.length = 0 := by omega
        obtain rfl := List.eq_nil_of_length_eq_zero this
        simp [qCells]

theorem LedQ.cut {w : World} {base bl : Nat} {v v' : Value} {r q : List (Int × Int)} (h : LedQ w base bl v r) (z : Obj) (ho : ownsAt w base 28 2 v' q.length (qCells q)) : LedQ ((w.alloc z).setCell ⟨bl, 0, none⟩ v') base bl v' q := by
  refine ⟨one_setCell (box_later' h.box (bel1 _ _)), ?_, h.lt⟩
  exact (ho.alloc z).keep fun g hg => setCell_else (by have := (ho.lt g hg).1; have := h.lt; omega) _
theorem ArrF.below {w w' : World} {lo bl gh B : Nat} {v v' : Value} (h : ArrF w w' lo bl gh v v') (h1 : B ≤ bl) (h2 : B ≤ gh) (h3 : ∀ g, v.ownBlock = some g → B ≤ g) (h4 : B ≤ w.heap.size) : Below B w w' :=
  ⟨h.bel.os, h.bel.tape, h.bel.output, h.bel.size, fun b hb => h.blk b (by omega) (by omega) (by omega) fun e => by have := h3 b e.symm; omega⟩
/-- What comes of Heights. -/
def HeightsR (w : World) (code : List QI) (e : Ending) (w' : World) : Prop :=
  Below w.heap.size w w' ∧ (((heightsE code).2.1 = 0 ∧ ∃ g, e = .returned (.tuple #[.slice (some ⟨g, 0, none⟩) code.length code.length, FV (0, 0)]) ∧ w'.heap[g]? = some (hRow (heightsE code).1) ∧ w.heap.size ≤ g) ∨
    ((heightsE code).2.1 ≠ 0 ∧ e = .returned (.tuple #[.slice none 0 0, FV (heightsE code).2])))

end Go.Proofs.Ytdfbgpiikeheiaa
