/- Package code: arrive. -/
import Derived.Test.YtdfbgpiikeheiaaKd
namespace Go.Proofs.Ytdfbgpiikeheiaa
open Go.ChangeShapes Go.WideShapes Go.ChangeAt Go.RowKit
set_option linter.unusedSimpArgs false
set_option linter.unusedVariables false
set_option maxRecDepth 8000

def hCells (h : List Int) : List Value := h.map fun x => .int .i64 x
abbrev hRow (h : List Int) : Obj := .cells (hCells h).toArray 3 (0, 0)
theorem hRow_cell {w : World} {g : Nat} {h : List Int} (hg : w.heap[g]? = some (hRow h)) {k : Nat} (hk : k < h.length) : w.cell? ⟨g, k, none⟩ = some (.int .i64 (h.getD k 0)) := by
  rw [cell_of_row _ _ _ _ _ _ hg]; simp [hCells, hk]
theorem hRow_free {w : World} {g : Nat} {h : List Int} (hg : w.heap[g]? = some (hRow h)) (k : Nat) : w.frozen? ⟨g, k, none⟩ = false := by unfold World.frozen?; simp [hg]
theorem hRow_set {w : World} {g : Nat} {h : List Int} (hg : w.heap[g]? = some (hRow h)) (k : Nat) (v : Int) : (w.setCell ⟨g, k, none⟩ (.int .i64 v)).heap[g]? = some (hRow (h.set k v)) := by
  rw [setCell_same hg]; simp [hCells, List.map_set]

/-- All but the box, the row of places, and the row of heights, are as they were. -/
structure ArrF (w w' : World) (lo bl gh : Nat) (v v' : Value) : Prop where
  bel : Below lo w w'
  blk : ∀ b, b < w.heap.size → b ≠ bl → b ≠ gh → some b ≠ v.ownBlock → w'.heap[b]? = w.heap[b]?
  own : v'.ownBlock = v.ownBlock ∨ ∃ g, v'.ownBlock = some g ∧ w.heap.size ≤ g
abbrev FV (f : Int × Int) : Value := .agg #[.int .i64 f.1, .int .i64 f.2]

end Go.Proofs.Ytdfbgpiikeheiaa
