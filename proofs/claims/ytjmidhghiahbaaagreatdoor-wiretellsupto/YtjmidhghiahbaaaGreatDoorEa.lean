/- The new world, Rises. -/
import Derived.Test.YtjmidhghiahbaaaGreatDoorDc
import Derived.Test.YtjmidhghiahbaaaGreatDoorCh
import Derived.Test.YtjmidhghiahbaaaGreatDoorRa
import Derived.Test.YtjmidhghiahbaaaGreatDoorDb
namespace Go.Proofs.YtjmidhghiahbaaaGreatDoor
open Go.ChangeShapes Go.WideShapes Go.ChangeAt Go.RowKit
set_option linter.unusedSimpArgs false
set_option linter.unusedVariables false
set_option maxRecDepth 8000

def newM : List QM := [⟨⟨#[42]⟩, 1, 0, 3, []⟩, ⟨⟨#[43]⟩, 1, 0, 1, []⟩, ⟨⟨#[45]⟩, 1, 0, 2, []⟩, ⟨⟨#[60]⟩, 1, 0, 4, []⟩, ⟨⟨#[61]⟩, 1, 0, 5, []⟩]
def newC : List QC := [⟨⟨#[79, 98, 106, 101, 99, 116]⟩, -1, 0, []⟩, ⟨⟨#[78, 105, 108]⟩, 0, 0, []⟩, ⟨⟨#[66, 111, 111, 108]⟩, 0, 0, []⟩, ⟨⟨#[73, 110, 116]⟩, 0, 0, newM⟩]
def newX : QW := ⟨newC, [], 0⟩

theorem row_none {α : Type} {E : Lay α} {sz bytes : Nat} {P : Nat → Prop} {w : World} : IsRow E sz bytes P w (.slice none 0 0) [] :=
  ⟨none, 0, rfl, Nat.le_refl _, by unfold maxLen; omega, by simp, fun i x hx => by simp at hx⟩
theorem one_meth {P : Nat → Prop} {w : World} (x : QM) (v : Value) (h : x.name.size ≤ 140737488351232) (hv : IsCode P w v x.code) : Cells MethC 5 P w [.string x.name, .int .i64 x.args, .int .i64 x.temps, .int .i64 x.prim, v] [x] :=
  Cells.one goodM rfl ⟨rfl, rfl, rfl, rfl, h, v, rfl, hv⟩
theorem one_class {P : Nat → Prop} {w : World} (x : QC) (v : Value) (h : x.name.size ≤ 140737488351232) (hv : IsMeths P w v x.methods) : Cells ClassC 4 P w [.string x.name, .int .i64 x.super, .int .i64 x.slots, v] [x] :=
  Cells.one goodC rfl ⟨rfl, rfl, rfl, h, v, rfl, hv⟩

def newMcs : List Value := [.string ⟨#[42]⟩, .int .i64 1, .int .i64 0, .int .i64 3, .slice none 0 0, .string ⟨#[43]⟩, .int .i64 1, .int .i64 0, .int .i64 1, .slice none 0 0, .string ⟨#[45]⟩, .int .i64 1, .int .i64 0, .int .i64 2, .slice none 0 0, .string ⟨#[60]⟩, .int .i64 1, .int .i64 0, .int .i64 4, .slice none 0 0, .string ⟨#[61]⟩, .int .i64 1, .int .i64 0, .int .i64 5, .slice none 0 0]
theorem newM_cells {P : Nat → Prop} {w : World} : Cells MethC 5 P w newMcs newM :=
  ((((one_meth ⟨⟨#[42]⟩, 1, 0, 3, []⟩ _ (by decide) row_none).append goodM (one_meth ⟨⟨#[43]⟩, 1, 0, 1, []⟩ _ (by decide) row_none)).append goodM (one_meth ⟨⟨#[45]⟩, 1, 0, 2, []⟩ _ (by decide) row_none)).append goodM (one_meth ⟨⟨#[60]⟩, 1, 0, 4, []⟩ _ (by decide) row_none)).append goodM (one_meth ⟨⟨#[61]⟩, 1, 0, 5, []⟩ _ (by decide) row_none)
def newCcs (v : Value) : List Value := [.string ⟨#[79, 98, 106, 101, 99, 116]⟩, .int .i64 (-1), .int .i64 0, .slice none 0 0, .string ⟨#[78, 105, 108]⟩, .int .i64 0, .int .i64 0, .slice none 0 0, .string ⟨#[66, 111, 111, 108]⟩, .int .i64 0, .int .i64 0, .slice none 0 0, .string ⟨#[73, 110, 116]⟩, .int .i64 0, .int .i64 0, v]
theorem newC_cells {P : Nat → Prop} {w : World} {v : Value} (h : IsMeths P w v newM) : Cells ClassC 4 P w (newCcs v) newC :=
  (((one_class ⟨⟨#[79, 98, 106, 101, 99, 116]⟩, -1, 0, []⟩ _ (by decide) row_none).append goodC (one_class ⟨⟨#[78, 105, 108]⟩, 0, 0, []⟩ _ (by decide) row_none)).append goodC (one_class ⟨⟨#[66, 111, 111, 108]⟩, 0, 0, []⟩ _ (by decide) row_none)).append goodC (one_class ⟨⟨#[73, 110, 116]⟩, 0, 0, newM⟩ v (by decide) h)

set_option maxHeartbeats 2000000 in
theorem new_any (w : World) : Calls Tryz.prog 30 #[] w fun e w' => ∃ cv hv, e = .returned (WV cv hv 0) ∧ IsClasses (fun b => w.heap.size ≤ b) w' cv newX.classes ∧ IsHeap (fun b => w.heap.size ≤ b) w' hv [] ∧ Below w.heap.size w w' := by
  go_enter Tryz.func30, Tryz.ntmps30
  go_wp2
  refine bodyPost_ret (v := WV (.slice (some ⟨w.heap.size + 1 + 1, 0, none⟩) 4 4) (.slice none 0 0) 0) ?_ rfl ⟨_, _, rfl, ?_, row_none, bel3 _ _ _ _⟩
  · simp [results, Tryz.results30, go_sem]
  · refine Cells.row (cs := newCcs (.slice (some ⟨w.heap.size + 1, 0, none⟩) 5 5)) (newC_cells ?_) goodC (by omega) (blk_new _ _ _ (by simp)) rfl (by decide) (by unfold maxLen; omega) (by decide)
    refine IsRow.later ?_ goodM (bel1 _ _)
    exact Cells.row newM_cells goodM (by omega) (blk_new _ _ _ (by simp)) rfl (by decide) (by unfold maxLen; omega) (by decide)
theorem below_set3 {n b : Nat} {w W : World} (h : Below n w W) (hb : n ≤ b) (x y z : Value) : Below n w (((W.setCell ⟨b, 0, none⟩ x).setCell ⟨b, 1, none⟩ y).setCell ⟨b, 2, none⟩ z) := ((h.setCell hb _).setCell hb _).setCell hb _
end Go.Proofs.YtjmidhghiahbaaaGreatDoor
