/- Package code: Check, whole. -/
import Derived.Test.YtdfbgpiikeheiaaKh
namespace Go.Proofs.Ytdfbgpiikeheiaa
open Go.ChangeShapes Go.WideShapes Go.ChangeAt Go.RowKit
set_option linter.unusedSimpArgs false
set_option linter.unusedVariables false
set_option maxRecDepth 8000

theorem box2 {w : World} {B : Nat} {x y : Value} {t : TypeId} (h : w.heap[B]? = some (.cells #[x, y] t (0, 0))) : (∀ q, w.cell? ⟨B, q, none⟩ = (#[x, y] : Array Value)[q]?) ∧ (∀ o, w.frozen? ⟨B, o, none⟩ = false) :=
  ⟨fun q => by rw [cell_of_row _ _ _ _ _ _ h], fun o => by unfold World.frozen?; simp [h]⟩

theorem set2_cells {w : World} {B : Nat} {x y : Value} {t : TypeId} (h : w.heap[B]? = some (.cells #[x, y] t (0, 0))) (u v : Value) (z : Obj) : (((w.setCell ⟨B, 0, none⟩ u).setCell ⟨B, 1, none⟩ v).alloc z).cell? ⟨B, 0, none⟩ = some u ∧ (((w.setCell ⟨B, 0, none⟩ u).setCell ⟨B, 1, none⟩ v).alloc z).cell? ⟨B, 1, none⟩ = some v := by
  have h2 : ((w.setCell ⟨B, 0, none⟩ u).setCell ⟨B, 1, none⟩ v).heap[B]? = some (.cells #[u, v] t (0, 0)) := by rw [setCell_same (setCell_same h _) _]; rfl
  have h3 := box_later' h2 (bel1 _ z)
  exact ⟨by rw [cell_of_row _ _ _ _ _ _ h3]; rfl, by rw [cell_of_row _ _ _ _ _ _ h3]; rfl⟩
theorem hRun_zero {code : List QI} : ∀ (g : Nat) (h : List Int) (q : List (Int × Int)), (hRun code g h q).2.1 = 0 → (hRun code g h q).2 = (0, 0)
  | 0, h, q, _ => rfl
  | g + 1, h, [], _ => rfl
  | g + 1, h, p :: q, he => by
    unfold hRun at he ⊢
    cases hst : hStep code h p with
    | inl f => rw [hst] at he; exact absurd he (hStep_err hst)
    | inr r =>
      obtain ⟨h', new⟩ := r
      rw [hst] at he
      exact hRun_zero g h' (q ++ new) he
end Go.Proofs.Ytdfbgpiikeheiaa
