/- tally.Add. -/
import Derived.Test.YtlekfiglefopgaaTc
namespace Go.Proofs.Ytlekfiglefopgaa
open Go.ChangeShapes Go.WideShapes Go.ChangeAt Go.RowKit
set_option linter.unusedSimpArgs false
set_option linter.unusedVariables false

/-- One more receiver of class c at the site. -/
def addE : List QT → QS → Int → List QT
  | [], s, c => [⟨s, [⟨c, 1⟩]⟩]
  | x :: r, s, c => if eqS x.site s then ⟨x.site, oneMore x.lines c⟩ :: r else x :: addE r s c
theorem addE_none : ∀ {xs : List QT} {s : QS} {c : Int}, findI (fun x => eqS x.site s) xs = -1 → addE xs s c = xs ++ [⟨s, [⟨c, 1⟩]⟩]
  | [], s, c, _ => rfl
  | x :: r, s, c, h => by
    have hx : eqS x.site s = false := by
      cases hb : eqS x.site s with
      | false => rfl
      | true => rw [findI_at (j := 0) (x := x) rfl hb (fun i y hi _ => by omega)] at h; simp at h
    have hr : findI (fun x : QT => eqS x.site s) r = -1 := by
      unfold findI at h ⊢
      rw [List.findIdx?_cons, hx] at h
      cases hf : r.findIdx? (fun x => eqS x.site s) with
      | none => rfl
      | some k => rw [hf] at h; simp at h; omega
    simp [addE, hx, addE_none hr]
theorem addE_at : ∀ {xs : List QT} {s : QS} {c : Int} {j : Nat} {x : QT}, xs[j]? = some x → eqS x.site s = true → (∀ i y, i < j → xs[i]? = some y → eqS y.site s = false) → addE xs s c = xs.set j ⟨x.site, oneMore x.lines c⟩
  | [], s, c, j, x, h, _, _ => by simp at h
  | y :: r, s, c, 0, x, h, hp, _ => by
    simp at h; subst h
    simp [addE, hp]
  | y :: r, s, c, j + 1, x, h, hp, hn => by
    have hy := hn 0 y (by omega) rfl
    simp only [addE, hy, List.set_cons_succ]
    rw [addE_at (xs := r) (j := j) (x := x) (by simpa using h) hp (fun i z hi hz => hn (i + 1) z (by omega) (by simpa using hz))]
    rfl

/-- Lines of one tally of a row are others. -/
theorem put_tally {w : World} {g j cap : Nat} {xs : List QT} {x : QT} {v' : Value} {ls' : List QL} {Q S : Nat → Prop} (hx : xs[j]? = some x)
    (hoth : ∀ i y, i ≠ j → xs[i]? = some y → ∃ R : Nat → Prop, ¬ R g ∧ (∀ b, R b → S b) ∧ TallyC R w (fun k => w.cell? ⟨g, i * 4 + k, none⟩) y)
    (h0 : w.cell? ⟨g, j * 4 + 0, none⟩ = some (.int .i64 x.site.cls)) (h1 : w.cell? ⟨g, j * 4 + 1, none⟩ = some (.string x.site.name)) (h2 : w.cell? ⟨g, j * 4 + 2, none⟩ = some (.int .i64 x.site.at')) {u : Value} (h3 : w.cell? ⟨g, j * 4 + 3, none⟩ = some u)
    (hl : IsLines Q w v' ls') (hQ : ¬ Q g) (hQS : ∀ b, Q b → S b) (hSg : S g) (hc1 : xs.length ≤ cap) (hc2 : cap ≤ maxLen) : IsTallies S (w.setCell ⟨g, j * 4 + 3, none⟩ v') (.slice (some ⟨g, 0, none⟩) xs.length cap) (xs.set j ⟨x.site, ls'⟩) := by
  have hself := cell_set_self h3 v'
  have hne : ∀ o, o ≠ j * 4 + 3 → (w.setCell ⟨g, j * 4 + 3, none⟩ v').cell? ⟨g, o, none⟩ = w.cell? ⟨g, o, none⟩ := fun o ho => World.cell?_setCell_other _ _ _ _ (by intro e; injection e with _ e2 _; omega)
  refine ⟨some ⟨g, 0, none⟩, cap, by simp, by simpa using hc1, hc2, by simp, fun i y hy => ⟨g, 0, rfl, hSg, ?_⟩⟩
  by_cases hij : i = j
  · subst hij
    rw [List.getElem?_set_self (lt_of_get hx)] at hy
    cases hy
    simp only [Nat.zero_add]
    refine ⟨(hne (i * 4 + 0) (by omega)).trans h0, (hne (i * 4 + 1) (by omega)).trans h1, (hne (i * 4 + 2) (by omega)).trans h2, v', hself, ?_⟩
    exact hl.keep goodL (Keeps.of_setCell hQ _) hQS
  · rw [List.getElem?_set_ne (by omega)] at hy
    obtain ⟨R, hR, hRS, hT⟩ := hoth i y hij hy
    simp only [Nat.zero_add]
    refine goodT.move hT hRS (Keeps.of_setCell hR _) fun k hk v hv => ?_
    rw [hne _ (by omega)]
    exact hv

theorem OneLeft.cell {w w' : World} {g : Option Nat} {ls : List QL} {e : Ending} (h : OneLeft w g ls e w') {b o : Nat} {v : Value} (hc : w.cell? ⟨b, o, none⟩ = some v) (hb : some b ≠ g) : w'.cell? ⟨b, o, none⟩ = some v := by
  obtain ⟨-, -, -, -, -, -, h1, -⟩ := h
  have hl := World.block_lt_of_cell? _ _ hc
  rw [World.cell?_of_block (h1 b hl hb)]
  exact hc
theorem OneLeft.frozen {w w' : World} {g : Option Nat} {ls : List QL} {e : Ending} (h : OneLeft w g ls e w') {b : Nat} (hl : b < w.heap.size) (hb : some b ≠ g) : ∀ o, w'.frozen? ⟨b, o, none⟩ = w.frozen? ⟨b, o, none⟩ := fun o => by
  obtain ⟨-, -, -, -, -, -, h1, -⟩ := h
  exact World.frozen?_of_block (h1 b hl hb)
theorem OneLeft.below {w w' : World} {g : Option Nat} {ls : List QL} {e : Ending} (h : OneLeft w g ls e w') {B : Nat} (hB : B ≤ w.heap.size) (hg : ∀ b, g = some b → B ≤ b) : Below B w w' := by
  obtain ⟨-, -, -, -, -, -, h1, h2, h3, h4, h5⟩ := h
  exact ⟨h2, h3, h4, h5, fun k hk => h1 k (by omega) fun e => by have := hg k e.symm; omega⟩

end Go.Proofs.Ytlekfiglefopgaa
