/- Package code: Check. -/
import Derived.Test.YtdfbgpiikeheiaaKg
namespace Go.Proofs.Ytdfbgpiikeheiaa
open Go.ChangeShapes Go.WideShapes Go.ChangeAt Go.RowKit
set_option linter.unusedSimpArgs false
set_option linter.unusedVariables false
set_option maxRecDepth 8000

/-- The first instruction of which f tells something wrong. -/
def badE (f : QI → Int) : Nat → List QI → Option (Int × Int)
  | _, [] => none
  | k, x :: r => if f x ≠ 0 then some (f x, (k : Int)) else badE f (k + 1) r
theorem badE_at {f : QI → Int} : ∀ {l : List QI} {k j : Nat} {x : QI}, l[j]? = some x → f x ≠ 0 → (∀ (i : Nat) y, i < j → l[i]? = some y → f y = 0) → badE f k l = some (f x, ((k + j : Nat) : Int))
  | [], k, j, x, h, _, _ => by simp at h
  | z :: r, k, 0, x, h, hx, _ => by
    simp at h
    subst h
    simp [badE, hx]
  | z :: r, k, j + 1, x, h, hx, hp => by
    have h0 : f z = 0 := hp 0 z (by omega) rfl
    unfold badE
    rw [if_neg (by simp [h0]), badE_at (l := r) (k := k + 1) (j := j) (by simpa using h) hx fun i y hi hy => hp (i + 1) y (by omega) (by simpa using hy)]
    congr 3
    omega
theorem badE_none {f : QI → Int} : ∀ {l : List QI} {k : Nat}, (∀ (i : Nat) y, l[i]? = some y → f y = 0) → badE f k l = none
  | [], k, _ => rfl
  | z :: r, k, hp => by
    unfold badE
    rw [if_neg (by simp [hp 0 z rfl])]
    exact badE_none fun i y hy => hp (i + 1) y (by simpa using hy)
theorem badE_all {f : QI → Int} : ∀ {l : List QI} {k : Nat}, badE f k l = none → ∀ x ∈ l, f x = 0
  | [], k, _, x, hx => by simp at hx
  | z :: r, k, h, x, hx => by
    unfold badE at h
    by_cases h0 : f z = 0
    · rw [if_neg (by simp [h0])] at h
      rcases List.mem_cons.1 hx with rfl | hx
      · exact h0
      · exact badE_all h x hx
    · rw [if_pos h0] at h; cases h
/-- What Check tells: S slots, n classes. -/
def checkE (S n c : Int) (m : QM) : Int × Int :=
  if wmE n c m ≠ 0 then (wmE n c m, 0) else match badE (numE S n m) 0 m.code with
    | some f => f
    | none => (heightsE m.code).2
theorem numE_send {S n : Int} {m : QM} {x : QI} (h : numE S n m x = 0) : x.op = 14 → 0 ≤ x.a ∧ x.a ≤ 4 := fun h14 => by
  unfold numE at h
  split at h
  · cases h
  · split at h
    · cases h
    · rename_i hra
      simp [raE, h14, inR] at hra
      exact hra
theorem wmE_args {n c : Int} {m : QM} (h : wmE n c m = 0) : (0 ≤ m.args ∧ m.args ≤ 4) ∧ (0 ≤ m.temps ∧ m.temps ≤ 6) ∧ 1 ≤ m.code.length ∧ m.code.length ≤ 60 ∧ 0 ≤ c ∧ c ≤ n - 1 := by
  unfold wmE at h
  (repeat' split at h) <;> first | (exfalso; omega) | skip
  rename_i h1 h2 h3 h4 h5
  simp [inR] at h1 h3 h5
  omega

end Go.Proofs.Ytdfbgpiikeheiaa
