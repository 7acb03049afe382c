/- What is worth it at a site. -/
import Derived.Test.YthaefhojnjdheaaSa
namespace Go.Proofs.Ythaefhojnjdheaa
open Go.ChangeShapes Go.WideShapes Go.ChangeAt Go.RowKit
set_option linter.unusedSimpArgs false
set_option linter.unusedVariables false

theorem findI_cases {α : Type} (p : α → Bool) (xs : List α) : findI p xs = -1 ∨ ∃ (j : Nat) (x : α), findI p xs = (j : Int) ∧ xs[j]? = some x ∧ p x = true ∧ ∀ i y, i < j → xs[i]? = some y → p y = false := by
  unfold findI
  cases h : xs.findIdx? p with
  | none => left; rfl
  | some j =>
    right
    rw [List.findIdx?_eq_some_iff_getElem] at h
    obtain ⟨hj, hp, hn⟩ := h
    refine ⟨j, xs[j], rfl, by simp [hj], hp, fun i y hi hy => ?_⟩
    have := hn i hi
    rw [List.getElem?_eq_getElem (by omega)] at hy
    cases hy
    simpa using this
theorem findL_is {xs : List QC} {name : ByteArray} : ∀ (l : List Int), 0 ≤ (findL xs name l).2 → (findL xs name l).2 = numI (methsOf xs (findL xs name l).1) name
  | [], h => by simp [findL] at h
  | k :: r, h => by
    unfold findL at h ⊢
    by_cases hk : 0 ≤ numI (methsOf xs k) name
    · rw [if_pos hk]
    · rw [if_neg hk] at h ⊢
      exact findL_is r h
theorem methsOf_some {xs : List QC} {k : Int} {name : ByteArray} (h : 0 ≤ numI (methsOf xs k) name) : ∃ (q : Nat) (x : QC), k = (q : Int) ∧ xs[q]? = some x ∧ methsOf xs k = x.methods := by
  unfold methsOf at h ⊢
  cases hx : clsAt xs k with
  | none => rw [hx] at h; simp [numI, findI] at h
  | some x =>
    obtain ⟨q, rfl, hq⟩ := clsAt_some hx
    exact ⟨q, x, rfl, hq, rfl⟩
theorem findL_sign {xs : List QC} {name : ByteArray} : ∀ {l : List Int}, (∀ k ∈ l, 0 ≤ k) → ((findL xs name l).1 < 0 ∧ (findL xs name l).2 < 0) ∨ (0 ≤ (findL xs name l).1 ∧ 0 ≤ (findL xs name l).2)
  | [], _ => Or.inl (by simp [findL])
  | k :: r, h => by
    unfold findL
    split
    · rename_i hk
      exact Or.inr ⟨h k (by simp), hk⟩
    · exact findL_sign fun q hq => h q (by simp [hq])
theorem findE_sign (xs : List QC) (c : Int) (name : ByteArray) : ((findE xs c name).1 < 0 ∧ (findE xs c name).2 < 0) ∨ (0 ≤ (findE xs c name).1 ∧ 0 ≤ (findE xs c name).2) := by
  rw [findE_L]
  refine findL_sign fun k hk => ?_
  obtain ⟨i, hi, rfl⟩ := List.mem_iff_getElem.1 hk
  obtain ⟨q, x, e, -⟩ := upsE_mem _ _ i _ (by rw [List.getElem?_eq_getElem hi])
  rw [e]; omega
theorem find_found {xs : List QC} {k : Int} {name : ByteArray} (h : 0 ≤ (findE xs k name).2) : ∃ (q : Nat) (x : QC) (t : Nat) (y : QM), findE xs k name = ((q : Int), (t : Int)) ∧ xs[q]? = some x ∧ x.methods[t]? = some y := by
  rw [findE_L] at h ⊢
  generalize upsE xs (xs.length + 1) k = l at *
  have h1 := findL_is l h
  have h2 : 0 ≤ numI (methsOf xs (findL xs name l).1) name := by omega
  obtain ⟨q, x, hq, hx, hm⟩ := methsOf_some h2
  rw [hm] at h1 h2
  rcases findI_cases (fun m : QM => eqN m.name name) x.methods with h3 | ⟨t, y, ht, hy, hp, -⟩
  · have : numI x.methods name = -1 := h3
    omega
  · have ht' : numI x.methods name = (t : Int) := ht
    refine ⟨q, x, t, y, ?_, hx, hy⟩
    rw [ht'] at h1
    exact Prod.ext hq h1
theorem find_cases (xs : List QC) (k : Int) (name : ByteArray) : ((findE xs k name).1 < 0 ∧ (findE xs k name).2 < 0) ∨ ∃ (q : Nat) (x : QC) (t : Nat) (y : QM), findE xs k name = ((q : Int), (t : Int)) ∧ xs[q]? = some x ∧ x.methods[t]? = some y := by
  rcases findE_sign xs k name with h | h
  · exact Or.inl h
  · exact Or.inr (find_found h.2)
theorem findE_neg {xs : List QC} {c : Int} (name : ByteArray) (h : c < 0) : findE xs c name = (-1, -1) := by
  unfold findE upE clsAt
  simp [show ¬ 0 ≤ c by omega]

/-- Whether class c understands the name by a leaf of so many arguments. -/
def leafAt (xs : List QC) (c : Int) (name : ByteArray) (args : Int) : Bool :=
  if (findE xs c name).2 < 0 then false else
  match (xs[(findE xs c name).1.toNat]?).bind fun x => x.methods[(findE xs c name).2.toNat]? with
  | some m => m.args == args && leafE m
  | none => false
theorem leafAt_no {xs : List QC} {c : Int} {name : ByteArray} (args : Int) (h : (findE xs c name).2 < 0) : leafAt xs c name args = false := by simp [leafAt, h]
theorem leafAt_yes {xs : List QC} {c : Int} {name : ByteArray} (args : Int) {q t : Nat} {x : QC} {m : QM} (h : findE xs c name = ((q : Int), (t : Int))) (hx : xs[q]? = some x) (hm : x.methods[t]? = some m) : leafAt xs c name args = (m.args == args && leafE m) := by
  unfold leafAt
  rw [h]
  simp [hx, hm]
end Go.Proofs.Ythaefhojnjdheaa
