/- ClassInstalled: what is there is found; and the walk. -/
import Derived.Test.YtahcmmdlggcfbaaPb
namespace Go.Proofs.Ytahcmmdlggcfbaa
open Go.ChangeShapes Go.WideShapes Go.ChangeAt Go.RowKit
set_option linter.unusedSimpArgs false
set_option linter.unusedVariables false
set_option maxRecDepth 8000

theorem findI_spec {α : Type} {p : α → Bool} {xs : List α} (h : 0 ≤ findI p xs) : ∃ (j : Nat) (x : α), findI p xs = (j : Int) ∧ xs[j]? = some x ∧ p x = true ∧ ∀ i y, i < j → xs[i]? = some y → p y = false := by
  unfold findI at h ⊢
  cases hf : xs.findIdx? p with
  | none => rw [hf] at h; simp at h
  | some j =>
    obtain ⟨hj, hp, hn⟩ := List.findIdx?_eq_some_iff_getElem.1 hf
    refine ⟨j, xs[j], rfl, by simp, hp, fun i y hi hy => ?_⟩
    have := hn i hi
    rw [List.getElem?_eq_getElem (by omega)] at hy
    cases hy
    simpa using this
theorem num_iff {ms : List QM} {name : ByteArray} : 0 ≤ numI ms name ↔ ∃ y ∈ ms, eqN y.name name = true := by
  constructor
  · intro h
    obtain ⟨j, x, -, hx, hp, -⟩ := findI_spec h
    exact ⟨x, List.mem_of_getElem? hx, hp⟩
  · rintro ⟨y, hy, he⟩
    have : ¬ numI ms name < 0 := fun hl => by
      obtain ⟨j, hj⟩ := List.getElem?_of_mem hy
      have h2 : findI (fun m : QM => eqN m.name name) ms < 0 := hl
      unfold findI at h2
      cases hf : ms.findIdx? (fun m : QM => eqN m.name name) with
      | some j => rw [hf] at h2; simp at h2; omega
      | none =>
        have := List.findIdx?_eq_none_iff.1 hf y hy
        rw [he] at this
        cases this
    omega
theorem eqN_self (a : ByteArray) : eqN a a = true := by simp [eqN]
theorem ins_at {ms : List QM} {m : QM} : ∃ j : Nat, numI (insM ms m) m.name = (j : Int) ∧ (insM ms m)[j]? = some m := by
  by_cases h : 0 ≤ numI ms m.name
  · obtain ⟨j, x, hj, hx, hp, hn⟩ := findI_spec h
    have hj' : numI ms m.name = (j : Int) := hj
    have hl := lt_of_get hx
    have e : insM ms m = ms.set j m := by unfold insM; rw [if_pos h, hj']; simp
    have hm : (ms.set j m)[j]? = some m := by simp [hl]
    refine ⟨j, ?_, by rw [e]; exact hm⟩
    rw [e]
    exact findI_at hm (eqN_self _) fun i y hi hy => by
      rw [List.getElem?_set_ne (by omega)] at hy
      exact hn i y hi hy
  · obtain ⟨hp0, hpl⟩ := placeI_le (xs := ms) (name := m.name)
    have e : insM ms m = ms.take (placeI ms m.name).toNat ++ [m] ++ ms.drop (placeI ms m.name).toNat := by unfold insM; rw [if_neg h]
    generalize (placeI ms m.name).toNat = pp at *
    have hlen : (ms.take pp).length = pp := by simp; omega
    have hm : (ms.take pp ++ [m] ++ ms.drop pp)[pp]? = some m := by
      rw [List.append_assoc, List.getElem?_append_right (by omega), hlen]; simp
    refine ⟨pp, ?_, by rw [e]; exact hm⟩
    rw [e]
    refine findI_at hm (eqN_self _) fun i y hi hy => ?_
    rw [List.append_assoc, List.getElem?_append_left (by omega)] at hy
    cases he : eqN y.name m.name
    · rfl
    · exact absurd (num_iff.2 ⟨y, List.mem_of_mem_take (List.mem_of_getElem? hy), he⟩) h
theorem ins_other {ms : List QM} {m : QM} {name : ByteArray} (hne : eqN m.name name = false) : 0 ≤ numI (insM ms m) name ↔ 0 ≤ numI ms name := by
  rw [num_iff, num_iff]
  by_cases h : 0 ≤ numI ms m.name
  · obtain ⟨j, x, hj, hx, hp, hn⟩ := findI_spec h
    have hj' : numI ms m.name = (j : Int) := hj
    have hl := lt_of_get hx
    have e : insM ms m = ms.set j m := by unfold insM; rw [if_pos h, hj']; simp
    rw [e]
    constructor
    · rintro ⟨y, hy, he⟩
      rcases List.mem_or_eq_of_mem_set hy with h1 | h1
      · exact ⟨y, h1, he⟩
      · subst h1; rw [hne] at he; cases he
    · rintro ⟨y, hy, he⟩
      obtain ⟨k, hk⟩ := List.getElem?_of_mem hy
      have hkj : k ≠ j := fun hkj => by
        subst hkj
        rw [hx] at hk
        cases hk
        have e1 := eqN_iff.1 hp
        have e2 := eqN_iff.1 he
        rw [e1] at e2
        rw [eqN_iff.2 e2] at hne
        cases hne
      exact ⟨y, List.mem_of_getElem? (i := k) (by rw [List.getElem?_set_ne (by omega)]; exact hk), he⟩
  · have e : insM ms m = ms.take (placeI ms m.name).toNat ++ [m] ++ ms.drop (placeI ms m.name).toNat := by unfold insM; rw [if_neg h]
    rw [e]
    generalize (placeI ms m.name).toNat = pp at *
    constructor
    · rintro ⟨y, hy, he⟩
      simp only [List.mem_append, List.mem_singleton] at hy
      rcases hy with (h1 | h1) | h1
      · exact ⟨y, List.mem_of_mem_take h1, he⟩
      · subst h1; rw [hne] at he; cases he
      · exact ⟨y, List.mem_of_mem_drop h1, he⟩
    · rintro ⟨y, hy, he⟩
      rw [← List.take_append_drop pp ms] at hy
      simp only [List.mem_append] at hy
      refine ⟨y, ?_, he⟩
      simp only [List.mem_append, List.mem_singleton]
      rcases hy with h1 | h1
      · exact Or.inl (Or.inl h1)
      · exact Or.inr h1

theorem clsAt_set {xs : List QC} {k : Nat} {x x' : QC} (hx : xs[k]? = some x) (c : Int) : clsAt (xs.set k x') c = if c = (k : Int) then some x' else clsAt xs c := by
  have hk := lt_of_get hx
  unfold clsAt
  by_cases h0 : 0 ≤ c
  · rw [if_pos h0, if_pos h0]
    obtain ⟨d, rfl⟩ : ∃ d : Nat, c = (d : Int) := ⟨c.toNat, by omega⟩
    simp only [Int.toNat_natCast]
    by_cases hd : d = k
    · subst hd; simp [hk]
    · rw [List.getElem?_set_ne (by omega), if_neg (by omega)]
  · rw [if_neg h0, if_neg h0, if_neg (by omega)]
theorem upsE_set {xs : List QC} {k : Nat} {x x' : QC} (hx : xs[k]? = some x) (hs : x'.super = x.super) : ∀ (n : Nat) (c : Int), upsE (xs.set k x') n c = upsE xs n c
  | 0, _ => rfl
  | n + 1, c => by
    unfold upsE
    rw [clsAt_set hx]
    by_cases hc : c = (k : Int)
    · subst hc
      rw [if_pos rfl, clsAt_nat, hx]
      simp only
      rw [hs, upsE_set hx hs n]
    · rw [if_neg hc]
      cases clsAt xs c with
      | none => rfl
      | some z => simp only; rw [upsE_set hx hs n]
theorem methsOf_set {xs : List QC} {k : Nat} {x x' : QC} (hx : xs[k]? = some x) (c : Int) : methsOf (xs.set k x') c = if c = (k : Int) then x'.methods else methsOf xs c := by
  unfold methsOf
  rw [clsAt_set hx]
  by_cases hc : c = (k : Int)
  · rw [if_pos hc, if_pos hc]; rfl
  · rw [if_neg hc, if_neg hc]
theorem findL_same {xs ys : List QC} {name : ByteArray} : ∀ (l : List Int), (∀ k, 0 ≤ numI (methsOf ys k) name ↔ 0 ≤ numI (methsOf xs k) name) → (findL ys name l).1 = (findL xs name l).1 ∧ (0 ≤ (findL ys name l).2 ↔ 0 ≤ (findL xs name l).2)
  | [], _ => ⟨rfl, Iff.rfl⟩
  | k :: r, h => by
    unfold findL
    by_cases hk : 0 ≤ numI (methsOf xs k) name
    · rw [if_pos hk, if_pos ((h k).2 hk)]
      exact ⟨rfl, h k⟩
    · rw [if_neg hk, if_neg (fun h' => hk ((h k).1 h'))]
      exact findL_same r h
theorem findL_is {xs : List QC} {name : ByteArray} : ∀ (l : List Int), 0 ≤ (findL xs name l).2 → (findL xs name l).2 = numI (methsOf xs (findL xs name l).1) name
  | [], h => by simp [findL] at h
  | k :: r, h => by
    unfold findL at h ⊢
    by_cases hk : 0 ≤ numI (methsOf xs k) name
    · rw [if_pos hk]
    · rw [if_neg hk] at h ⊢
      exact findL_is r h
theorem methsOf_some {xs : List QC} {k : Int} {name : ByteArray} (h : 0 ≤ numI (methsOf xs k) name) : ∃ (q : Nat) (x : QC), k = (q : Int) ∧ xs[q]? = some x ∧ methsOf xs k = x.methods := by
  unfold methsOf at h ⊢
  cases hx : clsAt xs k with
  | none => rw [hx] at h; simp [numI, findI] at h
  | some x =>
    obtain ⟨q, rfl, hq⟩ := clsAt_some hx
    exact ⟨q, x, rfl, hq, rfl⟩
/-- What is found of a world in which a method was put. -/
theorem inst_facts {X : QW} {c : Int} {m : QM} (h : instE X c m = 0) : ∃ (q : Nat) (y : QC) (j : Nat), c = (q : Int) ∧ (instY X c m).classes[q]? = some y ∧ y.methods[j]? = some m ∧ findE (instY X c m).classes c m.name = ((q : Int), (j : Int)) ∧
    ∀ (k : Int) (other : ByteArray), eqN m.name other = false → (findE (instY X c m).classes k other).1 = (findE X.classes k other).1 ∧ (0 ≤ (findE (instY X c m).classes k other).2 ↔ 0 ≤ (findE X.classes k other).2) := by
  unfold instE at h
  cases hx : clsAt X.classes c with
  | none => rw [hx] at h; cases h
  | some x =>
    rw [hx] at h
    simp only at h
    split at h
    · cases h
    rename_i hno
    obtain ⟨q, rfl, hq⟩ := clsAt_some hx
    have hql := lt_of_get hq
    have e : instY X (q : Int) m = instX X q x m := by unfold instY; rw [hx]; simp only; rw [if_neg hno]; simp
    rw [e]
    obtain ⟨j, hj, hm⟩ := ins_at (ms := x.methods) (m := m)
    have hcl : (instX X q x m).classes = X.classes.set q { x with methods := insM x.methods m } := rfl
    refine ⟨q, { x with methods := insM x.methods m }, j, rfl, by rw [hcl]; simp [hql], hm, ?_, fun k other ho => ?_⟩
    · rw [hcl, findE_L, List.length_set, upsE_set (x' := { x with methods := insM x.methods m }) hq rfl, upsE_in hx]
      unfold findL
      rw [methsOf_set hq, if_pos rfl]
      simp only
      rw [hj, if_pos (by omega)]
    · rw [hcl, findE_L, findE_L, List.length_set, upsE_set (x' := { x with methods := insM x.methods m }) hq rfl]
      refine findL_same _ fun k => ?_
      rw [methsOf_set hq]
      by_cases hk : k = (q : Int)
      · subst hk
        rw [if_pos rfl]
        have : methsOf X.classes (q : Int) = x.methods := by simp [methsOf, hx]
        rw [this]
        exact ins_other ho
      · rw [if_neg hk]
theorem find_found {xs : List QC} {k : Int} {name : ByteArray} (h : 0 ≤ (findE xs k name).2) : ∃ (q : Nat) (x : QC) (t : Nat) (y : QM), findE xs k name = ((q : Int), (t : Int)) ∧ xs[q]? = some x ∧ x.methods[t]? = some y ∧ eqN y.name name = true := by
  rw [findE_L] at h ⊢
  generalize upsE xs (xs.length + 1) k = l at *
  have h1 := findL_is l h
  have h2 : 0 ≤ numI (methsOf xs (findL xs name l).1) name := by omega
  obtain ⟨q, x, hq, hx, hm⟩ := methsOf_some h2
  rw [hm] at h1 h2
  obtain ⟨t, y, ht, hy, hp, -⟩ := findI_spec h2
  have ht' : numI x.methods name = (t : Int) := ht
  refine ⟨q, x, t, y, ?_, hx, hy, hp⟩
  rw [ht'] at h1
  exact Prod.ext hq h1
theorem inst_wrong {X : QW} {c : Int} {m : QM} (h : instE X c m ≠ 0) : instY X c m = zeroX := by
  unfold instE at h
  unfold instY
  cases hx : clsAt X.classes c with
  | none => rfl
  | some x =>
    rw [hx] at h
    simp only at h ⊢
    split at h
    · rename_i h1; rw [if_pos h1]
    · exact absurd rfl h
end Go.Proofs.Ytahcmmdlggcfbaa
