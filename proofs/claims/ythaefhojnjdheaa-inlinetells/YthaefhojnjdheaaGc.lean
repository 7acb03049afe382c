/- Names in order; the reference's way to lay a method among others. -/
import Derived.Test.YthaefhojnjdheaaGb
namespace Go.Proofs.Ythaefhojnjdheaa
open Go.ChangeShapes Go.WideShapes Go.ChangeAt Go.RowKit
set_option linter.unusedSimpArgs false
set_option linter.unusedVariables false
set_option maxRecDepth 8000

theorem less_trans : ∀ (x y z : List UInt8), Op.bytesLess x y = true → Op.bytesLess y z = true → Op.bytesLess x z = true
  | [], [], z, h, _ => by simp [Op.bytesLess] at h
  | [], b :: y, [], _, k => by simp [Op.bytesLess] at k
  | [], b :: y, c :: z, _, _ => by simp [Op.bytesLess]
  | a :: x, [], z, h, _ => by simp [Op.bytesLess] at h
  | a :: x, b :: y, [], _, k => by simp [Op.bytesLess] at k
  | a :: x, b :: y, c :: z, h, k => by
    simp only [Op.bytesLess, Bool.or_eq_true, decide_eq_true_eq, Bool.and_eq_true, beq_iff_eq] at h k ⊢
    rcases h with h | ⟨rfl, h⟩
    · rcases k with k | ⟨rfl, k⟩
      · exact Or.inl (UInt8.lt_trans h k)
      · exact Or.inl h
    · rcases k with k | ⟨rfl, k⟩
      · exact Or.inl k
      · exact Or.inr ⟨rfl, less_trans x y z h k⟩
theorem less_irr : ∀ (x : List UInt8), Op.bytesLess x x = false
  | [] => rfl
  | a :: x => by simp [Op.bytesLess, less_irr x]
theorem less_tri : ∀ (x y : List UInt8), Op.bytesLess x y = true ∨ x = y ∨ Op.bytesLess y x = true
  | [], [] => Or.inr (Or.inl rfl)
  | [], b :: y => Or.inl (by simp [Op.bytesLess])
  | a :: x, [] => Or.inr (Or.inr (by simp [Op.bytesLess]))
  | a :: x, b :: y => by
    simp only [Op.bytesLess, Bool.or_eq_true, decide_eq_true_eq, Bool.and_eq_true, beq_iff_eq]
    rcases UInt8.lt_or_lt_of_ne (a := a) (b := b) |> fun h => (Classical.em (a = b)).elim (fun e => Or.inr e) (fun e => Or.inl (h e)) with (h | h) | rfl
    · exact Or.inl (Or.inl h)
    · exact Or.inr (Or.inr (Or.inl h))
    · rcases less_tri x y with h | rfl | h
      · exact Or.inl (Or.inr ⟨rfl, h⟩)
      · exact Or.inr (Or.inl rfl)
      · exact Or.inr (Or.inr (Or.inr ⟨rfl, h⟩))

theorem gtN_iff {a b : ByteArray} : gtN a b = true ↔ ltN b a = true := by
  unfold gtN ltN
  constructor
  · intro h
    simp only [Bool.and_eq_true, Bool.not_eq_true', beq_eq_false_iff_ne] at h
    rcases less_tri a.toList b.toList with k | k | k
    · rw [h.1] at k; cases k
    · exact absurd k (by simpa using h.2)
    · exact k
  · intro h
    have h1 : Op.bytesLess a.toList b.toList = false := by
      cases k : Op.bytesLess a.toList b.toList
      · rfl
      · have := less_trans _ _ _ h k; rw [less_irr] at this; cases this
    have h2 : ¬ a.toList = b.toList := fun e => by rw [e, less_irr] at h; cases h
    simp [h1, h2]
theorem eqN_iffG {a b : ByteArray} : eqN a b = true ↔ a.toList = b.toList := by simp [eqN]
theorem ltN_eq {a b c : ByteArray} (h : eqN a b = true) (k : ltN a c = true) : ltN b c = true := by
  unfold ltN at k ⊢; rw [← eqN_iffG.1 h]; exact k
theorem ltN_trans {a b c : ByteArray} (h : ltN a b = true) (k : ltN b c = true) : ltN a c = true := less_trans _ _ _ h k
theorem eqN_of_lt {a b : ByteArray} (h : ltN b a = true) : eqN a b = false := by
  cases k : eqN a b
  · rfl
  · unfold ltN at h; rw [eqN_iffG.1 k, less_irr] at h; cases h

/-- The reference's loop: what is laid, whether m is, whether one of its name was there. -/
structure InsS where
  ms : List QM
  done : Bool
  was : Bool
def insS (m : QM) (s : InsS) (x : QM) : InsS :=
  if eqN x.name m.name = true then ⟨s.ms ++ [m], true, true⟩
  else if s.done = false ∧ gtN x.name m.name = true then ⟨s.ms ++ [m] ++ [x], true, s.was⟩
  else ⟨s.ms ++ [x], s.done, s.was⟩
def insF (m : QM) (xs : List QM) : InsS := xs.foldl (insS m) ⟨[], false, false⟩
def insL (m : QM) (xs : List QM) : List QM := if (insF m xs).done then (insF m xs).ms else (insF m xs).ms ++ [m]

theorem RisesM.tail {x : QM} {r : List QM} (h : RisesM (x :: r)) : RisesM r := fun i a b ha hb => h (i + 1) a b (by simpa using ha) (by simpa using hb)
theorem RisesM.head {x : QM} : ∀ {r : List QM}, RisesM (x :: r) → ∀ y ∈ r, ltN x.name y.name = true
  | [], _, y, hy => by simp at hy
  | z :: r, h, y, hy => by
    have h1 : ltN x.name z.name = true := h 0 x z rfl rfl
    rcases List.mem_cons.1 hy with rfl | hy
    · exact h1
    · exact ltN_trans h1 (RisesM.head h.tail y hy)
theorem insS_past {m : QM} : ∀ (r : List QM) (s : InsS), s.done = true → (∀ y ∈ r, ltN m.name y.name = true) → r.foldl (insS m) s = ⟨s.ms ++ r, true, s.was⟩
  | [], s, h, _ => by cases s; simp at h ⊢; exact h
  | x :: r, s, h, hr => by
    have h1 : insS m s x = ⟨s.ms ++ [x], true, s.was⟩ := by
      unfold insS
      rw [if_neg (by rw [eqN_of_lt (hr x (by simp))]; simp), if_neg (by simp [h]), h]
    rw [List.foldl_cons, h1, insS_past r _ rfl fun y hy => hr y (by simp [hy])]
    simp
/-- From a place at which m is not yet laid. -/
theorem insS_from {m : QM} : ∀ (r pre : List QM), RisesM r →
    r.foldl (insS m) ⟨pre, false, false⟩ = (match r.findIdx? (fun y => eqN y.name m.name) with
      | some i => ⟨pre ++ r.set i m, true, true⟩
      | none => match r.findIdx? (fun y => gtN y.name m.name) with
        | some i => ⟨pre ++ (r.take i ++ [m] ++ r.drop i), true, false⟩
        | none => ⟨pre ++ r, false, false⟩)
  | [], pre, _ => by simp
  | x :: r, pre, h => by
    have hh := h.head
    cases he : eqN x.name m.name
    · cases hg : gtN x.name m.name
      · have h1 : insS m ⟨pre, false, false⟩ x = ⟨pre ++ [x], false, false⟩ := by simp [insS, he, hg]
        rw [List.foldl_cons, h1, insS_from r _ h.tail]
        rw [List.findIdx?_cons, List.findIdx?_cons, he, hg]
        cases h2 : r.findIdx? (fun y => eqN y.name m.name) with
        | some i => simp
        | none =>
          cases h3 : r.findIdx? (fun y => gtN y.name m.name) with
          | some i => simp
          | none => simp
      · have h1 : insS m ⟨pre, false, false⟩ x = ⟨pre ++ [m] ++ [x], true, false⟩ := by simp [insS, he, hg]
        have hm : ∀ y ∈ r, ltN m.name y.name = true := fun y hy => ltN_trans (gtN_iff.1 hg) (hh y hy)
        rw [List.foldl_cons, h1, insS_past r _ rfl hm]
        rw [List.findIdx?_cons, List.findIdx?_cons, he, hg]
        have h2 : r.findIdx? (fun y => eqN y.name m.name) = none := by
          rw [List.findIdx?_eq_none_iff]
          exact fun y hy => eqN_of_lt (hm y hy)
        rw [h2]
        simp
    · have h1 : insS m ⟨pre, false, false⟩ x = ⟨pre ++ [m], true, true⟩ := by simp [insS, he]
      have hm : ∀ y ∈ r, ltN m.name y.name = true := fun y hy => ltN_eq he (hh y hy)
      rw [List.foldl_cons, h1, insS_past r _ rfl hm]
      rw [List.findIdx?_cons, he]
      simp
theorem insF_was {m : QM} {xs : List QM} (h : RisesM xs) : (insF m xs).was = decide (0 ≤ numI xs m.name) := by
  unfold insF numI findI
  rw [insS_from xs [] h]
  cases h2 : xs.findIdx? (fun y => eqN y.name m.name) with
  | some i => simp
  | none => cases h3 : xs.findIdx? (fun y => gtN y.name m.name) <;> simp
theorem insL_ins {m : QM} {xs : List QM} (h : RisesM xs) : insL m xs = insM xs m := by
  unfold insL insF insM numI placeI findI
  rw [insS_from xs [] h]
  cases h2 : xs.findIdx? (fun y => eqN y.name m.name) with
  | some i => simp
  | none =>
    cases h3 : xs.findIdx? (fun y => gtN y.name m.name) with
    | some i =>
      have : ¬ ((i : Int) < 0) := by omega
      simp [this]
    | none => simp
end Go.Proofs.Ythaefhojnjdheaa
