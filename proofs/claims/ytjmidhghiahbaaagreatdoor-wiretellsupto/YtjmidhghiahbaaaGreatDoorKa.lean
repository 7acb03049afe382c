/- Heights of methods, as a function: what a walk over places comes to; one height whichever way one came; what does not come back is wrong. -/
import Derived.Test.YtjmidhghiahbaaaGreatDoorCf
namespace Go.Proofs.YtjmidhghiahbaaaGreatDoor
set_option linter.unusedSimpArgs false
set_option linter.unusedVariables false

/-- How many values are needed, how many there are more, and where it goes on. -/
structure NextR where
  need : Int
  more : Int
  next : List Int
def nextE (x : QI) (at' : Int) : NextR :=
  if x.op = 9 ∨ x.op = 11 ∨ x.op = 12 then ⟨1, -1, [at' + 1]⟩
  else if x.op = 10 then ⟨1, 1, [at' + 1]⟩
  else if x.op = 14 then ⟨x.a + 1, -x.a, [at' + 1]⟩
  else if x.op = 15 then ⟨0, 0, [x.a]⟩
  else if x.op = 16 then ⟨1, -1, [at' + 1, x.a]⟩
  else if x.op = 17 then ⟨1, -1, []⟩
  else ⟨0, 1, [at' + 1]⟩
/-- The numbers of sends are right. -/
def SendsOk (code : List QI) : Prop := ∀ x ∈ code, x.op = 14 → 0 ≤ x.a ∧ x.a ≤ 4
theorem nextE_range {x : QI} (h : x.op = 14 → 0 ≤ x.a ∧ x.a ≤ 4) (p : Int) : 0 ≤ (nextE x p).need ∧ (nextE x p).need ≤ 5 ∧ -4 ≤ (nextE x p).more ∧ (nextE x p).more ≤ 1 ∧ 0 ≤ (nextE x p).need + (nextE x p).more ∧ (nextE x p).next.length ≤ 2 := by
  unfold nextE
  by_cases h14 : x.op = 14
  · obtain ⟨h1, h2⟩ := h h14
    simp [h14]
    omega
  · (repeat' split) <;> simp_all

/-- The code's instruction at a place. -/
def instrAt (code : List QI) (p : Int) : Option QI := if 0 ≤ p then code[p.toNat]? else none
theorem instrAt_some {code : List QI} {p : Int} {x : QI} (h : instrAt code p = some x) : ∃ k : Nat, p = (k : Int) ∧ code[k]? = some x := by
  unfold instrAt at h
  split at h
  · exact ⟨p.toNat, by omega, h⟩
  · cases h
theorem instrAt_nat {code : List QI} {k : Nat} : instrAt code (k : Int) = code[k]? := by simp [instrAt]
theorem instrAt_none {code : List QI} {p : Int} : instrAt code p = none ↔ p < 0 ∨ (code.length : Int) ≤ p := by
  unfold instrAt
  split
  · rw [List.getElem?_eq_none_iff]; omega
  · simp; omega

/-- One place that was led to: a fault, or the heights then, and where it leads. -/
def hStep (code : List QI) (h : List Int) (p : Int × Int) : (Int × Int) ⊕ (List Int × List (Int × Int)) :=
  match instrAt code p.1 with
  | none => .inl (9, (code.length : Int))
  | some x =>
    if 0 ≤ h.getD p.1.toNat 0 then if h.getD p.1.toNat 0 ≠ p.2 then .inl (8, p.1) else .inr (h, [])
    else if p.2 < (nextE x p.1).need ∨ x.op = 17 ∧ p.2 ≠ 1 then .inl (8, p.1)
    else if 12 < p.2 + (nextE x p.1).more then .inl (4, p.1)
    else .inr (h.set p.1.toNat p.2, (nextE x p.1).next.map fun t => (t, p.2 + (nextE x p.1).more))
def hRun (code : List QI) : Nat → List Int → List (Int × Int) → List Int × (Int × Int)
  | 0, h, _ => (h, (0, 0))
  | _ + 1, h, [] => (h, (0, 0))
  | g + 1, h, p :: q => match hStep code h p with
    | .inl f => ([], f)
    | .inr (h', new) => hRun code g h' (q ++ new)
/-- How many steps are left at most. -/
def hLeft (h : List Int) (q : List (Int × Int)) : Nat := q.length + 2 * h.countP (fun v => decide (v < 0))
def hStart (n : Nat) : List Int := List.replicate n (-1)
def heightsE (code : List QI) : List Int × (Int × Int) := hRun code (2 * code.length + 1) (hStart code.length) [(0, 0)]

theorem countP_set {h : List Int} {k : Nat} {v : Int} (hk : h.getD k 0 < 0) (hv : 0 ≤ v) (hl : k < h.length) : (h.set k v).countP (fun v => decide (v < 0)) + 1 = h.countP (fun v => decide (v < 0)) := by
  induction h generalizing k with
  | nil => simp at hl
  | cons a r ih =>
    cases k with
    | zero =>
      have : a < 0 := by simpa using hk
      have hv' : ¬ v < 0 := by omega
      simp [List.set, this, hv']
    | succ k =>
      simp only [List.set, List.countP_cons]
      have := ih (k := k) (by simpa using hk) (by simpa using hl)
      omega

/-- What holds on the way: as many heights as instructions; heights that wait are from 0 to 12. -/
structure HInv (code : List QI) (h : List Int) (q : List (Int × Int)) : Prop where
  len : h.length = code.length
  wait : ∀ p ∈ q, 0 ≤ p.2 ∧ p.2 ≤ 12
theorem HInv.start (code : List QI) : HInv code (hStart code.length) [(0, 0)] := ⟨by simp [hStart], fun p hp => by simp at hp; subst hp; simp⟩
theorem hLeft_start (code : List QI) : hLeft (hStart code.length) [(0, 0)] = 2 * code.length + 1 := by
  simp [hLeft, hStart, List.countP_replicate]; omega
theorem HInv.step {code : List QI} {h h' : List Int} {p : Int × Int} {q new : List (Int × Int)} (hi : HInv code h (p :: q)) (hs : SendsOk code) (he : hStep code h p = .inr (h', new)) : HInv code h' (q ++ new) ∧ hLeft h' (q ++ new) + 1 ≤ hLeft h (p :: q) := by
  have hw := hi.wait p (by simp)
  have hq : ∀ r ∈ q, 0 ≤ r.2 ∧ r.2 ≤ 12 := fun r hr => hi.wait r (by simp [hr])
  unfold hStep at he
  cases hx : instrAt code p.1 with
  | none => rw [hx] at he; cases he
  | some x =>
    rw [hx] at he
    simp only at he
    obtain ⟨k, hk, hxk⟩ := instrAt_some hx
    have hr := nextE_range (x := x) (hs x (List.mem_of_getElem? hxk)) p.1
    split at he
    · split at he
      · cases he
      · simp only [Sum.inr.injEq, Prod.mk.injEq] at he
        obtain ⟨rfl, rfl⟩ := he
        exact ⟨⟨hi.len, by simpa using hq⟩, by simp [hLeft]; omega⟩
    · rename_i hneg
      split at he
      · cases he
      · rename_i hfit
        split at he
        · cases he
        · rename_i hmuch
          simp only [Sum.inr.injEq, Prod.mk.injEq] at he
          obtain ⟨rfl, rfl⟩ := he
          have hl : p.1.toNat < h.length := by
            have := lt_of_get hxk
            rw [hi.len]; omega
          have hc := countP_set (h := h) (k := p.1.toNat) (v := p.2) (by omega) hw.1 hl
          refine ⟨⟨by rw [List.length_set]; exact hi.len, fun r hr' => ?_⟩, ?_⟩
          · rcases List.mem_append.1 hr' with h1 | h1
            · exact hq r h1
            · obtain ⟨t, -, rfl⟩ := List.mem_map.1 h1
              have : ¬ (p.2 < (nextE x p.1).need) := fun h => hfit (Or.inl h)
              simp only
              omega
          · simp only [hLeft, List.length_append, List.length_map, List.length_cons]
            omega
end Go.Proofs.YtjmidhghiahbaaaGreatDoor
