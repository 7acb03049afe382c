/- Heights of methods, as a function: what a walk over places comes to; one height whichever way one came; what does not come back is wrong. -/
import Derived.Test.YtfdonemehiamjaaPCf
import Derived.Test.YtfdonemehiamjaaPG1
import Derived.ArgAppend
namespace Go.Proofs.Ytfdonemehiamjaa
set_option linter.unusedSimpArgs false
set_option linter.unusedVariables false

/-- How many values are needed, how many there are more, and where it goes on. -/
structure NextR where
  need : Int
  more : Int
  next : List Int
def nextE (x : QI) (at' : Int) : NextR :=
  if x.op = 9 ∨ x.op = 11 ∨ x.op = 12 then ⟨1, -1, [at' + 1]⟩
  else if x.op = 10 then ⟨1, 1, [at' + 1]⟩
  else if x.op = 14 then ⟨x.a + 1, -x.a, [at' + 1]⟩
  else if x.op = 15 then ⟨0, 0, [x.a]⟩
  else if x.op = 16 then ⟨1, -1, [at' + 1, x.a]⟩
  else if x.op = 17 then ⟨1, -1, []⟩
  else ⟨0, 1, [at' + 1]⟩
/-- The numbers of sends are right. -/
def SendsOk (code : List QI) : Prop := ∀ x ∈ code, x.op = 14 → 0 ≤ x.a ∧ x.a ≤ 4
theorem nextE_range {x : QI} (h : x.op = 14 → 0 ≤ x.a ∧ x.a ≤ 4) (p : Int) : 0 ≤ (nextE x p).need ∧ (nextE x p).need ≤ 5 ∧ -4 ≤ (nextE x p).more ∧ (nextE x p).more ≤ 1 ∧ 0 ≤ (nextE x p).need + (nextE x p).more ∧ (nextE x p).next.length ≤ 2 := by
  unfold nextE
  by_cases h14 : x.op = 14
  · obtain ⟨h1, h2⟩ := h h14
    simp [h14]
    omega
  · (repeat' split) <;> simp_all

/-- The code's instruction at a place. -/
def instrAt (code : List QI) (p : Int) : Option QI := if 0 ≤ p then code[p.toNat]? else none
theorem instrAt_some {code : List QI} {p : Int} {x : QI} (h : instrAt code p = some x) : ∃ k : Nat, p = (k : Int) ∧ code[k]? = some x := by
  unfold instrAt at h
  split at h
  · exact ⟨p.toNat, by omega, h⟩
  · cases h
theorem instrAt_nat {code : List QI} {k : Nat} : instrAt code (k : Int) = code[k]? := by simp [instrAt]
theorem instrAt_none {code : List QI} {p : Int} : instrAt code p = none ↔ p < 0 ∨ (code.length : Int) ≤ p := by
  unfold instrAt
  split
  · rw [List.getElem?_eq_none_iff]; omega
  · simp; omega

/-- One place that was led to: a fault, or the heights then, and where it leads. -/
def hStep (code : List QI) (h : List Int) (p : Int × Int) : (Int × Int) ⊕ (List Int × List (Int × Int)) :=
  match instrAt code p.1 with
  | none => .inl (9, (code.length : Int))
  | some x =>
    if 0 ≤ h.getD p.1.toNat 0 then if h.getD p.1.toNat 0 ≠ p.2 then .inl (8, p.1) else .inr (h, [])
    else if p.2 < (nextE x p.1).need ∨ x.op = 17 ∧ p.2 ≠ 1 then .inl (8, p.1)
    else if 12 < p.2 + (nextE x p.1).more then .inl (4, p.1)
    else .inr (h.set p.1.toNat p.2, (nextE x p.1).next.map fun t => (t, p.2 + (nextE x p.1).more))
def hRun (code : List QI) : Nat → List Int → List (Int × Int) → List Int × (Int × Int)
  | 0, h, _ => (h, (0, 0))
  | _ + 1, h, [] => (h, (0, 0))
  | g + 1, h, p :: q => match hStep code h p with
    | .inl f => ([], f)
    | .inr (h', new) => hRun code g h' (q ++ new)
/-- How many steps are left at most. -/
def hLeft (h : List Int) (q : List (Int × Int)) : Nat := q.length + 2 * h.countP (fun v => decide (v < 0))
def hStart (n : Nat) : List Int := List.replicate n (-1)
def heightsE (code : List QI) : List Int × (Int × Int) := hRun code (2 * code.length + 1) (hStart code.length) [(0, 0)]

theorem countP_set {h : List Int} {k : Nat} {v : Int} (hk : h.getD k 0 < 0) (hv : 0 ≤ v) (hl : k < h.length) : (h.set k v).countP (fun v => decide (v < 0)) + 1 = h.countP (fun v => decide (v < 0)) := by
  induction h generalizing k with
  | nil => simp at hl
  | cons a r ih =>
    cases k with
    | zero =>
      have : a < 0 := by simpa using hk
      have hv' : ¬ v < 0 := by omega
      simp [List.set, this, hv']
    | succ k =>
      simp only [List.set, List.countP_cons]
      have := ih (k := k) (by simpa using hk) (by simpa using hl)
      omega

/-- What holds on the way: as many heights as instructions; heights that wait are from 0 to 12. -/
structure HInv (code : List QI) (h : List Int) (q : List (Int × Int)) : Prop where
  len : h.length = code.length
  wait : ∀ p ∈ q, 0 ≤ p.2 ∧ p.2 ≤ 12
theorem HInv.start (code : List QI) : HInv code (hStart code.length) [(0, 0)] := ⟨by simp [hStart], fun p hp => by simp at hp; subst hp; simp⟩
theorem hLeft_start (code : List QI) : hLeft (hStart code.length) [(0, 0)] = 2 * code.length + 1 := by
  simp [hLeft, hStart, List.countP_replicate]; omega
theorem HInv.step {code : List QI} {h h' : List Int} {p : Int × Int} {q new : List (Int × Int)} (hi : HInv code h (p :: q)) (hs : SendsOk code) (he : hStep code h p = .inr (h', new)) : HInv code h' (q ++ new) ∧ hLeft h' (q ++ new) + 1 ≤ hLeft h (p :: q) := by
  have hw := hi.wait p (by simp)
  have hq : ∀ r ∈ q, 0 ≤ r.2 ∧ r.2 ≤ 12 := fun r hr => hi.wait r (by simp [hr])
  unfold hStep at he
  cases hx : instrAt code p.1 with
  | none => rw [hx] at he; cases he
  | some x =>
    rw [hx] at he
    simp only at he
    obtain ⟨k, hk, hxk⟩ := instrAt_some hx
    have hr := nextE_range (x := x) (hs x (List.mem_of_getElem? hxk)) p.1
    split at he
    · split at he
      · cases he
      · simp only [Sum.inr.injEq, Prod.mk.injEq] at he
        obtain ⟨rfl, rfl⟩ := he
        exact ⟨⟨hi.len, by simpa using hq⟩, by simp [hLeft]; omega⟩
    · rename_i hneg
      split at he
      · cases he
      · rename_i hfit
        split at he
        · cases he
        · rename_i hmuch
          simp only [Sum.inr.injEq, Prod.mk.injEq] at he
          obtain ⟨rfl, rfl⟩ := he
          have hl : p.1.toNat < h.length := by
            have := lt_of_get hxk
            rw [hi.len]; omega
          have hc := countP_set (h := h) (k := p.1.toNat) (v := p.2) (by omega) hw.1 hl
          refine ⟨⟨by rw [List.length_set]; exact hi.len, fun r hr' => ?_⟩, ?_⟩
          · rcases List.mem_append.1 hr' with h1 | h1
            · exact hq r h1
            · obtain ⟨t, -, rfl⟩ := List.mem_map.1 h1
              have : ¬ (p.2 < (nextE x p.1).need) := fun h => hfit (Or.inl h)
              simp only
              omega
          · simp only [hLeft, List.length_append, List.length_map, List.length_cons]
            omega
end Go.Proofs.Ytfdonemehiamjaa
/- One height, whichever way one came; what does not come back is wrong. -/
namespace Go.Proofs.Ytfdonemehiamjaa
set_option linter.unusedSimpArgs false
set_option linter.unusedVariables false

theorem hStep_err {code : List QI} {h : List Int} {p f : Int × Int} (he : hStep code h p = .inl f) : f.1 ≠ 0 := by
  unfold hStep at he
  cases hx : instrAt code p.1 with
  | none => rw [hx] at he; simp at he; rw [← he]; simp
  | some x =>
    rw [hx] at he
    simp only at he
    (repeat' split at he) <;> simp at he <;> rw [← he] <;> simp

/-- What an instruction that was reached says: what it needs is there, and where it leads has that height, or waits. -/
def HAt (code : List QI) (h : List Int) (q : List (Int × Int)) (k : Nat) (x : QI) : Prop :=
  (nextE x k).need ≤ h.getD k 0 ∧ h.getD k 0 ≤ 12 ∧ (x.op = 17 → h.getD k 0 = 1) ∧
    ∀ t ∈ (nextE x k).next, (t, h.getD k 0 + (nextE x k).more) ∈ q ∨ ∃ j : Nat, t = (j : Int) ∧ j < code.length ∧ h.getD j 0 = h.getD k 0 + (nextE x k).more
def HClo (code : List QI) (h : List Int) (q : List (Int × Int)) : Prop :=
  ((0, 0) ∈ q ∨ 0 < code.length ∧ h.getD 0 0 = 0) ∧ ∀ (k : Nat) x, code[k]? = some x → 0 ≤ h.getD k 0 → HAt code h q k x
theorem HClo.start (code : List QI) : HClo code (hStart code.length) [(0, 0)] := by
  refine ⟨Or.inl (by simp), fun k x hx h0 => ?_⟩
  have hk := lt_of_get hx
  simp [hStart, hk] at h0
theorem getD_set_self {h : List Int} {k : Nat} {v : Int} (hk : k < h.length) : (h.set k v).getD k 0 = v := by simp [hk]
theorem getD_set_ne {h : List Int} {k j : Nat} {v : Int} (hk : k ≠ j) : (h.set k v).getD j 0 = h.getD j 0 := by simp [List.getElem?_set_ne hk]

theorem HClo.step {code : List QI} {h h' : List Int} {p : Int × Int} {q new : List (Int × Int)} (hi : HInv code h (p :: q)) (hc : HClo code h (p :: q)) (hs : SendsOk code) (he : hStep code h p = .inr (h', new)) : HClo code h' (q ++ new) := by
  have hw := hi.wait p (by simp)
  unfold hStep at he
  cases hx : instrAt code p.1 with
  | none => rw [hx] at he; cases he
  | some x =>
    rw [hx] at he
    simp only at he
    obtain ⟨k, hk, hxk⟩ := instrAt_some hx
    have hkl := lt_of_get hxk
    have hpk : p.1.toNat = k := by omega
    rw [hpk] at he
    split at he
    · rename_i hge
      split at he
      · cases he
      · rename_i heq
        simp only [Sum.inr.injEq, Prod.mk.injEq] at he
        obtain ⟨rfl, rfl⟩ := he
        have heq' : h.getD k 0 = p.2 := by simpa using heq
        have mem : ∀ t v, (t, v) ∈ p :: q → (t, v) ∈ q ++ [] ∨ ∃ j : Nat, t = (j : Int) ∧ j < code.length ∧ h.getD j 0 = v := fun t v hm => by
          rcases List.mem_cons.1 hm with e | e
          · exact Or.inr ⟨k, by rw [← hk, ← e], hkl, by rw [heq', ← e]⟩
          · exact Or.inl (by simpa using e)
        refine ⟨?_, fun j y hy h0 => ?_⟩
        · rcases hc.1 with e | e
          · rcases mem 0 0 e with e | ⟨j, e1, e2, e3⟩
            · exact Or.inl e
            · obtain rfl : j = 0 := by omega
              exact Or.inr ⟨e2, e3⟩
          · exact Or.inr e
        · obtain ⟨a1, a2, a3, a4⟩ := hc.2 j y hy h0
          refine ⟨a1, a2, a3, fun t ht => ?_⟩
          rcases a4 t ht with e | e
          · exact mem _ _ e
          · exact Or.inr e
    · rename_i hneg
      split at he
      · cases he
      · rename_i hfit
        split at he
        · cases he
        · rename_i hmuch
          simp only [Sum.inr.injEq, Prod.mk.injEq] at he
          obtain ⟨rfl, rfl⟩ := he
          have hl : k < h.length := by rw [hi.len]; exact hkl
          have hself : (h.set k p.2).getD k 0 = p.2 := getD_set_self hl
          have mem : ∀ t v, (t, v) ∈ p :: q → (t, v) ∈ q ++ (nextE x p.1).next.map (fun t => (t, p.2 + (nextE x p.1).more)) ∨ ∃ j : Nat, t = (j : Int) ∧ j < code.length ∧ (h.set k p.2).getD j 0 = v := fun t v hm => by
            rcases List.mem_cons.1 hm with e | e
            · exact Or.inr ⟨k, by rw [← hk, ← e], hkl, by rw [hself, ← e]⟩
            · exact Or.inl (List.mem_append_left _ e)
          refine ⟨?_, fun j y hy h0 => ?_⟩
          · rcases hc.1 with e | e
            · rcases mem 0 0 e with e | ⟨j, e1, e2, e3⟩
              · exact Or.inl e
              · obtain rfl : j = 0 := by omega
                exact Or.inr ⟨e2, e3⟩
            · refine Or.inr ⟨e.1, ?_⟩
              by_cases hk0 : k = 0
              · subst hk0; rw [e.2] at hneg; omega
              · rw [getD_set_ne hk0]; exact e.2
          · by_cases hjk : j = k
            · subst hjk
              rw [hxk] at hy
              cases hy
              unfold HAt
              rw [hself, ← hk]
              refine ⟨?_, hw.2, fun h17 => ?_, fun t ht => Or.inl (List.mem_append_right _ (List.mem_map.2 ⟨t, ht, rfl⟩))⟩
              · have : ¬ (p.2 < (nextE x p.1).need) := fun h => hfit (Or.inl h)
                omega
              · have : ¬ (p.2 ≠ 1) := fun h => hfit (Or.inr ⟨h17, h⟩)
                omega
            · have hjk' : k ≠ j := fun e => hjk e.symm
              rw [getD_set_ne hjk'] at h0
              obtain ⟨a1, a2, a3, a4⟩ := hc.2 j y hy h0
              unfold HAt
              rw [getD_set_ne hjk']
              refine ⟨a1, a2, a3, fun t ht => ?_⟩
              rcases a4 t ht with e | ⟨i, e1, e2, e3⟩
              · exact mem _ _ e
              · refine Or.inr ⟨i, e1, e2, ?_⟩
                have hr := nextE_range (x := y) (hs y (List.mem_of_getElem? hy)) j
                have hik : k ≠ i := fun e => by subst e; omega
                rw [getD_set_ne hik]; exact e3

theorem hRun_ok {code : List QI} (hs : SendsOk code) : ∀ (g : Nat) (h : List Int) (q : List (Int × Int)), HInv code h q → HClo code h q → hLeft h q ≤ g → (hRun code g h q).2.1 = 0 → HInv code (hRun code g h q).1 [] ∧ HClo code (hRun code g h q).1 []
  | 0, h, q, hi, hc, hg, he => by
    have : q = [] := List.eq_nil_of_length_eq_zero (by unfold hLeft at hg; omega)
    subst this
    exact ⟨hi, hc⟩
  | g + 1, h, [], hi, hc, hg, he => ⟨hi, hc⟩
  | g + 1, h, p :: q, hi, hc, hg, he => by
    unfold hRun at he ⊢
    cases hst : hStep code h p with
    | inl f => rw [hst] at he; exact absurd he (hStep_err hst)
    | inr r =>
      obtain ⟨h', new⟩ := r
      rw [hst] at he
      have h1 := hi.step hs hst
      exact hRun_ok hs g h' (q ++ new) h1.1 (hc.step hi hs hst) (by omega) he
/-- One height, whichever way one came. -/
theorem heights_ok {code : List QI} (hs : SendsOk code) (he : (heightsE code).2.1 = 0) : (heightsE code).1.length = code.length ∧ 0 < code.length ∧ (heightsE code).1.getD 0 0 = 0 ∧ ∀ (k : Nat) x, code[k]? = some x → 0 ≤ (heightsE code).1.getD k 0 →
    (nextE x k).need ≤ (heightsE code).1.getD k 0 ∧ (heightsE code).1.getD k 0 ≤ 12 ∧ (x.op = 17 → (heightsE code).1.getD k 0 = 1) ∧ ∀ t ∈ (nextE x k).next, ∃ j : Nat, t = (j : Int) ∧ j < code.length ∧ (heightsE code).1.getD j 0 = (heightsE code).1.getD k 0 + (nextE x k).more := by
  obtain ⟨h1, h2, h3⟩ := hRun_ok hs _ _ _ (HInv.start code) (HClo.start code) (Nat.le_of_eq (hLeft_start code)) he
  have h0 : 0 < code.length ∧ (heightsE code).1.getD 0 0 = 0 := by rcases h2 with h | h; · simp at h
                                                                   · exact h
  refine ⟨h1.len, h0.1, h0.2, fun k x hx hk => ?_⟩
  obtain ⟨a1, a2, a3, a4⟩ := h3 k x hx hk
  refine ⟨a1, a2, a3, fun t ht => ?_⟩
  rcases a4 t ht with e | e
  · simp at e
  · exact e

/-- Places in a set that is closed stay in it. -/
theorem hRun_in {code : List QI} {S : Nat → Prop} (hS : ∀ (k : Nat) x, S k → code[k]? = some x → ∀ t ∈ (nextE x k).next, ∃ j : Nat, t = (j : Int) ∧ S j) : ∀ (g : Nat) (h : List Int) (q : List (Int × Int)), h.length = code.length → (∀ p ∈ q, ∃ j : Nat, p.1 = (j : Int) ∧ S j) → (∀ k, k < code.length → 0 ≤ h.getD k 0 → S k) → (hRun code g h q).2.1 = 0 → ∀ k, k < code.length → 0 ≤ (hRun code g h q).1.getD k 0 → S k
  | 0, h, q, hl, hq, hh, he => hh
  | g + 1, h, [], hl, hq, hh, he => hh
  | g + 1, h, p :: q, hl, hq, hh, he => by
    unfold hRun at he ⊢
    cases hst : hStep code h p with
    | inl f => rw [hst] at he; exact absurd he (hStep_err hst)
    | inr r =>
      obtain ⟨h', new⟩ := r
      rw [hst] at he
      obtain ⟨j, hj, hSj⟩ := hq p (by simp)
      have hq' : ∀ r ∈ q, ∃ j : Nat, r.1 = (j : Int) ∧ S j := fun r hr => hq r (by simp [hr])
      unfold hStep at hst
      cases hx : instrAt code p.1 with
      | none => rw [hx] at hst; cases hst
      | some x =>
        rw [hx] at hst
        simp only at hst
        obtain ⟨k, hk, hxk⟩ := instrAt_some hx
        obtain rfl : j = k := by omega
        have hpk : p.1.toNat = j := by omega
        rw [hpk] at hst
        split at hst
        · split at hst
          · cases hst
          · simp only [Sum.inr.injEq, Prod.mk.injEq] at hst
            obtain ⟨rfl, rfl⟩ := hst
            exact hRun_in hS g h _ hl (by simpa using hq') hh he
        · split at hst
          · cases hst
          · split at hst
            · cases hst
            · simp only [Sum.inr.injEq, Prod.mk.injEq] at hst
              obtain ⟨rfl, rfl⟩ := hst
              refine hRun_in hS g _ _ (by rw [List.length_set]; exact hl) (fun r hr => ?_) (fun i hi h0 => ?_) he
              · rcases List.mem_append.1 hr with h1 | h1
                · exact hq' r h1
                · obtain ⟨t, ht, rfl⟩ := List.mem_map.1 h1
                  rw [hk] at ht
                  exact hS j x hSj hxk t ht
              · by_cases hij : j = i
                · subst hij; exact hSj
                · rw [getD_set_ne hij] at h0
                  exact hh i hi h0
/-- What does not come back is wrong. -/
theorem heights_cut {code : List QI} (hs : SendsOk code) (he : (heightsE code).2.1 = 0) {n : Nat} (hn : n + 1 = code.length) (hc : (heightsE (code.take n)).2.1 = 0) : (heightsE code).1.getD n 0 < 0 := by
  have hs' : SendsOk (code.take n) := fun x hx => hs x (List.mem_of_mem_take hx)
  obtain ⟨h1, h2, h3, h4⟩ := heights_ok hs' hc
  have hlt : (code.take n).length = n := by rw [List.length_take]; omega
  rw [hlt] at h2 h4
  have key := hRun_in (code := code) (S := fun k => k < n ∧ 0 ≤ (heightsE (code.take n)).1.getD k 0) (fun k x hk hx t ht => by
    have hx' : (code.take n)[k]? = some x := by rw [List.getElem?_take, if_pos hk.1]; exact hx
    obtain ⟨a1, -, -, a4⟩ := h4 k x hx' hk.2
    obtain ⟨j, e1, e2, e3⟩ := a4 t ht
    have hr := nextE_range (x := x) (hs x (List.mem_of_getElem? hx)) k
    exact ⟨j, e1, e2, by omega⟩) (2 * code.length + 1) (hStart code.length) [(0, 0)] (by simp [hStart]) (fun p hp => by simp at hp; subst hp; exact ⟨0, rfl, h2, by omega⟩) (fun k hk h0 => by simp [hStart, hk] at h0) he
  by_cases h : 0 ≤ (heightsE code).1.getD n 0
  · have := (key n (by omega) h).1; omega
  · omega
end Go.Proofs.Ytfdonemehiamjaa
/- A slice of one's own that is cut at its head, and appended to. -/
namespace Go.Proofs.Ytfdonemehiamjaa
open Go.ChangeShapes Go.WideShapes Go.ChangeAt Go.RowKit
set_option linter.unusedSimpArgs false
set_option linter.unusedVariables false
set_option maxRecDepth 8000

/-- The slice v, of n elements of sz cells, is in a row of its own from block base on, wherever in it; its cells are xs. -/
def ownsAt (w : World) (base : Nat) (e : TypeId) (sz : Nat) (v : Value) (n : Nat) (xs : List Value) : Prop :=
  xs.length = n * sz ∧ ((v = .slice none 0 0 ∧ n = 0) ∨ ∃ g o cap cur, v = .slice (some ⟨g, o, none⟩) n cap ∧ base ≤ g ∧ w.heap[g]? = some (.cells cur e (0, 0)) ∧ n ≤ cap ∧ cap ≤ maxLen ∧ o + cap * sz ≤ cur.size ∧ (cur.toList.drop o).take (n * sz) = xs)
/-- All but the box bl, and the row ow, are as they were. -/
structure Led (w w' : World) (lo bl : Nat) (ow : Option Nat) : Prop where
  bel : Below lo w w'
  blk : ∀ b, b < w.heap.size → b ≠ bl → some b ≠ ow → w'.heap[b]? = w.heap[b]?
theorem ownsAt.keep {w w' : World} {base : Nat} {e : TypeId} {sz : Nat} {v : Value} {n : Nat} {xs : List Value} (h : ownsAt w base e sz v n xs) (hk : ∀ g, v.ownBlock = some g → w'.heap[g]? = w.heap[g]?) : ownsAt w' base e sz v n xs := by
  obtain ⟨h1, h2 | ⟨g, o, cap, cur, rfl, h3, h4, h5⟩⟩ := h
  · exact ⟨h1, Or.inl h2⟩
  · exact ⟨h1, Or.inr ⟨g, o, cap, cur, rfl, h3, by rw [hk g (by simp [Value.ownBlock])]; exact h4, h5⟩⟩
theorem ownsAt.lt {w : World} {base : Nat} {e : TypeId} {sz : Nat} {v : Value} {n : Nat} {xs : List Value} (h : ownsAt w base e sz v n xs) : ∀ g, v.ownBlock = some g → base ≤ g ∧ g < w.heap.size := by
  obtain ⟨h1, h2 | ⟨g, o, cap, cur, rfl, h3, h4, h5⟩⟩ := h
  · intro g hg; rw [h2.1] at hg; cases hg
  · intro g' hg
    simp [Value.ownBlock] at hg
    subst hg
    exact ⟨h3, blk_lt h4⟩
theorem ownsAt.alloc {w : World} {base : Nat} {e : TypeId} {sz : Nat} {v : Value} {n : Nat} {xs : List Value} (h : ownsAt w base e sz v n xs) (o : Obj) : ownsAt (w.alloc o) base e sz v n xs :=
  h.keep fun g hg => (bel1 w o).block _ (h.lt g hg).2
theorem ownsAt.form {w : World} {base : Nat} {e : TypeId} {sz : Nat} {v : Value} {n : Nat} {xs : List Value} (h : ownsAt w base e sz v n xs) : ∃ a cap, v = .slice a n cap ∧ n ≤ cap ∧ cap ≤ maxLen := by
  obtain ⟨-, ⟨rfl, rfl⟩ | ⟨g, o, cap, cur, rfl, -, -, h1, h2, -⟩⟩ := h
  · exact ⟨none, 0, rfl, Nat.le_refl _, by unfold maxLen; omega⟩
  · exact ⟨_, cap, rfl, h1, h2⟩
theorem setCells_row {g : Nat} {t : TypeId} : ∀ (vs : List Value) (o : Nat) (w : World) (cur : Array Value), w.heap[g]? = some (.cells cur t (0, 0)) → o + vs.length ≤ cur.size → (w.setCells g o vs).heap[g]? = some (.cells (cur.toList.take o ++ vs ++ cur.toList.drop (o + vs.length)).toArray t (0, 0))
  | [], o, w, cur, h, hl => by simpa [World.setCells] using h
  | v :: vs, o, w, cur, h, hl => by
    simp only [List.length_cons] at hl
    unfold World.setCells
    rw [setCells_row vs (o + 1) _ _ (setCell_same h v) (by simp; omega)]
    congr 3
    apply List.ext_getElem?
    intro i
    simp only [Array.toList_setIfInBounds, List.length_cons, List.getElem?_append, List.length_append, List.length_take, List.length_set, Array.length_toList, List.getElem?_take, List.getElem?_drop, List.getElem?_set, List.getElem?_cons]
    have e1 : min (o + 1) cur.size = o + 1 := by omega
    have e2 : min o cur.size = o := by omega
    rw [e1, e2]
    by_cases h1 : i < o
    · simp [h1, show i < o + 1 by omega, show i < o + 1 + vs.length by omega, show i < o + (vs.length + 1) by omega, show ¬ o = i by omega]
    · by_cases h2 : i = o
      · subst h2
        simp [show i < i + 1 + vs.length by omega, show i < cur.size by omega]
      · by_cases h3 : i < o + 1 + vs.length
        · obtain ⟨d, rfl⟩ : ∃ d, i = o + 1 + d := ⟨i - (o + 1), by omega⟩
          simp [show ¬ (o + 1 + d < o) by omega, h3, show o + 1 + d < o + (vs.length + 1) by omega, show ¬ (o + 1 + d < o + 1) by omega, show o + 1 + d - (o + 1) = d by omega, show o + 1 + d - o = d + 1 by omega]
        · have h4 : ¬ (i < o + (vs.length + 1)) := by omega
          simp only [h3, h4, if_false, show ¬ i < o by omega]
          rw [show o + 1 + vs.length + (i - (o + 1 + vs.length)) = i by omega, show o + (vs.length + 1) + (i - (o + (vs.length + 1))) = i by omega]
          simp [show ¬ o = i by omega]
theorem bel_setCells (g : Nat) : ∀ (vs : List Value) (o : Nat) (w : World), Below g w (w.setCells g o vs)
  | [], o, w => Below.refl _ _
  | v :: vs, o, w => by
    unfold World.setCells
    exact ((Below.refl g w).setCell (Nat.le_refl g) _).trans (bel_setCells g vs (o + 1) _)
theorem ownsAt_of {w : World} {base base' : Nat} {e : TypeId} {sz : Nat} {v : Value} {n : Nat} {xs : List Value} (h : w.ownsRow base' e sz v n xs) (hb : base ≤ base') : ownsAt w base e sz v n xs := by
  obtain ⟨h1, h2 | ⟨g, c, cur, e, h3, h4, h5, h6, h7, h8⟩⟩ := h
  · exact ⟨h1, Or.inl h2⟩
  · exact ⟨h1, Or.inr ⟨g, 0, c, cur, e, by omega, h4, h5, h6, by omega, by simpa using h8⟩⟩
theorem run_append_at {w : World} (T ty e : TypeId) (z : Value) (sz bytes : Nat) (hT : Try.prog.underlying T = some (.slice e)) (hI : (Try.prog.info? e).map (fun i => (i.zero, i.size, i.bytes)) = some (some z, sz, bytes)) (hzs : z.cells.size = sz) (hsz : 0 < sz)
    (base n : Nat) (v : Value) (xs : List Value) (hown : ownsAt w base e sz v n xs) (Bb : Nat) (news : List Value) (hl : news.length = sz) (hX : w.heap[Bb]? = some (.cells news.toArray e (0, 0))) (h1 : ∀ u ∈ news, u.oneCell' = true) (h63 : n + 1 ≤ maxLen) (hby : (n + 1) * bytes ≤ 140737488355328) (hbase : base ≤ w.heap.size) :
    ∃ v' w', (Builtin.append_ #[T, T] ty #[v, .slice (some ⟨Bb, 0, none⟩) 1 1]).run Try.prog w = .ok v' w' ∧ ownsAt w' base e sz v' (n + 1) (xs ++ news) ∧ (v'.ownBlock = v.ownBlock ∨ ∃ g, v'.ownBlock = some g ∧ w.heap.size ≤ g) ∧ Below base w w' ∧ (∀ b, b < w.heap.size → some b ≠ v.ownBlock → w'.heap[b]? = w.heap[b]?) := by
  obtain ⟨i0, hi, hz0, hz1, hz2⟩ := info_parts hI
  have hnews : ∀ j u, news[j]? = some u → w.cell? ((⟨Bb, 0, none⟩ : Addr).add j) = some u := fun j u hu => by rw [Addr.add_lit, Nat.zero_add, cell_of_row _ _ _ _ _ _ hX]; simpa using hu
  obtain ⟨hxl, ⟨rfl, rfl⟩ | ⟨g, o, cap, cur, rfl, h3, h4, h5, h6, h7, h8⟩⟩ := id hown
  · obtain ⟨v', w', hrun, r1, r2, _⟩ := run_append_own (P := Try.prog) w w.heap.size T ty e i0 z sz bytes hT hi hz0 hz1 hz2 hzs hsz (.slice none 0 0) 0 [] (World.ownsRow_nil w _ e sz) ⟨Bb, 0, none⟩ 1 1 news (by omega) hnews h1 h63 hby (Nat.le_refl _)
    have hxs : xs = [] := List.eq_nil_of_length_eq_zero (by simpa using hxl)
    subst hxs
    refine ⟨v', w', hrun, ownsAt_of (by simpa using r1) hbase, Or.inr ?_, ?_, fun b hb hne => r2.block b hb hne⟩
    · obtain ⟨-, h | ⟨g, c, cur, e, h3, h4, -⟩⟩ := r1
      · omega
      · exact ⟨g, by rw [e]; rfl, h3⟩
    · exact (Below.refl _ _).grown r2 hbase fun k hk => by cases hk
  · by_cases hr : n + 1 ≤ cap
    · have hcs : cur.toList.length = cur.size := by simp
      have hon : o + n * sz + news.length ≤ cur.size := by
        have : (n + 1) * sz ≤ cap * sz := Nat.mul_le_mul_right _ hr
        rw [Nat.add_mul] at this
        omega
      have hrun := run_append_room_cells (P := Try.prog) w T ty e i0 hT hi g o n cap ⟨Bb, 0, none⟩ 1 1 news (by rw [hz1]; omega) hnews h1 hr (fun j hj => by rw [hz1, cell_of_row _ _ _ _ _ _ h4]; simp; omega) (fun j hj => by unfold World.frozen?; simp [h4])
      rw [hz1] at hrun
      have hrow := setCells_row news (o + n * sz) w cur h4 hon
      refine ⟨_, _, hrun, ⟨by rw [List.length_append, hxl, hl, Nat.add_mul]; omega, Or.inr ⟨g, o, cap, _, rfl, h3, hrow, hr, h6, ?_, ?_⟩⟩, Or.inl rfl, ?_, fun b hb hne => setCells_else (fun e => hne (by rw [e]; rfl)) _ _ _⟩
      · simp
        omega
      · rw [← h8]
        apply List.ext_getElem?
        intro i
        simp only [List.getElem?_take, List.getElem?_drop, List.getElem?_append, List.length_append, List.length_take, List.length_drop, hcs]
        have e1 : min (o + n * sz) cur.size = o + n * sz := by omega
        have e2 : min (n * sz) (cur.size - o) = n * sz := by omega
        rw [e1, e2]
        have e3 : (n + 1) * sz = n * sz + sz := by rw [Nat.add_mul]; omega
        rw [e3]
        by_cases g1 : i < n * sz
        · simp [g1, show i < n * sz + sz by omega, show o + i < o + n * sz by omega, show o + i < o + n * sz + news.length by omega]
        · by_cases g2 : i < n * sz + sz
          · simp [g1, g2, show ¬ (o + i < o + n * sz) by omega, show o + i < o + n * sz + news.length by omega, show o + i - (o + n * sz) = i - n * sz by omega]
          · simp [g1, g2]
            omega
      · refine ⟨?_, ?_, ?_, ?_, fun k hk => setCells_else (by omega) _ _ _⟩
        · exact (bel_setCells _ _ _ _).os
        · exact (bel_setCells _ _ _ _).tape
        · exact (bel_setCells _ _ _ _).output
        · rw [setCells_size]; exact Nat.le_refl _
    · obtain ⟨v', w', hrun, r1, r2⟩ := run_append_arg_grows (P := Try.prog) w T ty e i0 z sz bytes hT hi hz0 hz1 hz2 hzs hsz ⟨g, o, none⟩ n cap xs hxl (fun j u hu => by
        rw [Addr.add_lit, cell_of_row _ _ _ _ _ _ h4]
        rw [← h8, List.getElem?_take] at hu
        split at hu
        · rw [List.getElem?_drop] at hu; simpa using hu
        · cases hu) ⟨Bb, 0, none⟩ 1 1 news (by omega) hnews (by omega) h63 hby
      refine ⟨v', w', hrun, ownsAt_of r1 hbase, Or.inr ?_, ?_, fun b hb hne => r2.block b hb (by simp)⟩
      · obtain ⟨-, h | ⟨g, c, cur, e, h3, h4, -⟩⟩ := r1
        · omega
        · exact ⟨g, by rw [e]; rfl, h3⟩
      · exact (Below.refl _ _).grown r2 hbase fun k hk => by cases hk
theorem wpList_append_at {ops : Array Oper} {rest : List Oper} {o : Oper} {a : Act} {w : World} {Q : Exit → Act → World → Prop} (hgd : o.guard = none) (s x : Operand) (T e : TypeId) (z : Value) (sz bytes : Nat)
    (hop : o.op = Op.call { callee := Callee.builtin Builtin.append, args := #[s, x], argTypes := #[T, T] }) (hT : Try.prog.underlying T = some (.slice e)) (hI : (Try.prog.info? e).map (fun i => (i.zero, i.size, i.bytes)) = some (some z, sz, bytes)) (hzs : z.cells.size = sz) (hsz : 0 < sz)
    (base n : Nat) (v : Value) (xs : List Value) (hs : a.eval s = v) (hown : ownsAt w base e sz v n xs) (Bb : Nat) (hx : a.eval x = .slice (some ⟨Bb, 0, none⟩) 1 1) (news : List Value) (hl : news.length = sz) (hX : w.heap[Bb]? = some (.cells news.toArray e (0, 0))) (h1 : ∀ u ∈ news, u.oneCell' = true) (h63 : n + 1 ≤ maxLen) (hby : (n + 1) * bytes ≤ 140737488355328) (hbase : base ≤ w.heap.size)
    (hK : ∀ a' cap' w', ownsAt w' base e sz (.slice a' (n + 1) cap') (n + 1) (xs ++ news) → ((Value.slice a' (n + 1) cap').ownBlock = v.ownBlock ∨ ∃ g, (Value.slice a' (n + 1) cap').ownBlock = some g ∧ w.heap.size ≤ g) → Below base w w' → (∀ b, b < w.heap.size → some b ≠ v.ownBlock → w'.heap[b]? = w.heap[b]?) → wpList Try.prog ops Q rest (a.put o.dst (.slice a' (n + 1) cap')) w') :
    wpList Try.prog ops Q (o :: rest) a w := by
  refine wpList_plain hgd fun K hKK => ?_
  obtain ⟨v', w', hrun, r1, r2, r3, r4⟩ := run_append_at T o.type e z sz bytes hT hI hzs hsz base n v xs hown Bb news hl hX h1 h63 hby hbase
  obtain ⟨a', cap', rfl, -⟩ := r1.form
  unfold Oper.wp
  simp [execOp, hop, resolve, invoke, builtin, hs, hx, hrun, Result.andThen]
  exact hKK _ _ (hK a' cap' w' r1 r2 r3 r4)
end Go.Proofs.Ytfdonemehiamjaa
/- Package code: places that are led to; what an instruction needs and leaves; arrive. -/
namespace Go.Proofs.Ytfdonemehiamjaa
open Go.ChangeShapes Go.WideShapes Go.ChangeAt Go.RowKit
set_option linter.unusedSimpArgs false
set_option linter.unusedVariables false
set_option maxRecDepth 8000

def qCells : List (Int × Int) → List Value
  | [] => []
  | p :: q => .int .i64 p.1 :: .int .i64 p.2 :: qCells q
theorem qCells_len : ∀ q, (qCells q).length = q.length * 2
  | [] => rfl
  | p :: q => by simp [qCells, qCells_len q]; omega
theorem qCells_append : ∀ q r, qCells (q ++ r) = qCells q ++ qCells r
  | [], r => rfl
  | p :: q, r => by simp [qCells, qCells_append q r]
/-- The box bl holds the slice v of places that wait. -/
structure LedQ (w : World) (base bl : Nat) (v : Value) (q : List (Int × Int)) : Prop where
  box : w.heap[bl]? = some (.cells #[v] 56 (0, 0))
  own : ownsAt w base 28 2 v q.length (qCells q)
  lt : bl < base
/-- All but the box, and the row, are as they were. -/
structure LedF (w w' : World) (bl : Nat) (v v' : Value) : Prop where
  bel : Below bl w w'
  blk : ∀ b, b < w.heap.size → b ≠ bl → some b ≠ v.ownBlock → w'.heap[b]? = w.heap[b]?
  own : v'.ownBlock = v.ownBlock ∨ ∃ g, v'.ownBlock = some g ∧ w.heap.size ≤ g
theorem LedF.refl (w : World) (bl : Nat) (v : Value) : LedF w w bl v v := ⟨Below.refl _ _, fun _ _ _ _ => rfl, Or.inl rfl⟩
theorem LedF.trans {w w' w'' : World} {bl : Nat} {v v' v'' : Value} (h : LedF w w' bl v v') (k : LedF w' w'' bl v' v'') : LedF w w'' bl v v'' := by
  refine ⟨h.bel.trans k.bel, fun b hb h1 h2 => ?_, ?_⟩
  · rw [k.blk b (Nat.lt_of_lt_of_le hb h.bel.size) h1 ?_, h.blk b hb h1 h2]
    rcases h.own with e | ⟨g, e, hg⟩
    · rw [e]; exact h2
    · rw [e]; intro e'; cases e'; omega
  · rcases k.own with e | ⟨g, e, hg⟩
    · rw [e]; exact h.own
    · exact Or.inr ⟨g, e, Nat.le_trans h.bel.size hg⟩
theorem LedQ.later {w w' : World} {base bl : Nat} {v : Value} {q : List (Int × Int)} (h : LedQ w base bl v q) (hb : Below w.heap.size w w') : LedQ w' base bl v q :=
  ⟨by rw [hb.block _ (blk_lt h.box)]; exact h.box, h.own.keep fun g hg => hb.block _ (h.own.lt g hg).2, h.lt⟩
theorem LedF.of_below {w w' : World} (bl : Nat) (v : Value) (hb : Below w.heap.size w w') (hbl : bl ≤ w.heap.size) : LedF w w' bl v v := ⟨hb.mono hbl, fun b h _ _ => hb.block b h, Or.inl rfl⟩

theorem box_later' {w w' : World} {B : Nat} {o : Obj} (h : w.heap[B]? = some o) (hb : Below w.heap.size w w') : w'.heap[B]? = some o := by rw [hb.block _ (blk_lt h)]; exact h
abbrev IV (x : QI) : Value := .agg #[.int .i64 x.op, .int .i64 x.a, .int .i64 x.b, .int .i64 x.c, .string x.name]

/-- What an instruction needs, and leaves, of right numbers. -/
theorem wrap_of {n : Int} (h1 : -9223372036854775808 ≤ n) (h2 : n ≤ 9223372036854775807) : IntKind.i64.wrap n = n := by rw [IntKind.wrap_i64]; omega
/-- The height behind an instruction, and what is wrong. -/
def stepE (x : QI) (p n : Int) : Int × Int := if n < (nextE x p).need ∨ x.op = 17 ∧ n ≠ 1 then (0, 8) else if 12 < n + (nextE x p).more then (0, 4) else (n + (nextE x p).more, 0)
end Go.Proofs.Ytfdonemehiamjaa
/- Package code: arrive. -/
namespace Go.Proofs.Ytfdonemehiamjaa
open Go.ChangeShapes Go.WideShapes Go.ChangeAt Go.RowKit
set_option linter.unusedSimpArgs false
set_option linter.unusedVariables false
set_option maxRecDepth 8000

def hCells (h : List Int) : List Value := h.map fun x => .int .i64 x
abbrev hRow (h : List Int) : Obj := .cells (hCells h).toArray 3 (0, 0)
theorem hRow_cell {w : World} {g : Nat} {h : List Int} (hg : w.heap[g]? = some (hRow h)) {k : Nat} (hk : k < h.length) : w.cell? ⟨g, k, none⟩ = some (.int .i64 (h.getD k 0)) := by
  rw [cell_of_row _ _ _ _ _ _ hg]; simp [hCells, hk]
theorem hRow_free {w : World} {g : Nat} {h : List Int} (hg : w.heap[g]? = some (hRow h)) (k : Nat) : w.frozen? ⟨g, k, none⟩ = false := by unfold World.frozen?; simp [hg]
theorem hRow_set {w : World} {g : Nat} {h : List Int} (hg : w.heap[g]? = some (hRow h)) (k : Nat) (v : Int) : (w.setCell ⟨g, k, none⟩ (.int .i64 v)).heap[g]? = some (hRow (h.set k v)) := by
  rw [setCell_same hg]; simp [hCells, List.map_set]

/-- All but the box, the row of places, and the row of heights, are as they were. -/
structure ArrF (w w' : World) (lo bl gh : Nat) (v v' : Value) : Prop where
  bel : Below lo w w'
  blk : ∀ b, b < w.heap.size → b ≠ bl → b ≠ gh → some b ≠ v.ownBlock → w'.heap[b]? = w.heap[b]?
  own : v'.ownBlock = v.ownBlock ∨ ∃ g, v'.ownBlock = some g ∧ w.heap.size ≤ g
abbrev FV (f : Int × Int) : Value := .agg #[.int .i64 f.1, .int .i64 f.2]

end Go.Proofs.Ytfdonemehiamjaa
/- Package code: Heights. -/
namespace Go.Proofs.Ytfdonemehiamjaa
open Go.ChangeShapes Go.WideShapes Go.ChangeAt Go.RowKit
set_option linter.unusedSimpArgs false
set_option linter.unusedVariables false
set_option maxRecDepth 8000

theorem make_ints (n : Nat) (hb : n * 8 ≤ 140737488351232) (w : World) : (Instr.makeSlice 66 (.int .i64 (n : Int)) (.int .i64 (n : Int))).run Try.prog w = .ok (.slice (some ⟨w.heap.size, 0, none⟩) n n) (w.alloc (hRow (List.replicate n 0))) := by
  obtain ⟨i0, hi, hz0, hz1, hz2⟩ := info_parts info3
  have := run_make (P := Try.prog) w 66 3 i0 _ Try.underlying66 hi hz0 .i64 .i64 n n (by omega) (by omega) (by rw [hz2]; omega) (by omega)
  rw [this, hz1]
  simp [madeCells, Value.cells, hRow, hCells]
  congr 2
  apply Array.ext
  · simp
  · intro i h1 h2
    simp [Nat.mod_one]

theorem fill_set {n j : Nat} (h : j < n) : (List.replicate j (-1 : Int) ++ List.replicate (n - j) 0).set j (-1) = List.replicate (j + 1) (-1) ++ List.replicate (n - (j + 1)) 0 := by
  apply List.ext_getElem?
  intro i
  simp only [List.getElem?_set, List.getElem?_append, List.length_append, List.length_replicate, List.getElem?_replicate]
  by_cases h1 : i = j
  · subst h1
    simp
    omega
  · by_cases h2 : i < j
    · simp [h2, show i < j + 1 by omega, show ¬ j = i by omega]
    · simp only [show ¬ j = i by omega, if_false, h2, show ¬ (i < j + 1) by omega]
      by_cases h3 : i < n
      · rw [if_pos (by omega), if_pos (by omega)]
      · rw [if_neg (by omega), if_neg (by omega)]
theorem ownsAt.head {w : World} {base : Nat} {e : TypeId} {a : Option Addr} {cap : Nat} {p : Int × Int} {q : List (Int × Int)} (h : ownsAt w base e 2 (.slice a (q.length + 1) cap) (q.length + 1) (qCells (p :: q))) : ∃ g o, a = some ⟨g, o, none⟩ ∧ w.cell? ⟨g, o, none⟩ = some (.int .i64 p.1) ∧ w.cell? ⟨g, o + 1, none⟩ = some (.int .i64 p.2) ∧ q.length + 1 ≤ cap ∧ cap ≤ maxLen ∧
    (∀ o', (o' = o + 2 ∨ cap = 1 ∧ o' = o) → ownsAt w base e 2 (.slice (some ⟨g, o', none⟩) q.length (cap - 1)) q.length (qCells q)) := by
  obtain ⟨h1, ⟨e, -⟩ | ⟨g, o, cap', cur, e, h3, h4, h5, h6, h7, h8⟩⟩ := h
  · cases e
  · cases e
    have hl : 2 * (q.length + 1) ≤ cap * 2 := by omega
    have hcell : ∀ j, j < (q.length + 1) * 2 → w.cell? ⟨g, o + j, none⟩ = (qCells (p :: q))[j]? := fun j hj => by
      rw [← h8, cell_of_row _ _ _ _ _ _ h4, List.getElem?_take, if_pos hj, List.getElem?_drop]
      simp
    refine ⟨g, o, rfl, ?_, ?_, h5, h6, fun o' ho' => ⟨by rw [qCells_len], Or.inr ⟨g, o', cap - 1, cur, rfl, h3, h4, by omega, by unfold maxLen at *; omega, by omega, ?_⟩⟩⟩
    · have := hcell 0 (by omega); simpa [qCells] using this
    · have := hcell 1 (by omega); simpa [qCells] using this
    · rcases ho' with rfl | ⟨hc, rfl⟩
      · apply List.ext_getElem?
        intro i
        have e1 : (qCells q)[i]? = (qCells (p :: q))[i + 2]? := by simp [qCells]
        rw [e1, ← h8]
        simp only [List.getElem?_take, List.getElem?_drop]
        rw [show o + 2 + i = o + (i + 2) by omega]
        by_cases h9 : i < q.length * 2
        · rw [if_pos h9, if_pos (by omega)]
        · rw [if_neg h9, if_neg (by omega)]
      · have : q.length = 0 := by omega
        obtain rfl := List.eq_nil_of_length_eq_zero this
        simp [qCells]

theorem LedQ.cut {w : World} {base bl : Nat} {v v' : Value} {r q : List (Int × Int)} (h : LedQ w base bl v r) (z : Obj) (ho : ownsAt w base 28 2 v' q.length (qCells q)) : LedQ ((w.alloc z).setCell ⟨bl, 0, none⟩ v') base bl v' q := by
  refine ⟨one_setCell (box_later' h.box (bel1 _ _)), ?_, h.lt⟩
  exact (ho.alloc z).keep fun g hg => setCell_else (by have := (ho.lt g hg).1; have := h.lt; omega) _
theorem ArrF.below {w w' : World} {lo bl gh B : Nat} {v v' : Value} (h : ArrF w w' lo bl gh v v') (h1 : B ≤ bl) (h2 : B ≤ gh) (h3 : ∀ g, v.ownBlock = some g → B ≤ g) (h4 : B ≤ w.heap.size) : Below B w w' :=
  ⟨h.bel.os, h.bel.tape, h.bel.output, h.bel.size, fun b hb => h.blk b (by omega) (by omega) (by omega) fun e => by have := h3 b e.symm; omega⟩
/-- What comes of Heights. -/
def HeightsR (w : World) (code : List QI) (e : Ending) (w' : World) : Prop :=
  Below w.heap.size w w' ∧ (((heightsE code).2.1 = 0 ∧ ∃ g, e = .returned (.tuple #[.slice (some ⟨g, 0, none⟩) code.length code.length, FV (0, 0)]) ∧ w'.heap[g]? = some (hRow (heightsE code).1) ∧ w.heap.size ≤ g) ∨
    ((heightsE code).2.1 ≠ 0 ∧ e = .returned (.tuple #[.slice none 0 0, FV (heightsE code).2])))

end Go.Proofs.Ytfdonemehiamjaa
/- Package code: what is wrong with an instruction, with a method. -/
namespace Go.Proofs.Ytfdonemehiamjaa
open Go.ChangeShapes Go.WideShapes Go.ChangeAt Go.RowKit
set_option linter.unusedSimpArgs false
set_option linter.unusedVariables false
set_option maxRecDepth 8000

/-- Slots of whatever world: as int's sum comes round. -/
def slotsVW (s : Int) (_ : Nat) (x : QC) : Int × Bool := (IntKind.i64.wrap (s + x.slots), true)
def slotsW (xs : List QC) (c : Int) : Int := upE slotsVW xs (xs.length + 1) c 0
theorem slotsW_eq {xs : List QC} (ho : SlotsOk xs) (hb : xs.length * 56 ≤ 140737488351232) : ∀ (n : Nat) (c s : Int), 0 ≤ s → s + 6 * n ≤ 9000000000000000000 → upE slotsVW xs n c s = upE slotsV xs n c s
  | 0, c, s, h, _ => rfl
  | n + 1, c, s, h, h2 => by
    unfold upE
    cases hx : clsAt xs c with
    | none => rfl
    | some x =>
      obtain ⟨k, rfl, hk⟩ := clsAt_some hx
      obtain ⟨h3, h4⟩ := ho k x hk
      have e : IntKind.i64.wrap (s + x.slots) = s + x.slots := wrap_of (by omega) (by omega)
      simp only [slotsVW, slotsV, if_true, e]
      exact slotsW_eq ho hb n x.super (s + x.slots) (by omega) (by omega)
theorem slotsW_E {xs : List QC} (ho : SlotsOk xs) (hb : xs.length * 56 ≤ 140737488351232) (c : Int) : slotsW xs c = slotsE xs c := slotsW_eq ho hb _ c 0 (by omega) (by omega)

def SlRW {P : Nat → Prop} (w0 : World) (cv : Value) (xs : List QC) (j : Nat) (s : Int) (w' : World) : Prop :=
  Below w0.heap.size w0 w' ∧ IsClasses P w' cv xs ∧ w'.heap[w0.heap.size + 1]? = some (.cells #[.int .i64 s] 3 (0, 0)) ∧ w'.cell? ⟨w0.heap.size, 0, none⟩ = some cv
def inR (n low high : Int) : Bool := decide (low ≤ n ∧ n ≤ high)
def emptyB (s : ByteArray) : Bool := s.toList.isEmpty
def rnB (x : QI) : Bool := if x.op = 14 then nameB x.name else emptyB x.name
/-- Whether an instruction's number is right: S slots, n classes. -/
def raE (S n : Int) (m : QM) (x : QI) : Bool :=
  if x.op = 2 then inR x.a 0 (m.args - 1)
  else if x.op = 3 ∨ x.op = 11 then inR x.a 0 (m.temps - 1)
  else if x.op = 4 ∨ x.op = 12 then inR x.a 0 (IntKind.i64.wrap (S - 1))
  else if x.op = 15 ∨ x.op = 16 then inR x.a 0 ((m.code.length : Int) - 1)
  else if x.op = 14 then inR x.a 0 4
  else if x.op = 5 then inR x.a (-1073741824) 1073741824
  else if x.op = 13 then decide (x.a = 0) || inR x.a 4 (n - 1)
  else decide (x.a = 0)
def numE (S n : Int) (m : QM) (x : QI) : Int :=
  if inR x.op 1 17 = false then 1 else if raE S n m x = false then 3 else if rnB x = false ∨ x.b ≠ 0 ∨ x.c ≠ 0 then 2 else 0
/-- What is wrong with a method, whatever its instructions are. -/
def wmE (n c : Int) (m : QM) : Int :=
  if inR c 0 (n - 1) = false then 6 else if nameB m.name = false then 7 else if inR m.args 0 4 = false ∨ inR m.temps 0 6 = false then 3 else if m.prim ≠ 0 then 1 else if inR m.code.length 1 60 = false then 5 else 0

theorem four_later {a0 a1 a2 a3 : Addr} {v0 v1 v2 v3 : Value} {W w w' : World} (h : w.cell? a0 = some v0 ∧ w.cell? a1 = some v1 ∧ w.cell? a2 = some v2 ∧ w.cell? a3 = some v3 ∧ Below W.heap.size W w) (hb : Below w.heap.size w w') : w'.cell? a0 = some v0 ∧ w'.cell? a1 = some v1 ∧ w'.cell? a2 = some v2 ∧ w'.cell? a3 = some v3 ∧ Below W.heap.size W w' :=
  ⟨cell_later hb h.1, cell_later hb h.2.1, cell_later hb h.2.2.1, cell_later hb h.2.2.2.1, nstep h.2.2.2.2 hb⟩
end Go.Proofs.Ytfdonemehiamjaa
/- Package code: Check. -/
namespace Go.Proofs.Ytfdonemehiamjaa
open Go.ChangeShapes Go.WideShapes Go.ChangeAt Go.RowKit
set_option linter.unusedSimpArgs false
set_option linter.unusedVariables false
set_option maxRecDepth 8000

/-- The first instruction of which f tells something wrong. -/
def badE (f : QI → Int) : Nat → List QI → Option (Int × Int)
  | _, [] => none
  | k, x :: r => if f x ≠ 0 then some (f x, (k : Int)) else badE f (k + 1) r
theorem badE_at {f : QI → Int} : ∀ {l : List QI} {k j : Nat} {x : QI}, l[j]? = some x → f x ≠ 0 → (∀ (i : Nat) y, i < j → l[i]? = some y → f y = 0) → badE f k l = some (f x, ((k + j : Nat) : Int))
  | [], k, j, x, h, _, _ => by simp at h
  | z :: r, k, 0, x, h, hx, _ => by
    simp at h
    subst h
    simp [badE, hx]
  | z :: r, k, j + 1, x, h, hx, hp => by
    have h0 : f z = 0 := hp 0 z (by omega) rfl
    unfold badE
    rw [if_neg (by simp [h0]), badE_at (l := r) (k := k + 1) (j := j) (by simpa using h) hx fun i y hi hy => hp (i + 1) y (by omega) (by simpa using hy)]
    congr 3
    omega
theorem badE_none {f : QI → Int} : ∀ {l : List QI} {k : Nat}, (∀ (i : Nat) y, l[i]? = some y → f y = 0) → badE f k l = none
  | [], k, _ => rfl
  | z :: r, k, hp => by
    unfold badE
    rw [if_neg (by simp [hp 0 z rfl])]
    exact badE_none fun i y hy => hp (i + 1) y (by simpa using hy)
theorem badE_all {f : QI → Int} : ∀ {l : List QI} {k : Nat}, badE f k l = none → ∀ x ∈ l, f x = 0
  | [], k, _, x, hx => by simp at hx
  | z :: r, k, h, x, hx => by
    unfold badE at h
    by_cases h0 : f z = 0
    · rw [if_neg (by simp [h0])] at h
      rcases List.mem_cons.1 hx with rfl | hx
      · exact h0
      · exact badE_all h x hx
    · rw [if_pos h0] at h; cases h
/-- What Check tells: S slots, n classes. -/
def checkE (S n c : Int) (m : QM) : Int × Int :=
  if wmE n c m ≠ 0 then (wmE n c m, 0) else match badE (numE S n m) 0 m.code with
    | some f => f
    | none => (heightsE m.code).2
theorem numE_send {S n : Int} {m : QM} {x : QI} (h : numE S n m x = 0) : x.op = 14 → 0 ≤ x.a ∧ x.a ≤ 4 := fun h14 => by
  unfold numE at h
  split at h
  · cases h
  · split at h
    · cases h
    · rename_i hra
      simp [raE, h14, inR] at hra
      exact hra
theorem wmE_args {n c : Int} {m : QM} (h : wmE n c m = 0) : (0 ≤ m.args ∧ m.args ≤ 4) ∧ (0 ≤ m.temps ∧ m.temps ≤ 6) ∧ 1 ≤ m.code.length ∧ m.code.length ≤ 60 ∧ 0 ≤ c ∧ c ≤ n - 1 := by
  unfold wmE at h
  (repeat' split at h) <;> first | (exfalso; omega) | skip
  rename_i h1 h2 h3 h4 h5
  simp [inR] at h1 h3 h5
  omega

end Go.Proofs.Ytfdonemehiamjaa
/- Package code: Check, whole. -/
namespace Go.Proofs.Ytfdonemehiamjaa
open Go.ChangeShapes Go.WideShapes Go.ChangeAt Go.RowKit
set_option linter.unusedSimpArgs false
set_option linter.unusedVariables false
set_option maxRecDepth 8000

theorem box2 {w : World} {B : Nat} {x y : Value} {t : TypeId} (h : w.heap[B]? = some (.cells #[x, y] t (0, 0))) : (∀ q, w.cell? ⟨B, q, none⟩ = (#[x, y] : Array Value)[q]?) ∧ (∀ o, w.frozen? ⟨B, o, none⟩ = false) :=
  ⟨fun q => by rw [cell_of_row _ _ _ _ _ _ h], fun o => by unfold World.frozen?; simp [h]⟩

theorem set2_cells {w : World} {B : Nat} {x y : Value} {t : TypeId} (h : w.heap[B]? = some (.cells #[x, y] t (0, 0))) (u v : Value) (z : Obj) : (((w.setCell ⟨B, 0, none⟩ u).setCell ⟨B, 1, none⟩ v).alloc z).cell? ⟨B, 0, none⟩ = some u ∧ (((w.setCell ⟨B, 0, none⟩ u).setCell ⟨B, 1, none⟩ v).alloc z).cell? ⟨B, 1, none⟩ = some v := by
  have h2 : ((w.setCell ⟨B, 0, none⟩ u).setCell ⟨B, 1, none⟩ v).heap[B]? = some (.cells #[u, v] t (0, 0)) := by rw [setCell_same (setCell_same h _) _]; rfl
  have h3 := box_later' h2 (bel1 _ z)
  exact ⟨by rw [cell_of_row _ _ _ _ _ _ h3]; rfl, by rw [cell_of_row _ _ _ _ _ _ h3]; rfl⟩
theorem hRun_zero {code : List QI} : ∀ (g : Nat) (h : List Int) (q : List (Int × Int)), (hRun code g h q).2.1 = 0 → (hRun code g h q).2 = (0, 0)
  | 0, h, q, _ => rfl
  | g + 1, h, [], _ => rfl
  | g + 1, h, p :: q, he => by
    unfold hRun at he ⊢
    cases hst : hStep code h p with
    | inl f => rw [hst] at he; exact absurd he (hStep_err hst)
    | inr r =>
      obtain ⟨h', new⟩ := r
      rw [hst] at he
      exact hRun_zero g h' (q ++ new) he
end Go.Proofs.Ytfdonemehiamjaa
