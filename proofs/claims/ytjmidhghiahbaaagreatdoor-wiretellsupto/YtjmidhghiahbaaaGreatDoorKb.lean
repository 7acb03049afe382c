/- One height, whichever way one came; what does not come back is wrong. -/
import Derived.Test.YtjmidhghiahbaaaGreatDoorKa
namespace Go.Proofs.YtjmidhghiahbaaaGreatDoor
set_option linter.unusedSimpArgs false
set_option linter.unusedVariables false

theorem hStep_err {code : List QI} {h : List Int} {p f : Int × Int} (he : hStep code h p = .inl f) : f.1 ≠ 0 := by
  unfold hStep at he
  cases hx : instrAt code p.1 with
  | none => rw [hx] at he; simp at he; rw [← he]; simp
  | some x =>
    rw [hx] at he
    simp only at he
    (repeat' split at he) <;> simp at he <;> rw [← he] <;> simp

/-- What an instruction that was reached says: what it needs is there, and where it leads has that height, or waits. -/
def HAt (code : List QI) (h : List Int) (q : List (Int × Int)) (k : Nat) (x : QI) : Prop :=
  (nextE x k).need ≤ h.getD k 0 ∧ h.getD k 0 ≤ 12 ∧ (x.op = 17 → h.getD k 0 = 1) ∧
    ∀ t ∈ (nextE x k).next, (t, h.getD k 0 + (nextE x k).more) ∈ q ∨ ∃ j : Nat, t = (j : Int) ∧ j < code.length ∧ h.getD j 0 = h.getD k 0 + (nextE x k).more
def HClo (code : List QI) (h : List Int) (q : List (Int × Int)) : Prop :=
  ((0, 0) ∈ q ∨ 0 < code.length ∧ h.getD 0 0 = 0) ∧ ∀ (k : Nat) x, code[k]? = some x → 0 ≤ h.getD k 0 → HAt code h q k x
theorem HClo.start (code : List QI) : HClo code (hStart code.length) [(0, 0)] := by
  refine ⟨Or.inl (by simp), fun k x hx h0 => ?_⟩
  have hk := lt_of_get hx
  simp [hStart, hk] at h0
theorem getD_set_self {h : List Int} {k : Nat} {v : Int} (hk : k < h.length) : (h.set k v).getD k 0 = v := by simp [hk]
theorem getD_set_ne {h : List Int} {k j : Nat} {v : Int} (hk : k ≠ j) : (h.set k v).getD j 0 = h.getD j 0 := by simp [List.getElem?_set_ne hk]

theorem HClo.step {code : List QI} {h h' : List Int} {p : Int × Int} {q new : List (Int × Int)} (hi : HInv code h (p :: q)) (hc : HClo code h (p :: q)) (hs : SendsOk code) (he : hStep code h p = .inr (h', new)) : HClo code h' (q ++ new) := by
  have hw := hi.wait p (by simp)
  unfold hStep at he
  cases hx : instrAt code p.1 with
  | none => rw [hx] at he; cases he
  | some x =>
    rw [hx] at he
    simp only at he
    obtain ⟨k, hk, hxk⟩ := instrAt_some hx
    have hkl := lt_of_get hxk
    have hpk : p.1.toNat = k := by omega
    rw [hpk] at he
    split at he
    · rename_i hge
      split at he
      · cases he
      · rename_i heq
        simp only [Sum.inr.injEq, Prod.mk.injEq] at he
        obtain ⟨rfl, rfl⟩ := he
        have heq' : h.getD k 0 = p.2 := by simpa using heq
        have mem : ∀ t v, (t, v) ∈ p :: q → (t, v) ∈ q ++ [] ∨ ∃ j : Nat, t = (j : Int) ∧ j < code.length ∧ h.getD j 0 = v := fun t v hm => by
          rcases List.mem_cons.1 hm with e | e
          · exact Or.inr ⟨k, by rw [← hk, ← e], hkl, by rw [heq', ← e]⟩
          · exact Or.inl (by simpa using e)
        refine ⟨?_, fun j y hy h0 => ?_⟩
        · rcases hc.1 with e | e
          · rcases mem 0 0 e with e | ⟨j, e1, e2, e3⟩
            · exact Or.inl e
            · obtain rfl : j = 0 := by omega
              exact Or.inr ⟨e2, e3⟩
          · exact Or.inr e
        · obtain ⟨a1, a2, a3, a4⟩ := hc.2 j y hy h0
          refine ⟨a1, a2, a3, fun t ht => ?_⟩
          rcases a4 t ht with e | e
          · exact mem _ _ e
          · exact Or.inr e
    · rename_i hneg
      split at he
      · cases he
      · rename_i hfit
        split at he
        · cases he
        · rename_i hmuch
          simp only [Sum.inr.injEq, Prod.mk.injEq] at he
          obtain ⟨rfl, rfl⟩ := he
          have hl : k < h.length := by rw [hi.len]; exact hkl
          have hself : (h.set k p.2).getD k 0 = p.2 := getD_set_self hl
          have mem : ∀ t v, (t, v) ∈ p :: q → (t, v) ∈ q ++ (nextE x p.1).next.map (fun t => (t, p.2 + (nextE x p.1).more)) ∨ ∃ j : Nat, t = (j : Int) ∧ j < code.length ∧ (h.set k p.2).getD j 0 = v := fun t v hm => by
            rcases List.mem_cons.1 hm with e | e
            · exact Or.inr ⟨k, by rw [← hk, ← e], hkl, by rw [hself, ← e]⟩
            · exact Or.inl (List.mem_append_left _ e)
          refine ⟨?_, fun j y hy h0 => ?_⟩
          · rcases hc.1 with e | e
            · rcases mem 0 0 e with e | ⟨j, e1, e2, e3⟩
              · exact Or.inl e
              · obtain rfl : j = 0 := by omega
                exact Or.inr ⟨e2, e3⟩
            · refine Or.inr ⟨e.1, ?_⟩
              by_cases hk0 : k = 0
              · subst hk0; rw [e.2] at hneg; omega
              · rw [getD_set_ne hk0]; exact e.2
          · by_cases hjk : j = k
            · subst hjk
              rw [hxk] at hy
              cases hy
              unfold HAt
              rw [hself, ← hk]
              refine ⟨?_, hw.2, fun h17 => ?_, fun t ht => Or.inl (List.mem_append_right _ (List.mem_map.2 ⟨t, ht, rfl⟩))⟩
              · have : ¬ (p.2 < (nextE x p.1).need) := fun h => hfit (Or.inl h)
                omega
              · have : ¬ (p.2 ≠ 1) := fun h => hfit (Or.inr ⟨h17, h⟩)
                omega
            · have hjk' : k ≠ j := fun e => hjk e.symm
              rw [getD_set_ne hjk'] at h0
              obtain ⟨a1, a2, a3, a4⟩ := hc.2 j y hy h0
              unfold HAt
              rw [getD_set_ne hjk']
              refine ⟨a1, a2, a3, fun t ht => ?_⟩
              rcases a4 t ht with e | ⟨i, e1, e2, e3⟩
              · exact mem _ _ e
              · refine Or.inr ⟨i, e1, e2, ?_⟩
                have hr := nextE_range (x := y) (hs y (List.mem_of_getElem? hy)) j
                have hik : k ≠ i := fun e => by subst e; omega
                rw [getD_set_ne hik]; exact e3

theorem hRun_ok {code : List QI} (hs : SendsOk code) : ∀ (g : Nat) (h : List Int) (q : List (Int × Int)), HInv code h q → HClo code h q → hLeft h q ≤ g → (hRun code g h q).2.1 = 0 → HInv code (hRun code g h q).1 [] ∧ HClo code (hRun code g h q).1 []
  | 0, h, q, hi, hc, hg, he => by
    have : q = [] := List.eq_nil_of_length_eq_zero (by unfold hLeft at hg; omega)
    subst this
    exact ⟨hi, hc⟩
  | g + 1, h, [], hi, hc, hg, he => ⟨hi, hc⟩
  | g + 1, h, p :: q, hi, hc, hg, he => by
    unfold hRun at he ⊢
    cases hst : hStep code h p with
    | inl f => rw [hst] at he; exact absurd he (hStep_err hst)
    | inr r =>
      obtain ⟨h', new⟩ := r
      rw [hst] at he
      have h1 := hi.step hs hst
      exact hRun_ok hs g h' (q ++ new) h1.1 (hc.step hi hs hst) (by omega) he
/-- One height, whichever way one came. -/
theorem heights_ok {code : List QI} (hs : SendsOk code) (he : (heightsE code).2.1 = 0) : (heightsE code).1.length = code.length ∧ 0 < code.length ∧ (heightsE code).1.getD 0 0 = 0 ∧ ∀ (k : Nat) x, code[k]? = some x → 0 ≤ (heightsE code).1.getD k 0 →
    (nextE x k).need ≤ (heightsE code).1.getD k 0 ∧ (heightsE code).1.getD k 0 ≤ 12 ∧ (x.op = 17 → (heightsE code).1.getD k 0 = 1) ∧ ∀ t ∈ (nextE x k).next, ∃ j : Nat, t = (j : Int) ∧ j < code.length ∧ (heightsE code).1.getD j 0 = (heightsE code).1.getD k 0 + (nextE x k).more := by
  obtain ⟨h1, h2, h3⟩ := hRun_ok hs _ _ _ (HInv.start code) (HClo.start code) (Nat.le_of_eq (hLeft_start code)) he
  have h0 : 0 < code.length ∧ (heightsE code).1.getD 0 0 = 0 := by rcases h2 with h | h; · simp at h
                                                                   · exact h
  refine ⟨h1.len, h0.1, h0.2, fun k x hx hk => ?_⟩
  obtain ⟨a1, a2, a3, a4⟩ := h3 k x hx hk
  refine ⟨a1, a2, a3, fun t ht => ?_⟩
  rcases a4 t ht with e | e
  · simp at e
  · exact e

/-- Places in a set that is closed stay in it. -/
theorem hRun_in {code : List QI} {S : Nat → Prop} (hS : ∀ (k : Nat) x, S k → code[k]? = some x → ∀ t ∈ (nextE x k).next, ∃ j : Nat, t = (j : Int) ∧ S j) : ∀ (g : Nat) (h : List Int) (q : List (Int × Int)), h.length = code.length → (∀ p ∈ q, ∃ j : Nat, p.1 = (j : Int) ∧ S j) → (∀ k, k < code.length → 0 ≤ h.getD k 0 → S k) → (hRun code g h q).2.1 = 0 → ∀ k, k < code.length → 0 ≤ (hRun code g h q).1.getD k 0 → S k
  | 0, h, q, hl, hq, hh, he => hh
  | g + 1, h, [], hl, hq, hh, he => hh
  | g + 1, h, p :: q, hl, hq, hh, he => by
    unfold hRun at he ⊢
    cases hst : hStep code h p with
    | inl f => rw [hst] at he; exact absurd he (hStep_err hst)
    | inr r =>
      obtain ⟨h', new⟩ := r
      rw [hst] at he
      obtain ⟨j, hj, hSj⟩ := hq p (by simp)
      have hq' : ∀ r ∈ q, ∃ j : Nat, r.1 = (j : Int) ∧ S j := fun r hr => hq r (by simp [hr])
      unfold hStep at hst
      cases hx : instrAt code p.1 with
      | none => rw [hx] at hst; cases hst
      | some x =>
        rw [hx] at hst
        simp only at hst
        obtain ⟨k, hk, hxk⟩ := instrAt_some hx
        obtain rfl : j = k := by omega
        have hpk : p.1.toNat = j := by omega
        rw [hpk] at hst
        split at hst
        · split at hst
          · cases hst
          · simp only [Sum.inr.injEq, Prod.mk.injEq] at hst
            obtain ⟨rfl, rfl⟩ := hst
            exact hRun_in hS g h _ hl (by simpa using hq') hh he
        · split at hst
          · cases hst
          · split at hst
            · cases hst
            · simp only [Sum.inr.injEq, Prod.mk.injEq] at hst
              obtain ⟨rfl, rfl⟩ := hst
              refine hRun_in hS g _ _ (by rw [List.length_set]; exact hl) (fun r hr => ?_) (fun i hi h0 => ?_) he
              · rcases List.mem_append.1 hr with h1 | h1
                · exact hq' r h1
                · obtain ⟨t, ht, rfl⟩ := List.mem_map.1 h1
                  rw [hk] at ht
                  exact hS j x hSj hxk t ht
              · by_cases hij : j = i
                · subst hij; exact hSj
                · rw [getD_set_ne hij] at h0
                  exact hh i hi h0
/-- What does not come back is wrong. -/
theorem heights_cut {code : List QI} (hs : SendsOk code) (he : (heightsE code).2.1 = 0) {n : Nat} (hn : n + 1 = code.length) (hc : (heightsE (code.take n)).2.1 = 0) : (heightsE code).1.getD n 0 < 0 := by
  have hs' : SendsOk (code.take n) := fun x hx => hs x (List.mem_of_mem_take hx)
  obtain ⟨h1, h2, h3, h4⟩ := heights_ok hs' hc
  have hlt : (code.take n).length = n := by rw [List.length_take]; omega
  rw [hlt] at h2 h4
  have key := hRun_in (code := code) (S := fun k => k < n ∧ 0 ≤ (heightsE (code.take n)).1.getD k 0) (fun k x hk hx t ht => by
    have hx' : (code.take n)[k]? = some x := by rw [List.getElem?_take, if_pos hk.1]; exact hx
    obtain ⟨a1, -, -, a4⟩ := h4 k x hx' hk.2
    obtain ⟨j, e1, e2, e3⟩ := a4 t ht
    have hr := nextE_range (x := x) (hs x (List.mem_of_getElem? hx)) k
    exact ⟨j, e1, e2, by omega⟩) (2 * code.length + 1) (hStart code.length) [(0, 0)] (by simp [hStart]) (fun p hp => by simp at hp; subst hp; exact ⟨0, rfl, h2, by omega⟩) (fun k hk h0 => by simp [hStart, hk] at h0) he
  by_cases h : 0 ≤ (heightsE code).1.getD n 0
  · have := (key n (by omega) h).1; omega
  · omega
end Go.Proofs.YtjmidhghiahbaaaGreatDoor
