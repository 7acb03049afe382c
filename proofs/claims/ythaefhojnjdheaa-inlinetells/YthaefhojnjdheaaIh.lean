/- Inline: what is known of a right world's methods; code that is built stays small. -/
import Derived.Test.YthaefhojnjdheaaIa
import Derived.Test.YthaefhojnjdheaaYd
namespace Go.Proofs.Ythaefhojnjdheaa
open Go.ChangeShapes Go.WideShapes Go.ChangeAt Go.RowKit
set_option linter.unusedSimpArgs false
set_option linter.unusedVariables false

/-- A method of a right world is small. -/
structure Sml (m : QM) : Prop where
  args : 0 ≤ m.args ∧ m.args ≤ 4
  temps : 0 ≤ m.temps ∧ m.temps ≤ 6
  len : m.code.length ≤ 60
  code : ∀ x ∈ m.code, (x.op = 2 ∨ x.op = 3 ∨ x.op = 11 ∨ x.op = 15 ∨ x.op = 16) → 0 ≤ x.a ∧ x.a ≤ 1000
  jump : ∀ x ∈ m.code, (x.op = 15 ∨ x.op = 16) → 0 ≤ x.a ∧ x.a < m.code.length
  plain : ∀ x ∈ m.code, 1 ≤ x.op ∧ x.op ≤ 17 ∧ x.b = 0 ∧ x.c = 0 ∧ (x.op ≠ 14 → emptyB x.name = true)
theorem meth_prim {X : QW} (h : rightE X = 0) {c n : Int} {m : QM} (hm : methAt X.classes c n = some m) (hp0 : m.prim ≠ 0) : m.args = 1 ∧ m.temps = 0 ∧ m.code = [] := by
  rcases right_meth h hm with ⟨-, -⟩ | ⟨h0, -⟩
  · obtain ⟨hs, -, hk, -⟩ := right_is h
    unfold methAt at hm
    cases hx : clsAt X.classes c with
    | none => rw [hx] at hm; cases hm
    | some x =>
      rw [hx] at hm
      simp only [Option.bind_some] at hm
      obtain ⟨k, rfl, hx'⟩ := clsAt_some hx
      split at hm
      · have hr := hk k x (lt_of_get hx') hx'
        unfold rkE at hr
        split at hr
        · cases hr
        · split at hr
          · cases hr
          · have hq := firstE_all hr _ _ hm
            unfold rmE at hq
            split at hq
            · cases hq
            · split at hq
              · rename_i hp
                unfold primB at hp
                rw [List.any_eq_true] at hp
                obtain ⟨p, hpm, hp⟩ := hp
                simp only [Bool.and_eq_true, decide_eq_true_eq] at hp
                exact ⟨hp.1.1.2, hp.1.2, List.eq_nil_of_length_eq_zero hp.2⟩
              · exfalso
                unfold checkE at hq
                split at hq
                · rename_i a; exact absurd hq a
                · rename_i a
                  have hw : wmE X.classes.length k m = 0 := Decidable.of_not_not a
                  unfold wmE at hw
                  split at hw
                  · cases hw
                  · split at hw
                    · cases hw
                    · split at hw
                      · cases hw
                      · cases hw
      · cases hm
  · exact absurd h0 hp0
theorem meth_small {X : QW} (h : rightE X = 0) {c n : Int} {m : QM} (hm : methAt X.classes c n = some m) : Sml m := by
  by_cases hp0 : m.prim = 0
  · rcases right_meth h hm with ⟨h0, -⟩ | ⟨-, S, N, hw, hn, -⟩
    · exact absurd hp0 h0
    · unfold wmE at hw
      split at hw
      · cases hw
      · split at hw
        · cases hw
        · split at hw
          · cases hw
          · rename_i hat
            split at hw
            · cases hw
            · split at hw
              · cases hw
              · rename_i hlen
                simp [inR] at hat hlen
                have hl : m.code.length ≤ 60 := by omega
                refine ⟨by omega, by omega, hl, fun x hx ho => ?_, fun x hx ho => ?_, fun x hx => ?_⟩
                · have hx' := hn x hx
                  obtain ⟨n1, n2, n3, n4, n5, n6, n7⟩ := num_facts hx'
                  rcases ho with ho | ho | ho | ho | ho
                  · have := n3 ho; omega
                  · have := n4 (Or.inl ho); omega
                  · have := n4 (Or.inr ho); omega
                  · unfold numE at hx'
                    split at hx'
                    · cases hx'
                    · split at hx'
                      · cases hx'
                      · rename_i hra; simp [raE, ho, inR] at hra; omega
                  · unfold numE at hx'
                    split at hx'
                    · cases hx'
                    · split at hx'
                      · cases hx'
                      · rename_i hra; simp [raE, ho, inR] at hra; omega
                · have hx' := hn x hx
                  unfold numE at hx'
                  split at hx'
                  · cases hx'
                  · split at hx'
                    · cases hx'
                    · rename_i hra
                      rcases ho with ho | ho <;> (simp [raE, ho, inR] at hra; omega)
                · have hx' := hn x hx
                  obtain ⟨n1, n2, n3, n4, n5, n6, n7⟩ := num_facts hx'
                  refine ⟨n1, n2, n6, n7, fun h14 => ?_⟩
                  unfold numE at hx'
                  split at hx'
                  · cases hx'
                  · split at hx'
                    · cases hx'
                    · split at hx'
                      · cases hx'
                      · rename_i hr
                        have hrn : rnB x = true := by
                          cases hb : rnB x with
                          | true => rfl
                          | false => exact absurd (Or.inl hb) hr
                        unfold rnB at hrn
                        rw [if_neg h14] at hrn
                        exact hrn
  · obtain ⟨h1, h2, h3⟩ := meth_prim h hm hp0
    refine ⟨by omega, by omega, by rw [h3]; simp, fun x hx => (by rw [h3] at hx; cases hx), fun x hx => (by rw [h3] at hx; cases hx), fun x hx => (by rw [h3] at hx; cases hx)⟩
theorem methOf_at {xs : List QC} {k : Int} {name : ByteArray} {m : QM} (h : methOf xs k name = some m) : methAt xs (findE xs k name).1 (findE xs k name).2 = some m := by
  unfold methOf at h
  split at h
  · cases h
  · rename_i h2
    unfold methAt clsAt
    rcases find_cases xs k name with ⟨-, h3⟩ | ⟨q, x, t, y, he, hx, hm⟩
    · exact absurd h3 h2
    · rw [he] at h ⊢
      simp [hx, hm] at h ⊢
      exact h
theorem stands_small {X : QW} (h : rightE X = 0) {sites : List Int} {at' : Nat} {x : QI} {m : QM} (hs : standsIn X.classes sites at' x = some m) : Sml m ∧ m.args = x.a ∧ leafE m = true ∧ x.op = 14 := by
  unfold standsIn at hs
  split at hs
  · rename_i ho
    split at hs
    · cases hs
    · rename_i m' hm
      split at hs
      · rename_i hc
        cases hs
        exact ⟨meth_small h (methOf_at hm), hc.1, hc.2, ho.1⟩
      · cases hs
  · cases hs
/-- Code that is built stays small. -/
theorem build_small {X : QW} (h : rightE X = 0) {sites : List Int} {m : QM} (hm : Sml m) : ∀ {k : Nat}, k ≤ m.code.length → (buildB X.classes sites m k).code.length + (m.code.length - k) ≤ 240 ∧ 0 ≤ (buildB X.classes sites m k).temps ∧ (buildB X.classes sites m k).temps ≤ 40 ∧ (buildB X.classes sites m k).pieces ≤ k
  | 0, _ => by have := hm.len; have := hm.temps; exact ⟨by simp [buildB]; omega, by simp [buildB]; omega, by simp [buildB]; omega, Nat.le_refl _⟩
  | k + 1, hk => by
    obtain ⟨i1, i2, i3, i4⟩ := build_small h hm (sites := sites) (k := k) (by omega)
    rw [buildB_succ (List.getElem?_eq_getElem (by omega))]
    generalize buildB X.classes sites m k = s at *
    generalize m.code[k] = x
    unfold stepB whoE
    cases hst : standsIn X.classes sites k x with
    | none => simp only [List.length_append, List.length_cons, List.length_nil]; omega
    | some leaf =>
      obtain ⟨hsm, -⟩ := stands_small h hst
      by_cases hr : roomE s.code.length s.temps leaf ((m.code.length : Int) - k) = true
      · simp only [hr, if_true, List.length_append, pieceE_len]
        unfold roomE at hr
        have hr' := of_decide_eq_true hr
        have := hsm.args
        have := hsm.temps
        omega
      · simp only [hr, if_false, List.length_append, List.length_cons, List.length_nil]
        simp
        omega
end Go.Proofs.Ythaefhojnjdheaa
