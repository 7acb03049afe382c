/- How many steps there can be; the first frame of a method of a right world: as plain functions. -/
import Derived.Test.YtdfbgpiikeheiaaYc
namespace Go.Proofs.Ytdfbgpiikeheiaa
open Go.ChangeShapes Go.WideShapes Go.ChangeAt Go.RowKit
set_option linter.unusedSimpArgs false
set_option linter.unusedVariables false
set_option maxRecDepth 8000

section
variable {σ : Type}
/-- How many steps there can be, at the most. -/
def muE (m : Mc σ) (f : Fr) : Nat := (if f.fast then 302 * (f.meth.code.length + 1) else 0) + (301 - m.turns).toNat * (f.code.length + 1) + (f.code.length - f.pc.toNat)
theorem mu_on {m m' : Mc σ} {f f' : Fr} (ht : m.turns ≤ m'.turns) (e1 : f'.fast = f.fast) (e2 : f'.meth = f.meth) (e3 : f'.code = f.code) (h0 : 0 ≤ f.pc) (hl : f.pc.toNat < f.code.length) (hp : f.pc < f'.pc) : muE m' f' < muE m f := by
  unfold muE
  rw [e1, e2, e3]
  have h1 : (301 - m'.turns).toNat * (f.code.length + 1) ≤ (301 - m.turns).toNat * (f.code.length + 1) := Nat.mul_le_mul_right _ (by omega)
  omega
theorem mu_back {m m' : Mc σ} {f f' : Fr} (ht : m'.turns = m.turns + 1) (h300 : m'.turns ≤ 300) (e1 : f'.fast = f.fast) (e2 : f'.meth = f.meth) (e3 : f'.code = f.code) : muE m' f' < muE m f := by
  unfold muE
  rw [e1, e2, e3]
  have h1 : (301 - m.turns).toNat = (301 - m'.turns).toNat + 1 := by omega
  rw [h1, Nat.add_mul, Nat.one_mul]
  omega
theorem mu_leave {m : Mc σ} {f : Fr} (h0 : 0 ≤ m.turns) (hf : f.fast = true) (c : Int) : muE m (f.leave c) < muE m f := by
  unfold muE
  have e1 : (f.leave c).fast = false := rfl
  have e2 : (f.leave c).code = f.meth.code := rfl
  rw [e1, e2, hf]
  simp only [Bool.false_eq_true, if_false, if_true]
  have h1 : (301 - m.turns).toNat * (f.meth.code.length + 1) ≤ 301 * (f.meth.code.length + 1) := Nat.mul_le_mul_right _ (by omega)
  omega
theorem mu_gas {m : Mc σ} {f : Fr} (h0 : 0 ≤ m.turns) : muE m f ≤ gasE f := by
  unfold muE gasE
  have h1 : (301 - m.turns).toNat * (f.code.length + 1) ≤ 301 * (f.code.length + 1) := Nat.mul_le_mul_right _ (by omega)
  split <;> omega
def EntTurns (ent : Ent σ) : Prop := ∀ m c n s a, m.turns ≤ (ent m c n s a).1.turns
theorem jump_mu {m : Mc σ} {f : Fr} (h0 : 0 ≤ f.pc) (hl : f.pc.toNat < f.code.length) {f1 : Fr} (e1 : f1.fast = f.fast) (e2 : f1.meth = f.meth) (e3 : f1.code = f.code) {b : Int} (he : (jumpE m f1 f.pc b).2.2 = 0) : muE (jumpE m f1 f.pc b).1 (jumpE m f1 f.pc b).2.1 < muE m f := by
  unfold jumpE at he ⊢
  by_cases hb : b ≤ f.pc
  · simp only [hb, if_true] at he ⊢
    by_cases h : 300 < m.turns + 1
    · rw [if_pos h] at he; cases he
    · rw [if_neg h]
      exact mu_back rfl (by simp only []; omega) e1 e2 e3
  · simp only [hb, if_false] at he ⊢
    by_cases h : 300 < m.turns
    · rw [if_pos h] at he; cases he
    · rw [if_neg h]
      exact mu_on (Int.le_refl _) e1 e2 e3 h0 hl (by simp only []; omega)
theorem mu_step {ent : Ent σ} (ht : EntTurns ent) {E : Env σ} {d : Nat} {m : Mc σ} {f : Fr} (hm : 0 ≤ m.turns) (h0 : 0 ≤ f.pc) (hl : f.pc.toNat < f.code.length) {x : QI} (he : (mstepE ent E d m { f with pc := f.pc + 1 } f.pc x).2.2 = 0) : muE (mstepE ent E d m { f with pc := f.pc + 1 } f.pc x).1 (mstepE ent E d m { f with pc := f.pc + 1 } f.pc x).2.1 < muE m f := by
  have on : ∀ {m' : Mc σ} {f' : Fr}, m.turns ≤ m'.turns → f'.fast = f.fast → f'.meth = f.meth → f'.code = f.code → f'.pc = f.pc + 1 → muE m' f' < muE m f := fun a b c d e => mu_on a b c d h0 hl (by omega)
  unfold mstepE at he ⊢
  split
  · exact on (Int.le_refl _) rfl rfl rfl rfl
  · rename_i e
    rw [e] at he
    simp only [] at he
    split
    · exact on (Int.le_refl _) rfl rfl rfl rfl
    · split
      · exact on (Int.le_refl _) rfl rfl rfl rfl
      · split
        · exact on (Int.le_refl _) rfl rfl rfl rfl
        · split
          · exact on (Int.le_refl _) rfl rfl rfl rfl
          · split
            · rename_i h9 h10 h11 h12 h13
              rw [if_neg h9, if_neg h10, if_neg h11, if_neg h12, if_pos h13] at he
              unfold makeE at he ⊢
              split
              · rename_i hc; rw [if_pos hc] at he; cases he
              · exact on (Int.le_refl _) rfl rfl rfl rfl
            · split
              · rename_i h9 h10 h11 h12 h13 h14
                rw [if_neg h9, if_neg h10, if_neg h11, if_neg h12, if_neg h13, if_pos h14] at he
                unfold sendE at he ⊢
                simp only [] at he ⊢
                split
                · rename_i hc; rw [if_pos hc] at he; exact absurd he hc
                · exact on (ht _ _ _ _ _) rfl rfl rfl rfl
              · split
                · rename_i h9 h10 h11 h12 h13 h14 h15
                  rw [if_neg h9, if_neg h10, if_neg h11, if_neg h12, if_neg h13, if_neg h14, if_pos h15] at he
                  exact jump_mu (f1 := { f with pc := f.pc + 1 }) h0 hl rfl rfl rfl he
                · split
                  · rename_i h9 h10 h11 h12 h13 h14 h15 h16
                    rw [if_neg h9, if_neg h10, if_neg h11, if_neg h12, if_neg h13, if_neg h14, if_neg h15, if_pos h16] at he
                    unfold elseE at he ⊢
                    split
                    · exact on (Int.le_refl _) rfl rfl rfl rfl
                    · rename_i k2
                      rw [if_neg k2] at he
                      split
                      · rename_i k1
                        rw [if_pos k1] at he
                        exact jump_mu (f1 := Fr.pop { f with pc := f.pc + 1 }) h0 hl rfl rfl rfl he
                      · rename_i k1
                        rw [if_neg k1] at he
                        cases he
                  · rename_i h9 h10 h11 h12 h13 h14 h15 h16
                    rw [if_neg h9, if_neg h10, if_neg h11, if_neg h12, if_neg h13, if_neg h14, if_neg h15, if_neg h16] at he
                    unfold fastE at he ⊢
                    split
                    · rename_i k; rw [if_pos k] at he; cases he
                    · rename_i hfast
                      have hfast' : f.fast = true := by simpa using hfast
                      split
                      · simp only []
                        split
                        · exact on (Int.le_refl _) rfl rfl rfl rfl
                        · have := mu_leave (m := m) (f := { f with pc := f.pc + 1 }) hm hfast' x.c
                          have h2 : muE m { f with pc := f.pc + 1 } < muE m f := on (Int.le_refl _) rfl rfl rfl rfl
                          omega
                      · split
                        · exact on (Int.le_refl _) rfl rfl rfl rfl
                        · split
                          · exact on (Int.le_refl _) rfl rfl rfl rfl
                          · split
                            · refine on ?_ rfl rfl rfl rfl
                              simp only [countE]
                              split
                              · exact Int.le_refl _
                              · split
                                · exact Int.le_refl _
                                · exact Int.le_refl _
                            · exact on (Int.le_refl _) rfl rfl rfl rfl
theorem jump_turns (m : Mc σ) (f : Fr) (a b : Int) : m.turns ≤ (jumpE m f a b).1.turns := by
  unfold jumpE
  by_cases h : b ≤ a
  · simp only [h, if_true]
    split <;> (simp only []; omega)
  · simp only [h, if_false]
    split <;> exact Int.le_refl _
theorem count_turns (E : Env σ) (d : Nat) (m : Mc σ) : (countE E d m).1.turns = m.turns := by
  unfold countE
  split
  · rfl
  · split <;> rfl
theorem step_turns {ent : Ent σ} (ht : EntTurns ent) (E : Env σ) (d : Nat) (m : Mc σ) (f : Fr) (a : Int) (x : QI) : m.turns ≤ (mstepE ent E d m f a x).1.turns := by
  unfold mstepE
  split
  · exact Int.le_refl _
  · split
    · exact Int.le_refl _
    · split
      · exact Int.le_refl _
      · split
        · exact Int.le_refl _
        · split
          · exact Int.le_refl _
          · split
            · unfold makeE
              split <;> exact Int.le_refl _
            · split
              · unfold sendE
                simp only []
                split
                · exact ht { m with st := _ } _ _ _ _
                · exact ht { m with st := _ } _ _ _ _
              · split
                · exact jump_turns _ _ _ _
                · split
                  · unfold elseE
                    split
                    · exact Int.le_refl _
                    · split
                      · exact jump_turns _ _ _ _
                      · exact Int.le_refl _
                  · unfold fastE
                    split
                    · exact Int.le_refl _
                    · split
                      · exact Int.le_refl _
                      · split
                        · exact Int.le_refl _
                        · split
                          · exact Int.le_refl _
                          · split
                            · exact Int.le_of_eq (count_turns E d m).symm
                            · exact Int.le_refl _
theorem fin_turns {ent : Ent σ} (ht : EntTurns ent) (E : Env σ) (d : Nat) : ∀ (g : Nat) (m : Mc σ) (f : Fr), m.turns ≤ (finE ent E d g m f).1.turns
  | 0, m, f => Int.le_refl _
  | g + 1, m, f => by
    unfold finE
    generalize (if f.pc < 0 then none else f.code[f.pc.toNat]?) = q
    cases q with
    | none => exact Int.le_refl _
    | some x =>
      simp only []
      split
      · exact Int.le_refl _
      · have h1 := step_turns ht E d m { f with pc := f.pc + 1 } f.pc x
        split
        · exact h1
        · exact Int.le_trans h1 (fin_turns ht E d g _ _)
theorem enter_turns (E : Env σ) (d : Nat) {body : Mc σ → Fr → Mc σ × QV × Int} (hb : ∀ m f, m.turns ≤ (body m f).1.turns) : EntTurns (enterE E d body) := by
  intro m c n s a
  unfold enterE
  cases methAt E.classes c n with
  | none => exact Int.le_refl _
  | some mt =>
    simp only []
    split
    · exact Int.le_refl _
    · split
      · split <;> exact Int.le_refl _
      · split
        · exact Int.le_refl _
        · have h1 := count_turns E d m
          have h2 := hb (countE E d m).1 (frameE E c n mt s a)
          omega
theorem ent_turns (E : Env σ) : ∀ d : Nat, EntTurns (entE E d)
  | 0 => enter_turns E 0 fun m f => Int.le_refl _
  | d + 1 => enter_turns E (d + 1) fun m f => fin_turns (ent_turns E d) E d _ m f

/-- A method of a right world: a primitive of Int, or one with which nothing is wrong. -/
theorem right_meth {X : QW} (h : rightE X = 0) {c n : Int} {m : QM} (hm : methAt X.classes c n = some m) : (m.prim ≠ 0 ∧ m.args = 1) ∨ (m.prim = 0 ∧ ∃ S N : Int, wmE X.classes.length c m = 0 ∧ (∀ x ∈ m.code, numE S N m x = 0) ∧ (heightsE m.code).2.1 = 0) := by
  obtain ⟨hs, -, hk, -⟩ := right_is h
  unfold methAt at hm
  cases hx : clsAt X.classes c with
  | none => rw [hx] at hm; cases hm
  | some x =>
    rw [hx] at hm
    simp only [Option.bind_some] at hm
    obtain ⟨k, rfl, hx'⟩ := clsAt_some hx
    split at hm
    · have hr := hk k x (lt_of_get hx') hx'
      unfold rkE at hr
      split at hr
      · cases hr
      · split at hr
        · cases hr
        · have hq := firstE_all hr _ _ hm
          unfold rmE at hq
          split at hq
          · cases hq
          · split at hq
            · rename_i hp
              left
              unfold primB at hp
              rw [List.any_eq_true] at hp
              obtain ⟨p, hpm, hp⟩ := hp
              simp only [Bool.and_eq_true, decide_eq_true_eq] at hp
              refine ⟨?_, hp.1.1.2⟩
              rw [← hp.1.1.1.2]
              have : ∀ q ∈ newM, q.prim ≠ 0 := by
                intro q hq
                simp [newM] at hq
                rcases hq with rfl | rfl | rfl | rfl | rfl <;> decide
              exact this p hpm
            · right
              unfold checkE at hq
              split at hq
              · rename_i a; exact absurd hq a
              · rename_i a
                have hw : wmE X.classes.length k m = 0 := Decidable.of_not_not a
                split at hq
                · rename_i f e; exact absurd hq (badE_not e)
                · rename_i e
                  refine ⟨?_, _, _, hw, badE_all e, hq⟩
                  unfold wmE at hw
                  split at hw
                  · cases hw
                  · split at hw
                    · cases hw
                    · split at hw
                      · cases hw
                      · split at hw
                        · cases hw
                        · rename_i hp; exact Decidable.of_not_not hp
    · cases hm
/-- Where nothing tells fast code, the first frame of a method is of plain code with which nothing is wrong. -/
theorem right_pl {X : QW} (h : rightE X = 0) {c n : Int} {m : QM} (hm : methAt X.classes c n = some m) (hp : m.prim = 0) {a : List QV} (ha : m.args = a.length) (s : QV) {E : Env σ} (hq : E.quick c n = none) : PlOk (frameE E c n m s a) := by
  rcases right_meth h hm with ⟨hp', -⟩ | ⟨-, S, N, hw, hn, hh⟩
  · exact absurd hp hp'
  · obtain ⟨hw1, hw2, hw3, -, -, -⟩ := wmE_args hw
    have hso : SendsOk m.code := fun y hy => numE_send (hn y hy)
    obtain ⟨-, h1, h2, -⟩ := heights_ok hso hh
    have hfr : frameE E c n m s a = ⟨c, m, s, a, roomsE m.temps, [], m.code, 0, false⟩ := by unfold frameE; rw [hq]
    rw [hfr]
    refine ⟨rfl, rfl, ⟨S, N, hn⟩, hh, ha.symm, ?_, 0, rfl, h1, ?_⟩
    · simp only [roomsE, List.length_replicate]; omega
    · rw [h2]; rfl
end
end Go.Proofs.Ytdfbgpiikeheiaa
