/- In code with which nothing is wrong all that an instruction needs is there, whichever way one came: as plain functions. -/
import Derived.Test.YtdfbgpiikeheiaaYb
namespace Go.Proofs.Ytdfbgpiikeheiaa
open Go.ChangeShapes Go.WideShapes Go.ChangeAt Go.RowKit
set_option linter.unusedSimpArgs false
set_option linter.unusedVariables false
set_option maxRecDepth 8000

/-- A frame of plain code with which nothing is wrong. -/
structure PlOk (f : Fr) : Prop where
  fast : f.fast = false
  code : f.code = f.meth.code
  nums : ∃ S n, ∀ x ∈ f.code, numE S n f.meth x = 0
  hts : (heightsE f.code).2.1 = 0
  args : (f.args.length : Int) = f.meth.args
  temps : (f.temps.length : Int) = f.meth.temps
  pc : ∃ k : Nat, f.pc = k ∧ k < f.code.length ∧ (f.stack.length : Int) = (heightsE f.code).1.getD k 0
theorem num_facts {S n : Int} {m : QM} {x : QI} (h : numE S n m x = 0) : 1 ≤ x.op ∧ x.op ≤ 17 ∧ (x.op = 2 → 0 ≤ x.a ∧ x.a < m.args) ∧ (x.op = 3 ∨ x.op = 11 → 0 ≤ x.a ∧ x.a < m.temps) ∧ (x.op = 14 → 0 ≤ x.a ∧ x.a ≤ 4) ∧ x.b = 0 ∧ x.c = 0 := by
  have h14 := numE_send h
  unfold numE at h
  split at h
  · cases h
  · rename_i h1
    split at h
    · cases h
    · rename_i hra
      split at h
      · cases h
      · rename_i hr
        simp [inR] at h1
        refine ⟨by omega, by omega, fun h2 => ?_, fun h3 => ?_, h14, by omega, by omega⟩
        · simp [raE, h2, inR] at hra; omega
        · rcases h3 with h3 | h3 <;> (simp [raE, h3, inR] at hra; omega)
/-- What is known of the instruction that is next. -/
structure NxOk (f : Fr) (k : Nat) (x : QI) : Prop where
  pc : f.pc = k
  lt : k < f.code.length
  here : f.code[k]? = some x
  need : (nextE x k).need ≤ f.stack.length
  back : x.op = 17 → f.stack.length = 1
  few : f.stack.length ≤ 12
  next : ∀ t ∈ (nextE x k).next, ∃ j : Nat, t = (j : Int) ∧ j < f.code.length ∧ (heightsE f.code).1.getD j 0 = f.stack.length + (nextE x k).more
  kind : 1 ≤ x.op ∧ x.op ≤ 17
  arg : x.op = 2 → 0 ≤ x.a ∧ x.a < f.args.length
  temp : x.op = 3 ∨ x.op = 11 → 0 ≤ x.a ∧ x.a < f.temps.length
  send : x.op = 14 → 0 ≤ x.a ∧ x.a ≤ 4
  zero : x.b = 0 ∧ x.c = 0
theorem PlOk.nx {f : Fr} (h : PlOk f) : ∃ k x, NxOk f k x := by
  obtain ⟨S, n, hn⟩ := h.nums
  obtain ⟨k, hk, hlt, hs⟩ := h.pc
  have hx : f.code[k]? = some f.code[k] := List.getElem?_eq_getElem hlt
  have hso : SendsOk f.code := fun y hy => numE_send (hn y hy)
  obtain ⟨-, -, -, hat⟩ := heights_ok hso h.hts
  obtain ⟨h1, h2, h3, h4⟩ := hat k _ hx (by omega)
  obtain ⟨n1, n2, n3, n4, n5, n6, n7⟩ := num_facts (hn f.code[k] (List.getElem_mem hlt))
  rw [← h.args] at n3
  rw [← h.temps] at n4
  refine ⟨k, f.code[k], hk, hlt, hx, by omega, fun h17 => by have := h3 h17; omega, by omega, fun t ht => ?_, ⟨n1, n2⟩, n3, n4, n5, ⟨n6, n7⟩⟩
  obtain ⟨j, j1, j2, j3⟩ := h4 t ht
  exact ⟨j, j1, j2, by omega⟩
theorem PlOk.go {f f' : Fr} (h : PlOk f) {k : Nat} {x : QI} (hx : NxOk f k x) (e1 : f'.meth = f.meth) (e2 : f'.args = f.args) (e3 : f'.code = f.code) (e4 : f'.fast = f.fast) (e5 : f'.temps.length = f.temps.length) (e6 : (f'.stack.length : Int) = f.stack.length + (nextE x k).more) (e7 : f'.pc ∈ (nextE x k).next) : PlOk f' := by
  obtain ⟨j, j1, j2, j3⟩ := hx.next _ e7
  refine ⟨e4.trans h.fast, by rw [e3, e1]; exact h.code, by rw [e3, e1]; exact h.nums, by rw [e3]; exact h.hts, by rw [e2, e1]; exact h.args, by rw [e5, e1]; exact h.temps, j, j1, by rw [e3]; exact j2, by rw [e3, j3]; exact e6⟩
theorem plus_jump {σ : Type} {m : Mc σ} {f : Fr} {a b : Int} (h0 : (jumpE m f a b).2.2 = 0) : (jumpE m f a b).2.1 = { f with pc := b } := by
  unfold jumpE at h0 ⊢
  simp only [] at h0 ⊢
  generalize (if b ≤ a then { m with turns := m.turns + 1 } else m : Mc σ) = m' at h0 ⊢
  by_cases h : 300 < m'.turns
  · rw [if_pos h] at h0; cases h0
  · rw [if_neg h]
theorem pushed_ops {h : List QO} {f : Fr} {x : QI} {v : QV} (e : pushedE h f x = some v) : 1 ≤ x.op ∧ x.op ≤ 8 := by
  unfold pushedE at e
  split at e
  · omega
  · split at e
    · omega
    · split at e
      · omega
      · split at e
        · omega
        · split at e
          · omega
          · split at e
            · omega
            · split at e
              · omega
              · split at e
                · omega
                · cases e
/-- An instruction of right plain code leads to another one of it. -/
theorem pl_step {σ : Type} {ent : Ent σ} {E : Env σ} {d : Nat} {m : Mc σ} {f : Fr} (h : PlOk f) {k : Nat} {x : QI} (hx : NxOk f k x) (h17 : x.op ≠ 17) (h0 : (mstepE ent E d m { f with pc := f.pc + 1 } f.pc x).2.2 = 0) : PlOk (mstepE ent E d m { f with pc := f.pc + 1 } f.pc x).2.1 := by
  have hpc := hx.pc
  have hneed := hx.need
  have hkind := hx.kind
  unfold mstepE at h0 ⊢
  split
  · rename_i v e
    have ho := pushed_ops e
    have hn : nextE x k = ⟨0, 1, [(k : Int) + 1]⟩ := by
      unfold nextE
      rw [if_neg (by omega), if_neg (by omega), if_neg (by omega), if_neg (by omega), if_neg (by omega), if_neg (by omega)]
    exact h.go hx rfl rfl rfl rfl rfl (by rw [hn]; simp [Fr.push]) (by rw [hn, ← hpc]; simp [Fr.push])
  · rename_i e
    rw [e] at h0
    simp only [] at h0
    split
    · rename_i h9
      have hn : nextE x k = ⟨1, -1, [(k : Int) + 1]⟩ := by unfold nextE; rw [if_pos (by omega)]
      rw [hn] at hneed; simp only [] at hneed
      exact h.go hx rfl rfl rfl rfl rfl (by rw [hn]; simp [Fr.pop]; omega) (by rw [hn, ← hpc]; simp [Fr.pop])
    · split
      · rename_i h9 h10
        have hn : nextE x k = ⟨1, 1, [(k : Int) + 1]⟩ := by unfold nextE; rw [if_neg (by omega), if_pos h10]
        exact h.go hx rfl rfl rfl rfl rfl (by rw [hn]; simp [Fr.push]) (by rw [hn, ← hpc]; simp [Fr.push])
      · split
        · rename_i h9 h10 h11
          have hn : nextE x k = ⟨1, -1, [(k : Int) + 1]⟩ := by unfold nextE; rw [if_pos (by omega)]
          rw [hn] at hneed; simp only [] at hneed
          exact h.go hx rfl rfl rfl rfl (by simp [setEntry_len]) (by rw [hn]; simp [Fr.pop]; omega) (by rw [hn, ← hpc]; simp [Fr.pop])
        · split
          · rename_i h9 h10 h11 h12
            have hn : nextE x k = ⟨1, -1, [(k : Int) + 1]⟩ := by unfold nextE; rw [if_pos (by omega)]
            rw [hn] at hneed; simp only [] at hneed
            exact h.go hx rfl rfl rfl rfl rfl (by rw [hn]; simp [Fr.pop]; omega) (by rw [hn, ← hpc]; simp [Fr.pop])
          · split
            · rename_i h9 h10 h11 h12 h13
              rw [if_neg h9, if_neg h10, if_neg h11, if_neg h12, if_pos h13] at h0
              have hn : nextE x k = ⟨0, 1, [(k : Int) + 1]⟩ := by
                unfold nextE
                rw [if_neg (by omega), if_neg (by omega), if_neg (by omega), if_neg (by omega), if_neg (by omega), if_neg (by omega)]
              unfold makeE at h0 ⊢
              split
              · rename_i hc; rw [if_pos hc] at h0; cases h0
              · exact h.go hx rfl rfl rfl rfl rfl (by rw [hn]; simp [Fr.push]) (by rw [hn, ← hpc]; simp [Fr.push])
            · split
              · rename_i h9 h10 h11 h12 h13 h14
                rw [if_neg h9, if_neg h10, if_neg h11, if_neg h12, if_neg h13, if_pos h14] at h0
                have hn : nextE x k = ⟨x.a + 1, -x.a, [(k : Int) + 1]⟩ := by unfold nextE; rw [if_neg (by omega), if_neg (by omega), if_pos h14]
                rw [hn] at hneed; simp only [] at hneed
                have ha := hx.send h14
                unfold sendE at h0 ⊢
                simp only [] at h0 ⊢
                split
                · rename_i hc; rw [if_pos hc] at h0; exact absurd h0 hc
                · exact h.go hx rfl rfl rfl rfl rfl (by rw [hn]; simp only [List.length_append, List.length_dropLast, List.length_take, List.length_cons, List.length_nil, fromE]; omega) (by rw [hn, ← hpc]; simp)
              · split
                · rename_i h9 h10 h11 h12 h13 h14 h15
                  rw [if_neg h9, if_neg h10, if_neg h11, if_neg h12, if_neg h13, if_neg h14, if_pos h15] at h0
                  have hn : nextE x k = ⟨0, 0, [x.a]⟩ := by unfold nextE; rw [if_neg (by omega), if_neg (by omega), if_neg (by omega), if_pos h15]
                  rw [plus_jump h0]
                  exact h.go hx rfl rfl rfl rfl rfl (by rw [hn]; simp) (by rw [hn]; simp)
                · split
                  · rename_i h9 h10 h11 h12 h13 h14 h15 h16
                    rw [if_neg h9, if_neg h10, if_neg h11, if_neg h12, if_neg h13, if_neg h14, if_neg h15, if_pos h16] at h0
                    have hn : nextE x k = ⟨1, -1, [(k : Int) + 1, x.a]⟩ := by unfold nextE; rw [if_neg (by omega), if_neg (by omega), if_neg (by omega), if_neg (by omega), if_pos h16]
                    rw [hn] at hneed; simp only [] at hneed
                    unfold elseE at h0 ⊢
                    split
                    · exact h.go hx rfl rfl rfl rfl rfl (by rw [hn]; simp [Fr.pop]; omega) (by rw [hn, ← hpc]; simp [Fr.pop])
                    · rename_i k2
                      rw [if_neg k2] at h0
                      split
                      · rename_i k1
                        rw [if_pos k1] at h0
                        rw [plus_jump h0]
                        exact h.go hx rfl rfl rfl rfl rfl (by rw [hn]; simp [Fr.pop]; omega) (by rw [hn]; simp [Fr.pop])
                      · rename_i k1
                        rw [if_neg k1] at h0
                        cases h0
                  · exfalso
                    rename_i h9 h10 h11 h12 h13 h14 h15 h16
                    rw [if_neg h9, if_neg h10, if_neg h11, if_neg h12, if_neg h13, if_neg h14, if_neg h15, if_neg h16] at h0
                    unfold fastE at h0
                    rw [if_pos h.fast] at h0
                    cases h0
end Go.Proofs.Ytdfbgpiikeheiaa
