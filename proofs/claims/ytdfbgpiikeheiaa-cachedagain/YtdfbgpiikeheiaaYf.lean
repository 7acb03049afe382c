/- A plain call, as a plain function: what fails changes nothing; more is no less; a right world stays right. -/
import Derived.Test.YtdfbgpiikeheiaaYe
namespace Go.Proofs.Ytdfbgpiikeheiaa
open Go.ChangeShapes Go.WideShapes Go.ChangeAt Go.RowKit
set_option linter.unusedSimpArgs false
set_option linter.unusedVariables false
set_option maxRecDepth 8000

section
variable {σ : Type}
def EntLe (F : Int) (ent : Ent σ) : Prop := ∀ m c n s a, m.sends ≤ F → (ent m c n s a).1.sends ≤ F ∧ 0 ≤ (ent m c n s a).1.sends - m.sends
theorem count_le (E : Env σ) (d : Nat) {m : Mc σ} (h : m.sends ≤ E.fuel) : (countE E d m).1.sends ≤ E.fuel ∧ 0 ≤ (countE E d m).1.sends - m.sends := by
  unfold countE
  split
  · simp only []; omega
  · split
    · simp only []; omega
    · simp only []; omega
theorem step_le {E : Env σ} {ent : Ent σ} (he : EntLe E.fuel ent) (d : Nat) {m : Mc σ} (h : m.sends ≤ E.fuel) (f : Fr) (a : Int) (x : QI) : (mstepE ent E d m f a x).1.sends ≤ E.fuel ∧ 0 ≤ (mstepE ent E d m f a x).1.sends - m.sends := by
  have self : m.sends ≤ E.fuel ∧ 0 ≤ m.sends - m.sends := ⟨h, by omega⟩
  have jmp : ∀ f a b, (jumpE m f a b).1.sends ≤ E.fuel ∧ 0 ≤ (jumpE m f a b).1.sends - m.sends := fun f a b => by rw [jump_sends]; exact self
  unfold mstepE
  split
  · exact self
  · split
    · exact self
    · split
      · exact self
      · split
        · exact self
        · split
          · exact self
          · split
            · rw [make_sends]; exact self
            · split
              · unfold sendE
                simp only []
                split
                · exact he { m with st := _ } _ _ _ _ h
                · exact he { m with st := _ } _ _ _ _ h
              · split
                · exact jmp _ _ _
                · split
                  · rw [else_sends]; exact self
                  · unfold fastE
                    split
                    · exact self
                    · split
                      · exact self
                      · split
                        · exact self
                        · split
                          · exact self
                          · split
                            · exact count_le E d h
                            · exact self
theorem fin_le {E : Env σ} {ent : Ent σ} (he : EntLe E.fuel ent) (d : Nat) : ∀ (g : Nat) {m : Mc σ} (f : Fr), m.sends ≤ E.fuel → (finE ent E d g m f).1.sends ≤ E.fuel ∧ 0 ≤ (finE ent E d g m f).1.sends - m.sends
  | 0, m, f, h => ⟨h, by show 0 ≤ m.sends - m.sends; omega⟩
  | g + 1, m, f, h => by
    have self : m.sends ≤ E.fuel ∧ 0 ≤ m.sends - m.sends := ⟨h, by omega⟩
    unfold finE
    generalize (if f.pc < 0 then none else f.code[f.pc.toNat]?) = q
    cases q with
    | none => exact self
    | some x =>
      simp only []
      split
      · exact self
      · have h1 := step_le he d h { f with pc := f.pc + 1 } f.pc x
        split
        · exact h1
        · have h2 := fin_le he d g (mstepE ent E d m { f with pc := f.pc + 1 } f.pc x).2.1 h1.1
          exact ⟨h2.1, by omega⟩
theorem enter_le {E : Env σ} (d : Nat) {body : Mc σ → Fr → Mc σ × QV × Int} (hb : ∀ {m} f, m.sends ≤ E.fuel → (body m f).1.sends ≤ E.fuel ∧ 0 ≤ (body m f).1.sends - m.sends) : EntLe E.fuel (enterE E d body) := by
  intro m c n s a h
  have self : m.sends ≤ E.fuel ∧ 0 ≤ m.sends - m.sends := ⟨h, by omega⟩
  unfold enterE
  cases methAt E.classes c n with
  | none => exact self
  | some mt =>
    simp only []
    split
    · exact self
    · split
      · split
        · exact self
        · simp only []; omega
      · split
        · exact self
        · have h1 := count_le E d h
          have h2 := hb (frameE E c n mt s a) h1.1
          exact ⟨h2.1, by omega⟩
theorem ent_le (E : Env σ) : ∀ d : Nat, EntLe E.fuel (entE E d)
  | 0 => enter_le 0 fun f h => ⟨h, by simp only []; omega⟩
  | d + 1 => enter_le (d + 1) fun f h => fin_le (ent_le E d) d _ f h
/-- What comes to something is a send, at the least. -/
theorem ent_one (E : Env σ) (d : Nat) {m : Mc σ} (h : m.sends ≤ E.fuel) {c n : Int} {s : QV} {a : List QV} (h0 : (entE E d m c n s a).2.2 = 0) : m.sends + 1 ≤ (entE E d m c n s a).1.sends := by
  have key : ∀ (d : Nat) {body : Mc σ → Fr → Mc σ × QV × Int}, (∀ {m} f, m.sends ≤ E.fuel → (body m f).1.sends ≤ E.fuel ∧ 0 ≤ (body m f).1.sends - m.sends) → (enterE E d body m c n s a).2.2 = 0 → m.sends + 1 ≤ (enterE E d body m c n s a).1.sends := by
    intro d body hb h0
    unfold enterE at h0 ⊢
    cases hm : methAt E.classes c n with
    | none => rw [hm] at h0; cases h0
    | some mt =>
      rw [hm] at h0
      simp only [] at h0 ⊢
      split
      · rename_i k; rw [if_pos k] at h0; cases h0
      · rename_i k
        rw [if_neg k] at h0
        split
        · rename_i k2
          rw [if_pos k2] at h0
          split
          · rename_i k3; rw [if_pos k3] at h0; cases h0
          · simp only []; omega
        · rename_i k2
          rw [if_neg k2] at h0
          split
          · rename_i k3; rw [if_pos k3] at h0; exact absurd h0 k3
          · rename_i k3
            have h1 := count_le E d h
            have h2 := hb (frameE E c n mt s a) h1.1
            have h3 : (countE E d m).1.sends = m.sends + 1 := by
              have k4 : (countE E d m).2 = 0 := Decidable.of_not_not k3
              unfold countE at k4 ⊢
              split
              · rename_i k5; rw [if_pos k5] at k4; cases k4
              · rename_i k5
                rw [if_neg k5] at k4
                split
                · rename_i k6; rw [if_pos k6] at k4; cases k4
                · rfl
            omega
  cases d with
  | zero => exact key 0 (fun f h => ⟨h, by simp only []; omega⟩) h0
  | succ d => exact key (d + 1) (fun f h => fin_le (ent_le E d) d _ f h) h0
end

/-- What is wrong with a call. -/
def wrongCallE (X : QW) (s : QV) (name : ByteArray) (args : List QV) (fuel : Int) : Int :=
  if nameB name = false then 7 else if 4 < args.length then 5 else if fuel < 0 ∨ 400 < fuel then 3 else if wrongV X.heap.length s ≠ 0 then wrongV X.heap.length s else firstE (fun _ v => wrongV X.heap.length v) 0 args
def plainEnv (X : QW) (fuel : Int) : Env Unit := ⟨X.classes, fuel, fun _ _ c name => ((), findE X.classes c name), noQuick⟩
def runE (X : QW) (s : QV) (name : ByteArray) (args : List QV) (fuel : Int) : Mc Unit × QV × Int :=
  entE (plainEnv X fuel) 20 ⟨X.heap, 0, 0, ()⟩ (findE X.classes (classV X.heap s) name).1 (findE X.classes (classV X.heap s) name).2 s args
/-- A plain call: the objects then; what came of it, the error, how many sends. -/
structure Ran where
  heap : List QO
  v : QV
  err : Int
  sends : Int
def plainE (X : QW) (s : QV) (name : ByteArray) (args : List QV) (fuel : Int) : Ran :=
  if wrongCallE X s name args fuel ≠ 0 then ⟨X.heap, nilV, wrongCallE X s name args fuel, 0⟩
  else if (runE X s name args fuel).2.2 ≠ 0 then ⟨X.heap, nilV, (runE X s name args fuel).2.2, (runE X s name args fuel).1.sends⟩
  else ⟨(runE X s name args fuel).1.heap, (runE X s name args fuel).2.1, 0, (runE X s name args fuel).1.sends⟩
theorem wrongCall_is {X : QW} {s : QV} {name : ByteArray} {args : List QV} {fuel : Int} (h : wrongCallE X s name args fuel = 0) : (0 ≤ fuel ∧ fuel ≤ 400) ∧ wrongV X.heap.length s = 0 ∧ VsOk X.heap.length args := by
  unfold wrongCallE at h
  split at h
  · cases h
  · split at h
    · cases h
    · split at h
      · cases h
      · split at h
        · rename_i k; exact absurd h k
        · rename_i k1 k2 k3 k4
          refine ⟨by omega, Decidable.of_not_not k4, fun v hv => ?_⟩
          obtain ⟨i, hi, rfl⟩ := List.mem_iff_getElem.1 hv
          exact firstE_all h i _ (List.getElem?_eq_getElem hi)
theorem wrongCall_other {X : QW} {s : QV} {name : ByteArray} {args : List QV} {fuel F : Int} (h : wrongCallE X s name args fuel = 0) (h0 : 0 ≤ F) (h1 : F ≤ 400) : wrongCallE X s name args F = 0 := by
  have hw := wrongCall_is h
  unfold wrongCallE at h ⊢
  rw [if_neg (show ¬ (fuel < 0 ∨ 400 < fuel) by omega)] at h
  rw [if_neg (show ¬ (F < 0 ∨ 400 < F) by omega)]
  exact h
/-- WHAT FAILS CHANGES NOTHING. -/
theorem plain_fails {X : QW} {s : QV} {name : ByteArray} {args : List QV} {fuel : Int} (h : (plainE X s name args fuel).err ≠ 0) : (plainE X s name args fuel).heap = X.heap ∧ (plainE X s name args fuel).v = nilV ∧ 0 ≤ (plainE X s name args fuel).sends ∧ (plainE X s name args fuel).sends ≤ 400 := by
  unfold plainE at h ⊢
  split
  · exact ⟨rfl, rfl, by simp, by simp⟩
  · rename_i hw
    have hw' := wrongCall_is (Decidable.of_not_not hw)
    rw [if_neg hw] at h
    have hl := ent_le (plainEnv X fuel) 20 ⟨X.heap, 0, 0, ()⟩ (findE X.classes (classV X.heap s) name).1 (findE X.classes (classV X.heap s) name).2 s args hw'.1.1
    have hfu : (plainEnv X fuel).fuel = fuel := rfl
    split
    · refine ⟨rfl, rfl, ?_, ?_⟩
      · simp only [runE]; simp only [] at hl; omega
      · simp only [runE]; omega
    · rename_i k; rw [if_neg k] at h; exact absurd rfl h
/-- MORE IS NO LESS. -/
theorem plain_fuel {X : QW} {s : QV} {name : ByteArray} {args : List QV} {fuel F : Int} (h : (plainE X s name args fuel).err = 0) (h0 : 0 ≤ F) (h1 : F ≤ 400) :
    1 ≤ (plainE X s name args fuel).sends ∧ (plainE X s name args fuel).sends ≤ fuel ∧ ((plainE X s name args fuel).sends ≤ F → plainE X s name args F = plainE X s name args fuel) ∧ (F < (plainE X s name args fuel).sends → (plainE X s name args F).err = 13) := by
  by_cases hw : wrongCallE X s name args fuel ≠ 0
  · unfold plainE at h; rw [if_pos hw] at h; exact absurd h hw
  · have hw0 : wrongCallE X s name args fuel = 0 := Decidable.of_not_not hw
    have hw' := wrongCall_is hw0
    have hwF : ¬ wrongCallE X s name args F ≠ 0 := not_not_intro (wrongCall_other hw0 h0 h1)
    by_cases hr : (runE X s name args fuel).2.2 ≠ 0
    · unfold plainE at h; rw [if_neg hw, if_pos hr] at h; exact absurd h hr
    · have hr0 : (runE X s name args fuel).2.2 = 0 := Decidable.of_not_not hr
      have hp : plainE X s name args fuel = ⟨(runE X s name args fuel).1.heap, (runE X s name args fuel).2.1, 0, (runE X s name args fuel).1.sends⟩ := by unfold plainE; rw [if_neg hw, if_neg hr]
      have hs := ent_sim F (plainEnv X fuel) 20 ⟨X.heap, 0, 0, ()⟩ (findE X.classes (classV X.heap s) name).1 (findE X.classes (classV X.heap s) name).2 s args
      have hs' : Sim F ⟨X.heap, 0, 0, ()⟩ (runE X s name args fuel) (runE X s name args F) := hs
      have hone : (0 : Int) + 1 ≤ (runE X s name args fuel).1.sends := ent_one (plainEnv X fuel) 20 (m := ⟨X.heap, 0, 0, ()⟩) hw'.1.1 hr0
      have hle : (runE X s name args fuel).1.sends ≤ fuel := (ent_le (plainEnv X fuel) 20 ⟨X.heap, 0, 0, ()⟩ _ _ s args hw'.1.1).1
      rw [hp]
      refine ⟨by simp only []; omega, hle, fun hF => ?_, fun hF => ?_⟩
      · have e := hs'.enough hr0 hF
        unfold plainE
        rw [if_neg hwF, e, if_neg hr]
      · have e := hs'.less hr0 hF h0
        unfold plainE
        rw [if_neg hwF, if_pos (by rw [e]; decide)]
        exact e
/-- A RIGHT WORLD STAYS RIGHT. -/
theorem plain_right {X : QW} (h : rightE X = 0) (s : QV) (name : ByteArray) (args : List QV) (fuel : Int) : rightE ⟨X.classes, (plainE X s name args fuel).heap, X.epoch⟩ = 0 ∧ X.heap.length ≤ (plainE X s name args fuel).heap.length ∧ wrongV (plainE X s name args fuel).heap.length (plainE X s name args fuel).v = 0 := by
  unfold plainE
  split
  · exact ⟨h, Nat.le_refl _, wrongV_nil _⟩
  · rename_i hw
    have hw' := wrongCall_is (Decidable.of_not_not hw)
    split
    · exact ⟨h, Nat.le_refl _, wrongV_nil _⟩
    · exact run_right h (plain_ok h fuel _) rfl 20 rfl _ _ hw'.2.1 hw'.2.2
end Go.Proofs.Ytdfbgpiikeheiaa
