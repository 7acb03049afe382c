/- A right world can be written. -/
import Derived.Test.YtjmidhghiahbaaaGreatDoorWa
import Derived.Laws.Strings
namespace Go.Proofs.YtjmidhghiahbaaaGreatDoor
open Go.ChangeShapes Go.WideShapes Go.ChangeAt Go.RowKit
set_option linter.unusedSimpArgs false
set_option linter.unusedVariables false
set_option maxRecDepth 8000

theorem badE_ne {f : QI → Int} : ∀ {l : List QI} {k : Nat} {r : Int × Int}, badE f k l = some r → r.1 ≠ 0
  | [], k, r, h => by cases h
  | z :: l, k, r, h => by
    unfold badE at h
    split at h
    · rename_i h0; cases h; exact h0
    · exact badE_ne h
theorem check_ok {S n c : Int} {m : QM} (h : (checkE S n c m).1 = 0) : wmE n c m = 0 ∧ (∀ x ∈ m.code, numE S n m x = 0) ∧ (heightsE m.code).2.1 = 0 := by
  unfold checkE at h
  split at h
  · rename_i h0; exact absurd h h0
  · rename_i h0
    cases hb : badE (numE S n m) 0 m.code with
    | some r => rw [hb] at h; exact absurd h (badE_ne hb)
    | none => rw [hb] at h; exact ⟨by simpa using h0, badE_all hb, h⟩
theorem wm_c {n : Nat} {c : Int} {m : QM} (h : c < 0 ∨ (n : Int) ≤ c) : wmE n c m = 6 := by unfold wmE; rw [if_pos (by simp [inR]; omega)]
theorem wm_name {n : Nat} {c : Int} {m : QM} (h : ¬ (c < 0 ∨ (n : Int) ≤ c)) (h2 : nameB m.name = false) : wmE n c m = 7 := by unfold wmE; rw [if_neg (by simp [inR]; omega), if_pos h2]
theorem wm_range {n : Nat} {c : Int} {m : QM} (h : ¬ (c < 0 ∨ (n : Int) ≤ c)) (h2 : nameB m.name = true) (h3 : m.args < 0 ∨ 4 < m.args ∨ m.temps < 0 ∨ 6 < m.temps) : wmE n c m = 3 := by unfold wmE; rw [if_neg (by simp [inR]; omega), if_neg (by simp [h2]), if_pos (by simp [inR]; omega)]
theorem wm_prim {n : Nat} {c : Int} {m : QM} (h : ¬ (c < 0 ∨ (n : Int) ≤ c)) (h2 : nameB m.name = true) (h3 : ¬ (m.args < 0 ∨ 4 < m.args ∨ m.temps < 0 ∨ 6 < m.temps)) (h4 : m.prim ≠ 0) : wmE n c m = 1 := by unfold wmE; rw [if_neg (by simp [inR]; omega), if_neg (by simp [h2]), if_neg (by simp [inR]; omega), if_pos h4]
theorem wm_code {n : Nat} {c : Int} {m : QM} (h : ¬ (c < 0 ∨ (n : Int) ≤ c)) (h2 : nameB m.name = true) (h3 : ¬ (m.args < 0 ∨ 4 < m.args ∨ m.temps < 0 ∨ 6 < m.temps)) (h4 : m.prim = 0) (h5 : m.code.length = 0 ∨ 60 < m.code.length) : wmE n c m = 5 := by unfold wmE; rw [if_neg (by simp [inR]; omega), if_neg (by simp [h2]), if_neg (by simp [inR]; omega), if_neg (by simp [h4]), if_pos (by simp [inR]; omega)]
theorem wm_ok {n : Nat} {c : Int} {m : QM} (h : wmE n c m = 0) : ¬ (c < 0 ∨ (n : Int) ≤ c) ∧ nameB m.name = true ∧ ¬ (m.args < 0 ∨ 4 < m.args ∨ m.temps < 0 ∨ 6 < m.temps) ∧ m.prim = 0 ∧ ¬ (m.code.length = 0 ∨ 60 < m.code.length) := by
  by_cases h1 : c < 0 ∨ (n : Int) ≤ c
  · rw [wm_c h1] at h; cases h
  cases h2 : nameB m.name
  · rw [wm_name h1 h2] at h; cases h
  by_cases h3 : m.args < 0 ∨ 4 < m.args ∨ m.temps < 0 ∨ 6 < m.temps
  · rw [wm_range h1 h2 h3] at h; cases h
  by_cases h4 : m.prim = 0
  · by_cases h5 : m.code.length = 0 ∨ 60 < m.code.length
    · rw [wm_code h1 h2 h3 h4 h5] at h; cases h
    · exact ⟨h1, rfl, h3, h4, h5⟩
  · rw [wm_prim h1 h2 h3 h4] at h; cases h


theorem name_word {s : ByteArray} (h : nameB s = true) : WordOk s := by
  unfold nameB at h
  simp only [Bool.and_eq_true, decide_eq_true_eq] at h
  obtain ⟨⟨h1, -⟩, h2⟩ := h
  unfold okB at h2
  simp only [decide_eq_true_eq] at h2
  have hsz : s.data.toList.length = s.size := rfl
  constructor
  · intro hn
    rw [hn] at hsz
    simp at hsz
    omega
  · intro hm
    obtain ⟨j, hj, he⟩ := List.mem_iff_getElem.1 hm
    have := h2 ⟨j, by omega⟩
    have e : s[j]'(by omega) = 32 := by rw [← he]; rfl
    simp only [e] at this
    simp at this
theorem word_eq {a b : ByteArray} (h : eqN a b = true) (ha : WordOk a) : WordOk b := by
  have e : a.toList = b.toList := by simpa [eqN] using h
  rw [ByteArray.toList_eq, ByteArray.toList_eq] at e
  unfold WordOk
  rw [← e]
  exact ha
theorem empty_is {s : ByteArray} (h : emptyB s = true) : s = ⟨#[]⟩ := by
  unfold emptyB at h
  rw [ByteArray.toList_eq] at h
  obtain ⟨⟨l⟩⟩ := s
  simp at h
  subst h
  rfl
theorem num_ok {S n : Int} {m : QM} {x : QI} (hS : I64 (IntKind.i64.wrap (S - 1))) (hn : n ≤ 1000) (ha : m.args ≤ 4) (ht : m.temps ≤ 6) (hc : m.code.length ≤ 60) (h : numE S n m x = 0) : InstrOk x := by
  unfold numE at h
  split at h
  · cases h
  rename_i h1
  split at h
  · cases h
  rename_i h2
  split at h
  · cases h
  rename_i h3
  simp only [inR, Bool.not_eq_false, decide_eq_true_eq] at h1
  simp only [not_or, Decidable.not_not, Bool.not_eq_false] at h3
  obtain ⟨h4, h5, h6⟩ := h3
  refine ⟨⟨by omega, by omega⟩, ?_, h5, h6, ?_⟩
  · have hr : raE S n m x = true := by simpa using h2
    unfold raE at hr
    unfold I64 at hS ⊢
    (repeat' split at hr) <;> simp only [inR, Bool.or_eq_true, decide_eq_true_eq] at hr <;> omega
  · unfold rnB at h4
    split at h4
    · rename_i ho; rw [if_pos ho]; exact name_word h4
    · rename_i ho; rw [if_neg ho]; exact empty_is h4
theorem right_wok {X : QW} (h : rightE X = 0) : WorldOkW X := by
  obtain ⟨hz, hc, hm, ho⟩ := right_is h
  obtain ⟨z1, z2, z3, z4, z5⟩ := hz
  have hso := hc.slots
  have hby : X.classes.length * 56 ≤ 140737488351232 := by omega
  refine ⟨⟨by omega, by omega⟩, ⟨z2, fun x hx => ?_⟩, ⟨z3, fun o hx => ?_⟩⟩
  · obtain ⟨k, hk⟩ := List.getElem?_of_mem hx
    have hkl := lt_of_get hk
    have h1 := hc k x hkl hk
    have h2 := hm k x hkl hk
    have hs := rcE_slots h1
    have hsu := rcE_super h1
    have hsl : -1 ≤ x.super := by
      unfold rcE at h1
      split at h1
      · cases h1
      split at h1
      · rename_i y hy
        have hk4 : k < 4 := lt_of_get hy
        (repeat' (split at h1)) <;> first | (cases h1; done) | skip
        rename_i hs1 _
        have e : x.super = y.super := by simpa using hs1
        rw [e]
        match k, hk4, hy with
        | 0, _, hy => cases hy; decide
        | 1, _, hy => cases hy; decide
        | 2, _, hy => cases hy; decide
        | 3, _, hy => cases hy; decide
      · (repeat' (split at h1)) <;> first | (cases h1; done) | skip
        rename_i hs1 _
        simp only [belowB, Bool.not_eq_false, decide_eq_true_eq] at hs1
        omega
    have hnm : nameB x.name = true := by
      unfold rcE at h1
      split at h1
      · cases h1
      · rename_i h3; simpa using h3
    unfold rkE at h2
    split at h2
    · cases h2
    rename_i h6
    split at h2
    · cases h2
    rename_i h8
    have h9 := firstE_all h2
    refine ⟨name_word hnm, ⟨by omega, by omega⟩, ⟨by omega, by omega⟩, by omega, fun m hmm => ?_⟩
    obtain ⟨i, hi⟩ := List.getElem?_of_mem hmm
    have h10 := h9 i m hi
    unfold rmE at h10
    split at h10
    · cases h10
    split at h10
    · rename_i hp
      unfold primB at hp
      rw [List.any_eq_true] at hp
      obtain ⟨p, hpm, hpe⟩ := hp
      simp only [Bool.and_eq_true, decide_eq_true_eq] at hpe
      obtain ⟨⟨⟨⟨⟨-, e1⟩, e2⟩, e3⟩, e4⟩, e5⟩ := hpe
      have hpo : WordOk p.name ∧ I64 p.prim := by
        unfold newM at hpm
        simp only [List.mem_cons, List.not_mem_nil, or_false] at hpm
        rcases hpm with rfl | rfl | rfl | rfl | rfl <;> exact ⟨⟨by decide, by decide⟩, by decide, by decide⟩
      refine ⟨word_eq e1 hpo.1, by rw [e3]; exact ⟨by decide, by decide⟩, by rw [e4]; exact ⟨by decide, by decide⟩, by rw [← e2]; exact hpo.2, by omega, fun y hy => ?_⟩
      have : m.code = [] := List.eq_nil_of_length_eq_zero e5
      rw [this] at hy
      cases hy
    · obtain ⟨c1, c2, -⟩ := check_ok h10
      obtain ⟨-, n1, n2, n3, n4⟩ := wm_ok c1
      refine ⟨name_word n1, ⟨by omega, by omega⟩, ⟨by omega, by omega⟩, ⟨by omega, by omega⟩, by omega, fun y hy => ?_⟩
      have hsw : 0 ≤ slotsW X.classes k := by
        rw [slotsW_E hso hby]
        exact (slotsE_le hso (X.classes.length + 1) k 0 (by omega)).1
      refine num_ok ?_ (by omega) (by omega) (by omega) (by omega) (c2 y hy)
      rw [IntKind.wrap_i64]
      unfold I64
      omega
  · obtain ⟨k, hk⟩ := List.getElem?_of_mem hx
    have h1 := ho k o (lt_of_get hk) hk
    unfold roE at h1
    split at h1
    · cases h1
    rename_i h2
    have h3 := firstE_all h1
    simp only [not_or, Decidable.not_not, Bool.not_eq_false] at h2
    obtain ⟨h4, h5⟩ := h2
    simp only [belowB, decide_eq_true_eq] at h4
    obtain ⟨q, hq⟩ : ∃ q : Nat, o.cls = (q : Int) := ⟨o.cls.toNat, by omega⟩
    have hql : q < X.classes.length := by omega
    have h6 := hm q _ hql (List.getElem?_eq_getElem hql)
    have h7 : ¬ 6 < slotsW X.classes q := by
      unfold rkE at h6
      split at h6
      · cases h6
      · assumption
    rw [hq] at h5
    refine ⟨⟨by omega, by omega⟩, by omega, fun v hv => ?_⟩
    obtain ⟨i, hi⟩ := List.getElem?_of_mem hv
    have h8 := h3 i v hi
    unfold wrongV wrongK at h8
    unfold ValOk I64
    (repeat' split at h8) <;> first | (cases h8; done) | omega
end Go.Proofs.YtjmidhghiahbaaaGreatDoor
