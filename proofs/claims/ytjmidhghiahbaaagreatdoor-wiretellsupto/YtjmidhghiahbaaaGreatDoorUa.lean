/- Package wire: within, madeBelow, wrongSize; package value: Wrong. -/
import Derived.Test.YtjmidhghiahbaaaGreatDoorNa
namespace Go.Proofs.YtjmidhghiahbaaaGreatDoor
open Go.ChangeShapes Go.WideShapes Go.ChangeAt Go.RowKit
set_option linter.unusedSimpArgs false
set_option linter.unusedVariables false
set_option maxRecDepth 8000

theorem wwithin_any (n low high : Int) (w : World) : Calls Tryz.prog 29 #[.int .i64 n, .int .i64 low, .int .i64 high] w fun e w' => e = .returned (.bool (inR n low high)) ∧ w' = w := by
  go_enter Tryz.func29, Tryz.ntmps29
  by_cases h1 : low ≤ n
  · by_cases h2 : n ≤ high
    · go_wp2
      go_ret
      exact ⟨ret_b (by simp [inR, h1, h2]), rfl⟩
    · have h2' : decide (n ≤ high) = false := by simpa using h2
      go_wp2
      go_ret
      exact ⟨ret_b (by simp [inR]; omega), rfl⟩
  · have h1' : decide (low ≤ n) = false := by simpa using h1
    go_wp2
    go_ret
    exact ⟨ret_b (by simp [inR]; omega), rfl⟩
theorem madeBelow_any (n c : Int) (w : World) (hn : 0 ≤ n ∧ n ≤ 1000) : Calls Tryz.prog 32 #[.int .i64 n, .int .i64 c] w fun e w' => e = .returned (.bool (belowB n c)) ∧ w' = w := by
  have hsub : IntKind.i64.wrap (n - 1) = n - 1 := wrap_of (by omega) (by omega)
  go_enter Tryz.func32, Tryz.ntmps32
  by_cases h1 : c = 0
  · subst h1
    go_wp2
    go_ret
    exact ⟨ret_b (by simp [belowB]), rfl⟩
  · have h1' : (c == 0) = false := beq_eq_false_iff_ne.2 h1
    go_wp2_with fail
    refine (wwithin_any c 4 (n - 1) _).mono ?_
    rintro e w1 ⟨rfl, hw⟩
    subst hw
    go_wp2
    go_ret
    exact ⟨ret_b (by
      unfold inR belowB
      rw [Bool.eq_iff_iff]
      simp only [decide_eq_true_eq]
      omega), rfl⟩
set_option maxHeartbeats 400000 in
theorem vwrong_kn (k n h : Int) (w : World) : Calls Tryz.prog 35 #[.agg #[.int .i64 k, .int .i64 n], .int .i64 h] w fun e w' => e = .returned (.int .i64 (wrongK k n h)) ∧ Below w.heap.size w w' := by
  go_enter Tryz.func35, Tryz.ntmps35
  go_wp2
  all_goals
    go_ret
    refine ⟨ret_i ?_, (Below.refl _ _).alloc (Nat.le_refl _) _⟩
    go_light
    try simp only [beq_iff_eq, bne_iff_ne, ne_eq, beq_eq_false_iff_ne, bne_eq_false_iff_eq] at *
    unfold wrongK
    (repeat' split) <;> omega
theorem vwrong_any (v : QV) (h : Int) (w : World) : Calls Tryz.prog 35 #[.agg #[.int .i64 v.k, .int .i64 v.n], .int .i64 h] w fun e w' => e = .returned (.int .i64 (wrongV h v)) ∧ Below w.heap.size w w' := vwrong_kn v.k v.n h w
/-- What is wrong with a world's sizes. -/
def sizeE (X : QW) : Int := if X.classes.length < 4 ∨ 12 < X.classes.length ∨ 60 < X.heap.length then 5 else if X.epoch < 0 ∨ 1073741824 < X.epoch then 3 else 0
set_option maxHeartbeats 1000000 in
theorem wrongSize_any {P : Nat → Prop} (X : QW) (cv hv : Value) (w : World) (hh : IsClasses P w cv X.classes) (hH : IsHeap P w hv X.heap) : Calls Tryz.prog 11 #[WV cv hv X.epoch] w fun e w' => e = .returned (.int .i64 (sizeE X)) ∧ Below w.heap.size w w' := by
  obtain ⟨ad, cap, rfl, hl, hcap, hby, -⟩ := id hh
  obtain ⟨ah, ch, rfl, hlh, hcaph, hbyh, -⟩ := id hH
  have HZ : Hid (sizeE X = if X.classes.length < 4 ∨ 12 < X.classes.length ∨ 60 < X.heap.length then 5 else if X.epoch < 0 ∨ 1073741824 < X.epoch then 3 else 0) := rfl
  generalize sizeE X = R at *
  go_enter Tryz.func11, Tryz.ntmps11
  go_wp2_with fail
  refine (wwithin_any _ 4 12 _).mono ?_
  rintro e w1 ⟨rfl, hw⟩
  subst hw
  have hb := bel1 w (Obj.cells #[Value.slice ad X.classes.length cap, Value.slice ah X.heap.length ch, Value.int IntKind.i64 X.epoch] 25)
  cases h1 : inR (X.classes.length : Int) 4 12
  · have h1' : ¬ (4 ≤ (X.classes.length : Int) ∧ (X.classes.length : Int) ≤ 12) := by simpa [inR] using h1
    go_wp2
    go_ret
    exact ⟨ret_i (by rw [HZ.out, if_pos (by omega)]), hb⟩
  · have h1' : 4 ≤ (X.classes.length : Int) ∧ (X.classes.length : Int) ≤ 12 := by simpa [inR] using h1
    have HC : Hid (¬ (X.classes.length < 4 ∨ 12 < X.classes.length)) := by show ¬ _; omega
    clear h1'
    by_cases h2 : (60 : Int) < (X.heap.length : Int)
    · go_wp2
      go_ret
      exact ⟨ret_i (by rw [HZ.out, if_pos (by omega)]), hb⟩
    · have h2' : decide ((60 : Int) < (X.heap.length : Int)) = false := by simpa using h2
      have HD : Hid (¬ (X.classes.length < 4 ∨ 12 < X.classes.length ∨ 60 < X.heap.length)) := by
        have := HC.out
        show ¬ _
        omega
      go_wp2_with fail
      refine (wwithin_any _ 0 1073741824 _).mono ?_
      rintro e w2 ⟨rfl, hw⟩
      subst hw
      cases h3 : inR X.epoch 0 1073741824
      · have h3' : ¬ (0 ≤ X.epoch ∧ X.epoch ≤ 1073741824) := by simpa [inR] using h3
        go_wp2
        go_ret
        exact ⟨ret_i (by rw [HZ.out, if_neg (by have := HD.out; omega), if_pos (by omega)]), hb⟩
      · have h3' : 0 ≤ X.epoch ∧ X.epoch ≤ 1073741824 := by simpa [inR] using h3
        go_wp2
        go_ret
        exact ⟨ret_i (by rw [HZ.out, if_neg (by have := HD.out; omega), if_neg (by omega)]), hb⟩
end Go.Proofs.YtjmidhghiahbaaaGreatDoor
