/- What the small functions of package value, and of its reference, come to: Bool, Wrong, number, Prim, num, isIn. -/
import Derived.Test.YtlmejfipgingeaaRows
import Derived.WalkKit
import Derived.ProofKit
import Derived.OpenShut
import Derived.Below
import Derived.WalkSpells
import Derived.WalkLawsBesides
import Derived.BigQuiet
import Derived.Deep.RegionHeld3
import Derived.Deep.Light
namespace Go.Proofs.Ytlmejfipgingeaa
open Go.ChangeShapes Go.WideShapes Go.ChangeAt Go.RowKit
set_option linter.unusedSimpArgs false
set_option linter.unusedVariables false

/-- A value of two numbers. -/
abbrev V2 (k n : Int) : Value := .agg #[.int .i64 k, .int .i64 n]

theorem bcell {W w1 : World} (hb : Below W.heap.size W w1) : (∀ b o, b < W.heap.size → w1.cell? ⟨b, o, none⟩ = W.cell? ⟨b, o, none⟩) ∧ (∀ b o, b < W.heap.size → w1.frozen? ⟨b, o, none⟩ = W.frozen? ⟨b, o, none⟩) :=
  ⟨fun b o h => hb.cell (p := ⟨b, o, none⟩) h, fun b o h => hb.frozen (p := ⟨b, o, none⟩) h⟩

theorem num_any (n : Int) (w : World) : Calls Try.prog 20 #[.int .i64 n] w fun e w' => e = .returned (V2 3 n) ∧ Below w.heap.size w w' := by
  go_enter Try.func20, Try.ntmps20
  go_wp2
  exact bodyPost_ret (v := V2 3 n) (by simp [results, Try.results20, go_sem]) rfl ⟨rfl, (Below.refl _ _).alloc (Nat.le_refl _) _⟩

def boolK (b : Bool) : Int := if b then 2 else 1

theorem bool_any (b : Bool) (w : World) : Calls Try.prog 12 #[.bool b] w fun e w' => e = .returned (V2 (boolK b) 0) ∧ Below w.heap.size w w' := by
  cases b
  · go_enter Try.func12, Try.ntmps12
    go_wp2
    exact bodyPost_ret (v := V2 1 0) (by simp [results, Try.results12, go_sem]) rfl ⟨rfl, (Below.refl _ _).alloc (Nat.le_refl _) _⟩
  · go_enter Try.func12, Try.ntmps12
    go_wp2
    exact bodyPost_ret (v := V2 2 0) (by simp [results, Try.results12, go_sem]) rfl ⟨rfl, (Below.refl _ _).alloc (Nat.le_refl _) _⟩

theorem rbool_any (b : Bool) (w : World) : Calls Try.prog 13 #[.bool b] w fun e w' => e = .returned (V2 (boolK b) 0) ∧ Below w.heap.size w w' := by
  cases b
  · go_enter Try.func13, Try.ntmps13
    go_wp2
    exact bodyPost_ret (v := V2 1 0) (by simp [results, Try.results13, go_sem]) rfl ⟨rfl, (Below.refl _ _).alloc (Nat.le_refl _) _⟩
  · go_enter Try.func13, Try.ntmps13
    go_wp2
    exact bodyPost_ret (v := V2 2 0) (by simp [results, Try.results13, go_sem]) rfl ⟨rfl, (Below.refl _ _).alloc (Nat.le_refl _) _⟩

/-- What is wrong with a value beside a heap of so many objects. -/
def wrongE (k n h : Int) : Int :=
  if k < 0 ∨ 4 < k then 1
  else if k < 3 then (if n = 0 then 0 else 2)
  else if k = 3 then (if n < -1073741824 ∨ 1073741824 < n then 3 else 0)
  else (if n < 0 ∨ h ≤ n then 6 else 0)

theorem ret_i {a b : Int} (h : a = b) : Ending.returned (.int .i64 a) = .returned (.int .i64 b) := by rw [h]

set_option maxHeartbeats 400000 in
theorem wrong_any (k n h : Int) (w : World) : Calls Try.prog 6 #[V2 k n, .int .i64 h] w fun e w' => e = .returned (.int .i64 (wrongE k n h)) ∧ Below w.heap.size w w' := by
  go_enter Try.func6, Try.ntmps6
  go_wp2
  all_goals
    go_ret
    refine ⟨ret_i ?_, (Below.refl _ _).alloc (Nat.le_refl _) _⟩
    go_light
    try simp only [beq_iff_eq, bne_iff_ne, ne_eq, beq_eq_false_iff_ne, bne_eq_false_iff_eq] at *
    unfold wrongE
    (repeat' split) <;> omega

set_option maxHeartbeats 400000 in
theorem rwrong_any (k n h : Int) (w : World) : Calls Try.prog 7 #[V2 k n, .int .i64 h] w fun e w' => e = .returned (.int .i64 (wrongE k n h)) ∧ Below w.heap.size w w' := by
  go_enter Try.func7, Try.ntmps7
  go_wp2
  all_goals
    go_ret
    refine ⟨ret_i ?_, (Below.refl _ _).alloc (Nat.le_refl _) _⟩
    go_light
    try simp only [beq_iff_eq, bne_iff_ne, ne_eq, beq_eq_false_iff_ne, bne_eq_false_iff_eq] at *
    unfold wrongE
    (repeat' split) <;> omega

/-- Is it an object of a heap of so many? -/
def inB (k n : Int) (len : Nat) : Bool := decide (k = 4 ∧ 0 ≤ n ∧ n < len)

theorem ret_b {a b : Bool} (h : a = b) : Ending.returned (.bool a) = .returned (.bool b) := by rw [h]

set_option maxHeartbeats 400000 in
theorem isIn_any (ad : Option Addr) (len cap : Nat) (k n : Int) (w : World) : Calls Try.prog 21 #[.slice ad len cap, V2 k n] w fun e w' => e = .returned (.bool (inB k n len)) ∧ Below w.heap.size w w' := by
  go_enter Try.func21, Try.ntmps21
  go_wp2
  all_goals
    go_ret
    refine ⟨ret_b ?_, (Below.refl _ _).alloc (Nat.le_refl _) _⟩
    go_light
    try simp only [beq_iff_eq, bne_iff_ne, ne_eq, beq_eq_false_iff_ne, bne_eq_false_iff_eq] at *
    unfold inB
    first
      | (rw [decide_eq_decide]; omega)
      | (symm; rw [decide_eq_false_iff_not]; omega)

theorem number_any (n : Int) (w : World) : Calls Try.prog 24 #[.int .i64 n] w fun e w' => e = .returned (V2 3 (n.tmod 1073741825)) ∧ Below w.heap.size w w' := by
  go_enter Try.func24, Try.ntmps24
  go_wp2
  exact bodyPost_ret (v := V2 3 (n.tmod 1073741825)) (by simp [results, Try.results24, go_sem]) rfl ⟨rfl, (Below.refl _ _).alloc (Nat.le_refl _) _⟩

/-- What a primitive makes of two values: kind, number, errno. -/
def primE (p ka na kb nb : Int) : Int × Int × Int :=
  if ka ≠ 3 ∨ kb ≠ 3 then (0, 0, 12)
  else if p = 1 then (3, (na + nb).tmod 1073741825, 0)
  else if p = 2 then (3, (na - nb).tmod 1073741825, 0)
  else if p = 3 then (3, (na * nb).tmod 1073741825, 0)
  else if p = 4 then (boolK (decide (na < nb)), 0, 0)
  else if p = 5 then (boolK (na == nb), 0, 0)
  else (0, 0, 1)

theorem mul_bd {a b : Int} (ha : -1073741824 ≤ a ∧ a ≤ 1073741824) (hb : -1073741824 ≤ b ∧ b ≤ 1073741824) : -1152921504606846976 ≤ a * b ∧ a * b ≤ 1152921504606846976 := by
  have h1 : a.natAbs ≤ 1073741824 := by omega
  have h2 : b.natAbs ≤ 1073741824 := by omega
  have h3 : (a * b).natAbs ≤ 1073741824 * 1073741824 := by rw [Int.natAbs_mul]; exact Nat.mul_le_mul h1 h2
  omega

theorem bel3 (w : World) (a b c : Obj) : Below w.heap.size w (((w.alloc a).alloc b).alloc c) :=
  (((Below.refl _ _).alloc (Nat.le_refl _) _).alloc (by simp) _).alloc (by simp; omega) _

set_option maxHeartbeats 400000 in
theorem prim_go (p ka na kb nb K N E : Int) (w : World) (ha : -1073741824 ≤ na ∧ na ≤ 1073741824) (hb : -1073741824 ≤ nb ∧ nb ≤ 1073741824) (hE : Hid (primE p ka na kb nb = (K, N, E))) :
    Calls Try.prog 17 #[.int .i64 p, V2 ka na, V2 kb nb] w fun e w' => e = .returned (.tuple #[V2 K N, .int .i64 E]) ∧ Below w.heap.size w w' := by
  have hm := mul_bd ha hb
  go_enter Try.func17, Try.ntmps17
  go_wp2_with (first
    | (go_at_call 24; refine (number_any _ _).mono ?_; rintro e w' ⟨rfl, hb1⟩; obtain ⟨hc, hf⟩ := bcell hb1)
    | (go_at_call 12; refine (bool_any _ _).mono ?_; rintro e w' ⟨rfl, hb1⟩; obtain ⟨hc, hf⟩ := bcell hb1))
  all_goals
    have hE' := hE.out
    unfold primE at hE'
    try simp only [beq_iff_eq, bne_iff_ne, ne_eq, beq_eq_false_iff_ne, bne_eq_false_iff_eq] at *
  all_goals simp [*] at hE'
  all_goals obtain ⟨rfl, rfl, rfl⟩ := hE'
  all_goals first
    | exact bodyPost_ret (v := .tuple #[V2 _ _, .int .i64 _]) (by simp [results, Try.results17, go_sem]; done) rfl ⟨rfl, bel3 _ _ _ _⟩
    | (refine bodyPost_ret (v := .tuple #[V2 _ _, .int .i64 _]) (by simp [results, Try.results17, go_sem, hc]; done) rfl ⟨rfl, ?_⟩
       exact ((((bel3 _ _ _ _).trans (hb1.mono (by simp; omega))).setCell (by simp; omega) _).setCell (by simp; omega) _))

theorem prim_any (p ka na kb nb : Int) (w : World) (ha : -1073741824 ≤ na ∧ na ≤ 1073741824) (hb : -1073741824 ≤ nb ∧ nb ≤ 1073741824) :
    Calls Try.prog 17 #[.int .i64 p, V2 ka na, V2 kb nb] w fun e w' => e = .returned (.tuple #[V2 (primE p ka na kb nb).1 (primE p ka na kb nb).2.1, .int .i64 (primE p ka na kb nb).2.2]) ∧ Below w.heap.size w w' :=
  prim_go p ka na kb nb _ _ _ w ha hb rfl

theorem tmod_pos (n : Int) (h : 0 ≤ n) : n - n / 1073741825 * 1073741825 = n.tmod 1073741825 := by
  rw [Int.tmod_eq_emod_of_nonneg h]; omega
theorem tmod_neg (n : Int) (h : n < 0) : n + -n / 1073741825 * 1073741825 = n.tmod 1073741825 := by
  have h1 := Int.neg_tmod (-n) 1073741825
  rw [Int.neg_neg] at h1
  rw [h1, Int.tmod_eq_emod_of_nonneg (by omega : 0 ≤ -n)]
  omega

theorem tmod_negw (n : Int) (h : n < 0) (hl : -1152921504606846976 ≤ n) : wrap64 (n + wrap64 (wrap64 (-n.tdiv 1073741825) * 1073741825)) = n.tmod 1073741825 := by
  have h1 : n.tdiv 1073741825 = -(-n / 1073741825) := by
    have h2 := Int.neg_tdiv (a := -n) (b := 1073741825)
    rw [Int.neg_neg] at h2
    rw [h2, Int.tdiv_eq_ediv_of_nonneg (by omega : 0 ≤ -n)]
  rw [h1, Int.neg_neg, IntWalk.wrap64_in (-n / 1073741825) ⟨by omega, by omega⟩, IntWalk.wrap64_in (-n / 1073741825 * 1073741825) ⟨by omega, by omega⟩, IntWalk.wrap64_in _ ⟨by omega, by omega⟩]
  exact tmod_neg n h

set_option maxHeartbeats 1000000 in
theorem rprim_go (p ka na kb nb K N E : Int) (w : World) (ha : -1073741824 ≤ na ∧ na ≤ 1073741824) (hb : -1073741824 ≤ nb ∧ nb ≤ 1073741824) (hE : Hid (primE p ka na kb nb = (K, N, E))) :
    Calls Try.prog 18 #[.int .i64 p, V2 ka na, V2 kb nb] w fun e w' => e = .returned (.tuple #[V2 K N, .int .i64 E]) ∧ Below w.heap.size w w' := by
  have hm := mul_bd ha hb
  go_enter Try.func18, Try.ntmps18
  go_wp2_with (first
    | (go_at_call 13; refine (rbool_any _ _).mono ?_; rintro e w' ⟨rfl, hb1⟩; obtain ⟨hc, hf⟩ := bcell hb1))
  all_goals
    have hE' := hE.out
    unfold primE at hE'
    try simp only [beq_iff_eq, bne_iff_ne, ne_eq, beq_eq_false_iff_ne, bne_eq_false_iff_eq] at *
  all_goals simp [*] at hE'
  all_goals obtain ⟨rfl, rfl, rfl⟩ := hE'
  all_goals first
    | (refine bodyPost_ret (v := .tuple #[V2 _ _, .int .i64 _]) ?_ rfl ⟨rfl, bel3 _ _ _ _⟩; simp [results, Try.results18, go_sem]; done)
    | (refine bodyPost_ret (v := .tuple #[V2 _ _, .int .i64 _]) ?_ rfl ⟨rfl, bel3 _ _ _ _⟩; simp [results, Try.results18, go_sem]; exact tmod_pos _ (by omega))
    | (refine bodyPost_ret (v := .tuple #[V2 _ _, .int .i64 _]) ?_ rfl ⟨rfl, bel3 _ _ _ _⟩; simp [results, Try.results18, go_sem]; exact tmod_negw _ (by omega) (by omega))
    | (refine bodyPost_ret (v := .tuple #[V2 _ _, .int .i64 _]) ?_ rfl ⟨rfl, ?_⟩
       · simp [results, Try.results18, go_sem, hc]; done
       · exact ((((bel3 _ _ _ _).trans (hb1.mono (by simp; omega))).setCell (by simp; omega) _).setCell (by simp; omega) _))

theorem rprim_any (p ka na kb nb : Int) (w : World) (ha : -1073741824 ≤ na ∧ na ≤ 1073741824) (hb : -1073741824 ≤ nb ∧ nb ≤ 1073741824) :
    Calls Try.prog 18 #[.int .i64 p, V2 ka na, V2 kb nb] w fun e w' => e = .returned (.tuple #[V2 (primE p ka na kb nb).1 (primE p ka na kb nb).2.1, .int .i64 (primE p ka na kb nb).2.2]) ∧ Below w.heap.size w w' :=
  rprim_go p ka na kb nb _ _ _ w ha hb rfl

end Go.Proofs.Ytlmejfipgingeaa
