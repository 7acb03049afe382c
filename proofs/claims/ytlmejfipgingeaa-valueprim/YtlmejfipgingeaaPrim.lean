/- ValuePrim: what comes of two numbers is one that may be, or true, or false; added, or multiplied, it is the same the other way round. For every input. -/
import Derived.Test.YtlmejfipgingeaaVh
namespace Go.Proofs.Ytlmejfipgingeaa
open Go.ChangeShapes Go.WideShapes Go.ChangeAt Go.RowKit
set_option linter.unusedSimpArgs false
set_option linter.unusedVariables false

theorem bstep {w W w' : World} (h : Below w.heap.size w W) (k : Below W.heap.size W w') : Below w.heap.size w w' := h.trans (k.mono h.size)
theorem bstep1 {w W w' : World} {X : Obj} (h : Below w.heap.size w W) (k : Below (W.alloc X).heap.size (W.alloc X) w') : Below w.heap.size w w' := bstep (h.alloc h.size _) k
theorem tmod_rng (n : Int) : -1073741824 ≤ n.tmod 1073741825 ∧ n.tmod 1073741825 ≤ 1073741824 := by
  have h1 := Int.tmod_lt_of_pos n (show (0 : Int) < 1073741825 by omega)
  have h2 := Int.tmod_lt_of_pos (-n) (show (0 : Int) < 1073741825 by omega)
  rw [Int.neg_tmod] at h2
  omega
theorem wrong_num {n : Int} (h : -1073741824 ≤ n ∧ n ≤ 1073741824) : wrongE 3 n 0 = 0 := by unfold wrongE; (repeat' split) <;> omega
theorem wrong_bool (b : Bool) : wrongE (boolK b) 0 0 = 0 := by cases b <;> decide
theorem wrong_far {n : Int} (h : ¬ (-1073741824 ≤ n ∧ n ≤ 1073741824)) : wrongE 3 n 0 = 3 := by unfold wrongE; (repeat' split) <;> omega

set_option maxHeartbeats 1000000 in
theorem prim_wrong (p a b : Int) (w : World) (h : ¬ (-1073741824 ≤ a ∧ a ≤ 1073741824) ∨ (-1073741824 ≤ a ∧ a ≤ 1073741824) ∧ ¬ (-1073741824 ≤ b ∧ b ≤ 1073741824)) : Calls Try.prog 5 #[.int .i64 p, .int .i64 a, .int .i64 b] w fun e w' => e = .returned (.bool true) ∧ Below w.heap.size w w' := by
  have hE : wrongE 3 a 0 = 3 ∨ wrongE 3 a 0 = 0 ∧ wrongE 3 b 0 = 3 := h.imp wrong_far fun h => ⟨wrong_num h.1, wrong_far h.2⟩
  clear h
  rcases hE with h1 | ⟨h1, h2⟩
  all_goals
    go_enter Try.func5, Try.ntmps5
    go_wp2_with (first
      | (go_at_call 19; refine (alive_any _).mono ?_; rintro e w1 ⟨rfl, hB⟩)
      | (go_at_call 20; refine (num_any _ _).mono ?_; rintro e w2 ⟨rfl, hb⟩; have hB := bstep hB hb)
      | (go_at_call 6; refine (wrong_any _ _ _ _).mono ?_; rintro e w2 ⟨rfl, hb⟩; have hB := bstep hB hb))
    go_ret
    exact ⟨rfl, hB⟩

set_option maxHeartbeats 2000000 in
theorem prim_none (p a b : Int) (w : World) (hra : -1073741824 ≤ a ∧ a ≤ 1073741824) (hrb : -1073741824 ≤ b ∧ b ≤ 1073741824) (hp : p < 1 ∨ 5 < p) : Calls Try.prog 5 #[.int .i64 p, .int .i64 a, .int .i64 b] w fun e w' => e = .returned (.bool true) ∧ Below w.heap.size w w' := by
  have h1 := wrong_num hra
  have h2 := wrong_num hrb
  have hE : primE p 3 a 3 b = (0, 0, 1) := by
    unfold primE
    simp only [ne_eq, not_true_eq_false, or_self, if_false]
    rw [if_neg (by omega), if_neg (by omega), if_neg (by omega), if_neg (by omega), if_neg (by omega)]
  rcases hp with hp | hp
  all_goals
    go_enter Try.func5, Try.ntmps5
    go_wp2_with (first
      | (go_at_call 19; refine (alive_any _).mono ?_; rintro e w1 ⟨rfl, hB⟩)
      | (go_at_call 20; refine (num_any _ _).mono ?_; rintro e w2 ⟨rfl, hb⟩; have hB := bstep hB hb)
      | (go_at_call 6; refine (wrong_any _ _ _ _).mono ?_; rintro e w2 ⟨rfl, hb⟩; have hB := bstep hB hb)
      | (go_at_call 17; refine (prim_any _ _ _ _ _ _ hra hrb).mono ?_; rintro e w2 ⟨rfl, hb⟩; have hB := bstep hB hb; simp only [hE]))
    go_ret
    exact ⟨rfl, hB.alloc hB.size _⟩

set_option maxHeartbeats 4000000 in
theorem prim_some (p a b K N K' N' : Int) (w : World) (hra : -1073741824 ≤ a ∧ a ≤ 1073741824) (hrb : -1073741824 ≤ b ∧ b ≤ 1073741824) (hE : primE p 3 a 3 b = (K, N, 0)) (hE' : primE p 3 b 3 a = (K', N', 0)) (hW : wrongE K N 0 = 0)
    (hp : (p = 1 ∨ p = 3 ∨ p = 5) ∧ K = K' ∧ N = N' ∨ p = 4 ∧ (K = 2 → (K' == 2) = false) ∨ p = 2 ∧ (-1073741825 < N ∧ N ≤ 1073741824) ∧ N' = -N) : Calls Try.prog 5 #[.int .i64 p, .int .i64 a, .int .i64 b] w fun e w' => e = .returned (.bool true) ∧ Below w.heap.size w w' := by
  have h1 := wrong_num hra
  have h2 := wrong_num hrb
  rcases hp with ⟨rfl | rfl | rfl, rfl, rfl⟩ | ⟨rfl, hk⟩ | ⟨rfl, hn, rfl⟩
  all_goals
    go_enter Try.func5, Try.ntmps5
    go_wp2_with fail
    refine (alive_any _).mono ?_
    rintro e w1 ⟨rfl, hB⟩
    go_wp2_with fail
    refine (num_any _ _).mono ?_
    rintro e w2 ⟨rfl, hb⟩
    replace hB := bstep hB hb
    clear hb
    go_wp2_with fail
    refine (wrong_any _ _ _ _).mono ?_
    rintro e w3 ⟨rfl, hb⟩
    replace hB := bstep hB hb
    clear hb
    go_wp2_with fail
    refine (num_any _ _).mono ?_
    rintro e w4 ⟨rfl, hb⟩
    replace hB := bstep hB hb
    clear hb
    go_wp2_with fail
    refine (wrong_any _ _ _ _).mono ?_
    rintro e w5 ⟨rfl, hb⟩
    replace hB := bstep hB hb
    clear hb
    go_wp2_with fail
    refine (num_any _ _).mono ?_
    rintro e w6 ⟨rfl, hb⟩
    replace hB := bstep hB hb
    clear hb
    go_wp2_with fail
    refine (num_any _ _).mono ?_
    rintro e w7 ⟨rfl, hb⟩
    replace hB := bstep hB hb
    clear hb
    go_wp2_with fail
    refine (prim_any _ _ _ _ _ _ hra hrb).mono ?_
    rintro e w8 ⟨rfl, hb⟩
    replace hB := bstep hB hb
    clear hb
    simp only [hE]
    go_wp2_with fail
    refine (num_any _ _).mono ?_
    rintro e w9 ⟨rfl, hb⟩
    replace hB := bstep1 hB hb
    have c0 : w9.cell? ⟨w8.heap.size, 0, none⟩ = some (.int .i64 K) := cell_later hb (by simp)
    have c1 : w9.cell? ⟨w8.heap.size, 1, none⟩ = some (.int .i64 N) := cell_later hb (by simp)
    clear hb
    go_wp2_with fail
    refine (num_any _ _).mono ?_
    rintro e w10 ⟨rfl, hb⟩
    replace hB := bstep hB hb
    replace c0 := cell_later hb c0
    replace c1 := cell_later hb c1
    clear hb
    go_wp2_with fail
    refine (prim_any _ _ _ _ _ _ hrb hra).mono ?_
    rintro e w11 ⟨rfl, hb⟩
    replace hB := bstep hB hb
    replace c0 := fun x => cell_later (bel1 w11 x) (cell_later hb c0)
    replace c1 := fun x => cell_later (bel1 w11 x) (cell_later hb c1)
    clear hb
    simp only [hE']
    go_wp2_with fail
    refine (wrong_any _ _ _ _).mono ?_
    rintro e w12 ⟨rfl, hb⟩
    replace hB := bstep1 hB hb
    obtain ⟨hc, hf⟩ := bcell hb
    replace c0 := cell_later hb (c0 _)
    replace c1 := cell_later hb (c1 _)
    clear hb
    go_wp2
  all_goals go_ret
  all_goals refine ⟨ret_b ?_, hB⟩
  all_goals go_light
  all_goals first
    | rfl
    | (rw [IntWalk.wrap64_in N ⟨by omega, by omega⟩]; simp)

theorem prim_walk (p a b : Int) (w : World) : Calls Try.prog 5 #[.int .i64 p, .int .i64 a, .int .i64 b] w fun e w' => e = .returned (.bool true) ∧ Below w.heap.size w w' := by
  by_cases ha : -1073741824 ≤ a ∧ a ≤ 1073741824
  · by_cases hb : -1073741824 ≤ b ∧ b ≤ 1073741824
    · by_cases hp : p < 1 ∨ 5 < p
      · exact prim_none p a b w ha hb hp
      · have hq : p = 1 ∨ p = 2 ∨ p = 3 ∨ p = 4 ∨ p = 5 := by omega
        rcases hq with rfl | rfl | rfl | rfl | rfl
        · refine prim_some 1 a b 3 ((a + b).tmod 1073741825) 3 ((b + a).tmod 1073741825) w ha hb (by simp [primE]) (by simp [primE]) (wrong_num (tmod_rng _)) (Or.inl ⟨Or.inl rfl, rfl, by rw [Int.add_comm]⟩)
        · refine prim_some 2 a b 3 ((a - b).tmod 1073741825) 3 ((b - a).tmod 1073741825) w ha hb (by simp [primE]) (by simp [primE]) (wrong_num (tmod_rng _)) (Or.inr (Or.inr ⟨rfl, by have := tmod_rng (a - b); omega, by rw [← Int.neg_tmod, Int.neg_sub]⟩))
        · refine prim_some 3 a b 3 ((a * b).tmod 1073741825) 3 ((b * a).tmod 1073741825) w ha hb (by simp [primE]) (by simp [primE]) (wrong_num (tmod_rng _)) (Or.inl ⟨Or.inr (Or.inl rfl), rfl, by rw [Int.mul_comm]⟩)
        · refine prim_some 4 a b (boolK (decide (a < b))) 0 (boolK (decide (b < a))) 0 w ha hb (by simp [primE]) (by simp [primE]) (wrong_bool _) (Or.inr (Or.inl ⟨rfl, fun h => ?_⟩))
          unfold boolK at h ⊢
          by_cases h1 : a < b
          · have h2 : ¬ b < a := by omega
            simp [h2]
          · simp [h1] at h
        · refine prim_some 5 a b (boolK (a == b)) 0 (boolK (b == a)) 0 w ha hb (by simp [primE]) (by simp [primE]) (wrong_bool _) (Or.inl ⟨Or.inr (Or.inr rfl), by rw [Bool.beq_comm], rfl⟩)
    · exact prim_wrong p a b w (Or.inr ⟨ha, hb⟩)
  · exact prim_wrong p a b w (Or.inl ha)

theorem own : ownKnob Try.prog.godebug = none := by kernel_rfl

set_option maxRecDepth 100000 in
theorem prim_lifted (os : Os) (started : os.Started) (H : Type) (enc : TypeId × Value → H) :
    ReturnsInHanded {} Try.checked os 5 .any (Rows.valuePrimSpec.pre6 enc Try.prog Try.f5 Rows.valuePrimRow.domain false) (Rows.valuePrimSpec.post enc Try.prog Try.f5 false true false false) := by
  refine returnsInHanded_of_change (C := Try.checked) own started (by kernel_rfl) Try.func5
    (ChangeSpec.witness6 (enc := enc) (C := Try.checked) false ⟨#[], #[.int .i64 0, .int .i64 0, .int .i64 0], []⟩ 8 (by kernel_rfl) (by kernel_rfl) (by kernel_rfl) (by kernel_rfl)) ?_
  intro W base args ds gs before hval0 hW hcnd _
  have hval : ∀ (j : Nat) t v, Try.f5.params[j]? = some t → args[j]? = some v → Value.okWide Try.prog W .any base t v := hval0
  have hW' := hW
  obtain ⟨p, q, hA0, hV, rfl, hfz, hnd⟩ := hW
  have hA : DataW.TrodAll enc Try.prog W 0 (fun _ => true) true Try.f5.params.toList args.toList ds p := hA0
  rw [Try.params5] at hA hval
  obtain ⟨v0, vs0, d0, ds0, p0, q0, hargs, rfl, rfl, h0, r0⟩ := trodAll_cons hA
  obtain ⟨v1, vs1, d1, ds1, p1, q1, rfl, rfl, rfl, h1, r1⟩ := trodAll_cons r0
  obtain ⟨v2, vs2, d2, ds2, p2, q2, rfl, rfl, rfl, h2, r2⟩ := trodAll_cons r1
  obtain ⟨rfl, rfl, rfl⟩ := trodAll_nil r2
  obtain rfl : args = #[v0, v1, v2] := by cases args; simp_all
  obtain ⟨rfl, rfl⟩ := trodVars_none hV
  obtain ⟨a0, rfl, rfl, rfl, w0⟩ := open_int Try.underlying3 (hval 0 3 v0 rfl rfl) h0
  obtain ⟨a1, rfl, rfl, rfl, w1⟩ := open_int Try.underlying3 (hval 1 3 v1 rfl rfl) h1
  obtain ⟨a2, rfl, rfl, rfl, w2⟩ := open_int Try.underlying3 (hval 2 3 v2 rfl rfl) h2
  clear hA0 hval0
  refine (prim_walk a0 a1 a2 W).mono fun e W' ⟨he, bel⟩ => ?_
  subst he
  exact ⟨_, rfl, _, _, _, [], _, [], hW', trodAll_mk1 (shut_bool Try.underlying4 _), (trodAll_cons_mk (shut_int Try.underlying3 w0) (trodAll_cons_mk (shut_int Try.underlying3 w1) (trodAll_cons_mk (shut_int Try.underlying3 w2) trodAll_mk0))), rfl, bel.frame _, fun h => by cases h⟩

theorem prim_over : Rows.valuePrimRow.holds Try.pinned (OpenSpec.ofChange Rows.valuePrimSpec) :=
  OpenClaim.holds_of_wide 5 Try.f5 rfl rfl rfl rfl rfl rfl rfl ⟨rfl, rfl, rfl, rfl, rfl⟩ rfl rfl rfl rfl rfl (by kernel_rfl) Try.func5 (by kernel_rfl)
    (of_decide_eq_true (by kernel_rfl)) (by unfold Func.isWrapper; first | (rw [if_pos (by decide +kernel)]; kernel_rfl) | (rw [if_neg (by decide +kernel)]; exact ⟨rfl, rfl⟩))
    (fun os started H enc _ => prim_lifted os started H enc)

/-- The statement. -/
theorem valuePrim_holds : Rows.ValuePrimSaid := prim_over
#print axioms valuePrim_holds

end Go.Proofs.Ytlmejfipgingeaa
