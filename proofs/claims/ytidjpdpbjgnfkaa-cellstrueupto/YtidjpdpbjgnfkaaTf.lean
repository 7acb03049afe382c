/- The closed fact of chapter 7. -/
import Derived.Test.YtidjpdpbjgnfkaaTe
namespace Go.Proofs.Ytidjpdpbjgnfkaa
open Go.ChangeShapes Go.WideShapes Go.ChangeAt Go.RowKit
set_option linter.unusedSimpArgs false
set_option linter.unusedVariables false

abbrev sA : QS := ⟨4, ⟨#[109]⟩, 2⟩
theorem eqS_self (s : QS) : eqS s s = true := (eqS_iff s s).2 rfl
theorem addA1 : addE [] sA 5 = [⟨sA, [⟨5, 1⟩]⟩] := rfl
theorem addA2 : addE [⟨sA, [⟨5, 1⟩]⟩] sA 4 = [⟨sA, [⟨5, 1⟩, ⟨4, 1⟩]⟩] := by simp [addE, eqS_self, oneMore]
theorem addA3 : addE [⟨sA, [⟨5, 1⟩, ⟨4, 1⟩]⟩] sA 4 = [⟨sA, [⟨5, 1⟩, ⟨4, 2⟩]⟩] := by simp [addE, eqS_self, oneMore, wrap64]
theorem linesA : linesAt [⟨sA, [⟨5, 1⟩, ⟨4, 2⟩]⟩] sA = [⟨5, 1⟩, ⟨4, 2⟩] := by simp [linesAt, eqS_self]
theorem sumA : sumL [⟨5, 1⟩, ⟨4, 2⟩] = 3 := by simp [sumL, wrap64]
theorem mostA : mostL [⟨5, 1⟩, ⟨4, 2⟩] = ⟨4, 2⟩ := by simp [mostL, mostStep]
theorem addA1_any (v : Value) (w : World) (hv : v = .slice none 0 0) : Calls Try.prog 23 #[v, SV sA, .int .i64 5] w fun e w' => ∃ g cap, e = .returned (.slice (some ⟨g, 0, none⟩) 1 cap) ∧ IsTallies (fun b => w.heap.size ≤ b) w' (.slice (some ⟨g, 0, none⟩) 1 cap) [⟨sA, [⟨5, 1⟩]⟩] ∧ Below w.heap.size w w' := by
  subst hv
  refine (add_any (P := fun _ => False) [] _ sA 5 w ⟨none, 0, rfl, by simp, by simp, by simp, fun i x hx => by simp at hx⟩ (by simp) (by simp)).mono ?_
  rw [addA1]
  exact fun e w' h => h
theorem addA2_any {P : Nat → Prop} (v : Value) (w : World) (hv : IsTallies P w v [⟨sA, [⟨5, 1⟩]⟩]) : Calls Try.prog 23 #[v, SV sA, .int .i64 4] w fun e w' => ∃ g cap, e = .returned (.slice (some ⟨g, 0, none⟩) 1 cap) ∧ IsTallies (fun b => w.heap.size ≤ b) w' (.slice (some ⟨g, 0, none⟩) 1 cap) [⟨sA, [⟨5, 1⟩, ⟨4, 1⟩]⟩] ∧ Below w.heap.size w w' := by
  refine (add_any _ _ sA 4 w hv (by simp) (by simp)).mono ?_
  rw [addA2]
  exact fun e w' h => h
theorem addA3_any {P : Nat → Prop} (v : Value) (w : World) (hv : IsTallies P w v [⟨sA, [⟨5, 1⟩, ⟨4, 1⟩]⟩]) : Calls Try.prog 23 #[v, SV sA, .int .i64 4] w fun e w' => ∃ g cap, e = .returned (.slice (some ⟨g, 0, none⟩) 1 cap) ∧ IsTallies (fun b => w.heap.size ≤ b) w' (.slice (some ⟨g, 0, none⟩) 1 cap) [⟨sA, [⟨5, 1⟩, ⟨4, 2⟩]⟩] ∧ Below w.heap.size w w' := by
  refine (add_any _ _ sA 4 w hv (by simp) (by simp)).mono ?_
  rw [addA3]
  exact fun e w' h => h
theorem regS {b : Nat} {w w' w'' : World} (h : w'.cell? ⟨b, 0, none⟩ = some (.int .i64 4) ∧ w'.cell? ⟨b, 1, none⟩ = some (.string ⟨#[109]⟩) ∧ w'.cell? ⟨b, 2, none⟩ = some (.int .i64 2) ∧ Below w.heap.size w w') (hb : Below w'.heap.size w' w'') : w''.cell? ⟨b, 0, none⟩ = some (.int .i64 4) ∧ w''.cell? ⟨b, 1, none⟩ = some (.string ⟨#[109]⟩) ∧ w''.cell? ⟨b, 2, none⟩ = some (.int .i64 2) ∧ Below w.heap.size w w'' :=
  ⟨cell_later hb h.1, cell_later hb h.2.1, cell_later hb h.2.2.1, nstep h.2.2.2 hb⟩

set_option maxHeartbeats 1000000 in
theorem alive7 (w : World) : Calls Try.prog 27 #[] w fun e w' => e = .returned (.bool true) ∧ Below w.heap.size w w' := by
  have hS0 : (w.alloc (.cells #[.int .i64 4, .string ⟨#[109]⟩, .int .i64 2] 28)).drew.cell? ⟨w.heap.size, 0, none⟩ = some (.int .i64 4) ∧ (w.alloc (.cells #[.int .i64 4, .string ⟨#[109]⟩, .int .i64 2] 28)).drew.cell? ⟨w.heap.size, 1, none⟩ = some (.string ⟨#[109]⟩) ∧ (w.alloc (.cells #[.int .i64 4, .string ⟨#[109]⟩, .int .i64 2] 28)).drew.cell? ⟨w.heap.size, 2, none⟩ = some (.int .i64 2) ∧ Below w.heap.size w (w.alloc (.cells #[.int .i64 4, .string ⟨#[109]⟩, .int .i64 2] 28)).drew :=
    ⟨by simp, by simp, by simp, (bel1 _ _).drew⟩
  go_enter Try.func27, Try.ntmps27
  go_wp2
  generalize (w.alloc (.cells #[.int .i64 4, .string ⟨#[109]⟩, .int .i64 2] 28)) = W0 at *
  have tokA : True := trivial
  go_region_held3 (fun w' => w'.cell? ⟨w.heap.size, 0, none⟩ = some (.int .i64 4) ∧ w'.cell? ⟨w.heap.size, 1, none⟩ = some (.string ⟨#[109]⟩) ∧ w'.cell? ⟨w.heap.size, 2, none⟩ = some (.int .i64 2) ∧ Below w.heap.size w w')
    (first | with_reducible exact hS0 | with_reducible exact hS1 | with_reducible exact hS2 | with_reducible exact hS3)
    (first
      | (have _t := tokA; go_at_call 23; refine (addA1_any _ _ rfl).mono ?_; rintro e w1 ⟨g1, cap1, rfl, hT1, hb1⟩; have hS1 := regS hS0 hb1; have tokB : True := trivial; clear tokA)
      | (have _t := tokB; go_at_call 23; refine (addA2_any _ _ hT1).mono ?_; rintro e w2 ⟨g2, cap2, rfl, hT2, hb2⟩; have hS2 := regS hS1 hb2; have tokC : True := trivial; clear tokB)
      | (have _t := tokC; go_at_call 23; refine (addA3_any _ _ hT2).mono ?_; rintro e w3 ⟨g3, cap3, rfl, hT3, hb3⟩; have hS3 := regS hS2 hb3; clear tokC))
  clear hS0 hS1 hS2 hT1 hT2 hb1 hb2 hb3
  obtain ⟨k0, k1, k2, hb⟩ := hS3
  go_wp2_with fail
  refine (most_any _ sA _ _ hT3).mono ?_
  rintro e w4 ⟨rfl, hb4⟩
  rw [linesA, mostA]
  replace hT3 := hT3.later goodT hb4
  replace k0 := cell_later hb4 k0
  replace k1 := cell_later hb4 k1
  replace k2 := cell_later hb4 k2
  replace hb := nstep hb hb4
  clear hb4
  go_wp2_with fail
  refine (all_any _ sA _ _ hT3).mono ?_
  rintro e w5 ⟨rfl, hb5⟩
  rw [linesA, sumA]
  replace hT3 := hT3.later goodT hb5
  replace hb := nstep hb hb5
  clear hb5 k0 k1 k2
  go_wp2_with fail
  refine (towns_any _ _ _ hT3 (by simp) (by simp)).mono ?_
  rintro e w6 ⟨g, gs, rfl, -, -, hb6⟩
  go_wp2
  go_ret
  exact ⟨rfl, nstep hb hb6⟩
end Go.Proofs.Ytidjpdpbjgnfkaa
