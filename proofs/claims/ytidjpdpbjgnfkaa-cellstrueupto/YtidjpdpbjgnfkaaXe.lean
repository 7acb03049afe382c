/- The closed fact of chapter 6. -/
import Derived.Test.YtidjpdpbjgnfkaaXd
import Derived.Test.YtidjpdpbjgnfkaaTf
namespace Go.Proofs.Ytidjpdpbjgnfkaa
open Go.ChangeShapes Go.WideShapes Go.ChangeAt Go.RowKit
set_option linter.unusedSimpArgs false
set_option linter.unusedVariables false
set_option maxRecDepth 8000

theorem putA : putE [] sA 3 ⟨5, 4⟩ = [⟨sA, 3, false, [⟨5, 4⟩]⟩] := by simp [putE, withLineE, findI]
theorem getA3 : getE [⟨sA, 3, false, [⟨5, 4⟩]⟩] sA 3 5 = 4 := by simp [getE, lineE, eqS_self]
theorem getA2 : getE [⟨sA, 3, false, [⟨5, 4⟩]⟩] sA 2 5 = -1 := by simp [getE, lineE, eqS_self]
theorem findA : findE newX.classes 3 ⟨#[43]⟩ = (3, 1) := by kernel_rfl
theorem cfindA : cfindE [] newX sA 3 ⟨#[43]⟩ = ([⟨sA, 0, false, [⟨3, 3⟩]⟩], (3, 1), false) := by
  unfold cfindE
  rw [findA]
  simp [getE, hasB, putE, withLineE, findI, newX]
theorem nilCells {P : Nat → Prop} (w : World) : IsCells P w (.slice none 0 0) [] := ⟨none, 0, rfl, by simp, by simp, by simp, fun i x hx => by simp at hx⟩
theorem putA_any (w : World) : Calls Try.prog 12 #[.slice none 0 0, SV sA, .int .i64 3, .int .i64 5, .int .i64 4] w fun e w' => ∃ g cap, e = .returned (.slice (some ⟨g, 0, none⟩) 1 cap) ∧ IsCells (fun b => w.heap.size ≤ b) w' (.slice (some ⟨g, 0, none⟩) 1 cap) [⟨sA, 3, false, [⟨5, 4⟩]⟩] ∧ Below w.heap.size w w' := by
  refine (put_any (P := fun _ => False) [] _ sA 3 5 4 w (nilCells w) (by simp) (by simp)).mono ?_
  rw [putA]
  exact fun e w' h => h
theorem cfindA_any {P : Nat → Prop} (cv hv : Value) (w : World) (hC : IsClasses P w cv newX.classes) (hH : IsHeap P w hv []) : Calls Try.prog 16 #[.slice none 0 0, WV cv hv 0, SV sA, .int .i64 3, .string ⟨#[43]⟩] w fun e w' => ∃ a k, e = .returned (.tuple #[.slice a 1 k, .int .i64 3, .int .i64 1, .bool false]) ∧ Below w.heap.size w w' := by
  refine (cfind_any [] newX sA 3 ⟨#[43]⟩ _ cv hv w (nilCells w) hC hH (by simp) (by simp)).mono ?_
  rw [cfindA]
  rintro e w' ⟨a, k, h1, -, h3⟩
  exact ⟨a, k, h1, h3⟩
structure AlR (w : World) (v : Value) (w' : World) : Prop where
  bel : Below w.heap.size w w'
  cl : IsCells (fun _ => True) w' v [⟨sA, 3, false, [⟨5, 4⟩]⟩]
theorem alS {w : World} {v : Value} {p0 p1 p2 : Addr} {y0 y1 y2 : Value} {w' w'' : World} (h : w'.cell? p0 = some y0 ∧ w'.cell? p1 = some y1 ∧ w'.cell? p2 = some y2 ∧ AlR w v w') (hb : Below w'.heap.size w' w'') : w''.cell? p0 = some y0 ∧ w''.cell? p1 = some y1 ∧ w''.cell? p2 = some y2 ∧ AlR w v w'' :=
  ⟨cell_later hb h.1, cell_later hb h.2.1, cell_later hb h.2.2.1, nstep h.2.2.2.bel hb, h.2.2.2.cl.later goodE hb⟩

set_option maxHeartbeats 2000000 in
theorem alive6 (w : World) : Calls Try.prog 18 #[] w fun e w' => e = .returned (.bool true) ∧ Below w.heap.size w w' := by
  have hb0 := bel1 w (.cells #[.int .i64 4, .string ⟨#[109]⟩, .int .i64 2] 28)
  have hs0 := siteNew w sA 28
  go_enter Try.func18, Try.ntmps18
  go_wp2_with fail
  refine (putA_any _).mono ?_
  rintro e w1 ⟨g1, cap1, rfl, hC1, hb1⟩
  obtain ⟨k0, k1, k2⟩ := hs0.later hb1
  have hS0 := alS (And.intro k0 (And.intro k1 (And.intro k2 (⟨nstep hb0 hb1, hC1.mono goodE fun _ _ => trivial⟩ : AlR w (.slice (some ⟨g1, 0, none⟩) 1 cap1) w1)))) (Below.refl _ w1).drew
  clear k0 k1 k2 hC1 hb1 hb0 hs0
  go_wp2
  have tokA : True := trivial
  go_region_held3 (fun w' => w'.cell? ⟨w.heap.size, 0, none⟩ = some (.int .i64 4) ∧ w'.cell? ⟨w.heap.size, 1, none⟩ = some (.string ⟨#[109]⟩) ∧ w'.cell? ⟨w.heap.size, 2, none⟩ = some (.int .i64 2) ∧ AlR w (.slice (some ⟨g1, 0, none⟩) 1 cap1) w')
    (first | with_reducible exact hS0 | with_reducible exact hS1 | with_reducible exact hS2)
    (first
      | (have _t := tokA; go_at_call 36; refine (rnew_any _).mono ?_; rintro e w2 ⟨cv, hv, rfl, hC2, hH2, hb2⟩; have hS1 := alS hS0 hb2; have tokB : True := trivial; clear tokA)
      | (have _t := tokB; go_at_call 16; refine (cfindA_any cv hv _ hC2 hH2).mono ?_; rintro e w3 ⟨a3, k3, rfl, hb3⟩; have hS2 := alS hS1 hb3; clear tokB))
  obtain ⟨k0, k1, k2, hR⟩ := hS2
  clear hS0 hS1 hC2 hH2 hb2 hb3
  go_wp2_with fail
  refine (get_any _ _ sA 3 5 _ hR.cl).mono ?_
  rintro e w4 ⟨rfl, hb4⟩
  rw [getA3]
  obtain ⟨k0, k1, k2, hR⟩ := alS ⟨k0, k1, k2, hR⟩ hb4
  clear hb4
  go_wp2_with fail
  refine (get_any _ _ sA 2 5 _ hR.cl).mono ?_
  rintro e w5 ⟨rfl, hb5⟩
  rw [getA2]
  obtain ⟨k0, k1, k2, hR⟩ := alS ⟨k0, k1, k2, hR⟩ hb5
  clear hb5
  go_wp2_with fail
  refine (eowns_any _ _ _ hR.cl (by simp) (by simp)).mono ?_
  rintro e w6 ⟨g, rfl, -, -, hb6⟩
  go_wp2
  go_ret
  exact ⟨rfl, nstep hR.bel hb6⟩
end Go.Proofs.Ytidjpdpbjgnfkaa
