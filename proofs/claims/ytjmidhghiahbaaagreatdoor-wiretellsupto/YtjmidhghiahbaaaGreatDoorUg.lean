/- Package wire: Right. -/
import Derived.Test.YtjmidhghiahbaaaGreatDoorUf
namespace Go.Proofs.YtjmidhghiahbaaaGreatDoor
open Go.ChangeShapes Go.WideShapes Go.ChangeAt Go.RowKit
set_option linter.unusedSimpArgs false
set_option linter.unusedVariables false
set_option maxRecDepth 8000

theorem right_split {X : QW} : rightE X = if sizeE X ≠ 0 then sizeE X else if firstE (rcE X.classes) 0 X.classes ≠ 0 then firstE (rcE X.classes) 0 X.classes else if firstE (rkE X) 0 X.classes ≠ 0 then firstE (rkE X) 0 X.classes else firstE (roE X) 0 X.heap := by
  unfold rightE sizeE
  by_cases h1 : X.classes.length < 4 ∨ 12 < X.classes.length ∨ 60 < X.heap.length
  · rw [if_pos h1, if_pos h1]; simp
  · rw [if_neg h1, if_neg h1]
    by_cases h2 : X.epoch < 0 ∨ 1073741824 < X.epoch
    · rw [if_pos h2, if_pos h2]; simp
    · rw [if_neg h2, if_neg h2]; simp
theorem size_twelve {X : QW} (h : sizeE X = 0) : X.classes.length ≤ 12 := by
  unfold sizeE at h
  split at h
  · cases h
  · omega
set_option maxHeartbeats 2000000 in
theorem wright_any {P : Nat → Prop} (X : QW) (cv hv : Value) (w : World) (hh : IsClasses P w cv X.classes) (hH : IsHeap P w hv X.heap) : Calls Tryz.prog 4 #[WV cv hv X.epoch] w fun e w' => e = .returned (.int .i64 (rightE X)) ∧ Below w.heap.size w w' := by
  obtain ⟨ad, cap, rfl⟩ := hh.get
  obtain ⟨ah, ch, rfl⟩ := hH.get
  rw [right_split]
  have H12 : Hid (sizeE X = 0 → X.classes.length ≤ 12) := size_twelve
  have hA := fun w' (h : Below w.heap.size w w') => wrongSize_any X _ _ w' (hh.later goodC h) (hH.later goodO h)
  have hB := fun (hn : X.classes.length ≤ 12) w' (h : Below w.heap.size w w') => wrongClasses_any X _ _ w' (hh.later goodC h) (hH.later goodO h) hn
  have hC := fun w' (h : Below w.heap.size w w') => wrongMethods_any X _ _ w' (hh.later goodC h) (hH.later goodO h)
  have hD := fun (hn : X.classes.length ≤ 12) w' (h : Below w.heap.size w w') => wrongHeap_any X _ _ w' (hh.later goodC h) (hH.later goodO h) hn
  generalize sizeE X = r1 at *
  generalize firstE (rcE X.classes) 0 X.classes = r2 at *
  generalize firstE (rkE X) 0 X.classes = r3 at *
  generalize firstE (roE X) 0 X.heap = r4 at *
  obtain ⟨R, hR⟩ : ∃ R, R = (if r1 ≠ 0 then r1 else if r2 ≠ 0 then r2 else if r3 ≠ 0 then r3 else r4) := ⟨_, rfl⟩
  rw [← hR]
  have HR : Hid (R = (if r1 ≠ 0 then r1 else if r2 ≠ 0 then r2 else if r3 ≠ 0 then r3 else r4)) := hR
  clear hR
  go_enter Tryz.func4, Tryz.ntmps4
  go_upto_region 1 with (fail)
  have hS := wb_start w X (.slice ad X.classes.length cap) (.slice ah X.heap.length ch)
  generalize (w.alloc (Obj.cells #[Value.slice ad X.classes.length cap, Value.slice ah X.heap.length ch, Value.int IntKind.i64 X.epoch] 25)) = W0 at *
  have a0 := hS.a0
  have a1 := hS.a1
  have a2 := hS.a2
  go_wp2_with fail
  refine (hA _ hS.bel).mono ?_
  rintro e w1 ⟨rfl, hb⟩
  replace hS := hS.later hb
  clear hb a0 a1 a2
  by_cases h1 : r1 = 0
  case neg =>
    have h1' : (r1 != 0) = true := by simpa using h1
    have HQ : Hid (r1 = R) := by show _ = _; rw [HR.out, if_pos h1]
    clear h1 HR
    go_wp2
    go_ret
    exact ⟨ret_i HQ.out, hS.bel⟩
  have hn12 := H12.out h1
  have h1' : (r1 != 0) = false := by simp [h1]
  have HR2 : Hid (R = (if r2 ≠ 0 then r2 else if r3 ≠ 0 then r3 else r4)) := by show _ = _; rw [HR.out, if_neg (by simp [h1])]
  clear h1 HR
  have a0 := hS.a0
  have a1 := hS.a1
  have a2 := hS.a2
  go_wp2_with fail
  refine (hB hn12 _ hS.bel).mono ?_
  rintro e w2 ⟨rfl, hb⟩
  replace hS := hS.later hb
  clear hb a0 a1 a2 h1'
  by_cases h2 : r2 = 0
  case neg =>
    have h2' : (r2 != 0) = true := by simpa using h2
    have HQ : Hid (r2 = R) := by show _ = _; rw [HR2.out, if_pos h2]
    clear h2 HR2
    go_wp2
    go_ret
    exact ⟨ret_i HQ.out, hS.bel⟩
  have h2' : (r2 != 0) = false := by simp [h2]
  have HR3 : Hid (R = (if r3 ≠ 0 then r3 else r4)) := by show _ = _; rw [HR2.out, if_neg (by simp [h2])]
  clear h2 HR2
  have a0 := hS.a0
  have a1 := hS.a1
  have a2 := hS.a2
  go_wp2_with fail
  refine (hC _ hS.bel).mono ?_
  rintro e w3 ⟨rfl, hb⟩
  replace hS := hS.later hb
  clear hb a0 a1 a2 h2'
  by_cases h3 : r3 = 0
  case neg =>
    have h3' : (r3 != 0) = true := by simpa using h3
    have HQ : Hid (r3 = R) := by show _ = _; rw [HR3.out, if_pos h3]
    clear h3 HR3
    go_wp2
    go_ret
    exact ⟨ret_i HQ.out, hS.bel⟩
  have h3' : (r3 != 0) = false := by simp [h3]
  have HR4 : Hid (r4 = R) := by show _ = _; rw [HR3.out, if_neg (by simp [h3])]
  clear h3 HR3
  have a0 := hS.a0
  have a1 := hS.a1
  have a2 := hS.a2
  go_wp2_with fail
  refine (hD hn12 _ hS.bel).mono ?_
  rintro e w4 ⟨rfl, hb⟩
  replace hS := hS.later hb
  clear hb a0 a1 a2 h3'
  go_wp2
  go_ret
  exact ⟨ret_i HR4.out, hS.bel⟩
end Go.Proofs.YtjmidhghiahbaaaGreatDoor
