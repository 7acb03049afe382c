/- WireTurns' walk. -/
import Derived.Test.YtgijdaencfgmpaaDoorWn
namespace Go.Proofs.YtgijdaencfgmpaaDoor
open Go.ChangeShapes Go.WideShapes Go.ChangeAt Go.RowKit
set_option linter.unusedSimpArgs false
set_option linter.unusedVariables false
set_option maxRecDepth 8000

theorem parse_bad {b : List UInt8} (h : (parseE b).2 ≠ 0) : parseE b = (⟨[], [], 0⟩, (parseE b).2) := by
  unfold parseE at *
  split at h
  · rename_i X hX
    split at h
    · simp at h
    · rename_i h0
      rw [if_neg h0]
  · rfl
set_option maxHeartbeats 4000000 in
theorem turns_any {P : Nat → Prop} (X : QW) (l : List UInt8) (cv hv bv : Value) (w : World) (hh : IsClasses P w cv X.classes) (hH : IsHeap P w hv X.heap) (hI : BytesIn w bv l) (hV : Vars w) : Calls Tryd.prog 3 #[WV cv hv X.epoch, bv] w fun e w' => e = .returned (.bool true) ∧ Below w.heap.size w w' := by
  obtain ⟨ac, cc, rfl⟩ := hh.get
  obtain ⟨ah, ch, rfl⟩ := hH.get
  obtain ⟨ab, kb, rfl, -⟩ := id hI
  have hS := lws_start hh hH hV
  replace hI := hI.later (bel1 w (.cells #[.slice ac X.classes.length cc, .slice ah X.heap.length ch, .int .i64 X.epoch] 25))
  clear hh hH hV
  go_enter Tryd.func3, Tryd.ntmps3
  go_upto_region 1 with (fail)
  generalize (w.alloc (.cells #[.slice ac X.classes.length cc, .slice ah X.heap.length ch, .int .i64 X.epoch] 25)) = W0 at *
  go_wp2_with (go_at_call 5; refine (alive_any _ hS.vars).mono ?_; rintro e w1 ⟨rfl, hb1⟩; refine Hid.out ?_)
  refine Lib.hid ?_
  replace hS := hS.later hb1
  replace hI := hI.later hb1
  clear hb1
  have c0 := hS.c0
  have c1 := hS.c1
  have c2 := hS.c2
  have hR := wright_any X _ _ w1 hS.cls hS.heap
  by_cases hr : rightE X = 0
  case neg =>
    have hr' : (rightE X == 0) = false := by simpa using hr
    clear hr
    generalize rightE X = r at *
    go_wp2_with (go_at_call 6; refine hR.mono ?_; rintro e w2 ⟨rfl, hb2⟩; refine Hid.out ?_)
    refine Lib.hid ?_
    replace hS := hS.later hb2
    replace hI := hI.later hb2
    clear hb2 c0 c1 c2 hR
    have hP := parse_any l _ w2 hI hS.vars
    by_cases hz : (parseE l).2 = 0
    case neg =>
      have HE : Hid (parseE l = (⟨[], [], 0⟩, (parseE l).2)) := parse_bad hz
      obtain ⟨n, HN⟩ : ∃ n, n = (parseE l).2 := ⟨_, rfl⟩
      rw [← HN] at HE hz
      rw [HE.out] at hP
      have hz' : (n != 0) = true := by simpa using hz
      clear HE HN hz
      go_wp2_with (go_at_call 7; refine hP.mono ?_; rintro e w4 ⟨cv4, hv4, rfl, hC4, hH4, hb4⟩; refine Hid.out ?_)
      refine Lib.hid ?_
      obtain ⟨a5, k5, rfl⟩ := hC4.get
      obtain ⟨a6, k6, rfl⟩ := hH4.get
      have HB := hid (hS.later hb4).bel
      clear hP hS hI hC4 hH4 hb4
      go_wp2
      go_ret
      exact ⟨rfl, nstep HB.out (bel1 _ _)⟩
    obtain ⟨Y, HY⟩ : ∃ Y, Y = (parseE l).1 := ⟨_, rfl⟩
    have hYE : parseE l = (Y, 0) := by rw [HY, ← hz]
    obtain ⟨hYr, hYl⟩ := parse_text hYE
    rw [hYE] at hP
    clear HY hYE hz
    go_wp2_with (go_at_call 7; refine hP.mono ?_; rintro e w4 ⟨cv4, hv4, rfl, hC4, hH4, hb4⟩; refine Hid.out ?_)
    refine Lib.hid ?_
    obtain ⟨a5, k5, rfl⟩ := hC4.get
    obtain ⟨a6, k6, rfl⟩ := hH4.get
    have hbx := heap_alloc_new w4 (.cells #[.slice a5 Y.classes.length k5, .slice a6 Y.heap.length k6, .int .i64 Y.epoch] 25)
    have hA : AlS w4.heap.size (.slice a5 Y.classes.length k5) (.slice a6 Y.heap.length k6) Y.epoch (.slice ab l.length kb) l Y (w4.alloc (.cells #[.slice a5 Y.classes.length k5, .slice a6 Y.heap.length k6, .int .i64 Y.epoch] 25)) :=
      ⟨by rw [cell_of_row _ _ _ _ _ _ hbx]; rfl, by rw [cell_of_row _ _ _ _ _ _ hbx]; rfl, by rw [cell_of_row _ _ _ _ _ _ hbx]; rfl, (hI.later hb4).later (bel1 _ _), (hC4.mono goodC fun _ _ => trivial).later goodC (bel1 _ _), (hH4.mono goodO fun _ _ => trivial).later goodO (bel1 _ _), (hS.vars.later hb4).later (bel1 _ _)⟩
    have hbel : Below w.heap.size w (w4.alloc (.cells #[.slice a5 Y.classes.length k5, .slice a6 Y.heap.length k6, .int .i64 Y.epoch] 25)) := nstep (hS.later hb4).bel (bel1 _ _)
    clear hbx hP hS hI hC4 hH4 hb4
    go_upto_region 10 with (fail)
    generalize (w4.alloc (.cells #[.slice a5 Y.classes.length k5, .slice a6 Y.heap.length k6, .int .i64 Y.epoch] 25)) = V at *
    generalize w4.heap.size = B at *
    have hR1 : ∀ (w : World), AlS B (.slice a5 Y.classes.length k5) (.slice a6 Y.heap.length k6) Y.epoch (.slice ab l.length kb) l Y w → Calls Tryd.prog 6 #[WV (.slice a5 Y.classes.length k5) (.slice a6 Y.heap.length k6) Y.epoch] w fun e w' => e = .returned (.int .i64 0) ∧ Below w.heap.size w w' := fun w h => by
      have := wright_any Y _ _ w h.cls h.heap
      rw [hYr] at this
      exact this
    have hB1 : ∀ (w : World), AlS B (.slice a5 Y.classes.length k5) (.slice a6 Y.heap.length k6) Y.epoch (.slice ab l.length kb) l Y w → Calls Tryd.prog 8 #[WV (.slice a5 Y.classes.length k5) (.slice a6 Y.heap.length k6) Y.epoch] w fun e w' => ∃ a k, e = .returned (.slice a l.length k) ∧ (convert 26 9 (.slice a l.length k)).run Tryd.prog w' = .ok (SV l) w' ∧ Below w.heap.size w w' := fun w h => by
      refine (bytes_any Y _ _ w h.cls h.heap hYr h.vars.tab).mono ?_
      rintro e w' ⟨v, rfl, hT, hb⟩
      have hI := hT.bytes (Nat.le_trans (worldW_len hYr) (by decide))
      obtain ⟨a, k, rfl, -⟩ := id hT
      rw [hYl] at hI ⊢
      exact ⟨a, k, rfl, hI.conv, hb⟩
    have hA0 := hA.later (Below.refl _ V).drew
    have HBV := hid (hbel.drew)
    clear hA hbel hYr hYl
    obtain ⟨d0, d1, d2, d3⟩ := hA0.al
    go_region_with (first
        | (go_at_call 6; refine (hR1 _ hA0).mono ?_; rintro e w5 ⟨rfl, hb5⟩; have hA5 := hA0.later hb5; have HB5 := hid (nstep HBV.out hb5); obtain ⟨e0, e1, e2, e3⟩ := hA5.al)
        | (go_at_call 8; refine (hB1 _ hA5).mono ?_; rintro e w6 ⟨a8, k8, rfl, hcv8, hb6⟩; have hA6 := hA5.later hb6; have HB6 := hid (nstep HB5.out hb6); obtain ⟨f0, f1, f2, f3⟩ := hA6.al))
    all_goals
      clear hA0 hA5 hA6 hR1 hB1
      go_wp2
      go_ret
      exact ⟨rfl, HB6.out⟩

  rw [hr] at hR
  go_wp2_with (go_at_call 6; refine hR.mono ?_; rintro e w2 ⟨rfl, hb2⟩; refine Hid.out ?_)
  refine Lib.hid ?_
  replace hS := hS.later hb2
  replace hI := hI.later hb2
  clear hb2 c0 c1 c2 hR
  have c0 := hS.c0
  have c1 := hS.c1
  have c2 := hS.c2
  have hB := bytes_any X _ _ w2 hS.cls hS.heap hr hS.vars.tab
  have hPr : ∀ (w : World) (v : Value), BytesIn w v (worldW X) → Vars w → Calls Tryd.prog 7 #[v] w (PaPost w X 0) := fun w v hb hV => by
    have := parse_any _ v w hb hV
    rw [parse_world (right_wok hr) hr] at this
    exact this
  have hlen := worldW_len hr
  go_wp2_with (first
    | (go_at_call 8; refine hB.mono ?_; rintro e w3 ⟨v3, rfl, hT3, hb3⟩; have hI3 := hT3.bytes (by omega); replace hS := hS.later hb3; replace hI := hI.later hb3)
    | (go_at_call 7; refine (hPr _ _ hI3 hS.vars).mono ?_; rintro e w4 ⟨cv4, hv4, rfl, hC4, hH4, hb4⟩; refine Hid.out ?_))
  refine Lib.hid ?_
  obtain ⟨a5, k5, rfl⟩ := hC4.get
  obtain ⟨a6, k6, rfl⟩ := hH4.get
  have hb5 := nstep hb4 (bel1 w4 (.cells #[.slice a5 X.classes.length k5, .slice a6 X.heap.length k6, .int .i64 X.epoch] 25))
  have hbx := heap_alloc_new w4 (.cells #[.slice a5 X.classes.length k5, .slice a6 X.heap.length k6, .int .i64 X.epoch] 25)
  replace hS := hS.later hb5
  replace hI := hI.later hb5
  replace hC4 := hC4.later goodC (bel1 w4 (.cells #[.slice a5 X.classes.length k5, .slice a6 X.heap.length k6, .int .i64 X.epoch] 25))
  replace hH4 := hH4.later goodO (bel1 w4 (.cells #[.slice a5 X.classes.length k5, .slice a6 X.heap.length k6, .int .i64 X.epoch] 25))
  clear c0 c1 c2 hb3 hb4 hb5 hT3 hI3 hB hPr hr hlen
  go_upto_region 5 with (fail)
  generalize (w4.alloc (.cells #[.slice a5 X.classes.length k5, .slice a6 X.heap.length k6, .int .i64 X.epoch] 25)) = V at *
  generalize w4.heap.size = B at *
  have c0 := hS.c0
  have c1 := hS.c1
  have c2 := hS.c2
  have x0 : V.cell? ⟨B, 0, none⟩ = some (.slice a5 X.classes.length k5) := by rw [cell_of_row _ _ _ _ _ _ hbx]; rfl
  have x1 : V.cell? ⟨B, 1, none⟩ = some (.slice a6 X.heap.length k6) := by rw [cell_of_row _ _ _ _ _ _ hbx]; rfl
  have x2 : V.cell? ⟨B, 2, none⟩ = some (.int .i64 X.epoch) := by rw [cell_of_row _ _ _ _ _ _ hbx]; rfl
  have hSm := same_any X _ _ _ _ V hC4 hH4 hS.cls hS.heap
  clear hbx hC4 hH4
  go_wp2_with (go_at_call 9; refine hSm.mono ?_; rintro e w6 ⟨rfl, hb6⟩; refine Hid.out ?_)
  refine Lib.hid ?_
  replace hS := hS.later hb6
  replace hI := hI.later hb6
  clear c0 c1 c2 x0 x1 x2 hSm hb6
  have hP := parse_any l _ w6 hI hS.vars
  by_cases hz : (parseE l).2 = 0
  case neg =>
    have HE : Hid (parseE l = (⟨[], [], 0⟩, (parseE l).2)) := parse_bad hz
    obtain ⟨n, HN⟩ : ∃ n, n = (parseE l).2 := ⟨_, rfl⟩
    rw [← HN] at HE hz
    rw [HE.out] at hP
    have hz' : (n != 0) = true := by simpa using hz
    clear HE HN hz
    go_wp2_with (go_at_call 7; refine hP.mono ?_; rintro e w7 ⟨cv4, hv4, rfl, hC4, hH4, hb4⟩; refine Hid.out ?_)
    refine Lib.hid ?_
    obtain ⟨a7, k7, rfl⟩ := hC4.get
    obtain ⟨a6, k6, rfl⟩ := hH4.get
    have HB := hid (hS.later hb4).bel
    clear hP hS hI hC4 hH4 hb4
    go_wp2
    go_ret
    exact ⟨rfl, nstep HB.out (bel1 _ _)⟩
  obtain ⟨Y, HY⟩ : ∃ Y, Y = (parseE l).1 := ⟨_, rfl⟩
  have hYE : parseE l = (Y, 0) := by rw [HY, ← hz]
  obtain ⟨hYr, hYl⟩ := parse_text hYE
  rw [hYE] at hP
  clear HY hYE hz
  go_wp2_with (go_at_call 7; refine hP.mono ?_; rintro e w7 ⟨cv4, hv4, rfl, hC4, hH4, hb4⟩; refine Hid.out ?_)
  refine Lib.hid ?_
  obtain ⟨a7, k7, rfl⟩ := hC4.get
  obtain ⟨a6, k6, rfl⟩ := hH4.get
  have hbx := heap_alloc_new w7 (.cells #[.slice a7 Y.classes.length k7, .slice a6 Y.heap.length k6, .int .i64 Y.epoch] 25)
  have hA : AlS w7.heap.size (.slice a7 Y.classes.length k7) (.slice a6 Y.heap.length k6) Y.epoch (.slice ab l.length kb) l Y (w7.alloc (.cells #[.slice a7 Y.classes.length k7, .slice a6 Y.heap.length k6, .int .i64 Y.epoch] 25)) :=
    ⟨by rw [cell_of_row _ _ _ _ _ _ hbx]; rfl, by rw [cell_of_row _ _ _ _ _ _ hbx]; rfl, by rw [cell_of_row _ _ _ _ _ _ hbx]; rfl, (hI.later hb4).later (bel1 _ _), (hC4.mono goodC fun _ _ => trivial).later goodC (bel1 _ _), (hH4.mono goodO fun _ _ => trivial).later goodO (bel1 _ _), (hS.vars.later hb4).later (bel1 _ _)⟩
  have hbel : Below w.heap.size w (w7.alloc (.cells #[.slice a7 Y.classes.length k7, .slice a6 Y.heap.length k6, .int .i64 Y.epoch] 25)) := nstep (hS.later hb4).bel (bel1 _ _)
  clear hbx hP hS hI hC4 hH4 hb4
  go_upto_region 10 with (fail)
  generalize (w7.alloc (.cells #[.slice a7 Y.classes.length k7, .slice a6 Y.heap.length k6, .int .i64 Y.epoch] 25)) = V at *
  generalize w7.heap.size = B at *
  have hR1 : ∀ (w : World), AlS B (.slice a7 Y.classes.length k7) (.slice a6 Y.heap.length k6) Y.epoch (.slice ab l.length kb) l Y w → Calls Tryd.prog 6 #[WV (.slice a7 Y.classes.length k7) (.slice a6 Y.heap.length k6) Y.epoch] w fun e w' => e = .returned (.int .i64 0) ∧ Below w.heap.size w w' := fun w h => by
    have := wright_any Y _ _ w h.cls h.heap
    rw [hYr] at this
    exact this
  have hB1 : ∀ (w : World), AlS B (.slice a7 Y.classes.length k7) (.slice a6 Y.heap.length k6) Y.epoch (.slice ab l.length kb) l Y w → Calls Tryd.prog 8 #[WV (.slice a7 Y.classes.length k7) (.slice a6 Y.heap.length k6) Y.epoch] w fun e w' => ∃ a k, e = .returned (.slice a l.length k) ∧ (convert 26 9 (.slice a l.length k)).run Tryd.prog w' = .ok (SV l) w' ∧ Below w.heap.size w w' := fun w h => by
    refine (bytes_any Y _ _ w h.cls h.heap hYr h.vars.tab).mono ?_
    rintro e w' ⟨v, rfl, hT, hb⟩
    have hI := hT.bytes (Nat.le_trans (worldW_len hYr) (by decide))
    obtain ⟨a, k, rfl, -⟩ := id hT
    rw [hYl] at hI ⊢
    exact ⟨a, k, rfl, hI.conv, hb⟩
  have hA0 := hA.later (Below.refl _ V).drew
  have HBV := hid (hbel.drew)
  clear hA hbel hYr hYl
  obtain ⟨d0, d1, d2, d3⟩ := hA0.al
  go_region_with (first
      | (go_at_call 6; refine (hR1 _ hA0).mono ?_; rintro e w8 ⟨rfl, hb5⟩; have hA5 := hA0.later hb5; have HB5 := hid (nstep HBV.out hb5); obtain ⟨e0, e1, e2, e3⟩ := hA5.al)
      | (go_at_call 8; refine (hB1 _ hA5).mono ?_; rintro e w9 ⟨a8, k8, rfl, hcv8, hb6⟩; have hA6 := hA5.later hb6; have HB6 := hid (nstep HB5.out hb6); obtain ⟨f0, f1, f2, f3⟩ := hA6.al))
  all_goals
    clear hA0 hA5 hA6 hR1 hB1
    go_wp2
    go_ret
    exact ⟨rfl, HB6.out⟩

end Go.Proofs.YtgijdaencfgmpaaDoor
