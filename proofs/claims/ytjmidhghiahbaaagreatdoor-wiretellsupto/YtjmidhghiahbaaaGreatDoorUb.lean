/- Package wire: wrongHeap. -/
import Derived.Test.YtjmidhghiahbaaaGreatDoorUa
import Derived.Test.YtjmidhghiahbaaaGreatDoorKi
namespace Go.Proofs.YtjmidhghiahbaaaGreatDoor
open Go.ChangeShapes Go.WideShapes Go.ChangeAt Go.RowKit
set_option linter.unusedSimpArgs false
set_option linter.unusedVariables false
set_option maxRecDepth 8000

/-- The world's box. -/
structure WbS (w : World) (X : QW) (cv hv : Value) (w' : World) : Prop where
  bel : Below w.heap.size w w'
  a0 : w'.cell? ⟨w.heap.size, 0, none⟩ = some cv
  a1 : w'.cell? ⟨w.heap.size, 1, none⟩ = some hv
  a2 : w'.cell? ⟨w.heap.size, 2, none⟩ = some (.int .i64 X.epoch)
theorem WbS.later {w : World} {X : QW} {cv hv : Value} {w' w1 : World} (h : WbS w X cv hv w') (hb : Below w'.heap.size w' w1) : WbS w X cv hv w1 :=
  ⟨nstep h.bel hb, cell_later hb h.a0, cell_later hb h.a1, cell_later hb h.a2⟩
theorem wb_start (w : World) (X : QW) (cv hv : Value) : WbS w X cv hv (w.alloc (Obj.cells #[cv, hv, Value.int IntKind.i64 X.epoch] 25)) :=
  ⟨bel1 _ _, by rw [cell_new _ _ _ _ rfl]; rfl, by rw [cell_new _ _ _ _ rfl]; rfl, by rw [cell_new _ _ _ _ rfl]; rfl⟩
/-- .. and that of an object. -/
structure WbO (w : World) (X : QW) (cv hv : Value) (x : QO) (sv : Value) (Bo : Nat) (w' : World) : Prop where
  S : WbS w X cv hv w'
  o0 : w'.cell? ⟨Bo, 0, none⟩ = some (.int .i64 x.cls)
  o1 : w'.cell? ⟨Bo, 1, none⟩ = some sv
theorem WbO.later {w : World} {X : QW} {cv hv : Value} {x : QO} {sv : Value} {Bo : Nat} {w' w1 : World} (h : WbO w X cv hv x sv Bo w') (hb : Below w'.heap.size w' w1) : WbO w X cv hv x sv Bo w1 :=
  ⟨h.S.later hb, cell_later hb h.o0, cell_later hb h.o1⟩
theorem woA {w : World} {X : QW} {cv hv : Value} {x : QO} {sv : Value} {Bo : Nat} {w' : World} (h : WbO w X cv hv x sv Bo w') : w'.cell? ⟨Bo, 0, none⟩ = some (.int .i64 x.cls) ∧ w'.cell? ⟨Bo, 1, none⟩ = some sv ∧ w'.cell? ⟨w.heap.size, 0, none⟩ = some cv ∧ w'.cell? ⟨w.heap.size, 1, none⟩ = some hv ∧ w'.cell? ⟨w.heap.size, 2, none⟩ = some (.int .i64 X.epoch) ∧ WbO w X cv hv x sv Bo w' := ⟨h.o0, h.o1, h.S.a0, h.S.a1, h.S.a2, h⟩
theorem woB {w : World} {X : QW} {cv hv : Value} {x : QO} {sv : Value} {Bo : Nat} {w' w1 : World} {p1 p2 p3 p4 p5 : Prop} (h : p1 ∧ p2 ∧ p3 ∧ p4 ∧ p5 ∧ WbO w X cv hv x sv Bo w') (hb : Below w'.heap.size w' w1) : w1.cell? ⟨Bo, 0, none⟩ = some (.int .i64 x.cls) ∧ w1.cell? ⟨Bo, 1, none⟩ = some sv ∧ w1.cell? ⟨w.heap.size, 0, none⟩ = some cv ∧ w1.cell? ⟨w.heap.size, 1, none⟩ = some hv ∧ w1.cell? ⟨w.heap.size, 2, none⟩ = some (.int .i64 X.epoch) ∧ WbO w X cv hv x sv Bo w1 := woA (h.2.2.2.2.2.later hb)
theorem cslots_c {P : Nat → Prop} (X : QW) (c : Int) (cv hv : Value) (w : World) (hh : IsClasses P w cv X.classes) (hH : IsHeap P w hv X.heap) (S : Int) (hS : slotsW X.classes c = S) : Calls Tryz.prog 33 #[WV cv hv X.epoch, .int .i64 c] w fun e w' => e = .returned (.int .i64 S) ∧ Below w.heap.size w w' := by
  have := slotsW_any X c cv hv w hh hH
  rw [hS] at this
  exact this
theorem below_c {n c : Int} {b : Bool} (hb : belowB n c = b) (w : World) (hn : 0 ≤ n ∧ n ≤ 1000) : Calls Tryz.prog 32 #[.int .i64 n, .int .i64 c] w fun e w' => e = .returned (.bool b) ∧ w' = w := by
  have := madeBelow_any n c w hn
  rw [hb] at this
  exact this
theorem below_d {n c : Int} {b : Bool} (hb : belowB n c = b) (w : World) (hn : 0 ≤ n ∧ n ≤ 1000) : Calls Tryz.prog 32 #[.int .i64 n, .int .i64 c] w fun e w' => e = .returned (.bool b) ∧ Below w.heap.size w w' := by
  refine (below_c hb w hn).mono ?_
  rintro e w' ⟨rfl, rfl⟩
  exact ⟨rfl, Below.refl _ _⟩

set_option maxRecDepth 100000 in
set_option maxHeartbeats 4000000 in
theorem wrongHeap_any {P : Nat → Prop} (X : QW) (cv hv : Value) (w : World) (hh : IsClasses P w cv X.classes) (hH : IsHeap P w hv X.heap) (hn12 : X.classes.length ≤ 12) : Calls Tryz.prog 14 #[WV cv hv X.epoch] w fun e w' => e = .returned (.int .i64 (firstE (roE X) 0 X.heap)) ∧ Below w.heap.size w w' := by
  obtain ⟨ad, cap, rfl, hl, hcap, hby, -⟩ := id hh
  obtain ⟨ah, ch, rfl, hlh, hcaph, hbyh, hrowH⟩ := id hH
  unfold maxLen at hcap hcaph
  have HFA : Hid (∀ (j : Nat) x (v : Int), X.heap[j]? = some x → (∀ i y, i < j → X.heap[i]? = some y → roE X i y = 0) → roE X j x = v → v ≠ 0 → v = firstE (roE X) 0 X.heap) := fun j x v hx hD e hv => by
    subst e
    exact (firstE_at hx hv hD).symm
  have HF0 : Hid ((∀ i y, X.heap[i]? = some y → roE X i y = 0) → 0 = firstE (roE X) 0 X.heap) := fun h => (firstE_zero h).symm
  generalize firstE (roE X) 0 X.heap = R at *
  go_enter Tryz.func14, Tryz.ntmps14
  go_upto_region 1 with (fail)
  have hS := wb_start w X (.slice ad X.classes.length cap) (.slice ah X.heap.length ch)
  generalize (w.alloc (Obj.cells #[Value.slice ad X.classes.length cap, Value.slice ah X.heap.length ch, Value.int IntKind.i64 X.epoch] 25)) = W0 at *
  have a1 := hS.a1
  go_wp2
  clear a1
  go_loopg [11] X.heap.length (fun g i wr => ∃ j : Nat, j + g = X.heap.length ∧ i = .int .i64 j ∧ WbS w X (.slice ad X.classes.length cap) (.slice ah X.heap.length ch) wr ∧ ∀ i y, i < j → X.heap[i]? = some y → roE X i y = 0)
  case atStart => exact ⟨0, by omega, rfl, hS, fun i x h => by omega⟩
  case round =>
    clear hS
    obtain ⟨j, hg3, rfl, hS, hD⟩ := hrel
    have HD : Hid (∀ i y, i < j → X.heap[i]? = some y → roE X i y = 0) := hD
    clear hD
    by_cases hj : j < X.heap.length
    · have hj1 : (j : Int) < (X.heap.length : Int) := by omega
      have hj0 : (0 : Int) ≤ (j : Int) := by omega
      obtain ⟨x, hx⟩ : ∃ x, X.heap[j]? = some x := ⟨_, List.getElem?_eq_getElem hj⟩
      obtain ⟨b, o, rfl, -, v0, sv, v1, hV⟩ := hrowH j x hx
      obtain ⟨ad2, cap2, rfl, hl2, hcap2, hby2, hrow2⟩ := id hV
      unfold maxLen at hcap2
      have HBD : Hid (∀ v : Int, roE X j x = v → v ≠ 0 → v = R) := fun v e hv => HFA.out j x v hx HD.out e hv
      have HKO : Hid (roE X j x = 0 → ∀ i y, i < j + 1 → X.heap[i]? = some y → roE X i y = 0) := fun h i y hi hy => by
        by_cases hij : i = j
        · subst hij
          rw [hx] at hy
          cases hy
          exact h
        · exact HD.out i y (by omega) hy
      clear HD hx
      simp only [Nat.add_zero] at v0
      replace v0 := cell_later hS.bel v0
      replace v1 := cell_later hS.bel v1
      have hO : WbO w X (.slice ad X.classes.length cap) (.slice (some ⟨b, o, none⟩) X.heap.length ch) x (.slice ad2 x.slots.length cap2) wr.heap.size (wr.alloc (Obj.cells #[Value.int IntKind.i64 x.cls, Value.slice ad2 x.slots.length cap2] 49)) :=
        ⟨hS.later (bel1 _ _), by rw [cell_new _ _ _ _ rfl]; rfl, by rw [cell_new _ _ _ _ rfl]; rfl⟩
      go_upto_region 4 with (fail)
      clear v0 v1 hS
      generalize wr.heap.size = Bo at *
      generalize (wr.alloc (Obj.cells #[Value.int IntKind.i64 x.cls, Value.slice ad2 x.slots.length cap2] 49)) = W2 at *
      have o0 := hO.o0
      have o1 := hO.o1
      have a0 := hO.S.a0
      have a1 := hO.S.a1
      have a2 := hO.S.a2
      cases hbl : belowB (X.classes.length : Int) x.cls
      · have H8 : Hid (8 = R) := HBD.out 8 (by unfold roE; rw [if_pos (Or.inl hbl)]) (by decide)
        go_quiet (first | (go_at_call 32; refine Calls.quiet_of_same (below_c hbl _ ⟨by omega, by omega⟩)))
        go_wp2
        go_ret
        exact ⟨ret_i H8.out, below_drewN hO.S.bel _⟩
      obtain ⟨S, hSl⟩ : ∃ S, slotsW X.classes x.cls = S := ⟨_, rfl⟩
      obtain ⟨bb, hbb⟩ : ∃ bb, bb = ((x.slots.length : Int) != S) := ⟨_, rfl⟩
      go_cut [31] (fun s wx => s = .bool bb ∧ WbO w X (.slice ad X.classes.length cap) (.slice (some ⟨b, o, none⟩) X.heap.length ch) x (.slice ad2 x.slots.length cap2) Bo wx)
      case first =>
        have hSd := woA (hO.later (Below.refl _ _).drew)
        clear o0 o1 a0 a1 a2 hO
        go_region_held3 (fun w' => w'.cell? ⟨Bo, 0, none⟩ = some (.int .i64 x.cls) ∧ w'.cell? ⟨Bo, 1, none⟩ = some (.slice ad2 x.slots.length cap2) ∧ w'.cell? ⟨w.heap.size, 0, none⟩ = some (.slice ad X.classes.length cap) ∧ w'.cell? ⟨w.heap.size, 1, none⟩ = some (.slice (some ⟨b, o, none⟩) X.heap.length ch) ∧ w'.cell? ⟨w.heap.size, 2, none⟩ = some (.int .i64 X.epoch) ∧ WbO w X (.slice ad X.classes.length cap) (.slice (some ⟨b, o, none⟩) X.heap.length ch) x (.slice ad2 x.slots.length cap2) Bo w')
          (first | with_reducible exact hSd | with_reducible exact woB (‹_ ∧ _ ∧ _ ∧ _ ∧ _ ∧ WbO _ _ _ _ _ _ _ _›) hb)
          (first
            | (go_at_call 32; refine (below_d hbl _ ⟨by omega, by omega⟩).mono ?_; rintro e w' ⟨rfl, hb⟩)
            | (go_at_call 33; refine (cslots_c X x.cls _ _ _ (hh.later goodC (‹_ ∧ _ ∧ _ ∧ _ ∧ _ ∧ WbO _ _ _ _ _ _ _ _›).2.2.2.2.2.S.bel) (hH.later goodO (‹_ ∧ _ ∧ _ ∧ _ ∧ _ ∧ WbO _ _ _ _ _ _ _ _›).2.2.2.2.2.S.bel) S hSl).mono ?_; rintro e w' ⟨rfl, hb⟩))
        go_wp2_with fail
        go_meet
        case rel => exact ⟨by rw [hbb], (‹_ ∧ _ ∧ _ ∧ _ ∧ _ ∧ WbO _ _ _ _ _ _ _ _›).2.2.2.2.2⟩
      case rest =>
        clear hO o0 o1 a0 a1 a2
        obtain ⟨rfl, hO⟩ := hcut
        have HBT : Hid (belowB (X.classes.length : Int) x.cls = true) := hbl
        have HSL : Hid (slotsW X.classes x.cls = S) := hSl
        have HBBq : Hid (bb = ((x.slots.length : Int) != S)) := hbb
        clear hSl hbb hbl
        cases bb
        · have HF : Hid (roE X j x = firstE (fun _ v => wrongV X.heap.length v) 0 x.slots) := by
            have h1 := HBBq.out
            show _ = _
            unfold roE
            rw [if_neg]
            rw [HBT.out, HSL.out]
            simpa using h1
          have HV : Hid (∀ (i : Nat) (y : QV), x.slots[i]? = some y → (∀ k z, k < i → x.slots[k]? = some z → wrongV X.heap.length z = 0) → wrongV X.heap.length y ≠ 0 → wrongV X.heap.length y = R) := fun i y hy hi hv => HBD.out _ (by rw [HF.out]; exact firstE_at (f := fun _ v => wrongV X.heap.length v) hy hv hi) hv
          have HV0 : Hid ((∀ k z, x.slots[k]? = some z → wrongV X.heap.length z = 0) → ∀ i y, i < j + 1 → X.heap[i]? = some y → roE X i y = 0) := fun h => HKO.out (by rw [HF.out]; exact firstE_zero h)
          clear HF HBD HKO HBBq HSL HBT
          have o1 := hO.o1
          go_wp2
          clear o1
          obtain ⟨go, hgo⟩ : ∃ go, go = gk := ⟨_, rfl⟩
          go_loopg [35] x.slots.length (fun g i wi => ∃ t : Nat, t + g = x.slots.length ∧ i = .int .i64 t ∧ WbO w X (.slice ad X.classes.length cap) (.slice (some ⟨b, o, none⟩) X.heap.length ch) x (.slice ad2 x.slots.length cap2) Bo wi ∧ ∀ k z, k < t → x.slots[k]? = some z → wrongV X.heap.length z = 0)
          case atStart => exact ⟨0, by omega, rfl, hO, fun k z h => by omega⟩
          case round =>
            clear hO
            obtain ⟨t, ht, rfl, hO, hE⟩ := hrel
            have HE : Hid (∀ k z, k < t → x.slots[k]? = some z → wrongV X.heap.length z = 0) := hE
            clear hE
            by_cases htl : t < x.slots.length
            · have ht1 : (t : Int) < (x.slots.length : Int) := by omega
              have ht0 : (0 : Int) ≤ (t : Int) := by omega
              obtain ⟨y, hy⟩ : ∃ y, x.slots[t]? = some y := ⟨_, List.getElem?_eq_getElem htl⟩
              obtain ⟨b2, o2, rfl, -, p0, p1⟩ := hrow2 t y hy
              simp only [Nat.add_zero] at p0
              replace p0 := cell_later hO.S.bel p0
              replace p1 := cell_later hO.S.bel p1
              have hb1 := bel1 wr (Obj.cells #[Value.int IntKind.i64 y.k, Value.int IntKind.i64 y.n] 51)
              have a1 := cell_later hb1 hO.S.a1
              have HBX : Hid (wrongV X.heap.length y ≠ 0 → wrongV X.heap.length y = R) := fun h => HV.out t y hy HE.out h
              have HNX : Hid (wrongV X.heap.length y = 0 → ∀ k z, k < t + 1 → x.slots[k]? = some z → wrongV X.heap.length z = 0) := fun h k z hk hz => by
                by_cases hkt : k = t
                · subst hkt; rw [hy] at hz; cases hz; exact h
                · exact HE.out k z (by omega) hz
              clear HE hy
              go_wp2_with fail
              refine (vwrong_any y X.heap.length _).mono ?_
              rintro e w5 ⟨rfl, hb⟩
              replace hO := hO.later (nstep hb1 hb)
              clear hb hb1 a1 p0 p1
              generalize wrongV X.heap.length y = wv at *
              by_cases wz : wv = 0
              · have wz' : (wv != 0) = false := by simp [wz]
                have HNY : Hid (∀ k z, k < t + 1 → x.slots[k]? = some z → wrongV X.heap.length z = 0) := HNX.out wz
                clear wz
                go_wp2
                go_roundg (gk - 1)
                case measure => omega
                case rel => exact ⟨t + 1, by omega, by go_num, hO, HNY.out⟩
              · have wz' : (wv != 0) = true := by simpa using wz
                have HRW : Hid (wv = R) := HBX.out wz
                clear wz
                go_wp2
                go_ret
                exact ⟨ret_i HRW.out, hO.S.bel⟩
            · obtain rfl : t = x.slots.length := by omega
              have HKK : Hid (∀ i y, i < j + 1 → X.heap[i]? = some y → roE X i y = 0) := HV0.out fun k z hz => HE.out k z (lt_of_get hz) hz
              go_wp2
              go_roundg (go - 1)
              case measure => omega
              case rel => exact ⟨j + 1, by omega, by go_num, hO.S, HKK.out⟩
        · have H8b : Hid (8 = R) := HBD.out 8 (by
            have h1 := HBBq.out
            unfold roE
            rw [if_pos (Or.inr (by rw [HSL.out]; simpa using h1.symm))]) (by decide)
          go_wp2
          go_ret
          exact ⟨ret_i H8b.out, hO.S.bel⟩
    · obtain rfl : j = X.heap.length := by omega
      have HOK : Hid (0 = R) := HF0.out fun i y hy => HD.out i y (lt_of_get hy) hy
      go_wp2
      go_ret
      exact ⟨ret_i HOK.out, hS.bel⟩
end Go.Proofs.YtjmidhghiahbaaaGreatDoor
