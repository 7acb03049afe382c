/- SameWorld of the reference, at worlds that are the same. -/
import Derived.Test.YtjmidhghiahbaaaGreatDoorDa
namespace Go.Proofs.YtjmidhghiahbaaaGreatDoor
open Go.ChangeShapes Go.WideShapes Go.ChangeAt Go.RowKit
set_option linter.unusedSimpArgs false
set_option linter.unusedVariables false
set_option maxRecDepth 8000

set_option maxHeartbeats 1000000 in
theorem sameCode_any {P Q : Nat → Prop} (xs : List QI) (va vb : Value) (w : World) (ha : IsCode P w va xs) (hb : IsCode Q w vb xs) : Calls Tryz.prog 28 #[va, vb] w fun e w' => e = .returned (.bool true) ∧ Below w.heap.size w w' := by
  obtain ⟨ad, cap, rfl, hl, hcap, hby, hrow⟩ := ha
  obtain ⟨ad', cap', rfl, hl', hcap', hby', hrow'⟩ := hb
  go_enter Tryz.func28, Tryz.ntmps28
  go_wp2
  go_loopg [13] xs.length (fun g c wr => ∃ j : Nat, j + g = xs.length ∧ c = .int .i64 j ∧ ∃ n, wr = w.drewN n)
  case atStart => exact ⟨0, by omega, rfl, 0, rfl⟩
  case round =>
    obtain ⟨j, hj, rfl, nn, rfl⟩ := hrel
    by_cases hlt : j < xs.length
    · obtain ⟨b, o, rfl, -, q0, q1, q2, q3, q4, -⟩ := hrow j xs[j] (by simp [hlt])
      obtain ⟨b', o', rfl, -, k0, k1, k2, k3, k4, -⟩ := hrow' j xs[j] (by simp [hlt])
      generalize xs[j] = x at *
      simp only [Nat.add_zero] at q0 k0
      have hj1 : (j : Int) < (xs.length : Int) := by omega
      have hj0 : (0 : Int) ≤ (j : Int) := by omega
      clear hrow hrow'
      go_wp2
      go_quiet (fail)
      go_wp2
      go_roundg (gk - 1)
      case measure => omega
      case rel => exact ⟨j + 1, by omega, by go_num, _, rfl⟩
    · go_wp2
      go_ret
      exact ⟨rfl, below_drewN (Below.refl _ _) _⟩

set_option maxRecDepth 100000 in
set_option maxHeartbeats 4000000 in
theorem same_any {P Q : Nat → Prop} (X : QW) (ca ha cb hb : Value) (w : World) (h1 : IsClasses P w ca X.classes) (h2 : IsHeap P w ha X.heap) (h3 : IsClasses Q w cb X.classes) (h4 : IsHeap Q w hb X.heap) : Calls Tryz.prog 10 #[WV ca ha X.epoch, WV cb hb X.epoch] w fun e w' => e = .returned (.bool true) ∧ Below w.heap.size w w' := by
  obtain ⟨ad, cap, rfl, hl, hcap, hby, hrow⟩ := h1
  obtain ⟨ah, kh, rfl, hlh, hkh, hbh, hrh⟩ := h2
  obtain ⟨ad', cap', rfl, hl', hcap', hby', hrow'⟩ := h3
  obtain ⟨ah', kh', rfl, hlh', hkh', hbh', hrh'⟩ := h4
  unfold maxLen at hcap hcap' hkh hkh'
  go_enter Tryz.func10, Tryz.ntmps10
  go_wp2
  have hW := bel2 w (Obj.cells #[Value.slice ad X.classes.length cap, Value.slice ah X.heap.length kh, Value.int IntKind.i64 X.epoch] 25) (Obj.cells #[Value.slice ad' X.classes.length cap', Value.slice ah' X.heap.length kh', Value.int IntKind.i64 X.epoch] 25)
  have a1 : ((w.alloc (Obj.cells #[Value.slice ad X.classes.length cap, Value.slice ah X.heap.length kh, Value.int IntKind.i64 X.epoch] 25)).alloc (Obj.cells #[Value.slice ad' X.classes.length cap', Value.slice ah' X.heap.length kh', Value.int IntKind.i64 X.epoch] 25)).cell? ⟨w.heap.size, 1, none⟩ = some (Value.slice ah X.heap.length kh) := cell_later (bel1 _ _) (by rw [cell_new _ _ _ _ rfl]; rfl)
  have b0 : ((w.alloc (Obj.cells #[Value.slice ad X.classes.length cap, Value.slice ah X.heap.length kh, Value.int IntKind.i64 X.epoch] 25)).alloc (Obj.cells #[Value.slice ad' X.classes.length cap', Value.slice ah' X.heap.length kh', Value.int IntKind.i64 X.epoch] 25)).cell? ⟨w.heap.size + 1, 0, none⟩ = some (Value.slice ad' X.classes.length cap') := by rw [cell_new _ _ _ _ (by simp)]; rfl
  have b1 : ((w.alloc (Obj.cells #[Value.slice ad X.classes.length cap, Value.slice ah X.heap.length kh, Value.int IntKind.i64 X.epoch] 25)).alloc (Obj.cells #[Value.slice ad' X.classes.length cap', Value.slice ah' X.heap.length kh', Value.int IntKind.i64 X.epoch] 25)).cell? ⟨w.heap.size + 1, 1, none⟩ = some (Value.slice ah' X.heap.length kh') := by rw [cell_new _ _ _ _ (by simp)]; rfl
  generalize ((w.alloc (Obj.cells #[Value.slice ad X.classes.length cap, Value.slice ah X.heap.length kh, Value.int IntKind.i64 X.epoch] 25)).alloc (Obj.cells #[Value.slice ad' X.classes.length cap', Value.slice ah' X.heap.length kh', Value.int IntKind.i64 X.epoch] 25)) = W at *
  go_loopg [40] X.classes.length (fun g c wr => ∃ j : Nat, j + g = X.classes.length ∧ c = .int .i64 j ∧ Below W.heap.size W wr)
  case atStart => exact ⟨0, by omega, rfl, Below.refl _ _⟩
  case round =>
    obtain ⟨j, hj, rfl, hbel⟩ := hrel
    have hbw := nstep hW hbel
    have b0' := cell_later hbel b0
    by_cases hlt : j < X.classes.length
    · obtain ⟨b, o, rfl, -, p0, p1, p2, -, sv, p3, hms⟩ := hrow j X.classes[j] (by simp [hlt])
      obtain ⟨b', o', rfl, -, q0, q1, q2, -, sv', q3, hms'⟩ := hrow' j X.classes[j] (by simp [hlt])
      generalize X.classes[j] = x at *
      simp only [Nat.add_zero] at p0 q0
      replace p0 := cell_later hbw p0
      replace p1 := cell_later hbw p1
      replace p2 := cell_later hbw p2
      replace p3 := cell_later hbw p3
      replace q0 := fun y => cell_later (bel1 wr y) (cell_later hbw q0)
      replace q1 := fun y => cell_later (bel1 wr y) (cell_later hbw q1)
      replace q2 := fun y => cell_later (bel1 wr y) (cell_later hbw q2)
      replace q3 := fun y => cell_later (bel1 wr y) (cell_later hbw q3)
      have b0'' := fun y => cell_later (bel1 wr y) b0'
      replace hms := hms.later goodM hbw
      replace hms' := hms'.later goodM hbw
      obtain ⟨am, km, rfl, hlm, hkm, hbm, hrm⟩ := id hms
      obtain ⟨am', km', rfl, hlm', hkm', hbm', hrm'⟩ := id hms'
      unfold maxLen at hkm hkm'
      have hj1 : (j : Int) < (X.classes.length : Int) := by omega
      have hj0 : (0 : Int) ≤ (j : Int) := by omega
      go_wp2
      have hB2 := bel2 wr (Obj.cells #[Value.string x.name, Value.int IntKind.i64 x.super, Value.int IntKind.i64 x.slots, Value.slice am x.methods.length km] 38) (Obj.cells #[Value.string x.name, Value.int IntKind.i64 x.super, Value.int IntKind.i64 x.slots, Value.slice am' x.methods.length km'] 38)
      have m1 : ((wr.alloc (Obj.cells #[Value.string x.name, Value.int IntKind.i64 x.super, Value.int IntKind.i64 x.slots, Value.slice am x.methods.length km] 38)).alloc (Obj.cells #[Value.string x.name, Value.int IntKind.i64 x.super, Value.int IntKind.i64 x.slots, Value.slice am' x.methods.length km'] 38)).cell? ⟨wr.heap.size + 1, 3, none⟩ = some (Value.slice am' x.methods.length km') := by rw [cell_new _ _ _ _ (by simp)]; rfl
      obtain ⟨go, hgo⟩ : ∃ go, go = gk := ⟨_, rfl⟩
      have hBW := nstep hbel hB2
      replace hms := hms.later goodM hB2
      replace hms' := hms'.later goodM hB2
      clear p0 p1 p2 p3 q0 q1 q2 q3 b0' b0'' hrm hrm' hB2 hbw hbel
      generalize hBx : wr.heap.size + 1 = Bx at *
      generalize ((wr.alloc (Obj.cells #[Value.string x.name, Value.int IntKind.i64 x.super, Value.int IntKind.i64 x.slots, Value.slice am x.methods.length km] 38)).alloc (Obj.cells #[Value.string x.name, Value.int IntKind.i64 x.super, Value.int IntKind.i64 x.slots, Value.slice am' x.methods.length km'] 38)) = W2 at *
      go_loopg [81] x.methods.length (fun g c wi => ∃ k : Nat, k + g = x.methods.length ∧ c = .int .i64 k ∧ Below W2.heap.size W2 wi)
      case atStart => exact ⟨0, by omega, rfl, Below.refl _ _⟩
      case round =>
        obtain ⟨k, hk, rfl, hbi⟩ := hrel
        by_cases hkl : k < x.methods.length
        · obtain ⟨am0, km0, e0, -, -, -, hrm⟩ := hms.later goodM hbi
          simp only [Value.slice.injEq] at e0
          obtain ⟨rfl, -, rfl⟩ := e0
          obtain ⟨am0', km0', e0', -, -, -, hrm'⟩ := hms'.later goodM hbi
          simp only [Value.slice.injEq] at e0'
          obtain ⟨rfl, -, rfl⟩ := e0'
          obtain ⟨b, o, rfl, -, p0, p1, p2, p3, -, sv, p4, hcc⟩ := hrm k x.methods[k] (by simp [hkl])
          obtain ⟨b', o', rfl, -, q0, q1, q2, q3, -, sv', q4, hcc'⟩ := hrm' k x.methods[k] (by simp [hkl])
          generalize x.methods[k] = y at *
          simp only [Nat.add_zero] at p0 q0
          replace q0 := fun y => cell_later (bel1 wr y) q0
          replace q1 := fun y => cell_later (bel1 wr y) q1
          replace q2 := fun y => cell_later (bel1 wr y) q2
          replace q3 := fun y => cell_later (bel1 wr y) q3
          replace q4 := fun y => cell_later (bel1 wr y) q4
          have m1' := fun y => cell_later (bel1 wr y) (cell_later hbi m1)
          obtain ⟨ac, kc, rfl⟩ := hcc.get
          obtain ⟨ac', kc', rfl⟩ := hcc'.get
          have hk1 : (k : Int) < (x.methods.length : Int) := by omega
          have hk0 : (0 : Int) ≤ (k : Int) := by omega
          clear hrm hrm'
          go_wp2_with (go_at_call 28; refine (sameCode_any y.code _ _ _ (hcc.later goodI (by first | exact bel2 _ _ _ | exact (bel2 _ _ _).drew)) (hcc'.later goodI (by first | exact bel2 _ _ _ | exact (bel2 _ _ _).drew))).mono ?_; rintro e w5 ⟨rfl, hb5⟩)
          go_roundg (gk - 1)
          case measure => omega
          case rel => exact ⟨k + 1, by omega, by go_num, nstep hbi (nstep (bel2 _ _ _) hb5)⟩
        · go_wp2
          go_roundg (go - 1)
          case measure => omega
          case rel => exact ⟨j + 1, by omega, by go_num, nstep hBW hbi⟩
    · have a1' := cell_later hbel a1
      have b1' := cell_later hbel b1
      have hbw := nstep hW hbel
      clear hrow hrow' b0' a1 b1 b0
      go_wp2
      have hW3 := hbw
      generalize wr = W3 at *
      go_loopg [130] X.heap.length (fun g c wr => ∃ j : Nat, j + g = X.heap.length ∧ c = .int .i64 j ∧ Below W3.heap.size W3 wr)
      case atStart => exact ⟨0, by omega, rfl, Below.refl _ _⟩
      case round =>
        obtain ⟨j, hj, rfl, hbel⟩ := hrel
        have cb1 := cell_later hbel b1'
        have hbw := nstep hW3 hbel
        by_cases hlt : j < X.heap.length
        · obtain ⟨b, o, rfl, -, hv1, sv, hv2, hsl⟩ := hrh j X.heap[j] (by simp [hlt])
          obtain ⟨b', o', rfl, -, hv1', sv', hv2', hsl'⟩ := hrh' j X.heap[j] (by simp [hlt])
          generalize X.heap[j] = x at *
          simp only [Nat.add_zero] at hv1 hv1'
          have u1 := cell_later hbw hv1
          have u2 := cell_later hbw hv2
          have u1' := cell_later hbw hv1'
          have u2' := cell_later hbw hv2'
          replace hsl := hsl.later goodV hbw
          replace hsl' := hsl'.later goodV hbw
          clear hv1 hv2 hv1' hv2'
          obtain ⟨ad2, cap2, rfl, hl2, hcap2, hby2, -⟩ := id hsl
          obtain ⟨ad2', cap2', rfl, hl2', hcap2', hby2', -⟩ := id hsl'
          unfold maxLen at hcap2 hcap2'
          have hj1 : (j : Int) < (X.heap.length : Int) := by omega
          have hj0 : (0 : Int) ≤ (j : Int) := by omega
          have k1 := fun x => cell_later (bel1 wr x) u1
          have k2 := fun x => cell_later (bel1 wr x) u2
          have k1' := fun x => cell_later (bel1 wr x) u1'
          have k2' := fun x => cell_later (bel1 wr x) u2'
          have kb := fun x => cell_later (bel1 wr x) cb1
          go_wp2
          go_quiet (fail)
          go_wp2
          have hD : Below wr.heap.size wr ((wr.alloc (Obj.cells #[Value.int IntKind.i64 x.cls, Value.slice ad2 x.slots.length cap2] 49)).drewN nq) := below_drewN (bel1 _ _) nq
          have m1 : ((wr.alloc (Obj.cells #[Value.int IntKind.i64 x.cls, Value.slice ad2 x.slots.length cap2] 49)).drewN nq).cell? ⟨wr.heap.size, 1, none⟩ = some (Value.slice ad2 x.slots.length cap2) := by simp
          have m2 := cell_later hD u2'
          have mb := cell_later hD cb1
          have hBW := nstep hbel hD
          obtain ⟨Bx, hBx⟩ : ∃ Bx, Bx = wr.heap.size := ⟨_, rfl⟩
          rw [← hBx] at m1 ⊢
          clear hBx
          replace hsl := hsl.later goodV hD
          replace hsl' := hsl'.later goodV hD
          clear k1 k2 k1' k2' kb u1 u2 u1' u2' cb1 hD
          generalize (wr.alloc (Obj.cells #[Value.int IntKind.i64 x.cls, Value.slice ad2 x.slots.length cap2] 49)).drewN nq = W2 at *
          clear hbel hbw
          obtain ⟨go, hgo⟩ : ∃ go, go = gk := ⟨_, rfl⟩
          go_loopg [160] x.slots.length (fun g c wi => ∃ k : Nat, k + g = x.slots.length ∧ c = .int .i64 k ∧ ∃ n, wi = W2.drewN n)
          case atStart => exact ⟨0, by omega, rfl, 0, rfl⟩
          case round =>
            obtain ⟨k, hk, rfl, nn, rfl⟩ := hrel
            by_cases hkl : k < x.slots.length
            · obtain ⟨a0, c0, e0, -, -, -, hr2⟩ := hsl
              simp only [Value.slice.injEq] at e0
              obtain ⟨rfl, -, rfl⟩ := e0
              obtain ⟨a0', c0', e0', -, -, -, hr2'⟩ := hsl'
              simp only [Value.slice.injEq] at e0'
              obtain ⟨rfl, -, rfl⟩ := e0'
              obtain ⟨b2, o2, rfl, -, q1, q2⟩ := hr2 k x.slots[k] (by simp [hkl])
              obtain ⟨b3, o3, rfl, -, q3, q4⟩ := hr2' k x.slots[k] (by simp [hkl])
              generalize x.slots[k] = y at *
              simp only [Nat.add_zero] at q1 q3
              have hk1 : (k : Int) < (x.slots.length : Int) := by omega
              have hk0 : (0 : Int) ≤ (k : Int) := by omega
              clear hr2 hr2'
              go_wp2
              go_quiet (fail)
              go_wp2
              go_roundg (gk - 1)
              case measure => omega
              case rel => exact ⟨k + 1, by omega, by go_num, _, rfl⟩
            · go_wp2
              go_roundg (go - 1)
              case measure => omega
              case rel => exact ⟨j + 1, by omega, by go_num, below_drewN hBW nn⟩
        · go_wp2
          go_ret
          exact ⟨rfl, hbw⟩
end Go.Proofs.YtjmidhghiahbaaaGreatDoor
