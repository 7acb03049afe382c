/- Package wire: wrongMethods. -/
import Derived.Test.YtjmidhghiahbaaaGreatDoorUd
namespace Go.Proofs.YtjmidhghiahbaaaGreatDoor
open Go.ChangeShapes Go.WideShapes Go.ChangeAt Go.RowKit
set_option linter.unusedSimpArgs false
set_option linter.unusedVariables false
set_option maxRecDepth 8000

/-- The boxes of the world and of a class. -/
structure WbC (w : World) (X : QW) (cv hv : Value) (sv : Value) (Bc : Nat) (w' : World) : Prop where
  S : WbS w X cv hv w'
  c3 : w'.cell? ⟨Bc, 3, none⟩ = some sv
theorem WbC.later {w : World} {X : QW} {cv hv : Value} {sv : Value} {Bc : Nat} {w' w1 : World} (h : WbC w X cv hv sv Bc w') (hb : Below w'.heap.size w' w1) : WbC w X cv hv sv Bc w1 := ⟨h.S.later hb, cell_later hb h.c3⟩

set_option maxRecDepth 100000 in
set_option maxHeartbeats 4000000 in
theorem wrongMethods_any {P : Nat → Prop} (X : QW) (cv hv : Value) (w : World) (hh : IsClasses P w cv X.classes) (hH : IsHeap P w hv X.heap) : Calls Tryz.prog 13 #[WV cv hv X.epoch] w fun e w' => e = .returned (.int .i64 (firstE (rkE X) 0 X.classes)) ∧ Below w.heap.size w w' := by
  obtain ⟨ad, cap, rfl, hl, hcap, hby, hrow⟩ := id hh
  obtain ⟨ah, ch, rfl⟩ := hH.get
  unfold maxLen at hcap
  have HFA : Hid (∀ (j : Nat) x (v : Int), X.classes[j]? = some x → (∀ i y, i < j → X.classes[i]? = some y → rkE X i y = 0) → rkE X j x = v → v ≠ 0 → v = firstE (rkE X) 0 X.classes) := fun j x v hx hD e hv => by
    subst e
    exact (firstE_at hx hv hD).symm
  have HF0 : Hid ((∀ i y, X.classes[i]? = some y → rkE X i y = 0) → 0 = firstE (rkE X) 0 X.classes) := fun h => (firstE_zero h).symm
  generalize firstE (rkE X) 0 X.classes = R at *
  go_enter Tryz.func13, Tryz.ntmps13
  go_upto_region 1 with (fail)
  have hS := wb_start w X (.slice ad X.classes.length cap) (.slice ah X.heap.length ch)
  generalize (w.alloc (Obj.cells #[Value.slice ad X.classes.length cap, Value.slice ah X.heap.length ch, Value.int IntKind.i64 X.epoch] 25)) = W0 at *
  have a0 := hS.a0
  go_wp2
  clear a0
  go_loopg [10] X.classes.length (fun g i wr => ∃ j : Nat, j + g = X.classes.length ∧ i = .int .i64 j ∧ WbS w X (.slice ad X.classes.length cap) (.slice ah X.heap.length ch) wr ∧ ∀ i y, i < j → X.classes[i]? = some y → rkE X i y = 0)
  case atStart => exact ⟨0, by omega, rfl, hS, fun i x h => by omega⟩
  case round =>
    clear hS
    obtain ⟨j, hg, rfl, hS, hD⟩ := hrel
    have HD : Hid (∀ i y, i < j → X.classes[i]? = some y → rkE X i y = 0) := hD
    clear hD
    by_cases hj : j < X.classes.length
    · have hj1 : (j : Int) < (X.classes.length : Int) := by omega
      have hj0 : (0 : Int) ≤ (j : Int) := by omega
      obtain ⟨x, hx⟩ : ∃ x, X.classes[j]? = some x := ⟨_, List.getElem?_eq_getElem hj⟩
      obtain ⟨b, o, rfl, -, v0, v1, v2, hxn, mv, v3, hMs⟩ := hrow j x hx
      obtain ⟨ad2, cap2, rfl, hl2, hcap2, hby2, hrow2⟩ := id hMs
      unfold maxLen at hcap2
      simp only [Nat.add_zero] at v0
      replace v0 := cell_later hS.bel v0
      replace v1 := cell_later hS.bel v1
      replace v2 := cell_later hS.bel v2
      replace v3 := cell_later hS.bel v3
      have HX : Hid (X.classes[j]? = some x) := hx
      clear hx
      have HBD : Hid (∀ v : Int, rkE X j x = v → v ≠ 0 → v = R) := fun v e hv => HFA.out j x v HX.out HD.out e hv
      have HKO : Hid (rkE X j x = 0 → ∀ i y, i < j + 1 → X.classes[i]? = some y → rkE X i y = 0) := fun h i y hi hy => by
        by_cases hij : i = j
        · subst hij
          rw [HX.out] at hy
          cases hy
          exact h
        · exact HD.out i y (by omega) hy
      have hC : WbC w X (.slice (some ⟨b, o, none⟩) X.classes.length cap) (.slice ah X.heap.length ch) (.slice ad2 x.methods.length cap2) wr.heap.size (wr.alloc (Obj.cells #[Value.string x.name, Value.int IntKind.i64 x.super, Value.int IntKind.i64 x.slots, Value.slice ad2 x.methods.length cap2] 38)) :=
        ⟨hS.later (bel1 _ _), by rw [cell_new _ _ _ _ rfl]; rfl⟩
      have a0 := hC.S.a0
      have a1 := hC.S.a1
      have a2 := hC.S.a2
      obtain ⟨S, hSl⟩ : ∃ S, slotsW X.classes j = S := ⟨_, rfl⟩
      go_wp2_with fail
      clear v0 v1 v2 v3 hS a0 a1 a2
      generalize wr.heap.size = Bc at *
      generalize (wr.alloc (Obj.cells #[Value.string x.name, Value.int IntKind.i64 x.super, Value.int IntKind.i64 x.slots, Value.slice ad2 x.methods.length cap2] 38)) = W2 at *
      refine (cslots_c X j _ _ _ (hh.later goodC hC.S.bel) (hH.later goodO hC.S.bel) S hSl).mono ?_
      rintro e w2 ⟨rfl, hb⟩
      replace hC := hC.later hb
      clear hb
      have HSl : Hid (slotsW X.classes j = S) := hSl
      clear hSl
      have c3 := hC.c3
      by_cases s6 : 6 < S
      · have H3 : Hid (3 = R) := HBD.out 3 (by unfold rkE; rw [HSl.out, if_pos s6]) (by decide)
        go_wp2
        go_ret
        exact ⟨ret_i H3.out, hC.S.bel⟩
      have s6' : decide (6 < S) = false := by simpa using s6
      by_cases m8 : (8 : Int) < (x.methods.length : Int)
      · have H5 : Hid (5 = R) := HBD.out 5 (by unfold rkE; rw [HSl.out, if_neg s6, if_pos (by omega)]) (by decide)
        go_wp2
        go_ret
        exact ⟨ret_i H5.out, hC.S.bel⟩
      have m8' : decide ((8 : Int) < (x.methods.length : Int)) = false := by simpa using m8
      have HRK : Hid (rkE X j x = firstE (rmE X j x.methods) 0 x.methods) := by show _ = _; unfold rkE; rw [HSl.out, if_neg s6, if_neg (by omega)]
      have HBM : Hid (∀ (i : Nat) (m : QM), x.methods[i]? = some m → (∀ k y, k < i → x.methods[k]? = some y → rmE X j x.methods k y = 0) → ∀ v : Int, rmE X j x.methods i m = v → v ≠ 0 → v = R) := fun i m hm hi v e hv => by
        subst e
        exact HBD.out _ (by rw [HRK.out, firstE_at hm hv hi]) hv
      have HK0 : Hid ((∀ k y, x.methods[k]? = some y → rmE X j x.methods k y = 0) → ∀ i y, i < j + 1 → X.classes[i]? = some y → rkE X i y = 0) := fun h => HKO.out (by rw [HRK.out]; exact firstE_zero h)
      clear HBD HKO HRK HSl HD
      go_wp2
      clear c3 s6 s6' m8 m8'
      obtain ⟨go, hgo⟩ : ∃ go, go = gk := ⟨_, rfl⟩
      go_loopg [26] x.methods.length (fun g i wi => ∃ t : Nat, t + g = x.methods.length ∧ i = .int .i64 t ∧ WbC w X (.slice (some ⟨b, o, none⟩) X.classes.length cap) (.slice ah X.heap.length ch) (.slice ad2 x.methods.length cap2) Bc wi ∧ ∀ k y, k < t → x.methods[k]? = some y → rmE X j x.methods k y = 0)
      case atStart => exact ⟨0, by omega, rfl, hC, fun k y h => by omega⟩
      case round =>
        clear hC
        obtain ⟨t, ht, rfl, hC, hE⟩ := hrel
        have HE : Hid (∀ k y, k < t → x.methods[k]? = some y → rmE X j x.methods k y = 0) := hE
        clear hE
        by_cases htl : t < x.methods.length
        · have ht1 : (t : Int) < (x.methods.length : Int) := by omega
          have ht0 : (0 : Int) ≤ (t : Int) := by omega
          obtain ⟨m, hm⟩ : ∃ m, x.methods[t]? = some m := ⟨_, List.getElem?_eq_getElem htl⟩
          have a0 := hC.S.a0
          have a1 := hC.S.a1
          have a2 := hC.S.a2
          have HBX : Hid (∀ v : Int, rmE X j x.methods t m = v → v ≠ 0 → v = R) := HBM.out t m hm HE.out
          have HNX : Hid (rmE X j x.methods t m = 0 → ∀ k y, k < t + 1 → x.methods[k]? = some y → rmE X j x.methods k y = 0) := fun h k y hk hy => by
            by_cases hkt : k = t
            · subst hkt; rw [hm] at hy; cases hy; exact h
            · exact HE.out k y (by omega) hy
          have HM : Hid (x.methods[t]? = some m) := hm
          clear HE hm
          go_wp2_with fail
          refine (wmeth_any X j t x m _ _ _ (hh.later goodC hC.S.bel) (hH.later goodO hC.S.bel) HX.out HM.out).mono ?_
          rintro e w5 ⟨rfl, hb⟩
          replace hC := hC.later hb
          clear hb a0 a1 a2
          generalize rmE X j x.methods t m = rv at *
          by_cases wz : rv = 0
          · have wz' : (rv != 0) = false := by simp [wz]
            have HNY : Hid (∀ k y, k < t + 1 → x.methods[k]? = some y → rmE X j x.methods k y = 0) := HNX.out wz
            clear wz
            go_wp2
            go_roundg (gk - 1)
            case measure => omega
            case rel => exact ⟨t + 1, by omega, by go_num, hC, HNY.out⟩
          · have wz' : (rv != 0) = true := by simpa using wz
            have HRW : Hid (rv = R) := HBX.out rv rfl wz
            clear wz
            go_wp2
            go_ret
            exact ⟨ret_i HRW.out, hC.S.bel⟩
        · obtain rfl : t = x.methods.length := by omega
          have HKK : Hid (∀ i y, i < j + 1 → X.classes[i]? = some y → rkE X i y = 0) := HK0.out fun k y hy => HE.out k y (lt_of_get hy) hy
          go_wp2
          go_roundg (go - 1)
          case measure => omega
          case rel => exact ⟨j + 1, by omega, by go_num, hC.S, HKK.out⟩
    · obtain rfl : j = X.classes.length := by omega
      have HOK : Hid (0 = R) := HF0.out fun i y hy => HD.out i y (lt_of_get hy) hy
      go_wp2
      go_ret
      exact ⟨ret_i HOK.out, hS.bel⟩
end Go.Proofs.YtjmidhghiahbaaaGreatDoor
