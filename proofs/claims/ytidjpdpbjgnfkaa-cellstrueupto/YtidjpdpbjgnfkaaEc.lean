/- Rises. -/
import Derived.Test.YtidjpdpbjgnfkaaEa
namespace Go.Proofs.Ytidjpdpbjgnfkaa
open Go.ChangeShapes Go.WideShapes Go.ChangeAt Go.RowKit
set_option linter.unusedSimpArgs false
set_option linter.unusedVariables false
set_option maxRecDepth 8000

/-- a is less than b. -/
def ltN (a b : ByteArray) : Bool := Op.bytesLess a.toList b.toList
/-- Names rise, from one to the next. -/
def RisesM (ms : List QM) : Prop := ∀ (i : Nat) x y, ms[i]? = some x → ms[i + 1]? = some y → ltN x.name y.name = true
def RisesC (xs : List QC) : Prop := ∀ (i : Nat) x, xs[i]? = some x → RisesM x.methods

set_option maxHeartbeats 4000000 in
theorem rises_any {P : Nat → Prop} (X : QW) (cv hv : Value) (ep : Int) (w : World) (hh : IsClasses P w cv X.classes) (hhv : ∃ a n c, hv = .slice a n c) : Calls Try.prog 15 #[WV cv hv ep] w fun e w' => ∃ b, e = .returned (.bool b) ∧ (b = true → RisesC X.classes) ∧ Below w.heap.size w w' := by
  obtain ⟨ad, cap, rfl, hl, hcap, hby, hrow⟩ := id hh
  obtain ⟨ah, nh, ch, rfl⟩ := hhv
  unfold maxLen at hcap
  go_enter Try.func15, Try.ntmps15
  go_wp2
  have hW := bel1 w (Obj.cells #[Value.slice ad X.classes.length cap, Value.slice ah nh ch, Value.int IntKind.i64 ep] 26)
  go_loopg [9] X.classes.length (fun g i wr => ∃ j : Nat, j + g = X.classes.length ∧ i = .int .i64 j ∧ Below w.heap.size w wr ∧ (∀ i x, i < j → X.classes[i]? = some x → RisesM x.methods))
  case atStart => exact ⟨0, by omega, rfl, hW, fun i x h => by omega⟩
  case round =>
    obtain ⟨j, hg, rfl, hB, hD⟩ := hrel
    have HD : Hid (∀ i x, i < j → X.classes[i]? = some x → RisesM x.methods) := hD
    clear hD
    by_cases hj : j < X.classes.length
    · have hj1 : (j : Int) < (X.classes.length : Int) := by omega
      have hj0 : (0 : Int) ≤ (j : Int) := by omega
      obtain ⟨x, hx⟩ : ∃ x, X.classes[j]? = some x := ⟨_, List.getElem?_eq_getElem hj⟩
      obtain ⟨b, o, rfl, -, v0, v1, v2, -, mv, v3, hM⟩ := hrow j x hx
      obtain ⟨ad2, cap2, rfl, hl2, hcap2, hby2, hrow2⟩ := id hM
      unfold maxLen at hcap2
      simp only [Nat.add_zero] at v0
      replace v0 := cell_later hB v0
      replace v1 := cell_later hB v1
      replace v2 := cell_later hB v2
      replace v3 := cell_later hB v3
      obtain ⟨go, hgo⟩ : ∃ go, go = gk := ⟨_, rfl⟩
      have HX : Hid (X.classes[j]? = some x) := hx
      clear hx
      go_wp2
      have hB2 := nstep hB (bel1 wr (Obj.cells #[Value.string x.name, Value.int IntKind.i64 x.super, Value.int IntKind.i64 x.slots, Value.slice ad2 x.methods.length cap2] 73))
      have m1 : (wr.alloc (Obj.cells #[Value.string x.name, Value.int IntKind.i64 x.super, Value.int IntKind.i64 x.slots, Value.slice ad2 x.methods.length cap2] 73)).cell? ⟨wr.heap.size, 3, none⟩ = some (Value.slice ad2 x.methods.length cap2) := by rw [cell_new _ _ _ _ rfl]; rfl
      clear v0 v1 v2 v3
      generalize hBx : wr.heap.size = Bx at *
      generalize (wr.alloc (Obj.cells #[Value.string x.name, Value.int IntKind.i64 x.super, Value.int IntKind.i64 x.slots, Value.slice ad2 x.methods.length cap2] 73)) = W2 at *
      go_loopg [16] x.methods.length (fun g c wi => ∃ k : Nat, k + g = x.methods.length ∧ c = .int .i64 k ∧ Below W2.heap.size W2 wi ∧ (∀ i a b, i + 1 < k → x.methods[i]? = some a → x.methods[i + 1]? = some b → ltN a.name b.name = true))
      case atStart => exact ⟨0, by omega, rfl, Below.refl _ _, fun i a b h => by omega⟩
      case round =>
        obtain ⟨k, hk, rfl, hbi, hE⟩ := hrel
        have HE : Hid (∀ i a b, i + 1 < k → x.methods[i]? = some a → x.methods[i + 1]? = some b → ltN a.name b.name = true) := hE
        clear hE
        have hB3 := nstep hB2 hbi
        have m2 := cell_later hbi m1
        by_cases hkl : k < x.methods.length
        · have hk1 : (k : Int) < (x.methods.length : Int) := by omega
          have hk0 : (0 : Int) ≤ (k : Int) := by omega
          cases k with
          | zero =>
            go_wp2
            go_quiet (fail)
            go_wp2
            go_roundg (gk - 1)
            case measure => omega
            case rel => exact ⟨1, by omega, by go_num, below_drewN hbi _, fun i a b h => by omega⟩
          | succ k =>
            obtain ⟨y, hy⟩ : ∃ y, x.methods[k]? = some y := ⟨_, List.getElem?_eq_getElem (by omega)⟩
            obtain ⟨z, hz⟩ : ∃ z, x.methods[k + 1]? = some z := ⟨_, List.getElem?_eq_getElem hkl⟩
            obtain ⟨b, o, rfl, -, p0, -⟩ := hrow2 k y hy
            obtain ⟨b', o', e', -, q0, -⟩ := hrow2 (k + 1) z hz
            cases e'
            simp only [Nat.add_zero] at p0 q0
            replace p0 := cell_later hB3 p0
            replace q0 := cell_later hB3 q0
            have hpos : (0 : Int) < ((k + 1 : Nat) : Int) := by omega
            have hsub : IntKind.i64.wrap (((k + 1 : Nat) : Int) - 1) = (k : Int) := by rw [IntKind.wrap_i64]; omega
            have hkk : (k : Int) < (x.methods.length : Int) := by omega
            cases hlt : Op.bytesLess y.name.toList z.name.toList
            · go_wp2
              go_quiet (fail)
              go_wp2
              go_ret
              exact ⟨false, rfl, fun h => (by cases h), below_drewN hB3 _⟩
            · go_wp2
              go_quiet (fail)
              go_wp2
              go_roundg (gk - 1)
              case measure => omega
              case rel =>
                refine ⟨k + 1 + 1, by omega, by go_num, below_drewN hbi _, fun i a b h ha hb => ?_⟩
                by_cases hik : i = k
                · subst hik
                  rw [hy] at ha
                  rw [hz] at hb
                  cases ha; cases hb
                  exact hlt
                · exact HE.out i a b (by omega) ha hb
        · have hk1 : (x.methods.length : Int) ≤ (k : Int) := by omega
          go_wp2
          go_roundg (go - 1)
          case measure => omega
          case rel =>
            refine ⟨j + 1, by omega, by go_num, hB3, fun i y h hy => ?_⟩
            by_cases hij : i = j
            · subst hij
              rw [HX.out] at hy
              cases hy
              exact fun i a b ha hb => HE.out i a b (by have := lt_of_get hb; omega) ha hb
            · exact HD.out i y (by omega) hy
    · have hj1 : (X.classes.length : Int) ≤ (j : Int) := by omega
      go_wp2
      go_ret
      exact ⟨true, rfl, fun _ i x hx => HD.out i x (by have := lt_of_get hx; omega) hx, hB⟩
end Go.Proofs.Ytidjpdpbjgnfkaa
