/- SameWorld of the reference, at worlds without classes that have the same objects. -/
import Derived.Test.YtlmejfipgingeaaVf
namespace Go.Proofs.Ytlmejfipgingeaa
open Go.ChangeShapes Go.WideShapes Go.ChangeAt Go.RowKit
set_option linter.unusedSimpArgs false
set_option linter.unusedVariables false

/-- A world without classes, at epoch 0. -/
abbrev HW (v : Value) : Value := .agg #[.slice none 0 0, v, .int .i64 0]

set_option maxRecDepth 100000 in
set_option maxHeartbeats 1000000 in
theorem same_heap {l1 l2 : Nat} (hs : List QO) (va vb : Value) (w : World) (ha : IsHeap l1 w va hs) (hb : IsHeap l2 w vb hs) : Calls Try.prog 14 #[HW va, HW vb] w fun e w' => e = .returned (.bool true) ∧ Below w.heap.size w w' := by
  obtain ⟨ad, cap, rfl, hl, hcap, hby, hrow⟩ := ha
  obtain ⟨ad', cap', rfl, hl', hcap', hby', hrow'⟩ := hb
  go_enter Try.func14, Try.ntmps14
  go_wp2
  refine wp_loop_rounds 1 ?_
  rw [rounds_succ]
  go_wp2
  have hW := bel2 w (Obj.cells #[Value.slice none 0 0, Value.slice ad hs.length cap, Value.int IntKind.i64 0] 34) (Obj.cells #[Value.slice none 0 0, Value.slice ad' hs.length cap', Value.int IntKind.i64 0] 34)
  have cb : ((w.alloc (Obj.cells #[Value.slice none 0 0, Value.slice ad hs.length cap, Value.int IntKind.i64 0] 34)).alloc (Obj.cells #[Value.slice none 0 0, Value.slice ad' hs.length cap', Value.int IntKind.i64 0] 34)).cell? ⟨w.heap.size + 1, 1, none⟩ = some (Value.slice ad' hs.length cap') := by simp
  generalize (w.alloc (Obj.cells #[Value.slice none 0 0, Value.slice ad hs.length cap, Value.int IntKind.i64 0] 34)).alloc (Obj.cells #[Value.slice none 0 0, Value.slice ad' hs.length cap', Value.int IntKind.i64 0] 34) = W at *
  unfold maxLen at hcap hcap'
  go_loopg [130] hs.length (fun g c wr => ∃ j : Nat, j + g = hs.length ∧ c = .int .i64 j ∧ Below W.heap.size W wr)
  case atStart => exact ⟨0, by omega, rfl, Below.refl _ _⟩
  case round =>
    obtain ⟨j, hj, rfl, hbel⟩ := hrel
    have cb1 := cell_later hbel cb
    by_cases hlt : j < hs.length
    · obtain ⟨b, o, rfl, -, hv1, sv, hv2, hsl⟩ := hrow j hs[j] (by simp [hlt])
      obtain ⟨b', o', rfl, -, hv1', sv', hv2', hsl'⟩ := hrow' j hs[j] (by simp [hlt])
      generalize hs[j] = x at *
      have u1 := cell_later hbel (cell_later hW hv1)
      have u2 := cell_later hbel (cell_later hW hv2)
      have u1' := cell_later hbel (cell_later hW hv1')
      have u2' := cell_later hbel (cell_later hW hv2')
      replace hsl := (hsl.later hW).later hbel
      replace hsl' := (hsl'.later hW).later hbel
      clear hv1 hv2 hv1' hv2'
      obtain ⟨ad2, cap2, rfl, hl2, hcap2, hby2, hrow2⟩ := hsl
      obtain ⟨ad2', cap2', rfl, hl2', hcap2', hby2', hrow2'⟩ := hsl'
      unfold maxLen at hcap2 hcap2'
      have hj1 : (j : Int) < (hs.length : Int) := by omega
      have hj0 : (0 : Int) ≤ (j : Int) := by omega
      have k1 := fun x => cell_later (bel1 wr x) u1
      have k2 := fun x => cell_later (bel1 wr x) u2
      have k1' := fun x => cell_later (bel1 wr x) u1'
      have k2' := fun x => cell_later (bel1 wr x) u2'
      have kb := fun x => cell_later (bel1 wr x) cb1
      go_wp2
      go_quiet (fail)
      go_wp2
      have hD : Below wr.heap.size wr ((wr.alloc (Obj.cells #[Value.int IntKind.i64 x.cls, Value.slice ad2 x.slots.length cap2] 39)).drewN nq) := below_drewN (bel1 _ _) nq
      have m1 : ((wr.alloc (Obj.cells #[Value.int IntKind.i64 x.cls, Value.slice ad2 x.slots.length cap2] 39)).drewN nq).cell? ⟨wr.heap.size, 1, none⟩ = some (Value.slice ad2 x.slots.length cap2) := by simp
      have m2 := cell_later hD u2'
      have mb := cell_later hD cb1
      have hBW := hbel.trans (hD.mono hbel.size)
      obtain ⟨Bx, hBx⟩ : ∃ Bx, Bx = wr.heap.size := ⟨_, rfl⟩
      rw [← hBx] at m1 ⊢
      clear hBx
      clear k1 k2 k1' k2' kb u1 u2 u1' u2' cb1
      have hr2 : RowAt _ ValAt 2 ((wr.alloc (Obj.cells #[Value.int IntKind.i64 x.cls, Value.slice ad2 x.slots.length cap2] 39)).drewN nq) ad2 x.slots := fun i y hy => by obtain ⟨b, o, e, l, h1, h2⟩ := hrow2 i y hy; exact ⟨b, o, e, l, cell_later hD h1, cell_later hD h2⟩
      have hr2' : RowAt _ ValAt 2 ((wr.alloc (Obj.cells #[Value.int IntKind.i64 x.cls, Value.slice ad2 x.slots.length cap2] 39)).drewN nq) ad2' x.slots := fun i y hy => by obtain ⟨b, o, e, l, h1, h2⟩ := hrow2' i y hy; exact ⟨b, o, e, l, cell_later hD h1, cell_later hD h2⟩
      clear hrow2 hrow2' hD
      generalize (wr.alloc (Obj.cells #[Value.int IntKind.i64 x.cls, Value.slice ad2 x.slots.length cap2] 39)).drewN nq = W2 at *
      clear hbel
      obtain ⟨go, hgo⟩ : ∃ go, go = gk := ⟨_, rfl⟩
      go_loopg [160] x.slots.length (fun g c wi => ∃ k : Nat, k + g = x.slots.length ∧ c = .int .i64 k ∧ ∃ n, wi = W2.drewN n)
      case atStart => exact ⟨0, by omega, rfl, 0, rfl⟩
      case round =>
        obtain ⟨k, hk, rfl, nn, rfl⟩ := hrel
        by_cases hkl : k < x.slots.length
        · obtain ⟨b2, o2, rfl, -, q1, q2⟩ := hr2 k x.slots[k] (by simp [hkl])
          obtain ⟨b3, o3, rfl, -, q3, q4⟩ := hr2' k x.slots[k] (by simp [hkl])
          generalize x.slots[k] = y at *
          have hk1 : (k : Int) < (x.slots.length : Int) := by omega
          have hk0 : (0 : Int) ≤ (k : Int) := by omega
          go_wp2
          go_quiet (fail)
          go_wp2
          go_roundg (gk - 1)
          case measure => omega
          case rel => exact ⟨k + 1, by omega, by go_num, _, rfl⟩
        · go_wp2
          go_roundg (go - 1)
          case measure => omega
          case rel => exact ⟨j + 1, by omega, by go_num, below_drewN hBW nn⟩
    · go_wp2
      go_ret
      exact ⟨rfl, hW.trans (hbel.mono hW.size)⟩
end Go.Proofs.Ytlmejfipgingeaa
