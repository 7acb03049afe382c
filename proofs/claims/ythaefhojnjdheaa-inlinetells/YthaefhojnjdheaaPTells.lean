/- Several texts in one. -/
import Derived.Test.YthaefhojnjdheaaDa
import Derived.Test.YthaefhojnjdheaaIj
import Derived.Deep.CutBlock
import Derived.Maps.OwnSet
import Derived.Maps.OwnOps
import Derived.Test.YthaefhojnjdheaaGd
import Derived.Test.YthaefhojnjdheaaEb
import Derived.Test.YthaefhojnjdheaaNb
import Derived.Test.YthaefhojnjdheaaRa
import Derived.ChangeMaps5
/- SameWorld of the reference, at worlds that are the same. -/
namespace Go.Proofs.Ythaefhojnjdheaa
open Go.ChangeShapes Go.WideShapes Go.ChangeAt Go.RowKit
set_option linter.unusedSimpArgs false
set_option linter.unusedVariables false
set_option maxRecDepth 8000

set_option maxHeartbeats 1000000 in
theorem sameCode_any {P Q : Nat → Prop} (xs : List QI) (va vb : Value) (w : World) (ha : IsCode P w va xs) (hb : IsCode Q w vb xs) : Calls Try.prog 31 #[va, vb] w fun e w' => e = .returned (.bool true) ∧ Below w.heap.size w w' := by
  obtain ⟨ad, cap, rfl, hl, hcap, hby, hrow⟩ := ha
  obtain ⟨ad', cap', rfl, hl', hcap', hby', hrow'⟩ := hb
  go_enter Try.func31, Try.ntmps31
  go_wp2
  go_loopg [13] xs.length (fun g c wr => ∃ j : Nat, j + g = xs.length ∧ c = .int .i64 j ∧ ∃ n, wr = w.drewN n)
  case atStart => exact ⟨0, by omega, rfl, 0, rfl⟩
  case round =>
    obtain ⟨j, hj, rfl, nn, rfl⟩ := hrel
    by_cases hlt : j < xs.length
    · obtain ⟨b, o, rfl, -, q0, q1, q2, q3, q4, -⟩ := hrow j xs[j] (by simp [hlt])
      obtain ⟨b', o', rfl, -, k0, k1, k2, k3, k4, -⟩ := hrow' j xs[j] (by simp [hlt])
      generalize xs[j] = x at *
      simp only [Nat.add_zero] at q0 k0
      have hj1 : (j : Int) < (xs.length : Int) := by omega
      have hj0 : (0 : Int) ≤ (j : Int) := by omega
      clear hrow hrow'
      go_wp2
      go_quiet (fail)
      go_wp2
      go_roundg (gk - 1)
      case measure => omega
      case rel => exact ⟨j + 1, by omega, by go_num, _, rfl⟩
    · go_wp2
      go_ret
      exact ⟨rfl, below_drewN (Below.refl _ _) _⟩

set_option maxRecDepth 100000 in
set_option maxHeartbeats 4000000 in
theorem same_any {P Q : Nat → Prop} (X : QW) (ca ha cb hb : Value) (w : World) (h1 : IsClasses P w ca X.classes) (h2 : IsHeap P w ha X.heap) (h3 : IsClasses Q w cb X.classes) (h4 : IsHeap Q w hb X.heap) : Calls Try.prog 17 #[WV ca ha X.epoch, WV cb hb X.epoch] w fun e w' => e = .returned (.bool true) ∧ Below w.heap.size w w' := by
  obtain ⟨ad, cap, rfl, hl, hcap, hby, hrow⟩ := h1
  obtain ⟨ah, kh, rfl, hlh, hkh, hbh, hrh⟩ := h2
  obtain ⟨ad', cap', rfl, hl', hcap', hby', hrow'⟩ := h3
  obtain ⟨ah', kh', rfl, hlh', hkh', hbh', hrh'⟩ := h4
  unfold maxLen at hcap hcap' hkh hkh'
  go_enter Try.func17, Try.ntmps17
  go_wp2
  have hW := bel2 w (Obj.cells #[Value.slice ad X.classes.length cap, Value.slice ah X.heap.length kh, Value.int IntKind.i64 X.epoch] 25) (Obj.cells #[Value.slice ad' X.classes.length cap', Value.slice ah' X.heap.length kh', Value.int IntKind.i64 X.epoch] 25)
  have a1 : ((w.alloc (Obj.cells #[Value.slice ad X.classes.length cap, Value.slice ah X.heap.length kh, Value.int IntKind.i64 X.epoch] 25)).alloc (Obj.cells #[Value.slice ad' X.classes.length cap', Value.slice ah' X.heap.length kh', Value.int IntKind.i64 X.epoch] 25)).cell? ⟨w.heap.size, 1, none⟩ = some (Value.slice ah X.heap.length kh) := cell_later (bel1 _ _) (by rw [cell_new _ _ _ _ rfl]; rfl)
  have b0 : ((w.alloc (Obj.cells #[Value.slice ad X.classes.length cap, Value.slice ah X.heap.length kh, Value.int IntKind.i64 X.epoch] 25)).alloc (Obj.cells #[Value.slice ad' X.classes.length cap', Value.slice ah' X.heap.length kh', Value.int IntKind.i64 X.epoch] 25)).cell? ⟨w.heap.size + 1, 0, none⟩ = some (Value.slice ad' X.classes.length cap') := by rw [cell_new _ _ _ _ (by simp)]; rfl
  have b1 : ((w.alloc (Obj.cells #[Value.slice ad X.classes.length cap, Value.slice ah X.heap.length kh, Value.int IntKind.i64 X.epoch] 25)).alloc (Obj.cells #[Value.slice ad' X.classes.length cap', Value.slice ah' X.heap.length kh', Value.int IntKind.i64 X.epoch] 25)).cell? ⟨w.heap.size + 1, 1, none⟩ = some (Value.slice ah' X.heap.length kh') := by rw [cell_new _ _ _ _ (by simp)]; rfl
  generalize ((w.alloc (Obj.cells #[Value.slice ad X.classes.length cap, Value.slice ah X.heap.length kh, Value.int IntKind.i64 X.epoch] 25)).alloc (Obj.cells #[Value.slice ad' X.classes.length cap', Value.slice ah' X.heap.length kh', Value.int IntKind.i64 X.epoch] 25)) = W at *
  go_loopg [40] X.classes.length (fun g c wr => ∃ j : Nat, j + g = X.classes.length ∧ c = .int .i64 j ∧ Below W.heap.size W wr)
  case atStart => exact ⟨0, by omega, rfl, Below.refl _ _⟩
  case round =>
    obtain ⟨j, hj, rfl, hbel⟩ := hrel
    have hbw := nstep hW hbel
    have b0' := cell_later hbel b0
    by_cases hlt : j < X.classes.length
    · obtain ⟨b, o, rfl, -, p0, p1, p2, -, sv, p3, hms⟩ := hrow j X.classes[j] (by simp [hlt])
      obtain ⟨b', o', rfl, -, q0, q1, q2, -, sv', q3, hms'⟩ := hrow' j X.classes[j] (by simp [hlt])
      generalize X.classes[j] = x at *
      simp only [Nat.add_zero] at p0 q0
      replace p0 := cell_later hbw p0
      replace p1 := cell_later hbw p1
      replace p2 := cell_later hbw p2
      replace p3 := cell_later hbw p3
      replace q0 := fun y => cell_later (bel1 wr y) (cell_later hbw q0)
      replace q1 := fun y => cell_later (bel1 wr y) (cell_later hbw q1)
      replace q2 := fun y => cell_later (bel1 wr y) (cell_later hbw q2)
      replace q3 := fun y => cell_later (bel1 wr y) (cell_later hbw q3)
      have b0'' := fun y => cell_later (bel1 wr y) b0'
      replace hms := hms.later goodM hbw
      replace hms' := hms'.later goodM hbw
      obtain ⟨am, km, rfl, hlm, hkm, hbm, hrm⟩ := id hms
      obtain ⟨am', km', rfl, hlm', hkm', hbm', hrm'⟩ := id hms'
      unfold maxLen at hkm hkm'
      have hj1 : (j : Int) < (X.classes.length : Int) := by omega
      have hj0 : (0 : Int) ≤ (j : Int) := by omega
      go_wp2
      have hB2 := bel2 wr (Obj.cells #[Value.string x.name, Value.int IntKind.i64 x.super, Value.int IntKind.i64 x.slots, Value.slice am x.methods.length km] 46) (Obj.cells #[Value.string x.name, Value.int IntKind.i64 x.super, Value.int IntKind.i64 x.slots, Value.slice am' x.methods.length km'] 46)
      have m1 : ((wr.alloc (Obj.cells #[Value.string x.name, Value.int IntKind.i64 x.super, Value.int IntKind.i64 x.slots, Value.slice am x.methods.length km] 46)).alloc (Obj.cells #[Value.string x.name, Value.int IntKind.i64 x.super, Value.int IntKind.i64 x.slots, Value.slice am' x.methods.length km'] 46)).cell? ⟨wr.heap.size + 1, 3, none⟩ = some (Value.slice am' x.methods.length km') := by rw [cell_new _ _ _ _ (by simp)]; rfl
      obtain ⟨go, hgo⟩ : ∃ go, go = gk := ⟨_, rfl⟩
      have hBW := nstep hbel hB2
      replace hms := hms.later goodM hB2
      replace hms' := hms'.later goodM hB2
      clear p0 p1 p2 p3 q0 q1 q2 q3 b0' b0'' hrm hrm' hB2 hbw hbel
      generalize hBx : wr.heap.size + 1 = Bx at *
      generalize ((wr.alloc (Obj.cells #[Value.string x.name, Value.int IntKind.i64 x.super, Value.int IntKind.i64 x.slots, Value.slice am x.methods.length km] 46)).alloc (Obj.cells #[Value.string x.name, Value.int IntKind.i64 x.super, Value.int IntKind.i64 x.slots, Value.slice am' x.methods.length km'] 46)) = W2 at *
      go_loopg [81] x.methods.length (fun g c wi => ∃ k : Nat, k + g = x.methods.length ∧ c = .int .i64 k ∧ Below W2.heap.size W2 wi)
      case atStart => exact ⟨0, by omega, rfl, Below.refl _ _⟩
      case round =>
        obtain ⟨k, hk, rfl, hbi⟩ := hrel
        by_cases hkl : k < x.methods.length
        · obtain ⟨am0, km0, e0, -, -, -, hrm⟩ := hms.later goodM hbi
          simp only [Value.slice.injEq] at e0
          obtain ⟨rfl, -, rfl⟩ := e0
          obtain ⟨am0', km0', e0', -, -, -, hrm'⟩ := hms'.later goodM hbi
          simp only [Value.slice.injEq] at e0'
          obtain ⟨rfl, -, rfl⟩ := e0'
          obtain ⟨b, o, rfl, -, p0, p1, p2, p3, -, sv, p4, hcc⟩ := hrm k x.methods[k] (by simp [hkl])
          obtain ⟨b', o', rfl, -, q0, q1, q2, q3, -, sv', q4, hcc'⟩ := hrm' k x.methods[k] (by simp [hkl])
          generalize x.methods[k] = y at *
          simp only [Nat.add_zero] at p0 q0
          replace q0 := fun y => cell_later (bel1 wr y) q0
          replace q1 := fun y => cell_later (bel1 wr y) q1
          replace q2 := fun y => cell_later (bel1 wr y) q2
          replace q3 := fun y => cell_later (bel1 wr y) q3
          replace q4 := fun y => cell_later (bel1 wr y) q4
          have m1' := fun y => cell_later (bel1 wr y) (cell_later hbi m1)
          obtain ⟨ac, kc, rfl⟩ := hcc.get
          obtain ⟨ac', kc', rfl⟩ := hcc'.get
          have hk1 : (k : Int) < (x.methods.length : Int) := by omega
          have hk0 : (0 : Int) ≤ (k : Int) := by omega
          clear hrm hrm'
          go_wp2_with (go_at_call 31; refine (sameCode_any y.code _ _ _ (hcc.later goodI (by first | exact bel2 _ _ _ | exact (bel2 _ _ _).drew)) (hcc'.later goodI (by first | exact bel2 _ _ _ | exact (bel2 _ _ _).drew))).mono ?_; rintro e w5 ⟨rfl, hb5⟩)
          go_roundg (gk - 1)
          case measure => omega
          case rel => exact ⟨k + 1, by omega, by go_num, nstep hbi (nstep (bel2 _ _ _) hb5)⟩
        · go_wp2
          go_roundg (go - 1)
          case measure => omega
          case rel => exact ⟨j + 1, by omega, by go_num, nstep hBW hbi⟩
    · have a1' := cell_later hbel a1
      have b1' := cell_later hbel b1
      have hbw := nstep hW hbel
      clear hrow hrow' b0' a1 b1 b0
      go_wp2
      have hW3 := hbw
      generalize wr = W3 at *
      go_loopg [130] X.heap.length (fun g c wr => ∃ j : Nat, j + g = X.heap.length ∧ c = .int .i64 j ∧ Below W3.heap.size W3 wr)
      case atStart => exact ⟨0, by omega, rfl, Below.refl _ _⟩
      case round =>
        obtain ⟨j, hj, rfl, hbel⟩ := hrel
        have cb1 := cell_later hbel b1'
        have hbw := nstep hW3 hbel
        by_cases hlt : j < X.heap.length
        · obtain ⟨b, o, rfl, -, hv1, sv, hv2, hsl⟩ := hrh j X.heap[j] (by simp [hlt])
          obtain ⟨b', o', rfl, -, hv1', sv', hv2', hsl'⟩ := hrh' j X.heap[j] (by simp [hlt])
          generalize X.heap[j] = x at *
          simp only [Nat.add_zero] at hv1 hv1'
          have u1 := cell_later hbw hv1
          have u2 := cell_later hbw hv2
          have u1' := cell_later hbw hv1'
          have u2' := cell_later hbw hv2'
          replace hsl := hsl.later goodV hbw
          replace hsl' := hsl'.later goodV hbw
          clear hv1 hv2 hv1' hv2'
          obtain ⟨ad2, cap2, rfl, hl2, hcap2, hby2, -⟩ := id hsl
          obtain ⟨ad2', cap2', rfl, hl2', hcap2', hby2', -⟩ := id hsl'
          unfold maxLen at hcap2 hcap2'
          have hj1 : (j : Int) < (X.heap.length : Int) := by omega
          have hj0 : (0 : Int) ≤ (j : Int) := by omega
          have k1 := fun x => cell_later (bel1 wr x) u1
          have k2 := fun x => cell_later (bel1 wr x) u2
          have k1' := fun x => cell_later (bel1 wr x) u1'
          have k2' := fun x => cell_later (bel1 wr x) u2'
          have kb := fun x => cell_later (bel1 wr x) cb1
          go_wp2
          go_quiet (fail)
          go_wp2
          have hD : Below wr.heap.size wr ((wr.alloc (Obj.cells #[Value.int IntKind.i64 x.cls, Value.slice ad2 x.slots.length cap2] 74)).drewN nq) := below_drewN (bel1 _ _) nq
          have m1 : ((wr.alloc (Obj.cells #[Value.int IntKind.i64 x.cls, Value.slice ad2 x.slots.length cap2] 74)).drewN nq).cell? ⟨wr.heap.size, 1, none⟩ = some (Value.slice ad2 x.slots.length cap2) := by simp
          have m2 := cell_later hD u2'
          have mb := cell_later hD cb1
          have hBW := nstep hbel hD
          obtain ⟨Bx, hBx⟩ : ∃ Bx, Bx = wr.heap.size := ⟨_, rfl⟩
          rw [← hBx] at m1 ⊢
          clear hBx
          replace hsl := hsl.later goodV hD
          replace hsl' := hsl'.later goodV hD
          clear k1 k2 k1' k2' kb u1 u2 u1' u2' cb1 hD
          generalize (wr.alloc (Obj.cells #[Value.int IntKind.i64 x.cls, Value.slice ad2 x.slots.length cap2] 74)).drewN nq = W2 at *
          clear hbel hbw
          obtain ⟨go, hgo⟩ : ∃ go, go = gk := ⟨_, rfl⟩
          go_loopg [160] x.slots.length (fun g c wi => ∃ k : Nat, k + g = x.slots.length ∧ c = .int .i64 k ∧ ∃ n, wi = W2.drewN n)
          case atStart => exact ⟨0, by omega, rfl, 0, rfl⟩
          case round =>
            obtain ⟨k, hk, rfl, nn, rfl⟩ := hrel
            by_cases hkl : k < x.slots.length
            · obtain ⟨a0, c0, e0, -, -, -, hr2⟩ := hsl
              simp only [Value.slice.injEq] at e0
              obtain ⟨rfl, -, rfl⟩ := e0
              obtain ⟨a0', c0', e0', -, -, -, hr2'⟩ := hsl'
              simp only [Value.slice.injEq] at e0'
              obtain ⟨rfl, -, rfl⟩ := e0'
              obtain ⟨b2, o2, rfl, -, q1, q2⟩ := hr2 k x.slots[k] (by simp [hkl])
              obtain ⟨b3, o3, rfl, -, q3, q4⟩ := hr2' k x.slots[k] (by simp [hkl])
              generalize x.slots[k] = y at *
              simp only [Nat.add_zero] at q1 q3
              have hk1 : (k : Int) < (x.slots.length : Int) := by omega
              have hk0 : (0 : Int) ≤ (k : Int) := by omega
              clear hr2 hr2'
              go_wp2
              go_quiet (fail)
              go_wp2
              go_roundg (gk - 1)
              case measure => omega
              case rel => exact ⟨k + 1, by omega, by go_num, _, rfl⟩
            · go_wp2
              go_roundg (go - 1)
              case measure => omega
              case rel => exact ⟨j + 1, by omega, by go_num, below_drewN hBW nn⟩
        · go_wp2
          go_ret
          exact ⟨rfl, hbw⟩
end Go.Proofs.Ythaefhojnjdheaa

/- Inline: plain facts of fast code: where jumps lead, what guards name. -/
namespace Go.Proofs.Ythaefhojnjdheaa
open Go.ChangeShapes Go.WideShapes Go.ChangeAt Go.RowKit
set_option linter.unusedSimpArgs false
set_option linter.unusedVariables false

def jmp (y : QI) : Prop := y.op = 15 ∨ y.op = 16
theorem sets_op (a : Int) : ∀ (n : Nat), ∀ y ∈ setsE a n, y.op = 11
  | 0, y, h => by cases h
  | n + 1, y, h => by
    unfold setsE at h
    rcases List.mem_cons.1 h with rfl | h
    · rfl
    · exact sets_op a n y h
theorem nils_op (a : Int) (n : Nat) : ∀ y ∈ nilsE a n, y.op = 6 ∨ y.op = 11 := by
  intro y h
  unfold nilsE at h
  rw [List.mem_flatMap] at h
  obtain ⟨k, -, h⟩ := h
  simp only [List.mem_cons, List.not_mem_nil, or_false] at h
  rcases h with rfl | rfl
  · exact Or.inl rfl
  · exact Or.inr rfl
theorem stand_good {leaf : QM} (hs : Sml leaf) (self args temps first behind : Int) (hf : 0 ≤ first) (hb : behind = first + leaf.code.length) {x : QI} (hx : x ∈ leaf.code) : (standE self args temps first behind x).op ≠ 18 ∧ (jmp (standE self args temps first behind x) → 0 ≤ (standE self args temps first behind x).a ∧ (standE self args temps first behind x).a ≤ behind) := by
  obtain ⟨p1, p2, -⟩ := hs.plain x hx
  have hj := hs.jump x hx
  unfold jmp standE
  split
  · exact ⟨by simp, fun h => by simp at h⟩
  · split
    · exact ⟨by simp, fun h => by simp at h⟩
    · split
      · rename_i h; exact ⟨by simp; omega, fun h' => by simp at h'; omega⟩
      · split
        · exact ⟨by simp, fun h => by simp at h⟩
        · split
          · exact ⟨by simp, fun h => by simp at h⟩
          · split
            · rename_i h; have := hj h; exact ⟨by simp; omega, fun _ => by simp; omega⟩
            · split
              · exact ⟨by simp, fun _ => by simp; omega⟩
              · exact ⟨by omega, fun h' => by omega⟩
theorem piece_good {leaf : QM} (hs : Sml leaf) (guard : QI) (self n : Int) (hn : 0 ≤ n) : ∀ y ∈ pieceE leaf guard self n, y = guard ∨ (y.op ≠ 18 ∧ (jmp y → 0 ≤ y.a ∧ y.a ≤ n + (pieceE leaf guard self n).length)) := by
  intro y hy
  rw [pieceE_len]
  have ha := hs.args
  have ht := hs.temps
  unfold pieceE at hy
  rcases List.mem_append.1 hy with h | h
  · unfold headE at h
    simp only [List.mem_append, List.mem_cons, List.not_mem_nil, or_false] at h
    rcases h with ((((h | h) | h) | h) | h)
    · exact Or.inl h
    · subst h; exact Or.inr ⟨by simp, fun h => by simp [jmp] at h⟩
    · have := sets_op _ _ y h; exact Or.inr ⟨by omega, fun h => by simp only [jmp] at h; omega⟩
    · subst h; exact Or.inr ⟨by simp, fun h => by simp [jmp] at h⟩
    · have := nils_op _ _ y h; exact Or.inr ⟨by omega, fun h => by simp only [jmp] at h; omega⟩
  · obtain ⟨x, hx, rfl⟩ := List.mem_map.1 h
    obtain ⟨g1, g2⟩ := stand_good hs self (self + 1) (self + 1 + leaf.args) (firstOf leaf n) (firstOf leaf n + leaf.code.length) (by unfold firstOf; omega) rfl hx
    refine Or.inr ⟨g1, fun hj => ?_⟩
    have := g2 hj
    unfold firstOf at *
    omega
theorem guard_in (leaf : QM) (guard : QI) (self n : Int) : guard ∈ pieceE leaf guard self n := by
  unfold pieceE headE; simp
/-- What the code holds so far. -/
structure BGood (sites : List Int) (m : QM) (k : Nat) (s : Bd) : Prop where
  len : k ≤ s.code.length
  jump : ∀ y ∈ s.code, jmp y → 0 ≤ y.a ∧ (y.a ≤ s.code.length ∨ y.a ≤ m.code.length)
  guard : ∀ y ∈ s.code, y.op = 18 → ∃ j : Nat, j < k ∧ y.c = j ∧ sites[j]? = some y.a
  one : 0 < s.pieces → ∃ y ∈ s.code, y.op = 18
  stay : ∀ j x, m.code[j]? = some x → j < k → x.op ≠ 14 → ∃ b : Nat, s.begins[j]? = Option.some (b : Int) ∧ s.code[b]? = Option.some x
theorem site_at {sites : List Int} {k : Nat} (h : 0 ≤ sites.getD k (-1)) : sites[k]? = some (sites.getD k (-1)) := by
  rw [List.getD_eq_getElem?_getD] at h ⊢
  cases hs : sites[k]? with
  | none => rw [hs] at h; simp at h
  | some v => rfl
theorem build_good {X : QW} (h : rightE X = 0) {sites : List Int} {m : QM} (hm : Sml m) : ∀ {k : Nat}, k ≤ m.code.length → BGood sites m k (buildB X.classes sites m k)
  | 0, _ => ⟨Nat.zero_le _, fun y hy => by simp [buildB] at hy, fun y hy => by simp [buildB] at hy, fun h => by simp [buildB] at h, fun j x _ hj => by omega⟩
  | k + 1, hk => by
    have ih := build_good h hm (sites := sites) (k := k) (by omega)
    have hbl := build_begins (xs := X.classes) (sites := sites) (m := m) (k := k) (by omega)
    have hx : m.code[k]? = some m.code[k] := List.getElem?_eq_getElem (by omega)
    have hxm : m.code[k] ∈ m.code := List.getElem_mem _
    rw [buildB_succ hx]
    generalize buildB X.classes sites m k = s at *
    generalize m.code[k] = x at *
    have hold : ∀ j y, m.code[j]? = some y → j < k → y.op ≠ 14 → ∀ (e : List QI), ∃ b : Nat, (s.begins ++ [(s.code.length : Int)])[j]? = some (b : Int) ∧ (s.code ++ e)[b]? = some y := by
      intro j y hy hj ho e
      obtain ⟨b, h1, h2⟩ := ih.stay j y hy hj ho
      exact ⟨b, by rw [List.getElem?_append_left (by omega)]; exact h1, by rw [List.getElem?_append_left (lt_of_get h2)]; exact h2⟩
    obtain ⟨p1, p2, -⟩ := hm.plain x hxm
    unfold stepB
    cases hw : whoE X.classes sites m.code.length s.code.length s.temps k x with
    | none =>
      dsimp only
      have hso : (stayE x (k : Int)).op = x.op := by unfold stayE; split <;> rfl
      refine ⟨by simp; exact ih.len, fun y hy hj => ?_, fun y hy ho => ?_, fun hp => ?_, fun j y hy hj ho => ?_⟩
      · rcases List.mem_append.1 hy with h' | h'
        · have := ih.jump y h' hj; rw [List.length_append]; simp; omega
        · rw [List.mem_singleton] at h'
          subst h'
          have hj' : x.op = 15 ∨ x.op = 16 := by unfold jmp at hj; rw [hso] at hj; exact hj
          have e : stayE x (k : Int) = x := by unfold stayE; rw [if_neg (by omega)]
          rw [e]
          have := hm.jump x hxm hj'
          omega
      · rcases List.mem_append.1 hy with h' | h'
        · obtain ⟨j, h1, h2⟩ := ih.guard y h' ho; exact ⟨j, by omega, h2⟩
        · rw [List.mem_singleton] at h'
          subst h'
          rw [hso] at ho; omega
      · obtain ⟨y, h1, h2⟩ := ih.one hp; exact ⟨y, List.mem_append_left _ h1, h2⟩
      · by_cases hjk : j < k
        · exact hold j y hy hjk ho _
        · have hjk' : j = k := by omega
          subst hjk'
          rw [hx] at hy; cases hy
          have e : stayE x (j : Int) = x := by unfold stayE; rw [if_neg ho]
          refine ⟨s.code.length, ?_, ?_⟩
          · rw [List.getElem?_append_right (by omega), hbl]; simp
          · rw [e, List.getElem?_append_right (Nat.le_refl _)]; simp
    | some leaf =>
      have hst : standsIn X.classes sites k x = some leaf := by
        unfold whoE at hw
        split at hw
        · cases hw
        · rename_i l hl
          split at hw
          · cases hw; exact hl
          · cases hw
      obtain ⟨hsm, -, -, ho14⟩ := stands_small h hst
      have hsi : 0 ≤ sites.getD k (-1) := by
        unfold standsIn at hst
        split at hst
        · rename_i hh; exact hh.2
        · cases hst
      dsimp only
      have hpg := piece_good hsm (ins 18 (sites.getD k (-1)) leaf.args k) s.temps s.code.length (by omega)
      refine ⟨by rw [List.length_append, pieceE_len]; have := ih.len; omega, fun y hy hj => ?_, fun y hy ho => ?_, fun _ => ⟨_, List.mem_append_right _ (guard_in leaf _ _ _), rfl⟩, fun j y hy hj ho => ?_⟩
      · rw [List.length_append]
        rcases List.mem_append.1 hy with h' | h'
        · have := ih.jump y h' hj; omega
        · rcases hpg y h' with rfl | ⟨-, h2⟩
          · simp [jmp] at hj
          · have := h2 hj; omega
      · rcases List.mem_append.1 hy with h' | h'
        · obtain ⟨j, h1, h2⟩ := ih.guard y h' ho; exact ⟨j, by omega, h2⟩
        · rcases hpg y h' with rfl | ⟨h2, -⟩
          · exact ⟨k, by omega, rfl, site_at hsi⟩
          · exact absurd ho h2
      · by_cases hjk : j < k
        · exact hold j y hy hjk ho _
        · have hjk' : j = k := by omega
          subst hjk'
          rw [hx] at hy; cases hy
          exact absurd ho14 ho
theorem mem_modify {l : List QI} {i : Nat} {f : QI → QI} {y : QI} (h : y ∈ l.modify i f) : y ∈ l ∨ ∃ z, l[i]? = some z ∧ y = f z := by
  obtain ⟨j, hj⟩ := List.mem_iff_getElem?.1 h
  rw [List.getElem?_modify] at hj
  by_cases e : i = j
  · subst e
    cases hz : l[i]? with
    | none => rw [hz] at hj; simp at hj
    | some z => rw [hz] at hj; simp at hj; exact Or.inr ⟨z, rfl, hj.symm⟩
  · simp [e] at hj
    exact Or.inl (List.mem_iff_getElem?.2 ⟨j, hj⟩)
/-- Leading jumps changes where jumps lead, and nothing else. -/
theorem led_op {begins : List Int} {plain code : List QI} : ∀ k, (ledE begins plain code k).map (·.op) = code.map (·.op)
  | 0 => rfl
  | k + 1 => by
    unfold ledE
    have ih := led_op (begins := begins) (plain := plain) (code := code) k
    split
    · split
      · rename_i t _
        rw [← ih]
        apply List.ext_getElem?
        intro i
        simp only [List.getElem?_map, List.getElem?_modify]
        cases (ledE begins plain code k)[i]? with
        | none => rfl
        | some z => simp; split <;> rfl
      · exact ih
    · exact ih
theorem led_good {sites : List Int} {m : QM} {n : Nat} {s : Bd} (hs : BGood sites m n s) (hn : n = m.code.length) (hin : ∀ b ∈ s.begins, 0 ≤ b ∧ b < (s.code.length : Int)) : ∀ k, k ≤ n → ∀ y ∈ ledE s.begins m.code s.code k, (jmp y → 0 ≤ y.a ∧ y.a ≤ s.code.length) ∧ (y.op = 18 → ∃ j : Nat, j < n ∧ y.c = j ∧ sites[j]? = some y.a)
  | 0, _, y, hy => by
    have hl := hs.len
    refine ⟨fun hj => ?_, hs.guard y hy⟩
    have := hs.jump y hy hj
    omega
  | k + 1, hk, y, hy => by
    have ih := led_good hs hn hin k (by omega)
    unfold ledE at hy
    split at hy
    · rename_i x b hx hb
      split at hy
      · rename_i t ht
        rcases mem_modify hy with h' | ⟨z, hz, rfl⟩
        · exact ih y h'
        · unfold leadE at ht
          split at ht
          · rename_i hj
            have hti := hin t (List.mem_of_getElem? ht)
            obtain ⟨b', hb', hc⟩ := hs.stay k x hx (by omega) (by omega)
            rw [hb] at hb'; cases hb'
            have ho := led_op (begins := s.begins) (plain := m.code) (code := s.code) k
            have ho' := congrArg (fun l => l[b']?) ho
            simp only [List.getElem?_map] at ho'
            simp only [Int.toNat_natCast] at hz
            rw [hz, hc] at ho'
            simp at ho'
            refine ⟨fun _ => ⟨hti.1, by dsimp only; omega⟩, fun h18 => ?_⟩
            dsimp only at h18
            omega
          · cases ht
      · exact ih y hy
    · exact ih y hy
/-- Fast code keeps to its room, its jumps lead within it or just behind, its guards name sends of the method and the classes told for them. -/
theorem fast_good {X : QW} (h : rightE X = 0) {sites : List Int} {m : QM} (hm : Sml m) {c : Int} (hok : (fastM X c m sites).2 = true) :
    (fastM X c m sites).1.code.length ≤ 240 ∧ (fastM X c m sites).1.temps ≤ 40 ∧ (∀ y ∈ (fastM X c m sites).1.code, (jmp y → 0 ≤ y.a ∧ y.a ≤ (fastM X c m sites).1.code.length) ∧ (y.op = 18 → ∃ j : Nat, j < m.code.length ∧ y.c = j ∧ sites[j]? = some y.a)) ∧ ∃ y ∈ (fastM X c m sites).1.code, y.op = 18 := by
  have hg := build_good h hm (sites := sites) (Nat.le_refl m.code.length)
  have hb := build_small h hm (sites := sites) (Nat.le_refl m.code.length)
  have hi := build_in (xs := X.classes) (sites := sites) (m := m) m.code.length
  unfold fastM at hok ⊢
  dsimp only at hok ⊢
  generalize buildB X.classes sites m m.code.length = s at *
  split at hok
  · cases hok
  · rename_i hp
    rw [if_neg hp]
    dsimp only
    rw [ledE_len]
    refine ⟨by omega, hb.2.2.1, led_good hg rfl hi _ (Nat.le_refl _), ?_⟩
    obtain ⟨y, hy, ho⟩ := hg.one (by omega)
    have : y.op ∈ (ledE s.begins m.code s.code m.code.length).map (·.op) := by rw [led_op]; exact List.mem_map_of_mem hy
    obtain ⟨z, hz, e⟩ := List.mem_map.1 this
    exact ⟨z, hz, by rw [← ho]; exact e⟩
theorem fast_none {X : QW} {sites : List Int} {m : QM} {c : Int} (hok : (fastM X c m sites).2 = false) : fastM X c m sites = (noFast, false) := by
  unfold fastM at hok ⊢
  dsimp only at hok ⊢
  split at hok
  · rename_i hp; rw [if_pos hp]
  · cases hok
end Go.Proofs.Ythaefhojnjdheaa

/- The reference's pieces, as plain functions: jumps are told from the piece's beginning, and led when the pieces are put together. -/
namespace Go.Proofs.Ythaefhojnjdheaa
open Go.ChangeShapes Go.WideShapes Go.ChangeAt Go.RowKit
set_option linter.unusedSimpArgs false
set_option linter.unusedVariables false

/-- A jump told from elsewhere. -/
def shiftJ (n : Int) (y : QI) : QI := if y.op = 15 ∨ y.op = 16 then { y with a := y.a + n } else y
theorem shift_no {n : Int} {y : QI} (h : ¬ jmp y) : shiftJ n y = y := by unfold shiftJ; exact if_neg h
/-- What the reference's Piece makes of an instruction. -/
def standR (self first frm behind : Int) (x : QI) : QI :=
  if x.op = 1 then ins 3 self 0 0
  else if x.op = 2 then ins 3 (self + 1 + x.a) 0 0
  else if x.op = 3 ∨ x.op = 11 then { x with a := x.a + first }
  else if x.op = 4 then ins 19 self x.a 0
  else if x.op = 12 then ins 20 self x.a 0
  else if x.op = 15 ∨ x.op = 16 then { x with a := x.a + frm }
  else if x.op = 17 then ins 15 behind 0 0
  else x
theorem empty_is {s : ByteArray} (h : emptyB s = true) : s = ⟨#[]⟩ := by
  unfold emptyB at h
  simp at h
  obtain ⟨⟨l⟩⟩ := s
  simp_all
theorem standR_is {leaf : QM} (hs : Sml leaf) (self first frm behind : Int) {x : QI} (hx : x ∈ leaf.code) : standR self first frm behind x = standE self (self + 1) first frm behind x := by
  obtain ⟨p1, p2, p3, p4, p5⟩ := hs.plain x hx
  obtain ⟨op, a, b, c, nm⟩ := x
  simp only at p1 p2 p3 p4 p5
  subst p3 p4
  unfold standR standE
  split
  · rfl
  · split
    · rfl
    · split
      · rename_i h
        simp only at h
        have := empty_is (p5 (by omega))
        subst this
        simp only [ins, Int.add_comm]
      · split
        · rfl
        · split
          · rfl
          · split
            · rename_i h
              simp only at h
              have := empty_is (p5 (by omega))
              subst this
              simp only [ins, Int.add_comm]
            · rfl
theorem stand_shift (self args temps first behind n : Int) (x : QI) : shiftJ n (standE self args temps first behind x) = standE self args temps (first + n) (behind + n) x := by
  unfold standE
  split
  · exact shift_no (by simp [jmp])
  · split
    · exact shift_no (by simp [jmp])
    · split
      · rename_i h; exact shift_no (by simp only [jmp]; omega)
      · split
        · exact shift_no (by simp [jmp])
        · split
          · exact shift_no (by simp [jmp])
          · split
            · rename_i h
              unfold shiftJ
              rw [if_pos (by simpa using h)]
              simp only [ins, QI.mk.injEq, true_and, and_true]
              omega
            · split
              · rfl
              · rename_i h _; exact shift_no h
theorem head_shift (leaf : QM) (g : QI) (hg : g.op = 18) (self n : Int) : (headE leaf g self).map (shiftJ n) = headE leaf g self := by
  refine (List.map_congr_left (g := id) fun y hy => ?_).trans (List.map_id _)
  refine shift_no fun hj => ?_
  unfold headE at hy
  simp only [List.mem_append, List.mem_cons, List.not_mem_nil, or_false] at hy
  unfold jmp at hj
  rcases hy with ((((h | h) | h) | h) | h)
  · subst h; omega
  · subst h; simp at hj
  · have := sets_op _ _ y h; omega
  · subst h; simp at hj
  · have := nils_op _ _ y h; omega
/-- A piece told from its beginning, put at n. -/
theorem piece_shift (leaf : QM) (g : QI) (hg : g.op = 18) (self n : Int) : (pieceE leaf g self 0).map (shiftJ n) = pieceE leaf g self n := by
  unfold pieceE
  rw [List.map_append, head_shift leaf g hg, List.map_map]
  congr 1
  apply List.map_congr_left
  intro x _
  simp only [Function.comp]
  rw [stand_shift]
  unfold firstOf
  congr 1 <;> omega
theorem modify_here (o : List QI) (y : QI) (rest : List QI) (f : QI → QI) : (o ++ ([y] ++ rest)).modify o.length f = o ++ ([f y] ++ rest) := by
  induction o with
  | nil => simp
  | cons a o ih => exact (List.modify_succ_cons f a _ _).trans (congrArg (a :: ·) ih)
/-- A jump that stays, led. -/
def leadJ (B : List Int) (y : QI) : QI := if y.op = 15 ∨ y.op = 16 then { y with a := B.getD y.a.toNat 0 } else y
/-- What the reference puts out, of the first k instructions. -/
def outR (xs : List QC) (sites : List Int) (m : QM) (B : List Int) : Nat → List QI
  | 0 => []
  | k + 1 => match m.code[k]? with
    | none => outR xs sites m B k
    | some x => outR xs sites m B k ++ match whoE xs sites m.code.length (buildB xs sites m k).code.length (buildB xs sites m k).temps k x with
      | none => [leadJ B (stayE x k)]
      | some leaf => (pieceE leaf (ins 18 (sites.getD k (-1)) leaf.args k) (buildB xs sites m k).temps 0).map (shiftJ (buildB xs sites m k).code.length)
theorem led_out {X : QW} (h : rightE X = 0) {sites : List Int} {m : QM} (hm : Sml m) {B : List Int} (hl : B.length = m.code.length) : ∀ {k : Nat}, k ≤ m.code.length → (∀ j, j < k → B[j]? = some ((buildB X.classes sites m j).code.length : Int)) → ∀ rest, ledE B m.code ((buildB X.classes sites m k).code ++ rest) k = outR X.classes sites m B k ++ rest
  | 0, _, _, rest => rfl
  | k + 1, hk, hB, rest => by
    have ih := led_out h hm hl (sites := sites) (k := k) (by omega) (fun j hj => hB j (by omega))
    have hx : m.code[k]? = some m.code[k] := List.getElem?_eq_getElem (by omega)
    have hxm : m.code[k] ∈ m.code := List.getElem_mem _
    have hb := hB k (by omega)
    have hlen : (outR X.classes sites m B k).length = (buildB X.classes sites m k).code.length := by
      have := congrArg List.length (ih [])
      rw [ledE_len] at this
      simpa using this.symm
    rw [buildB_succ hx]
    unfold ledE outR
    rw [hx, hb]
    generalize m.code[k] = x at *
    generalize buildB X.classes sites m k = s at *
    generalize outR X.classes sites m B k = o at *
    unfold stepB
    simp only
    cases hw : whoE X.classes sites m.code.length s.code.length s.temps k x with
    | none =>
      simp only [List.append_assoc]
      rw [ih]
      by_cases hj : x.op = 15 ∨ x.op = 16
      · have hjr := hm.jump x hxm hj
        have ht : B[x.a.toNat]? = some (B.getD x.a.toNat 0) := by
          rw [List.getD_eq_getElem?_getD, List.getElem?_eq_getElem (by omega)]; rfl
        have e : stayE x (k : Int) = x := by unfold stayE; rw [if_neg (by omega)]
        have hle : leadE B x = some (B.getD x.a.toNat 0) := by unfold leadE; rw [if_pos ⟨hj, hjr.1⟩, ht]
        rw [hle, e]
        unfold leadJ
        rw [if_pos hj]
        simp only [Int.toNat_natCast]
        rw [← hlen, modify_here]
      · have hle : leadE B x = none := by unfold leadE; rw [if_neg (fun h => hj h.1)]
        rw [hle]
        unfold leadJ
        have hso : (stayE x (k : Int)).op = x.op := by unfold stayE; split <;> rfl
        rw [if_neg (by rw [hso]; exact hj)]
    | some leaf =>
      have hst : standsIn X.classes sites k x = some leaf := by
        unfold whoE at hw
        split at hw
        · cases hw
        · rename_i l hl
          split at hw
          · cases hw; exact hl
          · cases hw
      obtain ⟨-, -, -, ho14⟩ := stands_small h hst
      have hle : leadE B x = none := by unfold leadE; rw [if_neg (by omega)]
      simp only [List.append_assoc]
      rw [hle, ih, piece_shift _ _ rfl]
theorem begins_at {xs : List QC} {sites : List Int} {m : QM} : ∀ {k : Nat}, k ≤ m.code.length → ∀ j, j < k → (buildB xs sites m k).begins[j]? = some ((buildB xs sites m j).code.length : Int)
  | 0, _, j, hj => by omega
  | k + 1, hk, j, hj => by
    have hl := build_begins (xs := xs) (sites := sites) (m := m) (k := k) (by omega)
    rw [buildB_succ (List.getElem?_eq_getElem (by omega)), step_begins]
    by_cases hjk : j < k
    · rw [List.getElem?_append_left (by omega)]; exact begins_at (by omega) j hjk
    · have : j = k := by omega
      subst this
      rw [List.getElem?_append_right (by omega), hl]; simp
/-- Fast code is what the reference puts out. -/
theorem fast_out {X : QW} (h : rightE X = 0) {sites : List Int} {m : QM} (hm : Sml m) : ledE (buildB X.classes sites m m.code.length).begins m.code (buildB X.classes sites m m.code.length).code m.code.length = outR X.classes sites m (buildB X.classes sites m m.code.length).begins m.code.length := by
  have := led_out h hm (sites := sites) (B := (buildB X.classes sites m m.code.length).begins) (build_begins (Nat.le_refl _)) (Nat.le_refl _) (begins_at (Nat.le_refl _)) []
  simpa using this
end Go.Proofs.Ythaefhojnjdheaa

/- The reference's Piece. -/
namespace Go.Proofs.Ythaefhojnjdheaa
open Go.ChangeShapes Go.WideShapes Go.ChangeAt Go.RowKit
set_option linter.unusedSimpArgs false
set_option linter.unusedVariables false
set_option maxRecDepth 8000

/-- The box of the method. -/
structure PrB (w : World) (A T : Nat) (kv : Value) (w' : World) : Prop where
  l1 : w'.cell? ⟨w.heap.size, 1, none⟩ = some (.int .i64 (A : Int))
  l2 : w'.cell? ⟨w.heap.size, 2, none⟩ = some (.int .i64 (T : Int))
  l4 : w'.cell? ⟨w.heap.size, 4, none⟩ = some kv
theorem PrB.below {w : World} {A T : Nat} {kv : Value} {w' w'' : World} (h : PrB w A T kv w') (hb : Below (w.heap.size + 1) w' w'') : PrB w A T kv w'' :=
  ⟨cellBel hb (by omega) h.l1, cellBel hb (by omega) h.l2, cellBel hb (by omega) h.l4⟩
theorem prB_new (w : World) (nm : ByteArray) (A T : Nat) (pr : Int) (kv : Value) : PrB w A T kv (w.alloc (.cells #[.string nm, .int .i64 (A : Int), .int .i64 (T : Int), .int .i64 pr, kv] 48)) :=
  ⟨cell_new w #[.string nm, .int .i64 (A : Int), .int .i64 (T : Int), .int .i64 pr, kv] 48 _ rfl 1, cell_new w #[.string nm, .int .i64 (A : Int), .int .i64 (T : Int), .int .i64 pr, kv] 48 _ rfl 2, cell_new w #[.string nm, .int .i64 (A : Int), .int .i64 (T : Int), .int .i64 pr, kv] 48 _ rfl 4⟩

set_option maxHeartbeats 4000000 in
theorem pieceRC_any {P : Nat → Prop} (lname : ByteArray) (A T : Nat) (lprim : Int) (lc : List QI) (self cls att : Int) (kv : Value) (w : World) (hk : IsCode P w kv lc) (hA4 : A ≤ 4) (hT6 : T ≤ 6) (hs : 0 ≤ self ∧ self ≤ 100) (hl60 : lc.length ≤ 60)
    (hx : ∀ x ∈ lc, (x.op = 2 ∨ x.op = 3 ∨ x.op = 11 ∨ x.op = 15 ∨ x.op = 16) → 0 ≤ x.a ∧ x.a ≤ 1000) (g : QI) (hg : g = ins 18 cls A att) (tm frm : Int) (htm : Hid (tm = self + 1 + A)) (hfr : Hid (frm = 3 + A + 2 * T)) (R : List QI) (HR : Hid (R = [g, ins 21 0 0 0] ++ setsE (self + 1) A ++ [ins 11 self 0 0] ++ nilsE tm T ++ lc.map (standR self tm frm (frm + lc.length)))) :
    Calls Try.prog 30 #[MV ⟨lname, A, T, lprim, lc⟩ kv, .int .i64 self, .int .i64 cls, .int .i64 att] w fun e w' => ∃ a cap, e = .returned (.slice a R.length cap) ∧ OwnI w' w.heap.size a cap R ∧ Below w.heap.size w w' := by
  obtain ⟨ak, ck, rfl, hlk, hck, -, hrow⟩ := id hk
  unfold maxLen at hck
  have htm0 : 0 ≤ tm ∧ tm ≤ 200 := by have := htm.out; omega
  have hfr0 : 0 ≤ frm ∧ frm ≤ 100 := by have := hfr.out; omega
  have hB0 := prB_new w lname A T lprim (.slice ak lc.length ck)
  have hb1 := bel1 w (.cells #[.string lname, .int .i64 (A : Int), .int .i64 (T : Int), .int .i64 lprim, .slice ak lc.length ck] 48)
  clear hrow
  have hz0 : (w.alloc (.cells #[.string lname, .int .i64 (A : Int), .int .i64 (T : Int), .int .i64 lprim, .slice ak lc.length ck] 48)).heap.size = w.heap.size + 1 := by simp
  have l1 := hB0.l1
  go_enter Try.func30, Try.ntmps30
  go_upto_region 2 with (fail)
  generalize (w.alloc (.cells #[.string lname, .int .i64 (A : Int), .int .i64 (T : Int), .int .i64 lprim, .slice ak lc.length ck] 48)) = W0 at *
  have hb4 : Below (w.heap.size + 1) W0 (W0.alloc (.cells #[.int .i64 18, .int .i64 cls, .int .i64 (A : Int), .int .i64 att, .string ⟨#[]⟩, .int .i64 21, .int .i64 0, .int .i64 0, .int .i64 0, .string ⟨#[]⟩] 54)) := bel_al (Below.refl _ _) _ (by omega)
  have hz4 : w.heap.size + 2 ≤ (W0.alloc (.cells #[.int .i64 18, .int .i64 cls, .int .i64 (A : Int), .int .i64 att, .string ⟨#[]⟩, .int .i64 21, .int .i64 0, .int .i64 0, .int .i64 0, .string ⟨#[]⟩] 54)).heap.size := by simp; omega
  have hO : OwnI (W0.alloc (.cells #[.int .i64 18, .int .i64 cls, .int .i64 (A : Int), .int .i64 att, .string ⟨#[]⟩, .int .i64 21, .int .i64 0, .int .i64 0, .int .i64 0, .string ⟨#[]⟩] 54)) (w.heap.size + 1) (some ⟨w.heap.size + 1, 0, none⟩) 2 [g, ins 21 0 0 0] := by
    subst hg
    refine ⟨rfl, Or.inr ⟨w.heap.size + 1, 0, 2, _, rfl, Nat.le_refl _, by rw [← hz0]; exact heap_alloc_new W0 _, Nat.le_refl _, by unfold maxLen; omega, Nat.le_refl _, rfl⟩⟩
  have hB := hB0.below hb4
  have hbw : Below w.heap.size w (W0.alloc (.cells #[.int .i64 18, .int .i64 cls, .int .i64 (A : Int), .int .i64 att, .string ⟨#[]⟩, .int .i64 21, .int .i64 0, .int .i64 0, .int .i64 0, .string ⟨#[]⟩] 54)) := nstep hb1 (bel1 _ _)
  generalize (W0.alloc (.cells #[.int .i64 18, .int .i64 cls, .int .i64 (A : Int), .int .i64 att, .string ⟨#[]⟩, .int .i64 21, .int .i64 0, .int .i64 0, .int .i64 0, .string ⟨#[]⟩] 54)) = W at *
  clear hB0 hb1 hz0 hb4 l1 W0 hg
  have l1 := hB.l1
  go_wp2
  clear l1
  go_loopg [9, 25] A (fun gk cv nv wr => ∃ (i : Nat) (a : Option Addr) (cap : Nat) (code : List QI), i + gk = A ∧ nv = .int .i64 (i : Int) ∧ cv = .slice a code.length cap ∧ OwnI wr (w.heap.size + 1) a cap code ∧ Hid (code ++ setsE (self + 1) gk = [g, ins 21 0 0 0] ++ setsE (self + 1) A) ∧ Below (w.heap.size + 1) W wr ∧ code.length + gk = A + 2)
  case atStart => exact ⟨0, _, _, _, by omega, rfl, rfl, hO, rfl, Below.refl _ _, by simp; omega⟩
  case round =>
    clear hO
    obtain ⟨i, a, cap, code, hi, rfl, rfl, hO, HC, hb, hcl⟩ := hrel
    have hzr : w.heap.size + 2 ≤ wr.heap.size := Nat.le_trans hz4 hb.size
    have hcap : code.length ≤ cap ∧ cap ≤ 9223372036854775807 := by
      obtain ⟨a', c', e, h1, h2⟩ := hO.form
      cases e; unfold maxLen at h2; omega
    by_cases hlt : i < A
    · have hd : decide ((i : Int) < (A : Int)) = true := by simp; omega
      have l1 := (hB.below hb).l1
      have hw1 : IntKind.i64.wrap (self + (A : Int)) = self + (A : Int) := wrap_of (by omega) (by omega)
      have hw2 : IntKind.i64.wrap (self + (A : Int) - (i : Int)) = self + (A : Int) - (i : Int) := wrap_of (by omega) (by omega)
      go_wp2_with (at_builtin; refine wpList_append_at rfl (.tmp 28) (.tmp 36) 29 54 _ 5 48 rfl Try.underlying29 info54 rfl (by omega) (w.heap.size + 1) code.length (.slice a code.length cap) (icells code) rfl (hO.alloc _) wr.heap.size rfl [.int .i64 11, .int .i64 (self + (A : Int) - (i : Int)), .int .i64 0, .int .i64 0, .string ⟨#[]⟩] rfl (heap_alloc_new _ _) (by intro u hu; simp only [List.mem_cons, List.not_mem_nil, or_false] at hu; rcases hu with h | h | h | h | h <;> (subst h; rfl)) (by unfold maxLen; omega) (by omega) (by simp; omega) ?_; intro a1 cap1 w1 r1 r2 r3 r4; have hO' := hid (OwnI.more (ys := [ins 11 (self + (A : Int) - (i : Int)) 0 0]) r1 rfl rfl); have hb' := hid ((bel_al hb (.cells #[.int .i64 11, .int .i64 (self + (A : Int) - (i : Int)), .int .i64 0, .int .i64 0, .string ⟨#[]⟩] 54) (by omega)).trans r3); clear r1 r2 r3 r4)
      go_roundg (gk - 1)
      case measure => omega
      case rel =>
        refine ⟨i + 1, _, _, _, by omega, by go_num, by simp, hO'.out, ?_, hb'.out, by simp; omega⟩
        show _ = _
        rw [← HC.out]
        obtain ⟨j, hj⟩ : ∃ j, gk = j + 1 := ⟨gk - 1, by omega⟩
        subst hj
        have e : self + (A : Int) - (i : Int) = self + 1 + (j : Int) := by omega
        rw [e]
        simp [setsE]
    · obtain rfl : gk = 0 := by omega
      have HC0 : Hid (code = [g, ins 21 0 0 0] ++ setsE (self + 1) A) := by show _ = _; rw [← HC.out]; simp [setsE]
      have hd0 : decide ((i : Int) < (A : Int)) = false := by simp; omega
      have l1 : wr.cell? ⟨w.heap.size, 1, none⟩ = some (.int .i64 (A : Int)) := (hB.below hb).l1
      go_upto_region 8 with (at_builtin; refine wpList_append_at rfl (.tmp 39) (.tmp 42) 29 54 _ 5 48 rfl Try.underlying29 info54 rfl (by omega) (w.heap.size + 1) code.length (.slice a code.length cap) (icells code) rfl (hO.alloc _) wr.heap.size rfl [.int .i64 11, .int .i64 self, .int .i64 0, .int .i64 0, .string ⟨#[]⟩] rfl (heap_alloc_new _ _) (by intro u hu; simp only [List.mem_cons, List.not_mem_nil, or_false] at hu; rcases hu with h | h | h | h | h <;> (subst h; rfl)) (by unfold maxLen; omega) (by omega) (by simp; omega) ?_; intro a1 cap1 w1 r1 r2 r3 r4)
      have hO1 := OwnI.more (ys := [ins 11 self 0 0]) r1 rfl rfl
      have hb1 := (bel_al hb (.cells #[.int .i64 11, .int .i64 self, .int .i64 0, .int .i64 0, .string ⟨#[]⟩] 54) (by omega)).trans r3
      have hz1 : w.heap.size + 2 ≤ w1.heap.size := Nat.le_trans hz4 hb1.size
      clear r1 r2 r3 r4 hO HC l1
      obtain ⟨C1, hC1⟩ : ∃ C1, C1 = code ++ [ins 11 self 0 0] := ⟨_, rfl⟩
      have hl1 : code.length + 1 = C1.length := by rw [hC1]; simp
      have HLC : Hid (C1.length = A + 3) := by show _ = _; omega
      rw [← hC1] at hO1
      rw [hl1]
      have HC1 : Hid (C1 = [g, ins 21 0 0 0] ++ setsE (self + 1) A ++ [ins 11 self 0 0]) := by show _ = _; rw [hC1, HC0.out]
      clear hC1 HC0 hl1 hcl hzr hcap
      have l1 : w1.cell? ⟨w.heap.size, 1, none⟩ = some (.int .i64 (A : Int)) := (hB.below hb1).l1
      have l2 : w1.cell? ⟨w.heap.size, 2, none⟩ = some (.int .i64 (T : Int)) := (hB.below hb1).l2
      have hw1 : IntKind.i64.wrap (self + 1) = self + 1 := wrap_of (by omega) (by omega)
      have hw2 : IntKind.i64.wrap (self + 1 + (A : Int)) = tm := by rw [htm.out]; exact wrap_of (by omega) (by omega)
      go_wp2
      clear l1 l2
      go_loopg [9, 51] T (fun g2 cv iv wr => ∃ (i : Nat) (a : Option Addr) (cap : Nat), i + g2 = T ∧ iv = .int .i64 (i : Int) ∧ cv = .slice a (C1 ++ nilsE tm i).length cap ∧ OwnI wr (w.heap.size + 1) a cap (C1 ++ nilsE tm i) ∧ Below (w.heap.size + 1) W wr)
      case atStart => exact ⟨0, a1, cap1, by omega, rfl, by simp [nilsE], by simpa [nilsE] using hO1, hb1⟩
      case round =>
        clear hO1 hb1 hz1 hb hi hlt
        obtain ⟨i, a, cap, hi, rfl, rfl, hO, hb⟩ := hrel
        have hzr : w.heap.size + 2 ≤ wr.heap.size := Nat.le_trans hz4 hb.size
        have HCL : Hid ((C1 ++ nilsE tm i).length = A + 3 + 2 * i) := by show _ = _; rw [List.length_append, nilsE_len, HLC.out]
        have hcl : (C1 ++ nilsE tm i).length ≤ 20 := by have := HCL.out; omega
        have hcap : (C1 ++ nilsE tm i).length ≤ cap ∧ cap ≤ 9223372036854775807 := by
          obtain ⟨a', c', e, h1, h2⟩ := hO.form
          cases e; unfold maxLen at h2; exact ⟨h1, by omega⟩
        by_cases hlt : i < T
        · have hd : decide ((i : Int) < (T : Int)) = true := by simp; omega
          have hw1 : IntKind.i64.wrap (tm + (i : Int)) = tm + (i : Int) := wrap_of (by omega) (by omega)
          obtain ⟨cd, hcd⟩ : ∃ cd, cd = C1 ++ nilsE tm i := ⟨_, rfl⟩
          have HCD : Hid (cd ++ [ins 6 0 0 0, ins 11 (tm + (i : Int)) 0 0] = C1 ++ nilsE tm (i + 1)) := by show _ = _; rw [hcd, nilsE_succ]; simp
          rw [← hcd] at hO hcl hcap HCL ⊢
          clear hcd
          go_wp2_with (at_builtin; refine wpList_append_n rfl (.tmp 54) (.tmp 60) 29 54 _ 5 48 rfl Try.underlying29 info54 rfl (by omega) (w.heap.size + 1) cd.length (.slice a cd.length cap) (icells cd) rfl (hO.alloc _) ⟨wr.heap.size, 0, none⟩ 2 2 (by omega) rfl [.int .i64 6, .int .i64 0, .int .i64 0, .int .i64 0, .string ⟨#[]⟩, .int .i64 11, .int .i64 (tm + (i : Int)), .int .i64 0, .int .i64 0, .string ⟨#[]⟩] rfl (fun j u hj => by rw [Addr.add_lit, Nat.zero_add, cell_of_row _ _ _ _ _ _ (heap_alloc_new _ _)]; simpa using hj) (by intro u hu; simp only [List.mem_cons, List.not_mem_nil, or_false] at hu; rcases hu with h | h | h | h | h | h | h | h | h | h <;> (subst h; rfl)) (by unfold maxLen; omega) (by omega) (by simp; omega) ?_; intro a1 cap1 w1 r1 r2 r3 r4; have hO' := hid (OwnI.more (ys := [ins 6 0 0 0, ins 11 (tm + (i : Int)) 0 0]) r1 rfl rfl); have hb' := hid ((bel_al hb (.cells #[.int .i64 6, .int .i64 0, .int .i64 0, .int .i64 0, .string ⟨#[]⟩, .int .i64 11, .int .i64 (tm + (i : Int)), .int .i64 0, .int .i64 0, .string ⟨#[]⟩] 54) (by omega)).trans r3); clear r1 r2 r3 r4)
          go_roundg (T - (i + 1))
          case measure => omega
          case rel =>
            refine ⟨i + 1, _, _, by omega, by go_num, ?_, by rw [← HCD.out]; exact hO'.out, hb'.out⟩
            rw [← HCD.out]; simp
        · obtain rfl : i = T := by omega
          have hd : decide ((i : Int) < (i : Int)) = false := by simp
          obtain ⟨C2, hC2⟩ : ∃ C2, C2 = C1 ++ nilsE tm i := ⟨_, rfl⟩
          have HC2 : Hid (C2 = [g, ins 21 0 0 0] ++ setsE (self + 1) A ++ [ins 11 self 0 0] ++ nilsE tm i) := by show _ = _; rw [hC2, HC1.out]
          rw [← hC2] at hO hcl hcap HCL ⊢
          clear hC2 HC1 HLC hlt hi
          have l4 : wr.cell? ⟨w.heap.size, 4, none⟩ = some (.slice ak lc.length ck) := (hB.below hb).l4
          have hfl : Hid ((C2.length : Int) = frm) := by show _ = _; rw [HCL.out, hfr.out]; omega
          go_upto_region 15 with (fail)
          rw [hfl.out]
          have hwb : IntKind.i64.wrap (frm + (lc.length : Int)) = frm + (lc.length : Int) := wrap_of (by omega) (by omega)
          clear hfl hfr htm
          go_wp2
          clear l4
          go_loopg [9, 68] lc.length (fun g3 cv iv wr => ∃ (k : Nat) (a : Option Addr) (cap : Nat), k + g3 = lc.length ∧ iv = .int .i64 (k : Int) ∧ cv = .slice a (C2 ++ (lc.take k).map (standR self tm frm (frm + lc.length))).length cap ∧ OwnI wr (w.heap.size + 1) a cap (C2 ++ (lc.take k).map (standR self tm frm (frm + lc.length))) ∧ Below (w.heap.size + 1) W wr)
          case atStart => exact ⟨0, a, cap, by omega, rfl, by simp, by simpa using hO, hb⟩
          case round =>
            clear hO hb hzr hcap
            obtain ⟨k, a, cap, hkk, rfl, rfl, hO, hb⟩ := hrel
            have hzr : w.heap.size + 2 ≤ wr.heap.size := Nat.le_trans hz4 hb.size
            have hcl2 : (C2 ++ (lc.take k).map (standR self tm frm (frm + lc.length))).length ≤ 100 := by have := HCL.out; simp; omega
            have hcap : (C2 ++ (lc.take k).map (standR self tm frm (frm + lc.length))).length ≤ cap ∧ cap ≤ 9223372036854775807 := by
              obtain ⟨a', c', e, h1, h2⟩ := hO.form
              cases e; unfold maxLen at h2; exact ⟨h1, by omega⟩
            have hbr : Below w.heap.size w wr := hbw.trans ⟨hb.os, hb.tape, hb.output, hb.size, fun b hb' => hb.block b (by omega)⟩
            by_cases hlt : k < lc.length
            · have hxk : lc[k]? = some lc[k] := by simp [hlt]
              obtain ⟨ad2, cap2, e2, -, -, -, hrow⟩ := hk.later goodI hbr
              cases e2
              obtain ⟨b, o, rfl, -, u0, u1, u2, u3, u4, -⟩ := hrow k lc[k] hxk
              have hxa := hx lc[k] (List.getElem_mem hlt)
              have HTK : Hid (C2 ++ (lc.take (k + 1)).map (standR self tm frm (frm + lc.length)) = C2 ++ (lc.take k).map (standR self tm frm (frm + lc.length)) ++ [standR self tm frm (frm + lc.length) lc[k]]) := by show _ = _; rw [List.take_add_one, hxk, List.map_append, ← List.append_assoc]; rfl
              generalize lc[k] = x at *
              simp only [Nat.add_zero] at u0
              obtain ⟨cd, hcd⟩ : ∃ cd, cd = C2 ++ (lc.take k).map (standR self tm frm (frm + lc.length)) := ⟨_, rfl⟩
              rw [← hcd] at hO hcl2 hcap HTK ⊢
              clear hcd hrow hxk
              have hk1 : (k : Int) < (lc.length : Int) := by omega
              have hk0 : (0 : Int) ≤ (k : Int) := by omega
              have l4 : ∀ q, (wr.alloc q).cell? ⟨w.heap.size, 4, none⟩ = some (.slice (some ⟨b, o, none⟩) lc.length ck) := fun q => cell_later (bel1 _ _) (hB.below hb).l4
              obtain ⟨xop, xa, xb, xc, xn⟩ := x
              dsimp only at u0 u1 u2 u3 u4 hxa
              obtain ⟨y, HY⟩ : ∃ y, Hid (y = standR self tm frm (frm + lc.length) ⟨xop, xa, xb, xc, xn⟩) := ⟨_, rfl⟩
              rw [← HY.out] at HTK
              go_upto_block 6 with (fail)
              go_cut [] (fun wx => wx = wr.alloc (.cells #[.int .i64 y.op, .int .i64 y.a, .int .i64 y.b, .int .i64 y.c, .string y.name] 54))
              case first =>
                by_cases g1 : xop = 1
                · have hd : (xop == 1) = true := by simpa using g1
                  have HR : Hid (y = ins 3 self 0 0) := by show _ = _; rw [HY.out]; unfold standR; rw [if_pos (by simp only; omega)]
                  obtain rfl := HR.out
                  clear hxa HY HR HTK g1
                  go_wp2_with fail
                  go_meet
                  case rel => rfl
                have d1 : (xop == 1) = false := by simpa using g1
                by_cases g2 : xop = 2
                · have hd : (xop == 2) = true := by simpa using g2
                  have HR : Hid (y = ins 3 (self + 1 + xa) 0 0) := by show _ = _; rw [HY.out]; unfold standR; rw [if_neg (by simp only; omega), if_pos (by simp only; omega)]
                  obtain rfl := HR.out
                  have hxa2 := hxa (by omega)
                  have hw0 : IntKind.i64.wrap (self + 1) = self + 1 := wrap_of (by omega) (by omega)
                  have hw : IntKind.i64.wrap (self + 1 + xa) = self + 1 + xa := wrap_of (by omega) (by omega)
                  clear hxa HY HR HTK g1 g2
                  go_wp2_with fail
                  go_meet
                  case rel => rfl
                have d2 : (xop == 2) = false := by simpa using g2
                by_cases g3 : xop = 3
                · have hd : (xop == 3) = true := by simpa using g3
                  have HR : Hid (y = ⟨xop, xa + tm, xb, xc, xn⟩) := by show _ = _; rw [HY.out]; unfold standR; rw [if_neg (by simp only; omega), if_neg (by simp only; omega), if_pos (by simp only; omega)]
                  obtain rfl := HR.out
                  have hxa2 := hxa (by omega)
                  have hw : IntKind.i64.wrap (xa + tm) = xa + tm := wrap_of (by omega) (by omega)
                  clear hxa HY HR HTK g1 g2 g3
                  go_wp2_with fail
                  go_meet
                  case rel => rfl
                have d3 : (xop == 3) = false := by simpa using g3
                by_cases g11 : xop = 11
                · have hd : (xop == 11) = true := by simpa using g11
                  have HR : Hid (y = ⟨xop, xa + tm, xb, xc, xn⟩) := by show _ = _; rw [HY.out]; unfold standR; rw [if_neg (by simp only; omega), if_neg (by simp only; omega), if_pos (by simp only; omega)]
                  obtain rfl := HR.out
                  have hxa2 := hxa (by omega)
                  have hw : IntKind.i64.wrap (xa + tm) = xa + tm := wrap_of (by omega) (by omega)
                  clear hxa HY HR HTK g1 g2 g3 g11
                  go_wp2_with fail
                  go_meet
                  case rel => rfl
                have d11 : (xop == 11) = false := by simpa using g11
                by_cases g4 : xop = 4
                · have hd : (xop == 4) = true := by simpa using g4
                  have HR : Hid (y = ins 19 self xa 0) := by show _ = _; rw [HY.out]; unfold standR; rw [if_neg (by simp only; omega), if_neg (by simp only; omega), if_neg (by simp only; omega), if_pos (by simp only; omega)]
                  obtain rfl := HR.out
                  clear hxa HY HR HTK g1 g2 g3 g11 g4
                  go_wp2_with fail
                  go_meet
                  case rel => rfl
                have d4 : (xop == 4) = false := by simpa using g4
                by_cases g12 : xop = 12
                · have hd : (xop == 12) = true := by simpa using g12
                  have HR : Hid (y = ins 20 self xa 0) := by show _ = _; rw [HY.out]; unfold standR; rw [if_neg (by simp only; omega), if_neg (by simp only; omega), if_neg (by simp only; omega), if_neg (by simp only; omega), if_pos (by simp only; omega)]
                  obtain rfl := HR.out
                  clear hxa HY HR HTK g1 g2 g3 g11 g4 g12
                  go_wp2_with fail
                  go_meet
                  case rel => rfl
                have d12 : (xop == 12) = false := by simpa using g12
                by_cases g15 : xop = 15
                · have hd : (xop == 15) = true := by simpa using g15
                  have HR : Hid (y = ⟨xop, xa + frm, xb, xc, xn⟩) := by show _ = _; rw [HY.out]; unfold standR; rw [if_neg (by simp only; omega), if_neg (by simp only; omega), if_neg (by simp only; omega), if_neg (by simp only; omega), if_neg (by simp only; omega), if_pos (by simp only; omega)]
                  obtain rfl := HR.out
                  have hxa2 := hxa (by omega)
                  have hw : IntKind.i64.wrap (xa + frm) = xa + frm := wrap_of (by omega) (by omega)
                  clear hxa HY HR HTK g1 g2 g3 g11 g4 g12 g15
                  go_wp2_with fail
                  go_meet
                  case rel => rfl
                have d15 : (xop == 15) = false := by simpa using g15
                by_cases g16 : xop = 16
                · have hd : (xop == 16) = true := by simpa using g16
                  have HR : Hid (y = ⟨xop, xa + frm, xb, xc, xn⟩) := by show _ = _; rw [HY.out]; unfold standR; rw [if_neg (by simp only; omega), if_neg (by simp only; omega), if_neg (by simp only; omega), if_neg (by simp only; omega), if_neg (by simp only; omega), if_pos (by simp only; omega)]
                  obtain rfl := HR.out
                  have hxa2 := hxa (by omega)
                  have hw : IntKind.i64.wrap (xa + frm) = xa + frm := wrap_of (by omega) (by omega)
                  clear hxa HY HR HTK g1 g2 g3 g11 g4 g12 g15 g16
                  go_wp2_with fail
                  go_meet
                  case rel => rfl
                have d16 : (xop == 16) = false := by simpa using g16
                by_cases g17 : xop = 17
                · have hd : (xop == 17) = true := by simpa using g17
                  have HR : Hid (y = ins 15 (frm + lc.length) 0 0) := by show _ = _; rw [HY.out]; unfold standR; rw [if_neg (by simp only; omega), if_neg (by simp only; omega), if_neg (by simp only; omega), if_neg (by simp only; omega), if_neg (by simp only; omega), if_neg (by simp only; omega), if_pos (by simp only; omega)]
                  obtain rfl := HR.out
                  clear hxa HY HR HTK g1 g2 g3 g11 g4 g12 g15 g16 g17
                  go_wp2_with fail
                  go_meet
                  case rel => rfl
                have d17 : (xop == 17) = false := by simpa using g17
                have HR : Hid (y = ⟨xop, xa, xb, xc, xn⟩) := by show _ = _; rw [HY.out]; unfold standR; rw [if_neg (by simp only; omega), if_neg (by simp only; omega), if_neg (by simp only; omega), if_neg (by simp only; omega), if_neg (by simp only; omega), if_neg (by simp only; omega), if_neg (by simp only; omega)]
                obtain rfl := HR.out
                clear hxa HY HR HTK g1 g2 g3 g11 g4 g12 g15 g16 g17
                go_wp2_with fail
                go_meet
                case rel => rfl
              case rest =>
                subst hcut
                go_wp2_with (at_builtin; refine wpList_append_at rfl (.tmp 122) (.tmp 124) 29 54 _ 5 48 rfl Try.underlying29 info54 rfl (by omega) (w.heap.size + 1) cd.length (.slice a cd.length cap) (icells cd) rfl ((hO.alloc _).alloc _) (wr.heap.size + 1) rfl [.int .i64 y.op, .int .i64 y.a, .int .i64 y.b, .int .i64 y.c, .string y.name] rfl (by have e := heap_alloc_new (wr.alloc (.cells #[.int .i64 y.op, .int .i64 y.a, .int .i64 y.b, .int .i64 y.c, .string y.name] 54)) (.cells #[.int .i64 y.op, .int .i64 y.a, .int .i64 y.b, .int .i64 y.c, .string y.name] 54); simpa using e) (by intro u hu; simp only [List.mem_cons, List.not_mem_nil, or_false] at hu; rcases hu with h | h | h | h | h <;> (subst h; rfl)) (by unfold maxLen; omega) (by omega) (by simp; omega) ?_; intro a1 cap1 w1 r1 r2 r3 r4; have hO' := hid (OwnI.more (ys := [y]) r1 rfl rfl); have hb' := hid ((bel_al (bel_al hb (.cells #[.int .i64 y.op, .int .i64 y.a, .int .i64 y.b, .int .i64 y.c, .string y.name] 54) (by omega)) (.cells #[.int .i64 y.op, .int .i64 y.a, .int .i64 y.b, .int .i64 y.c, .string y.name] 54) (by simp; omega)).trans r3); clear r1 r2 r3 r4)
                go_roundg (lc.length - (k + 1))
                case measure => omega
                case rel =>
                  refine ⟨k + 1, _, _, by omega, by go_num, ?_, by rw [HTK.out]; exact hO'.out, hb'.out⟩
                  rw [HTK.out]; simp
            · obtain rfl : k = lc.length := by omega
              have HE : Hid (C2 ++ (lc.take lc.length).map (standR self tm frm (frm + lc.length)) = R) := by show _ = _; rw [HR.out, HC2.out, List.take_length]
              rw [HE.out] at hO ⊢
              have HO := hid (ownI_base (B' := w.heap.size) hO (by omega))
              have HBR := hid hbr
              clear hO hbr hcl2 hcap
              go_wp2
              go_ret
              exact ⟨_, _, rfl, HO.out, HBR.out⟩
theorem pieceR_any {P : Nat → Prop} (leaf : QM) (hsm : Sml leaf) (self cls att : Int) (kv : Value) (w : World) (hk : IsCode P w kv leaf.code) (hs : 0 ≤ self ∧ self ≤ 100) :
    Calls Try.prog 30 #[MV leaf kv, .int .i64 self, .int .i64 cls, .int .i64 att] w fun e w' => ∃ a cap, e = .returned (.slice a (pieceE leaf (ins 18 cls leaf.args att) self 0).length cap) ∧ OwnI w' w.heap.size a cap (pieceE leaf (ins 18 cls leaf.args att) self 0) ∧ Below w.heap.size w w' := by
  obtain ⟨lname, largs, ltemps, lprim, lc⟩ := leaf
  obtain ⟨A, rfl⟩ : ∃ A : Nat, largs = (A : Int) := ⟨largs.toNat, by have := hsm.args; simp only at this; omega⟩
  obtain ⟨T, rfl⟩ : ∃ T : Nat, ltemps = (T : Int) := ⟨ltemps.toNat, by have := hsm.temps; simp only at this; omega⟩
  have h1 := hsm.args
  have h2 := hsm.temps
  have h3 := hsm.len
  simp only at h1 h2 h3 hk
  refine pieceRC_any lname A T lprim lc self cls att kv w hk (by omega) (by omega) hs h3 (fun x hx ho => hsm.code x hx ho) _ rfl (self + 1 + A) (3 + A + 2 * T) rfl rfl _ ?_
  show _ = _
  unfold pieceE headE firstOf
  simp only [Int.toNat_natCast]
  congr 1
  apply List.map_congr_left
  intro x hx
  rw [standR_is hsm _ _ _ _ hx]
  congr 1 <;> omega
end Go.Proofs.Ythaefhojnjdheaa

/- The reference's Fast: what it holds in memory while it makes the pieces. -/
namespace Go.Proofs.Ythaefhojnjdheaa
open Go.ChangeShapes Go.WideShapes Go.ChangeAt Go.RowKit Go.WideMaps Go.Maps
set_option linter.unusedSimpArgs false
set_option linter.unusedVariables false
set_option maxRecDepth 8000

section
variable (xs : List QC) (sites : List Int) (m : QM)
/-- Who stands in for instruction k. -/
def whoAt (k : Nat) : Option QM := match m.code[k]? with
  | none => none
  | some x => whoE xs sites m.code.length (buildB xs sites m k).code.length (buildB xs sites m k).temps k x
/-- The piece that instruction k becomes, told from its beginning. -/
def pcK (k : Nat) : List QI := match m.code[k]? with
  | none => []
  | some x => match whoE xs sites m.code.length (buildB xs sites m k).code.length (buildB xs sites m k).temps k x with
    | none => [stayE x k]
    | some leaf => pieceE leaf (ins 18 (sites.getD k (-1)) leaf.args k) (buildB xs sites m k).temps 0
def ledK (B : List Int) (k : Nat) (y : QI) : QI := if (whoAt xs sites m k).isSome = true then shiftJ (buildB xs sites m k).code.length y else leadJ B y
end
section
variable {xs : List QC} {sites : List Int} {m : QM}
theorem out_succ {B : List Int} {k : Nat} (hk : k < m.code.length) : outR xs sites m B (k + 1) = outR xs sites m B k ++ (pcK xs sites m k).map (ledK xs sites m B k) := by
  have hx : m.code[k]? = some m.code[k] := List.getElem?_eq_getElem hk
  rw [outR, hx]
  unfold pcK ledK whoAt
  rw [hx]
  obtain ⟨o, ho⟩ : ∃ o, whoE xs sites m.code.length (buildB xs sites m k).code.length (buildB xs sites m k).temps k m.code[k] = o := ⟨_, rfl⟩
  simp only [ho]
  cases o with
  | none => simp
  | some leaf => simp
theorem who_none {k : Nat} {x : QI} (hx : m.code[k]? = some x) (h : whoE xs sites m.code.length (buildB xs sites m k).code.length (buildB xs sites m k).temps k x = none) : whoAt xs sites m k = none ∧ pcK xs sites m k = [stayE x k] ∧ (buildB xs sites m (k + 1)).temps = (buildB xs sites m k).temps ∧ (buildB xs sites m (k + 1)).code.length = (buildB xs sites m k).code.length + 1 ∧ (buildB xs sites m (k + 1)).begins = (buildB xs sites m k).begins ++ [((buildB xs sites m k).code.length : Int)] ∧ (buildB xs sites m (k + 1)).pieces = (buildB xs sites m k).pieces := by
  rw [buildB_succ hx]
  unfold whoAt pcK stepB
  simp only [hx, h]
  simp
theorem who_some {k : Nat} {x : QI} {leaf : QM} (hx : m.code[k]? = some x) (h : whoE xs sites m.code.length (buildB xs sites m k).code.length (buildB xs sites m k).temps k x = some leaf) : whoAt xs sites m k = some leaf ∧ pcK xs sites m k = pieceE leaf (ins 18 (sites.getD k (-1)) leaf.args k) (buildB xs sites m k).temps 0 ∧ (buildB xs sites m (k + 1)).temps = (buildB xs sites m k).temps + 1 + leaf.args + leaf.temps ∧ (buildB xs sites m (k + 1)).code.length = (buildB xs sites m k).code.length + (pieceE leaf (ins 18 (sites.getD k (-1)) leaf.args k) (buildB xs sites m k).temps 0).length ∧ (buildB xs sites m (k + 1)).begins = (buildB xs sites m k).begins ++ [((buildB xs sites m k).code.length : Int)] ∧ (buildB xs sites m (k + 1)).pieces = (buildB xs sites m k).pieces + 1 := by
  rw [buildB_succ hx]
  unfold whoAt pcK stepB
  simp only [hx, h]
  simp [pieceE_len]
theorem pc_len {k : Nat} (hk : k < m.code.length) : (buildB xs sites m (k + 1)).code.length = (buildB xs sites m k).code.length + (pcK xs sites m k).length := by
  have hx : m.code[k]? = some m.code[k] := List.getElem?_eq_getElem hk
  cases h : whoE xs sites m.code.length (buildB xs sites m k).code.length (buildB xs sites m k).temps k m.code[k] with
  | none => obtain ⟨-, e1, -, e2, -⟩ := who_none hx h; rw [e1, e2]; rfl
  | some leaf => obtain ⟨-, e1, -, e2, -⟩ := who_some hx h; rw [e1, e2]
/-- The map 'inner', behind k rounds. -/
structure InM (xs : List QC) (sites : List Int) (m : QM) (k : Nat) (D : DataW Unit) : Prop where
  tidy : Tidy D
  has : ∀ j : Nat, Maps.has D (.int .i64 (j : Int)) = (decide (j < k) && (whoAt xs sites m j).isSome)
  val : ∀ j : Nat, D.atKey (.int .i64 (j : Int)) (.lit (.bool false)) = .lit (.bool (decide (j < k) && (whoAt xs sites m j).isSome))
  size : Maps.size D = (buildB xs sites m k).pieces
theorem inM_start : InM xs sites m 0 (.map []) := ⟨tidy_empty, fun j => by simp [Maps.has], fun j => by simp [DataW.atKey], rfl⟩
theorem InM.none {k : Nat} {D : DataW Unit} {x : QI} (h : InM xs sites m k D) (hx : m.code[k]? = some x) (hw : whoE xs sites m.code.length (buildB xs sites m k).code.length (buildB xs sites m k).temps k x = none) : InM xs sites m (k + 1) D := by
  obtain ⟨e1, -, -, -, -, e2⟩ := who_none hx hw
  have hj : ∀ j : Nat, (decide (j < k + 1) && (whoAt xs sites m j).isSome) = (decide (j < k) && (whoAt xs sites m j).isSome) := fun j => by
    by_cases hjk : j = k
    · subst hjk; simp [e1]
    · have : decide (j < k + 1) = decide (j < k) := by congr 1; exact propext ⟨fun h => by omega, fun h => by omega⟩
      rw [this]
  exact ⟨h.tidy, fun j => by rw [hj]; exact h.has j, fun j => by rw [hj]; exact h.val j, by rw [e2]; exact h.size⟩
theorem InM.put {k : Nat} {D : DataW Unit} {x : QI} {leaf : QM} (h : InM xs sites m k D) (hx : m.code[k]? = some x) (hw : whoE xs sites m.code.length (buildB xs sites m k).code.length (buildB xs sites m k).temps k x = some leaf) : InM xs sites m (k + 1) (D.put (.int .i64 (k : Int)) (.lit (.bool true))) := by
  obtain ⟨e1, -, -, -, -, e2⟩ := who_some hx hw
  have hk : WideAt.IsKeyLit (.int .i64 (k : Int)) := trivial
  have hj : ∀ j : Nat, j ≠ k → (decide (j < k + 1) && (whoAt xs sites m j).isSome) = (decide (j < k) && (whoAt xs sites m j).isSome) := fun j hjk => by
    have : decide (j < k + 1) = decide (j < k) := by congr 1; exact propext ⟨fun h => by omega, fun h => by omega⟩
    rw [this]
  have hne : ∀ j : Nat, j ≠ k → (Lit.int .i64 (j : Int)) ≠ .int .i64 (k : Int) := fun j hjk e => by injection e with _ e; omega
  refine ⟨h.tidy.put hk _, fun j => ?_, fun j => ?_, ?_⟩
  · by_cases hjk : j = k
    · subst hjk; rw [has_put_same h.tidy.isMap hk]; simp [e1]
    · rw [has_put_other (hne j hjk), hj j hjk]; exact h.has j
  · by_cases hjk : j = k
    · subst hjk; rw [atKey_put_same h.tidy.isMap hk]; simp [e1]
    · rw [atKey_put_other (hne j hjk), hj j hjk]; exact h.val j
  · rw [size_put h.tidy, h.has k, e2, h.size]; simp
end
theorem law3 : Keyed Try.prog 3 := int_keyed Try.underlying3
theorem zero4 (w : World) : (zeroValue 4).run Try.prog w = .ok (.bool false) w := by kernel_rfl
theorem plainElem_bool_inv {H : Type} {v : Value} {b : Bool} {ps : List MemPlace} (h : plainElem (H := H) Try.prog 4 v = some (.lit (.bool b), ps)) : v = .bool b := by
  unfold plainElem at h
  rw [Try.underlying4] at h
  cases v <;> simp at h
  obtain ⟨rfl, -⟩ := h
  rfl
theorem wpList_lookup_bool {w : World} {ops : Array Oper} {rest : List Oper} {o : Oper} {a : Act} {Q : Exit → Act → World → Prop} (hg : o.guard = none) (m x : Operand) (hop : o.op = Op.lookup 87 m x false) (b n : Nat) (D : DataW Unit)
    (hm : a.eval m = .map (some b)) (hown : w.ownsMap Try.prog 3 (plainElem Try.prog 4) b n D) (key : Value) (kl : Lit) (hx : a.eval x = key) (hkey : keyOf Try.prog 3 key = some kl) (c : Bool) (hc : D.atKey kl (.lit (.bool false)) = .lit (.bool c))
    (hK : wpList Try.prog ops Q rest (a.put o.dst (.bool c)) w) :
    wpList Try.prog ops Q (o :: rest) a w := by
  refine wpList_plain hg fun K' hK' => ?_
  obtain ⟨v, ps, hrun, hv⟩ := hown.lookup law3 Try.underlying87 (zero4 w) (plainElem_bool Try.underlying4 false) hkey
  rw [hc] at hv
  obtain rfl := plainElem_bool_inv hv
  unfold Oper.wp
  simp [execOp, hop, hm, hx, hrun, Result.andThen]
  exact hK' _ _ hK
/-- What lies in memory while the pieces are made: the map, the row of begins, the row of pieces. -/
structure FrL (Z : World) (bm n : Nat) (D : DataW Unit) (pcs : List (List QI)) (pc : List Value) (bl : List Int) (pv bv : Value) (wr : World) : Prop where
  os : wr.os = Z.os
  tape : wr.tape = Z.tape
  output : wr.output = Z.output
  sz : bm + 4 ≤ wr.heap.size
  fix : ∀ b, b < bm + 3 → wr.heap[b]? = Z.heap[b]?
  map : wr.ownsMap Try.prog 3 (plainElem Try.prog 4) (bm + 3) n D
  ob : ownsAt wr (bm + 4) 3 1 bv bl.length (bl.map (Value.int .i64))
  op : ownsAt wr (bm + 4) 29 1 pv pcs.length pc
  ne : ∀ g, bv.ownBlock = some g → pv.ownBlock ≠ some g
  pcs : ∀ (i : Nat) p kv, pcs[i]? = some p → pc[i]? = some kv → IsCode (fun b => bm + 4 ≤ b ∧ bv.ownBlock ≠ some b ∧ pv.ownBlock ≠ some b) wr kv p
section
variable {Z : World} {bm n : Nat} {D : DataW Unit} {pcs : List (List QI)} {pc : List Value} {bl : List Int} {pv bv : Value} {wr w' : World}
theorem both_code {P : Nat → Prop} {w : World} {v : Value} {xs : List QI} (h : IsCode P w v xs) : IsCode (fun b => P b ∧ b < w.heap.size) w v xs := by
  obtain ⟨ad, cap, h1, h2, h3, h4, h5⟩ := h
  refine ⟨ad, cap, h1, h2, h3, h4, fun i x hx => ?_⟩
  obtain ⟨b, o, e1, e2, e3⟩ := h5 i x hx
  exact ⟨b, o, e1, ⟨e2, World.block_lt_of_cell? _ _ e3.1⟩, e3⟩
theorem FrL.later (h : FrL Z bm n D pcs pc bl pv bv wr) (hb : Below wr.heap.size wr w') : FrL Z bm n D pcs pc bl pv bv w' :=
  ⟨hb.os.trans h.os, hb.tape.trans h.tape, hb.output.trans h.output, Nat.le_trans h.sz hb.size, fun b hb' => (hb.block b (by have := h.sz; omega)).trans (h.fix b hb'), h.map.kept ⟨hb.os, hb.tape, hb.output, hb.size, fun k hk _ => hb.block k hk⟩ (row := none) (by simp), h.ob.keep fun g hg => hb.block g (h.ob.lt g hg).2, h.op.keep fun g hg => hb.block g (h.op.lt g hg).2, h.ne, fun i p kv h1 h2 => (h.pcs i p kv h1 h2).later goodI hb⟩
/-- One more beginning. -/
theorem FrL.addB (h : FrL Z bm n D pcs pc bl pv bv wr) {bv' : Value} {t : Int} (r1 : ownsAt w' (bm + 4) 3 1 bv' (bl.length + 1) (bl.map (Value.int .i64) ++ [.int .i64 t])) (r2 : bv'.ownBlock = bv.ownBlock ∨ ∃ g, bv'.ownBlock = some g ∧ wr.heap.size ≤ g) (r3 : Below (bm + 4) wr w') (r4 : ∀ b, b < wr.heap.size → some b ≠ bv.ownBlock → w'.heap[b]? = wr.heap[b]?) : FrL Z bm n D pcs pc (bl ++ [t]) pv bv' w' := by
  have hsz := h.sz
  refine ⟨r3.os.trans h.os, r3.tape.trans h.tape, r3.output.trans h.output, Nat.le_trans hsz r3.size, fun b hb => (r3.block b (by omega)).trans (h.fix b hb), ?_, by simpa using r1, h.op.keep fun g hg => r4 g (h.op.lt g hg).2 (fun e => h.ne g e.symm hg), ?_, ?_⟩
  · obtain ⟨es, clock, h1, h2⟩ := h.map
    exact ⟨es, clock, (r3.block _ (by omega)).trans h1, h2⟩
  · intro g hg hp
    rcases r2 with r2 | ⟨g', e, hl⟩
    · exact h.ne g (r2 ▸ hg) hp
    · rw [e] at hg; cases hg; have := (h.op.lt g hp).2; omega
  · intro i p kv h1 h2
    refine (both_code (h.pcs i p kv h1 h2)).keep goodI (Keeps.of_block fun b hb hl => r4 b hl fun e => hb.1.2.1 e.symm) fun b hb => ⟨hb.1.1, ?_, hb.1.2.2⟩
    rcases r2 with r2 | ⟨g', e, hl⟩
    · rw [r2]; exact hb.1.2.1
    · rw [e]; intro e'; cases e'; exact absurd hb.2 (by omega)
/-- One more piece. -/
theorem FrL.addP (h : FrL Z bm n D pcs pc bl pv bv wr) {pv' kv : Value} {p : List QI} {L : Nat} (hp : IsCode (fun b => L ≤ b) wr kv p) (hL : bm + 4 ≤ L) (hLb : ∀ g, bv.ownBlock = some g → g < L) (hLp : ∀ g, pv.ownBlock = some g → g < L) (r1 : ownsAt w' (bm + 4) 29 1 pv' (pcs.length + 1) (pc ++ [kv])) (r2 : pv'.ownBlock = pv.ownBlock ∨ ∃ g, pv'.ownBlock = some g ∧ wr.heap.size ≤ g) (r3 : Below (bm + 4) wr w') (r4 : ∀ b, b < wr.heap.size → some b ≠ pv.ownBlock → w'.heap[b]? = wr.heap[b]?) : FrL Z bm n D (pcs ++ [p]) (pc ++ [kv]) bl pv' bv w' := by
  have hsz := h.sz
  have hpl : pc.length = pcs.length := by have := h.op.1; omega
  have hnew : ∀ b, b < wr.heap.size → pv.ownBlock ≠ some b → pv'.ownBlock ≠ some b := fun b hb hne => by
    rcases r2 with r2 | ⟨g', e, hl⟩
    · rw [r2]; exact hne
    · rw [e]; intro e'; cases e'; exact absurd hb (by omega)
  refine ⟨r3.os.trans h.os, r3.tape.trans h.tape, r3.output.trans h.output, Nat.le_trans hsz r3.size, fun b hb => (r3.block b (by omega)).trans (h.fix b hb), ?_, h.ob.keep fun g hg => r4 g (h.ob.lt g hg).2 (fun e => h.ne g hg e.symm), by simpa using r1, fun g hg => hnew g (h.ob.lt g hg).2 (h.ne g hg), ?_⟩
  · obtain ⟨es, clock, h1, h2⟩ := h.map
    exact ⟨es, clock, (r3.block _ (by omega)).trans h1, h2⟩
  · intro i q kq h1 h2
    by_cases hi : i < pcs.length
    · rw [List.getElem?_append_left hi] at h1
      rw [List.getElem?_append_left (by omega)] at h2
      exact (both_code (h.pcs i q kq h1 h2)).keep goodI (Keeps.of_block fun b hb hl => r4 b hl fun e => hb.1.2.2 e.symm) fun b hb => ⟨hb.1.1, hb.1.2.1, hnew b hb.2 hb.1.2.2⟩
    · rw [List.getElem?_append_right (by omega)] at h1
      rw [List.getElem?_append_right (by omega)] at h2
      rw [hpl] at h2
      have hz : i - pcs.length = 0 := by
        rcases Nat.eq_zero_or_pos (i - pcs.length) with h' | h'
        · exact h'
        · rw [List.getElem?_eq_none (by simp; omega)] at h1; cases h1
      rw [hz] at h1 h2
      simp only [List.getElem?_cons_zero, Option.some.injEq] at h1 h2
      subst h1 h2
      exact (both_code hp).keep goodI (Keeps.of_block fun b hb hl => r4 b hl fun e => by have := hLp b e.symm; have := hb.1; omega) fun b hb => ⟨by have := hb.1; omega, fun e => by have := hLb b e; have := hb.1; omega, hnew b hb.2 fun e => by have := hLp b e; have := hb.1; omega⟩
/-- The map, changed. -/
theorem FrL.setM (h : FrL Z bm n D pcs pc bl pv bv wr) {n' : Nat} {D' : DataW Unit} (ho : w'.ownsMap Try.prog 3 (plainElem Try.prog 4) (bm + 3) n' D') (hg : wr.grownBy w' (some (bm + 3))) : FrL Z bm n' D' pcs pc bl pv bv w' := by
  have hsz := h.sz
  have hk : ∀ b, b < wr.heap.size → b ≠ bm + 3 → w'.heap[b]? = wr.heap[b]? := fun b hb hne => hg.block b hb (by simpa using hne)
  refine ⟨hg.os.trans h.os, hg.tape.trans h.tape, hg.output.trans h.output, Nat.le_trans hsz hg.size, fun b hb => (hk b (by omega) (by omega)).trans (h.fix b hb), ho, h.ob.keep fun g hg' => hk g (h.ob.lt g hg').2 (by have := (h.ob.lt g hg').1; omega), h.op.keep fun g hg' => hk g (h.op.lt g hg').2 (by have := (h.op.lt g hg').1; omega), h.ne, fun i p kv h1 h2 => (h.pcs i p kv h1 h2).keep goodI (Keeps.of_block fun b hb hl => hk b hl (by have := hb.1; omega)) fun _ h => h⟩
end
end Go.Proofs.Ythaefhojnjdheaa

/- The reference's Fast. -/
namespace Go.Proofs.Ythaefhojnjdheaa
open Go.ChangeShapes Go.WideShapes Go.ChangeAt Go.RowKit Go.WideMaps Go.Maps
set_option linter.unusedSimpArgs false
set_option linter.unusedVariables false
set_option maxRecDepth 8000

theorem info29 : (Try.prog.info? 29).map (fun i => (i.zero, i.size, i.bytes)) = some (some (.slice none 0 0), 1, 24) := by kernel_rfl
/-- What the first loop's rounds keep. -/
def FsR (X : QW) (sites : List Int) (Z : World) (bm : Nat) (m : QM) (gk : Nat) (tv zv pv bv iv : Value) (wr : World) : Prop :=
  ∃ (j n : Nat) (D : DataW Unit) (pc : List Value), j + gk = m.code.length ∧ tv = .int .i64 (buildB X.classes sites m j).temps ∧ zv = .int .i64 ((buildB X.classes sites m j).code.length : Int) ∧ iv = .int .i64 (j : Int) ∧ n ≤ j ∧ InM X.classes sites m j D ∧ FrL Z bm n D ((List.range j).map (pcK X.classes sites m)) pc (buildB X.classes sites m j).begins pv bv wr
/-- Behind the piece of a round. -/
def FsC (X : QW) (sites : List Int) (Z : World) (bm : Nat) (m : QM) (j L : Nat) (pc : List Value) (pv bv : Value) (tv kv : Value) (wx : World) : Prop :=
  ∃ (pa : Option Addr) (pcap n : Nat) (D : DataW Unit), tv = .int .i64 (buildB X.classes sites m (j + 1)).temps ∧ kv = .slice pa (pcK X.classes sites m j).length pcap ∧ n ≤ j + 1 ∧ InM X.classes sites m (j + 1) D ∧ FrL Z bm n D ((List.range j).map (pcK X.classes sites m)) pc (buildB X.classes sites m (j + 1)).begins pv bv wx ∧ IsCode (fun b => L ≤ b) wx (.slice pa (pcK X.classes sites m j).length pcap) (pcK X.classes sites m j)
section
variable {X : QW} {sites : List Int} {Z : World} {bm : Nat} {m : QM} {j L n : Nat} {D : DataW Unit} {pc : List Value} {pv bv : Value} {wx : World} {x : QI}
theorem fs_none (hx : m.code[j]? = some x) (hw : whoE X.classes sites m.code.length (buildB X.classes sites m j).code.length (buildB X.classes sites m j).temps j x = none) (hnm : x.name.size ≤ 140737488351232) (hI : InM X.classes sites m j D) (hn : n ≤ j) (hL : FrL Z bm n D ((List.range j).map (pcK X.classes sites m)) pc ((buildB X.classes sites m j).begins ++ [((buildB X.classes sites m j).code.length : Int)]) pv bv wx)
    (hp : wx.heap[L]? = some (.cells (icells [stayE x (j : Int)]).toArray 54 (0, 0))) : FsC X sites Z bm m j L pc pv bv (.int .i64 (buildB X.classes sites m j).temps) (.slice (some ⟨L, 0, none⟩) 1 1) wx := by
  obtain ⟨-, e1, e2, -, e4, -⟩ := who_none hx hw
  have hO : ownsAt wx L 54 5 (.slice (some ⟨L, 0, none⟩) [stayE x (j : Int)].length 1) [stayE x (j : Int)].length (icells [stayE x (j : Int)]) := ⟨rfl, Or.inr ⟨L, 0, 1, _, rfl, Nat.le_refl _, hp, Nat.le_refl _, by unfold maxLen; omega, by simp [icells_len], by simp [icells]⟩⟩
  refine ⟨some ⟨L, 0, none⟩, 1, n, D, by rw [e2], by rw [e1]; rfl, by omega, hI.none hx hw, by rw [e4]; exact hL, ?_⟩
  rw [e1]
  refine ic_row hO (fun y hy => ?_) (fun b h1 h2 => h1) (by simp)
  simp only [List.mem_cons, List.not_mem_nil, or_false] at hy
  subst hy
  unfold stayE; split <;> exact hnm
theorem fs_some {leaf : QM} {ks : Int} {pa : Option Addr} {pcap : Nat} {B : Nat} (hx : m.code[j]? = some x) (hks : sites.getD j (-1) = ks) (hw : whoE X.classes sites m.code.length (buildB X.classes sites m j).code.length (buildB X.classes sites m j).temps j x = some leaf) (hs : Sml leaf) (hnm : NmOk leaf.code) (hI : InM X.classes sites m (j + 1) D) (hn : n ≤ j + 1) (hL : FrL Z bm n D ((List.range j).map (pcK X.classes sites m)) pc ((buildB X.classes sites m j).begins ++ [((buildB X.classes sites m j).code.length : Int)]) pv bv wx)
    (hO : OwnI wx B pa pcap (pieceE leaf (ins 18 ks leaf.args (j : Int)) (buildB X.classes sites m j).temps 0)) (hB : L ≤ B) : FsC X sites Z bm m j L pc pv bv (.int .i64 ((buildB X.classes sites m j).temps + 1 + leaf.args + leaf.temps)) (.slice pa (pieceE leaf (ins 18 ks leaf.args (j : Int)) (buildB X.classes sites m j).temps 0).length pcap) wx := by
  subst hks
  obtain ⟨-, e1, e2, -, e4, -⟩ := who_some hx hw
  have hl := pieceE_len leaf (ins 18 (sites.getD j (-1)) leaf.args (j : Int)) (buildB X.classes sites m j).temps 0
  refine ⟨pa, pcap, n, D, by rw [e2], by rw [e1], hn, hI, by rw [e4]; exact hL, ?_⟩
  rw [e1]
  exact ic_row hO (piece_nm hnm _ nm0 _ _) (fun b h1 h2 => by omega) (by have := hs.args; have := hs.temps; have := hs.len; omega)
end
theorem who_op {xs : List QC} {sites : List Int} {len : Nat} {n temps : Int} {at' : Nat} {x : QI} (h : x.op ≠ 14) : whoE xs sites len n temps at' x = none := by
  unfold whoE standsIn; rw [if_neg (fun h' => h h'.1)]
theorem who_site {xs : List QC} {sites : List Int} {len : Nat} {n temps : Int} {at' : Nat} {x : QI} (h : sites.getD at' (-1) < 0) : whoE xs sites len n temps at' x = none := by
  unfold whoE standsIn; rw [if_neg (fun h' => by omega)]
theorem who_find {xs : List QC} {sites : List Int} {len : Nat} {n temps : Int} {at' : Nat} {x : QI} (h : (findE xs (sites.getD at' (-1)) x.name).2 < 0) : whoE xs sites len n temps at' x = none := by
  unfold whoE standsIn methOf
  rw [if_pos h]
  split
  · rfl
  · rename_i h'
    split at h' <;> cases h'
theorem who_found {xs : List QC} {sites : List Int} {len : Nat} {n temps : Int} {at' : Nat} {x : QI} {q t : Nat} {xc : QC} {y : QM} (ho : x.op = 14) (hs : 0 ≤ sites.getD at' (-1)) (h : findE xs (sites.getD at' (-1)) x.name = ((q : Int), (t : Int))) (hx : xs[q]? = some xc) (hy : xc.methods[t]? = some y) : whoE xs sites len n temps at' x = if y.args = x.a ∧ leafE y = true ∧ roomE n temps y ((len : Int) - at') = true then some y else none := by
  unfold whoE standsIn methOf
  rw [if_pos ⟨ho, hs⟩, if_neg (by rw [h]; simp only; omega), h]
  simp only [Int.toNat_natCast, hx, hy, Option.bind_some]
  by_cases h1 : y.args = x.a ∧ leafE y = true
  · rw [if_pos h1]
    simp only
    by_cases h2 : roomE n temps y ((len : Int) - at') = true
    · rw [if_pos h2, if_pos ⟨h1.1, h1.2, h2⟩]
    · rw [if_neg h2, if_neg fun h => h2 h.2.2]
  · rw [if_neg h1, if_neg fun h => h1 ⟨h.1, h.2.1⟩]
theorem RbX.same {w Z wr : World} {cv hv : Value} {ep : Int} (h : RbX w cv hv ep Z) (hb : ∀ b, b < w.heap.size + 2 → wr.heap[b]? = Z.heap[b]?) (hs : w.heap.size + 2 ≤ wr.heap.size) : RbX w cv hv ep wr := by
  have e : ∀ b o, b < w.heap.size + 2 → wr.cell? ⟨b, o, none⟩ = Z.cell? ⟨b, o, none⟩ := fun b o hl => by unfold World.cell?; rw [hb b hl]
  have f : ∀ b o, b < w.heap.size + 2 → wr.frozen? ⟨b, o, none⟩ = Z.frozen? ⟨b, o, none⟩ := fun b o hl => by unfold World.frozen?; rw [hb b hl]
  obtain ⟨k0, k1, k2, q0, q1, q2, q3, q4, qf, hz⟩ := h
  exact ⟨by rw [e _ _ (by omega)]; exact k0, by rw [e _ _ (by omega)]; exact k1, by rw [e _ _ (by omega)]; exact k2, by rw [e _ _ (by omega)]; exact q0, by rw [e _ _ (by omega)]; exact q1, by rw [e _ _ (by omega)]; exact q2, by rw [e _ _ (by omega)]; exact q3, by rw [e _ _ (by omega)]; exact q4, fun o => by rw [f _ _ (by omega)]; exact qf o, hs⟩
/-- A row of pieces is read. -/
theorem own_cell1 {w : World} {B n : Nat} {e : TypeId} {ad : Option Addr} {k cap : Nat} {xs : List Value} (h : ownsAt w B e 1 (.slice ad k cap) n xs) {i : Nat} {u : Value} (hi : xs[i]? = some u) : ∃ b o, ad = some ⟨b, o, none⟩ ∧ w.cell? ⟨b, o + i, none⟩ = some u := by
  obtain ⟨h0, ⟨h1, h2⟩ | ⟨g, o, c, cur, e1, h3, h4, h5, h6, h7, h8⟩⟩ := h
  · have := lt_of_get hi; omega
  · cases e1
    refine ⟨g, o, rfl, ?_⟩
    rw [cell_of_row _ _ _ _ _ _ h4]
    rw [← h8, List.getElem?_take] at hi
    split at hi
    · rw [List.getElem?_drop] at hi; simpa using hi
    · cases hi
/-- What is put out so far. -/
structure OuS (Zr : World) (bo : Nat) (c : Int) (name : ByteArray) (ep tm : Int) (code : List QI) (a : Option Addr) (cap : Nat) (wr : World) : Prop where
  box : wr.heap[bo]? = some (.cells #[.int .i64 c, .string name, .int .i64 ep, .int .i64 tm, .slice a code.length cap] 31 (0, 0))
  own : OwnI wr (bo + 1) a cap code
  bel : Below bo Zr wr
  sz : bo + 1 ≤ wr.heap.size
theorem OuS.later {Zr : World} {bo : Nat} {c : Int} {name : ByteArray} {ep tm : Int} {code : List QI} {a : Option Addr} {cap : Nat} {wr w' : World} (h : OuS Zr bo c name ep tm code a cap wr) (hb : Below wr.heap.size wr w') : OuS Zr bo c name ep tm code a cap w' :=
  ⟨box_later' h.box hb, h.own.keep fun g hg => hb.block g (h.own.lt g hg).2, h.bel.trans ⟨hb.os, hb.tape, hb.output, hb.size, fun b hb' => hb.block b (by have := h.sz; omega)⟩, Nat.le_trans h.sz hb.size⟩
theorem OuS.add {Zr : World} {bo : Nat} {c : Int} {name : ByteArray} {ep tm : Int} {code ys : List QI} {a a' : Option Addr} {cap cap' : Nat} {wr w' : World} (h : OuS Zr bo c name ep tm code a cap wr) (r1 : OwnI w' (bo + 1) a' cap' (code ++ ys)) (r3 : Below (bo + 1) wr w') : OuS Zr bo c name ep tm (code ++ ys) a' cap' (w'.setCell ⟨bo, 4, none⟩ (.slice a' (code ++ ys).length cap')) := by
  have hd : Below bo w' (w'.setCell ⟨bo, 4, none⟩ (.slice a' (code ++ ys).length cap')) := (Below.refl bo w').setCell (Nat.le_refl _) _
  refine ⟨?_, r1.keep fun g hg => setCell_else (by have := (r1.lt g hg).1; omega) _, h.bel.trans (Below.trans ⟨r3.os, r3.tape, r3.output, r3.size, fun b hb' => r3.block b (by omega)⟩ hd), by rw [size_setCell]; exact Nat.le_trans h.sz r3.size⟩
  rw [setCell_same (show w'.heap[bo]? = _ by rw [r3.block _ (by omega)]; exact h.box)]; rfl
theorem OuS.cell {Zr : World} {bo : Nat} {c : Int} {name : ByteArray} {ep tm : Int} {code : List QI} {a : Option Addr} {cap : Nat} {wr : World} (h : OuS Zr bo c name ep tm code a cap wr) : wr.cell? ⟨bo, 0, none⟩ = some (.int .i64 c) ∧ wr.cell? ⟨bo, 1, none⟩ = some (.string name) ∧ wr.cell? ⟨bo, 2, none⟩ = some (.int .i64 ep) ∧ wr.cell? ⟨bo, 3, none⟩ = some (.int .i64 tm) ∧ wr.cell? ⟨bo, 4, none⟩ = some (.slice a code.length cap) := by
  refine ⟨?_, ?_, ?_, ?_, ?_⟩ <;> (rw [cell_of_row _ _ _ _ _ _ h.box]; rfl)
theorem ous_new {Zr : World} (c : Int) (name : ByteArray) (ep tm : Int) : OuS Zr Zr.heap.size c name ep tm [] none 0 (Zr.alloc (.cells #[.int .i64 c, .string name, .int .i64 ep, .int .i64 tm, .slice none 0 0] 31)) :=
  ⟨heap_alloc_new Zr _, ⟨rfl, Or.inl ⟨rfl, rfl⟩⟩, bel1 _ _, by simp⟩
theorem out_len {xs : List QC} {sites : List Int} {m : QM} (B : List Int) : ∀ {k : Nat}, k ≤ m.code.length → (outR xs sites m B k).length = (buildB xs sites m k).code.length
  | 0, _ => rfl
  | k + 1, h => by
    rw [out_succ (by omega), List.length_append, List.length_map, out_len B (k := k) (by omega), pc_len (by omega)]
theorem pc_jump {X : QW} (hX : rightE X = 0) {sites : List Int} {m : QM} (hm : Sml m) {k : Nat} (hk : k < m.code.length) {y : QI} (hy : y ∈ pcK X.classes sites m k) (hj : jmp y) : ((whoAt X.classes sites m k).isSome = true → 0 ≤ y.a ∧ y.a ≤ 240) ∧ ((whoAt X.classes sites m k).isSome = false → 0 ≤ y.a ∧ y.a < m.code.length) := by
  have hx : m.code[k]? = some m.code[k] := List.getElem?_eq_getElem hk
  cases h : whoE X.classes sites m.code.length (buildB X.classes sites m k).code.length (buildB X.classes sites m k).temps k m.code[k] with
  | none =>
    obtain ⟨e0, e1, -⟩ := who_none hx h
    rw [e1] at hy
    simp only [List.mem_cons, List.not_mem_nil, or_false] at hy
    refine ⟨fun h => by rw [e0] at h; simp at h, fun _ => ?_⟩
    subst hy
    unfold jmp at hj
    have ho : (stayE m.code[k] (k : Int)).op = m.code[k].op := by unfold stayE; split <;> rfl
    have ha : (stayE m.code[k] (k : Int)).a = m.code[k].a := by unfold stayE; split <;> rfl
    rw [ho] at hj
    rw [ha]
    exact hm.jump _ (List.getElem_mem hk) hj
  | some leaf =>
    obtain ⟨e0, e1, -, e3, -⟩ := who_some hx h
    refine ⟨fun _ => ?_, fun h => by rw [e0] at h; simp at h⟩
    have hst : standsIn X.classes sites k m.code[k] = some leaf := by
      unfold whoE at h
      split at h
      · cases h
      · rename_i l hl
        split at h
        · cases h; exact hl
        · cases h
    obtain ⟨hs, -⟩ := stands_small hX hst
    have hb := build_small hX (sites := sites) hm (k := k + 1) (by omega)
    rw [e1] at hy
    rcases piece_good hs _ _ 0 (Int.le_refl _) y hy with h1 | ⟨-, h1⟩
    · subst h1; unfold jmp at hj; simp at hj
    · have := h1 hj
      rw [e3] at hb
      omega
/-- The box of an instruction, led. -/
def ZbR (wr : World) (z : QI) (wx : World) : Prop := wx.heap[wr.heap.size]? = some (.cells #[.int .i64 z.op, .int .i64 z.a, .int .i64 z.b, .int .i64 z.c, .string z.name] 54 (0, 0)) ∧ Below wr.heap.size wr wx ∧ wr.heap.size + 1 ≤ wx.heap.size
theorem zb_new (wr : World) (z : QI) : ZbR wr z (wr.alloc (.cells #[.int .i64 z.op, .int .i64 z.a, .int .i64 z.b, .int .i64 z.c, .string z.name] 54)) := ⟨heap_alloc_new wr _, bel1 _ _, by simp⟩
theorem zb_drew (wr : World) (z : QI) : ZbR wr z (wr.alloc (.cells #[.int .i64 z.op, .int .i64 z.a, .int .i64 z.b, .int .i64 z.c, .string z.name] 54)).drew := ⟨heap_alloc_new wr _, (bel1 wr _).drew, (zb_new wr z).2.2⟩
set_option maxHeartbeats 4000000 in
theorem fastC_any {P Q : Nat → Prop} (X : QW) (hX : rightE X = 0) (c k : Int) (m : QM) (hm : methAt X.classes c k = some m) (sites : List Int) (cv hv sv : Value) (w : World) (hC : IsClasses P w cv X.classes) (hH : IsHeap P w hv X.heap) (hS : IsInts Q w sv sites) :
    Calls Try.prog 8 #[WV cv hv X.epoch, .int .i64 c, .int .i64 k, sv] w fun e w' => MtPost w (fastM X c m sites) e w' := by
  obtain ⟨ac, cc, rfl, -, hcc, -, hrowC⟩ := id (bound_classes hC)
  obtain ⟨ah, ch, rfl, -⟩ := id hH
  obtain ⟨asv, cs, rfl, hls, hcs, -, hrowS⟩ := id hS
  unfold maxLen at hcs hcc
  have hSm := meth_small hX hm
  obtain ⟨qc, tc, xc, rfl, rfl, hxc, hmt⟩ := meth_at hm
  obtain ⟨b1, o1, hb1e, -, -, -, -, -, mv, u3, hms⟩ := hrowC qc xc hxc
  obtain ⟨am, cm, rfl, hlm, hcm, -, hrm⟩ := hms
  obtain ⟨b2, o2, rfl, -, v0, v1, v2, v3, -, kv, v4, hco⟩ := hrm tc m hmt
  obtain ⟨ak, ck, rfl, hlk, hck, -, hrowK⟩ := id hco
  subst hb1e
  simp only [Nat.add_zero] at v0
  unfold maxLen at hcm hck
  have hq := lt_of_get hxc
  have ht := lt_of_get hmt
  have hq1 : (qc : Int) < (X.classes.length : Int) := by omega
  have hq0 : (0 : Int) ≤ (qc : Int) := by omega
  have ht1 : (tc : Int) < (xc.methods.length : Int) := by omega
  have ht0 : (0 : Int) ≤ (tc : Int) := by omega
  have hq2 : decide (X.classes.length ≤ qc) = false := by simp; omega
  have ht2 : decide (xc.methods.length ≤ tc) = false := by simp; omega
  have hq3 : decide ((qc : Int) < 0) = false := by simp
  have ht3 : decide ((tc : Int) < 0) = false := by simp
  have hbW := bel2 w (.cells #[.slice (some ⟨b1, o1, none⟩) X.classes.length cc, .slice ah X.heap.length ch, .int .i64 X.epoch] 25) (.cells #[.int .i64 0, .string ⟨#[]⟩, .int .i64 0, .int .i64 0, .slice none 0 0] 31)
  have hmm := @run_makeMap Try.prog
  replace u3 := cell_later hbW u3
  replace v0 := cell_later hbW v0
  replace v1 := cell_later hbW v1
  replace v2 := cell_later hbW v2
  replace v3 := cell_later hbW v3
  replace v4 := cell_later hbW v4
  obtain ⟨k0, k1, k2, q0, q1, q2, q3, q4, qf, hzz⟩ := rbx_new w (.slice (some ⟨b1, o1, none⟩) X.classes.length cc) (.slice ah X.heap.length ch) X.epoch
  go_enter Try.func8, Try.ntmps8
  go_upto_region 8 with (fail)
  have hZ : ∃ Z, Z = (((w.alloc (.cells #[.slice (some ⟨b1, o1, none⟩) X.classes.length cc, .slice ah X.heap.length ch, .int .i64 X.epoch] 25)).alloc (.cells #[.int .i64 0, .string ⟨#[]⟩, .int .i64 0, .int .i64 0, .slice none 0 0] 31)).alloc (.cells #[.string m.name, .int .i64 m.args, .int .i64 m.temps, .int .i64 m.prim, .slice ak m.code.length ck] 48)).alloc (.map #[] 0) := ⟨_, rfl⟩
  obtain ⟨Z, hZ⟩ := hZ
  have hbZ : Below w.heap.size w Z := by rw [hZ]; exact nstep hbW (bel2 _ _ _)
  have hrb : RbX w (.slice (some ⟨b1, o1, none⟩) X.classes.length cc) (.slice ah X.heap.length ch) X.epoch Z := by rw [hZ]; exact (rbx_new w _ _ _).later (bel2 _ _ _)
  have hmb : Z.heap[w.heap.size + 2]? = some (.cells #[.string m.name, .int .i64 m.args, .int .i64 m.temps, .int .i64 m.prim, .slice ak m.code.length ck] 48 (0, 0)) := by rw [hZ]; exact box_later' (by have := heap_alloc_new ((w.alloc (.cells #[.slice (some ⟨b1, o1, none⟩) X.classes.length cc, .slice ah X.heap.length ch, .int .i64 X.epoch] 25)).alloc (.cells #[.int .i64 0, .string ⟨#[]⟩, .int .i64 0, .int .i64 0, .slice none 0 0] 31)) (.cells #[.string m.name, .int .i64 m.args, .int .i64 m.temps, .int .i64 m.prim, .slice ak m.code.length ck] 48); simpa using this) (bel1 _ _)
  have hL0 : FrL Z w.heap.size 0 (.map []) [] [] [] (.slice none 0 0) (.slice none 0 0) Z := by
    refine ⟨rfl, rfl, rfl, by rw [hZ]; simp, fun _ _ => rfl, ?_, ⟨rfl, Or.inl ⟨rfl, rfl⟩⟩, ⟨rfl, Or.inl ⟨rfl, rfl⟩⟩, fun g hg => by simp [Value.ownBlock] at hg, fun i p kv h1 h2 => by simp at h1⟩
    rw [hZ]
    have := World.ownsMap_made (H := Unit) (P := Try.prog) (((w.alloc (.cells #[.slice (some ⟨b1, o1, none⟩) X.classes.length cc, .slice ah X.heap.length ch, .int .i64 X.epoch] 25)).alloc (.cells #[.int .i64 0, .string ⟨#[]⟩, .int .i64 0, .int .i64 0, .slice none 0 0] 31)).alloc (.cells #[.string m.name, .int .i64 m.args, .int .i64 m.temps, .int .i64 m.prim, .slice ak m.code.length ck] 48)) 3 (plainElem Try.prog 4)
    simpa using this
  rw [← hZ]
  clear hZ hmm k0 k1 k2 q0 q1 q2 q3 q4 qf hzz u3 v0 v1 v2 v3 v4 hbW hq2 ht2 hq3 ht3 hrm hrowC
  simp only [Nat.add_assoc, Nat.reduceAdd]
  have m4 : Z.cell? ⟨w.heap.size + 2, 4, none⟩ = some (.slice ak m.code.length ck) := by rw [cell_of_row _ _ _ _ _ _ hmb]; rfl
  have hn60 := hSm.len
  go_wp2
  clear m4
  go_loopg [11, 12, 13, 14, 68] m.code.length (fun gk tv zv pv bv iv wr => FsR X sites Z w.heap.size m gk tv zv pv bv iv wr)
  case atStart => exact ⟨0, 0, .map [], [], by omega, rfl, rfl, rfl, Nat.le_refl _, inM_start, hL0⟩
  case round =>
    clear hL0
    obtain ⟨j, n, D, pc, hj, rfl, rfl, rfl, hnj, hI, hL⟩ := hrel
    rename_i pv bv _
    obtain ⟨bap, bcp, rfl, hbl, hbc⟩ := hL.ob.form
    obtain ⟨pap, pcp, rfl, hpl, hpc⟩ := hL.op.form
    unfold maxLen at hbc hpc
    have hbsl := build_begins (xs := X.classes) (sites := sites) (m := m) (k := j) (by omega)
    obtain ⟨s, HS⟩ : ∃ s, Hid (s = buildB X.classes sites m j) := ⟨_, rfl⟩
    have hsm := build_small hX (sites := sites) hSm (k := j) (by omega)
    rw [← HS.out] at hL hbl hbsl hsm ⊢
    rw [hbsl] at hbl ⊢
    simp only [List.length_map, List.length_range] at hpl ⊢
    have hwZ := hL.sz
    by_cases hlt : j < m.code.length
    · obtain ⟨x, hxj⟩ : ∃ x, m.code[j]? = some x := ⟨_, List.getElem?_eq_getElem hlt⟩
      have HX := hid hxj
      have hbr : Below w.heap.size w wr := ⟨hL.os.trans hbZ.os, hL.tape.trans hbZ.tape, hL.output.trans hbZ.output, by omega, fun b hb => (hL.fix b (by omega)).trans (hbZ.block b hb)⟩
      obtain ⟨ad2, cap2, e2, -, -, -, hrow⟩ := hco.later goodI hbr
      cases e2
      obtain ⟨bk, ok, rfl, -, y0, y1, y2, y3, y4, hxn⟩ := hrow j x hxj
      simp only [Nat.add_zero] at y0
      clear hrow hxj
      have hj1 : (j : Int) < (m.code.length : Int) := by omega
      have hj0 : (0 : Int) ≤ (j : Int) := by omega
      have hob : ∀ o1 o2, ownsAt ((wr.alloc o1).alloc o2) (w.heap.size + 4) 3 1 (.slice bap j bcp) j (s.begins.map (Value.int .i64)) := fun o1 o2 => by have := (hL.ob.alloc o1).alloc o2; rwa [hbsl] at this
      have e1 : (wr.alloc (.cells #[.int .i64 x.op, .int .i64 x.a, .int .i64 x.b, .int .i64 x.c, .string x.name] 54)).heap.size = wr.heap.size + 1 := by simp
      go_upto_region 12 with (at_builtin; refine wpList_append_at rfl (.tmp 73) (.tmp 75) 26 3 _ 1 8 rfl Try.underlying26 info3 rfl (by omega) (w.heap.size + 4) j (.slice bap j bcp) (s.begins.map (Value.int .i64)) rfl (hob _ _) (wr.heap.size + 1) rfl [.int .i64 (s.code.length : Int)] rfl (by have := heap_alloc_new (wr.alloc (.cells #[.int .i64 x.op, .int .i64 x.a, .int .i64 x.b, .int .i64 x.c, .string x.name] 54)) (.cells #[.int .i64 (s.code.length : Int)] 3); simpa using this) (by intro u hu; simp only [List.mem_cons, List.not_mem_nil, or_false] at hu; subst hu; rfl) (by unfold maxLen; omega) (by omega) (by simp; omega) ?_; intro a1 cap1 w1 r1 r2 r3 r4)
      have hL1 : FrL Z w.heap.size n D ((List.range j).map (pcK X.classes sites m)) pc (s.begins ++ [(s.code.length : Int)]) (.slice pap j pcp) (.slice a1 (j + 1) cap1) w1 := by
        have hh := (hL.later (bel1 wr (.cells #[.int .i64 x.op, .int .i64 x.a, .int .i64 x.b, .int .i64 x.c, .string x.name] 54))).later (bel1 _ (.cells #[.int .i64 (s.code.length : Int)] 3))
        simp only [List.length_map, List.length_range] at hh
        rw [hbsl] at hh
        exact hh.addB (by rw [hbsl]; exact r1) r2 r3 r4
      have hw1 : wr.heap.size + 2 ≤ w1.heap.size := by have := r3.size; simp at this; omega
      have hxo : ∀ (o : Nat) (v : Value), (#[.int .i64 x.op, .int .i64 x.a, .int .i64 x.b, .int .i64 x.c, .string x.name] : Array Value)[o]? = some v → w1.cell? ⟨wr.heap.size, o, none⟩ = some v := fun o v hv => by
        unfold World.cell?
        rw [r4 wr.heap.size (by simp; omega) (fun e => by have := (hL.ob.lt wr.heap.size (by rw [hbsl]; exact e.symm)).2; omega), (bel1 _ (.cells #[.int .i64 (s.code.length : Int)] 3)).block _ (by simp), heap_alloc_new]
        exact hv
      have hbw1 : Below w.heap.size w w1 := ⟨hL1.os.trans hbZ.os, hL1.tape.trans hbZ.tape, hL1.output.trans hbZ.output, by have := hL1.sz; omega, fun b hb => (hL1.fix b (by omega)).trans (hbZ.block b hb)⟩
      have x0 := hxo 0 _ rfl
      have x1 := hxo 1 _ rfl
      have x2 := hxo 2 _ rfl
      have x3 := hxo 3 _ rfl
      have x4 := hxo 4 _ rfl
      have hLob := hL.ob.lt
      have hLop := fun g hg => Nat.lt_of_lt_of_le (hL.op.lt g hg).2 (show wr.heap.size ≤ w1.heap.size by omega)
      simp only [List.length_map, List.length_range] at hLop
      clear r1 r2 r3 r4 hob hxo hL hbl hbc y0 y1 y2 y3 y4 hbr hLob e1
      have x0' := fun o => cell_later (bel1 w1 o) x0
      have x1' := fun o => cell_later (bel1 w1 o) x1
      have x4' := fun o => cell_later (bel1 w1 o) x4
      generalize wr.heap.size = bx at *
      go_upto_if 81 with (fail)
      have hPB : (w1.alloc (.cells #[.int .i64 x.op, .int .i64 x.a, .int .i64 x.b, .int .i64 x.c, .string x.name] 54)).heap[w1.heap.size]? = some (.cells (icells [x]).toArray 54 (0, 0)) := heap_alloc_new w1 _
      have hbP := bel1 w1 (.cells #[.int .i64 x.op, .int .i64 x.a, .int .i64 x.b, .int .i64 x.c, .string x.name] 54)
      obtain ⟨L, HLe⟩ : ∃ L, Hid (L = w1.heap.size) := ⟨_, rfl⟩
      rw [← HLe.out] at hPB hw1 hLop ⊢
      go_cut [11, 18] (fun tv kv wx => FsC X sites Z w.heap.size m j L pc (.slice pap j pcp) (.slice a1 (j + 1) cap1) tv kv wx)
      case first =>
        have HNO : Hid (∀ wx, whoE X.classes sites m.code.length s.code.length s.temps j x = none → FrL Z w.heap.size n D ((List.range j).map (pcK X.classes sites m)) pc (s.begins ++ [(s.code.length : Int)]) (.slice pap j pcp) (.slice a1 (j + 1) cap1) wx → wx.heap[L]? = some (.cells (icells [stayE x (j : Int)]).toArray 54 (0, 0)) → FsC X sites Z w.heap.size m j L pc (.slice pap j pcp) (.slice a1 (j + 1) cap1) (.int .i64 s.temps) (.slice (some ⟨L, 0, none⟩) 1 1) wx) := fun wx h1 h2 h3 => by
          rw [HS.out] at h1 h2 ⊢
          exact fs_none HX.out h1 hxn hI hnj h2 h3
        by_cases h14 : x.op = 14
        · have hd : (x.op == 14) = true := by simpa using h14
          have HST : Hid (stayE x (j : Int) = { x with c := (j : Int) }) := by show _ = _; unfold stayE; rw [if_pos h14]
          have HO := hid h14
          clear h14
          have pf : ∀ o, (w1.alloc (.cells #[.int .i64 x.op, .int .i64 x.a, .int .i64 x.b, .int .i64 x.c, .string x.name] 54)).frozen? ⟨L, o, none⟩ = false := row_free hPB
          have p3 : (w1.alloc (.cells #[.int .i64 x.op, .int .i64 x.a, .int .i64 x.b, .int .i64 x.c, .string x.name] 54)).cell? ⟨L, 3, none⟩ = some (.int .i64 x.c) := by rw [cell_of_row _ _ _ _ _ _ hPB]; rfl
          go_upto_region 15 with (fail)
          clear p3
          have hPB2 : ((w1.alloc (.cells #[.int .i64 x.op, .int .i64 x.a, .int .i64 x.b, .int .i64 x.c, .string x.name] 54)).setCell ⟨L, 3, none⟩ (.int .i64 (j : Int))).heap[L]? = some (.cells (icells [stayE x (j : Int)]).toArray 54 (0, 0)) := by rw [HST.out, setCell_same hPB]; rfl
          have hbQ : Below w1.heap.size w1 ((w1.alloc (.cells #[.int .i64 x.op, .int .i64 x.a, .int .i64 x.b, .int .i64 x.c, .string x.name] 54)).setCell ⟨L, 3, none⟩ (.int .i64 (j : Int))) := hbP.setCell (by rw [HLe.out]; exact Nat.le_refl _) _
          have hL2 := hL1.later hbQ
          have hbw2 := nstep hbw1 hbQ
          have x0 := cell_later hbQ x0
          have x1 := cell_later hbQ x1
          have x2 := cell_later hbQ x2
          have x3 := cell_later hbQ x3
          have x4 := cell_later hbQ x4
          clear hPB hbP hL1 pf
          have hbxL : bx < L := by omega
          generalize hW2 : ((w1.alloc (.cells #[.int .i64 x.op, .int .i64 x.a, .int .i64 x.b, .int .i64 x.c, .string x.name] 54)).setCell ⟨L, 3, none⟩ (.int .i64 (j : Int))) = W2 at *
          have hszW : W2.heap.size = L + 1 := by rw [← hW2, size_setCell, HLe.out]; simp
          clear hW2 hbQ hbw1
          have HN2 : Hid (∀ wx, Below W2.heap.size W2 wx → whoE X.classes sites m.code.length s.code.length s.temps j x = none → FsC X sites Z w.heap.size m j L pc (.slice pap j pcp) (.slice a1 (j + 1) cap1) (.int .i64 s.temps) (.slice (some ⟨L, 0, none⟩) 1 1) wx) := fun wx hb h => HNO.out wx h (hL2.later hb) (by rw [hb.block _ (by omega)]; exact hPB2)
          by_cases hjs : j < sites.length
          · obtain ⟨bs, os, rfl, -, hsc⟩ := hrowS j sites[j] (List.getElem?_eq_getElem hjs)
            have hsc1 : W2.cell? ⟨bs, os + j, none⟩ = some (.int .i64 sites[j]) := by simpa [IntC] using cell_later hbw2 hsc
            have HKS : Hid (sites.getD j (-1) = sites[j]) := by show _ = _; rw [List.getD_eq_getElem?_getD, List.getElem?_eq_getElem hjs]; rfl
            clear hsc
            generalize sites[j] = ks at *
            have hd1 : decide ((j : Int) < (sites.length : Int)) = true := by simp; omega
            have hjs1 : (j : Int) < (sites.length : Int) := by omega
            by_cases hks : 0 ≤ ks
            · have hd2 : decide ((0 : Int) ≤ ks) = true := by simpa using hks
              go_upto_region 16 with (fail)
              obtain ⟨k0, k1, k2, -, -, -, -, -, -, -⟩ := hrb.same (wr := W2) (fun b hb => hL2.fix b (by omega)) (by omega)
              have hSl : ∀ w', Below W2.heap.size W2 w' → w'.cell? ⟨w.heap.size, 0, none⟩ = some (.slice (some ⟨b1, o1, none⟩) X.classes.length cc) ∧ w'.cell? ⟨w.heap.size, 1, none⟩ = some (.slice ah X.heap.length ch) ∧ w'.cell? ⟨w.heap.size, 2, none⟩ = some (.int .i64 X.epoch) ∧ w'.cell? ⟨bs, os + j, none⟩ = some (.int .i64 ks) ∧ w'.cell? ⟨bx, 4, none⟩ = some (.string x.name) := fun w' hb => ⟨cell_later hb k0, cell_later hb k1, cell_later hb k2, cell_later hb hsc1, cell_later hb x4⟩
              have hS0 := hSl _ (Below.refl _ W2).drew
              refine wp_region_late (S := fun w' => w'.cell? ⟨w.heap.size, 0, none⟩ = some (.slice (some ⟨b1, o1, none⟩) X.classes.length cc) ∧ w'.cell? ⟨w.heap.size, 1, none⟩ = some (.slice ah X.heap.length ch) ∧ w'.cell? ⟨w.heap.size, 2, none⟩ = some (.int .i64 X.epoch) ∧ w'.cell? ⟨bs, os + j, none⟩ = some (.int .i64 ks) ∧ w'.cell? ⟨bx, 4, none⟩ = some (.string x.name)) [] (by kernel_rfl) ?_
              refine wpAnyM_take (i := 0) (oi := { dst := some 98, op := Op.load 25 (Operand.tmp 4), type := 25, pos := "ref.go:239", after := #[], guard := none }) (v := WV (.slice (some ⟨b1, o1, none⟩) X.classes.length cc) (.slice ah X.heap.length ch) X.epoch) (by kernel_rfl) (by kernel_rfl) rfl (by kernel_rfl) (by kernel_rfl) (by kernel_rfl) (fun _ _ _ h => h) (Or.inl ⟨by rfl, ?_⟩) (hS0) ?_
              · intro w hSw
                obtain ⟨q0, q1, q2, q3, q4⟩ := hSw
                go_simp
              try simp only [Act.put, List.setIfInBounds_toArray, List.set_cons_zero, List.set_cons_succ]
              refine wpAnyM_take (i := 1) (oi := { dst := some 99, op := Op.move (Operand.tmp 3), type := 26, pos := "ref.go:239", after := #[], guard := none }) (v := .slice (some ⟨bs, os, none⟩) sites.length cs) (by kernel_rfl) (by kernel_rfl) rfl (by kernel_rfl) (by kernel_rfl) (by kernel_rfl) (fun _ _ _ h => h) (Or.inl ⟨by rfl, ?_⟩) (hS0) ?_
              · intro w hSw
                obtain ⟨q0, q1, q2, q3, q4⟩ := hSw
                go_simp
              try simp only [Act.put, List.setIfInBounds_toArray, List.set_cons_zero, List.set_cons_succ]
              refine wpAnyM_take (i := 2) (oi := { dst := some 100, op := Op.move (Operand.tmp 16), type := 3, pos := "ref.go:239", after := #[], guard := none }) (v := .int .i64 (j : Int)) (by kernel_rfl) (by kernel_rfl) rfl (by kernel_rfl) (by kernel_rfl) (by kernel_rfl) (fun _ _ _ h => h) (Or.inl ⟨by rfl, ?_⟩) (hS0) ?_
              · intro w hSw
                obtain ⟨q0, q1, q2, q3, q4⟩ := hSw
                go_simp
              try simp only [Act.put, List.setIfInBounds_toArray, List.set_cons_zero, List.set_cons_succ]
              refine wpAnyM_take (i := 3) (oi := { dst := some 101, op := Op.indexAddr 26 (Operand.tmp 99) (Operand.tmp 100), type := 0, pos := "ref.go:239", after := #[{ on := 1, ground := Ground.data }, { on := 2, ground := Ground.data }], guard := none }) (v := .pointer (some ⟨bs, os + j, none⟩)) (by kernel_rfl) (by kernel_rfl) rfl (by kernel_rfl) (by kernel_rfl) (by kernel_rfl) (fun _ _ _ h => h) (Or.inl ⟨by rfl, ?_⟩) (hS0) ?_
              · intro w hSw
                obtain ⟨q0, q1, q2, q3, q4⟩ := hSw
                go_simp
              try simp only [Act.put, List.setIfInBounds_toArray, List.set_cons_zero, List.set_cons_succ]
              refine wpAnyM_take (i := 4) (oi := { dst := some 102, op := Op.load 3 (Operand.tmp 101), type := 3, pos := "ref.go:239", after := #[{ on := 3, ground := Ground.data }], guard := none }) (v := .int .i64 ks) (by kernel_rfl) (by kernel_rfl) rfl (by kernel_rfl) (by kernel_rfl) (by kernel_rfl) (fun _ _ _ h => h) (Or.inl ⟨by rfl, ?_⟩) (hS0) ?_
              · intro w hSw
                obtain ⟨q0, q1, q2, q3, q4⟩ := hSw
                go_simp
              try simp only [Act.put, List.setIfInBounds_toArray, List.set_cons_zero, List.set_cons_succ]
              refine wpAnyM_take (i := 5) (oi := { dst := some 103, op := Op.fieldAddr 54 (Operand.tmp 17) 4, type := 0, pos := "ref.go:239", after := #[], guard := none }) (v := .pointer (some ⟨bx, 4, none⟩)) (by kernel_rfl) (by kernel_rfl) rfl (by kernel_rfl) (by kernel_rfl) (by kernel_rfl) (fun _ _ _ h => h) (Or.inl ⟨by rfl, ?_⟩) (hS0) ?_
              · intro w hSw
                obtain ⟨q0, q1, q2, q3, q4⟩ := hSw
                go_simp
              try simp only [Act.put, List.setIfInBounds_toArray, List.set_cons_zero, List.set_cons_succ]
              refine wpAnyM_take (i := 6) (oi := { dst := some 104, op := Op.load 9 (Operand.tmp 103), type := 9, pos := "ref.go:239", after := #[{ on := 5, ground := Ground.data }], guard := none }) (v := .string x.name) (by kernel_rfl) (by kernel_rfl) rfl (by kernel_rfl) (by kernel_rfl) (by kernel_rfl) (fun _ _ _ h => h) (Or.inl ⟨by rfl, ?_⟩) (hS0) ?_
              · intro w hSw
                obtain ⟨q0, q1, q2, q3, q4⟩ := hSw
                go_simp
              try simp only [Act.put, List.setIfInBounds_toArray, List.set_cons_zero, List.set_cons_succ]
              refine wpAnyM_ready (rs := [7]) (by kernel_rfl) (by simp) ?_
              intro i hi
              simp only [List.mem_cons, List.not_mem_nil, or_false] at hi
              subst hi
              refine stepM (o := { dst := some 105, op := Op.call { callee := Callee.value (Operand.func 11), args := #[Operand.tmp 98, Operand.tmp 102, Operand.tmp 104], argTypes := #[25, 3, 9] }, type := 51, pos := "ref.go:239", after := #[{ on := 0, ground := Ground.data }, { on := 4, ground := Ground.data }, { on := 6, ground := Ground.data }], guard := none }) rfl (fun K' hK => ?_)
              refine step_call rfl 11 (.func 11) #[.tmp 98, .tmp 102, .tmp 104] _ rfl #[] rfl #[WV (.slice (some ⟨b1, o1, none⟩) X.classes.length cc) (.slice ah X.heap.length ch) X.epoch, .int .i64 ks, .string x.name] (by simp [Act.eval, Act.put]) (cf11 _ _) ?_
              refine (show Calls Try.prog 11 #[WV (.slice (some ⟨b1, o1, none⟩) X.classes.length cc) (.slice ah X.heap.length ch) X.epoch, .int .i64 ks, .string x.name] W2.drew _ from (rfind_any X ks x.name _ _ W2.drew (hC.later goodC hbw2.drew) (hH.later goodO hbw2.drew)).mono ?_)
              rintro e w3 ⟨rfl, hb3⟩
              refine ⟨_, rfl, ?_⟩
              have hbW3 : Below W2.heap.size W2 w3 := nstep (Below.refl _ W2).drew hb3
              refine hK _ _ (fun _ => ?_) ?_
              · exact hSl _ hbW3
              clear hK K'
              try simp only [Act.put, List.setIfInBounds_toArray, List.set_cons_zero, List.set_cons_succ]
              obtain ⟨fc, fj, hf⟩ : ∃ fc fj, findE X.classes ks x.name = (fc, fj) := ⟨_, _, rfl⟩
              simp only [hf]
              refine wpAnyM_take (i := 8) (oi := { dst := some 97, op := Op.move (Operand.tmp 105), type := 51, pos := "ref.go:239", after := #[{ on := 7, ground := Ground.data }], guard := none }) (v := .tuple #[.int .i64 fc, .int .i64 fj]) (by kernel_rfl) (by kernel_rfl) rfl (by kernel_rfl) (by kernel_rfl) (by kernel_rfl) (fun _ _ _ h => h) (Or.inl ⟨by rfl, ?_⟩) (hSl _ hbW3) ?_
              · intro w hSw
                obtain ⟨q0, q1, q2, q3, q4⟩ := hSw
                go_simp
              try simp only [Act.put, List.setIfInBounds_toArray, List.set_cons_zero, List.set_cons_succ]
              refine wpAnyM_take (i := 9) (oi := { dst := some 106, op := Op.extract (Operand.tmp 97) 0, type := 3, pos := "ref.go:239", after := #[{ on := 8, ground := Ground.data }], guard := none }) (v := .int .i64 fc) (by kernel_rfl) (by kernel_rfl) rfl (by kernel_rfl) (by kernel_rfl) (by kernel_rfl) (fun _ _ _ h => h) (Or.inl ⟨by rfl, ?_⟩) (hSl _ hbW3) ?_
              · intro w hSw
                obtain ⟨q0, q1, q2, q3, q4⟩ := hSw
                go_simp
              try simp only [Act.put, List.setIfInBounds_toArray, List.set_cons_zero, List.set_cons_succ]
              refine wpAnyM_take (i := 10) (oi := { dst := some 107, op := Op.extract (Operand.tmp 97) 1, type := 3, pos := "ref.go:239", after := #[{ on := 8, ground := Ground.data }, { on := 11, ground := Ground.gcOnly Departure.lateStores }], guard := none }) (v := .int .i64 fj) (by kernel_rfl) (by kernel_rfl) rfl (by kernel_rfl) (by kernel_rfl) (by kernel_rfl) (fun _ _ _ h => h) (Or.inl ⟨by rfl, ?_⟩) (hSl _ hbW3) ?_
              · intro w hSw
                obtain ⟨q0, q1, q2, q3, q4⟩ := hSw
                go_simp
              try simp only [Act.put, List.setIfInBounds_toArray, List.set_cons_zero, List.set_cons_succ]
              refine wpAnyM_take (i := 11) (oi := { dst := some 19, op := Op.assign (Operand.tmp 106), type := 3, pos := "ref.go:239", after := #[{ on := 9, ground := Ground.data }, { on := 7, ground := Ground.chain }, { on := 0, ground := Ground.phase }, { on := 1, ground := Ground.phase }, { on := 2, ground := Ground.phase }, { on := 3, ground := Ground.phase }, { on := 4, ground := Ground.phase }, { on := 5, ground := Ground.phase }, { on := 6, ground := Ground.phase }, { on := 7, ground := Ground.phase }, { on := 8, ground := Ground.phase }, { on := 9, ground := Ground.phase }, { on := 10, ground := Ground.textOnly Departure.lateStores }], guard := none }) (v := .int .i64 fc) (by kernel_rfl) (by kernel_rfl) rfl (by kernel_rfl) (by kernel_rfl) (by kernel_rfl) (fun _ _ _ h => h) (Or.inl ⟨by rfl, ?_⟩) (hSl _ hbW3) ?_
              · intro w hSw
                obtain ⟨q0, q1, q2, q3, q4⟩ := hSw
                go_simp
              try simp only [Act.put, List.setIfInBounds_toArray, List.set_cons_zero, List.set_cons_succ]
              refine wpAnyM_take (i := 12) (oi := { dst := some 20, op := Op.assign (Operand.tmp 107), type := 3, pos := "ref.go:239", after := #[{ on := 10, ground := Ground.data }, { on := 11, ground := Ground.chain }, { on := 0, ground := Ground.phase }, { on := 1, ground := Ground.phase }, { on := 2, ground := Ground.phase }, { on := 3, ground := Ground.phase }, { on := 4, ground := Ground.phase }, { on := 5, ground := Ground.phase }, { on := 6, ground := Ground.phase }, { on := 7, ground := Ground.phase }, { on := 8, ground := Ground.phase }, { on := 9, ground := Ground.phase }, { on := 10, ground := Ground.phase }, { on := 11, ground := Ground.phase }], guard := none }) (v := .int .i64 fj) (by kernel_rfl) (by kernel_rfl) rfl (by kernel_rfl) (by kernel_rfl) (by kernel_rfl) (fun _ _ _ h => h) (Or.inl ⟨by rfl, ?_⟩) (hSl _ hbW3) ?_
              · intro w hSw
                obtain ⟨q0, q1, q2, q3, q4⟩ := hSw
                go_simp
              try simp only [Act.put, List.setIfInBounds_toArray, List.set_cons_zero, List.set_cons_succ]
              refine wpAnyM_done (by kernel_rfl) ?_ _
              try simp only [Act.put, List.setIfInBounds_toArray, List.set_cons_zero, List.set_cons_succ]

              rcases find_cases X.classes ks x.name with ⟨hf1, hf2⟩ | ⟨q2, xc2, t2, y, hfe, hxq, hyt⟩
              · rw [hf] at hf2
                have hd3 : decide ((0 : Int) ≤ fj) = false := by simp only [decide_eq_false_iff_not]; simp only at hf2; omega
                have HF := hid (HN2.out w3 hbW3 (who_find (by rw [HKS.out, hf]; exact hf2)))
                go_wp2_with fail
                go_meet
                case rel => exact HF.out
              · have HMO : Hid (methOf X.classes ks x.name = some y) := by show _ = _; unfold methOf; rw [if_neg (by rw [hfe]; simp only; omega), hfe]; simp [hxq, hyt]
                have HMA := hid (methOf_at HMO.out)
                have hSy := meth_small hX HMA.out
                have HNY := hid (nm_of hC HMA.out)
                have HWF := hid (who_found (len := m.code.length) (n := (s.code.length : Int)) (temps := s.temps) HO.out (by rw [HKS.out]; exact hks) (by rw [HKS.out]; exact hfe) hxq hyt)
                rw [hf] at hfe
                simp only [Prod.mk.injEq] at hfe
                obtain ⟨rfl, rfl⟩ := hfe
                have hbw3 := nstep hbw2 hbW3
                have hq2 := lt_of_get hxq
                have ht2 := lt_of_get hyt
                have hq21 : (q2 : Int) < (X.classes.length : Int) := by omega
                have hq20 : (0 : Int) ≤ (q2 : Int) := by omega
                have ht21 : (t2 : Int) < (xc2.methods.length : Int) := by omega
                have ht20 : (0 : Int) ≤ (t2 : Int) := by omega
                have hd3 : decide ((0 : Int) ≤ (t2 : Int)) = true := by simp
                obtain ⟨ac2, cc2, e2, -, -, -, hrowC⟩ := hC.later goodC hbw3
                cases e2
                obtain ⟨b3, o3, e3, -, -, -, -, -, mv2, u3, hms2⟩ := hrowC q2 xc2 hxq
                cases e3
                obtain ⟨am2, cm2, rfl, hlm2, hcm2, -, hrm2⟩ := hms2
                obtain ⟨b4, o4, rfl, -, z0, z1, z2, z3, -, kv2, z4, hcy⟩ := hrm2 t2 y hyt
                obtain ⟨ak2, ck2, rfl, hlk2, hck2, -, -⟩ := id hcy
                simp only [Nat.add_zero] at z0
                unfold maxLen at hcm2 hck2
                replace k0 := cell_later hbW3 k0
                clear hrowC hrm2 hxq hyt k1 k2
                go_upto_region 19 with (fail)
                have hb4 := bel1 w3 (.cells #[.string y.name, .int .i64 y.args, .int .i64 y.temps, .int .i64 y.prim, .slice ak2 y.code.length ck2] 48)
                have hbW4 := nstep hbW3 hb4
                have hcy4 := hcy.later goodI hb4
                have yb : ∀ (o : Nat), (w3.alloc (.cells #[.string y.name, .int .i64 y.args, .int .i64 y.temps, .int .i64 y.prim, .slice ak2 y.code.length ck2] 48)).cell? ⟨w3.heap.size, o, none⟩ = (#[.string y.name, .int .i64 y.args, .int .i64 y.temps, .int .i64 y.prim, .slice ak2 y.code.length ck2] : Array Value)[o]? := fun o => cell_new w3 _ _ _ rfl o
                have yb0 := yb 0
                have yb1 := yb 1
                have yb2 := yb 2
                have yb3 := yb 3
                have yb4 := yb 4
                have hbL : L + 1 ≤ w3.heap.size := by have := hbW3.size; omega
                clear z0 z1 z2 z3 z4 u3 k0 yb hb4 hcy
                simp only [List.getElem?_toArray, List.getElem?_cons_zero, List.getElem?_cons_succ] at yb0 yb1 yb2 yb3 yb4
                generalize w3.alloc (.cells #[.string y.name, .int .i64 y.args, .int .i64 y.temps, .int .i64 y.prim, .slice ak2 y.code.length ck2] 48) = W4 at *
                generalize w3.heap.size = bl at *
                obtain ⟨sy1, sy2, sy3, -, -, -⟩ := id hSy
                have hwA : IntKind.i64.wrap (3 + y.args) = 3 + y.args := wrap_of (by omega) (by omega)
                have hwB : IntKind.i64.wrap (2 * y.temps) = 2 * y.temps := wrap_of (by omega) (by omega)
                have hwC : IntKind.i64.wrap (3 + y.args + 2 * y.temps) = 3 + y.args + 2 * y.temps := wrap_of (by omega) (by omega)
                have hwD : IntKind.i64.wrap (3 + y.args + 2 * y.temps + (y.code.length : Int)) = 3 + y.args + 2 * y.temps + (y.code.length : Int) := wrap_of (by omega) (by omega)
                go_wp2_with fail
                refine (rleaf_any y _ _ hcy4).mono ?_
                rintro e w5 ⟨rfl, hb5⟩
                have hbW5 := nstep hbW4 hb5
                replace yb0 := cell_later hb5 yb0
                replace yb1 := cell_later hb5 yb1
                replace yb2 := cell_later hb5 yb2
                replace yb3 := cell_later hb5 yb3
                replace yb4 := cell_later hb5 yb4
                have hcy5 := hcy4.later goodI hb5
                have xa5 := cell_later hbW5 x1
                have m45 : w5.cell? ⟨w.heap.size + 2, 4, none⟩ = some (.slice (some ⟨bk, ok, none⟩) m.code.length ck) := by
                  have hf5 := (hL2.later hbW5).fix (w.heap.size + 2) (by omega)
                  rw [cell_of_row _ _ _ _ _ _ (hf5.trans hmb)]; rfl
                have hwE : IntKind.i64.wrap ((s.code.length : Int) + (3 + y.args + 2 * y.temps + (y.code.length : Int))) = (s.code.length : Int) + (3 + y.args + 2 * y.temps + (y.code.length : Int)) := wrap_of (by omega) (by omega)
                have hwF : IntKind.i64.wrap ((s.code.length : Int) + (3 + y.args + 2 * y.temps + (y.code.length : Int)) + (m.code.length : Int)) = (s.code.length : Int) + (3 + y.args + 2 * y.temps + (y.code.length : Int)) + (m.code.length : Int) := wrap_of (by omega) (by omega)
                have hwG : IntKind.i64.wrap ((s.code.length : Int) + (3 + y.args + 2 * y.temps + (y.code.length : Int)) + (m.code.length : Int) - (j : Int)) = (s.code.length : Int) + (3 + y.args + 2 * y.temps + (y.code.length : Int)) + (m.code.length : Int) - (j : Int) := wrap_of (by omega) (by omega)
                have hwH : IntKind.i64.wrap (s.temps + 1) = s.temps + 1 := wrap_of (by omega) (by omega)
                have hwI : IntKind.i64.wrap (s.temps + 1 + y.args) = s.temps + 1 + y.args := wrap_of (by omega) (by omega)
                have hwJ : IntKind.i64.wrap (s.temps + 1 + y.args + y.temps) = s.temps + 1 + y.args + y.temps := wrap_of (by omega) (by omega)
                by_cases c1 : leafE y = true
                · by_cases c2 : y.args = x.a
                  · have HC2 := hid c2
                    have hc2 : (y.args == x.a) = true := by simpa using c2
                    clear c2
                    by_cases c3 : (s.code.length : Int) + (3 + y.args + 2 * y.temps + (y.code.length : Int)) + (m.code.length : Int) - (j : Int) ≤ 240
                    · have hc3 : decide ((s.code.length : Int) + (3 + y.args + 2 * y.temps + (y.code.length : Int)) + (m.code.length : Int) - (j : Int) ≤ 240) = true := by simpa using c3
                      by_cases c4 : s.temps + 1 + y.args + y.temps ≤ 40
                      · have hc4 : decide (s.temps + 1 + y.args + y.temps ≤ 40) = true := by simpa using c4
                        have HW : Hid (whoE X.classes sites m.code.length s.code.length s.temps j x = some y) := by
                          show _ = _
                          rw [HWF.out, if_pos ⟨HC2.out, c1, by unfold roomE; simp only [decide_eq_true_eq]; omega⟩]
                        clear c3 c4
                        go_upto_region 21 with (fail)
                        have hSl1 : ∀ w', Below w5.heap.size w5 w' → w'.cell? ⟨bl, 0, none⟩ = some (.string y.name) ∧ w'.cell? ⟨bl, 1, none⟩ = some (.int .i64 y.args) ∧ w'.cell? ⟨bl, 2, none⟩ = some (.int .i64 y.temps) ∧ w'.cell? ⟨bl, 3, none⟩ = some (.int .i64 y.prim) ∧ w'.cell? ⟨bl, 4, none⟩ = some (.slice ak2 y.code.length ck2) ∧ w'.cell? ⟨bs, os + j, none⟩ = some (.int .i64 ks) := fun w' hb => ⟨cell_later hb yb0, cell_later hb yb1, cell_later hb yb2, cell_later hb yb3, cell_later hb yb4, cell_later hb (cell_later hbW5 hsc1)⟩
                        have hS1 := hSl1 _ (Below.refl _ w5).drew
                        refine wp_region_late (S := fun w' => w'.cell? ⟨bl, 0, none⟩ = some (.string y.name) ∧ w'.cell? ⟨bl, 1, none⟩ = some (.int .i64 y.args) ∧ w'.cell? ⟨bl, 2, none⟩ = some (.int .i64 y.temps) ∧ w'.cell? ⟨bl, 3, none⟩ = some (.int .i64 y.prim) ∧ w'.cell? ⟨bl, 4, none⟩ = some (.slice ak2 y.code.length ck2) ∧ w'.cell? ⟨bs, os + j, none⟩ = some (.int .i64 ks)) [8] (by kernel_rfl) ?_
                        refine wpAnyM_take (i := 0) (oi := { dst := some 162, op := Op.load 48 (Operand.tmp 21), type := 48, pos := "ref.go:243", after := #[], guard := none }) (v := MV y (.slice ak2 y.code.length ck2)) (by kernel_rfl) (by kernel_rfl) rfl (by kernel_rfl) (by kernel_rfl) (by kernel_rfl) (fun _ _ _ h => h) (Or.inl ⟨by rfl, ?_⟩) (hS1) ?_
                        · intro w hSw
                          obtain ⟨q0, q1, q2, q3, q4, q5⟩ := hSw
                          go_simp
                        try simp only [Act.put, List.setIfInBounds_toArray, List.set_cons_zero, List.set_cons_succ]
                        refine wpAnyM_take (i := 1) (oi := { dst := some 163, op := Op.move (Operand.tmp 11), type := 3, pos := "ref.go:243", after := #[], guard := none }) (v := .int .i64 s.temps) (by kernel_rfl) (by kernel_rfl) rfl (by kernel_rfl) (by kernel_rfl) (by kernel_rfl) (fun _ _ _ h => h) (Or.inl ⟨by rfl, ?_⟩) (hS1) ?_
                        · intro w hSw
                          obtain ⟨q0, q1, q2, q3, q4, q5⟩ := hSw
                          go_simp
                        try simp only [Act.put, List.setIfInBounds_toArray, List.set_cons_zero, List.set_cons_succ]
                        refine wpAnyM_take (i := 2) (oi := { dst := some 164, op := Op.move (Operand.tmp 3), type := 26, pos := "ref.go:243", after := #[], guard := none }) (v := .slice (some ⟨bs, os, none⟩) sites.length cs) (by kernel_rfl) (by kernel_rfl) rfl (by kernel_rfl) (by kernel_rfl) (by kernel_rfl) (fun _ _ _ h => h) (Or.inl ⟨by rfl, ?_⟩) (hS1) ?_
                        · intro w hSw
                          obtain ⟨q0, q1, q2, q3, q4, q5⟩ := hSw
                          go_simp
                        try simp only [Act.put, List.setIfInBounds_toArray, List.set_cons_zero, List.set_cons_succ]
                        refine wpAnyM_take (i := 3) (oi := { dst := some 165, op := Op.move (Operand.tmp 16), type := 3, pos := "ref.go:243", after := #[], guard := none }) (v := .int .i64 (j : Int)) (by kernel_rfl) (by kernel_rfl) rfl (by kernel_rfl) (by kernel_rfl) (by kernel_rfl) (fun _ _ _ h => h) (Or.inl ⟨by rfl, ?_⟩) (hS1) ?_
                        · intro w hSw
                          obtain ⟨q0, q1, q2, q3, q4, q5⟩ := hSw
                          go_simp
                        try simp only [Act.put, List.setIfInBounds_toArray, List.set_cons_zero, List.set_cons_succ]
                        refine wpAnyM_take (i := 4) (oi := { dst := some 166, op := Op.indexAddr 26 (Operand.tmp 164) (Operand.tmp 165), type := 0, pos := "ref.go:243", after := #[{ on := 2, ground := Ground.data }, { on := 3, ground := Ground.data }], guard := none }) (v := .pointer (some ⟨bs, os + j, none⟩)) (by kernel_rfl) (by kernel_rfl) rfl (by kernel_rfl) (by kernel_rfl) (by kernel_rfl) (fun _ _ _ h => h) (Or.inl ⟨by rfl, ?_⟩) (hS1) ?_
                        · intro w hSw
                          obtain ⟨q0, q1, q2, q3, q4, q5⟩ := hSw
                          go_simp
                        try simp only [Act.put, List.setIfInBounds_toArray, List.set_cons_zero, List.set_cons_succ]
                        refine wpAnyM_take (i := 5) (oi := { dst := some 167, op := Op.load 3 (Operand.tmp 166), type := 3, pos := "ref.go:243", after := #[{ on := 4, ground := Ground.data }], guard := none }) (v := .int .i64 ks) (by kernel_rfl) (by kernel_rfl) rfl (by kernel_rfl) (by kernel_rfl) (by kernel_rfl) (fun _ _ _ h => h) (Or.inl ⟨by rfl, ?_⟩) (hS1) ?_
                        · intro w hSw
                          obtain ⟨q0, q1, q2, q3, q4, q5⟩ := hSw
                          go_simp
                        try simp only [Act.put, List.setIfInBounds_toArray, List.set_cons_zero, List.set_cons_succ]
                        refine wpAnyM_take (i := 6) (oi := { dst := some 168, op := Op.move (Operand.tmp 16), type := 3, pos := "ref.go:243", after := #[], guard := none }) (v := .int .i64 (j : Int)) (by kernel_rfl) (by kernel_rfl) rfl (by kernel_rfl) (by kernel_rfl) (by kernel_rfl) (fun _ _ _ h => h) (Or.inl ⟨by rfl, ?_⟩) (hS1) ?_
                        · intro w hSw
                          obtain ⟨q0, q1, q2, q3, q4, q5⟩ := hSw
                          go_simp
                        try simp only [Act.put, List.setIfInBounds_toArray, List.set_cons_zero, List.set_cons_succ]
                        refine wpAnyM_ready (rs := [7]) (by kernel_rfl) (by simp) ?_
                        intro i hi
                        simp only [List.mem_cons, List.not_mem_nil, or_false] at hi
                        subst hi
                        refine stepM (o := { dst := some 169, op := Op.call { callee := Callee.value (Operand.func 30), args := #[Operand.tmp 162, Operand.tmp 163, Operand.tmp 167, Operand.tmp 168], argTypes := #[48, 3, 3, 3] }, type := 29, pos := "ref.go:243", after := #[{ on := 0, ground := Ground.data }, { on := 1, ground := Ground.data }, { on := 5, ground := Ground.data }, { on := 6, ground := Ground.data }], guard := none }) rfl (fun K' hK => ?_)
                        refine step_call rfl 30 (.func 30) #[.tmp 162, .tmp 163, .tmp 167, .tmp 168] _ rfl #[] rfl #[MV y (.slice ak2 y.code.length ck2), .int .i64 s.temps, .int .i64 ks, .int .i64 (j : Int)] (by simp [Act.eval, Act.put]) (cf30 _ _) ?_
                        refine (show Calls Try.prog 30 #[MV y (.slice ak2 y.code.length ck2), .int .i64 s.temps, .int .i64 ks, .int .i64 (j : Int)] w5.drew _ from (pieceR_any y hSy s.temps ks (j : Int) _ w5.drew (hcy5.later goodI (Below.refl _ w5).drew) (by omega)).mono ?_)
                        rintro e w6 ⟨ap, cp, rfl, hOp, hb6⟩
                        refine ⟨_, rfl, ?_⟩
                        have hbW6 : Below w5.heap.size w5 w6 := nstep (Below.refl _ w5).drew hb6
                        refine hK _ _ (fun _ => ?_) ?_
                        · exact hSl1 _ hbW6
                        clear hK K'
                        try simp only [Act.put, List.setIfInBounds_toArray, List.set_cons_zero, List.set_cons_succ]
                        refine wpAnyM_ready (rs := [8]) (by kernel_rfl) (by simp) ?_
                        intro i hi
                        simp only [List.mem_cons, List.not_mem_nil, or_false] at hi
                        subst hi
                        refine stepM (o := { dst := some 18, op := Op.assign (Operand.tmp 169), type := 29, pos := "ref.go:243", after := #[{ on := 7, ground := Ground.data }, { on := 7, ground := Ground.chain }, { on := 0, ground := Ground.phase }, { on := 1, ground := Ground.phase }, { on := 2, ground := Ground.phase }, { on := 3, ground := Ground.phase }, { on := 4, ground := Ground.phase }, { on := 5, ground := Ground.phase }, { on := 6, ground := Ground.phase }, { on := 7, ground := Ground.phase }], guard := none }) rfl (fun K' hK => ?_)
                        go_simp
                        refine hK _ _ (fun h => absurd h (by decide)) ?_
                        clear hK K'
                        try simp only [Act.put, List.setIfInBounds_toArray, List.set_cons_zero, List.set_cons_succ]
                        refine wpAnyM_done (by kernel_rfl) ?_ _
                        try simp only [Act.put, List.setIfInBounds_toArray, List.set_cons_zero, List.set_cons_succ]

                        obtain ⟨Pc, HPc⟩ : ∃ Pc, Hid (Pc = pieceE y (ins 18 ks y.args (j : Int)) s.temps 0) := ⟨_, rfl⟩
                        simp only [← HPc.out] at hOp ⊢
                        have yc1 := cell_later hbW6 yb1
                        have yc2 := cell_later hbW6 yb2
                        have hL6 := hL2.later (nstep hbW5 hbW6)
                        have HWFJ : Hid ((Lit.int .i64 (j : Int)).wf = true) := by
                          have h := wrap64_wf (j : Int)
                          rw [show wrap64 (j : Int) = (j : Int) by unfold wrap64; omega] at h
                          exact h
                        have hnm : n < maxLen := by unfold maxLen; omega
                        clear yb0 yb1 yb2 yb3 yb4 hSl1 hS1
                        go_wp2_with (at_mapUpdate; refine wpList_mapUpdate_own _ rfl _ _ _ 87 rfl 3 4 law3 Try.underlying87 _ (w.heap.size + 3) n D rfl hL6.map hnm _ _ (.int .i64 (j : Int)) rfl rfl (keyOf_int_mk Try.underlying3 HWFJ.out) (.lit (.bool true)) [] (plainElem_bool Try.underlying4 true) ?_; intro w7 hown7 hgrow7)
                        go_meet
                        case rel =>
                          have hL7 := hL6.setM hown7 hgrow7
                          have hOp6 : OwnI w6 w5.heap.size ap cp Pc := hOp
                          have hs5 := (hL2.later hbW5).sz
                          have hOp7 : OwnI w7 w5.heap.size ap cp Pc := hOp6.keep fun g hg => hgrow7.block g (hOp6.lt g hg).2 (by have := (hOp6.lt g hg).1; simp; omega)
                          rw [HPc.out] at hOp7 ⊢
                          have HW' := HW.out
                          rw [HS.out] at HW' hL7 hOp7 ⊢
                          exact fs_some HX.out HKS.out HW' hSy HNY.out (hI.put HX.out HW') (by omega) hL7 hOp7 (by have := hbW5.size; omega)
                      · have hc4 : decide (s.temps + 1 + y.args + y.temps ≤ 40) = false := by simpa using c4
                        have HF := hid (HN2.out w5 hbW5 (by rw [HWF.out, if_neg (fun h => by have := h.2.2; unfold roomE at this; simp only [decide_eq_true_eq] at this; omega)]))
                        go_wp2_with fail
                        go_meet
                        case rel => exact HF.out

                    · have hc3 : decide ((s.code.length : Int) + (3 + y.args + 2 * y.temps + (y.code.length : Int)) + (m.code.length : Int) - (j : Int) ≤ 240) = false := by simpa using c3
                      have HF := hid (HN2.out w5 hbW5 (by rw [HWF.out, if_neg (fun h => by have := h.2.2; unfold roomE at this; simp only [decide_eq_true_eq] at this; omega)]))
                      go_wp2_with fail
                      go_meet
                      case rel => exact HF.out

                  · have hc2 : (y.args == x.a) = false := by simpa using c2
                    have HC2 := hid c2
                    clear c2
                    have HF := hid (HN2.out w5 hbW5 (by rw [HWF.out, if_neg (fun h => HC2.out h.1)]))
                    go_wp2_with fail
                    go_meet
                    case rel => exact HF.out

                · have hc1 : leafE y = false := by simpa using c1
                  have HF := hid (HN2.out w5 hbW5 (by rw [HWF.out, if_neg (fun h => c1 h.2.1)]))
                  go_wp2_with fail
                  go_meet
                  case rel => exact HF.out



            · have hd2 : decide ((0 : Int) ≤ ks) = false := by simpa using hks
              have HF := hid (HN2.out W2 (Below.refl _ _) (who_site (by rw [HKS.out]; omega)))
              go_wp2_with fail
              go_meet
              case rel => exact HF.out
          · have hd1 : decide ((j : Int) < (sites.length : Int)) = false := by simp; omega
            have HF := hid (HN2.out W2 (Below.refl _ _) (who_site (by rw [List.getD_eq_getElem?_getD, List.getElem?_eq_none (by omega)]; simp)))
            go_wp2_with fail
            go_meet
            case rel => exact HF.out
        · have hd : (x.op == 14) = false := by simpa using h14
          have HST : Hid (stayE x (j : Int) = x) := by show _ = _; unfold stayE; rw [if_neg h14]
          have HF := hid (HNO.out (w1.alloc (.cells #[.int .i64 x.op, .int .i64 x.a, .int .i64 x.b, .int .i64 x.c, .string x.name] 54)) (who_op h14) (hL1.later hbP) (by rw [HST.out]; exact hPB))
          go_wp2_with fail
          go_meet
          case rel => exact HF.out
      case rest =>
        obtain ⟨pa, pcap, n2, D2, rfl, rfl, hn2, hI2, hL2, hpk⟩ := hcut
        have HPL := hid (pc_len (xs := X.classes) (sites := sites) (m := m) (k := j) hlt)
        have hsm2 := build_small hX (sites := sites) hSm (k := j + 1) (by omega)
        obtain ⟨Pj, HPj⟩ : ∃ Pj, Hid (Pj = pcK X.classes sites m j) := ⟨_, rfl⟩
        obtain ⟨sn, HSN⟩ : ∃ sn, Hid (sn = buildB X.classes sites m (j + 1)) := ⟨_, rfl⟩
        rw [← HPj.out] at HPL
        simp only [← HPj.out] at hpk ⊢
        rw [← HSN.out] at HPL hsm2 hL2 ⊢
        obtain ⟨pa', pcap', e, hpkl, hpkc, -, -⟩ := id hpk
        simp only [Value.slice.injEq] at e
        obtain ⟨rfl, -, rfl⟩ := e
        unfold maxLen at hpkc
        have hPl : sn.code.length = s.code.length + Pj.length := by have := HPL.out; rw [← HS.out] at this; exact this
        have HPl := hid hPl
        have hPl2 : Pj.length ≤ 240 := by omega
        clear hPl
        have hwS : IntKind.i64.wrap ((s.code.length : Int) + (Pj.length : Int)) = (s.code.length : Int) + (Pj.length : Int) := wrap_of (by omega) (by omega)
        have hop : ∀ o, ownsAt (wc.alloc o) (w.heap.size + 4) 29 1 (.slice pap j pcp) j pc := fun o => by have := hL2.op.alloc o; simpa using this
        have hLob : ∀ g, (Value.slice a1 (j + 1) cap1).ownBlock = some g → g < L := fun g hg => by rw [HLe.out]; exact (hL1.ob.lt g hg).2
        have hsz2 := hL2.sz
        clear hL1
        go_wp2_with (at_builtin; refine wpList_append_at rfl (.tmp 184) (.tmp 186) 86 29 _ 1 24 rfl Try.underlying86 info29 rfl (by omega) (w.heap.size + 4) j (.slice pap j pcp) pc rfl (hop _) wc.heap.size rfl [.slice pa Pj.length pcap] rfl (heap_alloc_new _ _) (by intro u hu; simp only [List.mem_cons, List.not_mem_nil, or_false] at hu; subst hu; rfl) (by unfold maxLen; omega) (by omega) (by simp; omega) ?_; intro a2 cap2 w2 r1 r2 r3 r4; have hR := hid (And.intro r1 (And.intro r2 (And.intro r3 r4))); clear r1 r2 r3 r4)
        go_roundg (m.code.length - (j + 1))
        case measure => omega
        case rel =>
          obtain ⟨r1, r2, r3, r4⟩ := hR.out
          have hh := (hL2.later (bel1 wc (.cells #[.slice pa Pj.length pcap] 29))).addP (hpk.later goodI (bel1 wc _)) (by omega) hLob hLop (by simpa using r1) r2 r3 r4
          refine ⟨j + 1, n2, D2, pc ++ [.slice pa Pj.length pcap], by omega, by rw [HSN.out], ?_, by go_num, hn2, hI2, ?_⟩
          · rw [← HSN.out, HPl.out]; go_num
          · rw [← HSN.out, List.range_succ, List.map_append, List.map_cons, List.map_nil, ← HPj.out]
            exact hh


    · obtain rfl : j = m.code.length := by omega
      clear hlt hj
      have HIn : Hid (Maps.size D = s.pieces) := by show _ = _; rw [HS.out]; exact hI.size
      have hbr : Below w.heap.size w wr := ⟨hL.os.trans hbZ.os, hL.tape.trans hbZ.tape, hL.output.trans hbZ.output, by omega, fun b hb => (hL.fix b (by omega)).trans (hbZ.block b hb)⟩
      have hR5 := hrb.same (wr := wr) (fun b hb => hL.fix b (by omega)) (by omega)
      have HFM : Hid (fastM X (qc : Int) m sites = if s.pieces = 0 then (noFast, false) else (⟨(qc : Int), m.name, X.epoch, s.temps, outR X.classes sites m s.begins m.code.length⟩, true)) := by
        show _ = _
        have := fast_out hX (sites := sites) hSm
        unfold fastM
        simp only
        rw [this, HS.out]
      by_cases hp : s.pieces = 0
      · have hsz0 : (((Maps.size D : Nat) : Int) == 0) = true := by rw [HIn.out, hp]; rfl
        obtain ⟨k0, k1, k2, q0, q1, q2, q3, q4, qf, hzz⟩ := id hR5
        have HQ : Hid (MtPost w (fastM X (qc : Int) m sites) (.returned (.tuple #[FsV noFast (.slice none 0 0), .bool false])) (set5 wr (w.heap.size + 1) (.int .i64 0) (.string ⟨#[]⟩) (.int .i64 0) (.int .i64 0) (.slice none 0 0))) := by
          show MtPost _ _ _ _
          rw [HFM.out, if_pos hp]
          exact mt_none hbr
        have hsz1 : Maps.size D = 0 := by rw [HIn.out]; exact hp
        go_wp2_with (at_len; refine wpList_len_own _ rfl _ 87 rfl 3 4 Try.underlying87 _ (w.heap.size + 3) n D rfl hL.map ?_)
        refine bodyPost_ret (v := .tuple #[FsV noFast (.slice none 0 0), .bool false]) ?_ rfl HQ.out
        simp [results, Try.results8, go_sem, q0, q1, q2, q3, q4, noFast]
      · have hsz0 : (((Maps.size D : Nat) : Int) == 0) = false := by rw [HIn.out]; simpa using hp
        have hsz1 : ¬ Maps.size D = 0 := by rw [HIn.out]; exact hp
        have HFN := hid (HFM.out.trans (if_neg hp))
        clear HFM hp
        have m0 : wr.cell? ⟨w.heap.size + 2, 0, none⟩ = some (.string m.name) := by rw [cell_of_row _ _ _ _ _ _ ((hL.fix (w.heap.size + 2) (by omega)).trans hmb)]; rfl
        have k2 := hR5.w2
        go_upto_region 30 with (at_len; refine wpList_len_own _ rfl _ 87 rfl 3 4 Try.underlying87 _ (w.heap.size + 3) n D rfl hL.map ?_)
        clear m0 k2
        have hO0 := ous_new (Zr := wr) (qc : Int) m.name X.epoch s.temps
        obtain ⟨Zr, hZr⟩ : ∃ Zr, Zr = wr := ⟨_, rfl⟩
        subst hZr
        generalize Zr.alloc (.cells #[.int .i64 (qc : Int), .string m.name, .int .i64 X.epoch, .int .i64 s.temps, .slice none 0 0] 31) = W3 at *
        have HNM : Hid (NmOk (outR X.classes sites m s.begins m.code.length)) := by
          show NmOk _
          rw [HS.out, ← fast_out hX (sites := sites) hSm]
          exact led_nm (build_nm hC (sites := sites) (nm_of hC hm) m.code.length) _
        have HLN : Hid ((outR X.classes sites m s.begins m.code.length).length ≤ 240) := by
          show _ ≤ _
          have h1 := fast_out hX (sites := sites) hSm
          have h2 := congrArg List.length h1
          rw [ledE_len] at h2
          rw [HS.out, ← h2]
          have := build_small hX (sites := sites) hSm (k := m.code.length) (Nat.le_refl _)
          omega
        have hpcl : pc.length = m.code.length := by have := hL.op.1; simpa using this
        have hNZ := hL.map
        clear hsz0 hsz1
        go_wp2
        go_loopg [202] m.code.length (fun g iv wr => ∃ (i : Nat) (a : Option Addr) (cap : Nat), i + g = m.code.length ∧ iv = .int .i64 (i : Int) ∧ OuS Zr Zr.heap.size (qc : Int) m.name X.epoch s.temps (outR X.classes sites m s.begins i) a cap wr)
        case atStart => exact ⟨0, none, 0, by omega, rfl, hO0⟩
        case round =>
          clear hO0
          obtain ⟨i, a, cap, hi, rfl, hO⟩ := hrel
          by_cases hlt : i < m.code.length
          · have hLi := hL.later hO.bel
            obtain ⟨kv, hkv⟩ : ∃ kv, pc[i]? = some kv := ⟨_, List.getElem?_eq_getElem (by omega)⟩
            have hpk := hLi.pcs i (pcK X.classes sites m i) kv (by simp [hlt]) hkv
            obtain ⟨bp, op, e, cpi⟩ := own_cell1 hLi.op hkv
            subst e
            obtain ⟨Pi, HPi⟩ : ∃ Pi, Hid (Pi = pcK X.classes sites m i) := ⟨_, rfl⟩
            rw [← HPi.out] at hpk
            obtain ⟨api, cpc, rfl, hpil, hpic, -, -⟩ := id hpk
            unfold maxLen at hpic
            have hi1 : (i : Int) < (m.code.length : Int) := by omega
            have hi0 : (0 : Int) ≤ (i : Int) := by omega
            have HLI := hid hi
            have HKV := hid hkv
            clear hkv hLi
            go_wp2
            clear cpi
            go_loopg [209] Pi.length (fun g2 iv wr2 => ∃ (i2 : Nat) (a : Option Addr) (cap : Nat), i2 + g2 = Pi.length ∧ iv = .int .i64 (i2 : Int) ∧ OuS Zr Zr.heap.size (qc : Int) m.name X.epoch s.temps (outR X.classes sites m s.begins i ++ (Pi.take i2).map (ledK X.classes sites m s.begins i)) a cap wr2)
            case atStart => exact ⟨0, a, cap, by omega, rfl, by simpa using hO⟩
            case round =>
              obtain ⟨i2, a2, cap2, hi2, rfl, hO2⟩ := hrel
              by_cases hlt2 : i2 < Pi.length
              · obtain ⟨y, hy⟩ : ∃ y, Pi[i2]? = some y := ⟨_, List.getElem?_eq_getElem hlt2⟩
                have hLi := hL.later hO2.bel
                have hpk2 := hLi.pcs i (pcK X.classes sites m i) _ (by simp [hlt]) HKV.out
                rw [← HPi.out] at hpk2
                obtain ⟨ad2, cp2, e2, -, -, -, hrow⟩ := hpk2
                cases e2
                obtain ⟨b, o, rfl, -, y0, y1, y2, y3, y4, -⟩ := hrow i2 y hy
                simp only [Nat.add_zero] at y0
                have HJ : Hid (jmp y → ((whoAt X.classes sites m i).isSome = true → 0 ≤ y.a ∧ y.a ≤ 240) ∧ ((whoAt X.classes sites m i).isSome = false → 0 ≤ y.a ∧ y.a < m.code.length)) := fun hj => pc_jump hX hSm hlt (by rw [← HPi.out]; exact List.mem_of_getElem? hy) hj
                have HBI := hid (begins_at (xs := X.classes) (sites := sites) (m := m) (Nat.le_refl _) i hlt)
                rw [← HS.out] at HBI
                obtain ⟨bi, HBIE⟩ : ∃ bi : Int, Hid (bi = ((buildB X.classes sites m i).code.length : Int)) := ⟨_, rfl⟩
                have hsi := build_small hX (sites := sites) hSm (k := i) (by omega)
                have hsi1 := build_small hX (sites := sites) hSm (k := i + 1) (by omega)
                have hbi : 0 ≤ bi ∧ bi ≤ 240 := by have := HBIE.out; omega
                have HCL : Hid ((outR X.classes sites m s.begins i ++ (Pi.take i2).map (ledK X.classes sites m s.begins i)).length ≤ 239) := by
                  show _ ≤ _
                  have h1 := pc_len (xs := X.classes) (sites := sites) (m := m) (k := i) hlt
                  rw [List.length_append, out_len s.begins (by omega), List.length_map, List.length_take]
                  rw [← HPi.out] at h1
                  omega
                rw [← HBIE.out] at HBI
                obtain ⟨bb, ob, e3, bbc0⟩ := own_cell1 hLi.ob (i := i) (u := .int .i64 bi) (by rw [List.getElem?_map, HBI.out]; rfl)
                cases e3
                obtain ⟨z, HZ⟩ : ∃ z, Hid (z = ledK X.classes sites m s.begins i y) := ⟨_, rfl⟩
                have HTK : Hid (outR X.classes sites m s.begins i ++ (Pi.take (i2 + 1)).map (ledK X.classes sites m s.begins i) = (outR X.classes sites m s.begins i ++ (Pi.take i2).map (ledK X.classes sites m s.begins i)) ++ [z]) := by show _ = _; rw [List.take_add_one, hy, List.map_append, ← List.append_assoc, HZ.out]; rfl
                have HWFI : Hid ((Lit.int .i64 (i : Int)).wf = true) := by
                  have h := wrap64_wf (i : Int)
                  rw [show wrap64 (i : Int) = (i : Int) by unfold wrap64; omega] at h
                  exact h
                obtain ⟨cd, HCD⟩ : ∃ cd, Hid (cd = (outR X.classes sites m s.begins i ++ (Pi.take i2).map (ledK X.classes sites m s.begins i))) := ⟨_, rfl⟩
                rw [← HCD.out] at hO2 HTK HCL
                obtain ⟨yop, ya, yb, yc, yn⟩ := y
                dsimp only at y0 y1 y2 y3 y4
                have hi21 : (i2 : Int) < (Pi.length : Int) := by omega
                have hi20 : (0 : Int) ≤ (i2 : Int) := by omega
                have hLx := hLi.later (bel1 wr (.cells #[.int .i64 yop, .int .i64 ya, .int .i64 yb, .int .i64 yc, .string yn] 54))
                have bbc := cell_later (bel1 wr (.cells #[.int .i64 yop, .int .i64 ya, .int .i64 yb, .int .i64 yc, .string yn] 54)) bbc0
                have xb : ∀ (o : Nat), (wr.alloc (.cells #[.int .i64 yop, .int .i64 ya, .int .i64 yb, .int .i64 yc, .string yn] 54)).cell? ⟨wr.heap.size, o, none⟩ = (#[.int .i64 yop, .int .i64 ya, .int .i64 yb, .int .i64 yc, .string yn] : Array Value)[o]? := fun o => cell_new wr _ _ _ rfl o
                have xb00 := xb 0
                have xb1 : (wr.alloc (.cells #[.int .i64 yop, .int .i64 ya, .int .i64 yb, .int .i64 yc, .string yn] 54)).cell? ⟨wr.heap.size, 1, none⟩ = some (.int .i64 ya) := xb 1
                have xbf : ∀ o, (wr.alloc (.cells #[.int .i64 yop, .int .i64 ya, .int .i64 yb, .int .i64 yc, .string yn] 54)).frozen? ⟨wr.heap.size, o, none⟩ = false := row_free (heap_alloc_new wr _)
                have HO := hid hO
                clear hrow hy hpk bbc0 hLi xb hO
                have xb0 : (wr.alloc (.cells #[.int .i64 yop, .int .i64 ya, .int .i64 yb, .int .i64 yc, .string yn] 54)).cell? ⟨wr.heap.size, 0, none⟩ = some (.int .i64 yop) := xb00
                obtain ⟨jb, HJB⟩ : ∃ jb, Hid (jb = decide (yop = 15 ∨ yop = 16)) := ⟨_, rfl⟩
                go_upto_region 36 with (fail)
                clear y0 y1 y2 y3 y4
                go_cut [220] (fun jv wx => jv = .bool jb ∧ wx = (wr.alloc (.cells #[.int .i64 yop, .int .i64 ya, .int .i64 yb, .int .i64 yc, .string yn] 54)))
                case first =>
                  by_cases h15 : yop = 15
                  · have hb15 : (yop == 15) = true := by simpa using h15
                    have HE : Hid (jb = true) := by show _ = _; rw [HJB.out]; simp [h15]
                    clear h15
                    go_wp2_with fail
                    go_meet
                    case rel => exact ⟨by rw [HE.out], rfl⟩
                  · have hb15 : (yop == 15) = false := by simpa using h15
                    have HE : Hid (jb = (yop == 16)) := by show _ = _; rw [HJB.out]; by_cases h16 : yop = 16 <;> simp [h15, h16]
                    clear h15
                    go_wp2_with fail
                    go_meet
                    case rel => exact ⟨by rw [HE.out], rfl⟩
                case rest =>
                obtain ⟨rfl, rfl⟩ := hcut
                go_upto_if 220 with (fail)
                go_cut [] (fun wx => ZbR wr z wx)
                case first =>
                  by_cases hjp : yop = 15 ∨ yop = 16
                  · replace HJ : Hid (((whoAt X.classes sites m i).isSome = true → 0 ≤ ya ∧ ya ≤ 240) ∧ ((whoAt X.classes sites m i).isSome = false → 0 ≤ ya ∧ ya < m.code.length)) := HJ.out hjp
                    obtain rfl : jb = true := by rw [HJB.out]; simpa using hjp
                    by_cases hin : (whoAt X.classes sites m i).isSome = true
                    · have hc : D.atKey (.int .i64 (i : Int)) (.lit (.bool false)) = .lit (.bool true) := by rw [hI.val i, hin]; simp [hlt]
                      have HZZ : Hid (z = ⟨yop, ya + bi, yb, yc, yn⟩) := by show _ = _; rw [HZ.out]; unfold ledK shiftJ; rw [if_pos hin, if_pos hjp, HBIE.out]
                      have hwz : IntKind.i64.wrap (ya + bi) = ya + bi := by have := HJ.out.1 hin; exact wrap_of (by omega) (by omega)
                      clear hjp
                      go_upto_region 38 with (at_lookup; refine wpList_lookup_bool rfl _ _ rfl (w.heap.size + 3) n D rfl (hLx.map) _ (.int .i64 (i : Int)) rfl (keyOf_int_mk Try.underlying3 HWFI.out) true hc ?_)
                      have hS0 : (wr.alloc (.cells #[.int .i64 yop, .int .i64 ya, .int .i64 yb, .int .i64 yc, .string yn] 54)).drew.cell? ⟨wr.heap.size, 1, none⟩ = some (.int .i64 ya) ∧ (wr.alloc (.cells #[.int .i64 yop, .int .i64 ya, .int .i64 yb, .int .i64 yc, .string yn] 54)).drew.cell? ⟨bb, ob + i, none⟩ = some (.int .i64 bi) := ⟨cell_later (Below.refl _ _).drew xb1, cell_later (Below.refl _ _).drew bbc⟩
                      have xbf' : ∀ o, (wr.alloc (.cells #[.int .i64 yop, .int .i64 ya, .int .i64 yb, .int .i64 yc, .string yn] 54)).drew.frozen? ⟨wr.heap.size, o, none⟩ = false := xbf
                      refine wp_region_late (S := fun w' => w'.cell? ⟨wr.heap.size, 1, none⟩ = some (.int .i64 ya) ∧ w'.cell? ⟨bb, ob + i, none⟩ = some (.int .i64 bi)) [8] (by kernel_rfl) ?_
                      refine wpAnyM_take (i := 0) (oi := { dst := some 224, op := Op.fieldAddr 54 (Operand.tmp 27) 1, type := 0, pos := "ref.go:261", after := #[], guard := none }) (v := .pointer (some ⟨wr.heap.size, 1, none⟩)) (by kernel_rfl) (by kernel_rfl) rfl (by kernel_rfl) (by kernel_rfl) (by kernel_rfl) (fun _ _ _ h => h) (Or.inl ⟨by rfl, ?_⟩) (hS0) ?_
                      · intro w hSw
                        obtain ⟨q0, q1⟩ := hSw
                        go_simp
                      try simp only [Act.put, List.setIfInBounds_toArray, List.set_cons_zero, List.set_cons_succ]
                      refine wpAnyM_take (i := 1) (oi := { dst := some 225, op := Op.load 3 (Operand.tmp 224), type := 3, pos := "ref.go:261", after := #[{ on := 0, ground := Ground.data }], guard := none }) (v := .int .i64 ya) (by kernel_rfl) (by kernel_rfl) rfl (by kernel_rfl) (by kernel_rfl) (by kernel_rfl) (fun _ _ _ h => h) (Or.inl ⟨by rfl, ?_⟩) (hS0) ?_
                      · intro w hSw
                        obtain ⟨q0, q1⟩ := hSw
                        go_simp
                      try simp only [Act.put, List.setIfInBounds_toArray, List.set_cons_zero, List.set_cons_succ]
                      refine wpAnyM_take (i := 2) (oi := { dst := some 226, op := Op.move (Operand.tmp 14), type := 26, pos := "ref.go:261", after := #[], guard := none }) (v := .slice (some ⟨bb, ob, none⟩) m.code.length bcp) (by kernel_rfl) (by kernel_rfl) rfl (by kernel_rfl) (by kernel_rfl) (by kernel_rfl) (fun _ _ _ h => h) (Or.inl ⟨by rfl, ?_⟩) (hS0) ?_
                      · intro w hSw
                        obtain ⟨q0, q1⟩ := hSw
                        go_simp
                      try simp only [Act.put, List.setIfInBounds_toArray, List.set_cons_zero, List.set_cons_succ]
                      refine wpAnyM_take (i := 3) (oi := { dst := some 227, op := Op.move (Operand.tmp 24), type := 3, pos := "ref.go:261", after := #[], guard := none }) (v := .int .i64 (i : Int)) (by kernel_rfl) (by kernel_rfl) rfl (by kernel_rfl) (by kernel_rfl) (by kernel_rfl) (fun _ _ _ h => h) (Or.inl ⟨by rfl, ?_⟩) (hS0) ?_
                      · intro w hSw
                        obtain ⟨q0, q1⟩ := hSw
                        go_simp
                      try simp only [Act.put, List.setIfInBounds_toArray, List.set_cons_zero, List.set_cons_succ]
                      refine wpAnyM_take (i := 4) (oi := { dst := some 228, op := Op.indexAddr 26 (Operand.tmp 226) (Operand.tmp 227), type := 0, pos := "ref.go:261", after := #[{ on := 2, ground := Ground.data }, { on := 3, ground := Ground.data }], guard := none }) (v := .pointer (some ⟨bb, ob + i, none⟩)) (by kernel_rfl) (by kernel_rfl) rfl (by kernel_rfl) (by kernel_rfl) (by kernel_rfl) (fun _ _ _ h => h) (Or.inl ⟨by rfl, ?_⟩) (hS0) ?_
                      · intro w hSw
                        obtain ⟨q0, q1⟩ := hSw
                        go_simp
                      try simp only [Act.put, List.setIfInBounds_toArray, List.set_cons_zero, List.set_cons_succ]
                      refine wpAnyM_take (i := 5) (oi := { dst := some 229, op := Op.load 3 (Operand.tmp 228), type := 3, pos := "ref.go:261", after := #[{ on := 4, ground := Ground.data }], guard := none }) (v := .int .i64 bi) (by kernel_rfl) (by kernel_rfl) rfl (by kernel_rfl) (by kernel_rfl) (by kernel_rfl) (fun _ _ _ h => h) (Or.inl ⟨by rfl, ?_⟩) (hS0) ?_
                      · intro w hSw
                        obtain ⟨q0, q1⟩ := hSw
                        go_simp
                      try simp only [Act.put, List.setIfInBounds_toArray, List.set_cons_zero, List.set_cons_succ]
                      refine wpAnyM_take (i := 6) (oi := { dst := some 230, op := Op.binOp BinOp.add 3 (Operand.tmp 225) (Operand.tmp 229) 3, type := 3, pos := "ref.go:261", after := #[{ on := 1, ground := Ground.data }, { on := 5, ground := Ground.data }], guard := none }) (v := .int .i64 (ya + bi)) (by kernel_rfl) (by kernel_rfl) rfl (by kernel_rfl) (by kernel_rfl) (by kernel_rfl) (fun _ _ _ h => h) (Or.inl ⟨by rfl, ?_⟩) (hS0) ?_
                      · intro w hSw
                        obtain ⟨q0, q1⟩ := hSw
                        go_simp
                      try simp only [Act.put, List.setIfInBounds_toArray, List.set_cons_zero, List.set_cons_succ]
                      refine wpAnyM_take (i := 7) (oi := { dst := some 231, op := Op.fieldAddr 54 (Operand.tmp 27) 1, type := 0, pos := "ref.go:261", after := #[{ on := 0, ground := Ground.phase }, { on := 1, ground := Ground.phase }, { on := 2, ground := Ground.phase }, { on := 3, ground := Ground.phase }, { on := 4, ground := Ground.phase }, { on := 5, ground := Ground.phase }, { on := 6, ground := Ground.phase }], guard := none }) (v := .pointer (some ⟨wr.heap.size, 1, none⟩)) (by kernel_rfl) (by kernel_rfl) rfl (by kernel_rfl) (by kernel_rfl) (by kernel_rfl) (fun _ _ _ h => h) (Or.inl ⟨by rfl, ?_⟩) (hS0) ?_
                      · intro w hSw
                        obtain ⟨q0, q1⟩ := hSw
                        go_simp
                      try simp only [Act.put, List.setIfInBounds_toArray, List.set_cons_zero, List.set_cons_succ]
                      refine wpAnyM_ready (rs := [8]) (by kernel_rfl) (by simp) ?_
                      intro i hi
                      simp only [List.mem_cons, List.not_mem_nil, or_false] at hi
                      subst hi
                      refine stepM (o := { dst := none, op := Op.store 3 (Operand.tmp 231) (Operand.tmp 230), type := 0, pos := "ref.go:261", after := #[{ on := 7, ground := Ground.data }, { on := 6, ground := Ground.data }, { on := 0, ground := Ground.phase }, { on := 1, ground := Ground.phase }, { on := 2, ground := Ground.phase }, { on := 3, ground := Ground.phase }, { on := 4, ground := Ground.phase }, { on := 5, ground := Ground.phase }, { on := 6, ground := Ground.phase }], guard := none }) rfl (fun K' hK => ?_)
                      obtain ⟨q0, q1⟩ := hS0
                      go_simp
                      refine hK _ _ (fun h => absurd h (by decide)) ?_
                      clear hK K'
                      try simp only [Act.put, List.setIfInBounds_toArray, List.set_cons_zero, List.set_cons_succ]
                      refine wpAnyM_done (by kernel_rfl) ?_ _
                      try simp only [Act.put, List.setIfInBounds_toArray, List.set_cons_zero, List.set_cons_succ]

                      have HZF : Hid (ZbR wr z ((wr.alloc (.cells #[.int .i64 yop, .int .i64 (ya + bi), .int .i64 yb, .int .i64 yc, .string yn] 54)).drew)) := by
                        show ZbR _ _ _
                        rw [HZZ.out]; exact zb_drew wr ⟨yop, ya + bi, yb, yc, yn⟩
                      go_wp2_with fail
                      go_meet
                      case rel => exact HZF.out
                    · have hin' : (whoAt X.classes sites m i).isSome = false := by simpa using hin
                      have hc : D.atKey (.int .i64 (i : Int)) (.lit (.bool false)) = .lit (.bool false) := by rw [hI.val i, hin']; simp
                      have hya := HJ.out.2 hin'
                      obtain ⟨t, rfl⟩ : ∃ t : Nat, ya = (t : Int) := ⟨ya.toNat, by omega⟩
                      have ht : t < m.code.length := by omega
                      have HBT := hid (begins_at (xs := X.classes) (sites := sites) (m := m) (Nat.le_refl _) t ht)
                      rw [← HS.out] at HBT
                      obtain ⟨bt, HBTE⟩ : ∃ bt : Int, Hid (bt = ((buildB X.classes sites m t).code.length : Int)) := ⟨_, rfl⟩
                      rw [← HBTE.out] at HBT
                      obtain ⟨bb', ob', e3, bbt⟩ := own_cell1 hLx.ob (i := t) (u := .int .i64 bt) (by rw [List.getElem?_map, HBT.out]; rfl)
                      cases e3
                      have HZZ : Hid (z = ⟨yop, bt, yb, yc, yn⟩) := by show _ = _; rw [HZ.out]; unfold ledK leadJ; rw [if_neg hin, if_pos hjp, List.getD_eq_getElem?_getD]; simp only [Int.toNat_natCast]; rw [HBT.out]; rfl
                      have ht1 : (t : Int) < (m.code.length : Int) := by omega
                      have ht0 : (0 : Int) ≤ (t : Int) := by omega
                      clear hjp
                      go_wp2_with (at_lookup; refine wpList_lookup_bool rfl _ _ rfl (w.heap.size + 3) n D rfl (hLx.map) _ (.int .i64 (i : Int)) rfl (keyOf_int_mk Try.underlying3 HWFI.out) false hc ?_)
                      go_meet
                      case rel => 
                        rw [HZZ.out]
                        exact zb_new wr ⟨yop, bt, yb, yc, yn⟩

                  · obtain rfl : jb = false := by rw [HJB.out]; simpa using hjp
                    have HZZ : Hid (z = ⟨yop, ya, yb, yc, yn⟩) := by
                      show _ = _
                      rw [HZ.out]
                      unfold ledK
                      split
                      · exact shift_no hjp
                      · unfold leadJ; exact if_neg hjp
                    clear hjp
                    go_wp2_with fail
                    go_meet
                    case rel =>
                      rw [HZZ.out]
                      exact zb_new wr ⟨yop, ya, yb, yc, yn⟩
                case rest =>
                  obtain ⟨hzb, hbz, hsz⟩ := hcut
                  have hO3 := hO2.later hbz
                  have zc : ∀ (o : Nat), wc.cell? ⟨wr.heap.size, o, none⟩ = (#[.int .i64 z.op, .int .i64 z.a, .int .i64 z.b, .int .i64 z.c, .string z.name] : Array Value)[o]? := fun o => by rw [cell_of_row _ _ _ _ _ _ hzb]
                  have zc0 : wc.cell? ⟨wr.heap.size, 0, none⟩ = some (.int .i64 z.op) := zc 0
                  have zc1 : wc.cell? ⟨wr.heap.size, 1, none⟩ = some (.int .i64 z.a) := zc 1
                  have zc2 : wc.cell? ⟨wr.heap.size, 2, none⟩ = some (.int .i64 z.b) := zc 2
                  have zc3 : wc.cell? ⟨wr.heap.size, 3, none⟩ = some (.int .i64 z.c) := zc 3
                  have zc4 : wc.cell? ⟨wr.heap.size, 4, none⟩ = some (.string z.name) := zc 4
                  obtain ⟨-, -, -, -, o4⟩ := hO3.cell
                  have hsz3 := hO3.sz
                  have hcl := HCL.out
                  clear zc hLx bbc xb1 xbf
                  go_wp2_with (at_builtin; refine wpList_append_at rfl (.tmp 239) (.tmp 241) 29 54 _ 5 48 rfl Try.underlying29 info54 rfl (by omega) (Zr.heap.size + 1) cd.length (.slice a2 cd.length cap2) (icells cd) rfl (hO3.own.alloc _) wc.heap.size rfl [.int .i64 z.op, .int .i64 z.a, .int .i64 z.b, .int .i64 z.c, .string z.name] rfl (heap_alloc_new _ _) (by intro u hu; simp only [List.mem_cons, List.not_mem_nil, or_false] at hu; rcases hu with h | h | h | h | h <;> (subst h; rfl)) (by unfold maxLen; omega) (by omega) (Nat.le_trans hsz3 (by simp)) ?_; intro a3 cap3 w3 r1 r2 r3 r4; have hN := hid ((hO3.later (bel1 wc (.cells #[.int .i64 z.op, .int .i64 z.a, .int .i64 z.b, .int .i64 z.c, .string z.name] 54))).add (OwnI.more (ys := [z]) r1 rfl rfl) r3); have hB := (hO3.later (bel1 wc (.cells #[.int .i64 z.op, .int .i64 z.a, .int .i64 z.b, .int .i64 z.c, .string z.name] 54))).box; have hB3 := (r3.block Zr.heap.size (by omega)).trans hB; have d4 : w3.cell? ⟨Zr.heap.size, 4, none⟩ = some (.slice a2 cd.length cap2) := (by first | (rw [cell_of_row _ _ _ _ _ _ hB3]; done) | (rw [cell_of_row _ _ _ _ _ _ hB3]; rfl)); have df : ∀ o, w3.frozen? ⟨Zr.heap.size, o, none⟩ = false := row_free hB3; clear r1 r2 r3 r4 hB hB3)
                  go_roundg (Pi.length - (i2 + 1))
                  case measure => omega
                  case rel =>
                    have hN' := hN.out
                    simp only [List.length_append, List.length_cons, List.length_nil, Nat.zero_add] at hN'
                    refine ⟨i2 + 1, a3, cap3, by omega, by go_num, ?_⟩
                    rw [HTK.out]
                    exact hN'
              · obtain rfl : i2 = Pi.length := by omega
                have HE : Hid (outR X.classes sites m s.begins i ++ (Pi.take Pi.length).map (ledK X.classes sites m s.begins i) = outR X.classes sites m s.begins (i + 1)) := by show _ = _; rw [List.take_length, HPi.out, out_succ hlt]
                rw [HE.out] at hO2
                go_wp2
                go_roundg (m.code.length - (i + 1))
                case measure => have := HLI.out; omega
                case rel => exact ⟨i + 1, _, _, by omega, by go_num, hO2⟩
          · obtain rfl : i = m.code.length := by omega
            obtain ⟨o0, o1, o2, o3, o4⟩ := hO.cell
            obtain ⟨k0, k1, k2, q0, q1, q2, q3, q4, qf, hzz⟩ := hR5.later hO.bel
            have HQ : Hid (MtPost w (fastM X (qc : Int) m sites) (.returned (.tuple #[FsV ⟨(qc : Int), m.name, X.epoch, s.temps, outR X.classes sites m s.begins m.code.length⟩ (.slice a (outR X.classes sites m s.begins m.code.length).length cap), .bool true])) (set5 wr (w.heap.size + 1) (.int .i64 (qc : Int)) (.string m.name) (.int .i64 X.epoch) (.int .i64 s.temps) (.slice a (outR X.classes sites m s.begins m.code.length).length cap))) := by
              show MtPost _ _ _ _
              rw [HFN.out]
              refine mt_fin (r := (⟨(qc : Int), m.name, X.epoch, s.temps, outR X.classes sites m s.begins m.code.length⟩, true)) (nstep hbr hO.bel) ?_
              exact ic_row hO.own HNM.out (fun b h1 h2 => ⟨by omega, h2⟩) (Nat.le_trans HLN.out (by omega))
            go_wp2
            refine bodyPost_ret (v := .tuple #[FsV ⟨(qc : Int), m.name, X.epoch, s.temps, outR X.classes sites m s.begins m.code.length⟩ (.slice a (outR X.classes sites m s.begins m.code.length).length cap), .bool true]) ?_ rfl HQ.out
            simp [results, Try.results8, go_sem, q0, q1, q2, q3, q4]
end Go.Proofs.Ythaefhojnjdheaa

/- Inline: Method, whatever the method. -/
namespace Go.Proofs.Ythaefhojnjdheaa
open Go.ChangeShapes Go.WideShapes Go.ChangeAt Go.RowKit
set_option linter.unusedSimpArgs false
set_option linter.unusedVariables false
set_option maxRecDepth 8000

def methodA (X : QW) (c k : Int) (sites : List Int) : Fst × Bool := match methAt X.classes c k with
  | none => (noFast, false)
  | some m => fastM X c m sites
theorem methodN_any {P Q : Nat → Prop} (X : QW) (c k : Int) (hm : methAt X.classes c k = none) (sites : List Int) (cv hv sv : Value) (w : World) (hC : IsClasses P w cv X.classes) (hH : IsHeap P w hv X.heap) (hS : IsInts Q w sv sites) :
    Calls Try.prog 7 #[WV cv hv X.epoch, .int .i64 c, .int .i64 k, sv] w fun e w' => MtPost w (noFast, false) e w' := by
  obtain ⟨ac, cc, rfl, -, hcc, -, -⟩ := id hC
  obtain ⟨ah, ch, rfl, -⟩ := id hH
  have hbW := bel2 w (.cells #[.slice ac X.classes.length cc, .slice ah X.heap.length ch, .int .i64 X.epoch] 25) (.cells #[.int .i64 0, .string ⟨#[]⟩, .int .i64 0, .int .i64 0, .slice none 0 0] 31)
  go_enter Try.func7, Try.ntmps7
  go_wp2_with fail
  refine (ihas_any X c k _ _ _ (hC.later goodC hbW) (hH.later goodO hbW)).mono ?_
  rintro e w1 ⟨rfl, hb1⟩
  rw [show methQ X.classes c k = none from hm]
  dsimp only
  have hB1 := nstep hbW hb1
  have zz := rbx_new w (.slice ac X.classes.length cc) (.slice ah X.heap.length ch) X.epoch
  replace zz := zz.later hb1
  obtain ⟨k0, k1, k2, q0, q1, q2, q3, q4, qf, hzz⟩ := id zz
  have HQ := hid (mt_none (U := w1) hB1)
  go_wp2
  refine bodyPost_ret (v := .tuple #[FsV noFast (.slice none 0 0), .bool false]) ?_ rfl HQ.out
  simp [results, Try.results7, go_sem, q0, q1, q2, q3, q4, noFast]
theorem method_any {P Q : Nat → Prop} (X : QW) (hX : rightE X = 0) (c k : Int) (sites : List Int) (cv hv sv : Value) (w : World) (hC : IsClasses P w cv X.classes) (hH : IsHeap P w hv X.heap) (hS : IsInts Q w sv sites) :
    Calls Try.prog 7 #[WV cv hv X.epoch, .int .i64 c, .int .i64 k, sv] w fun e w' => MtPost w (methodA X c k sites) e w' := by
  unfold methodA
  cases hm : methAt X.classes c k with
  | none => exact methodN_any X c k hm sites cv hv sv w hC hH hS
  | some m => exact methodC_any X hX c k m hm sites cv hv sv w hC hH hS
end Go.Proofs.Ythaefhojnjdheaa

/- The closed fact of chapter 10. -/
namespace Go.Proofs.Ythaefhojnjdheaa
open Go.ChangeShapes Go.WideShapes Go.ChangeAt Go.RowKit
set_option linter.unusedSimpArgs false
set_option linter.unusedVariables false
set_option maxRecDepth 8000

theorem row_in {α : Type} {E : Lay α} {sz bytes : Nat} (G : Good E sz) (hE : ∀ {P : Nat → Prop} {w : World} {f : Nat → Option Value} {x : α}, E P w f x → E (In w) w f x) {P : Nat → Prop} {w : World} {v : Value} {xs : List α} (h : IsRow E sz bytes P w v xs) : IsRow E sz bytes (In w) w v xs := by
  obtain ⟨ad, cap, h1, h2, h3, h4, h5⟩ := h
  refine ⟨ad, cap, h1, h2, h3, h4, fun i x hx => ?_⟩
  obtain ⟨b, o, e1, -, e3⟩ := h5 i x hx
  obtain ⟨u, hu, -⟩ := G.there e3 0 G.pos
  exact ⟨b, o, e1, World.block_lt_of_cell? w _ hu, hE e3⟩
theorem meths_in {P : Nat → Prop} {w : World} {v : Value} {xs : List QM} (h : IsMeths P w v xs) : IsMeths (In w) w v xs :=
  row_in goodM (fun ⟨h0, h1, h2, h3, h4, v, h5, h6⟩ => ⟨h0, h1, h2, h3, h4, v, h5, (code_in h6).mono goodI fun _ h => h.2⟩) h
theorem classes_in {P : Nat → Prop} {w : World} {v : Value} {xs : List QC} (h : IsClasses P w v xs) : IsClasses (In w) w v xs :=
  row_in goodC (fun ⟨h0, h1, h2, h3, v, h5, h6⟩ => ⟨h0, h1, h2, h3, v, h5, meths_in h6⟩) h
theorem vals_in {P : Nat → Prop} {w : World} {v : Value} {xs : List QV} (h : IsVals P w v xs) : IsVals (In w) w v xs := row_in goodV (fun h => h) h
theorem heap_in {P : Nat → Prop} {w : World} {v : Value} {xs : List QO} (h : IsHeap P w v xs) : IsHeap (In w) w v xs :=
  row_in goodO (fun ⟨h0, v, h5, h6⟩ => ⟨h0, v, h5, vals_in h6⟩) h

def a9G : QM := ⟨⟨#[103]⟩, 0, 0, 0, [⟨4, 0, 0, 0, ⟨#[]⟩⟩, ⟨17, 0, 0, 0, ⟨#[]⟩⟩]⟩
def a9M : QM := ⟨⟨#[109]⟩, 0, 0, 0, [⟨1, 0, 0, 0, ⟨#[]⟩⟩, ⟨14, 0, 0, 0, ⟨#[103]⟩⟩, ⟨17, 0, 0, 0, ⟨#[]⟩⟩]⟩
def a9X (ms : List QM) (ep : Int) : QW := ⟨newC ++ [⟨⟨#[65]⟩, 0, 1, ms⟩], [], ep⟩
theorem a9_e1 : wrongE newX.classes ⟨#[65]⟩ 0 1 = 0 := by kernel_rfl
theorem slotsOk_all {xs : List QC} (h : xs.all (fun x => decide (0 ≤ x.slots) && decide (x.slots ≤ 6)) = true) : SlotsOk xs := fun i x hx => by
  have := List.all_eq_true.1 h x (List.mem_of_getElem? hx)
  simpa using this
theorem a9_o0 : SlotsOk newX.classes := slotsOk_all (by kernel_rfl)
theorem a9_i2 : instX (a9X [] 0) 4 ⟨⟨#[65]⟩, 0, 1, []⟩ a9G = a9X [a9G] 1 := by kernel_rfl
theorem a9_i3 : instX (a9X [a9G] 1) 4 ⟨⟨#[65]⟩, 0, 1, [a9G]⟩ a9M = a9X [a9G, a9M] 2 := by kernel_rfl
def risesB : List QM → Bool
  | [] => true
  | [_] => true
  | a :: b :: r => ltN a.name b.name && risesB (b :: r)
theorem risesB_is : ∀ {xs : List QM}, risesB xs = true → RisesM xs
  | [], _ => fun i x y hx _ => by simp at hx
  | [a], _ => fun i x y hx hy => by simp at hy
  | a :: b :: r, h => fun i x y hx hy => by
    unfold risesB at h
    simp only [Bool.and_eq_true] at h
    cases i with
    | zero => simp at hx hy; subst hx hy; exact h.1
    | succ i => exact risesB_is h.2 i x y (by simpa using hx) (by simpa using hy)
theorem risesC_all {xs : List QC} (h : xs.all (fun x => risesB x.methods) = true) : RisesC xs := fun i x hx => risesB_is (List.all_eq_true.1 h x (List.mem_of_getElem? hx))
theorem a9_r1 : RisesC (a9X [] 0).classes := risesC_all (by kernel_rfl)
theorem a9_r2 : RisesC (a9X [a9G] 1).classes := risesC_all (by kernel_rfl)

theorem rmake9 {P : Nat → Prop} (cv hv : Value) (w : World) (hh : IsClasses P w cv newX.classes) (hH : IsHeap P w hv []) : Calls Try.prog 32 #[WV cv hv 0, .string ⟨#[65]⟩, .int .i64 0, .int .i64 1] w fun e w' => ∃ a k, e = .returned (.tuple #[WV (.slice a 5 k) hv 0, .int .i64 4, .int .i64 0]) ∧ IsClasses (In w') w' (.slice a 5 k) (a9X [] 0).classes ∧ IsHeap (In w') w' hv [] ∧ Below w.heap.size w w' := by
  refine (rmake_any newX ⟨#[65]⟩ 0 1 cv hv w (by decide) hh hH a9_o0).mono ?_
  rintro e w' ⟨⟨h, -⟩ | ⟨h, cv', rfl, hC⟩, hb⟩
  · exact absurd a9_e1 h
  · obtain ⟨a, k, rfl⟩ := hC.get
    exact ⟨a, k, rfl, classes_in hC, heap_in (hH.later goodO hb), hb⟩
theorem rinst9 {P : Nat → Prop} (X Y : QW) (x : QC) (m : QM) (cv hv mv : Value) (w : World) (ep : Int) (hep : X.epoch = ep) (ep' : Int) (hep' : Y.epoch = ep') (hx : X.classes[4]? = some x) (hno : ¬ (numI x.methods m.name < 0 ∧ 8 ≤ x.methods.length)) (hY : instX X 4 x m = Y) (hl : Y.classes.length = 5) (hn : m.name.size ≤ 140737488351232) (hR : RisesC X.classes) (hXh : X.heap = [])
    (hh : IsClasses P w cv X.classes) (hH : IsHeap P w hv []) (hM : IsCode P w mv m.code) : Calls Try.prog 33 #[WV cv hv ep, .int .i64 4, MV m mv] w fun e w' => ∃ a k, e = .returned (.tuple #[WV (.slice a 5 k) hv ep', .int .i64 0]) ∧ IsClasses (fun b => P b ∨ w.heap.size ≤ b) w' (.slice a 5 k) Y.classes ∧ Below w.heap.size w w' := by
  subst hep hep'
  refine (rinstall_any X 4 m cv hv mv w hh (by rw [hXh]; exact hH) hM hn hR).mono ?_
  rintro e w' ⟨⟨h, -⟩ | ⟨k, x', hk, hx', h⟩, hb⟩
  · have := lt_of_get hx
    simp [hasB] at h
    omega
  · obtain rfl : k = 4 := by omega
    rw [hx] at hx'; cases hx'
    rcases h with ⟨h1, h2, -⟩ | ⟨-, cv', rfl, hC⟩
    · exact absurd ⟨h1, h2⟩ hno
    · rw [hY] at hC
      obtain ⟨a, k', rfl⟩ := hC.get
      rw [hl] at hC ⊢
      refine ⟨a, k', ?_, hC, hb⟩
      rw [← hY]; rfl
theorem row9 {α : Type} {E : Lay α} {sz bytes : Nat} (G : Good E sz) {P : Nat → Prop} (w : World) (cs : List Value) (t : TypeId) (xs : List α) (h : ∀ w', Cells E sz P w' cs xs) (hP : P w.heap.size) (hs : xs.length * bytes ≤ 140737488351232) (hm : xs.length ≤ maxLen) : IsRow E sz bytes P (w.alloc (.cells cs.toArray t)) (.slice (some ⟨w.heap.size, 0, none⟩) xs.length xs.length) xs :=
  Cells.row (h _) G hP (heap_alloc_new w _) (by rw [List.take_of_length_le (by simp [(h w).1])]) (Nat.le_refl _) hm hs
def a9Gc : List Value := [.int .i64 4, .int .i64 0, .int .i64 0, .int .i64 0, .string ⟨#[]⟩, .int .i64 17, .int .i64 0, .int .i64 0, .int .i64 0, .string ⟨#[]⟩]
def a9Mc : List Value := [.int .i64 1, .int .i64 0, .int .i64 0, .int .i64 0, .string ⟨#[]⟩, .int .i64 14, .int .i64 0, .int .i64 0, .int .i64 0, .string ⟨#[103]⟩, .int .i64 17, .int .i64 0, .int .i64 0, .int .i64 0, .string ⟨#[]⟩]
theorem one_instr {P : Nat → Prop} {w : World} (x : QI) (h : x.name.size ≤ 140737488351232) : Cells InstrC 5 P w [.int .i64 x.op, .int .i64 x.a, .int .i64 x.b, .int .i64 x.c, .string x.name] [x] :=
  Cells.one goodI rfl ⟨rfl, rfl, rfl, rfl, rfl, h⟩
theorem a9G_cells {P : Nat → Prop} (w : World) : Cells InstrC 5 P w a9Gc a9G.code :=
  (one_instr (w := w) ⟨4, 0, 0, 0, ⟨#[]⟩⟩ (by decide)).append goodI (one_instr ⟨17, 0, 0, 0, ⟨#[]⟩⟩ (by decide))
theorem a9M_cells {P : Nat → Prop} (w : World) : Cells InstrC 5 P w a9Mc a9M.code :=
  ((one_instr (w := w) ⟨1, 0, 0, 0, ⟨#[]⟩⟩ (by decide)).append goodI (one_instr ⟨14, 0, 0, 0, ⟨#[103]⟩⟩ (by decide))).append goodI (one_instr ⟨17, 0, 0, 0, ⟨#[]⟩⟩ (by decide))
theorem bxl {w w' : World} {B : Nat} {o : Obj} (h : w.heap[B]? = some o) (hb : Below w.heap.size w w') : w'.heap[B]? = some o := by rw [hb.block _ (blk_lt h)]; exact h
theorem box3 {w : World} {B : Nat} {x y z : Value} {t : TypeId} (h : w.heap[B]? = some (.cells #[x, y, z] t (0, 0))) : (w.cell? ⟨B, 0, none⟩ = some x ∧ w.cell? ⟨B, 1, none⟩ = some y ∧ w.cell? ⟨B, 2, none⟩ = some z) ∧ (∀ o, w.frozen? ⟨B, o, none⟩ = false) := by
  refine ⟨⟨?_, ?_, ?_⟩, fun o => by unfold World.frozen?; simp [h]⟩ <;> rw [cell_of_row _ _ _ _ _ _ h] <;> rfl
theorem box3_set {w : World} {B : Nat} {x y z u v r : Value} {t : TypeId} (h : w.heap[B]? = some (.cells #[x, y, z] t (0, 0))) : (((w.setCell ⟨B, 0, none⟩ u).setCell ⟨B, 1, none⟩ v).setCell ⟨B, 2, none⟩ r).heap[B]? = some (.cells #[u, v, r] t (0, 0)) := by
  rw [setCell_same (setCell_same (setCell_same h _) _) _]; rfl
/-- The world's box, and what is in it. -/
structure A9 (w : World) (B : Nat) (cv hv : Value) (X : QW) (w' : World) : Prop where
  box : w'.heap[B]? = some (.cells #[cv, hv, .int .i64 X.epoch] 25 (0, 0))
  C : IsClasses (fun b => b ≠ B) w' cv X.classes
  H : IsHeap (fun b => b ≠ B) w' hv []
  bel : Below w.heap.size w w'
theorem A9.later {w : World} {B : Nat} {cv hv : Value} {X : QW} {w' w'' : World} (h : A9 w B cv hv X w') (hb : Below w'.heap.size w' w'') : A9 w B cv hv X w'' :=
  ⟨bxl h.box hb, h.C.later goodC hb, h.H.later goodO hb, nstep h.bel hb⟩
theorem A9.set {w : World} {B : Nat} {cv hv cv' : Value} {X Y : QW} {w1 w' : World} (h : A9 w B cv hv X w1) (hb : Below w1.heap.size w1 w') (hC : IsClasses (fun b => b ≠ B ∨ w1.heap.size ≤ b) w' cv' Y.classes) (hB : w.heap.size ≤ B) : A9 w B cv' hv Y (((w'.setCell ⟨B, 0, none⟩ cv').setCell ⟨B, 1, none⟩ hv).setCell ⟨B, 2, none⟩ (.int .i64 Y.epoch)) := by
  have hk : Keeps (fun b => b ≠ B) w' (((w'.setCell ⟨B, 0, none⟩ cv').setCell ⟨B, 1, none⟩ hv).setCell ⟨B, 2, none⟩ (.int .i64 Y.epoch)) :=
    keep_set (keep_set (keep_set (Keeps.refl _ _) (by simp) _) (by simp) _) (by simp) _
  have hlt := blk_lt h.box
  refine ⟨box3_set (bxl h.box hb), (hC.mono (Q := fun b => b ≠ B) goodC fun b hb => ?_).keep goodC hk fun _ h => h, (h.H.later goodO hb).keep goodO hk fun _ h => h, below_set3 (nstep h.bel hb) hB _ _ _⟩
  rcases hb with h | h
  · exact h
  · omega


abbrev a9Z : QW := a9X [a9G, a9M] 2
theorem a9_right : rightE a9Z = 0 := by kernel_rfl
theorem a9_m : methAt a9Z.classes 4 1 = some a9M := by kernel_rfl
def a9F : Fst := ⟨4, ⟨#[109]⟩, 2, 1, (fastM a9Z 4 a9M [-1, 4, -1]).1.code⟩
theorem a9_f1 : fastM a9Z 4 a9M [-1, 4, -1] = (a9F, true) := by kernel_rfl
theorem a9_f2 : fastM a9Z 4 a9M [] = (noFast, false) := by kernel_rfl
theorem a9_f3 : a9F.code.length = 7 := by kernel_rfl
theorem a9_f4 : a9F.code[1]? = some (ins 18 4 0 1) := by kernel_rfl
theorem meth10a {P Q : Nat → Prop} (cv hv sv : Value) (w : World) (hC : IsClasses P w cv a9Z.classes) (hH : IsHeap P w hv []) (hS : IsInts Q w sv [-1, 4, -1]) :
    Calls Try.prog 7 #[WV cv hv 2, .int .i64 4, .int .i64 1, sv] w fun e w' => ∃ g o cap, e = .returned (.tuple #[.agg #[.int .i64 4, .string ⟨#[109]⟩, .int .i64 2, .int .i64 1, .slice (some ⟨g, o, none⟩) 7 cap], .bool true]) ∧ 7 ≤ cap ∧ cap ≤ 9223372036854775807 ∧ w'.cell? ⟨g, o + 5, none⟩ = some (.int .i64 18) ∧ Below w.heap.size w w' := by
  have := methodC_any a9Z a9_right 4 1 a9M a9_m [-1, 4, -1] cv hv sv w hC hH hS
  rw [a9_f1] at this
  refine this.mono ?_
  rintro e w' ⟨a, cap, rfl, hI, hb⟩
  dsimp only at hI ⊢
  rw [a9_f3] at hI ⊢
  obtain ⟨a', cap', e', h1, h2, -, hrow⟩ := hI
  simp only [Value.slice.injEq] at e'
  obtain ⟨rfl, -, rfl⟩ := e'
  obtain ⟨g, o, rfl, -, y0, -⟩ := hrow 1 _ a9_f4
  rw [a9_f3] at h1
  unfold maxLen at h2
  exact ⟨g, o, cap, rfl, h1, by omega, by simpa using y0, hb⟩
theorem meth10b {P : Nat → Prop} (cv hv : Value) (w : World) (hC : IsClasses P w cv a9Z.classes) (hH : IsHeap P w hv []) :
    Calls Try.prog 7 #[WV cv hv 2, .int .i64 4, .int .i64 1, .slice none 0 0] w fun e w' => ∃ a cap, e = .returned (.tuple #[.agg #[.int .i64 0, .string ⟨#[]⟩, .int .i64 0, .int .i64 0, .slice a 0 cap], .bool false]) ∧ Below w.heap.size w w' := by
  have := methodC_any (Q := P) a9Z a9_right 4 1 a9M a9_m [] cv hv (.slice none 0 0) w hC hH row_none
  rw [a9_f2] at this
  refine this.mono ?_
  rintro e w' ⟨a, cap, rfl, -, hb⟩
  exact ⟨a, cap, rfl, hb⟩
theorem ints10 (w : World) : IsInts (fun _ => True) (w.alloc (.cells #[.int .i64 (-1), .int .i64 4, .int .i64 (-1)] 3)) (.slice (some ⟨w.heap.size, 0, none⟩) 3 3) [-1, 4, -1] := by
  have hg := heap_alloc_new w (.cells #[.int .i64 (-1), .int .i64 4, .int .i64 (-1)] 3)
  refine ⟨_, _, rfl, by decide, by decide, by decide, fun i x hx => ⟨w.heap.size, 0, rfl, trivial, ?_⟩⟩
  show (w.alloc _).cell? ⟨w.heap.size, 0 + i * 1 + 0, none⟩ = _
  rw [cell_of_row _ _ _ _ _ _ hg]
  match i, hx with
  | 0, hx => cases hx; rfl
  | 1, hx => cases hx; rfl
  | 2, hx => cases hx; rfl
  | i + 3, hx => simp at hx
set_option maxHeartbeats 4000000 in
theorem alive_any (w : World) : Calls Try.prog 10 #[] w fun e w' => e = .returned (.bool true) ∧ Below w.heap.size w w' := by
  go_enter Try.func10, Try.ntmps10
  go_wp2_with fail
  refine (rnew_any _).mono ?_
  rintro e w1 ⟨cv, hv, rfl, hC, hH, hB⟩
  obtain ⟨x1, y1, rfl⟩ := hC.get
  obtain ⟨x2, y2, rfl⟩ := hH.get
  go_wp2_with fail
  refine (rmake9 _ _ _ hC hH).mono ?_
  rintro e w2 ⟨a1, k1, rfl, hC1, hH1, hb⟩
  replace hB := nstep hB hb
  clear hb hC hH
  have hA0 : A9 w w2.heap.size (.slice a1 5 k1) (.slice x2 0 y2) (a9X [] 0) (w2.alloc (.cells #[.slice a1 5 k1, .slice x2 0 y2, .int .i64 0] 25)) :=
    ⟨heap_alloc_new _ _, (hC1.later goodC (bel1 _ _)).mono goodC fun b h => by have h' : b < w2.heap.size := h; omega, (hH1.later goodO (bel1 _ _)).mono goodO fun b h => by have h' : b < w2.heap.size := h; omega, nstep hB (bel1 _ _)⟩
  have hz : w.heap.size ≤ w2.heap.size := hB.size
  clear hB hC1 hH1
  go_upto_region 2 with (fail)
  generalize (w2.alloc (.cells #[.slice a1 5 k1, .slice x2 0 y2, .int .i64 0] 25)) = W3 at *
  generalize w2.heap.size = B at *
  obtain ⟨⟨q0, q1, q2⟩, qf⟩ := box3 hA0.box
  have hlt := blk_lt hA0.box
  have hG : IsCode (fun b => b ≠ B) (W3.alloc (.cells #[.int .i64 4, .int .i64 0, .int .i64 0, .int .i64 0, .string ⟨#[]⟩, .int .i64 17, .int .i64 0, .int .i64 0, .int .i64 0, .string ⟨#[]⟩] 54)) (.slice (some ⟨W3.heap.size, 0, none⟩) 2 2) a9G.code :=
    row9 goodI W3 a9Gc 54 a9G.code (fun w' => a9G_cells w') (by omega) (by decide) (by decide)
  have hb3 := bel1 W3 (.cells #[.int .i64 4, .int .i64 0, .int .i64 0, .int .i64 0, .string ⟨#[]⟩, .int .i64 17, .int .i64 0, .int .i64 0, .int .i64 0, .string ⟨#[]⟩] 54)
  replace hA0 := hA0.later hb3
  go_wp2_with fail
  clear q0 q1 q2 qf
  refine (rinst9 (a9X [] 0) (a9X [a9G] 1) ⟨⟨#[65]⟩, 0, 1, []⟩ a9G _ _ _ _ 0 rfl 1 rfl rfl (by simp) a9_i2 rfl (by decide) a9_r1 rfl hA0.C hA0.H hG).mono ?_
  rintro e w4 ⟨a2, k2, rfl, hC2, hb4⟩
  have hA1 : A9 w B (.slice a2 5 k2) (.slice x2 0 y2) (a9X [a9G] 1) (((w4.setCell ⟨B, 0, none⟩ (.slice a2 5 k2)).setCell ⟨B, 1, none⟩ (.slice x2 0 y2)).setCell ⟨B, 2, none⟩ (.int .i64 1)) := hA0.set (Y := a9X [a9G] 1) hb4 hC2 hz
  obtain ⟨⟨q0, q1, q2⟩, qf⟩ := box3 (bxl hA0.box hb4)
  clear hC2 hG hA0 hb4 hb3 hlt
  go_upto_region 3 with (fail)
  generalize (((w4.setCell ⟨B, 0, none⟩ (.slice a2 5 k2)).setCell ⟨B, 1, none⟩ (.slice x2 0 y2)).setCell ⟨B, 2, none⟩ (.int .i64 1)) = W5 at *
  clear q0 q1 q2 qf
  obtain ⟨⟨q0, q1, q2⟩, qf⟩ := box3 hA1.box
  have hlt := blk_lt hA1.box
  have hG : IsCode (fun b => b ≠ B) (W5.alloc (.cells #[.int .i64 1, .int .i64 0, .int .i64 0, .int .i64 0, .string ⟨#[]⟩, .int .i64 14, .int .i64 0, .int .i64 0, .int .i64 0, .string ⟨#[103]⟩, .int .i64 17, .int .i64 0, .int .i64 0, .int .i64 0, .string ⟨#[]⟩] 54)) (.slice (some ⟨W5.heap.size, 0, none⟩) 3 3) a9M.code :=
    row9 goodI W5 a9Mc 54 a9M.code (fun w' => a9M_cells w') (by omega) (by decide) (by decide)
  have hb5 := bel1 W5 (.cells #[.int .i64 1, .int .i64 0, .int .i64 0, .int .i64 0, .string ⟨#[]⟩, .int .i64 14, .int .i64 0, .int .i64 0, .int .i64 0, .string ⟨#[103]⟩, .int .i64 17, .int .i64 0, .int .i64 0, .int .i64 0, .string ⟨#[]⟩] 54)
  replace hA1 := hA1.later hb5
  go_wp2_with fail
  clear q0 q1 q2 qf
  refine (rinst9 (a9X [a9G] 1) (a9X [a9G, a9M] 2) ⟨⟨#[65]⟩, 0, 1, [a9G]⟩ a9M _ _ _ _ 1 rfl 2 rfl rfl (by simp) a9_i3 rfl (by decide) a9_r2 rfl hA1.C hA1.H hG).mono ?_
  rintro e w6 ⟨a3, k3, rfl, hC3, hb6⟩
  have hA2 : A9 w B (.slice a3 5 k3) (.slice x2 0 y2) (a9X [a9G, a9M] 2) (((w6.setCell ⟨B, 0, none⟩ (.slice a3 5 k3)).setCell ⟨B, 1, none⟩ (.slice x2 0 y2)).setCell ⟨B, 2, none⟩ (.int .i64 2)) := hA1.set (Y := a9X [a9G, a9M] 2) hb6 hC3 hz
  obtain ⟨⟨q0, q1, q2⟩, qf⟩ := box3 (bxl hA1.box hb6)
  clear hC3 hG hA1 hb5 hb6 hlt
  go_upto_region 4 with (fail)
  generalize (((w6.setCell ⟨B, 0, none⟩ (.slice a3 5 k3)).setCell ⟨B, 1, none⟩ (.slice x2 0 y2)).setCell ⟨B, 2, none⟩ (.int .i64 2)) = W7 at *
  clear q0 q1 q2 qf
  have hI := ints10 W7
  have hb7 := bel1 W7 (.cells #[.int .i64 (-1), .int .i64 4, .int .i64 (-1)] 3)
  obtain ⟨⟨q0, q1, q2⟩, -⟩ := box3 hA2.box
  replace hA2 := hA2.later hb7
  go_wp2_with fail
  clear q0 q1 q2
  refine (meth10a _ _ _ _ hA2.C hA2.H hI).mono ?_
  rintro e w8 ⟨g, o, cap, rfl, hc7, hcm, y0, hb8⟩
  replace hA2 := hA2.later hb8
  clear hb8 hI hb7
  have hb9 := bel1 w8 (.cells #[.int .i64 4, .string ⟨#[109]⟩, .int .i64 2, .int .i64 1, .slice (some ⟨g, o, none⟩) 7 cap] 31)
  have hf := heap_alloc_new w8 (.cells #[.int .i64 4, .string ⟨#[109]⟩, .int .i64 2, .int .i64 1, .slice (some ⟨g, o, none⟩) 7 cap] 31)
  have hlt := World.block_lt_of_cell? w8 _ y0
  go_upto_region 5 with (fail)
  replace hA2 := hA2.later hb9
  replace y0 := cell_later hb9 y0
  generalize (w8.alloc (.cells #[.int .i64 4, .string ⟨#[109]⟩, .int .i64 2, .int .i64 1, .slice (some ⟨g, o, none⟩) 7 cap] 31)) = W9 at *
  generalize w8.heap.size = BF at *
  clear hb9 hlt
  obtain ⟨⟨q0, q1, q2⟩, -⟩ := box3 hA2.box
  go_wp2_with fail
  clear q0 q1 q2
  refine (meth10b _ _ _ hA2.C hA2.H).mono ?_
  rintro e w10 ⟨a, cap', rfl, hb10⟩
  replace hA2 := hA2.later hb10
  replace y0 := cell_later hb10 y0
  replace hf := bxl hf hb10
  clear hb10
  have hb11 := bel1 w10 (.cells #[.int .i64 0, .string ⟨#[]⟩, .int .i64 0, .int .i64 0, .slice a 0 cap'] 31)
  go_upto_region 6 with (fail)
  replace hA2 := hA2.later hb11
  replace y0 := cell_later hb11 y0
  replace hf := bxl hf hb11
  generalize (w10.alloc (.cells #[.int .i64 0, .string ⟨#[]⟩, .int .i64 0, .int .i64 0, .slice a 0 cap'] 31)) = W11 at *
  clear hb11
  have f0 : W11.cell? ⟨BF, 0, none⟩ = some (.int .i64 4) := by rw [cell_of_row _ _ _ _ _ _ hf]; rfl
  have f1 : W11.cell? ⟨BF, 1, none⟩ = some (.string ⟨#[109]⟩) := by rw [cell_of_row _ _ _ _ _ _ hf]; rfl
  have f3 : W11.cell? ⟨BF, 3, none⟩ = some (.int .i64 1) := by rw [cell_of_row _ _ _ _ _ _ hf]; rfl
  have f4 : W11.cell? ⟨BF, 4, none⟩ = some (.slice (some ⟨g, o, none⟩) 7 cap) := by rw [cell_of_row _ _ _ _ _ _ hf]; rfl
  have hbel := hA2.bel
  clear hf hA2
  go_wp2
  go_ret
  exact ⟨rfl, hbel⟩
end Go.Proofs.Ythaefhojnjdheaa

/- InlineRoom's walk. -/
namespace Go.Proofs.Ythaefhojnjdheaa
open Go.ChangeShapes Go.WideShapes Go.ChangeAt Go.RowKit
set_option linter.unusedSimpArgs false
set_option linter.unusedVariables false
set_option maxRecDepth 8000

/-- What the law holds: the world's box, the input. -/
structure Rm (P Q : Nat → Prop) (w : World) (cv hv sv : Value) (X : QW) (sites : List Int) (w' : World) : Prop where
  box : w'.heap[w.heap.size]? = some (.cells #[cv, hv, .int .i64 X.epoch] 25 (0, 0))
  C : IsClasses P w' cv X.classes
  H : IsHeap P w' hv X.heap
  S : IsInts Q w' sv sites
  bel : Below w.heap.size w w'
theorem Rm.later {P Q : Nat → Prop} {w : World} {cv hv sv : Value} {X : QW} {sites : List Int} {w' w'' : World} (h : Rm P Q w cv hv sv X sites w') (hb : Below w'.heap.size w' w'') : Rm P Q w cv hv sv X sites w'' :=
  ⟨bxl h.box hb, h.C.later goodC hb, h.H.later goodO hb, h.S.later goodN hb, nstep h.bel hb⟩
theorem bel_drew (w : World) : Below w.heap.size w w.drew := ⟨rfl, rfl, rfl, Nat.le_refl _, fun _ _ => rfl⟩
theorem box5 {w : World} {B : Nat} {x y z u v : Value} {t : TypeId} (h : w.heap[B]? = some (.cells #[x, y, z, u, v] t (0, 0))) : w.cell? ⟨B, 0, none⟩ = some x ∧ w.cell? ⟨B, 1, none⟩ = some y ∧ w.cell? ⟨B, 3, none⟩ = some u ∧ w.cell? ⟨B, 4, none⟩ = some v := by
  refine ⟨?_, ?_, ?_, ?_⟩ <;> rw [cell_of_row _ _ _ _ _ _ h] <;> rfl
/-- The fast code's box and row. -/
structure Rc (R : Nat → Prop) (BF : Nat) (c ep tm : Int) (nm : ByteArray) (a : Option Addr) (cap : Nat) (code : List QI) (w' : World) : Prop where
  box : w'.heap[BF]? = some (.cells #[.int .i64 c, .string nm, .int .i64 ep, .int .i64 tm, .slice a code.length cap] 31 (0, 0))
  K : IsCode R w' (.slice a code.length cap) code
theorem Rc.later {R : Nat → Prop} {BF : Nat} {c ep tm : Int} {nm : ByteArray} {a : Option Addr} {cap : Nat} {code : List QI} {w' w'' : World} (h : Rc R BF c ep tm nm a cap code w') (hb : Below w'.heap.size w' w'') : Rc R BF c ep tm nm a cap code w'' :=
  ⟨bxl h.box hb, h.K.later goodI hb⟩
def RmI (P Q : Nat → Prop) (w : World) (cv hv sv : Value) (X : QW) (sites : List Int) (R : Nat → Prop) (BF : Nat) (c ep tm : Int) (nm : ByteArray) (a : Option Addr) (cap : Nat) (code : List QI) (gk : Nat) (gv iv : Value) (wr : World) : Prop :=
  ∃ j n : Nat, j + gk = code.length ∧ iv = .int .i64 (j : Int) ∧ gv = .int .i64 (n : Int) ∧ n ≤ j ∧ (∀ i y, i < j → code[i]? = some y → y.op = 18 → 0 < n) ∧ Rm P Q w cv hv sv X sites wr ∧ Rc R BF c ep tm nm a cap code wr
set_option maxHeartbeats 4000000 in
theorem room_walk {P Q : Nat → Prop} (X : QW) (c k : Int) (sites : List Int) (cv hv sv : Value) (w : World) (hC : IsClasses P w cv X.classes) (hH : IsHeap P w hv X.heap) (hS : IsInts Q w sv sites) :
    Calls Try.prog 5 #[WV cv hv X.epoch, .int .i64 c, .int .i64 k, sv] w fun e w' => e = .returned (.bool true) ∧ Below w.heap.size w w' := by
  obtain ⟨ac, cc, rfl, -, hcc, -, -⟩ := id hC
  obtain ⟨ah, ch, rfl, -⟩ := id hH
  obtain ⟨asv, cs, rfl, hls, hcs, -, -⟩ := id hS
  unfold maxLen at hcs hcc
  have hb0 := bel1 w (.cells #[.slice ac X.classes.length cc, .slice ah X.heap.length ch, .int .i64 X.epoch] 25)
  have hB : Rm P Q w (.slice ac X.classes.length cc) (.slice ah X.heap.length ch) (.slice asv sites.length cs) X sites (w.alloc (.cells #[.slice ac X.classes.length cc, .slice ah X.heap.length ch, .int .i64 X.epoch] 25)) :=
    ⟨heap_alloc_new _ _, hC.later goodC hb0, hH.later goodO hb0, hS.later goodN hb0, hb0⟩
  clear hb0
  go_enter Try.func5, Try.ntmps5
  go_upto_region 1 with (fail)
  generalize (w.alloc (.cells #[.slice ac X.classes.length cc, .slice ah X.heap.length ch, .int .i64 X.epoch] 25)) = W0 at *
  clear hC hH hS
  go_wp2_with fail
  refine (alive_any _).mono ?_
  rintro e w1 ⟨rfl, hb1⟩
  replace hB := hB.later hb1
  clear hb1
  obtain ⟨⟨k0, k1, k2⟩, -⟩ := box3 hB.box
  go_wp2_with fail
  refine (rright_any X _ _ _ hB.C hB.H).mono ?_
  rintro e w2 ⟨rfl, hb1⟩
  replace hB := hB.later hb1
  clear hb1 k0 k1 k2
  by_cases hr : rightE X = 0
  · have HR : Hid (rightE X = 0) := hr
    rw [hr]
    clear hr
    obtain ⟨⟨k0, k1, k2⟩, -⟩ := box3 hB.box
    go_wp2_with fail
    refine (method_any X HR.out c k sites _ _ _ _ hB.C hB.H hB.S).mono ?_
    rintro e w3 ⟨a, cap, rfl, hK, hb3⟩
    replace hB := hB.later hb3
    clear hb3 k0 k1 k2
    unfold methodA at hK ⊢
    cases hm : methAt X.classes c k with
    | none =>
      simp only [hm] at hK ⊢
      have hbf := bel1 w3 (.cells #[.int .i64 0, .string ⟨#[]⟩, .int .i64 0, .int .i64 0, .slice a 0 cap] 31)
      have hbel := nstep hB.bel hbf
      go_wp2
      go_ret
      exact ⟨rfl, hbel⟩
    | some m =>
      simp only [hm] at hK ⊢
      cases hok : (fastM X c m sites).2 with
      | false =>
        rw [fast_none hok] at hK ⊢
        have hbf := bel1 w3 (.cells #[.int .i64 0, .string ⟨#[]⟩, .int .i64 0, .int .i64 0, .slice a 0 cap] 31)
        have hbel := nstep hB.bel hbf
        go_wp2
        go_ret
        exact ⟨rfl, hbel⟩
      | true =>
        obtain ⟨g1, g2, g3, g4⟩ := fast_good HR.out (meth_small HR.out hm) hok
        obtain ⟨ff, hf⟩ : ∃ ff, (fastM X c m sites).1 = ff := ⟨_, rfl⟩
        rw [hf] at g1 g2 g3 g4 hK ⊢
        clear hok hf
        obtain ⟨fc, fn, fe, ft, code⟩ := ff
        dsimp only at g1 g2 g3 g4 hK ⊢
        have G3 := hid g3
        have G4 := hid g4
        clear g3 g4
        have hcap : code.length ≤ cap ∧ cap ≤ 9223372036854775807 := by
          obtain ⟨a', c', e, h1, h2, -⟩ := id hK
          simp only [Value.slice.injEq] at e
          unfold maxLen at h2
          omega
        have hbf := bel1 w3 (.cells #[.int .i64 fc, .string fn, .int .i64 fe, .int .i64 ft, .slice a code.length cap] 31)
        have hF : Rc (fun b => w2.heap.size ≤ b ∧ b < w3.heap.size) w3.heap.size fc fe ft fn a cap code (w3.alloc (.cells #[.int .i64 fc, .string fn, .int .i64 fe, .int .i64 ft, .slice a code.length cap] 31)) := ⟨heap_alloc_new _ _, hK.later goodI hbf⟩
        replace hB := hB.later hbf
        clear hbf hK
        obtain ⟨qc, tc, xc, rfl, rfl, hxc, hmt⟩ := meth_at hm
        clear hm
        have hq := lt_of_get hxc
        have ht := lt_of_get hmt
        go_upto_region 6 with (fail)
        generalize (w3.alloc (.cells #[.int .i64 fc, .string fn, .int .i64 fe, .int .i64 ft, .slice a code.length cap] 31)) = W4 at *
        generalize w3.heap.size = BF at *
        generalize w2.heap.size = B2 at *
        have f3 : W4.cell? ⟨BF, 3, none⟩ = some (.int .i64 ft) := by rw [cell_of_row _ _ _ _ _ _ hF.box]; rfl
        have f4 : W4.cell? ⟨BF, 4, none⟩ = some (.slice a code.length cap) := by rw [cell_of_row _ _ _ _ _ _ hF.box]; rfl
        obtain ⟨⟨k0, k1, k2⟩, -⟩ := box3 hB.box
        obtain ⟨ac', cc', e', -, -, -, hrowC⟩ := id hB.C
        simp only [Value.slice.injEq] at e'
        obtain ⟨rfl, -, rfl⟩ := e'
        obtain ⟨b1, o1, rfl, -, -, -, -, -, mv, u3, hms⟩ := hrowC qc xc hxc
        obtain ⟨am, cm, rfl, hlm, hcm, -, hrm⟩ := hms
        obtain ⟨b2, o2, rfl, -, -, -, -, -, -, kv, v4, hco⟩ := hrm tc m hmt
        obtain ⟨ak, ck, rfl, hlk, hck, -, -⟩ := id hco
        unfold maxLen at hcm hck
        have hq1 : (qc : Int) < (X.classes.length : Int) := by omega
        have hq0 : (0 : Int) ≤ (qc : Int) := by omega
        have ht1 : (tc : Int) < (xc.methods.length : Int) := by omega
        have ht0 : (0 : Int) ≤ (tc : Int) := by omega
        have hd1 : decide ((240 : Int) < (code.length : Int)) = false := by simp; omega
        have hd2 : decide ((40 : Int) < ft) = false := by simp; omega
        have hd3 : decide ((qc : Int) < 0) = false := by simp
        have hd4 : decide ((tc : Int) < 0) = false := by simp
        have hd5 : decide ((X.classes.length : Int) ≤ (qc : Int)) = false := by simp; omega
        have hd6 : decide ((xc.methods.length : Int) ≤ (tc : Int)) = false := by simp; omega
        clear hrowC hrm hco
        have HU := hid u3
        have HV := hid v4
        go_wp2
        clear f3 f4 k0 k1 k2 u3 v4 hd1 hd2 hd3 hd4 hd5 hd6
        have HKU : Hid (∀ wr, Below W4.heap.size W4 wr → wr.cell? ⟨b1, o1 + qc * 4 + 3, none⟩ = some (.slice (some ⟨b2, o2, none⟩) xc.methods.length cm) ∧ wr.cell? ⟨b2, o2 + tc * 5 + 4, none⟩ = some (.slice ak m.code.length ck)) := fun wr hb => ⟨cell_later hb HU.out, cell_later hb HV.out⟩
        clear HU HV
        go_loopg [11, 71] code.length (fun gk gv iv wr => RmI P Q w (.slice (some ⟨b1, o1, none⟩) X.classes.length cc) (.slice ah X.heap.length ch) (.slice asv sites.length cs) X sites (fun b => B2 ≤ b ∧ b < BF) BF fc fe ft fn a cap code gk gv iv wr ∧ Below W4.heap.size W4 wr)
        case atStart => exact ⟨⟨0, 0, by omega, rfl, rfl, Nat.le_refl _, fun i y h => by omega, hB, hF⟩, Below.refl _ _⟩
        case round =>
          clear hB hF
          obtain ⟨⟨j, n, hj, rfl, rfl, hnj, hgs, hB, hF⟩, hbw⟩ := hrel
          have HGS := hid hgs
          clear hgs
          by_cases hlt : j < code.length
          · have hxj : code[j]? = some code[j] := by simp [hlt]
            obtain ⟨a', cap', e', -, -, -, hrowK⟩ := id hF.K
            simp only [Value.slice.injEq] at e'
            obtain ⟨rfl, -, rfl⟩ := e'
            obtain ⟨b3, o3, rfl, -, u0, u1, u2, u3, u4, -⟩ := hrowK j _ hxj
            have hG := G3.out code[j] (List.getElem_mem hlt)
            have HXJ := hid hxj
            clear hrowK hxj
            generalize code[j] = y at *
            simp only [Nat.add_zero] at u0
            have hj1 : (j : Int) < (code.length : Int) := by omega
            have hj0 : (0 : Int) ≤ (j : Int) := by omega
            have hwj : IntKind.i64.wrap ((j : Int) + 1) = (j : Int) + 1 := wrap_of (by omega) (by omega)
            have hwn : IntKind.i64.wrap ((n : Int) + 1) = (n : Int) + 1 := wrap_of (by omega) (by omega)
            have hbx := bel1 wr (.cells #[.int .i64 y.op, .int .i64 y.a, .int .i64 y.b, .int .i64 y.c, .string y.name] 54)
            have hbox := heap_alloc_new wr (.cells #[.int .i64 y.op, .int .i64 y.a, .int .i64 y.b, .int .i64 y.c, .string y.name] 54)
            have hB' := hB.later hbx
            have hF' := hF.later hbx
            have hbw' := nstep hbw hbx
            clear hB hF hbw hbx
            have HNX : Hid (∀ (n' : Nat) (U : World), Below (wr.alloc (.cells #[.int .i64 y.op, .int .i64 y.a, .int .i64 y.b, .int .i64 y.c, .string y.name] 54)).heap.size (wr.alloc (.cells #[.int .i64 y.op, .int .i64 y.a, .int .i64 y.b, .int .i64 y.c, .string y.name] 54)) U → n ≤ n' → n' ≤ n + 1 → (y.op = 18 → 0 < n') → RmI P Q w (.slice (some ⟨b1, o1, none⟩) X.classes.length cc) (.slice ah X.heap.length ch) (.slice asv sites.length cs) X sites (fun b => B2 ≤ b ∧ b < BF) BF fc fe ft fn (some ⟨b3, o3, none⟩) cap code (code.length - (j + 1)) (.int .i64 (n' : Int)) (.int .i64 ((j : Int) + 1)) U ∧ Below W4.heap.size W4 U) := by
              intro n' U hU h1 h2 h3
              refine ⟨⟨j + 1, n', by omega, by go_num, rfl, by omega, fun i z hi hz ho => ?_, hB'.later hU, hF'.later hU⟩, nstep hbw' hU⟩
              by_cases hij : i < j
              · have := HGS.out i z hij hz ho; omega
              · have : i = j := by omega
                subst this
                rw [HXJ.out] at hz; cases hz
                exact h3 ho
            clear HGS HXJ
            by_cases hjp : jmp y
            · obtain ⟨ha0, ha1⟩ := hG.1 hjp
              have hda : decide (y.a < 0) = false := by simp; omega
              have hdb : decide ((code.length : Int) < y.a) = false := by simp; omega
              obtain ⟨-, -, -, f4⟩ := box5 hF'.box
              obtain ⟨x0, x1, -, -⟩ := box5 hbox
              have HQ := hid (HNX.out n _ (Below.refl _ _) (Nat.le_refl _) (by omega) (fun h => by rcases hjp with h' | h' <;> omega))
              clear hbox hB' hF' hbw' HNX
              rcases hjp with hop | hop
              · have hd15 : (y.op == 15) = true := by simpa using hop
                clear hop hG
                go_wp2
                go_roundg (code.length - (j + 1))
                case measure => omega
                case rel => exact HQ.out
              · have hd15 : (y.op == 15) = false := by simp [hop]
                have hd16 : (y.op == 16) = true := by simpa using hop
                clear hop hG
                go_wp2
                go_roundg (code.length - (j + 1))
                case measure => omega
                case rel => exact HQ.out
            · have hd15 : (y.op == 15) = false := by simp; exact fun h => hjp (Or.inl h)
              have hd16 : (y.op == 16) = false := by simp; exact fun h => hjp (Or.inr h)
              by_cases ho : y.op = 18
              · have hd18 : (y.op == 18) = true := by simpa using ho
                obtain ⟨x0, x1, x3, -⟩ := box5 hbox
                obtain ⟨jc, hjc, hyc, hsj⟩ := hG.2 ho
                obtain ⟨as', cs', e', -, -, -, hrowS⟩ := id hB'.S
                simp only [Value.slice.injEq] at e'
                obtain ⟨rfl, -, rfl⟩ := e'
                obtain ⟨bs, os, rfl, -, s0⟩ := hrowS jc _ hsj
                obtain ⟨⟨k0, -, -⟩, -⟩ := box3 hB'.box
                obtain ⟨c1, c2⟩ := HKU.out _ hbw'
                have hsl := lt_of_get hsj
                have hjs1 : (jc : Int) < (sites.length : Int) := by omega
                have hjs0 : (0 : Int) ≤ (jc : Int) := by omega
                have he0 : decide ((jc : Int) < 0) = false := by simp
                have he1 : decide ((m.code.length : Int) ≤ (jc : Int)) = false := by simp; omega
                have he2 : decide ((sites.length : Int) ≤ (jc : Int)) = false := by simp; omega
                have HQ := hid (HNX.out (n + 1) _ (bel_drew _) (by omega) (Nat.le_refl _) (fun _ => by omega))
                clear hbox hB' hF' hbw' HNX hjp hG ho hrowS hsj HKU
                have HYC := hid hyc
                clear hyc
                go_upto_region 21 with (fail)
                generalize (wr.alloc (.cells #[.int .i64 y.op, .int .i64 y.a, .int .i64 y.b, .int .i64 y.c, .string y.name] 54)) = V at *
                generalize wr.heap.size = BI at *
                rw [HYC.out] at x3
                have s1 : V.cell? ⟨bs, os + jc, none⟩ = some (.int .i64 y.a) := by simpa [IntC] using s0
                have hS0 : V.drew.cell? ⟨BI, 1, none⟩ = some (.int .i64 y.a) ∧ V.drew.cell? ⟨BI, 3, none⟩ = some (.int .i64 (jc : Int)) ∧ V.drew.cell? ⟨w.heap.size, 0, none⟩ = some (.slice (some ⟨b1, o1, none⟩) X.classes.length cc) ∧ V.drew.cell? ⟨b1, o1 + qc * 4 + 3, none⟩ = some (.slice (some ⟨b2, o2, none⟩) xc.methods.length cm) ∧ V.drew.cell? ⟨b2, o2 + tc * 5 + 4, none⟩ = some (.slice ak m.code.length ck) ∧ V.drew.cell? ⟨bs, os + jc, none⟩ = some (.int .i64 y.a) := ⟨x1, x3, k0, c1, c2, s1⟩
                clear x0 x1 x3 k0 c1 c2 s0 s1
                refine wp_region_late (S := fun w' => w'.cell? ⟨BI, 1, none⟩ = some (.int .i64 y.a) ∧ w'.cell? ⟨BI, 3, none⟩ = some (.int .i64 (jc : Int)) ∧ w'.cell? ⟨w.heap.size, 0, none⟩ = some (.slice (some ⟨b1, o1, none⟩) X.classes.length cc) ∧ w'.cell? ⟨b1, o1 + qc * 4 + 3, none⟩ = some (.slice (some ⟨b2, o2, none⟩) xc.methods.length cm) ∧ w'.cell? ⟨b2, o2 + tc * 5 + 4, none⟩ = some (.slice ak m.code.length ck) ∧ w'.cell? ⟨bs, os + jc, none⟩ = some (.int .i64 y.a)) [] (by kernel_rfl) ?_
                refine wpAnyM_take (i := 0) (oi := { dst := some 95, op := Op.fieldAddr 54 (Operand.tmp 13) 3, type := 0, pos := "law.go:102", after := #[], guard := none }) (v := .pointer (some ⟨BI, 3, none⟩)) (by kernel_rfl) (by kernel_rfl) rfl (by kernel_rfl) (by kernel_rfl) (by kernel_rfl) (fun _ _ _ h => h) (Or.inl ⟨by rfl, ?_⟩) (hS0) ?_
                · intro w hSw
                  obtain ⟨q0, q1, q2, q3, q4, q5⟩ := hSw
                  go_simp
                try simp only [Act.put, List.setIfInBounds_toArray, List.set_cons_zero, List.set_cons_succ]
                refine wpAnyM_take (i := 1) (oi := { dst := some 96, op := Op.load 3 (Operand.tmp 95), type := 3, pos := "law.go:102", after := #[{ on := 0, ground := Ground.data }], guard := none }) (v := .int .i64 (jc : Int)) (by kernel_rfl) (by kernel_rfl) rfl (by kernel_rfl) (by kernel_rfl) (by kernel_rfl) (fun _ _ _ h => h) (Or.inl ⟨by rfl, ?_⟩) (hS0) ?_
                · intro w hSw
                  obtain ⟨q0, q1, q2, q3, q4, q5⟩ := hSw
                  go_simp
                try simp only [Act.put, List.setIfInBounds_toArray, List.set_cons_zero, List.set_cons_succ]
                refine wpAnyM_take (i := 2) (oi := { dst := some 97, op := Op.binOp BinOp.lss 3 (Operand.tmp 96) (Operand.const (Value.int IntKind.i64 0)) 3, type := 4, pos := "law.go:102", after := #[{ on := 1, ground := Ground.data }], guard := none }) (v := .bool false) (by kernel_rfl) (by kernel_rfl) rfl (by kernel_rfl) (by kernel_rfl) (by kernel_rfl) (fun _ _ _ h => h) (Or.inl ⟨by rfl, ?_⟩) (hS0) ?_
                · intro w hSw
                  obtain ⟨q0, q1, q2, q3, q4, q5⟩ := hSw
                  go_simp
                try simp only [Act.put, List.setIfInBounds_toArray, List.set_cons_zero, List.set_cons_succ]
                refine wpAnyM_take (i := 3) (oi := { dst := some 98, op := Op.move (Operand.tmp 97), type := 4, pos := "law.go:102", after := #[{ on := 2, ground := Ground.data }], guard := none }) (v := .bool false) (by kernel_rfl) (by kernel_rfl) rfl (by kernel_rfl) (by kernel_rfl) (by kernel_rfl) (fun _ _ _ h => h) (Or.inl ⟨by rfl, ?_⟩) (hS0) ?_
                · intro w hSw
                  obtain ⟨q0, q1, q2, q3, q4, q5⟩ := hSw
                  go_simp
                try simp only [Act.put, List.setIfInBounds_toArray, List.set_cons_zero, List.set_cons_succ]
                refine wpAnyM_take (i := 4) (oi := { dst := some 99, op := Op.fieldAddr 54 (Operand.tmp 13) 3, type := 0, pos := "law.go:102", after := #[{ on := 3, ground := Ground.guard }], guard := some (3, false) }) (v := .pointer (some ⟨BI, 3, none⟩)) (by kernel_rfl) (by kernel_rfl) rfl (by kernel_rfl) (by kernel_rfl) (by kernel_rfl) (fun _ _ _ h => h) (Or.inl ⟨by rfl, ?_⟩) (hS0) ?_
                · intro w hSw
                  obtain ⟨q0, q1, q2, q3, q4, q5⟩ := hSw
                  go_simp
                try simp only [Act.put, List.setIfInBounds_toArray, List.set_cons_zero, List.set_cons_succ]
                refine wpAnyM_take (i := 5) (oi := { dst := some 100, op := Op.load 3 (Operand.tmp 99), type := 3, pos := "law.go:102", after := #[{ on := 4, ground := Ground.data }, { on := 3, ground := Ground.guard }], guard := some (3, false) }) (v := .int .i64 (jc : Int)) (by kernel_rfl) (by kernel_rfl) rfl (by kernel_rfl) (by kernel_rfl) (by kernel_rfl) (fun _ _ _ h => h) (Or.inl ⟨by rfl, ?_⟩) (hS0) ?_
                · intro w hSw
                  obtain ⟨q0, q1, q2, q3, q4, q5⟩ := hSw
                  go_simp
                try simp only [Act.put, List.setIfInBounds_toArray, List.set_cons_zero, List.set_cons_succ]
                refine wpAnyM_take (i := 6) (oi := { dst := some 101, op := Op.fieldAddr 25 (Operand.tmp 4) 0, type := 0, pos := "law.go:102", after := #[{ on := 3, ground := Ground.guard }], guard := some (3, false) }) (v := .pointer (some ⟨w.heap.size, 0, none⟩)) (by kernel_rfl) (by kernel_rfl) rfl (by kernel_rfl) (by kernel_rfl) (by kernel_rfl) (fun _ _ _ h => h) (Or.inl ⟨by rfl, ?_⟩) (hS0) ?_
                · intro w hSw
                  obtain ⟨q0, q1, q2, q3, q4, q5⟩ := hSw
                  go_simp
                try simp only [Act.put, List.setIfInBounds_toArray, List.set_cons_zero, List.set_cons_succ]
                refine wpAnyM_take (i := 7) (oi := { dst := some 102, op := Op.load 22 (Operand.tmp 101), type := 22, pos := "law.go:102", after := #[{ on := 6, ground := Ground.data }, { on := 3, ground := Ground.guard }], guard := some (3, false) }) (v := .slice (some ⟨b1, o1, none⟩) X.classes.length cc) (by kernel_rfl) (by kernel_rfl) rfl (by kernel_rfl) (by kernel_rfl) (by kernel_rfl) (fun _ _ _ h => h) (Or.inl ⟨by rfl, ?_⟩) (hS0) ?_
                · intro w hSw
                  obtain ⟨q0, q1, q2, q3, q4, q5⟩ := hSw
                  go_simp
                try simp only [Act.put, List.setIfInBounds_toArray, List.set_cons_zero, List.set_cons_succ]
                refine wpAnyM_take (i := 8) (oi := { dst := some 103, op := Op.move (Operand.tmp 1), type := 3, pos := "law.go:102", after := #[{ on := 3, ground := Ground.guard }], guard := some (3, false) }) (v := .int .i64 (qc : Int)) (by kernel_rfl) (by kernel_rfl) rfl (by kernel_rfl) (by kernel_rfl) (by kernel_rfl) (fun _ _ _ h => h) (Or.inl ⟨by rfl, ?_⟩) (hS0) ?_
                · intro w hSw
                  obtain ⟨q0, q1, q2, q3, q4, q5⟩ := hSw
                  go_simp
                try simp only [Act.put, List.setIfInBounds_toArray, List.set_cons_zero, List.set_cons_succ]
                refine wpAnyM_take (i := 9) (oi := { dst := some 104, op := Op.indexAddr 22 (Operand.tmp 102) (Operand.tmp 103), type := 0, pos := "law.go:102", after := #[{ on := 7, ground := Ground.data }, { on := 8, ground := Ground.data }, { on := 3, ground := Ground.guard }], guard := some (3, false) }) (v := .pointer (some ⟨b1, o1 + qc * 4, none⟩)) (by kernel_rfl) (by kernel_rfl) rfl (by kernel_rfl) (by kernel_rfl) (by kernel_rfl) (fun _ _ _ h => h) (Or.inl ⟨by rfl, ?_⟩) (hS0) ?_
                · intro w hSw
                  obtain ⟨q0, q1, q2, q3, q4, q5⟩ := hSw
                  go_simp
                try simp only [Act.put, List.setIfInBounds_toArray, List.set_cons_zero, List.set_cons_succ]
                refine wpAnyM_take (i := 10) (oi := { dst := some 105, op := Op.fieldAddr 46 (Operand.tmp 104) 3, type := 0, pos := "law.go:102", after := #[{ on := 9, ground := Ground.data }, { on := 3, ground := Ground.guard }], guard := some (3, false) }) (v := .pointer (some ⟨b1, o1 + qc * 4 + 3, none⟩)) (by kernel_rfl) (by kernel_rfl) rfl (by kernel_rfl) (by kernel_rfl) (by kernel_rfl) (fun _ _ _ h => h) (Or.inl ⟨by rfl, ?_⟩) (hS0) ?_
                · intro w hSw
                  obtain ⟨q0, q1, q2, q3, q4, q5⟩ := hSw
                  go_simp
                try simp only [Act.put, List.setIfInBounds_toArray, List.set_cons_zero, List.set_cons_succ]
                refine wpAnyM_take (i := 11) (oi := { dst := some 106, op := Op.load 44 (Operand.tmp 105), type := 44, pos := "law.go:102", after := #[{ on := 10, ground := Ground.data }, { on := 3, ground := Ground.guard }], guard := some (3, false) }) (v := .slice (some ⟨b2, o2, none⟩) xc.methods.length cm) (by kernel_rfl) (by kernel_rfl) rfl (by kernel_rfl) (by kernel_rfl) (by kernel_rfl) (fun _ _ _ h => h) (Or.inl ⟨by rfl, ?_⟩) (hS0) ?_
                · intro w hSw
                  obtain ⟨q0, q1, q2, q3, q4, q5⟩ := hSw
                  go_simp
                try simp only [Act.put, List.setIfInBounds_toArray, List.set_cons_zero, List.set_cons_succ]
                refine wpAnyM_take (i := 12) (oi := { dst := some 107, op := Op.move (Operand.tmp 2), type := 3, pos := "law.go:102", after := #[{ on := 3, ground := Ground.guard }], guard := some (3, false) }) (v := .int .i64 (tc : Int)) (by kernel_rfl) (by kernel_rfl) rfl (by kernel_rfl) (by kernel_rfl) (by kernel_rfl) (fun _ _ _ h => h) (Or.inl ⟨by rfl, ?_⟩) (hS0) ?_
                · intro w hSw
                  obtain ⟨q0, q1, q2, q3, q4, q5⟩ := hSw
                  go_simp
                try simp only [Act.put, List.setIfInBounds_toArray, List.set_cons_zero, List.set_cons_succ]
                refine wpAnyM_take (i := 13) (oi := { dst := some 108, op := Op.indexAddr 44 (Operand.tmp 106) (Operand.tmp 107), type := 0, pos := "law.go:102", after := #[{ on := 11, ground := Ground.data }, { on := 12, ground := Ground.data }, { on := 3, ground := Ground.guard }], guard := some (3, false) }) (v := .pointer (some ⟨b2, o2 + tc * 5, none⟩)) (by kernel_rfl) (by kernel_rfl) rfl (by kernel_rfl) (by kernel_rfl) (by kernel_rfl) (fun _ _ _ h => h) (Or.inl ⟨by rfl, ?_⟩) (hS0) ?_
                · intro w hSw
                  obtain ⟨q0, q1, q2, q3, q4, q5⟩ := hSw
                  go_simp
                try simp only [Act.put, List.setIfInBounds_toArray, List.set_cons_zero, List.set_cons_succ]
                refine wpAnyM_take (i := 14) (oi := { dst := some 109, op := Op.fieldAddr 48 (Operand.tmp 108) 4, type := 0, pos := "law.go:102", after := #[{ on := 13, ground := Ground.data }, { on := 3, ground := Ground.guard }], guard := some (3, false) }) (v := .pointer (some ⟨b2, o2 + tc * 5 + 4, none⟩)) (by kernel_rfl) (by kernel_rfl) rfl (by kernel_rfl) (by kernel_rfl) (by kernel_rfl) (fun _ _ _ h => h) (Or.inl ⟨by rfl, ?_⟩) (hS0) ?_
                · intro w hSw
                  obtain ⟨q0, q1, q2, q3, q4, q5⟩ := hSw
                  go_simp
                try simp only [Act.put, List.setIfInBounds_toArray, List.set_cons_zero, List.set_cons_succ]
                refine wpAnyM_take (i := 15) (oi := { dst := some 110, op := Op.load 29 (Operand.tmp 109), type := 29, pos := "law.go:102", after := #[{ on := 14, ground := Ground.data }, { on := 3, ground := Ground.guard }], guard := some (3, false) }) (v := .slice ak m.code.length ck) (by kernel_rfl) (by kernel_rfl) rfl (by kernel_rfl) (by kernel_rfl) (by kernel_rfl) (fun _ _ _ h => h) (Or.inl ⟨by rfl, ?_⟩) (hS0) ?_
                · intro w hSw
                  obtain ⟨q0, q1, q2, q3, q4, q5⟩ := hSw
                  go_simp
                try simp only [Act.put, List.setIfInBounds_toArray, List.set_cons_zero, List.set_cons_succ]
                refine wpAnyM_take (i := 16) (oi := { dst := some 111, op := Op.call { callee := Callee.builtin Builtin.len, args := #[Operand.tmp 110], argTypes := #[29] }, type := 3, pos := "law.go:102", after := #[{ on := 15, ground := Ground.data }, { on := 3, ground := Ground.guard }], guard := some (3, false) }) (v := .int .i64 (m.code.length : Int)) (by kernel_rfl) (by kernel_rfl) rfl (by kernel_rfl) (by kernel_rfl) (by kernel_rfl) (fun _ _ _ h => h) (Or.inl ⟨by rfl, ?_⟩) (hS0) ?_
                · intro w hSw
                  obtain ⟨q0, q1, q2, q3, q4, q5⟩ := hSw
                  go_simp
                try simp only [Act.put, List.setIfInBounds_toArray, List.set_cons_zero, List.set_cons_succ]
                refine wpAnyM_take (i := 17) (oi := { dst := some 112, op := Op.binOp BinOp.geq 3 (Operand.tmp 100) (Operand.tmp 111) 3, type := 4, pos := "law.go:102", after := #[{ on := 5, ground := Ground.data }, { on := 16, ground := Ground.data }, { on := 3, ground := Ground.guard }], guard := some (3, false) }) (v := .bool false) (by kernel_rfl) (by kernel_rfl) rfl (by kernel_rfl) (by kernel_rfl) (by kernel_rfl) (fun _ _ _ h => h) (Or.inl ⟨by rfl, ?_⟩) (hS0) ?_
                · intro w hSw
                  obtain ⟨q0, q1, q2, q3, q4, q5⟩ := hSw
                  go_simp
                try simp only [Act.put, List.setIfInBounds_toArray, List.set_cons_zero, List.set_cons_succ]
                refine wpAnyM_take (i := 18) (oi := { dst := some 113, op := Op.pick (Operand.tmp 98) (Operand.const (Value.bool true)) (Operand.tmp 112), type := 4, pos := "law.go:102", after := #[{ on := 3, ground := Ground.data }, { on := 17, ground := Ground.data }], guard := none }) (v := .bool false) (by kernel_rfl) (by kernel_rfl) rfl (by kernel_rfl) (by kernel_rfl) (by kernel_rfl) (fun _ _ _ h => h) (Or.inl ⟨by rfl, ?_⟩) (hS0) ?_
                · intro w hSw
                  obtain ⟨q0, q1, q2, q3, q4, q5⟩ := hSw
                  go_simp
                try simp only [Act.put, List.setIfInBounds_toArray, List.set_cons_zero, List.set_cons_succ]
                refine wpAnyM_take (i := 19) (oi := { dst := some 114, op := Op.move (Operand.tmp 113), type := 4, pos := "law.go:102", after := #[{ on := 18, ground := Ground.data }, { on := 3, ground := Ground.chain }], guard := none }) (v := .bool false) (by kernel_rfl) (by kernel_rfl) rfl (by kernel_rfl) (by kernel_rfl) (by kernel_rfl) (fun _ _ _ h => h) (Or.inl ⟨by rfl, ?_⟩) (hS0) ?_
                · intro w hSw
                  obtain ⟨q0, q1, q2, q3, q4, q5⟩ := hSw
                  go_simp
                try simp only [Act.put, List.setIfInBounds_toArray, List.set_cons_zero, List.set_cons_succ]
                refine wpAnyM_take (i := 20) (oi := { dst := some 115, op := Op.fieldAddr 54 (Operand.tmp 13) 3, type := 0, pos := "law.go:102", after := #[{ on := 19, ground := Ground.guard }], guard := some (19, false) }) (v := .pointer (some ⟨BI, 3, none⟩)) (by kernel_rfl) (by kernel_rfl) rfl (by kernel_rfl) (by kernel_rfl) (by kernel_rfl) (fun _ _ _ h => h) (Or.inl ⟨by rfl, ?_⟩) (hS0) ?_
                · intro w hSw
                  obtain ⟨q0, q1, q2, q3, q4, q5⟩ := hSw
                  go_simp
                try simp only [Act.put, List.setIfInBounds_toArray, List.set_cons_zero, List.set_cons_succ]
                refine wpAnyM_take (i := 21) (oi := { dst := some 116, op := Op.load 3 (Operand.tmp 115), type := 3, pos := "law.go:102", after := #[{ on := 20, ground := Ground.data }, { on := 19, ground := Ground.guard }], guard := some (19, false) }) (v := .int .i64 (jc : Int)) (by kernel_rfl) (by kernel_rfl) rfl (by kernel_rfl) (by kernel_rfl) (by kernel_rfl) (fun _ _ _ h => h) (Or.inl ⟨by rfl, ?_⟩) (hS0) ?_
                · intro w hSw
                  obtain ⟨q0, q1, q2, q3, q4, q5⟩ := hSw
                  go_simp
                try simp only [Act.put, List.setIfInBounds_toArray, List.set_cons_zero, List.set_cons_succ]
                refine wpAnyM_take (i := 22) (oi := { dst := some 117, op := Op.move (Operand.tmp 3), type := 26, pos := "law.go:102", after := #[{ on := 19, ground := Ground.guard }], guard := some (19, false) }) (v := .slice (some ⟨bs, os, none⟩) sites.length cs) (by kernel_rfl) (by kernel_rfl) rfl (by kernel_rfl) (by kernel_rfl) (by kernel_rfl) (fun _ _ _ h => h) (Or.inl ⟨by rfl, ?_⟩) (hS0) ?_
                · intro w hSw
                  obtain ⟨q0, q1, q2, q3, q4, q5⟩ := hSw
                  go_simp
                try simp only [Act.put, List.setIfInBounds_toArray, List.set_cons_zero, List.set_cons_succ]
                refine wpAnyM_take (i := 23) (oi := { dst := some 118, op := Op.call { callee := Callee.builtin Builtin.len, args := #[Operand.tmp 117], argTypes := #[26] }, type := 3, pos := "law.go:102", after := #[{ on := 22, ground := Ground.data }, { on := 19, ground := Ground.guard }], guard := some (19, false) }) (v := .int .i64 (sites.length : Int)) (by kernel_rfl) (by kernel_rfl) rfl (by kernel_rfl) (by kernel_rfl) (by kernel_rfl) (fun _ _ _ h => h) (Or.inl ⟨by rfl, ?_⟩) (hS0) ?_
                · intro w hSw
                  obtain ⟨q0, q1, q2, q3, q4, q5⟩ := hSw
                  go_simp
                try simp only [Act.put, List.setIfInBounds_toArray, List.set_cons_zero, List.set_cons_succ]
                refine wpAnyM_take (i := 24) (oi := { dst := some 119, op := Op.binOp BinOp.geq 3 (Operand.tmp 116) (Operand.tmp 118) 3, type := 4, pos := "law.go:102", after := #[{ on := 21, ground := Ground.data }, { on := 23, ground := Ground.data }, { on := 19, ground := Ground.guard }], guard := some (19, false) }) (v := .bool false) (by kernel_rfl) (by kernel_rfl) rfl (by kernel_rfl) (by kernel_rfl) (by kernel_rfl) (fun _ _ _ h => h) (Or.inl ⟨by rfl, ?_⟩) (hS0) ?_
                · intro w hSw
                  obtain ⟨q0, q1, q2, q3, q4, q5⟩ := hSw
                  go_simp
                try simp only [Act.put, List.setIfInBounds_toArray, List.set_cons_zero, List.set_cons_succ]
                refine wpAnyM_take (i := 25) (oi := { dst := some 120, op := Op.pick (Operand.tmp 114) (Operand.const (Value.bool true)) (Operand.tmp 119), type := 4, pos := "law.go:102", after := #[{ on := 19, ground := Ground.data }, { on := 24, ground := Ground.data }], guard := none }) (v := .bool false) (by kernel_rfl) (by kernel_rfl) rfl (by kernel_rfl) (by kernel_rfl) (by kernel_rfl) (fun _ _ _ h => h) (Or.inl ⟨by rfl, ?_⟩) (hS0) ?_
                · intro w hSw
                  obtain ⟨q0, q1, q2, q3, q4, q5⟩ := hSw
                  go_simp
                try simp only [Act.put, List.setIfInBounds_toArray, List.set_cons_zero, List.set_cons_succ]
                refine wpAnyM_take (i := 26) (oi := { dst := some 121, op := Op.move (Operand.tmp 120), type := 4, pos := "law.go:102", after := #[{ on := 25, ground := Ground.data }, { on := 19, ground := Ground.chain }], guard := none }) (v := .bool false) (by kernel_rfl) (by kernel_rfl) rfl (by kernel_rfl) (by kernel_rfl) (by kernel_rfl) (fun _ _ _ h => h) (Or.inl ⟨by rfl, ?_⟩) (hS0) ?_
                · intro w hSw
                  obtain ⟨q0, q1, q2, q3, q4, q5⟩ := hSw
                  go_simp
                try simp only [Act.put, List.setIfInBounds_toArray, List.set_cons_zero, List.set_cons_succ]
                refine wpAnyM_take (i := 27) (oi := { dst := some 122, op := Op.move (Operand.tmp 3), type := 26, pos := "law.go:102", after := #[{ on := 26, ground := Ground.guard }], guard := some (26, false) }) (v := .slice (some ⟨bs, os, none⟩) sites.length cs) (by kernel_rfl) (by kernel_rfl) rfl (by kernel_rfl) (by kernel_rfl) (by kernel_rfl) (fun _ _ _ h => h) (Or.inl ⟨by rfl, ?_⟩) (hS0) ?_
                · intro w hSw
                  obtain ⟨q0, q1, q2, q3, q4, q5⟩ := hSw
                  go_simp
                try simp only [Act.put, List.setIfInBounds_toArray, List.set_cons_zero, List.set_cons_succ]
                refine wpAnyM_take (i := 28) (oi := { dst := some 123, op := Op.fieldAddr 54 (Operand.tmp 13) 3, type := 0, pos := "law.go:102", after := #[{ on := 26, ground := Ground.guard }], guard := some (26, false) }) (v := .pointer (some ⟨BI, 3, none⟩)) (by kernel_rfl) (by kernel_rfl) rfl (by kernel_rfl) (by kernel_rfl) (by kernel_rfl) (fun _ _ _ h => h) (Or.inl ⟨by rfl, ?_⟩) (hS0) ?_
                · intro w hSw
                  obtain ⟨q0, q1, q2, q3, q4, q5⟩ := hSw
                  go_simp
                try simp only [Act.put, List.setIfInBounds_toArray, List.set_cons_zero, List.set_cons_succ]
                refine wpAnyM_take (i := 29) (oi := { dst := some 124, op := Op.load 3 (Operand.tmp 123), type := 3, pos := "law.go:102", after := #[{ on := 28, ground := Ground.data }, { on := 26, ground := Ground.guard }], guard := some (26, false) }) (v := .int .i64 (jc : Int)) (by kernel_rfl) (by kernel_rfl) rfl (by kernel_rfl) (by kernel_rfl) (by kernel_rfl) (fun _ _ _ h => h) (Or.inl ⟨by rfl, ?_⟩) (hS0) ?_
                · intro w hSw
                  obtain ⟨q0, q1, q2, q3, q4, q5⟩ := hSw
                  go_simp
                try simp only [Act.put, List.setIfInBounds_toArray, List.set_cons_zero, List.set_cons_succ]
                refine wpAnyM_take (i := 30) (oi := { dst := some 125, op := Op.indexAddr 26 (Operand.tmp 122) (Operand.tmp 124), type := 0, pos := "law.go:102", after := #[{ on := 27, ground := Ground.data }, { on := 29, ground := Ground.data }, { on := 26, ground := Ground.guard }], guard := some (26, false) }) (v := .pointer (some ⟨bs, os + jc, none⟩)) (by kernel_rfl) (by kernel_rfl) rfl (by kernel_rfl) (by kernel_rfl) (by kernel_rfl) (fun _ _ _ h => h) (Or.inl ⟨by rfl, ?_⟩) (hS0) ?_
                · intro w hSw
                  obtain ⟨q0, q1, q2, q3, q4, q5⟩ := hSw
                  go_simp
                try simp only [Act.put, List.setIfInBounds_toArray, List.set_cons_zero, List.set_cons_succ]
                refine wpAnyM_take (i := 31) (oi := { dst := some 126, op := Op.load 3 (Operand.tmp 125), type := 3, pos := "law.go:102", after := #[{ on := 30, ground := Ground.data }, { on := 26, ground := Ground.guard }], guard := some (26, false) }) (v := .int .i64 y.a) (by kernel_rfl) (by kernel_rfl) rfl (by kernel_rfl) (by kernel_rfl) (by kernel_rfl) (fun _ _ _ h => h) (Or.inl ⟨by rfl, ?_⟩) (hS0) ?_
                · intro w hSw
                  obtain ⟨q0, q1, q2, q3, q4, q5⟩ := hSw
                  go_simp
                try simp only [Act.put, List.setIfInBounds_toArray, List.set_cons_zero, List.set_cons_succ]
                refine wpAnyM_take (i := 32) (oi := { dst := some 127, op := Op.fieldAddr 54 (Operand.tmp 13) 1, type := 0, pos := "law.go:102", after := #[{ on := 26, ground := Ground.guard }], guard := some (26, false) }) (v := .pointer (some ⟨BI, 1, none⟩)) (by kernel_rfl) (by kernel_rfl) rfl (by kernel_rfl) (by kernel_rfl) (by kernel_rfl) (fun _ _ _ h => h) (Or.inl ⟨by rfl, ?_⟩) (hS0) ?_
                · intro w hSw
                  obtain ⟨q0, q1, q2, q3, q4, q5⟩ := hSw
                  go_simp
                try simp only [Act.put, List.setIfInBounds_toArray, List.set_cons_zero, List.set_cons_succ]
                refine wpAnyM_take (i := 33) (oi := { dst := some 128, op := Op.load 3 (Operand.tmp 127), type := 3, pos := "law.go:102", after := #[{ on := 32, ground := Ground.data }, { on := 26, ground := Ground.guard }], guard := some (26, false) }) (v := .int .i64 y.a) (by kernel_rfl) (by kernel_rfl) rfl (by kernel_rfl) (by kernel_rfl) (by kernel_rfl) (fun _ _ _ h => h) (Or.inl ⟨by rfl, ?_⟩) (hS0) ?_
                · intro w hSw
                  obtain ⟨q0, q1, q2, q3, q4, q5⟩ := hSw
                  go_simp
                try simp only [Act.put, List.setIfInBounds_toArray, List.set_cons_zero, List.set_cons_succ]
                refine wpAnyM_take (i := 34) (oi := { dst := some 129, op := Op.binOp BinOp.neq 3 (Operand.tmp 126) (Operand.tmp 128) 3, type := 4, pos := "law.go:102", after := #[{ on := 31, ground := Ground.data }, { on := 33, ground := Ground.data }, { on := 26, ground := Ground.guard }], guard := some (26, false) }) (v := .bool false) (by kernel_rfl) (by kernel_rfl) rfl (by kernel_rfl) (by kernel_rfl) (by kernel_rfl) (fun _ _ _ h => h) (Or.inl ⟨by rfl, ?_⟩) (hS0) ?_
                · intro w hSw
                  obtain ⟨q0, q1, q2, q3, q4, q5⟩ := hSw
                  go_simp
                try simp only [Act.put, List.setIfInBounds_toArray, List.set_cons_zero, List.set_cons_succ]
                refine wpAnyM_take (i := 35) (oi := { dst := some 130, op := Op.pick (Operand.tmp 121) (Operand.const (Value.bool true)) (Operand.tmp 129), type := 4, pos := "law.go:102", after := #[{ on := 26, ground := Ground.data }, { on := 34, ground := Ground.data }], guard := none }) (v := .bool false) (by kernel_rfl) (by kernel_rfl) rfl (by kernel_rfl) (by kernel_rfl) (by kernel_rfl) (fun _ _ _ h => h) (Or.inl ⟨by rfl, ?_⟩) (hS0) ?_
                · intro w hSw
                  obtain ⟨q0, q1, q2, q3, q4, q5⟩ := hSw
                  go_simp
                try simp only [Act.put, List.setIfInBounds_toArray, List.set_cons_zero, List.set_cons_succ]
                refine wpAnyM_done (by kernel_rfl) ?_ _
                try simp only [Act.put, List.setIfInBounds_toArray, List.set_cons_zero, List.set_cons_succ]
                go_wp2
                go_roundg (code.length - (j + 1))
                case measure => omega
                case rel => exact HQ.out
              · have hd18 : (y.op == 18) = false := by simpa using ho
                obtain ⟨x0, -, -, -⟩ := box5 hbox
                have HQ := hid (HNX.out n _ (Below.refl _ _) (Nat.le_refl _) (by omega) (fun h => absurd h ho))
                clear hbox hB' hF' hbw' HNX hjp hG ho
                go_wp2
                go_roundg (code.length - (j + 1))
                case measure => omega
                case rel => exact HQ.out
          · have hn0 : 0 < n := by
              obtain ⟨y, hy, ho⟩ := G4.out
              obtain ⟨i, hi⟩ := List.mem_iff_getElem?.1 hy
              exact HGS.out i y (by have := lt_of_get hi; omega) hi ho
            have hjn : ¬ ((j : Int) < (code.length : Int)) := by omega
            have hdn : decide ((0 : Int) < (n : Int)) = true := by simp; omega
            have hbel := hB.bel
            clear hB hF
            go_wp2
            go_ret
            exact ⟨rfl, hbel⟩
  · go_wp2
    go_ret
    exact ⟨rfl, hB.bel⟩
end Go.Proofs.Ythaefhojnjdheaa

/- SameFast of the same. -/
namespace Go.Proofs.Ythaefhojnjdheaa
open Go.ChangeShapes Go.WideShapes Go.ChangeAt Go.RowKit
set_option linter.unusedSimpArgs false
set_option linter.unusedVariables false
set_option maxRecDepth 8000

theorem sameFast_any {P Q : Nat → Prop} (f : Fst) (va vb : Value) (w : World) (ha : IsCode P w va f.code) (hb : IsCode Q w vb f.code) : Calls Try.prog 9 #[FsV f va, FsV f vb] w fun e w' => e = .returned (.bool true) ∧ Below w.heap.size w w' := by
  obtain ⟨fc, fn, fe, ft, code⟩ := f
  obtain ⟨aa, ca, rfl, -⟩ := id ha
  obtain ⟨ab, cb, rfl, -⟩ := id hb
  dsimp only at ha hb ⊢
  have hb2 := bel2 w (.cells #[.int .i64 fc, .string fn, .int .i64 fe, .int .i64 ft, .slice aa code.length ca] 31) (.cells #[.int .i64 fc, .string fn, .int .i64 fe, .int .i64 ft, .slice ab code.length cb] 31)
  go_enter Try.func9, Try.ntmps9
  go_wp2_with fail
  refine (sameCode_any code _ _ _ (ha.later goodI hb2) (hb.later goodI hb2)).mono ?_
  rintro e w1 ⟨rfl, hb3⟩
  go_wp2
  go_ret
  exact ⟨rfl, nstep hb2 hb3⟩
end Go.Proofs.Ythaefhojnjdheaa

/- InlineTells' walk. -/
namespace Go.Proofs.Ythaefhojnjdheaa
open Go.ChangeShapes Go.WideShapes Go.ChangeAt Go.RowKit
set_option linter.unusedSimpArgs false
set_option linter.unusedVariables false
set_option maxRecDepth 8000

theorem fastN_any {P Q : Nat → Prop} (X : QW) (c k : Int) (hm : methAt X.classes c k = none) (sites : List Int) (cv hv sv : Value) (w : World) (hC : IsClasses P w cv X.classes) (hH : IsHeap P w hv X.heap) (hS : IsInts Q w sv sites) :
    Calls Try.prog 8 #[WV cv hv X.epoch, .int .i64 c, .int .i64 k, sv] w fun e w' => MtPost w (noFast, false) e w' := by
  obtain ⟨ac, cc, rfl, hlc, hcc, -, hrowC⟩ := id hC
  obtain ⟨ah, ch, rfl, -⟩ := id hH
  unfold maxLen at hcc
  have hbW := bel2 w (.cells #[.slice ac X.classes.length cc, .slice ah X.heap.length ch, .int .i64 X.epoch] 25) (.cells #[.int .i64 0, .string ⟨#[]⟩, .int .i64 0, .int .i64 0, .slice none 0 0] 31)
  obtain ⟨k0, k1, k2, q0, q1, q2, q3, q4, qf, hzz⟩ := rbx_new w (.slice ac X.classes.length cc) (.slice ah X.heap.length ch) X.epoch
  have HQ := hid (mt_none (U := ((w.alloc (.cells #[.slice ac X.classes.length cc, .slice ah X.heap.length ch, .int .i64 X.epoch] 25)).alloc (.cells #[.int .i64 0, .string ⟨#[]⟩, .int .i64 0, .int .i64 0, .slice none 0 0] 31))) hbW)
  by_cases c1 : c < 0
  · have hd1 : decide (c < 0) = true := by simpa using c1
    clear c1
    go_enter Try.func8, Try.ntmps8
    go_upto_region 1 with (fail)
    generalize ((w.alloc (.cells #[.slice ac X.classes.length cc, .slice ah X.heap.length ch, .int .i64 X.epoch] 25)).alloc (.cells #[.int .i64 0, .string ⟨#[]⟩, .int .i64 0, .int .i64 0, .slice none 0 0] 31)) = U at *
    go_wp2
    refine bodyPost_ret (v := .tuple #[FsV noFast (.slice none 0 0), .bool false]) ?_ rfl HQ.out
    simp [results, Try.results8, go_sem, q0, q1, q2, q3, q4, noFast]
  · obtain ⟨qc, rfl⟩ : ∃ qc : Nat, c = (qc : Int) := ⟨c.toNat, by omega⟩
    have hd1 : decide ((qc : Int) < 0) = false := by simp
    by_cases c2 : X.classes.length ≤ qc
    · have hd2 : decide (X.classes.length ≤ qc) = true := by simpa using c2
      clear c1
      go_enter Try.func8, Try.ntmps8
      go_upto_region 1 with (fail)
      generalize ((w.alloc (.cells #[.slice ac X.classes.length cc, .slice ah X.heap.length ch, .int .i64 X.epoch] 25)).alloc (.cells #[.int .i64 0, .string ⟨#[]⟩, .int .i64 0, .int .i64 0, .slice none 0 0] 31)) = U at *
      go_wp2
      refine bodyPost_ret (v := .tuple #[FsV noFast (.slice none 0 0), .bool false]) ?_ rfl HQ.out
      simp [results, Try.results8, go_sem, q0, q1, q2, q3, q4, noFast]
    · have hd2 : decide (X.classes.length ≤ qc) = false := by simpa using c2
      by_cases c3 : k < 0
      · have hd3 : decide (k < 0) = true := by simpa using c3
        clear c1 c3
        go_enter Try.func8, Try.ntmps8
        go_upto_region 1 with (fail)
        generalize ((w.alloc (.cells #[.slice ac X.classes.length cc, .slice ah X.heap.length ch, .int .i64 X.epoch] 25)).alloc (.cells #[.int .i64 0, .string ⟨#[]⟩, .int .i64 0, .int .i64 0, .slice none 0 0] 31)) = U at *
        go_wp2
        refine bodyPost_ret (v := .tuple #[FsV noFast (.slice none 0 0), .bool false]) ?_ rfl HQ.out
        simp [results, Try.results8, go_sem, q0, q1, q2, q3, q4, noFast]
      · obtain ⟨tc, rfl⟩ : ∃ tc : Nat, k = (tc : Int) := ⟨k.toNat, by omega⟩
        have hd3 : decide ((tc : Int) < 0) = false := by simp
        obtain ⟨xc, hxc⟩ : ∃ xc, X.classes[qc]? = some xc := ⟨_, List.getElem?_eq_getElem (by omega)⟩
        obtain ⟨b1, o1, rfl, -, -, -, -, -, mv, u3, hms⟩ := hrowC qc xc hxc
        obtain ⟨am, cm, rfl, hlm, hcm, -, -⟩ := hms
        unfold maxLen at hcm
        have c4 : xc.methods.length ≤ tc := by
          unfold methAt clsAt at hm
          simp [hxc] at hm
          exact hm
        have hd4 : decide (xc.methods.length ≤ tc) = true := by simpa using c4
        replace u3 := cell_later hbW u3
        have hq1 : (qc : Int) < (X.classes.length : Int) := by omega
        have hq0 : (0 : Int) ≤ (qc : Int) := by omega
        clear c1 c3 hrowC hm
        go_enter Try.func8, Try.ntmps8
        go_upto_region 1 with (fail)
        generalize ((w.alloc (.cells #[.slice (some ⟨b1, o1, none⟩) X.classes.length cc, .slice ah X.heap.length ch, .int .i64 X.epoch] 25)).alloc (.cells #[.int .i64 0, .string ⟨#[]⟩, .int .i64 0, .int .i64 0, .slice none 0 0] 31)) = U at *
        go_wp2
        refine bodyPost_ret (v := .tuple #[FsV noFast (.slice none 0 0), .bool false]) ?_ rfl HQ.out
        simp [results, Try.results8, go_sem, q0, q1, q2, q3, q4, noFast]
theorem fast_any {P Q : Nat → Prop} (X : QW) (hX : rightE X = 0) (c k : Int) (sites : List Int) (cv hv sv : Value) (w : World) (hC : IsClasses P w cv X.classes) (hH : IsHeap P w hv X.heap) (hS : IsInts Q w sv sites) :
    Calls Try.prog 8 #[WV cv hv X.epoch, .int .i64 c, .int .i64 k, sv] w fun e w' => MtPost w (methodA X c k sites) e w' := by
  unfold methodA
  cases hm : methAt X.classes c k with
  | none => exact fastN_any X c k hm sites cv hv sv w hC hH hS
  | some m => exact fastC_any X hX c k m hm sites cv hv sv w hC hH hS
theorem tells_walk {P Q : Nat → Prop} (X : QW) (c k : Int) (sites : List Int) (cv hv sv : Value) (w : World) (hC : IsClasses P w cv X.classes) (hH : IsHeap P w hv X.heap) (hS : IsInts Q w sv sites) :
    Calls Try.prog 3 #[WV cv hv X.epoch, .int .i64 c, .int .i64 k, sv] w fun e w' => e = .returned (.bool true) ∧ Below w.heap.size w w' := by
  obtain ⟨ac, cc, rfl, -, hcc, -, -⟩ := id hC
  obtain ⟨ah, ch, rfl, -⟩ := id hH
  obtain ⟨asv, cs, rfl, hls, hcs, -, -⟩ := id hS
  unfold maxLen at hcs hcc
  have hb0 := bel1 w (.cells #[.slice ac X.classes.length cc, .slice ah X.heap.length ch, .int .i64 X.epoch] 25)
  have hB : Rm P Q w (.slice ac X.classes.length cc) (.slice ah X.heap.length ch) (.slice asv sites.length cs) X sites (w.alloc (.cells #[.slice ac X.classes.length cc, .slice ah X.heap.length ch, .int .i64 X.epoch] 25)) :=
    ⟨heap_alloc_new _ _, hC.later goodC hb0, hH.later goodO hb0, hS.later goodN hb0, hb0⟩
  clear hb0
  go_enter Try.func3, Try.ntmps3
  go_upto_region 1 with (fail)
  generalize (w.alloc (.cells #[.slice ac X.classes.length cc, .slice ah X.heap.length ch, .int .i64 X.epoch] 25)) = W0 at *
  clear hC hH hS
  obtain ⟨⟨k0, k1, k2⟩, -⟩ := box3 hB.box
  go_wp2_with fail
  refine (rright_any X _ _ _ hB.C hB.H).mono ?_
  rintro e w2 ⟨rfl, hb1⟩
  replace hB := hB.later hb1
  clear hb1 k0 k1 k2
  by_cases hr : rightE X = 0
  · have HR : Hid (rightE X = 0) := hr
    rw [hr]
    clear hr
    obtain ⟨⟨k0, k1, k2⟩, -⟩ := box3 hB.box
    go_wp2_with fail
    refine (method_any X HR.out c k sites _ _ _ _ hB.C hB.H hB.S).mono ?_
    rintro e w3 ⟨a, cap, rfl, hK, hb3⟩
    replace hB := hB.later hb3
    clear hb3 k0 k1 k2
    obtain ⟨R, HM⟩ : ∃ R, Hid (methodA X c k sites = R) := ⟨_, rfl⟩
    rw [HM.out] at hK ⊢
    obtain ⟨⟨fc, fn, fe, ft, code⟩, ok⟩ := R
    dsimp only at hK ⊢
    have hbf := bel1 w3 (.cells #[.int .i64 fc, .string fn, .int .i64 fe, .int .i64 ft, .slice a code.length cap] 31)
    have hKf := hK.later goodI hbf
    have hBf := hB.later hbf
    obtain ⟨⟨k0, k1, k2⟩, -⟩ := box3 hBf.box
    have fb : (w3.alloc (.cells #[.int .i64 fc, .string fn, .int .i64 fe, .int .i64 ft, .slice a code.length cap] 31)).heap[w3.heap.size]? = some (.cells #[.int .i64 fc, .string fn, .int .i64 fe, .int .i64 ft, .slice a code.length cap] 31 (0, 0)) := heap_alloc_new _ _
    go_upto_region 4 with (fail)
    generalize hW4 : (w3.alloc (.cells #[.int .i64 fc, .string fn, .int .i64 fe, .int .i64 ft, .slice a code.length cap] 31)) = W4 at *
    clear hbf hB hW4 hK
    generalize w3.heap.size = bf at *
    go_wp2_with fail
    refine (fast_any X HR.out c k sites _ _ _ _ hBf.C hBf.H hBf.S).mono ?_
    rintro e w5 ⟨a5, cap5, rfl, hK5, hb5⟩
    rw [HM.out] at hK5 ⊢
    dsimp only at hK5 ⊢
    replace hBf := hBf.later hb5
    have hKf5 := hKf.later goodI hb5
    have fb5 := box_later' fb hb5
    clear hb5 k0 k1 k2 fb hKf
    have hb6 := bel1 w5 (.cells #[.int .i64 fc, .string fn, .int .i64 fe, .int .i64 ft, .slice a5 code.length cap5] 31)
    have hK6 := hK5.later goodI hb6
    have hKf6 := hKf5.later goodI hb6
    have hB6 := hBf.later hb6
    have fb6 := box_later' fb5 hb6
    have gc : ∀ (o : Nat), (w5.alloc (.cells #[.int .i64 fc, .string fn, .int .i64 fe, .int .i64 ft, .slice a5 code.length cap5] 31)).cell? ⟨bf, o, none⟩ = (#[.int .i64 fc, .string fn, .int .i64 fe, .int .i64 ft, .slice a code.length cap] : Array Value)[o]? := fun o => by rw [cell_of_row _ _ _ _ _ _ fb6]
    have g0 := gc 0
    have g1 := gc 1
    have g2 := gc 2
    have g3 := gc 3
    have g4 := gc 4
    simp only [List.getElem?_toArray, List.getElem?_cons_zero, List.getElem?_cons_succ] at g0 g1 g2 g3 g4
    clear gc
    go_wp2_with fail
    refine (sameFast_any ⟨fc, fn, fe, ft, code⟩ _ _ _ hKf6 hK6).mono ?_
    rintro e w7 ⟨rfl, hb7⟩
    have hbel := nstep hB6.bel hb7
    go_wp2
    go_ret
    exact ⟨by simp, hbel⟩
  · have hbel := hB.bel
    have hrb : (rightE X != 0) = true := by simpa using hr
    go_wp2
    go_ret
    exact ⟨rfl, hbel⟩
end Go.Proofs.Ythaefhojnjdheaa

/- InlineTells: of every right world, class, method and classes at its sends, Method tells the fast code that the document tells, and whether there is some. For every input. -/
namespace Go.Proofs.Ythaefhojnjdheaa
open Go.ChangeShapes Go.WideShapes Go.ChangeAt Go.RowKit Go.Deep
set_option linter.unusedSimpArgs false
set_option linter.unusedVariables false
set_option maxRecDepth 8000

section
variable {H : Type} {enc : TypeId × Value → H} {w : World} {base : Nat} {spare : Nat → Bool} {held : Bool}
theorem bytesI3 : Try.prog.bytesOf 3 = 8 := by kernel_rfl
theorem read_int {n : Nat} {cs : List Value} {x : DataW H × List MemPlace} (hl : cs.length = 1) (h : DataW.trod enc Try.prog w base spare held n 3 cs = some x) : ∃ y, IntC Tru w (fun k => cs[k]?) y := by
  obtain ⟨a, e0, -, -⟩ := DataW.trod_int Try.underlying3 h
  subst e0
  exact ⟨a, rfl⟩
theorem read_ints {fuel : Nat} {v : Value} {x : DataW H × List MemPlace} (h : DataW.trod enc Try.prog w base spare held fuel 26 [v] = some x) (hw : ∀ n ∈ x.1.weights Try.prog 26, n ≤ 140737488351232) : ∃ xs, IsInts Tru w v xs :=
  read_row goodN Try.underlying26 cells3 bytesI3 (by omega) (fun n cs x hl h hw => read_int hl h) h hw
theorem open_ints {r : Reach} {b0 : Nat} {v : Value} {d : DataW H} {p : List MemPlace} (hv : Value.okWide Try.prog w r b0 26 v) (h : DataW.Trod enc Try.prog w base spare held 26 v d p) (hw : ∀ n ∈ d.weights Try.prog 26, n ≤ 140737488351232) : ∃ xs, IsInts Tru w v xs := by
  obtain ⟨fuel, hf⟩ := h
  obtain ⟨a, len, cap, rfl⟩ := okWide_slice Try.underlying26 hv
  exact read_ints hf hw
end

set_option maxRecDepth 100000 in
theorem tl_lifted (os : Os) (started : os.Started) (H : Type) (enc : TypeId × Value → H) :
    ReturnsInHanded {} Try.checked os 3 .any (Rows.inlineTellsSpec.pre6 enc Try.prog Try.f3 Rows.inlineTellsRow.domain false) (Rows.inlineTellsSpec.post enc Try.prog Try.f3 false true false false) := by
  refine returnsInHanded_of_change_sized (C := Try.checked) own started (by kernel_rfl) Try.func3
    (ChangeSpec.witness6 (enc := enc) (C := Try.checked) false ⟨#[], #[WV (.slice none 0 0) (.slice none 0 0) 0, .int .i64 0, .int .i64 0, .slice none 0 0], []⟩ 8 (by kernel_rfl) (by kernel_rfl) (by kernel_rfl) (by kernel_rfl)) ?_
  intro W base args ds gs before hval0 hW hcnd hsz0 _
  have hval : ∀ (j : Nat) t v, Try.f3.params[j]? = some t → args[j]? = some v → Value.okWide Try.prog W .any base t v := hval0
  have hsz : (DataW.weightsEach Try.prog (Try.f3.params.toList ++ Rows.inlineTellsSpec.plain.varTypes Try.prog) (ds ++ gs)).all (· ≤ reachBytes) = true := hsz0
  have hW' := hW
  obtain ⟨p, q, hA0, hV, rfl, hfz, hnd⟩ := hW
  have hA : DataW.TrodAll enc Try.prog W 0 (fun _ => true) true Try.f3.params.toList args.toList ds p := hA0
  rw [Try.params3] at hA hval hsz
  obtain ⟨v0, vs0, d0, ds0, p0, q0, hargs, rfl, rfl, h0, r0⟩ := trodAll_cons hA
  obtain ⟨v1, vs1, d1, ds1, p1, q1, rfl, rfl, rfl, h1, r1⟩ := trodAll_cons r0
  obtain ⟨v2, vs2, d2, ds2, p2, q2, rfl, rfl, rfl, h2, r2⟩ := trodAll_cons r1
  obtain ⟨v3, vs3, d3, ds3, p3, q3, rfl, rfl, rfl, h3, r3⟩ := trodAll_cons r2
  obtain ⟨rfl, rfl, rfl⟩ := trodAll_nil r3
  obtain rfl : args = #[v0, v1, v2, v3] := by cases args; simp_all
  obtain ⟨rfl, rfl⟩ := trodVars_none hV
  have lt : ∀ {t : TypeId} {v : Value} {d : DataW H} {p : List MemPlace}, DataW.Trod enc Try.prog W 0 (fun _ => true) true t v d p → ∀ x ∈ p, x.block < W.heap.size := fun h => by obtain ⟨m, hm⟩ := h; exact DataW.trod_lt m _ _ _ hm
  have big : ∀ {j : Nat} {t : TypeId} {d : DataW H}, ([25, 3, 3, 26] : List TypeId)[j]? = some t → [d0, d1, d2, d3][j]? = some d → ∀ n ∈ d.weights Try.prog t, n ≤ 140737488351232 := fun {j t d} ht hd n hn => by
    have := List.all_eq_true.1 hsz _ (DataW.weights_mem_each (j := j) (t := t) (by exact ht) (by exact hd) n hn)
    exact of_decide_eq_true this
  have k0 := h0
  have k1 := h1
  have k2 := h2
  have k3 := h3
  obtain ⟨X0, cv0, hv0, rfl, hC0, hH0⟩ := open_world (hval 0 25 v0 rfl rfl) h0 (big (j := 0) rfl rfl)
  obtain ⟨a1, rfl, -, -, -⟩ := open_int Try.underlying3 (hval 1 3 v1 rfl rfl) h1
  obtain ⟨a2, rfl, -, -, -⟩ := open_int Try.underlying3 (hval 2 3 v2 rfl rfl) h2
  obtain ⟨x3, m3⟩ := open_ints (hval 3 26 v3 rfl rfl) h3 (big (j := 3) rfl rfl)
  clear hA0 hval0
  refine (tells_walk X0 a1 a2 x3 _ _ _ W hC0 hH0 m3).mono fun e W' ⟨he, bel⟩ => ?_
  subst he
  have again : ∀ {t : TypeId} {v : Value} {d : DataW H} {p : List MemPlace}, Try.prog.readableRec t = true → t < Try.prog.types.size → DataW.Trod enc Try.prog W 0 (fun _ => true) true t v d p → DataW.Trod enc Try.prog W' 0 (fun b => decide (b < W.heap.size)) true t v d p := fun hr ht h => Below.trod laidOut hr ht h bel (lt h)
  exact ⟨_, rfl, _, _, _, [], _, [], hW', trodAll_mk1 (shut_bool Try.underlying4 _), (trodAll_cons_mk (again (by kernel_rfl) (of_decide_eq_true (by kernel_rfl)) k0) (trodAll_cons_mk (again (by kernel_rfl) (of_decide_eq_true (by kernel_rfl)) k1) (trodAll_cons_mk (again (by kernel_rfl) (of_decide_eq_true (by kernel_rfl)) k2) (trodAll_cons_mk (again (by kernel_rfl) (of_decide_eq_true (by kernel_rfl)) k3) trodAll_mk0)))), rfl, bel.frame _, fun h => by cases h⟩

theorem tl_over : Rows.inlineTellsRow.holds Try.pinned (OpenSpec.ofChange Rows.inlineTellsSpec) :=
  OpenClaim.holds_of_wide 3 Try.f3 rfl rfl rfl rfl rfl rfl rfl ⟨rfl, rfl, rfl, rfl, rfl⟩ rfl rfl rfl rfl rfl (by kernel_rfl) Try.func3 (by kernel_rfl)
    (of_decide_eq_true (by kernel_rfl)) (by unfold Func.isWrapper; first | (rw [if_pos (by decide +kernel)]; kernel_rfl) | (rw [if_neg (by decide +kernel)]; exact ⟨rfl, rfl⟩))
    (fun os started H enc _ => tl_lifted os started H enc)

/-- The statement. -/
theorem inlineTells_holds : Rows.InlineTellsSaid := tl_over
#print axioms inlineTells_holds

end Go.Proofs.Ythaefhojnjdheaa

