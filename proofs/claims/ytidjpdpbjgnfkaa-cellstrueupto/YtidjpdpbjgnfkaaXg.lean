/- The reference: Get, SameCells. -/
import Derived.Test.YtidjpdpbjgnfkaaXa
import Derived.Test.YtidjpdpbjgnfkaaTi
namespace Go.Proofs.Ytidjpdpbjgnfkaa
open Go.ChangeShapes Go.WideShapes Go.ChangeAt Go.RowKit
set_option linter.unusedSimpArgs false
set_option linter.unusedVariables false
set_option maxRecDepth 8000

set_option maxHeartbeats 2000000 in
theorem sameCells_any {P Q : Nat → Prop} (xs : List QE) (va vb : Value) (w : World) (ha : IsCells P w va xs) (hb : IsCells Q w vb xs) : Calls Try.prog 11 #[va, vb] w fun e w' => e = .returned (.bool true) ∧ Below w.heap.size w w' := by
  obtain ⟨ad, cap, rfl, hl, hcap, -, hrow⟩ := ha
  obtain ⟨ad', cap', rfl, hl', hcap', -, hrow'⟩ := hb
  unfold maxLen at hcap hcap'
  go_enter Try.func11, Try.ntmps11
  go_wp2
  go_loopg [13] xs.length (fun g c wr => ∃ j : Nat, j + g = xs.length ∧ c = .int .i64 j ∧ Below w.heap.size w wr)
  case atStart => exact ⟨0, by omega, rfl, Below.refl _ _⟩
  case round =>
    obtain ⟨j, hj, rfl, hbel⟩ := hrel
    by_cases hlt : j < xs.length
    · obtain ⟨b, o, rfl, -, q0, q1, q2, q3, q4, lv, q5, ql⟩ := hrow j xs[j] (by simp [hlt])
      obtain ⟨b', o', rfl, -, k0, k1, k2, k3, k4, lv', k5, kl⟩ := hrow' j xs[j] (by simp [hlt])
      generalize xs[j] = x at *
      simp only [Nat.add_zero] at q0 k0
      replace q0 := cell_later hbel q0
      replace q1 := cell_later hbel q1
      replace q2 := cell_later hbel q2
      replace q3 := cell_later hbel q3
      replace q4 := cell_later hbel q4
      replace q5 := cell_later hbel q5
      replace ql := ql.later goodL hbel
      replace k0 := cell_later hbel k0
      replace k1 := cell_later hbel k1
      replace k2 := cell_later hbel k2
      replace k3 := cell_later hbel k3
      replace k4 := cell_later hbel k4
      replace k5 := cell_later hbel k5
      replace kl := kl.later goodL hbel
      have he := fun w => neqS x.site x.site w
      rw [(eqS_iff x.site x.site).2 rfl] at he
      have hj1 : (j : Int) < (xs.length : Int) := by omega
      have hj0 : (0 : Int) ≤ (j : Int) := by omega
      clear hrow hrow'
      go_wp2
      go_quiet (first | (go_at_call 30; refine Calls.quiet_of (sameLines_any x.lines _ _ _ (ql.later goodL (below_drewN (Below.refl _ _) _)) (kl.later goodL (below_drewN (Below.refl _ _) _)))))
      go_wp2
      go_roundg (gk - 1)
      case measure => omega
      case rel => exact ⟨j + 1, by omega, by go_num, nstep hbel (below_drewN (Below.refl _ _) _)⟩
    · go_wp2
      go_ret
      exact ⟨rfl, hbel⟩

theorem getE_cons (x : QE) (r : List QE) (s : QS) (ep c : Int) : getE (x :: r) s ep c = if eqS x.site s then (if x.epoch = ep then lineE x.lines c else -1) else getE r s ep c := by
  unfold getE
  by_cases h : eqS x.site s = true <;> simp [h]
theorem lineE_cons (y : QL) (r : List QL) (c : Int) : lineE (y :: r) c = if y.cls = c then y.found else lineE r c := by
  unfold lineE
  by_cases h : y.cls = c
  · simp [h]
  · have hb : (y.cls == c) = false := by simpa using h
    simp [h, hb]
theorem drop_at {α : Type} {xs : List α} {j : Nat} {x : α} (h : xs[j]? = some x) : xs.drop j = x :: xs.drop (j + 1) := by
  have hj := lt_of_get h
  rw [List.drop_eq_getElem_cons hj]
  rw [List.getElem?_eq_getElem hj] at h
  cases h
  rfl

set_option maxHeartbeats 2000000 in
theorem rget_any {P : Nat → Prop} (xs : List QE) (v : Value) (s : QS) (ep c : Int) (w : World) (hh : IsCells P w v xs) : Calls Try.prog 10 #[v, SV s, .int .i64 ep, .int .i64 c] w fun e w' => e = .returned (.int .i64 (getE xs s ep c)) ∧ Below w.heap.size w w' := by
  obtain ⟨ad, cap, rfl, hl, hcap, -, hrow⟩ := hh
  unfold maxLen at hcap
  have hs0 := siteNew w s 28
  have hb0 := bel1 w (.cells #[.int .i64 s.cls, .string s.name, .int .i64 s.at'] 28)
  go_enter Try.func10, Try.ntmps10
  go_wp2
  go_loopg [15] xs.length (fun g i wr => ∃ j : Nat, j + g = xs.length ∧ i = .int .i64 j ∧ getE xs s ep c = getE (xs.drop j) s ep c ∧ Below w.heap.size w wr ∧ SiteAt wr w.heap.size s)
  case atStart => exact ⟨0, by omega, rfl, rfl, hb0, hs0⟩
  case round =>
    obtain ⟨j, hj, rfl, hE, hbel, hsj⟩ := hrel
    have HE : Hid (getE xs s ep c = getE (xs.drop j) s ep c) := hE
    clear hs0 hb0 hE
    by_cases hlt : j < xs.length
    · obtain ⟨b, o, rfl, -, q0, q1, q2, q3, q4, lv, q5, ql⟩ := hrow j xs[j] (by simp [hlt])
      have hxj : Hid (xs[j]? = some xs[j]) := by show _ = _; simp [hlt]
      generalize xs[j] = x at *
      have HD : Hid (getE (xs.drop j) s ep c = if eqS x.site s then (if x.epoch = ep then lineE x.lines c else -1) else getE (xs.drop (j + 1)) s ep c) := by show _ = _; rw [drop_at hxj.out, getE_cons]
      simp only [Nat.add_zero] at q0
      have v0 := cell_later hbel q0
      have v1 := cell_later hbel q1
      have v2 := cell_later hbel q2
      have v3 := cell_later hbel q3
      have v4 := cell_later hbel q4
      have v5 := cell_later hbel q5
      have hsl := ql.later goodL hbel
      clear q0 q1 q2 q3 q4 q5 ql hrow
      obtain ⟨ad2, cap2, rfl, hl2, hcap2, -, -⟩ := id hsl
      unfold maxLen at hcap2
      obtain ⟨s0, s1, s2⟩ := id hsj
      have s0' := fun y => cell_later (bel1 wr y) s0
      have s1' := fun y => cell_later (bel1 wr y) s1
      have s2' := fun y => cell_later (bel1 wr y) s2
      have he := fun w => eqlS x.site s w
      clear s0 s1 s2
      have hj1 : (j : Int) < (xs.length : Int) := by omega
      have hj0 : (0 : Int) ≤ (j : Int) := by omega
      have hbx := bel1 wr (Obj.cells #[Value.int IntKind.i64 x.site.cls, Value.string x.site.name, Value.int IntKind.i64 x.site.at', Value.int IntKind.i64 x.epoch, Value.bool x.many, Value.slice ad2 x.lines.length cap2] 49)
      have hbxE := boxE_new wr x (Value.slice ad2 x.lines.length cap2) 49
      have hlx := hsl.later goodL hbx
      have hbx' := nstep hbel hbx
      by_cases hp : eqS x.site s = true
      · have HG : Hid (getE xs s ep c = if x.epoch = ep then lineE x.lines c else -1) := by show _ = _; rw [HE.out, HD.out, if_pos hp]
        rw [hp] at he
        clear hp HE HD
        go_wp2
        generalize (wr.alloc (Obj.cells #[Value.int IntKind.i64 x.site.cls, Value.string x.site.name, Value.int IntKind.i64 x.site.at', Value.int IntKind.i64 x.epoch, Value.bool x.many, Value.slice ad2 x.lines.length cap2] 49)) = W1 at *
        clear hbx he s0' s1' s2' v0 v1 v2 v3 v4 v5 hbel hsj hsl
        generalize wr.heap.size = TB at *
        go_loopg [26] x.lines.length (fun g i ws => ∃ q : Nat, q + g = x.lines.length ∧ i = .int .i64 q ∧ (x.epoch = ep → lineE x.lines c = lineE (x.lines.drop q) c) ∧ Below w.heap.size w ws ∧ BoxE ws TB x (.slice ad2 x.lines.length cap2) ∧ IsLines P ws (.slice ad2 x.lines.length cap2) x.lines)
        case atStart => exact ⟨0, by omega, rfl, fun _ => rfl, hbx', hbxE, hlx⟩
        case round =>
          obtain ⟨q, hq, rfl, hL, hbq, hbq2, hlq⟩ := hrel
          have HL : Hid (x.epoch = ep → lineE x.lines c = lineE (x.lines.drop q) c) := hL
          clear hbx' hlx hL hbxE
          by_cases hltq : q < x.lines.length
          · obtain ⟨ad3, cap3, e3, -, -, -, hrow3⟩ := id hlq
            simp only [Value.slice.injEq] at e3
            obtain ⟨rfl, -, -⟩ := e3
            obtain ⟨b3, o3, rfl, -, y0, y1⟩ := hrow3 q x.lines[q] (by simp [hltq])
            have hyq : Hid (x.lines[q]? = some x.lines[q]) := by show _ = _; simp [hltq]
            generalize x.lines[q] = y at *
            simp only [Nat.add_zero] at y0
            have HD : Hid (lineE (x.lines.drop q) c = if y.cls = c then y.found else lineE (x.lines.drop (q + 1)) c) := by show _ = _; rw [drop_at hyq.out, lineE_cons]
            have hq1 : (q : Int) < (x.lines.length : Int) := by omega
            have hq0 : (0 : Int) ≤ (q : Int) := by omega
            have hby := bel1 wr (Obj.cells #[Value.int IntKind.i64 y.cls, Value.int IntKind.i64 y.found] 55)
            obtain ⟨c0, c1, c2, c3, c4, c5⟩ := hbq2.later hby
            clear hrow3
            by_cases hA : x.epoch = ep
            · have hdA : (x.epoch == ep) = true := by simpa using hA
              have HA : Hid (x.epoch = ep) := hA
              clear hA
              by_cases hB : y.cls = c
              · have hdB : (y.cls == c) = true := by simpa using hB
                have HR : Hid (getE xs s ep c = y.found) := by show _ = _; rw [HG.out, if_pos HA.out, HL.out HA.out, HD.out, if_pos hB]
                clear hB
                go_wp2
                go_ret
                exact ⟨ret_i HR.out.symm, nstep hbq hby⟩
              · have hdB : (y.cls == c) = false := by simpa using hB
                have HR : Hid (lineE (x.lines.drop q) c = lineE (x.lines.drop (q + 1)) c) := by show _ = _; rw [HD.out, if_neg hB]
                go_wp2
                go_roundg (x.lines.length - (q + 1))
                case measure => omega
                case rel => exact ⟨q + 1, by omega, by go_num, fun h => (HL.out h).trans HR.out, nstep hbq hby, hbq2.later hby, hlq.later goodL hby⟩
            · have hdA : (x.epoch == ep) = false := by simpa using hA
              go_wp2
              go_roundg (x.lines.length - (q + 1))
              case measure => omega
              case rel => exact ⟨q + 1, by omega, by go_num, fun h => absurd h hA, nstep hbq hby, hbq2.later hby, hlq.later goodL hby⟩
          · have HR : Hid (getE xs s ep c = -1) := by
              show _ = _
              rw [HG.out]
              by_cases hA : x.epoch = ep
              · rw [if_pos hA, HL.out hA, List.drop_eq_nil_of_le (by omega)]; rfl
              · rw [if_neg hA]
            go_wp2
            go_ret
            exact ⟨ret_i HR.out.symm, hbq⟩
      · have hp' : eqS x.site s = false := by simpa using hp
        have HG : Hid (getE xs s ep c = getE (xs.drop (j + 1)) s ep c) := by show _ = _; rw [HE.out, HD.out, if_neg hp]
        rw [hp'] at he
        clear hp hp' HE HD
        go_wp2
        go_roundg (gk - 1)
        case measure => omega
        case rel => exact ⟨j + 1, by omega, by go_num, HG.out, hbx', hsj.later hbx⟩
    · have HR : Hid (getE xs s ep c = -1) := by show _ = _; rw [HE.out, List.drop_eq_nil_of_le (by omega)]; rfl
      go_wp2
      go_ret
      exact ⟨ret_i HR.out.symm, hbel⟩
end Go.Proofs.Ytidjpdpbjgnfkaa
