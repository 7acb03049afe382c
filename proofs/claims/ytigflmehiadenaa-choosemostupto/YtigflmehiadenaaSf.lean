/- Tallies that may be; ChooseTells' walk. -/
import Derived.Test.YtigflmehiadenaaSe
import Derived.Test.YtigflmehiadenaaNb
namespace Go.Proofs.Ytigflmehiadenaa
open Go.ChangeShapes Go.WideShapes Go.ChangeAt Go.RowKit
set_option linter.unusedSimpArgs false
set_option linter.unusedVariables false
set_option maxRecDepth 8000

def smallB (t : List QT) : Bool := t.all fun x => x.lines.all fun y => decide (0 ≤ y.found ∧ y.found ≤ 1000000)
theorem smallB_is {t : List QT} (h : smallB t = true) : ∀ x ∈ t, ∀ y ∈ x.lines, 0 ≤ y.found ∧ y.found ≤ 1000000 := by
  intro x hx y hy
  have := List.all_eq_true.1 (List.all_eq_true.1 h x hx) y hy
  simpa using this
theorem linesAt_mem {t : List QT} {s : QS} {y : QL} (h : y ∈ linesAt t s) : ∃ x ∈ t, y ∈ x.lines := by
  unfold linesAt at h
  rw [List.mem_flatMap] at h
  obtain ⟨x, hx, hy⟩ := h
  exact ⟨x, (List.mem_filter.1 hx).1, hy⟩
theorem small_most {t : List QT} (h : smallB t = true) (s : QS) : (mostL (linesAt t s)).found ≤ 1000000 :=
  mostL_high _ _ (by omega) fun y hy => by
    obtain ⟨x, hx, hy⟩ := linesAt_mem hy
    exact (smallB_is h x hx y hy).2
theorem small_no {t : List QT} {j q : Nat} {x : QT} {y : QL} (hx : t[j]? = some x) (hy : x.lines[q]? = some y) (h : ¬ (0 ≤ y.found ∧ y.found ≤ 1000000)) : smallB t = false := by
  cases hs : smallB t with
  | false => rfl
  | true => exact absurd (smallB_is hs x (List.mem_of_getElem? hx) y (List.mem_of_getElem? hy)) h
theorem small_yes {t : List QT} (h : ∀ (j : Nat) (x : QT), t[j]? = some x → ∀ (q : Nat) (y : QL), x.lines[q]? = some y → 0 ≤ y.found ∧ y.found ≤ 1000000) : smallB t = true := by
  refine List.all_eq_true.2 fun x hx => List.all_eq_true.2 fun y hy => ?_
  obtain ⟨j, hj, rfl⟩ := List.mem_iff_getElem.1 hx
  obtain ⟨q, hq, rfl⟩ := List.mem_iff_getElem.1 hy
  simpa using h j _ (by rw [List.getElem?_eq_getElem hj]) q _ (by rw [List.getElem?_eq_getElem hq])

set_option maxHeartbeats 1000000 in
theorem small_any {P : Nat → Prop} (xs : List QT) (v : Value) (w : World) (hh : IsTallies P w v xs) : Calls Try.prog 6 #[v] w fun e w' => e = .returned (.bool (smallB xs)) ∧ Below w.heap.size w w' := by
  obtain ⟨ad, cap, rfl, hl, hcap, -, hrow⟩ := hh
  unfold maxLen at hcap
  go_enter Try.func6, Try.ntmps6
  go_wp2
  go_loopg [9] xs.length (fun g i wr => ∃ j : Nat, j + g = xs.length ∧ i = .int .i64 j ∧ Below w.heap.size w wr ∧ ∀ (j' : Nat) (x : QT), j' < j → xs[j']? = some x → ∀ (q : Nat) (y : QL), x.lines[q]? = some y → 0 ≤ y.found ∧ y.found ≤ 1000000)
  case atStart => exact ⟨0, by omega, rfl, Below.refl _ _, fun j' x h => by omega⟩
  case round =>
    obtain ⟨j, hj, rfl, hR, hno⟩ := hrel
    have HN : Hid (∀ (j' : Nat) (x : QT), j' < j → xs[j']? = some x → ∀ (q : Nat) (y : QL), x.lines[q]? = some y → 0 ≤ y.found ∧ y.found ≤ 1000000) := hno
    clear hno
    by_cases hlt : j < xs.length
    · obtain ⟨b, o, rfl, -, q0, q1, q2, lv, q3, ql⟩ := hrow j xs[j] (by simp [hlt])
      have hxj : Hid (xs[j]? = some xs[j]) := by show _ = _; simp [hlt]
      generalize xs[j] = x at *
      simp only [Nat.add_zero] at q0
      obtain ⟨ad2, cap2, rfl, hl2, hcap2, -, -⟩ := id ql
      unfold maxLen at hcap2
      have hj1 : (j : Int) < (xs.length : Int) := by omega
      have hj0 : (0 : Int) ≤ (j : Int) := by omega
      have v0 := cell_later hR q0
      have v1 := cell_later hR q1
      have v2 := cell_later hR q2
      have v3 := cell_later hR q3
      have hbx := bel1 wr (Obj.cells #[Value.int IntKind.i64 x.site.cls, Value.string x.site.name, Value.int IntKind.i64 x.site.at', Value.slice ad2 x.lines.length cap2] 46)
      clear hrow
      go_wp2
      have hR1 := nstep hR hbx
      have hl1 := ql.later goodL hR1
      generalize (wr.alloc (Obj.cells #[Value.int IntKind.i64 x.site.cls, Value.string x.site.name, Value.int IntKind.i64 x.site.at', Value.slice ad2 x.lines.length cap2] 46)) = W1 at *
      clear q0 q1 q2 q3 ql hR v0 v1 v2 v3 hbx
      go_loopg [16] x.lines.length (fun g i wr => ∃ q : Nat, q + g = x.lines.length ∧ i = .int .i64 q ∧ Below w.heap.size w wr ∧ IsLines P wr (.slice ad2 x.lines.length cap2) x.lines ∧ ∀ (q' : Nat) (y : QL), q' < q → x.lines[q']? = some y → 0 ≤ y.found ∧ y.found ≤ 1000000)
      case atStart => exact ⟨0, by omega, rfl, hR1, hl1, fun q' y h => by omega⟩
      case round =>
        obtain ⟨q, hq, rfl, hR, hlq, hno⟩ := hrel
        have HQ : Hid (∀ (q' : Nat) (y : QL), q' < q → x.lines[q']? = some y → 0 ≤ y.found ∧ y.found ≤ 1000000) := hno
        clear hR1 hl1 hno
        by_cases hltq : q < x.lines.length
        · obtain ⟨ad3, cap3, e3, -, -, -, hrow3⟩ := id hlq
          simp only [Value.slice.injEq] at e3
          obtain ⟨rfl, -, -⟩ := e3
          obtain ⟨b3, o3, rfl, -, y0, y1⟩ := hrow3 q x.lines[q] (by simp [hltq])
          have hyq : Hid (x.lines[q]? = some x.lines[q]) := by show _ = _; simp [hltq]
          generalize x.lines[q] = y at *
          simp only [Nat.add_zero] at y0
          have hq1 : (q : Int) < (x.lines.length : Int) := by omega
          have hq0 : (0 : Int) ≤ (q : Int) := by omega
          have hby := bel1 wr (Obj.cells #[Value.int IntKind.i64 y.cls, Value.int IntKind.i64 y.found] 48)
          clear hrow3
          by_cases hA : y.found < 0
          · have hd : decide (y.found < 0) = true := by simpa using hA
            have HF : Hid (smallB xs = false) := small_no hxj.out hyq.out (by omega)
            clear hA
            go_wp2
            go_ret
            exact ⟨ret_b HF.out.symm, nstep hR hby⟩
          · have hd : decide (y.found < 0) = false := by simpa using hA
            by_cases hB : 1000000 < y.found
            · have hd2 : decide (1000000 < y.found) = true := by simpa using hB
              have HF : Hid (smallB xs = false) := small_no hxj.out hyq.out (by omega)
              clear hA hB
              go_wp2
              go_ret
              exact ⟨ret_b HF.out.symm, nstep hR hby⟩
            · have hd2 : decide (1000000 < y.found) = false := by simpa using hB
              have HF : Hid (0 ≤ y.found ∧ y.found ≤ 1000000) := ⟨by omega, by omega⟩
              clear hA hB
              go_wp2
              go_roundg (x.lines.length - (q + 1))
              case measure => omega
              case rel =>
                refine ⟨q + 1, by omega, by go_num, nstep hR hby, hlq.later goodL hby, fun q' z hq' hz => ?_⟩
                by_cases h : q' = q
                · subst h; rw [hyq.out] at hz; cases hz; exact HF.out
                · exact HQ.out q' z (by omega) hz
        · obtain rfl : q = x.lines.length := by omega
          go_wp2
          go_roundg (xs.length - (j + 1))
          case measure => omega
          case rel =>
            refine ⟨j + 1, by omega, by go_num, hR, fun j' z hj' hz => ?_⟩
            by_cases h : j' = j
            · subst h; rw [hxj.out] at hz; cases hz; exact fun q' y hy => HQ.out q' y (lt_of_get hy) hy
            · exact HN.out j' z (by omega) hz
    · obtain rfl : j = xs.length := by omega
      have HF : Hid (smallB xs = true) := small_yes fun j x hx => HN.out j x (lt_of_get hx) hx
      go_wp2
      go_ret
      exact ⟨ret_b HF.out.symm, hR⟩
end Go.Proofs.Ytigflmehiadenaa
