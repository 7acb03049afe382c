/- The reference: SameLines, SameTallies, Most. -/
import Derived.Test.YtlekfiglefopgaaTe
import Derived.Test.YtlekfiglefopgaaDa
namespace Go.Proofs.Ytlekfiglefopgaa
open Go.ChangeShapes Go.WideShapes Go.ChangeAt Go.RowKit
set_option linter.unusedSimpArgs false
set_option linter.unusedVariables false

set_option maxHeartbeats 2000000 in
theorem rmost_any {P : Nat → Prop} (xs : List QT) (s : QS) (v : Value) (w : World) (hh : IsTallies P w v xs) : Calls Try.prog 45 #[v, SV s] w fun e w' => e = .returned (.tuple #[.int .i64 (mostL (linesAt xs s)).cls, .int .i64 (mostL (linesAt xs s)).found, .int .i64 (sumL (linesAt xs s))]) ∧ Below w.heap.size w w' := by
  obtain ⟨ad, cap, rfl, hl, hcap, -, hrow⟩ := hh
  unfold maxLen at hcap
  have hs0 := siteNew w s 55
  have hb0 := bel1 w (.cells #[.int .i64 s.cls, .string s.name, .int .i64 s.at'] 55)
  go_enter Try.func45, Try.ntmps45
  go_wp2
  go_loopg [7, 8, 9, 16] xs.length (fun g c n a i wr => ∃ j : Nat, j + g = xs.length ∧ i = .int .i64 j ∧ c = .int .i64 (mostL (linesAt (xs.take j) s)).cls ∧ n = .int .i64 (mostL (linesAt (xs.take j) s)).found ∧ a = .int .i64 (sumL (linesAt (xs.take j) s)) ∧ Below w.heap.size w wr ∧ SiteAt wr w.heap.size s)
  case atStart => exact ⟨0, by omega, rfl, rfl, rfl, rfl, hb0, hs0⟩
  case round =>
    obtain ⟨j, hj, rfl, rfl, rfl, rfl, hbel, hsj⟩ := hrel
    clear hs0 hb0
    by_cases hlt : j < xs.length
    · obtain ⟨b, o, rfl, -, q0, q1, q2, lv, q3, ql⟩ := hrow j xs[j] (by simp [hlt])
      have hxj : Hid (xs[j]? = some xs[j]) := by show _ = _; simp [hlt]
      generalize xs[j] = x at *
      have HT : Hid (linesAt (xs.take (j + 1)) s = linesAt (xs.take j) s ++ if eqS x.site s then x.lines else []) := linesAt_take hxj.out s
      simp only [Nat.add_zero] at q0
      have v0 := cell_later hbel q0
      have v1 := cell_later hbel q1
      have v2 := cell_later hbel q2
      have v3 := cell_later hbel q3
      have hsl := ql.later goodL hbel
      clear q0 q1 q2 q3 ql hrow
      obtain ⟨ad2, cap2, rfl, hl2, hcap2, -, -⟩ := id hsl
      unfold maxLen at hcap2
      obtain ⟨s0, s1, s2⟩ := id hsj
      have s0' := fun y => cell_later (bel1 wr y) s0
      have s1' := fun y => cell_later (bel1 wr y) s1
      have s2' := fun y => cell_later (bel1 wr y) s2
      have he := fun w => eqlS x.site s w
      clear s0 s1 s2
      have hj1 : (j : Int) < (xs.length : Int) := by omega
      have hj0 : (0 : Int) ≤ (j : Int) := by omega
      have hbx := bel1 wr (Obj.cells #[Value.int IntKind.i64 x.site.cls, Value.string x.site.name, Value.int IntKind.i64 x.site.at', Value.slice ad2 x.lines.length cap2] 58)
      have hlx := hsl.later goodL hbx
      have hsx := hsj.later hbx
      have hbx' := nstep hbel hbx
      by_cases hp : eqS x.site s = true
      · have HT' : Hid (linesAt (xs.take (j + 1)) s = linesAt (xs.take j) s ++ x.lines) := by show _ = _; rw [HT.out, if_pos hp]
        rw [hp] at he
        clear hp HT
        go_wp2
        generalize (wr.alloc (Obj.cells #[Value.int IntKind.i64 x.site.cls, Value.string x.site.name, Value.int IntKind.i64 x.site.at', Value.slice ad2 x.lines.length cap2] 58)) = W1 at *
        obtain ⟨pre, hpre⟩ : ∃ pre, pre = linesAt (xs.take j) s := ⟨_, rfl⟩
        rw [← hpre] at HT' ⊢
        clear hbx he s0' s1' s2' v0 v1 v2 v3 hbel hsj hsl hpre
        go_loopg [7, 8, 9, 27] x.lines.length (fun g c n a i ws => ∃ q : Nat, q + g = x.lines.length ∧ i = .int .i64 q ∧ c = .int .i64 (mostL (pre ++ x.lines.take q)).cls ∧ n = .int .i64 (mostL (pre ++ x.lines.take q)).found ∧ a = .int .i64 (sumL (pre ++ x.lines.take q)) ∧ Below w.heap.size w ws ∧ SiteAt ws w.heap.size s ∧ IsLines P ws (.slice ad2 x.lines.length cap2) x.lines)
        case atStart => exact ⟨0, by omega, rfl, by simp, by simp, by simp, hbx', hsx, hlx⟩
        case round =>
          obtain ⟨q, hq, rfl, rfl, rfl, rfl, hbq, hsq, hlq⟩ := hrel
          clear hbx' hsx hlx
          by_cases hltq : q < x.lines.length
          · obtain ⟨ad3, cap3, e3, -, -, -, hrow3⟩ := id hlq
            simp only [Value.slice.injEq] at e3
            obtain ⟨rfl, -, -⟩ := e3
            obtain ⟨b3, o3, rfl, -, y0, y1⟩ := hrow3 q x.lines[q] (by simp [hltq])
            have hyq : Hid (x.lines[q]? = some x.lines[q]) := by show _ = _; simp [hltq]
            generalize x.lines[q] = y at *
            simp only [Nat.add_zero] at y0
            have hq1 : (q : Int) < (x.lines.length : Int) := by omega
            have hq0 : (0 : Int) ≤ (q : Int) := by omega
            have hby := bel1 wr (Obj.cells #[Value.int IntKind.i64 y.cls, Value.int IntKind.i64 y.found] 60)
            have HS : Hid (pre ++ x.lines.take (q + 1) = (pre ++ x.lines.take q) ++ [y]) := by show _ = _; rw [take_snoc hyq.out, List.append_assoc]
            have HM : Hid (mostL (pre ++ x.lines.take (q + 1)) = mostStep (mostL (pre ++ x.lines.take q)) y) := by show _ = _; rw [HS.out, mostL_snoc]
            have HU : Hid (sumL (pre ++ x.lines.take (q + 1)) = wrap64 (sumL (pre ++ x.lines.take q) + y.found)) := by show _ = _; rw [HS.out, sumL_snoc]
            clear hrow3 HS
            generalize hm : mostL (pre ++ x.lines.take q) = p at *
            generalize sumL (pre ++ x.lines.take q) = t at *
            clear hm
            have hEnd : ∀ (nd : Nat), Below wr.heap.size wr ((wr.alloc (Obj.cells #[Value.int IntKind.i64 y.cls, Value.int IntKind.i64 y.found] 60)).drewN nd) := fun nd => below_drewN hby nd
            by_cases hA : p.found < y.found
            · have HP : Hid (mostStep p y = y) := by show _ = _; unfold mostStep; rw [if_pos (Or.inl hA)]
              have hd : decide (p.found < y.found) = true := by simpa using hA
              go_wp2
              go_quiet (fail)
              go_wp2
              go_roundg (x.lines.length - (q + 1))
              case measure => omega
              case rel => exact ⟨q + 1, by omega, by go_num, by rw [HM.out, HP.out], by rw [HM.out, HP.out], by rw [HU.out], nstep hbq (hEnd _), hsq.later (hEnd _), hlq.later goodL (hEnd _)⟩
            · have hdA : decide (p.found < y.found) = false := by simpa using hA
              by_cases hB : 0 < p.found
              · have hdB : decide (0 < p.found) = true := by simpa using hB
                by_cases hC : y.found = p.found
                · have hdC : (y.found == p.found) = true := by simpa using hC
                  by_cases hD : y.cls < p.cls
                  · have HP : Hid (mostStep p y = y) := by show _ = _; unfold mostStep; rw [if_pos (Or.inr ⟨by omega, hC, hD⟩)]
                    have hdD : decide (y.cls < p.cls) = true := by simpa using hD
                    have HC : Hid (y.found = p.found) := hC
                    clear hC
                    go_wp2
                    go_quiet (fail)
                    go_wp2
                    go_roundg (x.lines.length - (q + 1))
                    case measure => omega
                    case rel => exact ⟨q + 1, by omega, by go_num, by rw [HM.out, HP.out], by rw [HM.out, HP.out], by rw [HU.out], nstep hbq (hEnd _), hsq.later (hEnd _), hlq.later goodL (hEnd _)⟩
                  · have HP : Hid (mostStep p y = p) := by show _ = _; unfold mostStep; rw [if_neg (by omega)]
                    have hdD : decide (y.cls < p.cls) = false := by simpa using hD
                    have HC : Hid (y.found = p.found) := hC
                    clear hC
                    go_wp2
                    go_roundg (x.lines.length - (q + 1))
                    case measure => omega
                    case rel => exact ⟨q + 1, by omega, by go_num, by rw [HM.out, HP.out], by rw [HM.out, HP.out], by rw [HU.out], nstep hbq hby, hsq.later hby, hlq.later goodL hby⟩
                · have HP : Hid (mostStep p y = p) := by show _ = _; unfold mostStep; rw [if_neg (by omega)]
                  have hdC : (y.found == p.found) = false := by simpa using hC
                  go_wp2
                  go_roundg (x.lines.length - (q + 1))
                  case measure => omega
                  case rel => exact ⟨q + 1, by omega, by go_num, by rw [HM.out, HP.out], by rw [HM.out, HP.out], by rw [HU.out], nstep hbq hby, hsq.later hby, hlq.later goodL hby⟩
              · have HP : Hid (mostStep p y = p) := by show _ = _; unfold mostStep; rw [if_neg (by omega)]
                have hdB : decide (0 < p.found) = false := by simpa using hB
                go_wp2
                go_roundg (x.lines.length - (q + 1))
                case measure => omega
                case rel => exact ⟨q + 1, by omega, by go_num, by rw [HM.out, HP.out], by rw [HM.out, HP.out], by rw [HU.out], nstep hbq hby, hsq.later hby, hlq.later goodL hby⟩
          · obtain rfl : q = x.lines.length := by omega
            go_wp2
            go_roundg (xs.length - (j + 1))
            case measure => omega
            case rel =>
              rw [List.take_of_length_le (Nat.le_refl _)]
              exact ⟨j + 1, by omega, by go_num, by rw [HT'.out], by rw [HT'.out], by rw [HT'.out], hbq, hsq⟩
      · have hp' : eqS x.site s = false := by simpa using hp
        have HT' : Hid (linesAt (xs.take (j + 1)) s = linesAt (xs.take j) s) := by show _ = _; rw [HT.out, if_neg hp]; simp
        rw [hp'] at he
        clear hp hp' HT
        go_wp2
        go_roundg (gk - 1)
        case measure => omega
        case rel => exact ⟨j + 1, by omega, by go_num, by rw [HT'.out], by rw [HT'.out], by rw [HT'.out], hbx', hsx⟩
    · obtain rfl : j = xs.length := by omega
      have HT : Hid (xs.take xs.length = xs) := List.take_of_length_le (Nat.le_refl _)
      go_wp2
      rw [HT.out]
      refine bodyPost_ret (v := .tuple #[.int .i64 (mostL (linesAt xs s)).cls, .int .i64 (mostL (linesAt xs s)).found, .int .i64 (sumL (linesAt xs s))]) ?_ rfl ⟨rfl, hbel⟩
      simp [results, Try.results45, go_sem]
end Go.Proofs.Ytlekfiglefopgaa
