/- TallyTells' walk. -/
import Derived.Test.YtidjpdpbjgnfkaaTk
import Derived.Test.YtidjpdpbjgnfkaaTi
namespace Go.Proofs.Ytidjpdpbjgnfkaa
open Go.ChangeShapes Go.WideShapes Go.ChangeAt Go.RowKit
set_option linter.unusedSimpArgs false
set_option linter.unusedVariables false
set_option maxRecDepth 8000

structure TlR (w : World) (P : Nat → Prop) (v : Value) (xs : List QT) (w' : World) : Prop where
  bel : Below w.heap.size w w'
  tal : IsTallies P w' v xs
theorem TlR.later {w : World} {P : Nat → Prop} {v : Value} {xs : List QT} {w' w'' : World} (h : TlR w P v xs w') (hb : Below w'.heap.size w' w'') : TlR w P v xs w'' := ⟨nstep h.bel hb, h.tal.later goodT hb⟩
theorem tlS {w : World} {P : Nat → Prop} {v : Value} {xs : List QT} {p0 p1 p2 : Addr} {y0 y1 y2 : Value} {w' w'' : World} (h : w'.cell? p0 = some y0 ∧ w'.cell? p1 = some y1 ∧ w'.cell? p2 = some y2 ∧ TlR w P v xs w') (hb : Below w'.heap.size w' w'') :
    w''.cell? p0 = some y0 ∧ w''.cell? p1 = some y1 ∧ w''.cell? p2 = some y2 ∧ TlR w P v xs w'' :=
  ⟨cell_later hb h.1, cell_later hb h.2.1, cell_later hb h.2.2.1, h.2.2.2.later hb⟩

set_option maxHeartbeats 4000000 in
theorem tallyTells_walk {P : Nat → Prop} (xs : List QT) (s : QS) (c : Int) (v : Value) (w : World) (hh : IsTallies P w v xs) (hby : xs.length * 56 ≤ 140737488351232) (hls : ∀ x ∈ xs, x.lines.length * 16 ≤ 140737488351232) :
    Calls Try.prog 7 #[v, SV s, .int .i64 c] w fun e w' => e = .returned (.bool true) ∧ Below w.heap.size w w' := by
  have HLS : Hid (∀ x ∈ xs, (x.lines.length + 1) * 16 ≤ 140737488355328) := fun x hx => by have := hls x hx; omega
  have HML : Hid (∀ x ∈ xs, x.lines.length ≤ maxLen) := fun x hx => by have := hls x hx; unfold maxLen; omega
  have hb0 := bel1 w (.cells #[.int .i64 s.cls, .string s.name, .int .i64 s.at'] 28)
  have hs0 := siteNew w s 28
  have hR0 : TlR w P v xs (w.alloc (.cells #[.int .i64 s.cls, .string s.name, .int .i64 s.at'] 28)) := ⟨hb0, hh.later goodT hb0⟩
  obtain ⟨ad, cap, rfl, hl, hcap, -, -⟩ := id hh
  unfold maxLen at hcap
  clear hh hls hb0
  go_enter Try.func7, Try.ntmps7
  go_wp2
  go_loopg [18] xs.length (fun g i wr => ∃ j : Nat, j + g = xs.length ∧ i = .int .i64 j ∧ TlR w P (.slice ad xs.length cap) xs wr ∧ SiteAt wr w.heap.size s)
  case atStart => exact ⟨0, by omega, rfl, hR0, hs0⟩
  case round =>
    obtain ⟨j, hj, rfl, hR, hS⟩ := hrel
    clear hR0 hs0
    by_cases hlt : j < xs.length
    · obtain ⟨ad', cap', e', -, -, -, hrow⟩ := id hR.tal
      simp only [Value.slice.injEq] at e'
      obtain ⟨rfl, -, -⟩ := e'
      obtain ⟨b, o, rfl, -, q0, q1, q2, lv, q3, ql⟩ := hrow j xs[j] (by simp [hlt])
      generalize xs[j] = x at *
      simp only [Nat.add_zero] at q0
      obtain ⟨ad2, cap2, rfl, hl2, hcap2, -, -⟩ := id ql
      unfold maxLen at hcap2
      have hj1 : (j : Int) < (xs.length : Int) := by omega
      have hj0 : (0 : Int) ≤ (j : Int) := by omega
      have hbx := bel1 wr (Obj.cells #[Value.int IntKind.i64 x.site.cls, Value.string x.site.name, Value.int IntKind.i64 x.site.at', Value.slice ad2 x.lines.length cap2] 53)
      clear hrow
      go_wp2
      have hR1 := hR.later hbx
      have hS1 := hS.later hbx
      have hl1 := ql.later goodL hbx
      generalize (wr.alloc (Obj.cells #[Value.int IntKind.i64 x.site.cls, Value.string x.site.name, Value.int IntKind.i64 x.site.at', Value.slice ad2 x.lines.length cap2] 53)) = W1 at *
      clear q0 q1 q2 q3 ql hR hS hbx
      go_loopg [25] x.lines.length (fun g i wr => ∃ q : Nat, q + g = x.lines.length ∧ i = .int .i64 q ∧ TlR w P (.slice (some ⟨b, o, none⟩) xs.length cap) xs wr ∧ SiteAt wr w.heap.size s ∧ IsLines P wr (.slice ad2 x.lines.length cap2) x.lines)
      case atStart => exact ⟨0, by omega, rfl, hR1, hS1, hl1⟩
      case round =>
        obtain ⟨q, hq, rfl, hR, hS, hlq⟩ := hrel
        clear hR1 hS1 hl1
        by_cases hltq : q < x.lines.length
        · obtain ⟨ad3, cap3, e3, -, -, -, hrow3⟩ := id hlq
          simp only [Value.slice.injEq] at e3
          obtain ⟨rfl, -, -⟩ := e3
          obtain ⟨b3, o3, rfl, -, y0, y1⟩ := hrow3 q x.lines[q] (by simp [hltq])
          generalize x.lines[q] = y at *
          simp only [Nat.add_zero] at y0
          have hq1 : (q : Int) < (x.lines.length : Int) := by omega
          have hq0 : (0 : Int) ≤ (q : Int) := by omega
          have hby := bel1 wr (Obj.cells #[Value.int IntKind.i64 y.cls, Value.int IntKind.i64 y.found] 55)
          clear hrow3
          by_cases hA : y.found < 0
          · have hd : decide (y.found < 0) = true := by simpa using hA
            go_wp2
            go_ret
            exact ⟨rfl, nstep hR.bel hby⟩
          · have hd : decide (y.found < 0) = false := by simpa using hA
            by_cases hB : 1000000 < y.found
            · have hd2 : decide (1000000 < y.found) = true := by simpa using hB
              go_wp2
              go_ret
              exact ⟨rfl, nstep hR.bel hby⟩
            · have hd2 : decide (1000000 < y.found) = false := by simpa using hB
              go_wp2
              go_roundg (x.lines.length - (q + 1))
              case measure => omega
              case rel => exact ⟨q + 1, by omega, by go_num, hR.later hby, hS.later hby, hlq.later goodL hby⟩
        · go_wp2
          go_roundg (xs.length - (j + 1))
          case measure => omega
          case rel => exact ⟨j + 1, by omega, by go_num, hR, hS⟩
    · obtain ⟨k0, k1, k2⟩ := id hS
      have hT := hR.tal
      go_wp2_with fail
      refine (rmost_any xs s _ _ hT).mono ?_
      rintro e w2 ⟨rfl, hb2⟩
      replace hR := hR.later hb2
      replace hT := hR.tal
      replace k0 := cell_later hb2 k0
      replace k1 := cell_later hb2 k1
      replace k2 := cell_later hb2 k2
      clear hb2
      go_wp2_with fail
      refine (most_any xs s _ _ hT).mono ?_
      rintro e w3 ⟨rfl, hb2⟩
      replace hR := hR.later hb2
      replace k0 := cell_later hb2 k0
      replace k1 := cell_later hb2 k1
      replace k2 := cell_later hb2 k2
      clear hb2 hT
      generalize mostL (linesAt xs s) = mm at *
      obtain ⟨tt, HTT⟩ : ∃ tt, Hid (sumL (linesAt xs s) = tt) := ⟨_, rfl⟩
      rw [HTT.out]
      go_wp2
      have hS0 := tlS (And.intro k0 (And.intro k1 (And.intro k2 hR))) (Below.refl _ w3).drew
      have tokA : True := trivial
      have HB1 : Hid ((xs.length + 1) * 56 ≤ 140737488355328) := by show _ ≤ _; omega
      have HB2 : Hid (xs.length * 56 ≤ 281474976710656) := by show _ ≤ _; omega
      have HB3 : Hid (∀ x ∈ xs, x.lines.length * 16 ≤ 281474976710656) := fun x hx => by have := HLS.out x hx; omega
      have HB4 : Hid (xs.length ≤ maxLen) := by show _ ≤ _; unfold maxLen; omega
      clear k0 k1 k2 hby hl hcap hR
      go_region_held3 (fun w' => w'.cell? ⟨w.heap.size, 0, none⟩ = some (.int .i64 s.cls) ∧ w'.cell? ⟨w.heap.size, 1, none⟩ = some (.string s.name) ∧ w'.cell? ⟨w.heap.size, 2, none⟩ = some (.int .i64 s.at') ∧ TlR w P (.slice ad xs.length cap) xs w')
        (first | with_reducible exact hS0 | with_reducible exact hS1 | with_reducible exact hS2 | with_reducible exact hS3 | with_reducible exact hS4 | with_reducible exact hS5 | with_reducible exact hS6)
        (first
          | (have _t := tokA; go_at_call 23; refine (add_any xs _ s c _ hS0.2.2.2.tal HB1.out HLS.out).mono ?_; rintro e w4 ⟨g4, cap4, rfl, hT4, hb4⟩; have hS1 := tlS hS0 hb4; have tokB : True := trivial; clear tokA)
          | (have _t := tokB; go_at_call 24; refine (count_any xs _ s c _ hS1.2.2.2.tal HB1.out HLS.out).mono ?_; rintro e w5 ⟨a5, cap5, rfl, hT5, hb5⟩; have hS2 := tlS hS1 hb5; have tokC : True := trivial; clear tokB)
          | (have _t := tokC; go_at_call 22; refine (sameTallies_any (addE xs s c) _ _ _ (hT4.later goodT hb5) hT5).mono ?_; rintro e w6 ⟨rfl, hb6⟩; have hS3 := tlS hS2 hb6; have tokD : True := trivial; clear tokC)
          | (have _t := tokD; go_at_call 25; refine (towns_any xs _ _ hS3.2.2.2.tal HB2.out HB3.out).mono ?_; rintro e w7 ⟨g7, gs7, rfl, hO7, -, hb7⟩; have hS4 := tlS hS3 hb7; have tokE : True := trivial; clear tokD)
          | (have _t := tokE; go_at_call 22; refine (sameTallies_any xs _ _ _ (hO7.tallies HB4.out HML.out (P := fun _ => True) fun _ _ _ => trivial) hS4.2.2.2.tal).mono ?_; rintro e w8 ⟨rfl, hb8⟩; have hS5 := tlS hS4 hb8; have tokF : True := trivial; clear tokE)
          | (have _t := tokF; go_at_call 26; refine (all_any xs s _ _ hS5.2.2.2.tal).mono ?_; rintro e w9 ⟨he9, hb9⟩; rw [HTT.out] at he9; subst he9; have hS6 := tlS hS5 hb9; clear tokF))
      go_wp2
      go_ret
      exact ⟨rfl, hS6.2.2.2.bel⟩
end Go.Proofs.Ytidjpdpbjgnfkaa
