/- TallyTurned's walk. -/
import Derived.Test.YtidjpdpbjgnfkaaTf
import Derived.Test.YtidjpdpbjgnfkaaTg
import Derived.Test.YtidjpdpbjgnfkaaDa
namespace Go.Proofs.Ytidjpdpbjgnfkaa
open Go.ChangeShapes Go.WideShapes Go.ChangeAt Go.RowKit
set_option linter.unusedSimpArgs false
set_option linter.unusedVariables false

/-- What holds of memory at the loop. -/
structure TurnR (w : World) (P : Nat → Prop) (sv cv av bv : Value) (ss : List QS) (cs : List Int) (s : QS) (A B : List QT) (w' : World) : Prop where
  bel : Below w.heap.size w w'
  site : SiteAt w' w.heap.size s
  sites : IsSites P w' sv ss
  classes : IsRow IntC 1 0 P w' cv cs
  a : IsTallies (fun _ => True) w' av A
  b : IsTallies (fun _ => True) w' bv B
theorem TurnR.later {w : World} {P : Nat → Prop} {sv cv av bv : Value} {ss : List QS} {cs : List Int} {s : QS} {A B : List QT} {w' w'' : World} (h : TurnR w P sv cv av bv ss cs s A B w') (hb : Below w'.heap.size w' w'') : TurnR w P sv cv av bv ss cs s A B w'' :=
  ⟨nstep h.bel hb, h.site.later hb, h.sites.later goodS hb, h.classes.later goodN hb, h.a.later goodT hb, h.b.later goodT hb⟩
theorem tallies_true {P : Nat → Prop} {w : World} {v : Value} {xs : List QT} (h : IsTallies P w v xs) : IsTallies (fun _ => True) w v xs := h.mono goodT fun _ _ => trivial

theorem addT_any (ps : List (QS × Int)) (p : QS × Int) (v : Value) (w : World) (hh : IsTallies (fun _ => True) w v (tallyAll ps)) (hl : ps.length ≤ 1048576) :
    Calls Try.prog 23 #[v, SV p.1, .int .i64 p.2] w fun e w' => ∃ g cap n, e = .returned (.slice (some ⟨g, 0, none⟩) n cap) ∧ IsTallies (fun _ => True) w' (.slice (some ⟨g, 0, none⟩) n cap) (tallyAll (ps ++ [p])) ∧ Below w.heap.size w w' := by
  obtain ⟨h1, h2⟩ := tallyAll_len ps
  refine (add_any _ _ p.1 p.2 w hh (by omega) (fun x hx => by have := h2 x hx; omega)).mono ?_
  rintro e w' ⟨g, cap, rfl, hT, hb⟩
  exact ⟨g, cap, _, rfl, by rw [tallyAll_snoc]; exact tallies_true hT, hb⟩

theorem nilTallies (w : World) : IsTallies (fun _ => True) w (.slice none 0 0) [] := ⟨none, 0, rfl, by simp, by simp, by simp, fun i x hx => by simp at hx⟩

theorem zip_get {ss : List QS} {cs : List Int} {i : Nat} {x : QS} {c : Int} (hx : ss[i]? = some x) (hc : cs[i]? = some c) : (ss.zip cs)[i]? = some (x, c) := by
  rw [List.getElem?_zip_eq_some]; exact ⟨hx, hc⟩

theorem turnS {w : World} {P : Nat → Prop} {sv cv av bv : Value} {ss : List QS} {cs : List Int} {s : QS} {A B : List QT} {p0 p1 p2 p3 : Addr} {y0 y1 y2 y3 : Value} {w' w'' : World} (h : w'.cell? p0 = some y0 ∧ w'.cell? p1 = some y1 ∧ w'.cell? p2 = some y2 ∧ w'.cell? p3 = some y3 ∧ TurnR w P sv cv av bv ss cs s A B w') (hb : Below w'.heap.size w' w'') :
    w''.cell? p0 = some y0 ∧ w''.cell? p1 = some y1 ∧ w''.cell? p2 = some y2 ∧ w''.cell? p3 = some y3 ∧ TurnR w P sv cv av bv ss cs s A B w'' :=
  ⟨cell_later hb h.1, cell_later hb h.2.1, cell_later hb h.2.2.1, cell_later hb h.2.2.2.1, h.2.2.2.2.later hb⟩

set_option maxHeartbeats 4000000 in
theorem turned_walk {P : Nat → Prop} (ss : List QS) (cs : List Int) (s : QS) (sv cv : Value) (w : World) (hs : IsSites P w sv ss) (hc : IsRow IntC 1 0 P w cv cs) (hls : ss.length ≤ 1048576) (hlc : cs.length ≤ 1048576) :
    Calls Try.prog 8 #[sv, cv, SV s] w fun e w' => e = .returned (.bool true) ∧ Below w.heap.size w w' := by
  obtain ⟨ad, cap, rfl, hl, hcap, -, -⟩ := id hs
  obtain ⟨ad2, cap2, rfl, hl2, hcap2, -, -⟩ := id hc
  obtain ⟨n, hn⟩ : ∃ n, n = min ss.length cs.length := ⟨_, rfl⟩
  have hzl : (ss.zip cs).length = n := by rw [List.length_zip, hn]
  have hb0 := bel1 w (.cells #[.int .i64 s.cls, .string s.name, .int .i64 s.at'] 28)
  have hR0 : TurnR w P (.slice ad ss.length cap) (.slice ad2 cs.length cap2) (.slice none 0 0) (.slice none 0 0) ss cs s (tallyAll []) (tallyAll []) (w.alloc (.cells #[.int .i64 s.cls, .string s.name, .int .i64 s.at'] 28)) :=
    ⟨hb0, siteNew w s 28, hs.later goodS hb0, hc.later goodN hb0, nilTallies _, nilTallies _⟩
  clear hs hc hb0
  go_enter Try.func8, Try.ntmps8
  go_wp2_with fail
  refine (alive7 _).mono ?_
  rintro e w1 ⟨rfl, hb1⟩
  replace hR0 := hR0.later hb1
  clear hb1
  have hmin : ∀ w, (Builtin.min_ #[3, 3] 3 #[.int .i64 (ss.length : Int), .int .i64 (cs.length : Int)]).run Try.prog w = .ok (.int .i64 (n : Int)) w := fun w => by
    rw [run_min_int2]
    congr 2
    split <;> omega
  have HZ : Hid ((ss.zip cs).length = n) := hzl
  have hnl : n ≤ ss.length ∧ n ≤ cs.length := by rw [hn]; omega
  clear hzl hn
  go_wp2
  go_loopg [7, 8, 9, 23] n (fun g a b c i wr => ∃ (j : Nat) , j + g = n ∧ i = .int .i64 j ∧ c = .int .i64 (classesAt ((ss.zip cs).take j) s).length ∧ TurnR w P (.slice ad ss.length cap) (.slice ad2 cs.length cap2) a b ss cs s (tallyAll ((ss.zip cs).take j)) (tallyAll ((ss.zip cs).reverse.take j)) wr)
  case atStart => exact ⟨0, by omega, rfl, rfl, hR0⟩
  case round =>
    obtain ⟨j, hj, rfl, rfl, hR⟩ := hrel
    clear hR0
    have hcl : (classesAt ((ss.zip cs).take j) s).length ≤ j := by
      have := classesAt_len ((ss.zip cs).take j) s
      rw [List.length_take] at this; omega
    by_cases hlt : j < n
    · obtain ⟨e1, e2⟩ := hnl
      obtain ⟨ad', cap', e', -, -, -, hrow⟩ := id hR.sites
      simp only [Value.slice.injEq] at e'
      obtain ⟨rfl, -, -⟩ := e'
      obtain ⟨ad3, cap3, e', -, -, -, hrow2⟩ := id hR.classes
      simp only [Value.slice.injEq] at e'
      obtain ⟨rfl, -, -⟩ := e'
      obtain ⟨b, o, rfl, -, v0, v1, v2⟩ := hrow j ss[j] (by simp)
      obtain ⟨q, hq⟩ : ∃ q : Nat, q = n - 1 - j := ⟨_, rfl⟩
      have hqn : q < n := by omega
      obtain ⟨b', o', eb, -, x0, x1, x2⟩ := hrow q ss[q] (by simp)
      cases eb
      obtain ⟨b2, o2, rfl, -, y0⟩ := hrow2 j cs[j] (by simp)
      obtain ⟨b2', o2', eb, -, z0⟩ := hrow2 q cs[q] (by simp)
      cases eb
      have HX : Hid ((ss.zip cs)[j]? = some (ss[j], cs[j])) := zip_get (by simp) (by simp)
      have HY : Hid ((ss.zip cs).reverse[j]? = some (ss[q], cs[q])) := by
        show _ = _
        rw [List.getElem?_reverse (by rw [HZ.out]; exact hlt), HZ.out, ← hq]
        exact zip_get (by simp) (by simp)
      clear hrow hrow2
      simp only [IntC] at y0 z0
      generalize ss[j] = x at *
      generalize ss[q] = x' at *
      generalize cs[j] = c at *
      generalize cs[q] = c' at *
      simp only [Nat.add_zero, Nat.mul_one] at v0 x0 y0 z0
      have hj0 : (0 : Int) ≤ (j : Int) := by omega
      have hj1 : (j : Int) < (ss.length : Int) := by omega
      have hj2 : (j : Int) < (cs.length : Int) := by omega
      have hjn : (j : Int) < (n : Int) := by omega
      have hq' : (n : Int) - 1 - (j : Int) = (q : Int) := by omega
      have hq0 : (0 : Int) ≤ (q : Int) := by omega
      have hq1 : (q : Int) < (ss.length : Int) := by omega
      have hq2 : (q : Int) < (cs.length : Int) := by omega
      clear hq
      by_cases hneg : c < 0
      · go_wp2
        go_ret
        exact ⟨rfl, hR.bel⟩
      · have hneg' : 0 ≤ c := by omega
        go_wp2
        have HA : Hid (((ss.zip cs).take j).length ≤ 1048576) := by show _ ≤ _; rw [List.length_take]; omega
        have HB : Hid (((ss.zip cs).reverse.take j).length ≤ 1048576) := by show _ ≤ _; rw [List.length_take]; omega
        have hS0 := And.intro v0 (And.intro v1 (And.intro v2 (And.intro y0 hR)))
        have hS0 := turnS hS0 (Below.refl _ wr).drew
        go_region_held3 (fun w' => w'.cell? ⟨b, o + j * 3, none⟩ = some (.int .i64 x.cls) ∧ w'.cell? ⟨b, o + j * 3 + 1, none⟩ = some (.string x.name) ∧ w'.cell? ⟨b, o + j * 3 + 2, none⟩ = some (.int .i64 x.at') ∧ w'.cell? ⟨b2, o2 + j, none⟩ = some (.int .i64 c) ∧ TurnR w P (.slice (some ⟨b, o, none⟩) ss.length cap) (.slice (some ⟨b2, o2, none⟩) cs.length cap2) u7 u8 ss cs s (tallyAll ((ss.zip cs).take j)) (tallyAll ((ss.zip cs).reverse.take j)) w')
          (first | with_reducible exact hS0 | with_reducible exact hS1)
          (first | (go_at_call 23; refine (addT_any ((ss.zip cs).take j) (x, c) _ _ hS0.2.2.2.2.a HA.out).mono ?_; rintro e w2 ⟨g1, cap1, n1, rfl, hT1, hb1⟩; have hS1 := turnS hS0 hb1))
        have hb1' : Below wr.heap.size wr w2 := (Below.refl _ _).drew.trans hb1
        have hR1 : TurnR w P (.slice (some ⟨b, o, none⟩) ss.length cap) (.slice (some ⟨b2, o2, none⟩) cs.length cap2) (.slice (some ⟨g1, 0, none⟩) n1 cap1) u8 ss cs s (tallyAll ((ss.zip cs).take (j + 1))) (tallyAll ((ss.zip cs).reverse.take j)) w2 := by
          have h := hR.later hb1'
          exact ⟨h.bel, h.site, h.sites, h.classes, by rw [take_snoc HX.out]; exact hT1, h.b⟩
        replace x0 := cell_later hb1' x0
        replace x1 := cell_later hb1' x1
        replace x2 := cell_later hb1' x2
        replace z0 := cell_later hb1' z0
        replace v0 := cell_later hb1' v0
        replace v1 := cell_later hb1' v1
        replace v2 := cell_later hb1' v2
        clear hS0 hS1 hT1 hb1 hb1' hR y0
        go_wp2
        have hS0 := And.intro x0 (And.intro x1 (And.intro x2 (And.intro z0 hR1)))
        have hS0 := turnS hS0 (Below.refl _ w2).drew
        go_region_held3 (fun w' => w'.cell? ⟨b, o + q * 3, none⟩ = some (.int .i64 x'.cls) ∧ w'.cell? ⟨b, o + q * 3 + 1, none⟩ = some (.string x'.name) ∧ w'.cell? ⟨b, o + q * 3 + 2, none⟩ = some (.int .i64 x'.at') ∧ w'.cell? ⟨b2, o2 + q, none⟩ = some (.int .i64 c') ∧ TurnR w P (.slice (some ⟨b, o, none⟩) ss.length cap) (.slice (some ⟨b2, o2, none⟩) cs.length cap2) (.slice (some ⟨g1, 0, none⟩) n1 cap1) u8 ss cs s (tallyAll ((ss.zip cs).take (j + 1))) (tallyAll ((ss.zip cs).reverse.take j)) w')
          (first | with_reducible exact hS0 | with_reducible exact hS1)
          (first | (go_at_call 23; refine (addT_any ((ss.zip cs).reverse.take j) (x', c') _ _ hS0.2.2.2.2.b HB.out).mono ?_; rintro e w3 ⟨g3, cap3, n3, rfl, hT1, hb1⟩; have hS1 := turnS hS0 hb1))
        have hb1' : Below w2.heap.size w2 w3 := (Below.refl _ _).drew.trans hb1
        have hR2 : TurnR w P (.slice (some ⟨b, o, none⟩) ss.length cap) (.slice (some ⟨b2, o2, none⟩) cs.length cap2) (.slice (some ⟨g1, 0, none⟩) n1 cap1) (.slice (some ⟨g3, 0, none⟩) n3 cap3) ss cs s (tallyAll ((ss.zip cs).take (j + 1))) (tallyAll ((ss.zip cs).reverse.take (j + 1))) w3 := by
          have h := hR1.later hb1'
          exact ⟨h.bel, h.site, h.sites, h.classes, h.a, by rw [take_snoc HY.out]; exact hT1⟩
        replace v0 := cell_later hb1' v0
        replace v1 := cell_later hb1' v1
        replace v2 := cell_later hb1' v2
        clear hS0 hS1 hT1 hb1 hb1' hR1 x0 x1 x2 z0
        obtain ⟨t0, t1, t2⟩ := id hR2.site
        have he := fun w => eqlS x s w
        have HC : Hid (classesAt ((ss.zip cs).take (j + 1)) s = classesAt ((ss.zip cs).take j) s ++ if eqS x s then [c] else []) := by show _ = _; rw [take_snoc HX.out, classesAt_snoc]
        by_cases hp : eqS x s = true
        · have HC' : Hid ((classesAt ((ss.zip cs).take (j + 1)) s).length = (classesAt ((ss.zip cs).take j) s).length + 1) := by show _ = _; rw [HC.out, if_pos hp]; simp
          rw [hp] at he
          clear hp
          go_wp2
          go_quiet (fail)
          go_wp2
          go_roundg (gk - 1)
          case measure => omega
          case rel => exact ⟨j + 1, by omega, by go_num, by rw [HC'.out]; go_num, hR2.later (below_drewN (Below.refl _ _) _)⟩
        · have hp' : eqS x s = false := by simpa using hp
          have HC' : Hid ((classesAt ((ss.zip cs).take (j + 1)) s).length = (classesAt ((ss.zip cs).take j) s).length) := by show _ = _; rw [HC.out, hp']; simp
          rw [hp'] at he
          clear hp hp'
          go_wp2
          go_quiet (fail)
          go_wp2
          go_roundg (gk - 1)
          case measure => omega
          case rel => exact ⟨j + 1, by omega, by go_num, by rw [HC'.out], hR2.later (below_drewN (Below.refl _ _) _)⟩
    · obtain rfl : j = n := by omega
      have HT1 : Hid ((ss.zip cs).take j = ss.zip cs) := List.take_of_length_le (by rw [HZ.out]; exact Nat.le_refl _)
      have HT2 : Hid ((ss.zip cs).reverse.take j = (ss.zip cs).reverse) := List.take_of_length_le (by rw [List.length_reverse, HZ.out]; exact Nat.le_refl _)
      rw [HT1.out, HT2.out] at hR
      obtain ⟨f1, f2, f3, f4, f5⟩ := turned_facts (ss.zip cs) s (by rw [HZ.out]; omega)
      obtain ⟨k0, k1, k2⟩ := id hR.site
      rw [HT1.out]
      have F1 : Hid (sumL (linesAt (tallyAll (ss.zip cs)) s) = ((classesAt (ss.zip cs) s).length : Int)) := f1
      have F2 : Hid (sumL (linesAt (tallyAll (ss.zip cs).reverse) s) = ((classesAt (ss.zip cs) s).length : Int)) := f2
      have F3 : Hid (mostL (linesAt (tallyAll (ss.zip cs)) s) = mostL (linesAt (tallyAll (ss.zip cs).reverse) s)) := f3
      clear f1 f2 f3 hcl
      go_wp2_with fail
      refine (most_any _ s _ _ hR.a).mono ?_
      rintro e w2 ⟨rfl, hb2⟩
      replace hR := hR.later hb2
      replace k0 := cell_later hb2 k0
      replace k1 := cell_later hb2 k1
      replace k2 := cell_later hb2 k2
      clear hb2
      go_wp2_with fail
      refine (most_any _ s _ _ hR.b).mono ?_
      rintro e w3 ⟨rfl, hb2⟩
      replace hR := hR.later hb2
      replace k0 := cell_later hb2 k0
      replace k1 := cell_later hb2 k1
      replace k2 := cell_later hb2 k2
      clear hb2
      rw [← F3.out]
      go_wp2_with fail
      refine (all_any _ s _ _ hR.a).mono ?_
      rintro e w4 ⟨rfl, hb2⟩
      replace hR := hR.later hb2
      replace k0 := cell_later hb2 k0
      replace k1 := cell_later hb2 k1
      replace k2 := cell_later hb2 k2
      clear hb2
      rw [F1.out]
      go_wp2_with fail
      refine (all_any _ s _ _ hR.b).mono ?_
      rintro e w5 ⟨rfl, hb2⟩
      replace hR := hR.later hb2
      rw [F2.out]
      clear hb2
      go_wp2_with fail
      go_ret
      exact ⟨rfl, hR.bel⟩
end Go.Proofs.Ytidjpdpbjgnfkaa
