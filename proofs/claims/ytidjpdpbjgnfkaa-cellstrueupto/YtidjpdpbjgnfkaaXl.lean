/- CellsTells' walk. -/
import Derived.Test.YtidjpdpbjgnfkaaXk
import Derived.Test.YtidjpdpbjgnfkaaXg
import Derived.Test.YtidjpdpbjgnfkaaXd
import Derived.Test.YtidjpdpbjgnfkaaEc
namespace Go.Proofs.Ytidjpdpbjgnfkaa
open Go.ChangeShapes Go.WideShapes Go.ChangeAt Go.RowKit
set_option linter.unusedSimpArgs false
set_option linter.unusedVariables false
set_option maxRecDepth 8000

theorem findL_sign {xs : List QC} {name : ByteArray} : ∀ {l : List Int}, (∀ k ∈ l, 0 ≤ k) → ((findL xs name l).1 < 0 ∧ (findL xs name l).2 < 0) ∨ (0 ≤ (findL xs name l).1 ∧ 0 ≤ (findL xs name l).2)
  | [], _ => Or.inl (by simp [findL])
  | k :: r, h => by
    unfold findL
    split
    · rename_i hk
      exact Or.inr ⟨h k (by simp), hk⟩
    · exact findL_sign fun q hq => h q (by simp [hq])
theorem findE_sign (xs : List QC) (c : Int) (name : ByteArray) : ((findE xs c name).1 < 0 ∧ (findE xs c name).2 < 0) ∨ (0 ≤ (findE xs c name).1 ∧ 0 ≤ (findE xs c name).2) := by
  rw [findE_L]
  refine findL_sign fun k hk => ?_
  obtain ⟨i, hi, rfl⟩ := List.mem_iff_getElem.1 hk
  obtain ⟨q, x, e, -⟩ := upsE_mem _ _ i _ (by rw [List.getElem?_eq_getElem hi])
  rw [e]; omega
theorem fdS {w : World} {P : Nat → Prop} {v cv hv : Value} {xs : List QE} {X : QW} {s : QS} {p0 p1 p2 : Addr} {y0 y1 y2 : Value} {w' w'' : World} (h : w'.cell? p0 = some y0 ∧ w'.cell? p1 = some y1 ∧ w'.cell? p2 = some y2 ∧ FdR w P v cv hv xs X s w') (hb : Below w'.heap.size w' w'') : w''.cell? p0 = some y0 ∧ w''.cell? p1 = some y1 ∧ w''.cell? p2 = some y2 ∧ FdR w P v cv hv xs X s w'' :=
  ⟨cell_later hb h.1, cell_later hb h.2.1, cell_later hb h.2.2.1, h.2.2.2.later hb⟩

set_option maxHeartbeats 4000000 in
theorem cellsTells_walk {P : Nat → Prop} (xs : List QE) (X : QW) (s : QS) (ep c fd : Int) (name : ByteArray) (v cv hv : Value) (w : World) (hx : IsCells P w v xs) (hC : IsClasses P w cv X.classes) (hH : IsHeap P w hv X.heap) (hby : xs.length * 72 ≤ 140737488351232) (hls : ∀ x ∈ xs, x.lines.length * 16 ≤ 140737488351232) :
    Calls Try.prog 3 #[v, WV cv hv X.epoch, SV s, .int .i64 ep, .int .i64 c, .int .i64 fd, .string name] w fun e w' => e = .returned (.bool true) ∧ Below w.heap.size w w' := by
  have HB1 : Hid ((xs.length + 1) * 72 ≤ 140737488355328) := by show _ ≤ _; omega
  have HB2 : Hid (xs.length * 72 ≤ 281474976710656) := by show _ ≤ _; omega
  have HB3 : Hid (∀ x ∈ xs, x.lines.length * 16 ≤ 281474976710656) := fun x hx => by have := hls x hx; omega
  have HB4 : Hid (xs.length ≤ maxLen) := by show _ ≤ _; unfold maxLen; omega
  have hR0 : FdR w P v cv hv xs X s ((w.alloc (.cells #[cv, hv, .int .i64 X.epoch] 26)).alloc (.cells #[.int .i64 s.cls, .string s.name, .int .i64 s.at'] 28)) := by
    have hb := bel2 w (.cells #[cv, hv, .int .i64 X.epoch] 26) (.cells #[.int .i64 s.cls, .string s.name, .int .i64 s.at'] 28)
    refine ⟨hb, hx.later goodE hb, hC.later goodC hb, hH.later goodO hb, cell_later (bel1 _ _) (by rw [cell_new _ _ _ _ rfl]; rfl), cell_later (bel1 _ _) (by rw [cell_new _ _ _ _ rfl]; rfl), cell_later (bel1 _ _) (by rw [cell_new _ _ _ _ rfl]; rfl), ?_⟩
    have := siteNew (w.alloc (.cells #[cv, hv, .int .i64 X.epoch] 26)) s 28
    simpa using this
  obtain ⟨ad, cap, rfl, -, -, -, -⟩ := id hx
  obtain ⟨ac, cc, rfl, -, -, -, -⟩ := id hC
  obtain ⟨ah, ch, rfl, -, -, -, -⟩ := id hH
  clear hx hC hH hby hls
  go_enter Try.func3, Try.ntmps3
  go_upto_region 1 with (fail)
  generalize ((w.alloc (.cells #[.slice ac X.classes.length cc, .slice ah X.heap.length ch, .int .i64 X.epoch] 26)).alloc (.cells #[.int .i64 s.cls, .string s.name, .int .i64 s.at'] 28)) = W0 at *
  have hS0 := fdS (And.intro hR0.st.c0 (And.intro hR0.st.c1 (And.intro hR0.st.c2 hR0))) (Below.refl _ W0).drew
  have tokA : True := trivial
  clear hR0
  obtain ⟨gg, HG⟩ : ∃ gg, Hid (getE xs s ep c = gg) := ⟨getE xs s ep c, (show Hid (getE xs s ep c = getE xs s ep c) from rfl)⟩
  go_region_held3 (fun w' => w'.cell? ⟨w.heap.size + 1, 0, none⟩ = some (.int .i64 s.cls) ∧ w'.cell? ⟨w.heap.size + 1, 1, none⟩ = some (.string s.name) ∧ w'.cell? ⟨w.heap.size + 1, 2, none⟩ = some (.int .i64 s.at') ∧ FdR w P (.slice ad xs.length cap) (.slice ac X.classes.length cc) (.slice ah X.heap.length ch) xs X s w')
    (first | with_reducible exact hS0 | with_reducible exact hS1 | with_reducible exact hS2 | with_reducible exact hS3 | with_reducible exact hS4 | with_reducible exact hS5 | with_reducible exact hS6 | with_reducible exact hS7)
    (first
      | (have _t := tokA; go_at_call 9; refine (get_any xs _ s ep c _ hS0.2.2.2.cl).mono ?_; rintro e w1 ⟨he1, hb1⟩; rw [HG.out] at he1; subst he1; have hS1 := fdS hS0 hb1; have tokB : True := trivial; clear tokA)
      | (have _t := tokB; go_at_call 10; refine (rget_any xs _ s ep c _ hS1.2.2.2.cl).mono ?_; rintro e w2 ⟨he2, hb2⟩; rw [HG.out] at he2; subst he2; have hS2 := fdS hS1 hb2; have tokC : True := trivial; clear tokB)
      | (have _t := tokC; go_at_call 12; refine (put_any xs _ s ep c fd _ hS2.2.2.2.cl HB1.out HB3.out).mono ?_; rintro e w3 ⟨g3, cap3, rfl, hT3, hb3⟩; have hS3 := fdS hS2 hb3; have tokD : True := trivial; clear tokC)
      | (have _t := tokD; go_at_call 13; refine (rput_any xs _ s ep c fd _ hS3.2.2.2.cl HB1.out).mono ?_; rintro e w4 ⟨a4, cap4, rfl, hT4, hb4⟩; have hS4 := fdS hS3 hb4; have tokE : True := trivial; clear tokD)
      | (have _t := tokE; go_at_call 11; refine (sameCells_any _ _ _ _ (hT3.later goodE hb4) hT4).mono ?_; rintro e w5 ⟨rfl, hb5⟩; have hS5 := fdS hS4 hb5; have tokF : True := trivial; clear tokE)
      | (have _t := tokF; go_at_call 14; refine (eowns_any xs _ _ hS5.2.2.2.cl HB2.out HB3.out).mono ?_; rintro e w6 ⟨g6, rfl, hO6, -, hb6⟩; have hS6 := fdS hS5 hb6; have tokG : True := trivial; clear tokF)
      | (have _t := tokG; go_at_call 11; refine (sameCells_any xs _ _ _ (tight_cells (hO6.row0 goodET HB4.out)) hS6.2.2.2.cl).mono ?_; rintro e w7 ⟨rfl, hb7⟩; have hS7 := fdS hS6 hb7; clear tokG))
  have hR := hS7.2.2.2
  clear hS0 hS1 hS2 hS3 hS4 hS5 hS6 hS7 hT3 hT4 hO6 hb1 hb2 hb3 hb4 hb5 hb6 hb7 HG
  obtain ⟨-, -, -, -, b0, b1, b2, s0, s1, s2⟩ := id hR
  go_wp2_with fail
  refine (rises_any X _ _ X.epoch _ hR.hc ⟨_, _, _, rfl⟩).mono ?_
  rintro e w8 ⟨bb, rfl, -, hb8⟩
  replace hR := hR.later hb8
  clear hb8 b0 b1 b2 s0 s1 s2
  obtain ⟨-, -, -, -, b0, b1, b2, s0, s1, s2⟩ := id hR
  cases bb with
  | false =>
    go_wp2
    go_ret
    exact ⟨rfl, hR.bel⟩
  | true =>
    go_wp2_with fail
    refine (cfind_any xs X s c name _ _ _ _ hR.cl hR.hc hR.hh HB1.out HB3.out).mono ?_
    rintro e w9 ⟨a9, k9, rfl, hZ, hb9⟩
    replace hR := hR.later hb9
    have hZ' := hZ.mono goodE (Q := fun _ => True) fun _ _ => trivial
    clear hb9 b0 b1 b2 s0 s1 s2 hZ
    obtain ⟨-, -, -, -, b0, b1, b2, s0, s1, s2⟩ := id hR
    obtain ⟨k, HK⟩ : ∃ k, Hid (getE xs s X.epoch c = k) := ⟨getE xs s X.epoch c, (show Hid (getE xs s X.epoch c = getE xs s X.epoch c) from rfl)⟩
    have HE : Hid (cfindE xs X s c name = if hasB X.classes.length k then (xs, findE X.classes k name, true) else if (findE X.classes c name).1 < 0 then (xs, findE X.classes c name, false) else (putE xs s X.epoch ⟨c, (findE X.classes c name).1⟩, findE X.classes c name, false)) := by show _ = _; unfold cfindE; rw [HK.out]
    generalize cfindE xs X s c name = zz at *
    obtain ⟨zs, ⟨z1, z2⟩, zh⟩ := zz
    simp only at hZ' ⊢
    go_wp2_with fail
    refine (rget_any xs _ s X.epoch c _ hR.cl).mono ?_
    rintro e w10 ⟨he10, hb10⟩
    rw [HK.out] at he10
    subst he10
    replace hR := hR.later hb10
    replace hZ' := hZ'.later goodE hb10
    clear hb10 b0 b1 b2 s0 s1 s2
    obtain ⟨-, -, -, -, b0, b1, b2, s0, s1, s2⟩ := id hR
    by_cases hin : 0 ≤ k ∧ k < X.classes.length
    · obtain ⟨h0, h1⟩ := hin
      have hd0 : decide (0 ≤ k) = true := by simpa using h0
      have hd1 : decide (k < (X.classes.length : Int)) = true := by simpa using h1
      have HZ : Hid ((zs, (z1, z2), zh) = (xs, findE X.classes k name, true)) := by show _ = _; rw [HE.out, if_pos (by simp [hasB, h0, h1])]
      clear HE
      go_wp2_with fail
      refine (rfind_any X k name _ _ _ hR.hc hR.hh).mono ?_
      rintro e w11 ⟨rfl, hb11⟩
      replace hR := hR.later hb11
      replace hZ' := hZ'.later goodE hb11
      clear hb11 b0 b1 b2 s0 s1 s2
      generalize findE X.classes k name = r at *
      obtain ⟨r1, r2⟩ := r
      have hz := HZ.out
      simp only [Prod.mk.injEq] at hz
      obtain ⟨rfl, ⟨rfl, rfl⟩, rfl⟩ := hz
      clear HZ
      go_wp2_with fail
      refine (sameCells_any _ _ _ _ hZ' hR.cl).mono ?_
      rintro e w12 ⟨rfl, hb12⟩
      go_wp2
      go_ret
      exact ⟨rfl, nstep hR.bel hb12⟩
    · have HZ0 : Hid ((zs, (z1, z2), zh) = if (findE X.classes c name).1 < 0 then (xs, findE X.classes c name, false) else (putE xs s X.epoch ⟨c, (findE X.classes c name).1⟩, findE X.classes c name, false)) := by show _ = _; rw [HE.out, if_neg (by simp [hasB]; omega)]
      clear HE
      have HSG := findE_sign X.classes c name
      have hdd : decide (0 ≤ k) = false ∨ (decide (0 ≤ k) = true ∧ decide (k < (X.classes.length : Int)) = false) := by
        by_cases h0 : 0 ≤ k
        · right; exact ⟨by simpa using h0, by simp; omega⟩
        · left; simpa using h0
      clear hin
      rcases hdd with hd0 | ⟨hd0, hd1⟩
      all_goals
        go_wp2_with fail
        refine (rfind_any X c name _ _ _ hR.hc hR.hh).mono ?_
        rintro e w11 ⟨rfl, hb11⟩
        replace hR := hR.later hb11
        replace hZ' := hZ'.later goodE hb11
        clear hb11 b0 b1 b2 s0 s1 s2
        obtain ⟨-, -, -, -, b0, b1, b2, s0, s1, s2⟩ := id hR
        generalize findE X.classes c name = r at *
        obtain ⟨r1, r2⟩ := r
        simp only at HZ0 HSG ⊢
        have hz := HZ0.out
        clear HZ0
        by_cases hr : r1 < 0
        · have hr2 : r2 < 0 := by omega
          rw [if_pos hr] at hz
          simp only [Prod.mk.injEq] at hz
          obtain ⟨rfl, ⟨rfl, rfl⟩, rfl⟩ := hz
          go_wp2_with fail
          refine (sameCells_any _ _ _ _ hZ' hR.cl).mono ?_
          rintro e w12 ⟨rfl, hb12⟩
          go_wp2
          go_ret
          exact ⟨rfl, nstep hR.bel hb12⟩
        · have hr2 : 0 ≤ r2 := by omega
          rw [if_neg hr] at hz
          simp only [Prod.mk.injEq] at hz
          obtain ⟨rfl, ⟨rfl, rfl⟩, rfl⟩ := hz
          clear hr
          go_wp2_with fail
          refine (rput_any xs _ s X.epoch c z1 _ hR.cl HB1.out).mono ?_
          rintro e w12 ⟨a12, k12, rfl, hT12, hb12⟩
          replace hR := hR.later hb12
          replace hZ' := hZ'.later goodE hb12
          clear b0 b1 b2 s0 s1 s2
          go_wp2_with fail
          refine (sameCells_any _ _ _ _ hZ' hT12).mono ?_
          rintro e w13 ⟨rfl, hb13⟩
          go_wp2
          go_ret
          exact ⟨rfl, nstep hR.bel hb13⟩
end Go.Proofs.Ytidjpdpbjgnfkaa
