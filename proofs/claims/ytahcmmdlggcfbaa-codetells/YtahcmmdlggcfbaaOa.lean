/- CodeTells: the walk. -/
import Derived.Test.YtahcmmdlggcfbaaMc
import Derived.Test.YtahcmmdlggcfbaaEc
namespace Go.Proofs.Ytahcmmdlggcfbaa
open Go.ChangeShapes Go.WideShapes Go.ChangeAt Go.RowKit
set_option linter.unusedSimpArgs false
set_option linter.unusedVariables false
set_option maxRecDepth 8000

/-- What holds of memory all through the law: the boxes of the world and of the method. -/
structure CtS (w : World) (X : QW) (cv hv : Value) (m : QM) (mv : Value) (w' : World) : Prop where
  bel : Below w.heap.size w w'
  a0 : w'.cell? ⟨w.heap.size, 0, none⟩ = some cv
  a1 : w'.cell? ⟨w.heap.size, 1, none⟩ = some hv
  a2 : w'.cell? ⟨w.heap.size, 2, none⟩ = some (.int .i64 X.epoch)
  m0 : w'.cell? ⟨w.heap.size + 1, 0, none⟩ = some (.string m.name)
  m1 : w'.cell? ⟨w.heap.size + 1, 1, none⟩ = some (.int .i64 m.args)
  m2 : w'.cell? ⟨w.heap.size + 1, 2, none⟩ = some (.int .i64 m.temps)
  m3 : w'.cell? ⟨w.heap.size + 1, 3, none⟩ = some (.int .i64 m.prim)
  m4 : w'.cell? ⟨w.heap.size + 1, 4, none⟩ = some mv
theorem CtS.later {w : World} {X : QW} {cv hv : Value} {m : QM} {mv : Value} {w' w1 : World} (h : CtS w X cv hv m mv w') (hb : Below w'.heap.size w' w1) : CtS w X cv hv m mv w1 :=
  ⟨nstep h.bel hb, cell_later hb h.a0, cell_later hb h.a1, cell_later hb h.a2, cell_later hb h.m0, cell_later hb h.m1, cell_later hb h.m2, cell_later hb h.m3, cell_later hb h.m4⟩
theorem ctA {w : World} {X : QW} {cv hv : Value} {m : QM} {mv : Value} {w' : World} (h : CtS w X cv hv m mv w') : w'.cell? ⟨w.heap.size, 0, none⟩ = some cv ∧ w'.cell? ⟨w.heap.size, 1, none⟩ = some hv ∧ w'.cell? ⟨w.heap.size, 2, none⟩ = some (.int .i64 X.epoch) ∧ w'.cell? ⟨w.heap.size + 1, 0, none⟩ = some (.string m.name) ∧ w'.cell? ⟨w.heap.size + 1, 1, none⟩ = some (.int .i64 m.args) ∧ w'.cell? ⟨w.heap.size + 1, 2, none⟩ = some (.int .i64 m.temps) ∧ w'.cell? ⟨w.heap.size + 1, 3, none⟩ = some (.int .i64 m.prim) ∧ w'.cell? ⟨w.heap.size + 1, 4, none⟩ = some mv ∧ CtS w X cv hv m mv w' := ⟨h.a0, h.a1, h.a2, h.m0, h.m1, h.m2, h.m3, h.m4, h⟩
theorem ctB {w : World} {X : QW} {cv hv : Value} {m : QM} {mv : Value} {w' w1 : World} {p0 p1 p2 p3 p4 p5 p6 p7 : Prop} (h : p0 ∧ p1 ∧ p2 ∧ p3 ∧ p4 ∧ p5 ∧ p6 ∧ p7 ∧ CtS w X cv hv m mv w') (hb : Below w'.heap.size w' w1) : w1.cell? ⟨w.heap.size, 0, none⟩ = some cv ∧ w1.cell? ⟨w.heap.size, 1, none⟩ = some hv ∧ w1.cell? ⟨w.heap.size, 2, none⟩ = some (.int .i64 X.epoch) ∧ w1.cell? ⟨w.heap.size + 1, 0, none⟩ = some (.string m.name) ∧ w1.cell? ⟨w.heap.size + 1, 1, none⟩ = some (.int .i64 m.args) ∧ w1.cell? ⟨w.heap.size + 1, 2, none⟩ = some (.int .i64 m.temps) ∧ w1.cell? ⟨w.heap.size + 1, 3, none⟩ = some (.int .i64 m.prim) ∧ w1.cell? ⟨w.heap.size + 1, 4, none⟩ = some mv ∧ CtS w X cv hv m mv w1 := ctA (h.2.2.2.2.2.2.2.2.later hb)
theorem check_c {P : Nat → Prop} (X : QW) (c : Int) (m : QM) (cv hv mv : Value) (w : World) (hh : IsClasses P w cv X.classes) (hH : IsHeap P w hv X.heap) (hM : IsCode P w mv m.code) (hmn : m.name.size ≤ 140737488351232) (f1 f2 : Int) (hf : checkE (slotsW X.classes c) X.classes.length c m = (f1, f2)) : Calls Try.prog 28 #[WV cv hv X.epoch, .int .i64 c, MV m mv] w fun e w' => e = .returned (.agg #[.int .i64 f1, .int .i64 f2]) ∧ Below w.heap.size w w' := by
  have := check_any X c m cv hv mv w hh hH hM hmn
  rw [hf] at this
  exact this
theorem rcheck_c {P : Nat → Prop} (X : QW) (c : Int) (m : QM) (cv hv mv : Value) (w : World) (hh : IsClasses P w cv X.classes) (hH : IsHeap P w hv X.heap) (hM : IsCode P w mv m.code) (hmn : m.name.size ≤ 140737488351232) (ho : SlotsOk X.classes) (f1 f2 : Int) (hf : checkE (slotsW X.classes c) X.classes.length c m = (f1, f2)) : Calls Try.prog 29 #[WV cv hv X.epoch, .int .i64 c, MV m mv] w fun e w' => e = .returned (.agg #[.int .i64 f1, .int .i64 f2]) ∧ Below w.heap.size w w' := by
  have := rcheck_any X c m cv hv mv w hh hH hM hmn ho
  rw [hf] at this
  exact this

set_option maxRecDepth 100000 in
set_option maxHeartbeats 4000000 in
theorem codeTells_walk {P : Nat → Prop} (X : QW) (c : Int) (m : QM) (cv hv mv : Value) (w : World) (hh : IsClasses P w cv X.classes) (hH : IsHeap P w hv X.heap) (hM : IsCode P w mv m.code) (hmn : m.name.size ≤ 140737488351232) : Calls Try.prog 6 #[WV cv hv X.epoch, .int .i64 c, MV m mv] w fun e w' => e = .returned (.bool true) ∧ Below w.heap.size w w' := by
  obtain ⟨ad, cap, rfl, hl, hcap, hby, hrow⟩ := id hh
  obtain ⟨ah, ch, rfl, -, -, -, -⟩ := id hH
  obtain ⟨am, cm, rfl, hl2, hcm, hcb, hrowM⟩ := id hM
  unfold maxLen at hcap hcm
  go_enter Try.func6, Try.ntmps6
  go_wp2
  have hS0 : CtS w X (.slice ad X.classes.length cap) (.slice ah X.heap.length ch) m (.slice am m.code.length cm) ((w.alloc (Obj.cells #[Value.slice ad X.classes.length cap, Value.slice ah X.heap.length ch, Value.int IntKind.i64 X.epoch] 25)).alloc (Obj.cells #[Value.string m.name, Value.int IntKind.i64 m.args, Value.int IntKind.i64 m.temps, Value.int IntKind.i64 m.prim, Value.slice am m.code.length cm] 28)) := by
    refine ⟨bel2 _ _ _, ?_, ?_, ?_, ?_, ?_, ?_, ?_, ?_⟩
    · exact cell_later (bel1 _ _) (by rw [cell_new _ _ _ _ rfl]; rfl)
    · exact cell_later (bel1 _ _) (by rw [cell_new _ _ _ _ rfl]; rfl)
    · exact cell_later (bel1 _ _) (by rw [cell_new _ _ _ _ rfl]; rfl)
    all_goals (rw [cell_new _ _ _ _ (by simp)]; rfl)
  generalize ((w.alloc (Obj.cells #[Value.slice ad X.classes.length cap, Value.slice ah X.heap.length ch, Value.int IntKind.i64 X.epoch] 25)).alloc (Obj.cells #[Value.string m.name, Value.int IntKind.i64 m.args, Value.int IntKind.i64 m.temps, Value.int IntKind.i64 m.prim, Value.slice am m.code.length cm] 28)) = W0 at *
  go_loopg [19] X.classes.length (fun g i wr => ∃ j : Nat, j + g = X.classes.length ∧ i = .int .i64 j ∧ CtS w X (.slice ad X.classes.length cap) (.slice ah X.heap.length ch) m (.slice am m.code.length cm) wr ∧ (∀ i x, i < j → X.classes[i]? = some x → 0 ≤ x.slots ∧ x.slots ≤ 6))
  case atStart => exact ⟨0, by omega, rfl, hS0, fun i x h => by omega⟩
  case round =>
    obtain ⟨j, hg, rfl, hS, hD⟩ := hrel
    have HD : Hid (∀ i x, i < j → X.classes[i]? = some x → 0 ≤ x.slots ∧ x.slots ≤ 6) := hD
    clear hD hS0
    by_cases hj : j < X.classes.length
    · have hj1 : (j : Int) < (X.classes.length : Int) := by omega
      have hj0 : (0 : Int) ≤ (j : Int) := by omega
      obtain ⟨x, hx⟩ : ∃ x, X.classes[j]? = some x := ⟨_, List.getElem?_eq_getElem hj⟩
      obtain ⟨b, o, rfl, -, v0, v1, v2, -, mv, v3, hMs⟩ := hrow j x hx
      obtain ⟨ad2, cap2, rfl⟩ := hMs.get
      have HX : Hid (X.classes[j]? = some x) := hx
      clear hx
      simp only [Nat.add_zero] at v0
      replace v0 := cell_later hS.bel v0
      replace v1 := cell_later hS.bel v1
      replace v2 := cell_later hS.bel v2
      replace v3 := cell_later hS.bel v3
      have hb1 := bel1 wr (Obj.cells #[Value.string x.name, Value.int IntKind.i64 x.super, Value.int IntKind.i64 x.slots, Value.slice ad2 x.methods.length cap2] 31)
      by_cases s0 : x.slots < 0
      · go_wp2
        go_ret
        exact ⟨rfl, nstep hS.bel hb1⟩
      · have s0' : decide (x.slots < 0) = false := by simpa using s0
        by_cases s6 : 6 < x.slots
        · go_wp2
          go_ret
          exact ⟨rfl, nstep hS.bel hb1⟩
        · have s6' : x.slots ≤ 6 := by omega
          go_wp2
          go_roundg (gk - 1)
          case measure => omega
          case rel =>
            refine ⟨j + 1, by omega, by go_num, hS.later hb1, fun i y h hy => ?_⟩
            by_cases hij : i = j
            · subst hij
              rw [HX.out] at hy
              cases hy
              exact ⟨by omega, s6'⟩
            · exact HD.out i y (by omega) hy
    · obtain rfl : j = X.classes.length := by omega
      have ho : SlotsOk X.classes := fun i x hx => HD.out i x (lt_of_get hx) hx
      clear HD hrow hg
      have a0 := hS.a0
      have a1 := hS.a1
      have a2 := hS.a2
      go_wp2_with fail
      refine (rises_any X _ _ _ _ (hh.later goodC hS.bel) ⟨_, _, _, rfl⟩).mono ?_
      rintro e w1 ⟨br, rfl, hbr, hb⟩
      replace hS := hS.later hb
      clear hb a0 a1 a2
      cases br
      · go_wp2
        go_ret
        exact ⟨rfl, hS.bel⟩
      · clear hbr
        go_upto_region 9 with (fail)
        have hSd := ctA (hS.later (Below.refl _ _).drew)
        obtain ⟨f1, f2, hf⟩ : ∃ f1 f2, checkE (slotsW X.classes c) X.classes.length c m = (f1, f2) := ⟨_, _, rfl⟩
        go_cut [43] (fun s wx => s = .bool false ∧ CtS w X (.slice ad X.classes.length cap) (.slice ah X.heap.length ch) m (.slice am m.code.length cm) wx)
        case first =>
          go_region_held3 (fun w' => w'.cell? ⟨w.heap.size, 0, none⟩ = some (.slice ad X.classes.length cap) ∧ w'.cell? ⟨w.heap.size, 1, none⟩ = some (.slice ah X.heap.length ch) ∧ w'.cell? ⟨w.heap.size, 2, none⟩ = some (.int .i64 X.epoch) ∧ w'.cell? ⟨w.heap.size + 1, 0, none⟩ = some (.string m.name) ∧ w'.cell? ⟨w.heap.size + 1, 1, none⟩ = some (.int .i64 m.args) ∧ w'.cell? ⟨w.heap.size + 1, 2, none⟩ = some (.int .i64 m.temps) ∧ w'.cell? ⟨w.heap.size + 1, 3, none⟩ = some (.int .i64 m.prim) ∧ w'.cell? ⟨w.heap.size + 1, 4, none⟩ = some (.slice am m.code.length cm) ∧ CtS w X (.slice ad X.classes.length cap) (.slice ah X.heap.length ch) m (.slice am m.code.length cm) w')
            (first | with_reducible exact hSd | with_reducible exact ctB (‹_ ∧ _ ∧ _ ∧ _ ∧ _ ∧ _ ∧ _ ∧ _ ∧ CtS _ _ _ _ _ _ _›) hb)
            (first
              | (go_at_call 28; refine (check_c X c m _ _ _ _ (hh.later goodC (‹_ ∧ _ ∧ _ ∧ _ ∧ _ ∧ _ ∧ _ ∧ _ ∧ CtS _ _ _ _ _ _ _›).2.2.2.2.2.2.2.2.bel) (hH.later goodO (‹_ ∧ _ ∧ _ ∧ _ ∧ _ ∧ _ ∧ _ ∧ _ ∧ CtS _ _ _ _ _ _ _›).2.2.2.2.2.2.2.2.bel) (hM.later goodI (‹_ ∧ _ ∧ _ ∧ _ ∧ _ ∧ _ ∧ _ ∧ _ ∧ CtS _ _ _ _ _ _ _›).2.2.2.2.2.2.2.2.bel) hmn f1 f2 hf).mono ?_; rintro e w' ⟨rfl, hb⟩)
              | (go_at_call 29; refine (rcheck_c X c m _ _ _ _ (hh.later goodC (‹_ ∧ _ ∧ _ ∧ _ ∧ _ ∧ _ ∧ _ ∧ _ ∧ CtS _ _ _ _ _ _ _›).2.2.2.2.2.2.2.2.bel) (hH.later goodO (‹_ ∧ _ ∧ _ ∧ _ ∧ _ ∧ _ ∧ _ ∧ _ ∧ CtS _ _ _ _ _ _ _›).2.2.2.2.2.2.2.2.bel) (hM.later goodI (‹_ ∧ _ ∧ _ ∧ _ ∧ _ ∧ _ ∧ _ ∧ _ ∧ CtS _ _ _ _ _ _ _›).2.2.2.2.2.2.2.2.bel) hmn ho f1 f2 hf).mono ?_; rintro e w' ⟨rfl, hb⟩))
          go_wp2_with fail
          go_meet
          case rel => exact ⟨rfl, (‹_ ∧ _ ∧ _ ∧ _ ∧ _ ∧ _ ∧ _ ∧ _ ∧ CtS _ _ _ _ _ _ _›).2.2.2.2.2.2.2.2⟩
        case rest =>
          obtain ⟨rfl, hS⟩ := hcut
          clear hSd hf
          have m4 := hS.m4
          go_wp2
          clear m4
          go_loopg [47] m.code.length (fun g i wr => ∃ j : Nat, j + g = m.code.length ∧ i = .int .i64 j ∧ CtS w X (.slice ad X.classes.length cap) (.slice ah X.heap.length ch) m (.slice am m.code.length cm) wr ∧ (∀ i x, i < j → m.code[i]? = some x → x.op = 14 → 0 ≤ x.a ∧ x.a ≤ 4))
          case atStart => exact ⟨0, by omega, rfl, hS, fun i x h => by omega⟩
          case round =>
            clear hS
            obtain ⟨j, hg, rfl, hS, hD⟩ := hrel
            have HD : Hid (∀ i x, i < j → m.code[i]? = some x → x.op = 14 → 0 ≤ x.a ∧ x.a ≤ 4) := hD
            clear hD
            by_cases hj : j < m.code.length
            · have hj1 : (j : Int) < (m.code.length : Int) := by omega
              have hj0 : (0 : Int) ≤ (j : Int) := by omega
              obtain ⟨x, hx⟩ : ∃ x, m.code[j]? = some x := ⟨_, List.getElem?_eq_getElem hj⟩
              obtain ⟨b, o, rfl, -, v0, v1, v2, v3, v4, -⟩ := hrowM j x hx
              obtain ⟨op, xa, xb, xc, nm⟩ := x
              have HX : Hid (m.code[j]? = some ⟨op, xa, xb, xc, nm⟩) := hx
              clear hx
              simp only [Nat.add_zero] at v0
              replace v0 := cell_later hS.bel v0
              replace v1 := cell_later hS.bel v1
              replace v2 := cell_later hS.bel v2
              replace v3 := cell_later hS.bel v3
              replace v4 := cell_later hS.bel v4
              have hb1 := bel1 wr (Obj.cells #[.int .i64 op, .int .i64 xa, .int .i64 xb, .int .i64 xc, .string nm] 56)
              have m4 := cell_later hb1 hS.m4
              have HN : Hid ((op = 14 → 0 ≤ xa ∧ xa ≤ 4) → ∀ i x, i < j + 1 → m.code[i]? = some x → x.op = 14 → 0 ≤ x.a ∧ x.a ≤ 4) := fun h i y hi hy h14 => by
                by_cases hij : i = j
                · subst hij
                  rw [HX.out] at hy
                  cases hy
                  exact h h14
                · exact HD.out i y (by omega) hy h14
              clear HD HX
              by_cases h1 : op < 1
              · go_wp2
                go_ret
                exact ⟨rfl, nstep hS.bel hb1⟩
              have h1' : decide (op < 1) = false := by simpa using h1
              by_cases h2 : 17 < op
              · go_wp2
                go_ret
                exact ⟨rfl, nstep hS.bel hb1⟩
              have h2' : decide (17 < op) = false := by simpa using h2
              by_cases h3 : op = 14
              · subst h3
                by_cases h4 : xa < 0
                · go_wp2
                  go_ret
                  exact ⟨rfl, nstep hS.bel hb1⟩
                have h4' : decide (xa < 0) = false := by simpa using h4
                by_cases h5 : 4 < xa
                · go_wp2
                  go_ret
                  exact ⟨rfl, nstep hS.bel hb1⟩
                have h5' : decide (4 < xa) = false := by simpa using h5
                have h5x : xa ≤ 4 := by omega
                go_wp2
                go_roundg (gk - 1)
                case measure => omega
                case rel => exact ⟨j + 1, by omega, by go_num, hS.later hb1, HN.out fun _ => ⟨by omega, h5x⟩⟩
              have h3' : (op == 14) = false := by simpa using h3
              have HN2 : Hid (∀ i x, i < j + 1 → m.code[i]? = some x → x.op = 14 → 0 ≤ x.a ∧ x.a ≤ 4) := HN.out fun h => absurd h h3
              by_cases h6 : op = 15 ∨ op = 16
              · have h6' : (op == 15 || op == 16) = true := by simpa using h6
                by_cases h7 : xa < 0
                · rcases h6 with rfl | rfl
                  · go_wp2
                    go_ret
                    exact ⟨rfl, nstep hS.bel hb1⟩
                  · go_wp2
                    go_ret
                    exact ⟨rfl, nstep hS.bel hb1⟩
                have h7' : decide (xa < 0) = false := by simpa using h7
                by_cases h8 : (m.code.length : Int) ≤ xa
                · rcases h6 with rfl | rfl
                  · go_wp2
                    go_ret
                    exact ⟨rfl, nstep hS.bel hb1⟩
                  · go_wp2
                    go_ret
                    exact ⟨rfl, nstep hS.bel hb1⟩
                have h8' : decide ((m.code.length : Int) ≤ xa) = false := by simpa using h8
                rcases h6 with rfl | rfl
                · go_wp2
                  go_roundg (gk - 1)
                  case measure => omega
                  case rel => exact ⟨j + 1, by omega, by go_num, hS.later hb1, HN2.out⟩
                · go_wp2
                  go_roundg (gk - 1)
                  case measure => omega
                  case rel => exact ⟨j + 1, by omega, by go_num, hS.later hb1, HN2.out⟩
              have h6a : (op == 15) = false := beq_eq_false_iff_ne.2 fun h => h6 (Or.inl h)
              have h6b : (op == 16) = false := beq_eq_false_iff_ne.2 fun h => h6 (Or.inr h)
              go_wp2
              go_roundg (gk - 1)
              case measure => omega
              case rel => exact ⟨j + 1, by omega, by go_num, hS.later hb1, HN2.out⟩
            · obtain rfl : j = m.code.length := by omega
              have hso : SendsOk m.code := fun x hx h14 => by
                obtain ⟨i, hi⟩ := List.getElem?_of_mem hx
                exact HD.out i x (lt_of_get hi) hi h14
              clear HD hrowM hg
              have m4 := hS.m4
              by_cases l0 : m.code.length = 0
              · have l0' : ((m.code.length : Int) == 0) = true := by simp [l0]
                clear l0
                go_wp2
                go_ret
                exact ⟨rfl, hS.bel⟩
              have l0' : ((m.code.length : Int) == 0) = false := beq_eq_false_iff_ne.2 (by omega)
              by_cases l1 : (1000 : Int) < (m.code.length : Int)
              · go_wp2
                go_ret
                exact ⟨rfl, hS.bel⟩
              have l1' : decide ((1000 : Int) < (m.code.length : Int)) = false := by simpa using l1
              have m0 := hS.m0
              have m1 := hS.m1
              have m2 := hS.m2
              have m3 := hS.m3
              clear l0
              go_wp2_with fail
              refine (heights_any m _ _ (hM.later goodI hS.bel) hso).mono ?_
              rintro e w2 ⟨hb, ⟨he0, g, rfl, hr, -⟩ | ⟨he0, rfl⟩⟩
              · replace hS := hS.later hb
                clear hb m0 m1 m2 m3 m4
                have hb1 := bel1 w2 (Obj.cells #[Value.int IntKind.i64 0, Value.int IntKind.i64 0] 53)
                have fb := blk_new w2 (Obj.cells #[Value.int IntKind.i64 0, Value.int IntKind.i64 0] 53) _ rfl
                have m0 := cell_later hb1 hS.m0
                have m1 := cell_later hb1 hS.m1
                have m2 := cell_later hb1 hS.m2
                have m3 := cell_later hb1 hS.m3
                have m4 := cell_later hb1 hS.m4
                go_wp2_with fail
                replace hS := hS.later hb1
                replace hr := box_later' hr hb1
                refine (rheights_any m _ _ (hM.later goodI hS.bel) hso).mono ?_
                rintro e w3 ⟨hb, ⟨-, g2, rfl, hr2, -⟩ | ⟨he1, rfl⟩⟩
                · replace hS := hS.later hb
                  replace hr := box_later' hr hb
                  replace fb := box_later' fb hb
                  clear hb m0 m1 m2 m3 m4
                  obtain ⟨hhl, -, -, -⟩ := heights_ok hso he0
                  have hb4 := bel1 w3 (Obj.cells #[Value.int IntKind.i64 0, Value.int IntKind.i64 0] 53)
                  replace fb := box_later' fb hb4
                  obtain ⟨fc, -⟩ := box2 fb
                  generalize w2.heap.size = B2 at *
                  go_wp2
                  replace hS := hS.later hb4
                  replace hr := box_later' hr hb4
                  replace hr2 := box_later' hr2 hb4
                  clear fc fb hb1 he0
                  have HR1 : Hid (∀ k, k < m.code.length → (w3.alloc (Obj.cells #[Value.int IntKind.i64 0, Value.int IntKind.i64 0] 53)).cell? ⟨g, k, none⟩ = some (.int .i64 ((heightsE m.code).1.getD k 0))) := fun k hk => hRow_cell hr (by rw [hhl]; exact hk)
                  have HR2 : Hid (∀ k, k < m.code.length → (w3.alloc (Obj.cells #[Value.int IntKind.i64 0, Value.int IntKind.i64 0] 53)).cell? ⟨g2, k, none⟩ = some (.int .i64 ((heightsE m.code).1.getD k 0))) := fun k hk => hRow_cell hr2 (by rw [hhl]; exact hk)
                  clear hr hr2 hhl hb4
                  generalize (w3.alloc (Obj.cells #[Value.int IntKind.i64 0, Value.int IntKind.i64 0] 53)) = W4 at *
                  go_loopg [130] m.code.length (fun g i wr => ∃ j : Nat, j + g = m.code.length ∧ i = .int .i64 j ∧ Below W4.heap.size W4 wr)
                  case atStart => exact ⟨0, by omega, rfl, Below.refl _ _⟩
                  case round =>
                    obtain ⟨j, hg, rfl, hB⟩ := hrel
                    by_cases hj : j < m.code.length
                    · have hj1 : (j : Int) < (m.code.length : Int) := by omega
                      have hj0 : (0 : Int) ≤ (j : Int) := by omega
                      have q1 := cell_later hB (HR1.out j hj)
                      have q2 := cell_later hB (HR2.out j hj)
                      generalize (heightsE m.code).1.getD j 0 = hv' at *
                      go_wp2
                      go_quiet (fail)
                      go_wp2
                      go_roundg (gk - 1)
                      case measure => omega
                      case rel => exact ⟨j + 1, by omega, by go_num, below_drewN hB _⟩
                    · go_wp2
                      go_ret
                      exact ⟨rfl, nstep hS.bel hB⟩
                · exact absurd he0 he1
              · replace hS := hS.later hb
                clear hb m0 m1 m2 m3 m4
                obtain ⟨f1, f2, hff⟩ : ∃ f1 f2, (heightsE m.code).2 = (f1, f2) := ⟨_, _, rfl⟩
                rw [hff] at he0 ⊢
                have hb1 := bel1 w2 (Obj.cells #[Value.int IntKind.i64 f1, Value.int IntKind.i64 f2] 53)
                have fb := blk_new w2 (Obj.cells #[Value.int IntKind.i64 f1, Value.int IntKind.i64 f2] 53) _ rfl
                have m0 := cell_later hb1 hS.m0
                have m1 := cell_later hb1 hS.m1
                have m2 := cell_later hb1 hS.m2
                have m3 := cell_later hb1 hS.m3
                have m4 := cell_later hb1 hS.m4
                go_wp2_with fail
                replace hS := hS.later hb1
                refine (rheights_any m _ _ (hM.later goodI hS.bel) hso).mono ?_
                rintro e w3 ⟨hb, ⟨he1, g2, rfl, -, -⟩ | ⟨he1, rfl⟩⟩
                · exact absurd (by rw [hff] at he1; exact he1) he0
                · rw [hff]
                  replace hS := hS.later hb
                  replace fb := box_later' fb hb
                  clear hb m0 m1 m2 m3 m4 he1 he0 hff
                  have hb4 := bel1 w3 (Obj.cells #[Value.int IntKind.i64 f1, Value.int IntKind.i64 f2] 53)
                  replace fb := box_later' fb hb4
                  obtain ⟨fc, -⟩ := box2 fb
                  generalize w2.heap.size = B2 at *
                  go_wp2
                  replace hS := hS.later hb4
                  clear fc fb hb1 hb4
                  generalize (w3.alloc (Obj.cells #[Value.int IntKind.i64 f1, Value.int IntKind.i64 f2] 53)) = W4 at *
                  go_loopg [130] 0 (fun g i wr => i = .int .i64 0 ∧ wr = W4)
                  case atStart => exact ⟨rfl, rfl⟩
                  case round =>
                    obtain ⟨rfl, rfl⟩ := hrel
                    go_wp2
                    go_ret
                    exact ⟨rfl, hS.bel⟩
end Go.Proofs.Ytahcmmdlggcfbaa
