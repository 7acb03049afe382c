/- ClassTells: the walk. -/
import Derived.Test.YtahcmmdlggcfbaaHb
namespace Go.Proofs.Ytahcmmdlggcfbaa
open Go.ChangeShapes Go.WideShapes Go.ChangeAt Go.RowKit
set_option linter.unusedSimpArgs false
set_option linter.unusedVariables false
set_option maxRecDepth 8000

theorem box_cells {w : World} {B : Nat} {x y z : Value} {t : TypeId} (h : w.heap[B]? = some (.cells #[x, y, z] t (0, 0))) : (w.cell? ⟨B, 0, none⟩ = some x ∧ w.cell? ⟨B, 1, none⟩ = some y ∧ w.cell? ⟨B, 2, none⟩ = some z) ∧ (∀ o, w.frozen? ⟨B, o, none⟩ = false) := by
  refine ⟨⟨?_, ?_, ?_⟩, fun o => by unfold World.frozen?; simp [h]⟩ <;> rw [cell_of_row _ _ _ _ _ _ h] <;> rfl
theorem box_later {w w' : World} {B : Nat} {o : Obj} (h : w.heap[B]? = some o) (hb : Below w.heap.size w w') : w'.heap[B]? = some o := by rw [hb.block _ (blk_lt h)]; exact h
theorem box_set {w : World} {B : Nat} {x y z u v r : Value} {t : TypeId} (h : w.heap[B]? = some (.cells #[x, y, z] t (0, 0))) : (((w.setCell ⟨B, 0, none⟩ u).setCell ⟨B, 1, none⟩ v).setCell ⟨B, 2, none⟩ r).heap[B]? = some (.cells #[u, v, r] t (0, 0)) := by
  rw [setCell_same (setCell_same (setCell_same h _) _) _]; rfl
/-- What holds of memory all through the law: the world, the method, and their boxes. -/
structure TellS (w : World) (X : QW) (cv hv : Value) (m : QM) (mv : Value) (w' : World) : Prop where
  bel : Below w.heap.size w w'
  cls : IsClasses (In w) w' cv X.classes
  heap : IsHeap (In w) w' hv X.heap
  code : IsCode (In w) w' mv m.code
  a0 : w'.cell? ⟨w.heap.size, 0, none⟩ = some cv
  a1 : w'.cell? ⟨w.heap.size, 1, none⟩ = some hv
  a2 : w'.cell? ⟨w.heap.size, 2, none⟩ = some (.int .i64 X.epoch)
  m0 : w'.cell? ⟨w.heap.size + 1, 0, none⟩ = some (.string m.name)
  m1 : w'.cell? ⟨w.heap.size + 1, 1, none⟩ = some (.int .i64 m.args)
  m2 : w'.cell? ⟨w.heap.size + 1, 2, none⟩ = some (.int .i64 m.temps)
  m3 : w'.cell? ⟨w.heap.size + 1, 3, none⟩ = some (.int .i64 m.prim)
  m4 : w'.cell? ⟨w.heap.size + 1, 4, none⟩ = some mv
theorem TellS.later {w : World} {X : QW} {cv hv : Value} {m : QM} {mv : Value} {w' w1 : World} (h : TellS w X cv hv m mv w') (hb : Below w'.heap.size w' w1) : TellS w X cv hv m mv w1 :=
  ⟨nstep h.bel hb, h.cls.later goodC hb, h.heap.later goodO hb, h.code.later goodI hb, cell_later hb h.a0, cell_later hb h.a1, cell_later hb h.a2, cell_later hb h.m0, cell_later hb h.m1, cell_later hb h.m2, cell_later hb h.m3, cell_later hb h.m4⟩
theorem TellS.keep {w : World} {X : QW} {cv hv : Value} {m : QM} {mv : Value} {w' w1 : World} (h : TellS w X cv hv m mv w') (hb : Below (w.heap.size + 2) w' w1) : TellS w X cv hv m mv w1 := by
  have hk : Keeps (In w) w' w1 := (Keeps.of_lt hb).mono fun b hb => by omega
  exact ⟨h.bel.trans (hb.mono (by omega)), h.cls.keep goodC hk fun _ h => h, h.heap.keep goodO hk fun _ h => h, h.code.keep goodI hk fun _ h => h, (hb.cell (by simp)).trans h.a0, (hb.cell (by simp)).trans h.a1, (hb.cell (by simp)).trans h.a2, (hb.cell (by simp)).trans h.m0, (hb.cell (by simp)).trans h.m1, (hb.cell (by simp)).trans h.m2, (hb.cell (by simp)).trans h.m3, (hb.cell (by simp)).trans h.m4⟩
theorem tellA {w : World} {X : QW} {cv hv : Value} {m : QM} {mv : Value} {w' : World} (h : TellS w X cv hv m mv w') : w'.cell? ⟨w.heap.size, 0, none⟩ = some cv ∧ w'.cell? ⟨w.heap.size, 1, none⟩ = some hv ∧ w'.cell? ⟨w.heap.size, 2, none⟩ = some (.int .i64 X.epoch) ∧ TellS w X cv hv m mv w' := ⟨h.a0, h.a1, h.a2, h⟩
theorem tellB {w : World} {X : QW} {cv hv : Value} {m : QM} {mv : Value} {w' w1 : World} {p q r : Prop} (h : p ∧ q ∧ r ∧ TellS w X cv hv m mv w') (hb : Below w'.heap.size w' w1) : w1.cell? ⟨w.heap.size, 0, none⟩ = some cv ∧ w1.cell? ⟨w.heap.size, 1, none⟩ = some hv ∧ w1.cell? ⟨w.heap.size, 2, none⟩ = some (.int .i64 X.epoch) ∧ TellS w X cv hv m mv w1 := tellA (h.2.2.2.later hb)

set_option maxRecDepth 100000 in
set_option maxHeartbeats 4000000 in
theorem tells_walk {P : Nat → Prop} (X : QW) (c : Int) (name : ByteArray) (slots : Int) (m : QM) (cv hv mv : Value) (w : World) (hn : name.size ≤ 140737488351232) (hh : IsClasses P w cv X.classes) (hH : IsHeap P w hv X.heap) (hM : IsCode P w mv m.code) (hmn : m.name.size ≤ 140737488351232) : Calls Try.prog 3 #[WV cv hv X.epoch, .int .i64 c, .string name, .int .i64 slots, MV m mv] w fun e w' => e = .returned (.bool true) ∧ Below w.heap.size w w' := by
  obtain ⟨ad, cap, rfl, hl, hcap, hby, hrow⟩ := id hh
  obtain ⟨ah, ch, rfl, -, -, -, -⟩ := id hH
  obtain ⟨am, cm, rfl⟩ := hM.get
  unfold maxLen at hcap
  go_enter Try.func3, Try.ntmps3
  go_wp2
  have hS0 : TellS w X (.slice ad X.classes.length cap) (.slice ah X.heap.length ch) m (.slice am m.code.length cm) ((w.alloc (Obj.cells #[Value.slice ad X.classes.length cap, Value.slice ah X.heap.length ch, Value.int IntKind.i64 X.epoch] 25)).alloc (Obj.cells #[Value.string m.name, Value.int IntKind.i64 m.args, Value.int IntKind.i64 m.temps, Value.int IntKind.i64 m.prim, Value.slice am m.code.length cm] 28)) := by
    refine ⟨bel2 _ _ _, (classes_in hh).later goodC (bel2 _ _ _), (heap_in hH).later goodO (bel2 _ _ _), ((code_in hM).mono goodI fun _ h => h.2).later goodI (bel2 _ _ _), ?_, ?_, ?_, ?_, ?_, ?_, ?_, ?_⟩
    · exact cell_later (bel1 _ _) (by rw [cell_new _ _ _ _ rfl]; rfl)
    · exact cell_later (bel1 _ _) (by rw [cell_new _ _ _ _ rfl]; rfl)
    · exact cell_later (bel1 _ _) (by rw [cell_new _ _ _ _ rfl]; rfl)
    all_goals (rw [cell_new _ _ _ _ (by simp)]; rfl)
  generalize ((w.alloc (Obj.cells #[Value.slice ad X.classes.length cap, Value.slice ah X.heap.length ch, Value.int IntKind.i64 X.epoch] 25)).alloc (Obj.cells #[Value.string m.name, Value.int IntKind.i64 m.args, Value.int IntKind.i64 m.temps, Value.int IntKind.i64 m.prim, Value.slice am m.code.length cm] 28)) = W0 at *
  go_loopg [27] X.classes.length (fun g i wr => ∃ j : Nat, j + g = X.classes.length ∧ i = .int .i64 j ∧ TellS w X (.slice ad X.classes.length cap) (.slice ah X.heap.length ch) m (.slice am m.code.length cm) wr ∧ (∀ i x, i < j → X.classes[i]? = some x → 0 ≤ x.slots ∧ x.slots ≤ 6))
  case atStart => exact ⟨0, by omega, rfl, hS0, fun i x h => by omega⟩
  case round =>
    obtain ⟨j, hg, rfl, hS, hD⟩ := hrel
    have HD : Hid (∀ i x, i < j → X.classes[i]? = some x → 0 ≤ x.slots ∧ x.slots ≤ 6) := hD
    clear hD hS0
    by_cases hj : j < X.classes.length
    · have hj1 : (j : Int) < (X.classes.length : Int) := by omega
      have hj0 : (0 : Int) ≤ (j : Int) := by omega
      obtain ⟨x, hx⟩ : ∃ x, X.classes[j]? = some x := ⟨_, List.getElem?_eq_getElem hj⟩
      obtain ⟨b, o, rfl, -, v0, v1, v2, -, mv, v3, hMs⟩ := hrow j x hx
      obtain ⟨ad2, cap2, rfl⟩ := hMs.get
      have HX : Hid (X.classes[j]? = some x) := hx
      clear hx
      simp only [Nat.add_zero] at v0
      replace v0 := cell_later hS.bel v0
      replace v1 := cell_later hS.bel v1
      replace v2 := cell_later hS.bel v2
      replace v3 := cell_later hS.bel v3
      have hb1 := bel1 wr (Obj.cells #[Value.string x.name, Value.int IntKind.i64 x.super, Value.int IntKind.i64 x.slots, Value.slice ad2 x.methods.length cap2] 31)
      by_cases s0 : x.slots < 0
      · go_wp2
        go_ret
        exact ⟨rfl, nstep hS.bel hb1⟩
      · have s0' : decide (x.slots < 0) = false := by simpa using s0
        by_cases s6 : 6 < x.slots
        · go_wp2
          go_ret
          exact ⟨rfl, nstep hS.bel hb1⟩
        · have s6' : x.slots ≤ 6 := by omega
          go_wp2
          go_roundg (gk - 1)
          case measure => omega
          case rel =>
            refine ⟨j + 1, by omega, by go_num, hS.later hb1, fun i y h hy => ?_⟩
            by_cases hij : i = j
            · subst hij
              rw [HX.out] at hy
              cases hy
              exact ⟨by omega, s6'⟩
            · exact HD.out i y (by omega) hy
    · obtain rfl : j = X.classes.length := by omega
      have ho : SlotsOk X.classes := fun i x hx => HD.out i x (lt_of_get hx) hx
      clear HD hrow hg
      have a0 := hS.a0
      have a1 := hS.a1
      have a2 := hS.a2
      go_wp2_with fail
      refine (rises_any X _ _ _ _ hS.cls ⟨_, _, _, rfl⟩).mono ?_
      rintro e w1 ⟨br, rfl, hbr, hb⟩
      replace hS := hS.later hb
      clear hb a0 a1 a2
      cases br
      · go_wp2
        go_ret
        exact ⟨rfl, hS.bel⟩
      · have hR := hbr rfl
        clear hbr
        have tokA : True := trivial
        go_upto_region 9 with (fail)
        have hSd := tellA (hS.later (Below.refl _ _).drew)
        go_cut [69] (fun s wx => s = .bool false ∧ TellS w X (.slice ad X.classes.length cap) (.slice ah X.heap.length ch) m (.slice am m.code.length cm) wx)
        case first =>
          go_region_held3 (fun w' => w'.cell? ⟨w.heap.size, 0, none⟩ = some (.slice ad X.classes.length cap) ∧ w'.cell? ⟨w.heap.size, 1, none⟩ = some (.slice ah X.heap.length ch) ∧ w'.cell? ⟨w.heap.size, 2, none⟩ = some (.int .i64 X.epoch) ∧ TellS w X (.slice ad X.classes.length cap) (.slice ah X.heap.length ch) m (.slice am m.code.length cm) w')
            (first | with_reducible exact hSd | with_reducible exact tellB (‹_ ∧ _ ∧ _ ∧ TellS _ _ _ _ _ _ _›) hb)
            (first
              | (go_at_call 11; refine (new_any _).mono ?_; rintro e w' ⟨cv1, hv1, rfl, hC1, hH1, hb⟩; have hbN := hb; obtain ⟨x1, y1, rfl⟩ := hC1.get; obtain ⟨x2, y2, rfl⟩ := hH1.get)
              | (go_at_call 12; refine (rnew_any _).mono ?_; rintro e w' ⟨cv2, hv2, rfl, hC2, hH2, hb⟩; have hbR := hb; obtain ⟨x3, y3, rfl⟩ := hC2.get; obtain ⟨x4, y4, rfl⟩ := hH2.get)
              | (go_at_call 10; have _t := tokA; refine (same_any newX _ _ _ _ _ (hC1.later goodC hbR) (hH1.later goodO hbR) hC2 hH2).mono ?_; rintro e w' ⟨rfl, hb⟩; clear _t tokA)
              | (go_at_call 13; refine (own_any X _ _ _ (‹_ ∧ _ ∧ _ ∧ TellS _ _ _ _ _ _ _›).2.2.2.cls (‹_ ∧ _ ∧ _ ∧ TellS _ _ _ _ _ _ _›).2.2.2.heap).mono ?_; rintro e w' ⟨g, gh, s, rfl, hO, hHo, hg, hb⟩)
              | (go_at_call 10; refine (same_any (P := Tru) X _ _ _ _ _ ((hO.row hby).mono goodC fun _ _ => trivial) (hHo.mono goodO fun _ _ => trivial) (‹_ ∧ _ ∧ _ ∧ TellS _ _ _ _ _ _ _›).2.2.2.cls (‹_ ∧ _ ∧ _ ∧ TellS _ _ _ _ _ _ _›).2.2.2.heap).mono ?_; rintro e w' ⟨rfl, hb⟩)
              | (go_at_call 14; refine (name_any name _ hn).mono ?_; rintro e w' ⟨rfl, hb⟩)
              | (go_at_call 15; refine (rname_any name _ hn).mono ?_; rintro e w' ⟨rfl, hb⟩)
              | (go_at_call 16; refine (slots_any X c _ _ _ (‹_ ∧ _ ∧ _ ∧ TellS _ _ _ _ _ _ _›).2.2.2.cls (‹_ ∧ _ ∧ _ ∧ TellS _ _ _ _ _ _ _›).2.2.2.heap ho).mono ?_; rintro e w' ⟨rfl, hb⟩)
              | (go_at_call 17; refine (rslots_any X c _ _ _ (‹_ ∧ _ ∧ _ ∧ TellS _ _ _ _ _ _ _›).2.2.2.cls (‹_ ∧ _ ∧ _ ∧ TellS _ _ _ _ _ _ _›).2.2.2.heap ho).mono ?_; rintro e w' ⟨rfl, hb⟩))
          go_wp2_with fail
          go_meet
          case rel => exact ⟨rfl, (‹_ ∧ _ ∧ _ ∧ TellS w X (.slice ad X.classes.length cap) (.slice ah X.heap.length ch) m (.slice am m.code.length cm) _›).2.2.2⟩
        case rest =>
          obtain ⟨rfl, hS⟩ := hcut
          clear hSd
          have a0 := hS.a0
          have a1 := hS.a1
          have a2 := hS.a2
          go_wp2_with fail
          refine (find_any X c name _ _ _ hS.cls hS.heap).mono ?_
          rintro e w2 ⟨rfl, hb⟩
          replace hS := hS.later hb
          replace a0 := hS.a0
          replace a1 := hS.a1
          replace a2 := hS.a2
          clear hb
          go_wp2_with fail
          refine (rfind_any X c name _ _ _ hS.cls hS.heap).mono ?_
          rintro e w3 ⟨rfl, hb⟩
          replace hS := hS.later hb
          replace a0 := hS.a0
          replace a1 := hS.a1
          replace a2 := hS.a2
          clear hb
          go_wp2_with fail
          refine (make_all X name c slots _ _ _ hn hS.cls hS.heap ho).mono ?_
          rintro e w4 ⟨x1, y1, z1, t1, rfl, hC1, hH1, hb⟩
          replace hS := hS.later hb
          replace a0 := fun x => cell_later (bel1 w4 x) hS.a0
          replace a1 := fun x => cell_later (bel1 w4 x) hS.a1
          replace a2 := fun x => cell_later (bel1 w4 x) hS.a2
          clear hb
          have hx0 := blk_new w4 (Obj.cells #[Value.slice x1 (makeY X name c slots).classes.length y1, Value.slice z1 (makeY X name c slots).heap.length t1, Value.int IntKind.i64 (makeY X name c slots).epoch] 25) _ rfl
          have hz4 : w.heap.size + 2 ≤ w4.heap.size := World.block_lt_of_cell? _ _ hS.m0
          go_wp2_with fail
          replace hS := hS.later (bel1 w4 (Obj.cells #[Value.slice x1 (makeY X name c slots).classes.length y1, Value.slice z1 (makeY X name c slots).heap.length t1, Value.int IntKind.i64 (makeY X name c slots).epoch] 25))
          replace hC1 := hC1.later goodC (bel1 w4 (Obj.cells #[Value.slice x1 (makeY X name c slots).classes.length y1, Value.slice z1 (makeY X name c slots).heap.length t1, Value.int IntKind.i64 (makeY X name c slots).epoch] 25))
          replace hH1 := hH1.later goodO (bel1 w4 (Obj.cells #[Value.slice x1 (makeY X name c slots).classes.length y1, Value.slice z1 (makeY X name c slots).heap.length t1, Value.int IntKind.i64 (makeY X name c slots).epoch] 25))
          refine (rmake_all X name c slots _ _ _ hn hS.cls hS.heap ho).mono ?_
          rintro e w5 ⟨x2, y2, z2, t2, rfl, hC2, hH2, hb⟩
          replace hS := hS.later hb
          replace hx0 := box_later hx0 hb
          replace hC1 := hC1.later goodC hb
          replace hH1 := hH1.later goodO hb
          have hz5 : w4.heap.size + 1 ≤ w5.heap.size := blk_lt hx0
          have hy0 := blk_new w5 (Obj.cells #[Value.slice x2 (makeY X name c slots).classes.length y2, Value.slice z2 (makeY X name c slots).heap.length t2, Value.int IntKind.i64 (makeY X name c slots).epoch] 25) _ rfl
          have hb6 := bel1 w5 (Obj.cells #[Value.slice x2 (makeY X name c slots).classes.length y2, Value.slice z2 (makeY X name c slots).heap.length t2, Value.int IntKind.i64 (makeY X name c slots).epoch] 25)
          obtain ⟨⟨q0, q1, q2⟩, -⟩ := box_cells (box_later hx0 hb6)
          clear hb a0 a1 a2
          go_wp2_with fail
          replace hS := hS.later hb6
          replace hx0 := box_later hx0 hb6
          refine (same_any (makeY X name c slots) _ _ _ _ _ (hC1.later goodC hb6) (hH1.later goodO hb6) (hC2.later goodC hb6) (hH2.later goodO hb6)).mono ?_
          rintro e w6 ⟨rfl, hb⟩
          replace hS := hS.later hb
          replace hx0 := box_later hx0 hb
          replace hy0 := box_later hy0 hb
          have hz6 : w5.heap.size + 1 ≤ w6.heap.size := blk_lt hy0
          clear hb hb6 q0 q1 q2 hC1 hH1 hC2 hH2
          have a0 := hS.a0
          have a1 := hS.a1
          have a2 := hS.a2
          have m0 := hS.m0
          have m1 := hS.m1
          have m2 := hS.m2
          have m3 := hS.m3
          have m4 := hS.m4
          go_wp2_with fail
          refine (install_all X c m _ _ _ _ hS.cls hS.heap hS.code hmn).mono ?_
          rintro e w7 ⟨x3, y3, z3, t3, rfl, hC1, hH1, hb⟩
          replace hS := hS.later hb
          replace hx0 := box_later hx0 hb
          replace hy0 := box_later hy0 hb
          have hz7 : w6.heap.size ≤ w7.heap.size := hb.size
          clear hb a0 a1 a2 m0 m1 m2 m3 m4
          obtain ⟨⟨q0, q1, q2⟩, qf⟩ := box_cells hx0
          have e1 : ¬ w.heap.size = w4.heap.size := by omega
          have e2 : ¬ w4.heap.size = w.heap.size := by omega
          have e3 : ¬ w.heap.size + 1 = w4.heap.size := by omega
          have e4 : ¬ w4.heap.size = w.heap.size + 1 := by omega
          have a0 := hS.a0
          have a1 := hS.a1
          have a2 := hS.a2
          have m0 := hS.m0
          have m1 := hS.m1
          have m2 := hS.m2
          have m3 := hS.m3
          have m4 := hS.m4
          go_wp2_with fail
          have hK7 := below_set3 (b := w4.heap.size) (n := w.heap.size + 2) (Below.refl _ w7) hz4 (.slice x3 (instY X c m).classes.length y3) (.slice z3 (instY X c m).heap.length t3) (.int .i64 (instY X c m).epoch)
          replace hS := hS.keep hK7
          have hk : Keeps (fun b => In w b ∨ w6.heap.size ≤ b) w7 (((w7.setCell ⟨w4.heap.size, 0, none⟩ (.slice x3 (instY X c m).classes.length y3)).setCell ⟨w4.heap.size, 1, none⟩ (.slice z3 (instY X c m).heap.length t3)).setCell ⟨w4.heap.size, 2, none⟩ (.int .i64 (instY X c m).epoch)) :=
            keep_set (keep_set (keep_set (Keeps.refl _ _) (by omega) _) (by omega) _) (by omega) _
          replace hC1 := hC1.keep goodC hk fun _ h => h
          replace hH1 := hH1.keep goodO hk fun _ h => h
          replace hx0 := box_set (u := .slice x3 (instY X c m).classes.length y3) (v := .slice z3 (instY X c m).heap.length t3) (r := .int .i64 (instY X c m).epoch) hx0
          replace hy0 : (((w7.setCell ⟨w4.heap.size, 0, none⟩ (.slice x3 (instY X c m).classes.length y3)).setCell ⟨w4.heap.size, 1, none⟩ (.slice z3 (instY X c m).heap.length t3)).setCell ⟨w4.heap.size, 2, none⟩ (.int .i64 (instY X c m).epoch)).heap[w5.heap.size]? = _ := (setCell_else (by omega) _).trans ((setCell_else (by omega) _).trans ((setCell_else (by omega) _).trans hy0))
          have hz8 : w7.heap.size = (((w7.setCell ⟨w4.heap.size, 0, none⟩ (.slice x3 (instY X c m).classes.length y3)).setCell ⟨w4.heap.size, 1, none⟩ (.slice z3 (instY X c m).heap.length t3)).setCell ⟨w4.heap.size, 2, none⟩ (.int .i64 (instY X c m).epoch)).heap.size := by rw [size_setCell, size_setCell, size_setCell]
          clear hk hK7 a0 a1 a2 m0 m1 m2 m3 m4 q0 q1 q2 qf
          generalize (((w7.setCell ⟨w4.heap.size, 0, none⟩ (.slice x3 (instY X c m).classes.length y3)).setCell ⟨w4.heap.size, 1, none⟩ (.slice z3 (instY X c m).heap.length t3)).setCell ⟨w4.heap.size, 2, none⟩ (.int .i64 (instY X c m).epoch)) = w8 at *
          refine (rinstall_all X c m _ _ _ _ hS.cls hS.heap hS.code hmn hR).mono ?_
          rintro e w9 ⟨x4, y4, z4, t4, rfl, hC2, hH2, hb⟩
          replace hS := hS.later hb
          replace hx0 := box_later hx0 hb
          replace hy0 := box_later hy0 hb
          replace hC1 := hC1.later goodC hb
          replace hH1 := hH1.later goodO hb
          clear hb
          obtain ⟨⟨q0, q1, q2⟩, qf⟩ := box_cells hy0
          have f1 : ¬ w.heap.size = w5.heap.size := by omega
          have f2 : ¬ w5.heap.size = w.heap.size := by omega
          have f3 : ¬ w.heap.size + 1 = w5.heap.size := by omega
          have f4 : ¬ w5.heap.size = w.heap.size + 1 := by omega
          have m0 := hS.m0
          have m1 := hS.m1
          have m2 := hS.m2
          have m3 := hS.m3
          have m4 := hS.m4
          go_wp2_with fail
          have hK9 := below_set3 (b := w5.heap.size) (n := w.heap.size + 2) (Below.refl _ w9) (by omega) (.slice x4 (instY X c m).classes.length y4) (.slice z4 (instY X c m).heap.length t4) (.int .i64 (instY X c m).epoch)
          replace hS := hS.keep hK9
          have hk1 : Keeps (fun b => In w b ∨ w6.heap.size ≤ b) w9 (((w9.setCell ⟨w5.heap.size, 0, none⟩ (.slice x4 (instY X c m).classes.length y4)).setCell ⟨w5.heap.size, 1, none⟩ (.slice z4 (instY X c m).heap.length t4)).setCell ⟨w5.heap.size, 2, none⟩ (.int .i64 (instY X c m).epoch)) :=
            keep_set (keep_set (keep_set (Keeps.refl _ _) (by omega) _) (by omega) _) (by omega) _
          have hk2 : Keeps (fun b => In w b ∨ w8.heap.size ≤ b) w9 (((w9.setCell ⟨w5.heap.size, 0, none⟩ (.slice x4 (instY X c m).classes.length y4)).setCell ⟨w5.heap.size, 1, none⟩ (.slice z4 (instY X c m).heap.length t4)).setCell ⟨w5.heap.size, 2, none⟩ (.int .i64 (instY X c m).epoch)) :=
            keep_set (keep_set (keep_set (Keeps.refl _ _) (by omega) _) (by omega) _) (by omega) _
          replace hC1 := hC1.keep goodC hk1 fun _ h => h
          replace hH1 := hH1.keep goodO hk1 fun _ h => h
          replace hC2 := hC2.keep goodC hk2 fun _ h => h
          replace hH2 := hH2.keep goodO hk2 fun _ h => h
          replace hy0 := box_set (u := .slice x4 (instY X c m).classes.length y4) (v := .slice z4 (instY X c m).heap.length t4) (r := .int .i64 (instY X c m).epoch) hy0
          replace hx0 : (((w9.setCell ⟨w5.heap.size, 0, none⟩ (.slice x4 (instY X c m).classes.length y4)).setCell ⟨w5.heap.size, 1, none⟩ (.slice z4 (instY X c m).heap.length t4)).setCell ⟨w5.heap.size, 2, none⟩ (.int .i64 (instY X c m).epoch)).heap[w4.heap.size]? = _ := (setCell_else (by omega) _).trans ((setCell_else (by omega) _).trans ((setCell_else (by omega) _).trans hx0))
          clear hk1 hk2 hK9 m0 m1 m2 m3 m4 q0 q1 q2 qf
          generalize (((w9.setCell ⟨w5.heap.size, 0, none⟩ (.slice x4 (instY X c m).classes.length y4)).setCell ⟨w5.heap.size, 1, none⟩ (.slice z4 (instY X c m).heap.length t4)).setCell ⟨w5.heap.size, 2, none⟩ (.int .i64 (instY X c m).epoch)) = w10 at *
          refine (method_any m _ _ hS.code).mono ?_
          rintro e w11 ⟨x5, y5, rfl, hcd, hb⟩
          replace hS := hS.later hb
          replace hx0 := box_later hx0 hb
          replace hy0 := box_later hy0 hb
          replace hC1 := hC1.later goodC hb
          replace hH1 := hH1.later goodO hb
          replace hC2 := hC2.later goodC hb
          replace hH2 := hH2.later goodO hb
          clear hb
          have hb12 := bel1 w11 (Obj.cells #[Value.string m.name, Value.int IntKind.i64 m.args, Value.int IntKind.i64 m.temps, Value.int IntKind.i64 m.prim, Value.slice x5 m.code.length y5] 28)
          have hz0 := blk_new w11 (Obj.cells #[Value.string m.name, Value.int IntKind.i64 m.args, Value.int IntKind.i64 m.temps, Value.int IntKind.i64 m.prim, Value.slice x5 m.code.length y5] 28) _ rfl
          obtain ⟨⟨q0, q1, q2⟩, -⟩ := box_cells (box_later hx0 hb12)
          obtain ⟨⟨r0, r1, r2⟩, -⟩ := box_cells (box_later hy0 hb12)
          go_wp2_with fail
          refine (same_any (instY X c m) _ _ _ _ _ (hC1.later goodC hb12) (hH1.later goodO hb12) (hC2.later goodC hb12) (hH2.later goodO hb12)).mono ?_
          rintro e w12 ⟨rfl, hb⟩
          replace hS := hS.later (nstep hb12 hb)
          replace hz0 := box_later hz0 hb
          have zc : ∀ q, w12.cell? ⟨w11.heap.size, q, none⟩ = (#[Value.string m.name, Value.int IntKind.i64 m.args, Value.int IntKind.i64 m.temps, Value.int IntKind.i64 m.prim, Value.slice x5 m.code.length y5] : Array Value)[q]? := fun q => by rw [cell_of_row _ _ _ _ _ _ hz0]
          replace hcd := hcd.later goodI (nstep hb12 hb)
          clear hb q0 q1 q2 r0 r1 r2 hC1 hC2 hH1 hH2 hx0 hy0
          have m0 := hS.m0
          have m1 := hS.m1
          have m2 := hS.m2
          have m3 := hS.m3
          have m4 := hS.m4
          go_wp2_with fail
          refine (sameCode_any m.code _ _ _ hcd hS.code).mono ?_
          rintro e w13 ⟨rfl, hb⟩
          replace hS := hS.later hb
          clear hb
          go_wp2
          go_ret
          exact ⟨rfl, hS.bel⟩
end Go.Proofs.Ytahcmmdlggcfbaa
