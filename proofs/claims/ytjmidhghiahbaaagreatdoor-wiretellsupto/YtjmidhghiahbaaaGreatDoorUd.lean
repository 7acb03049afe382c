/- Package wire: wrongMethod. -/
import Derived.Test.YtjmidhghiahbaaaGreatDoorUc
namespace Go.Proofs.YtjmidhghiahbaaaGreatDoor
open Go.ChangeShapes Go.WideShapes Go.ChangeAt Go.RowKit
set_option linter.unusedSimpArgs false
set_option linter.unusedVariables false
set_option maxRecDepth 8000

theorem infE : (Tryz.prog.info? 27).map (fun i => (i.zero, i.size, i.bytes)) = some (some (.int .i64 0), 1, 8) := by kernel_rfl
theorem inf22 : (Tryz.prog.info? 22).map (fun i => (i.zero, i.size, i.bytes)) = some (some (.slice none 0 0), 1, 24) := by kernel_rfl
theorem field45 (a b : Int) (w : World) : (Instr.field 45 (.agg #[.int .i64 a, .int .i64 b]) 0).run Tryz.prog w = .ok (.int .i64 a) w := by
  obtain ⟨i0, hi, hz0, hz1, hz2⟩ := info_parts infE
  simp [Instr.field, run_underlying Tryz.underlying45, part, sizeOf, typeInfo, hi, hz1, asAgg]
theorem field25 (a b c : Value) (w : World) : (Instr.field 25 (.agg #[a, b, c]) 0).run Tryz.prog w = .ok a w := by
  obtain ⟨i0, hi, hz0, hz1, hz2⟩ := info_parts inf22
  simp [Instr.field, run_underlying Tryz.underlying25, part, sizeOf, typeInfo, hi, hz1, asAgg]
theorem aheadB_succ {ms : List QM} {t : Nat} {p m : QM} (h : ms[t]? = some p) : aheadB ms (t + 1) m = ltN p.name m.name := by simp [aheadB, h]
theorem rm_ahead {X : QW} {k i : Nat} {ms : List QM} {m : QM} (h : aheadB ms i m = false) : rmE X k ms i m = 7 := by unfold rmE; rw [if_pos h]
theorem rm_prim {X : QW} {k i : Nat} {ms : List QM} {m : QM} (h : aheadB ms i m = true) (hp : primB k m = true) : rmE X k ms i m = 0 := by unfold rmE; rw [if_neg (by simp [h]), if_pos hp]
theorem rm_check {X : QW} {k i : Nat} {ms : List QM} {m : QM} (h : aheadB ms i m = true) (hp : primB k m = false) : rmE X k ms i m = (checkE (slotsW X.classes k) X.classes.length k m).1 := by unfold rmE; rw [if_neg (by simp [h]), if_neg (by simp [hp])]
theorem primB_ne {k : Nat} {m : QM} (h : k ≠ 3) : primB k m = false := by
  unfold primB
  rw [List.any_eq_false]
  intro p _
  simp [h]
/-- What the statement reads of a method: the world's box, and the method's cells. -/
structure WmS (w : World) (X : QW) (cv hv : Value) (m : QM) (mv : Value) (b2 o2 k : Nat) (w' : World) : Prop where
  S : WbS w X cv hv w'
  p0 : w'.cell? ⟨b2, o2 + k * 5, none⟩ = some (.string m.name)
  p1 : w'.cell? ⟨b2, o2 + k * 5 + 1, none⟩ = some (.int .i64 m.args)
  p2 : w'.cell? ⟨b2, o2 + k * 5 + 2, none⟩ = some (.int .i64 m.temps)
  p3 : w'.cell? ⟨b2, o2 + k * 5 + 3, none⟩ = some (.int .i64 m.prim)
  p4 : w'.cell? ⟨b2, o2 + k * 5 + 4, none⟩ = some mv
theorem WmS.later {w : World} {X : QW} {cv hv : Value} {m : QM} {mv : Value} {b2 o2 k : Nat} {w' w1 : World} (h : WmS w X cv hv m mv b2 o2 k w') (hb : Below w'.heap.size w' w1) : WmS w X cv hv m mv b2 o2 k w1 :=
  ⟨h.S.later hb, cell_later hb h.p0, cell_later hb h.p1, cell_later hb h.p2, cell_later hb h.p3, cell_later hb h.p4⟩
theorem wmA {w : World} {X : QW} {cv hv : Value} {m : QM} {mv : Value} {b2 o2 k : Nat} {w' : World} (h : WmS w X cv hv m mv b2 o2 k w') : w'.cell? ⟨w.heap.size, 0, none⟩ = some cv ∧ w'.cell? ⟨w.heap.size, 1, none⟩ = some hv ∧ w'.cell? ⟨w.heap.size, 2, none⟩ = some (.int .i64 X.epoch) ∧ w'.cell? ⟨b2, o2 + k * 5, none⟩ = some (.string m.name) ∧ w'.cell? ⟨b2, o2 + k * 5 + 1, none⟩ = some (.int .i64 m.args) ∧ w'.cell? ⟨b2, o2 + k * 5 + 2, none⟩ = some (.int .i64 m.temps) ∧ w'.cell? ⟨b2, o2 + k * 5 + 3, none⟩ = some (.int .i64 m.prim) ∧ w'.cell? ⟨b2, o2 + k * 5 + 4, none⟩ = some mv ∧ WmS w X cv hv m mv b2 o2 k w' := ⟨h.S.a0, h.S.a1, h.S.a2, h.p0, h.p1, h.p2, h.p3, h.p4, h⟩
theorem wmB {w : World} {X : QW} {cv hv : Value} {m : QM} {mv : Value} {b2 o2 k : Nat} {w' w1 : World} {q0 q1 q2 q3 q4 q5 q6 q7 : Prop} (h : q0 ∧ q1 ∧ q2 ∧ q3 ∧ q4 ∧ q5 ∧ q6 ∧ q7 ∧ WmS w X cv hv m mv b2 o2 k w') (hb : Below w'.heap.size w' w1) : w1.cell? ⟨w.heap.size, 0, none⟩ = some cv ∧ w1.cell? ⟨w.heap.size, 1, none⟩ = some hv ∧ w1.cell? ⟨w.heap.size, 2, none⟩ = some (.int .i64 X.epoch) ∧ w1.cell? ⟨b2, o2 + k * 5, none⟩ = some (.string m.name) ∧ w1.cell? ⟨b2, o2 + k * 5 + 1, none⟩ = some (.int .i64 m.args) ∧ w1.cell? ⟨b2, o2 + k * 5 + 2, none⟩ = some (.int .i64 m.temps) ∧ w1.cell? ⟨b2, o2 + k * 5 + 3, none⟩ = some (.int .i64 m.prim) ∧ w1.cell? ⟨b2, o2 + k * 5 + 4, none⟩ = some mv ∧ WmS w X cv hv m mv b2 o2 k w1 := wmA (h.2.2.2.2.2.2.2.2.later hb)
theorem new_first {P : Nat → Prop} {w : World} {cv : Value} (h : IsClasses P w cv newX.classes) : ∃ bf og y1 b3 o3 c3, cv = .slice (some ⟨bf, og, none⟩) 4 y1 ∧ w.cell? ⟨bf, og + 15, none⟩ = some (.slice (some ⟨b3, o3, none⟩) 5 c3) ∧ IsMeths P w (.slice (some ⟨b3, o3, none⟩) 5 c3) newM := by
  obtain ⟨a, c, rfl, -, -, -, hr⟩ := h
  obtain ⟨bf, og, rfl, -, -, -, -, -, mv, v3, hM⟩ := hr 3 _ rfl
  obtain ⟨a3, c3, rfl, h1, h2, h3, hr3⟩ := id hM
  obtain ⟨b3, o3, rfl, -⟩ := hr3 0 _ rfl
  exact ⟨bf, og, c, b3, o3, c3, rfl, v3, hM⟩
theorem check_w {P : Nat → Prop} (X : QW) (c : Int) (m : QM) (cv hv mv : Value) (w : World) (hh : IsClasses P w cv X.classes) (hH : IsHeap P w hv X.heap) (hM : IsCode P w mv m.code) (hmn : m.name.size ≤ 140737488351232) (f1 f2 : Int) (hf : checkE (slotsW X.classes c) X.classes.length c m = (f1, f2)) : Calls Tryz.prog 52 #[WV cv hv X.epoch, .int .i64 c, MV m mv] w fun e w' => e = .returned (.agg #[.int .i64 f1, .int .i64 f2]) ∧ Below w.heap.size w w' := by
  have := check_any X c m cv hv mv w hh hH hM hmn
  rw [hf] at this
  exact this

set_option maxRecDepth 100000 in
set_option maxHeartbeats 4000000 in
theorem wmeth_any {P : Nat → Prop} (X : QW) (n k : Nat) (x : QC) (m : QM) (cv hv : Value) (w : World) (hh : IsClasses P w cv X.classes) (hH : IsHeap P w hv X.heap) (hx : X.classes[n]? = some x) (hm : x.methods[k]? = some m) : Calls Tryz.prog 34 #[WV cv hv X.epoch, .int .i64 n, .int .i64 k] w fun e w' => e = .returned (.int .i64 (rmE X n x.methods k m)) ∧ Below w.heap.size w w' := by
  obtain ⟨ad, cap, rfl, hl, hcap, hby, hrow⟩ := id hh
  obtain ⟨ah, ch, rfl⟩ := hH.get
  unfold maxLen at hcap
  obtain ⟨b, o, rfl, -, -, -, -, -, mv, v3, hMs⟩ := hrow n x hx
  obtain ⟨ad2, cap2, rfl, hl2, hcap2, hby2, hrow2⟩ := id hMs
  unfold maxLen at hcap2
  obtain ⟨b2, o2, rfl, -, p0, p1, p2, p3, hmn, cv4, p4, hcc⟩ := hrow2 k m hm
  obtain ⟨ad4, cap4, rfl⟩ := hcc.get
  simp only [Nat.add_zero] at p0
  have hnl := lt_of_get hx
  have hkl := lt_of_get hm
  have hn0 : (0 : Int) ≤ (n : Int) := by omega
  have hn1 : (n : Int) < (X.classes.length : Int) := by omega
  have hk0 : (0 : Int) ≤ (k : Int) := by omega
  have hk1 : (k : Int) < (x.methods.length : Int) := by omega
  have HA : Hid (aheadB x.methods k m = false → 7 = rmE X n x.methods k m) := fun h => (rm_ahead h).symm
  have HP : Hid (aheadB x.methods k m = true → primB n m = true → 0 = rmE X n x.methods k m) := fun h h2 => (rm_prim h h2).symm
  have HC : Hid (aheadB x.methods k m = true → primB n m = false → (checkE (slotsW X.classes n) X.classes.length n m).1 = rmE X n x.methods k m) := fun h h2 => (rm_check h h2).symm
  generalize rmE X n x.methods k m = R at *
  go_enter Tryz.func34, Tryz.ntmps34
  go_upto_region 1 with (fail)
  have hS0 := wb_start w X (.slice (some ⟨b, o, none⟩) X.classes.length cap) (.slice ah X.heap.length ch)
  generalize (w.alloc (Obj.cells #[Value.slice (some ⟨b, o, none⟩) X.classes.length cap, Value.slice ah X.heap.length ch, Value.int IntKind.i64 X.epoch] 25)) = W0 at *
  have hS : WmS w X (.slice (some ⟨b, o, none⟩) X.classes.length cap) (.slice ah X.heap.length ch) m (.slice ad4 m.code.length cap4) b2 o2 k W0 := ⟨hS0, cell_later hS0.bel p0, cell_later hS0.bel p1, cell_later hS0.bel p2, cell_later hS0.bel p3, cell_later hS0.bel p4⟩
  clear p0 p1 p2 p3 p4
  have a0 := hS.S.a0
  replace v3 := cell_later hS.S.bel v3
  go_upto_region 2 with (fail)
  clear a0 v3 hS0
  have p0 := hS.p0
  cases hah : aheadB x.methods k m
  · have H7 : Hid (7 = R) := HA.out hah
    cases k with
    | zero => cases hah
    | succ t =>
      obtain ⟨p, hp⟩ : ∃ p, x.methods[t]? = some p := ⟨_, List.getElem?_eq_getElem (by omega)⟩
      have hlt : Op.bytesLess p.name.toList m.name.toList = false := by
        have := hah; rw [aheadB_succ hp] at this; exact this
      obtain ⟨b3, o3, e3, -, r0, -⟩ := hrow2 t p hp
      cases e3
      simp only [Nat.add_zero] at r0
      replace r0 := cell_later hS.S.bel r0
      have hpos : (0 : Int) < ((t + 1 : Nat) : Int) := by omega
      have hsub : IntKind.i64.wrap (((t + 1 : Nat) : Int) - 1) = (t : Int) := by rw [IntKind.wrap_i64]; omega
      have hkk : (t : Int) < (x.methods.length : Int) := by omega
      clear hp hah
      go_quiet (fail)
      go_wp2
      go_ret
      exact ⟨ret_i H7.out, below_drewN hS.S.bel _⟩
  go_cut [29] (fun s wx => s = .bool false ∧ WmS w X (.slice (some ⟨b, o, none⟩) X.classes.length cap) (.slice ah X.heap.length ch) m (.slice ad4 m.code.length cap4) b2 o2 k wx)
  case first =>
    cases k with
    | zero =>
      go_quiet (fail)
      go_wp2_with fail
      go_meet
      case rel => exact ⟨rfl, hS.later (below_drewN (Below.refl _ _) _)⟩
    | succ t =>
      obtain ⟨p, hp⟩ : ∃ p, x.methods[t]? = some p := ⟨_, List.getElem?_eq_getElem (by omega)⟩
      have hlt : Op.bytesLess p.name.toList m.name.toList = true := by
        have := hah; rw [aheadB_succ hp] at this; exact this
      obtain ⟨b3, o3, e3, -, r0, -⟩ := hrow2 t p hp
      cases e3
      simp only [Nat.add_zero] at r0
      replace r0 := cell_later hS.S.bel r0
      have hpos : (0 : Int) < ((t + 1 : Nat) : Int) := by omega
      have hsub : IntKind.i64.wrap (((t + 1 : Nat) : Int) - 1) = (t : Int) := by rw [IntKind.wrap_i64]; omega
      have hkk : (t : Int) < (x.methods.length : Int) := by omega
      clear hp hah
      go_quiet (fail)
      go_wp2_with fail
      go_meet
      case rel => exact ⟨rfl, hS.later (below_drewN (Below.refl _ _) _)⟩
  case rest =>
    clear hS p0
    obtain ⟨rfl, hS⟩ := hcut
    have HPB : Hid (primB n m = true → 0 = R) := HP.out hah
    have HCB : Hid (primB n m = false → (checkE (slotsW X.classes n) X.classes.length n m).1 = R) := HC.out hah
    clear HA HP HC hah
    go_upto_region 4 with (fail)
    obtain ⟨pb, hpb⟩ : ∃ pb, primB n m = pb := ⟨_, rfl⟩
    go_cut [44] (fun s wx => s = .bool pb ∧ WmS w X (.slice (some ⟨b, o, none⟩) X.classes.length cap) (.slice ah X.heap.length ch) m (.slice ad4 m.code.length cap4) b2 o2 k wx)
    case first =>
      by_cases n3 : n = 3
      case neg =>
        have n3' : ((n : Int) == 3) = false := beq_eq_false_iff_ne.2 (by omega)
        have hpf : pb = false := by rw [← hpb]; exact primB_ne n3
        subst hpf
        clear hpb n3
        go_quiet (fail)
        go_wp2_with fail
        go_meet
        case rel => exact ⟨rfl, hS.later (below_drewN (Below.refl _ _) _)⟩
      subst n3
      have hSd := hS.later (Below.refl _ _).drew
      clear hS
      have hf25 := field25
      have p0 := hSd.p0
      have p1 := hSd.p1
      have p2 := hSd.p2
      have p3 := hSd.p3
      have p4 := hSd.p4
      go_region_with (first
        | (go_at_call 30; refine (new_any _).mono ?_; rintro e w' ⟨cvn, hvn, rfl, hCn, hHn, hbn⟩; obtain ⟨bf, og, y1, b3, o3, c3, rfl, u3, hM3⟩ := new_first hCn; obtain ⟨x2, y2, rfl⟩ := hHn.get; have hSn := hSd.later hbn; have r0 := hSn.p0; have r1 := hSn.p1; have r2 := hSn.p2; have r3 := hSn.p3; have r4 := hSn.p4)
        | (go_at_call 51; refine (has_any' m _ _ _ hM3 ⟨_, _, rfl⟩).mono ?_; rintro e w'' ⟨rfl, hbh⟩; have hSh := hSn.later hbh))
      all_goals
        go_wp2_with fail
        go_meet
        case rel => exact ⟨by rw [← hpb], hSh⟩
    case rest =>
      clear hS
      obtain ⟨rfl, hS⟩ := hcut
      cases pb
      · have HCR := HCB.out hpb
        obtain ⟨f1, f2, hf⟩ : ∃ f1 f2, checkE (slotsW X.classes n) X.classes.length n m = (f1, f2) := ⟨_, _, rfl⟩
        have HR1 : Hid (f1 = R) := by rw [hf] at HCR; exact HCR
        clear HCR HPB HCB hpb
        have hfl := field45
        go_upto_region 6 with (fail)
        have hSd := wmA (hS.later (Below.refl _ _).drew)
        clear hS
        go_region_held3 (fun w' => w'.cell? ⟨w.heap.size, 0, none⟩ = some (.slice (some ⟨b, o, none⟩) X.classes.length cap) ∧ w'.cell? ⟨w.heap.size, 1, none⟩ = some (.slice ah X.heap.length ch) ∧ w'.cell? ⟨w.heap.size, 2, none⟩ = some (.int .i64 X.epoch) ∧ w'.cell? ⟨b2, o2 + k * 5, none⟩ = some (.string m.name) ∧ w'.cell? ⟨b2, o2 + k * 5 + 1, none⟩ = some (.int .i64 m.args) ∧ w'.cell? ⟨b2, o2 + k * 5 + 2, none⟩ = some (.int .i64 m.temps) ∧ w'.cell? ⟨b2, o2 + k * 5 + 3, none⟩ = some (.int .i64 m.prim) ∧ w'.cell? ⟨b2, o2 + k * 5 + 4, none⟩ = some (.slice ad4 m.code.length cap4) ∧ WmS w X (.slice (some ⟨b, o, none⟩) X.classes.length cap) (.slice ah X.heap.length ch) m (.slice ad4 m.code.length cap4) b2 o2 k w')
          (first | with_reducible exact hSd | with_reducible exact wmB (‹_ ∧ _ ∧ _ ∧ _ ∧ _ ∧ _ ∧ _ ∧ _ ∧ WmS _ _ _ _ _ _ _ _ _ _›) hb)
          (first | (go_at_call 52; refine (check_w X n m _ _ _ _ (hh.later goodC (‹_ ∧ _ ∧ _ ∧ _ ∧ _ ∧ _ ∧ _ ∧ _ ∧ WmS _ _ _ _ _ _ _ _ _ _›).2.2.2.2.2.2.2.2.S.bel) (hH.later goodO (‹_ ∧ _ ∧ _ ∧ _ ∧ _ ∧ _ ∧ _ ∧ _ ∧ WmS _ _ _ _ _ _ _ _ _ _›).2.2.2.2.2.2.2.2.S.bel) (hcc.later goodI (‹_ ∧ _ ∧ _ ∧ _ ∧ _ ∧ _ ∧ _ ∧ _ ∧ WmS _ _ _ _ _ _ _ _ _ _›).2.2.2.2.2.2.2.2.S.bel) hmn f1 f2 hf).mono ?_; rintro e w' ⟨rfl, hb⟩))
        go_wp2
        go_ret
        exact ⟨ret_i HR1.out, (‹_ ∧ _ ∧ _ ∧ _ ∧ _ ∧ _ ∧ _ ∧ _ ∧ WmS _ _ _ _ _ _ _ _ _ _›).2.2.2.2.2.2.2.2.S.bel⟩
      · have H0 : Hid (0 = R) := HPB.out hpb
        go_wp2
        go_ret
        exact ⟨ret_i H0.out, hS.S.bel⟩
end Go.Proofs.YtjmidhghiahbaaaGreatDoor
