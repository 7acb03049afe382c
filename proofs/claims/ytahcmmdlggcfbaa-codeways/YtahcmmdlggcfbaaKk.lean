/- The closed fact of chapter 3. -/
import Derived.Test.YtahcmmdlggcfbaaKj
namespace Go.Proofs.Ytahcmmdlggcfbaa
open Go.ChangeShapes Go.WideShapes Go.ChangeAt Go.RowKit
set_option linter.unusedSimpArgs false
set_option linter.unusedVariables false
set_option maxRecDepth 8000

theorem info40 : (Try.prog.info? 40).map (fun i => (i.zero, i.size, i.bytes)) = some (some (.int .i64 0), 1, 8) := by kernel_rfl
theorem field53 (a b : Int) (w : World) : (Instr.field 53 (.agg #[.int .i64 a, .int .i64 b]) 0).run Try.prog w = .ok (.int .i64 a) w := by
  obtain ⟨i0, hi, hz0, hz1, hz2⟩ := info_parts info40
  simp [Instr.field, run_underlying Try.underlying53, part, sizeOf, typeInfo, hi, hz1, asAgg]
theorem check_al {P Q R : Nat → Prop} (cv hv mv : Value) (w : World) (hh : IsClasses P w cv newX.classes) (hH : IsHeap Q w hv []) (hM : IsCode R w mv alM.code) : Calls Try.prog 28 #[WV cv hv 0, .int .i64 0, MV alM mv] w fun e w' => e = .returned (.agg #[.int .i64 0, .int .i64 0]) ∧ Below w.heap.size w w' := by
  have := check_any (P := fun _ => True) newX 0 alM cv hv mv w (hh.mono goodC fun _ _ => trivial) (hH.mono goodO fun _ _ => trivial) (hM.mono goodI fun _ _ => trivial) (by decide)
  rw [al_check] at this
  exact this
theorem check_alC {P Q R : Nat → Prop} (cv hv mv : Value) (w : World) (hh : IsClasses P w cv newX.classes) (hH : IsHeap Q w hv []) (hM : IsCode R w mv alC.code) : Calls Try.prog 28 #[WV cv hv 0, .int .i64 0, MV alC mv] w fun e w' => e = .returned (.agg #[.int .i64 9, .int .i64 1]) ∧ Below w.heap.size w w' := by
  have := check_any (P := fun _ => True) newX 0 alC cv hv mv w (hh.mono goodC fun _ _ => trivial) (hH.mono goodO fun _ _ => trivial) (hM.mono goodI fun _ _ => trivial) (by decide)
  rw [al_cut] at this
  exact this
/-- What the closed fact looks at. -/
structure AlS (w : World) (w' : World) : Prop where
  bel : Below w.heap.size w w'
  code : IsCode (fun _ => True) w' (.slice (some ⟨w.heap.size, 0, none⟩) 2 2) alM.code
  cut : IsCode (fun _ => True) w' (.slice (some ⟨w.heap.size, 0, none⟩) 1 2) alC.code
theorem AlS.later {w : World} {w' w1 : World} (h : AlS w w') (hb : Below w'.heap.size w' w1) : AlS w w1 := ⟨nstep h.bel hb, h.code.later goodI hb, h.cut.later goodI hb⟩
theorem al_later {a0 a1 a2 a3 a4 a5 a6 : Addr} {v0 v1 v2 v3 v4 v5 v6 : Value} {W w w' : World} (h : w.cell? a0 = some v0 ∧ w.cell? a1 = some v1 ∧ w.cell? a2 = some v2 ∧ w.cell? a3 = some v3 ∧ w.cell? a4 = some v4 ∧ w.cell? a5 = some v5 ∧ w.cell? a6 = some v6 ∧ AlS W w) (hb : Below w.heap.size w w') : w'.cell? a0 = some v0 ∧ w'.cell? a1 = some v1 ∧ w'.cell? a2 = some v2 ∧ w'.cell? a3 = some v3 ∧ w'.cell? a4 = some v4 ∧ w'.cell? a5 = some v5 ∧ w'.cell? a6 = some v6 ∧ AlS W w' :=
  ⟨cell_later hb h.1, cell_later hb h.2.1, cell_later hb h.2.2.1, cell_later hb h.2.2.2.1, cell_later hb h.2.2.2.2.1, cell_later hb h.2.2.2.2.2.1, cell_later hb h.2.2.2.2.2.2.1, h.2.2.2.2.2.2.2.later hb⟩

set_option maxHeartbeats 4000000 in
theorem alive3_any (w : World) : Calls Try.prog 32 #[] w fun e w' => e = .returned (.bool true) ∧ Below w.heap.size w w' := by
  go_enter Try.func32, Try.ntmps32
  go_wp2_with fail
  have hcs : ∀ W : World, Cells InstrC 5 (fun _ => True) W [.int .i64 5, .int .i64 5, .int .i64 0, .int .i64 0, .string ⟨#[]⟩, .int .i64 17, .int .i64 0, .int .i64 0, .int .i64 0, .string ⟨#[]⟩] alM.code := fun W =>
    (Cells.one goodI (cs := [.int .i64 5, .int .i64 5, .int .i64 0, .int .i64 0, .string ⟨#[]⟩]) rfl ⟨rfl, rfl, rfl, rfl, rfl, by decide⟩).append goodI (Cells.one goodI (cs := [.int .i64 17, .int .i64 0, .int .i64 0, .int .i64 0, .string ⟨#[]⟩]) rfl ⟨rfl, rfl, rfl, rfl, rfl, by decide⟩)
  have hcC : ∀ W : World, Cells InstrC 5 (fun _ => True) W [.int .i64 5, .int .i64 5, .int .i64 0, .int .i64 0, .string ⟨#[]⟩] alC.code := fun W =>
    (Cells.one goodI (cs := [.int .i64 5, .int .i64 5, .int .i64 0, .int .i64 0, .string ⟨#[]⟩]) rfl ⟨rfl, rfl, rfl, rfl, rfl, by decide⟩)
  have hS1 : AlS w ((w.alloc (Obj.cells #[Value.int IntKind.i64 5, Value.int IntKind.i64 5, Value.int IntKind.i64 0, Value.int IntKind.i64 0, Value.string ⟨#[]⟩, Value.int IntKind.i64 17, Value.int IntKind.i64 0, Value.int IntKind.i64 0, Value.int IntKind.i64 0, Value.string ⟨#[]⟩] 56)).alloc (Obj.cells #[Value.string ⟨#[109]⟩, Value.int IntKind.i64 0, Value.int IntKind.i64 0, Value.int IntKind.i64 0, Value.slice (some ⟨w.heap.size, 0, none⟩) 2 2] 28)) :=
    ⟨bel2 _ _ _, IsRow.later (Cells.row (hcs _) goodI trivial (blk_new _ _ _ rfl) rfl (by decide) (by unfold maxLen; omega) (by decide)) goodI (bel1 _ _), IsRow.later (Cells.row (cap := 2) (hcC _) goodI trivial (blk_new _ _ _ rfl) rfl (by decide) (by unfold maxLen; omega) (by decide)) goodI (bel1 _ _)⟩
  have mb := blk_new (w.alloc (Obj.cells #[Value.int IntKind.i64 5, Value.int IntKind.i64 5, Value.int IntKind.i64 0, Value.int IntKind.i64 0, Value.string ⟨#[]⟩, Value.int IntKind.i64 17, Value.int IntKind.i64 0, Value.int IntKind.i64 0, Value.int IntKind.i64 0, Value.string ⟨#[]⟩] 56)) (Obj.cells #[Value.string ⟨#[109]⟩, Value.int IntKind.i64 0, Value.int IntKind.i64 0, Value.int IntKind.i64 0, Value.slice (some ⟨w.heap.size, 0, none⟩) 2 2] 28) (w.heap.size + 1) (by simp)
  refine (heights_any alM _ _ hS1.code al_sends).mono ?_
  rintro e w1 ⟨hb, ⟨h0, g, rfl, hr, hg⟩ | ⟨h0, rfl⟩⟩
  · rw [al_heights] at hr
    rw [show alM.code.length = 2 from rfl]
    have hgc : w1.cell? ⟨g, 1, none⟩ = some (.int .i64 1) := hRow_cell (h := [0, 1]) hr (by decide)
    replace hS1 := hS1.later hb
    replace mb := box_later' mb hb
    have hb2 := bel1 w1 (Obj.cells #[Value.int IntKind.i64 0, Value.int IntKind.i64 0] 53)
    clear hb hcs hcC
    have tokA : True := trivial
    have hfl := field53
    go_wp2
    have hS0 : ((w1.alloc (Obj.cells #[Value.int IntKind.i64 0, Value.int IntKind.i64 0] 53)).drew.cell? ⟨w.heap.size + 1, 0, none⟩ = some (.string ⟨#[109]⟩) ∧ (w1.alloc (Obj.cells #[Value.int IntKind.i64 0, Value.int IntKind.i64 0] 53)).drew.cell? ⟨w.heap.size + 1, 1, none⟩ = some (.int .i64 0) ∧ (w1.alloc (Obj.cells #[Value.int IntKind.i64 0, Value.int IntKind.i64 0] 53)).drew.cell? ⟨w.heap.size + 1, 2, none⟩ = some (.int .i64 0) ∧ (w1.alloc (Obj.cells #[Value.int IntKind.i64 0, Value.int IntKind.i64 0] 53)).drew.cell? ⟨w.heap.size + 1, 3, none⟩ = some (.int .i64 0) ∧ (w1.alloc (Obj.cells #[Value.int IntKind.i64 0, Value.int IntKind.i64 0] 53)).drew.cell? ⟨w.heap.size + 1, 4, none⟩ = some (.slice (some ⟨w.heap.size, 0, none⟩) 2 2) ∧ (w1.alloc (Obj.cells #[Value.int IntKind.i64 0, Value.int IntKind.i64 0] 53)).drew.cell? ⟨w1.heap.size, 0, none⟩ = some (.int .i64 0) ∧ (w1.alloc (Obj.cells #[Value.int IntKind.i64 0, Value.int IntKind.i64 0] 53)).drew.cell? ⟨g, 1, none⟩ = some (.int .i64 1) ∧ AlS w (w1.alloc (Obj.cells #[Value.int IntKind.i64 0, Value.int IntKind.i64 0] 53)).drew) := by
      have mb2 := box_later' mb hb2
      refine ⟨?_, ?_, ?_, ?_, ?_, ?_, cell_later hb2.drew hgc, (hS1.later hb2).later (Below.refl _ _).drew⟩
      · show (w1.alloc _).cell? _ = _; rw [cell_of_row _ _ _ _ _ _ mb2]; rfl
      · show (w1.alloc _).cell? _ = _; rw [cell_of_row _ _ _ _ _ _ mb2]; rfl
      · show (w1.alloc _).cell? _ = _; rw [cell_of_row _ _ _ _ _ _ mb2]; rfl
      · show (w1.alloc _).cell? _ = _; rw [cell_of_row _ _ _ _ _ _ mb2]; rfl
      · show (w1.alloc _).cell? _ = _; rw [cell_of_row _ _ _ _ _ _ mb2]; rfl
      · exact (cell_new w1 _ _ _ rfl 0).trans rfl
    clear hS1 mb hgc hr
    go_region_held3 (fun w' => w'.cell? ⟨w.heap.size + 1, 0, none⟩ = some (.string ⟨#[109]⟩) ∧ w'.cell? ⟨w.heap.size + 1, 1, none⟩ = some (.int .i64 0) ∧ w'.cell? ⟨w.heap.size + 1, 2, none⟩ = some (.int .i64 0) ∧ w'.cell? ⟨w.heap.size + 1, 3, none⟩ = some (.int .i64 0) ∧ w'.cell? ⟨w.heap.size + 1, 4, none⟩ = some (.slice (some ⟨w.heap.size, 0, none⟩) 2 2) ∧ w'.cell? ⟨w1.heap.size, 0, none⟩ = some (.int .i64 0) ∧ w'.cell? ⟨g, 1, none⟩ = some (.int .i64 1) ∧ AlS w w')
      (first | with_reducible exact hS0 | with_reducible exact al_later (‹_ ∧ _ ∧ _ ∧ _ ∧ _ ∧ _ ∧ _ ∧ AlS w _›) hb)
      (first
        | (go_at_call 12; have _t := tokA; refine (rnew_any _).mono ?_; rintro e w' ⟨cv1, hv1, rfl, hC1, hH1, hb⟩; obtain ⟨x1, y1, rfl⟩ := hC1.get; obtain ⟨x2, y2, rfl⟩ := hH1.get)
        | (go_at_call 28; have _t := tokA; refine (check_al _ _ _ _ hC1 hH1 (‹_ ∧ _ ∧ _ ∧ _ ∧ _ ∧ _ ∧ _ ∧ AlS w _›).2.2.2.2.2.2.2.code).mono ?_; rintro e w' ⟨rfl, hb⟩; clear _t tokA)
        | (go_at_call 12; refine (rnew_any _).mono ?_; rintro e w' ⟨cv2, hv2, rfl, hC2, hH2, hb⟩; obtain ⟨x3, y3, rfl⟩ := hC2.get; obtain ⟨x4, y4, rfl⟩ := hH2.get)
        | (go_at_call 28; refine (check_alC _ _ _ _ hC2 hH2 (‹_ ∧ _ ∧ _ ∧ _ ∧ _ ∧ _ ∧ _ ∧ AlS w _›).2.2.2.2.2.2.2.cut).mono ?_; rintro e w' ⟨rfl, hb⟩))
    all_goals go_wp2
    all_goals go_ret
    all_goals exact ⟨rfl, (‹_ ∧ _ ∧ _ ∧ _ ∧ _ ∧ _ ∧ _ ∧ AlS w _›).2.2.2.2.2.2.2.bel⟩
  · exact absurd (by rw [al_heights]) h0
end Go.Proofs.Ytahcmmdlggcfbaa
