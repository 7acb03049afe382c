/- What an instruction pushes; else. -/
import Derived.Test.YtdfbgpiikeheiaaZh
namespace Go.Proofs.Ytdfbgpiikeheiaa
open Go.ChangeShapes Go.WideShapes Go.ChangeAt Go.RowKit
set_option linter.unusedSimpArgs false
set_option linter.unusedVariables false
set_option maxRecDepth 8000

section
variable {σ : Type} {p : Mp σ} {T T' : Nat → Nat} {w w' : World} {mb : Nat} {m m' : Mc σ} {calls calls' : Int} {hv : Value} {g : Nat} {s : Nat → Nat} {K fb : Nat} {f : Fr} {cv av tv sv kv : Value}
/-- What pushed's walk holds. -/
structure PuR (w : World) (x : QI) (w' : World) : Prop where
  bel : Below w.heap.size w w'
  x0 : w'.cell? ⟨w.heap.size, 0, none⟩ = some (.int .i64 x.op)
  x1 : w'.cell? ⟨w.heap.size, 1, none⟩ = some (.int .i64 x.a)
  r0 : w'.cell? ⟨w.heap.size + 1, 0, none⟩ = some (.int .i64 0)
  r1 : w'.cell? ⟨w.heap.size + 1, 1, none⟩ = some (.int .i64 0)
  rf : ∀ o, w'.frozen? ⟨w.heap.size + 1, o, none⟩ = false
  sz : w.heap.size + 2 ≤ w'.heap.size
theorem PuR.later {w : World} {x : QI} {w' w'' : World} (h : PuR w x w') (hb : Below w'.heap.size w' w'') : PuR w x w'' :=
  ⟨nstep h.bel hb, cell_later hb h.x0, cell_later hb h.x1, cell_later hb h.r0, cell_later hb h.r1, fun o => (hb.frozen (p := ⟨w.heap.size + 1, o, none⟩) (by have := h.sz; simp only; omega)).trans (h.rf o), Nat.le_trans h.sz hb.size⟩
theorem puR_new (w : World) (x : QI) : PuR w x ((w.alloc (.cells #[.int .i64 x.op, .int .i64 x.a, .int .i64 x.b, .int .i64 x.c, .string x.name] 59)).alloc (.cells #[.int .i64 0, .int .i64 0] 27)) := by
  refine ⟨bel2 _ _ _, cell_later (bel1 _ _) (cell_new _ _ _ _ rfl 0), cell_later (bel1 _ _) (cell_new _ _ _ _ rfl 1), cell_new _ _ _ _ (by simp) 0, cell_new _ _ _ _ (by simp) 1, fun o => row_free (cur := #[.int .i64 0, .int .i64 0]) (t := 27) ?_ o, by simp⟩
  have := heap_alloc_new (w.alloc (.cells #[.int .i64 x.op, .int .i64 x.a, .int .i64 x.b, .int .i64 x.c, .string x.name] 59)) (.cells #[.int .i64 0, .int .i64 0] 27)
  simpa using this
theorem FrAt.c (h : FrAt T K w fb f cv av tv sv kv) : w.cell? ⟨fb, 6, none⟩ = some (.int .i64 f.self.k) ∧ w.cell? ⟨fb, 7, none⟩ = some (.int .i64 f.self.n) ∧ w.cell? ⟨fb, 8, none⟩ = some av ∧ w.cell? ⟨fb, 9, none⟩ = some tv := by
  refine ⟨?_, ?_, ?_, ?_⟩ <;> (rw [cell_of_row _ _ _ _ _ _ h.box]; rfl)
theorem FrAt.tempsV (h : FrAt T K w fb f cv av tv sv kv) : IsVals (fun _ => True) w tv f.temps := by
  obtain ⟨tb, rfl, h1, -, h2⟩ := h.temps
  exact vals_row h1 trivial (by omega)
set_option maxHeartbeats 4000000 in
theorem pushed_any (h : MacAt p T w mb m calls hv g s) (hF : FrAt T K w fb f cv av tv sv kv) (x : QI) : Calls Try.prog 110 #[.pointer (some ⟨mb, 0, none⟩), .pointer (some ⟨fb, 0, none⟩), IV x] w fun e w' => e = .returned (.tuple #[VV ((pushedE m.heap f x).getD nilV), .bool (pushedE m.heap f x).isSome]) ∧ Below w.heap.size w w' := by
  have hlf := blk_lt hF.box
  have hlm := blk_lt h.box
  have hR := puR_new w x
  have hM := h.later hR.bel
  have hFr := hF.later hR.bel
  clear h hF
  go_enter Try.func110, Try.ntmps110
  go_upto_region 1 with (fail)
  generalize ((w.alloc (.cells #[.int .i64 x.op, .int .i64 x.a, .int .i64 x.b, .int .i64 x.c, .string x.name] 59)).alloc (.cells #[.int .i64 0, .int .i64 0] 27)) = W at *
  obtain ⟨f6, f7, f8, f9⟩ := hFr.c
  have m1 := hM.c1
  have hA := hFr.args
  have hT := hFr.tempsV
  have hH := hM.heap.heap
  obtain ⟨-, x0, x1, r0, r1, rf, sz⟩ := id hR
  obtain ⟨aa, ca, rfl, -⟩ := id hA
  obtain ⟨at', ct, rfl, -⟩ := id hT
  obtain ⟨ah, ch, rfl, -⟩ := id hH
  have nf : ¬ fb = w.heap.size + 1 := by omega
  have nf' : ¬ w.heap.size + 1 = fb := by omega
  have nm : ¬ mb = w.heap.size + 1 := by omega
  have nm' : ¬ w.heap.size + 1 = mb := by omega
  have HR := hid hR
  clear hFr hM hR
  by_cases h1 : x.op = 1
  · have HV : Hid (pushedE m.heap f x = some f.self) := by show _ = _; unfold pushedE; rw [if_pos h1]
    have h1' : (x.op == 1) = true := by simpa using h1
    clear h1
    go_wp2
    refine bodyPost_ret (v := .tuple #[VV f.self, .bool true]) ?_ rfl ⟨by rw [HV.out]; rfl, ((HR.out.bel.setCell (by simp) _).setCell (by simp) _)⟩
    simp [results, Try.results110, go_sem, r0, r1]
  have h1' : (x.op == 1) = false := by simpa using h1
  by_cases h2 : x.op = 2
  · have HV : Hid (pushedE m.heap f x = some (entryE f.args x.a)) := by show _ = _; unfold pushedE; rw [if_neg h1]; rw [if_pos h2]
    have h2' : (x.op == 2) = true := by simpa using h2
    clear h1 h2
    go_wp2
    have hS0 : (fun w' => w'.cell? ⟨fb, 8, none⟩ = some (.slice aa f.args.length ca) ∧ w'.cell? ⟨w.heap.size, 1, none⟩ = some (.int .i64 x.a)) W.drew := ⟨f8, x1⟩
    have hcon : Calls Try.prog 100 _ W.drew _ := entry_any f.args _ x.a W.drew (hA.later goodV (Below.refl _ _).drew)
    obtain ⟨u, hu⟩ : ∃ u, u = (entryE f.args x.a) := ⟨_, rfl⟩
    rw [← hu] at hcon HV
    clear hu
    go_region_held3 (fun w' => w'.cell? ⟨fb, 8, none⟩ = some (.slice aa f.args.length ca) ∧ w'.cell? ⟨w.heap.size, 1, none⟩ = some (.int .i64 x.a))
      (first | with_reducible exact hS0 | with_reducible exact hS1 | exact ⟨(World.cell?_setCell_far _ _ _ _ (by simp; try omega)).trans ((World.cell?_setCell_far _ _ _ _ (by simp; try omega)).trans hS1.1), (World.cell?_setCell_far _ _ _ _ (by simp; try omega)).trans ((World.cell?_setCell_far _ _ _ _ (by simp; try omega)).trans hS1.2)⟩)
      (first | (go_at_call 100; refine hcon.mono ?_; rintro e w1 ⟨rfl, hb1⟩; have hS1 := And.intro (cell_later hb1 hS0.1) (cell_later hb1 hS0.2); have hR1 := HR.out.later ((Below.refl _ _).drew.trans hb1); clear x0 x1 r0 r1 rf sz; obtain ⟨-, x0, x1, r0, r1, rf, sz⟩ := id hR1))
    all_goals (
      go_wp2
      refine bodyPost_ret (v := .tuple #[VV u, .bool true]) ?_ rfl ⟨by rw [HV.out]; rfl, ((hR1.bel.setCell (by simp) _).setCell (by simp) _)⟩
      simp [results, Try.results110, go_sem, r0, r1])
  have h2' : (x.op == 2) = false := by simpa using h2
  by_cases h3 : x.op = 3
  · have HV : Hid (pushedE m.heap f x = some (entryE f.temps x.a)) := by show _ = _; unfold pushedE; rw [if_neg h1]; rw [if_neg h2]; rw [if_pos h3]
    have h3' : (x.op == 3) = true := by simpa using h3
    clear h1 h2 h3
    go_wp2
    have hS0 : (fun w' => w'.cell? ⟨fb, 9, none⟩ = some (.slice at' f.temps.length ct) ∧ w'.cell? ⟨w.heap.size, 1, none⟩ = some (.int .i64 x.a)) W.drew := ⟨f9, x1⟩
    have hcon : Calls Try.prog 100 _ W.drew _ := entry_any f.temps _ x.a W.drew (hT.later goodV (Below.refl _ _).drew)
    obtain ⟨u, hu⟩ : ∃ u, u = (entryE f.temps x.a) := ⟨_, rfl⟩
    rw [← hu] at hcon HV
    clear hu
    go_region_held3 (fun w' => w'.cell? ⟨fb, 9, none⟩ = some (.slice at' f.temps.length ct) ∧ w'.cell? ⟨w.heap.size, 1, none⟩ = some (.int .i64 x.a))
      (first | with_reducible exact hS0 | with_reducible exact hS1 | exact ⟨(World.cell?_setCell_far _ _ _ _ (by simp; try omega)).trans ((World.cell?_setCell_far _ _ _ _ (by simp; try omega)).trans hS1.1), (World.cell?_setCell_far _ _ _ _ (by simp; try omega)).trans ((World.cell?_setCell_far _ _ _ _ (by simp; try omega)).trans hS1.2)⟩)
      (first | (go_at_call 100; refine hcon.mono ?_; rintro e w1 ⟨rfl, hb1⟩; have hS1 := And.intro (cell_later hb1 hS0.1) (cell_later hb1 hS0.2); have hR1 := HR.out.later ((Below.refl _ _).drew.trans hb1); clear x0 x1 r0 r1 rf sz; obtain ⟨-, x0, x1, r0, r1, rf, sz⟩ := id hR1))
    all_goals (
      go_wp2
      refine bodyPost_ret (v := .tuple #[VV u, .bool true]) ?_ rfl ⟨by rw [HV.out]; rfl, ((hR1.bel.setCell (by simp) _).setCell (by simp) _)⟩
      simp [results, Try.results110, go_sem, r0, r1])
  have h3' : (x.op == 3) = false := by simpa using h3
  by_cases h4 : x.op = 4
  · have HV : Hid (pushedE m.heap f x = some (slotV m.heap f.self x.a)) := by show _ = _; unfold pushedE; rw [if_neg h1]; rw [if_neg h2]; rw [if_neg h3]; rw [if_pos h4]
    have h4' : (x.op == 4) = true := by simpa using h4
    clear h1 h2 h3 h4
    go_wp2
    have hS0 : (fun w' => w'.cell? ⟨mb, 1, none⟩ = some (.slice ah m.heap.length ch) ∧ w'.cell? ⟨fb, 6, none⟩ = some (.int .i64 f.self.k) ∧ w'.cell? ⟨fb, 7, none⟩ = some (.int .i64 f.self.n) ∧ w'.cell? ⟨w.heap.size, 1, none⟩ = some (.int .i64 x.a)) W.drew := ⟨m1, f6, f7, x1⟩
    have hcon : Calls Try.prog 119 _ W.drew _ := vslot_any m.heap _ f.self x.a W.drew (hH.later goodO (Below.refl _ _).drew)
    obtain ⟨u, hu⟩ : ∃ u, u = (slotV m.heap f.self x.a) := ⟨_, rfl⟩
    rw [← hu] at hcon HV
    clear hu
    go_region_held3 (fun w' => w'.cell? ⟨mb, 1, none⟩ = some (.slice ah m.heap.length ch) ∧ w'.cell? ⟨fb, 6, none⟩ = some (.int .i64 f.self.k) ∧ w'.cell? ⟨fb, 7, none⟩ = some (.int .i64 f.self.n) ∧ w'.cell? ⟨w.heap.size, 1, none⟩ = some (.int .i64 x.a))
      (first | with_reducible exact hS0 | with_reducible exact hS1 | exact ⟨(World.cell?_setCell_far _ _ _ _ (by simp; try omega)).trans ((World.cell?_setCell_far _ _ _ _ (by simp; try omega)).trans hS1.1), (World.cell?_setCell_far _ _ _ _ (by simp; try omega)).trans ((World.cell?_setCell_far _ _ _ _ (by simp; try omega)).trans hS1.2.1), (World.cell?_setCell_far _ _ _ _ (by simp; try omega)).trans ((World.cell?_setCell_far _ _ _ _ (by simp; try omega)).trans hS1.2.2.1), (World.cell?_setCell_far _ _ _ _ (by simp; try omega)).trans ((World.cell?_setCell_far _ _ _ _ (by simp; try omega)).trans hS1.2.2.2)⟩)
      (first | (go_at_call 119; refine hcon.mono ?_; rintro e w1 ⟨rfl, hb1⟩; have hS1 := And.intro (cell_later hb1 hS0.1) (And.intro (cell_later hb1 hS0.2.1) (And.intro (cell_later hb1 hS0.2.2.1) (cell_later hb1 hS0.2.2.2))); have hR1 := HR.out.later ((Below.refl _ _).drew.trans hb1); clear x0 x1 r0 r1 rf sz; obtain ⟨-, x0, x1, r0, r1, rf, sz⟩ := id hR1))
    all_goals (
      go_wp2
      refine bodyPost_ret (v := .tuple #[VV u, .bool true]) ?_ rfl ⟨by rw [HV.out]; rfl, ((hR1.bel.setCell (by simp) _).setCell (by simp) _)⟩
      simp [results, Try.results110, go_sem, r0, r1])
  have h4' : (x.op == 4) = false := by simpa using h4
  by_cases h5 : x.op = 5
  · have HV : Hid (pushedE m.heap f x = some ⟨3, x.a⟩) := by show _ = _; unfold pushedE; rw [if_neg h1]; rw [if_neg h2]; rw [if_neg h3]; rw [if_neg h4]; rw [if_pos h5]
    have h5' : (x.op == 5) = true := by simpa using h5
    clear h1 h2 h3 h4 h5
    go_wp2
    refine bodyPost_ret (v := .tuple #[VV ⟨3, x.a⟩, .bool true]) ?_ rfl ⟨by rw [HV.out]; rfl, ((HR.out.bel.setCell (by simp) _).setCell (by simp) _)⟩
    simp [results, Try.results110, go_sem, r0, r1]
  have h5' : (x.op == 5) = false := by simpa using h5
  by_cases h6 : x.op = 6
  · have HV : Hid (pushedE m.heap f x = some nilV) := by show _ = _; unfold pushedE; rw [if_neg h1]; rw [if_neg h2]; rw [if_neg h3]; rw [if_neg h4]; rw [if_neg h5]; rw [if_pos h6]
    have h6' : (x.op == 6) = true := by simpa using h6
    clear h1 h2 h3 h4 h5 h6
    go_wp2
    refine bodyPost_ret (v := .tuple #[VV nilV, .bool true]) ?_ rfl ⟨by rw [HV.out]; rfl, ((HR.out.bel.setCell (by simp) _).setCell (by simp) _)⟩
    simp [results, Try.results110, go_sem, r0, r1]
  have h6' : (x.op == 6) = false := by simpa using h6
  by_cases h7 : x.op = 7
  · have HV : Hid (pushedE m.heap f x = some ⟨1, 0⟩) := by show _ = _; unfold pushedE; rw [if_neg h1]; rw [if_neg h2]; rw [if_neg h3]; rw [if_neg h4]; rw [if_neg h5]; rw [if_neg h6]; rw [if_pos h7]
    have h7' : (x.op == 7) = true := by simpa using h7
    clear h1 h2 h3 h4 h5 h6 h7
    go_wp2_with fail
    refine (vbool_any false _).mono ?_
    rintro e w1 ⟨rfl, hb1⟩
    have hR1 := HR.out.later hb1
    clear x0 x1 r0 r1 rf sz
    obtain ⟨-, x0, x1, r0, r1, rf, sz⟩ := id hR1
    go_wp2
    refine bodyPost_ret (v := .tuple #[VV ⟨1, 0⟩, .bool true]) ?_ rfl ⟨by rw [HV.out]; rfl, ((hR1.bel.setCell (by simp) _).setCell (by simp) _)⟩
    simp [results, Try.results110, go_sem, r0, r1]
  have h7' : (x.op == 7) = false := by simpa using h7
  by_cases h8 : x.op = 8
  · have HV : Hid (pushedE m.heap f x = some ⟨2, 0⟩) := by show _ = _; unfold pushedE; rw [if_neg h1]; rw [if_neg h2]; rw [if_neg h3]; rw [if_neg h4]; rw [if_neg h5]; rw [if_neg h6]; rw [if_neg h7]; rw [if_pos h8]
    have h8' : (x.op == 8) = true := by simpa using h8
    clear h1 h2 h3 h4 h5 h6 h7 h8
    go_wp2_with fail
    refine (vbool_any true _).mono ?_
    rintro e w1 ⟨rfl, hb1⟩
    have hR1 := HR.out.later hb1
    clear x0 x1 r0 r1 rf sz
    obtain ⟨-, x0, x1, r0, r1, rf, sz⟩ := id hR1
    go_wp2
    refine bodyPost_ret (v := .tuple #[VV ⟨2, 0⟩, .bool true]) ?_ rfl ⟨by rw [HV.out]; rfl, ((hR1.bel.setCell (by simp) _).setCell (by simp) _)⟩
    simp [results, Try.results110, go_sem, r0, r1]
  have h8' : (x.op == 8) = false := by simpa using h8
  have HV : Hid (pushedE m.heap f x = none) := by show _ = _; unfold pushedE; rw [if_neg h1]; rw [if_neg h2]; rw [if_neg h3]; rw [if_neg h4]; rw [if_neg h5]; rw [if_neg h6]; rw [if_neg h7]; rw [if_neg h8]
  clear h1 h2 h3 h4 h5 h6 h7 h8
  go_wp2
  refine bodyPost_ret (v := .tuple #[VV nilV, .bool false]) ?_ rfl ⟨by rw [HV.out]; rfl, ((HR.out.bel.setCell (by simp) _).setCell (by simp) _)⟩
  simp [results, Try.results110, go_sem, r0, r1]
end
end Go.Proofs.Ytdfbgpiikeheiaa
