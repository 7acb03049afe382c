/- alive: what is asked first of package value. -/
import Derived.Test.YtlmejfipgingeaaVg
namespace Go.Proofs.Ytlmejfipgingeaa
open Go.ChangeShapes Go.WideShapes Go.ChangeAt Go.RowKit
set_option linter.unusedSimpArgs false
set_option linter.unusedVariables false

theorem isHeap_nil (w : World) : IsHeap 0 w (.slice none 0 0) [] := ⟨none, 0, rfl, Nat.le_refl _, by unfold maxLen; omega, by simp, fun i x hx => by simp at hx⟩
theorem alive_S {w w5 w' : World} {B1 B4 : Nat} {v : Value} {hs : List QO} (h : w5.cell? ⟨B1, 0, none⟩ = some (.int .i64 4) ∧ w5.cell? ⟨B1, 1, none⟩ = some (.int .i64 0) ∧ w5.cell? ⟨B4, 0, none⟩ = some (.int .i64 3) ∧ w5.cell? ⟨B4, 1, none⟩ = some (.int .i64 5) ∧ Below w.heap.size w w5 ∧ IsHeap 0 w5 v hs)
    (hb : Below w5.heap.size w5 w') : w'.cell? ⟨B1, 0, none⟩ = some (.int .i64 4) ∧ w'.cell? ⟨B1, 1, none⟩ = some (.int .i64 0) ∧ w'.cell? ⟨B4, 0, none⟩ = some (.int .i64 3) ∧ w'.cell? ⟨B4, 1, none⟩ = some (.int .i64 5) ∧ Below w.heap.size w w' ∧ IsHeap 0 w' v hs :=
  ⟨cell_later hb h.1, cell_later hb h.2.1, cell_later hb h.2.2.1, cell_later hb h.2.2.2.1, h.2.2.2.2.1.trans (hb.mono h.2.2.2.2.1.size), h.2.2.2.2.2.later hb⟩

set_option maxHeartbeats 2000000 in
theorem alive_any (w : World) : Calls Try.prog 19 #[] w fun e w' => e = .returned (.bool true) ∧ Below w.heap.size w w' := by
  go_enter Try.func19, Try.ntmps19
  go_wp2_with fail
  refine (new_room [] 5 2 _ _ (isHeap_nil _) (by omega) (by simp)).mono ?_
  rintro e w1 ⟨g, c, rfl, hh1, hb1⟩
  simp only [List.length_nil, Nat.zero_add, List.nil_append] at hh1 ⊢
  go_wp2_with fail
  refine (num_any _ _).mono ?_
  rintro e w2 ⟨rfl, hb2⟩
  go_wp2_with fail
  refine (num_any _ _).mono ?_
  rintro e w3 ⟨rfl, hb3⟩
  go_wp2_with fail
  refine (prim_any _ _ _ _ _ _ (by omega) (by omega)).mono ?_
  rintro e w4 ⟨rfl, hb4⟩
  rw [show primE 1 3 2 3 3 = (3, 5, 0) by decide]
  go_wp2_with fail
  have z1 : w1.heap.size + 1 ≤ w2.heap.size := by have := hb2.size; simpa using this
  have z2 := hb3.size
  have z3 := hb4.size
  have z0 := hb1.size
  have a0 : Below w1.heap.size w1 w4 := (((bel1 _ _).trans (hb2.mono (by simp))).trans (hb3.mono (by omega))).trans (hb4.mono (by omega))
  have S4 : w4.cell? ⟨w1.heap.size, 0, none⟩ = some (.int .i64 4) ∧ w4.cell? ⟨w1.heap.size, 1, none⟩ = some (.int .i64 0) := by
    constructor
    all_goals (rw [hb4.cell (by simp; omega), hb3.cell (by simp; omega), hb2.cell (by simp)]; simp)
  have S5 : (w4.alloc (Obj.cells #[Value.int IntKind.i64 3, Value.int IntKind.i64 5] 24)).drew.cell? ⟨w1.heap.size, 0, none⟩ = some (.int .i64 4) ∧ (w4.alloc (Obj.cells #[Value.int IntKind.i64 3, Value.int IntKind.i64 5] 24)).drew.cell? ⟨w1.heap.size, 1, none⟩ = some (.int .i64 0) ∧ (w4.alloc (Obj.cells #[Value.int IntKind.i64 3, Value.int IntKind.i64 5] 24)).drew.cell? ⟨w4.heap.size, 0, none⟩ = some (.int .i64 3) ∧ (w4.alloc (Obj.cells #[Value.int IntKind.i64 3, Value.int IntKind.i64 5] 24)).drew.cell? ⟨w4.heap.size, 1, none⟩ = some (.int .i64 5) ∧ Below w.heap.size w (w4.alloc (Obj.cells #[Value.int IntKind.i64 3, Value.int IntKind.i64 5] 24)).drew ∧ IsHeap 0 (w4.alloc (Obj.cells #[Value.int IntKind.i64 3, Value.int IntKind.i64 5] 24)).drew (.slice (some ⟨g, 0, none⟩) 1 c) [⟨5, [⟨0, 0⟩, ⟨0, 0⟩]⟩] :=
    ⟨cell_later (bel1 _ _).drew S4.1, cell_later (bel1 _ _).drew S4.2, by simp, by simp, ((hb1.trans (a0.mono z0)).alloc (by omega) _).drew, ((hh1.mono (Nat.zero_le _)).later a0).later (bel1 _ _).drew⟩
  generalize (w4.alloc (Obj.cells #[Value.int IntKind.i64 3, Value.int IntKind.i64 5] 24)) = w5 at *
  clear hb2 hb3 hb4 S4 a0 hh1
  generalize w1.heap.size = B1 at *
  generalize w4.heap.size = B4 at *
  clear z1 z2 z3 z0 hb1
  have hf : ∀ (w : World) (x y : Value), (Instr.field 24 (.agg #[x, y]) 0).run Try.prog w = .ok x w := fun _ _ _ => by kernel_rfl
  have e8 : classE [⟨5, [⟨0, 0⟩, ⟨0, 0⟩]⟩] 4 0 = 5 := by decide
  have e10 : slotE [⟨5, [⟨0, 0⟩, ⟨0, 0⟩]⟩] 4 0 1 = ⟨0, 0⟩ := by rfl
  go_region_held3 (fun w' => w'.cell? ⟨B1, 0, none⟩ = some (.int .i64 4) ∧ w'.cell? ⟨B1, 1, none⟩ = some (.int .i64 0) ∧ w'.cell? ⟨B4, 0, none⟩ = some (.int .i64 3) ∧ w'.cell? ⟨B4, 1, none⟩ = some (.int .i64 5) ∧ Below w.heap.size w w' ∧ IsHeap 0 w' (.slice (some ⟨g, 0, none⟩) 1 c) [⟨5, [⟨0, 0⟩, ⟨0, 0⟩]⟩])
    (first | exact S5 | exact alive_S (‹_ ∧ _ ∧ _ ∧ _ ∧ Below w.heap.size w _ ∧ _›) hb)
    (first
      | (go_at_call 20; refine (num_any _ _).mono ?_; rintro e w' ⟨rfl, hb⟩)
      | (go_at_call 8; refine (class_any _ _ _ _ _ (‹_ ∧ _ ∧ _ ∧ _ ∧ Below w.heap.size w _ ∧ _›).2.2.2.2.2).mono ?_; rintro e w' ⟨rfl, hb⟩; rw [e8])
      | (go_at_call 10; refine (slot_any _ _ _ _ _ _ (‹_ ∧ _ ∧ _ ∧ _ ∧ Below w.heap.size w _ ∧ _›).2.2.2.2.2).mono ?_; rintro e w' ⟨rfl, hb⟩; rw [e10])
      | (go_at_call 12; refine (bool_any _ _).mono ?_; rintro e w' ⟨rfl, hb⟩; rw [show boolK true = 2 from rfl])
      | (go_at_call 6; refine (wrong_any _ _ _ _).mono ?_; rintro e w' ⟨rfl, hb⟩; rw [show wrongE 4 0 0 = 6 by decide])
      | (go_at_call 15; refine (own_any _ _ _ (‹_ ∧ _ ∧ _ ∧ _ ∧ Below w.heap.size w _ ∧ _›).2.2.2.2.2).mono ?_; rintro e w' ⟨g', rfl, hown, hg', hb⟩; simp only [List.length_cons, List.length_nil, Nat.zero_add]))
  go_wp2
  go_ret
  go_split_ands
  exact ⟨rfl, by assumption⟩

end Go.Proofs.Ytlmejfipgingeaa
