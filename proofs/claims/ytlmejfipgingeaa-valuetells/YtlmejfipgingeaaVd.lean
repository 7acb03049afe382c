/- ownSlots: a copy of an object's slots. -/
import Derived.Test.YtlmejfipgingeaaVc
import Derived.Test.YtlmejfipgingeaaLaw
import Derived.Laws.Rows
namespace Go.Proofs.Ytlmejfipgingeaa
open Go.ChangeShapes Go.WideShapes Go.ChangeAt Go.RowKit
set_option linter.unusedSimpArgs false
set_option linter.unusedVariables false

theorem flat_get {α : Type} (f : α → List Value) (sz : Nat) (hsz : 0 < sz) (hf : ∀ x, (f x).length = sz) (xs : List α) (j : Nat) : (xs.flatMap f)[j]? = (xs[j / sz]?).bind fun x => (f x)[j % sz]? := by
  induction xs generalizing j with
  | nil => simp
  | cons x r ih =>
    rw [List.flatMap_cons]
    by_cases hj : j < sz
    · rw [List.getElem?_append_left (by rw [hf]; exact hj), Nat.div_eq_of_lt hj, Nat.mod_eq_of_lt hj]
      simp
    · rw [List.getElem?_append_right (by rw [hf]; omega), ih, hf]
      have h1 : j / sz = (j - sz) / sz + 1 := by
        conv => lhs; rw [show j = (j - sz) + sz by omega]
        rw [Nat.add_div_right _ hsz]
      have h2 : j % sz = (j - sz) % sz := by
        conv => lhs; rw [show j = (j - sz) + sz by omega]
        rw [Nat.add_mod_right]
      rw [h1, h2]
      simp
theorem flat_len {α : Type} (f : α → List Value) (sz : Nat) (hf : ∀ x, (f x).length = sz) (xs : List α) : (xs.flatMap f).length = xs.length * sz := by
  induction xs with
  | nil => simp
  | cons x r ih => rw [List.flatMap_cons, List.length_append, hf, ih, List.length_cons, Nat.add_mul]; omega

def valCell (x : QV) : List Value := [.int .i64 x.k, .int .i64 x.n]
theorem valCell_len (x : QV) : (valCell x).length = 2 := rfl

/-- The cells of a row of values, out of where they lie. -/
theorem vals_src {lo : Nat} {w : World} {ad : Option Addr} {xs : List QV} (h : RowAt lo ValAt 2 w ad xs) : ∀ j v, (xs.flatMap valCell)[j]? = some v → ∃ a, ad = some a ∧ w.cell? (a.add j) = some v := by
  intro j v hj
  rw [flat_get valCell 2 (by omega) valCell_len] at hj
  cases hx : xs[j / 2]? with
  | none => rw [hx] at hj; simp at hj
  | some x =>
    rw [hx] at hj
    obtain ⟨b, o, rfl, -, h1, h2⟩ := h _ _ hx
    refine ⟨_, rfl, ?_⟩
    rw [Addr.add_lit]
    simp only [Option.bind_some] at hj
    have hm : j % 2 = 0 ∨ j % 2 = 1 := by omega
    rcases hm with hm | hm
    · rw [hm] at hj
      simp [valCell] at hj
      rw [← hj, ← h1, show o + j / 2 * 2 = o + j by omega]
    · rw [hm] at hj
      simp [valCell] at hj
      rw [← hj, ← h2, show o + j / 2 * 2 + 1 = o + j by omega]

/-- A row of values that a block holds whole. -/
theorem vals_row {lo : Nat} {w : World} {g : Nat} (hlo : lo ≤ g) {t : TypeId} {fr : Nat × Nat} {xs : List QV} (h : w.heap[g]? = some (.cells (xs.flatMap valCell).toArray t fr)) : RowAt lo ValAt 2 w (some ⟨g, 0, none⟩) xs := by
  intro i x hx
  refine ⟨g, 0, rfl, hlo, ?_, ?_⟩
  · rw [cell_of_row w g _ _ t fr h]
    rw [List.getElem?_toArray, flat_get valCell 2 (by omega) valCell_len, show (0 + i * 2) / 2 = i by omega, hx, show (0 + i * 2) % 2 = 0 by omega]
    rfl
  · rw [cell_of_row w g _ _ t fr h]
    rw [List.getElem?_toArray, flat_get valCell 2 (by omega) valCell_len, show (0 + i * 2 + 1) / 2 = i by omega, hx, show (0 + i * 2 + 1) % 2 = 1 by omega]
    rfl

theorem info24 : (Try.prog.info? 24).map (fun i => (i.zero, i.size, i.bytes)) = some (some (V2 0 0), 2, 16) := by kernel_rfl
theorem info24s : (Try.prog.info? 24).map (·.size) = some 2 := by kernel_rfl

theorem make_vals (n : Nat) (hb : n * 16 ≤ 140737488351232) (w : World) : (Instr.makeSlice 37 (.int .i64 (n : Int)) (.int .i64 (n : Int))).run Try.prog w = .ok (.slice (some ⟨w.heap.size, 0, none⟩) n n) (w.alloc (.cells (madeCells #[.int .i64 0, .int .i64 0] (n * 2)) 24)) := by
  obtain ⟨i0, hi, hz0, hz1, hz2⟩ := info_parts info24
  have := run_make (P := Try.prog) w 37 24 i0 _ Try.underlying37 hi hz0 .i64 .i64 n n (by omega) (by omega) (by rw [hz2]; omega) (by omega)
  rw [this, hz1]
  simp
  rfl

set_option maxHeartbeats 400000 in
theorem ownSlots_any {lo : Nat} (xs : List QV) (v : Value) (w : World) (hh : IsVals lo w v xs) : Calls Try.prog 23 #[v] w fun e w' => ∃ g, e = .returned (.slice (some ⟨g, 0, none⟩) xs.length xs.length) ∧ w.heap.size ≤ g ∧ w'.heap[g]? = some (.cells (xs.flatMap valCell).toArray 24 (0, 0)) ∧ Below w.heap.size w w' := by
  obtain ⟨ad, cap, rfl, hl, hcap, hby, hrow⟩ := hh
  have hmk := make_vals xs.length hby
  have hL : (xs.flatMap valCell).length = xs.length * 2 := flat_len valCell 2 valCell_len xs
  obtain ⟨w1, hcp, h2, h3⟩ := run_copy_whole (P := Try.prog) (w.alloc (.cells (madeCells #[.int .i64 0, .int .i64 0] (xs.length * 2)) 24)) 37 37 3 24 2 w.heap.size xs.length xs.length ad cap (madeCells #[.int .i64 0, .int .i64 0] (xs.length * 2)) 24 (xs.flatMap valCell) Try.underlying37 info24s (heap_alloc_new w _) hL
    (fun j v hj => by obtain ⟨a, e, h⟩ := vals_src hrow j v hj; exact ⟨a, e, cell_later (bel1 _ _) h⟩) (size_madeCells _ _)
    (fun v hv => by
      rw [List.mem_flatMap] at hv
      obtain ⟨x, -, hx⟩ := hv
      simp [valCell] at hx
      rcases hx with rfl | rfl <;> rfl)
  have HB := h3 w.heap.size w (bel1 _ _) (Nat.le_refl _)
  have HV : Hid (w1.heap[w.heap.size]? = some (.cells (xs.flatMap valCell).toArray 24 (0, 0))) := h2
  clear hL h2 h3 hrow
  go_enter Try.func23, Try.ntmps23
  go_wp2
  go_ret
  exact ⟨_, rfl, Nat.le_refl _, HV.out, HB⟩

theorem info39 : (Try.prog.info? 39).map (fun i => (i.zero, i.size, i.bytes)) = some (some (.agg #[.int .i64 0, .slice none 0 0]), 2, 32) := by kernel_rfl
theorem make_objs (n : Nat) (hb : n * 32 ≤ 140737488351232) (w : World) : (Instr.makeSlice 22 (.int .i64 (n : Int)) (.int .i64 (n : Int))).run Try.prog w = .ok (.slice (some ⟨w.heap.size, 0, none⟩) n n) (w.alloc (.cells (madeCells #[.int .i64 0, .slice none 0 0] (n * 2)) 39)) := by
  obtain ⟨i0, hi, hz0, hz1, hz2⟩ := info_parts info39
  have := run_make (P := Try.prog) w 22 39 i0 _ Try.underlying22 hi hz0 .i64 .i64 n n (by omega) (by omega) (by rw [hz2]; omega) (by omega)
  rw [this, hz1]
  simp
  rfl

/-- So many of the objects are copied into the row at block B. -/
def OwnSt (w : World) (B : Nat) (hs : List QO) (j : Nat) : Prop :=
  ∃ cur, w.heap[B]? = some (.cells cur 39 (0, 0)) ∧ cur.size = hs.length * 2 ∧ ∀ i x, i < j → hs[i]? = some x →
    cur[i * 2]? = some (.int .i64 x.cls) ∧ ∃ g, B < g ∧ cur[i * 2 + 1]? = some (.slice (some ⟨g, 0, none⟩) x.slots.length x.slots.length) ∧ x.slots.length * 16 ≤ 140737488351232 ∧ w.heap[g]? = some (.cells (x.slots.flatMap valCell).toArray 24 (0, 0))

theorem blk_lt {w : World} {g : Nat} {x : Obj} (h : w.heap[g]? = some x) : g < w.heap.size := (Array.getElem?_eq_some_iff.1 h).1
theorem OwnSt.later {w w' : World} {B : Nat} {hs : List QO} {j : Nat} (hb : Below w.heap.size w w') (h : OwnSt w B hs j) : OwnSt w' B hs j := by
  obtain ⟨cur, h1, h2, h3⟩ := h
  refine ⟨cur, by rw [hb.block _ (blk_lt h1)]; exact h1, h2, fun i x hi hx => ?_⟩
  obtain ⟨e1, g, e2, e3, e4, e5⟩ := h3 i x hi hx
  exact ⟨e1, g, e2, e3, e4, by rw [hb.block _ (blk_lt e5)]; exact e5⟩
theorem setCell_same {w : World} {B o : Nat} {cur : Array Value} {t : TypeId} {fr : Nat × Nat} (h : w.heap[B]? = some (.cells cur t fr)) (v : Value) : (w.setCell ⟨B, o, none⟩ v).heap[B]? = some (.cells (cur.setIfInBounds o v) t fr) := by
  rw [setCell_eq_setRow w B o cur t fr v h]
  exact setRow_heap w B cur _ t fr h
theorem setCell_else {w : World} {B o g : Nat} (hg : g ≠ B) (v : Value) : (w.setCell ⟨B, o, none⟩ v).heap[g]? = w.heap[g]? := Below.heap_setCell _ _ _ _ hg
theorem OwnSt.step {w : World} {B : Nat} {hs : List QO} {j g : Nat} {x : QO} (h : OwnSt w B hs j) (hx : hs[j]? = some x) (hg : B < g) (hby : x.slots.length * 16 ≤ 140737488351232) (hs' : w.heap[g]? = some (.cells (x.slots.flatMap valCell).toArray 24 (0, 0))) :
    OwnSt ((w.setCell ⟨B, j * 2, none⟩ (.int .i64 x.cls)).setCell ⟨B, j * 2 + 1, none⟩ (.slice (some ⟨g, 0, none⟩) x.slots.length x.slots.length)) B hs (j + 1) := by
  obtain ⟨cur, h1, h2, h3⟩ := h
  have hj : j < hs.length := by
    rcases Nat.lt_or_ge j hs.length with h | h
    · exact h
    · rw [List.getElem?_eq_none h] at hx; cases hx
  refine ⟨_, setCell_same (setCell_same h1 _) _, by simp [h2], fun i y hi hy => ?_⟩
  by_cases hij : i = j
  · subst hij
    rw [hx] at hy
    cases hy
    refine ⟨?_, g, hg, ?_, hby, ?_⟩
    · rw [Array.getElem?_setIfInBounds_ne (by omega), Array.getElem?_setIfInBounds_self_of_lt (by omega)]
    · rw [Array.getElem?_setIfInBounds_self_of_lt (by simp; omega)]
    · rw [setCell_else (by omega), setCell_else (by omega)]; exact hs'
  · obtain ⟨e1, g', e2, e3, e4, e5⟩ := h3 i y (by omega) hy
    refine ⟨?_, g', e2, ?_, e4, ?_⟩
    · rw [Array.getElem?_setIfInBounds_ne (by omega), Array.getElem?_setIfInBounds_ne (by omega)]; exact e1
    · rw [Array.getElem?_setIfInBounds_ne (by omega), Array.getElem?_setIfInBounds_ne (by omega)]; exact e3
    · rw [setCell_else (by omega), setCell_else (by omega)]; exact e5
theorem OwnSt.start (w : World) (hs : List QO) (c : Array Value) (hc : c.size = hs.length * 2) : OwnSt (w.alloc (.cells c 39)) w.heap.size hs 0 :=
  ⟨c, heap_alloc_new w _, hc, fun i x hi _ => by omega⟩
end Go.Proofs.Ytlmejfipgingeaa
