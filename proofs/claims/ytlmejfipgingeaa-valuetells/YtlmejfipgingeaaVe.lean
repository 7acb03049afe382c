/- Own: a copy of all objects. -/
import Derived.Test.YtlmejfipgingeaaVd
namespace Go.Proofs.Ytlmejfipgingeaa
open Go.ChangeShapes Go.WideShapes Go.ChangeAt Go.RowKit
set_option linter.unusedSimpArgs false
set_option linter.unusedVariables false

set_option maxHeartbeats 1000000 in
theorem own_any {lo : Nat} (hs : List QO) (v : Value) (w : World) (hh : IsHeap lo w v hs) : Calls Try.prog 15 #[v] w fun e w' => ∃ g, e = .returned (.slice (some ⟨g, 0, none⟩) hs.length hs.length) ∧ OwnSt w' g hs hs.length ∧ w.heap.size ≤ g ∧ Below w.heap.size w w' := by
  obtain ⟨ad, cap, rfl, hl, hcap, hby, hrow⟩ := hh
  have hmk := make_objs hs.length hby
  go_enter Try.func15, Try.ntmps15
  go_wp2
  go_loopg [11] hs.length (fun g c wr => ∃ j : Nat, j + g = hs.length ∧ c = .int .i64 j ∧ Below w.heap.size w wr ∧ OwnSt wr w.heap.size hs j ∧ w.heap.size < wr.heap.size)
  case atStart => exact ⟨0, by omega, rfl, bel1 _ _, OwnSt.start _ _ _ (size_madeCells _ _), by simp⟩
  case round =>
    obtain ⟨j, hj, rfl, hbel, hst, hz⟩ := hrel
    clear hmk
    by_cases hlt : j < hs.length
    · obtain ⟨b, o, rfl, -, hv1, sv, hv2, hsl⟩ := hrow j hs[j] (by simp [hlt])
      have hxj : Hid (hs[j]? = some hs[j]) := by show _ = _; simp [hlt]
      generalize hs[j] = x at *
      have u1 := cell_later hbel hv1
      have u2 := cell_later hbel hv2
      have hsl2 := hsl.later hbel
      obtain ⟨ad2, cap2, rfl, hl2, hcap2, hby2, hrow2⟩ := id hsl2
      clear hv1 hv2 hsl hrow2
      have hj1 : (j : Int) < (hs.length : Int) := by omega
      have hj0 : (0 : Int) ≤ (j : Int) := by omega
      go_wp2
      have hW1 : Below wr.heap.size wr (wr.alloc (Obj.cells #[Value.int IntKind.i64 x.cls, Value.slice ad2 x.slots.length cap2] 39)).drew := (bel1 _ _).drew
      have hIV := hsl2.later hW1
      have hst1 := hst.later hW1
      have hbel1 := hbel.trans (hW1.mono (by omega))
      have c1 : (wr.alloc (Obj.cells #[Value.int IntKind.i64 x.cls, Value.slice ad2 x.slots.length cap2] 39)).drew.cell? ⟨wr.heap.size, 0, none⟩ = some (Value.int IntKind.i64 x.cls) := by simp
      have c2 : (wr.alloc (Obj.cells #[Value.int IntKind.i64 x.cls, Value.slice ad2 x.slots.length cap2] 39)).drew.cell? ⟨wr.heap.size, 1, none⟩ = some (Value.slice ad2 x.slots.length cap2) := by simp
      have hzz : (wr.alloc (Obj.cells #[Value.int IntKind.i64 x.cls, Value.slice ad2 x.slots.length cap2] 39)).drew.heap.size = wr.heap.size + 1 := by simp
      clear hsl2 hst u1 u2 hrow
      go_region_held3 (fun w' => w'.cell? ⟨wr.heap.size, 0, none⟩ = some (Value.int IntKind.i64 x.cls) ∧ w'.cell? ⟨wr.heap.size, 1, none⟩ = some (Value.slice ad2 x.slots.length cap2)) (first | exact ⟨c1, c2⟩ | exact ⟨d1, d2⟩ | exact ⟨(World.cell?_setCell_other _ _ _ _ (by first | (simp; done) | (simp; omega))).trans ((World.cell?_setCell_other _ _ _ _ (by first | (simp; done) | (simp; omega))).trans d1), (World.cell?_setCell_other _ _ _ _ (by first | (simp; done) | (simp; omega))).trans ((World.cell?_setCell_other _ _ _ _ (by first | (simp; done) | (simp; omega))).trans d2)⟩)
        (first | (go_at_call 23; refine (ownSlots_any x.slots _ _ hIV).mono ?_; rintro e w1 ⟨g, rfl, hg1, hg2, hb1⟩; have hst2 := hst1.later hb1; obtain ⟨cur, k1, k2, k3⟩ := id hst2; have f1 : ∀ o, w1.frozen? ⟨w.heap.size, o, none⟩ = false := fun o => (by simp [World.frozen?, k1]); have d1 := cell_later hb1 c1; have d2 := cell_later hb1 c2; have e1 : w1.cell? ⟨w.heap.size, j * 2, none⟩ = some (cur[j * 2]'(by omega)) := (by rw [cell_of_row _ _ _ _ _ _ k1]; simp); have e2 : w1.cell? ⟨w.heap.size, j * 2 + 1, none⟩ = some (cur[j * 2 + 1]'(by omega)) := (by rw [cell_of_row _ _ _ _ _ _ k1]; simp)))
      go_wp2
      go_roundg (gk - 1)
      case measure => omega
      case rel =>
        have hlt1 : w.heap.size < w1.heap.size := Nat.lt_of_lt_of_le (by omega) hb1.size
        exact ⟨j + 1, by omega, by go_num, ((hbel1.trans (hb1.mono (by omega))).setCell (Nat.le_refl _) _).setCell (Nat.le_refl _) _, hst2.step hxj.out (by omega) hby2 hg2, by simpa [World.setCell] using hlt1⟩
    · obtain rfl : j = hs.length := by omega
      go_wp2
      go_ret
      exact ⟨_, rfl, hst, Nat.le_refl _, hbel⟩

/-- These cells are those objects. -/
def ObjCells (lo : Nat) (w : World) (cs : List Value) (hs : List QO) : Prop :=
  cs.length = hs.length * 2 ∧ ∀ i x, hs[i]? = some x → cs[i * 2]? = some (.int .i64 x.cls) ∧ ∃ v, cs[i * 2 + 1]? = some v ∧ IsVals lo w v x.slots
theorem ObjCells.later {lo : Nat} {w w' : World} {cs : List Value} {hs : List QO} (hb : Below w.heap.size w w') (h : ObjCells lo w cs hs) : ObjCells lo w' cs hs :=
  ⟨h.1, fun i x hx => by obtain ⟨h1, v, h2, h3⟩ := h.2 i x hx; exact ⟨h1, v, h2, h3.later hb⟩⟩
theorem ObjCells.mono {lo lo' : Nat} {w : World} {cs : List Value} {hs : List QO} (h : ObjCells lo w cs hs) (hl : lo' ≤ lo) : ObjCells lo' w cs hs :=
  ⟨h.1, fun i x hx => by obtain ⟨h1, v, h2, h3⟩ := h.2 i x hx; exact ⟨h1, v, h2, h3.mono hl⟩⟩
theorem ObjCells.snoc {lo : Nat} {w : World} {cs : List Value} {hs : List QO} (h : ObjCells lo w cs hs) {c : Int} {v : Value} {ss : List QV} (hv : IsVals lo w v ss) : ObjCells lo w (cs ++ [.int .i64 c, v]) (hs ++ [⟨c, ss⟩]) := by
  refine ⟨by simp [h.1]; omega, fun i x hx => ?_⟩
  have hl := h.1
  by_cases hi : i < hs.length
  · rw [List.getElem?_append_left hi] at hx
    obtain ⟨h1, v', h2, h3⟩ := h.2 i x hx
    exact ⟨by rw [List.getElem?_append_left (by omega)]; exact h1, v', by rw [List.getElem?_append_left (by omega)]; exact h2, h3⟩
  · have hi2 : i = hs.length := by
      rcases Nat.lt_or_ge i (hs ++ [(⟨c, ss⟩ : QO)]).length with h | h
      · simp at h; omega
      · rw [List.getElem?_eq_none h] at hx; cases hx
    subst hi2
    simp at hx
    subst hx
    refine ⟨?_, v, ?_, hv⟩
    · rw [List.getElem?_append_right (by omega), hl]; simp
    · rw [List.getElem?_append_right (by omega), hl, show hs.length * 2 + 1 - hs.length * 2 = 1 by omega]; simp
theorem lt_of_get {α : Type} {l : List α} {i : Nat} {x : α} (h : l[i]? = some x) : i < l.length := by
  rcases Nat.lt_or_ge i l.length with h' | h'
  · exact h'
  · rw [List.getElem?_eq_none h'] at h; cases h
/-- The cells of a row of objects. -/
theorem heap_cells {lo : Nat} {w : World} {ad : Option Addr} {hs : List QO} (h : RowAt lo (ObjAt lo) 2 w ad hs) : ∃ cs, ObjCells lo w cs hs ∧ ∀ j u, cs[j]? = some u → ∃ a, ad = some a ∧ w.cell? (a.add j) = some u := by
  cases hs with
  | nil => exact ⟨[], ⟨rfl, fun i x hx => by simp at hx⟩, fun j u hu => by simp at hu⟩
  | cons y r =>
    obtain ⟨b, o, rfl, -⟩ := h 0 y rfl
    refine ⟨(List.range ((y :: r).length * 2)).map fun j => (w.cell? ⟨b, o + j, none⟩).getD undef, ⟨by simp, fun i x hx => ?_⟩, fun j u hu => ?_⟩
    · have hi := lt_of_get hx
      obtain ⟨b', o', e, -, h1, v, h2, h3⟩ := h i x hx
      cases e
      refine ⟨?_, v, ?_, h3⟩
      · rw [List.getElem?_map, List.getElem?_range (by omega)]; simp [h1]
      · rw [List.getElem?_map, List.getElem?_range (by omega)]; simp [← Nat.add_assoc, h2]
    · rw [List.getElem?_map] at hu
      have hj : j < (y :: r).length * 2 := by
        rcases Nat.lt_or_ge j ((y :: r).length * 2) with h' | h'
        · exact h'
        · rw [List.getElem?_eq_none (by simpa using h')] at hu; simp at hu
      rw [List.getElem?_range hj] at hu
      refine ⟨_, rfl, ?_⟩
      rw [Addr.add_lit]
      have hx : (y :: r)[j / 2]? = some ((y :: r)[j / 2]'(by omega)) := by simp
      obtain ⟨b', o', e, -, h1, v, h2, h3⟩ := h _ _ hx
      cases e
      have hm : j % 2 = 0 ∨ j % 2 = 1 := by omega
      rcases hm with hm | hm
      · rw [show o + j / 2 * 2 = o + j by omega] at h1
        simp [h1] at hu
        rw [h1, hu]
      · rw [show o + j / 2 * 2 + 1 = o + j by omega] at h2
        simp [h2] at hu
        rw [h2, hu]
/-- A row of objects whose first cells are those objects. -/
theorem cells_heap {lo : Nat} {w : World} {g cap : Nat} (hlo : lo ≤ g) {t : TypeId} {fr : Nat × Nat} {cur : Array Value} {hs : List QO} (hg : w.heap[g]? = some (.cells cur t fr)) (hc : ObjCells lo w (cur.toList.take (hs.length * 2)) hs) (h1 : hs.length ≤ cap) (h2 : cap ≤ maxLen) (h3 : hs.length * 32 ≤ 140737488351232) :
    IsHeap lo w (.slice (some ⟨g, 0, none⟩) hs.length cap) hs := by
  refine ⟨_, _, rfl, h1, h2, h3, fun i x hx => ⟨g, 0, rfl, hlo, ?_⟩⟩
  obtain ⟨e1, v, e2, e3⟩ := hc.2 i x hx
  have hi := lt_of_get hx
  have hl := hc.1
  refine ⟨?_, v, ?_, e3⟩
  · rw [cell_of_row w g _ _ _ _ hg, Nat.zero_add]
    rw [List.getElem?_take, if_pos (by omega)] at e1
    simpa using e1
  · rw [cell_of_row w g _ _ _ _ hg, Nat.zero_add]
    rw [List.getElem?_take, if_pos (by omega)] at e2
    simpa using e2
theorem OwnSt.cells {w : World} {B : Nat} {hs : List QO} (h : OwnSt w B hs hs.length) : ∃ cur : Array Value, w.heap[B]? = some (.cells cur 39 (0, 0)) ∧ ObjCells B w cur.toList hs := by
  obtain ⟨cur, h1, h2, h3⟩ := h
  refine ⟨cur, h1, by simpa using h2, fun i x hx => ?_⟩
  obtain ⟨e1, g, e2, e3, e4, e5⟩ := h3 i x (lt_of_get hx) hx
  exact ⟨by simpa using e1, _, by simpa using e3, _, _, rfl, Nat.le_refl _, by unfold maxLen; omega, e4, vals_row (Nat.le_of_lt e2) e5⟩

end Go.Proofs.Ytlmejfipgingeaa
