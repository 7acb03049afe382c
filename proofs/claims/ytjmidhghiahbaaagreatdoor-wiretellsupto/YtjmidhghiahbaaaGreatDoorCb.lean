/- Copies: a method's code, an object's slots. -/
import Derived.Test.YtjmidhghiahbaaaGreatDoorCa
import Derived.Test.YtjmidhghiahbaaaGreatDoorLaw
import Derived.Laws.Rows
import Derived.Laws.IdiomCopy
namespace Go.Proofs.YtjmidhghiahbaaaGreatDoor
open Go.ChangeShapes Go.WideShapes Go.ChangeAt Go.RowKit
set_option linter.unusedSimpArgs false
set_option linter.unusedVariables false

theorem info_parts {P : Program} {t : TypeId} {z : Value} {n m : Nat} (h : (P.info? t).map (fun i => (i.zero, i.size, i.bytes)) = some (some z, n, m)) : ∃ i, P.info? t = some i ∧ i.zero = some z ∧ i.size = n ∧ i.bytes = m := by
  cases hq : P.info? t with
  | none => simp [hq] at h
  | some i =>
    simp [hq] at h
    exact ⟨i, rfl, h.1, h.2.1, h.2.2⟩

abbrev zI : Value := .agg #[.int .i64 0, .int .i64 0, .int .i64 0, .int .i64 0, .string ⟨#[]⟩]
abbrev zM : Value := .agg #[.string ⟨#[]⟩, .int .i64 0, .int .i64 0, .int .i64 0, .slice none 0 0]
abbrev zC : Value := .agg #[.string ⟨#[]⟩, .int .i64 0, .int .i64 0, .slice none 0 0]
theorem info62 : (Tryz.prog.info? 62).map (fun i => (i.zero, i.size, i.bytes)) = some (some zI, 5, 48) := by kernel_rfl
theorem info43 : (Tryz.prog.info? 43).map (fun i => (i.zero, i.size, i.bytes)) = some (some zM, 5, 64) := by kernel_rfl
theorem info38 : (Tryz.prog.info? 38).map (fun i => (i.zero, i.size, i.bytes)) = some (some zC, 4, 56) := by kernel_rfl
theorem info51 : (Tryz.prog.info? 51).map (fun i => (i.zero, i.size, i.bytes)) = some (some (.agg #[.int .i64 0, .int .i64 0]), 2, 16) := by kernel_rfl
theorem info49 : (Tryz.prog.info? 49).map (fun i => (i.zero, i.size, i.bytes)) = some (some (.agg #[.int .i64 0, .slice none 0 0]), 2, 32) := by kernel_rfl
theorem info62s : (Tryz.prog.info? 62).map (·.size) = some 5 := by kernel_rfl
theorem info51s : (Tryz.prog.info? 51).map (·.size) = some 2 := by kernel_rfl

theorem make_of {T e : TypeId} {zs : Array Value} {sz by' : Nat} (hu : Tryz.prog.underlying T = some (.slice e)) (hI : (Tryz.prog.info? e).map (fun i => (i.zero, i.size, i.bytes)) = some (some (.agg zs), sz, by')) (hp : 0 < by') (n : Nat) (hb : n * by' ≤ 140737488351232) (hc : (Value.agg zs).cells = zs) (w : World) : (Instr.makeSlice T (.int .i64 (n : Int)) (.int .i64 (n : Int))).run Tryz.prog w = .ok (.slice (some ⟨w.heap.size, 0, none⟩) n n) (w.alloc (.cells (madeCells zs (n * sz)) e)) := by
  obtain ⟨i0, hi, hz0, hz1, hz2⟩ := info_parts hI
  have hn : n ≤ n * by' := Nat.le_mul_of_pos_right _ hp
  have := run_make (P := Tryz.prog) w T e i0 _ hu hi hz0 .i64 .i64 n n (by omega) (by omega) (by rw [hz2]; rw [Nat.mul_comm] at *; omega) (by omega)
  rw [this, hz1, hc]
  simp
abbrev MadeAt (T e : TypeId) (zs : Array Value) (sz n : Nat) : Prop := ∀ w : World, (Instr.makeSlice T (.int .i64 (n : Int)) (.int .i64 (n : Int))).run Tryz.prog w = .ok (.slice (some ⟨w.heap.size, 0, none⟩) n n) (w.alloc (.cells (madeCells zs (n * sz)) e))
theorem make_code (n : Nat) (hb : n * 48 ≤ 140737488351232) : MadeAt 41 62 #[.int .i64 0, .int .i64 0, .int .i64 0, .int .i64 0, .string ⟨#[]⟩] 5 n := fun w => make_of Tryz.underlying41 info62 (by omega) n hb rfl w
theorem make_meths (n : Nat) (hb : n * 64 ≤ 140737488351232) : MadeAt 36 43 #[.string ⟨#[]⟩, .int .i64 0, .int .i64 0, .int .i64 0, .slice none 0 0] 5 n := fun w => make_of Tryz.underlying36 info43 (by omega) n hb rfl w
theorem make_classes (n : Nat) (hb : n * 56 ≤ 140737488351232) : MadeAt 22 38 #[.string ⟨#[]⟩, .int .i64 0, .int .i64 0, .slice none 0 0] 4 n := fun w => make_of Tryz.underlying22 info38 (by omega) n hb rfl w
theorem make_vals (n : Nat) (hb : n * 16 ≤ 140737488351232) : MadeAt 47 51 #[.int .i64 0, .int .i64 0] 2 n := fun w => make_of Tryz.underlying47 info51 (by omega) n hb rfl w
theorem make_objs (n : Nat) (hb : n * 32 ≤ 140737488351232) : MadeAt 23 49 #[.int .i64 0, .slice none 0 0] 2 n := fun w => make_of Tryz.underlying23 info49 (by omega) n hb rfl w

/-- The blocks that came since w. -/
abbrev Since (w w' : World) : Nat → Prop := fun b => w.heap.size ≤ b ∧ b < w'.heap.size

theorem cell_set_self {w : World} {a : Addr} {v : Value} (h : w.cell? a = some v) (u : Value) : (w.setCell a u).cell? a = some u := by
  rw [World.cell?_setCell_same _ _ _ h]
theorem size_setCell (w : World) (a : Addr) (v : Value) : (w.setCell a v).heap.size = w.heap.size := by
  simp [World.setCell]
theorem keep_set {P : Nat → Prop} {w w0 : World} (h : Keeps P w0 w) {b o : Nat} (hb : ¬ P b) (u : Value) : Keeps P w0 (w.setCell ⟨b, o, none⟩ u) := h.trans (Keeps.of_setCell hb u)
/-- A method's value. -/
abbrev MV (x : QM) (cv : Value) : Value := .agg #[.string x.name, .int .i64 x.args, .int .i64 x.temps, .int .i64 x.prim, cv]

theorem Below.after {w w' : World} (h : Below w.heap.size w w') : w.heap.size ≤ w'.heap.size := h.size

/-- The row at block B, whose first j elements are those of xs; what they reach lies behind B. -/
def OwnSt {α : Type} (E : Lay α) (sz : Nat) (t : TypeId) (w : World) (B : Nat) (xs : List α) (j : Nat) : Prop :=
  (∃ cur : Array Value, w.heap[B]? = some (.cells cur t (0, 0)) ∧ cur.size = xs.length * sz) ∧ ∀ i x, i < j → xs[i]? = some x → E (fun b => B < b ∧ b < w.heap.size) w (fun k => w.cell? ⟨B, i * sz + k, none⟩) x
theorem setCell_same {w : World} {B o : Nat} {cur : Array Value} {t : TypeId} {fr : Nat × Nat} (h : w.heap[B]? = some (.cells cur t fr)) (v : Value) : (w.setCell ⟨B, o, none⟩ v).heap[B]? = some (.cells (cur.setIfInBounds o v) t fr) := by
  rw [setCell_eq_setRow w B o cur t fr v h]
  exact setRow_heap w B cur _ t fr h
theorem setCell_else {w : World} {B o g : Nat} (hg : g ≠ B) (v : Value) : (w.setCell ⟨B, o, none⟩ v).heap[g]? = w.heap[g]? := Below.heap_setCell _ _ _ _ hg
theorem setCells_block {B n : Nat} {t : TypeId} : ∀ (vs : List Value) (o : Nat) (w : World), (∃ cur : Array Value, w.heap[B]? = some (.cells cur t (0, 0)) ∧ cur.size = n) → ∃ cur : Array Value, (w.setCells B o vs).heap[B]? = some (.cells cur t (0, 0)) ∧ cur.size = n
  | [], _, _, h => h
  | v :: r, o, w, h => by
    obtain ⟨cur, h1, h2⟩ := h
    exact setCells_block r (o + 1) _ ⟨_, setCell_same h1 v, by simpa using h2⟩
theorem setCells_else {B g : Nat} (hg : g ≠ B) : ∀ (vs : List Value) (o : Nat) (w : World), (w.setCells B o vs).heap[g]? = w.heap[g]?
  | [], _, _ => rfl
  | v :: r, o, w => (setCells_else hg r (o + 1) _).trans (setCell_else hg v)
theorem setCells_size {B : Nat} : ∀ (vs : List Value) (o : Nat) (w : World), (w.setCells B o vs).heap.size = w.heap.size
  | [], _, _ => rfl
  | v :: r, o, w => (setCells_size r (o + 1) _).trans (size_setCell _ _ _)
section
variable {α : Type} {E : Lay α} {sz : Nat} {t : TypeId} {w w' : World} {B : Nat} {xs : List α} {j : Nat}
theorem OwnSt.later (h : OwnSt E sz t w B xs j) (G : Good E sz) (hb : Below w.heap.size w w') : OwnSt E sz t w' B xs j := by
  obtain ⟨⟨cur, h1, h2⟩, h3⟩ := h
  refine ⟨⟨cur, by rw [hb.block _ (blk_lt h1)]; exact h1, h2⟩, fun i x hi hx => ?_⟩
  exact G.move (h3 i x hi hx) (fun b h => ⟨h.1, Nat.lt_of_lt_of_le h.2 hb.size⟩) (.of_below hb) fun k _ v hv => cell_later hb hv
theorem OwnSt.start (xs : List α) (c : Array Value) (hc : c.size = xs.length * sz) : OwnSt E sz t (w.alloc (.cells c t)) w.heap.size xs 0 :=
  ⟨⟨c, heap_alloc_new w _, hc⟩, fun i x hi _ => by omega⟩
theorem OwnSt.step {x : α} {vs : List Value} (h : OwnSt E sz t w B xs j) (G : Good E sz) (hx : xs[j]? = some x) (hl : vs.length = sz) (hE : E (fun b => B < b ∧ b < w.heap.size) w (fun k => vs[k]?) x) : OwnSt E sz t (w.setCells B (j * sz) vs) B xs (j + 1) := by
  obtain ⟨⟨cur, h1, h2⟩, h3⟩ := h
  have hj := lt_of_get hx
  have hK : Keeps (fun b => B < b ∧ b < w.heap.size) w (w.setCells B (j * sz) vs) := Keeps.of_block fun b hb _ => setCells_else (by omega) _ _ _
  refine ⟨setCells_block vs _ w ⟨cur, h1, h2⟩, fun i y hi hy => ?_⟩
  have hz := setCells_size (B := B) vs (j * sz) w
  have hin : j * sz + sz ≤ xs.length * sz := by
    have := Nat.mul_le_mul_right sz (show j + 1 ≤ xs.length by omega)
    rw [Nat.add_mul] at this; omega
  by_cases hij : i = j
  · subst hij
    rw [hx] at hy
    cases hy
    refine G.move hE (fun b h => ⟨h.1, by rw [hz]; exact h.2⟩) hK fun k hk v hv => ?_
    have := World.cell?_setCells_in B vs (i * sz) w (fun q hq => by rw [cell_of_row _ _ _ _ _ _ h1]; simp; omega) k (by omega)
    rw [this]
    rw [List.getElem?_eq_getElem (by omega)] at hv
    exact hv
  · refine G.move (h3 i y (by omega) hy) (fun b h => ⟨h.1, by rw [hz]; exact h.2⟩) hK fun k hk v hv => ?_
    rw [World.cell?_setCells_out B vs (j * sz) w _ (fun _ _ => Or.inl ?_)]
    · exact hv
    · have := Nat.mul_le_mul_right sz (show i + 1 ≤ j by omega)
      rw [Nat.add_mul] at this
      simp
      omega
theorem OwnSt.row {bytes : Nat} (h : OwnSt E sz t w B xs xs.length) (G : Good E sz) (hb : xs.length * bytes ≤ 140737488351232) (hp : 0 < bytes) : IsRow E sz bytes (fun b => B ≤ b ∧ b < w.heap.size) w (.slice (some ⟨B, 0, none⟩) xs.length xs.length) xs := by
  obtain ⟨⟨cur, h1, h2⟩, h3⟩ := h
  have hn : xs.length ≤ xs.length * bytes := Nat.le_mul_of_pos_right _ hp
  refine ⟨_, _, rfl, Nat.le_refl _, by unfold maxLen; omega, hb, fun i x hx => ⟨B, 0, rfl, ⟨Nat.le_refl _, blk_lt h1⟩, ?_⟩⟩
  exact G.move (h3 i x (lt_of_get hx) hx) (fun b h => ⟨by omega, h.2⟩) (.refl _ _) fun k _ v hv => by rw [Nat.zero_add]; exact hv
/-- Its cells. -/
theorem OwnSt.cells (h : OwnSt E sz t w B xs xs.length) (G : Good E sz) : ∃ cur : Array Value, w.heap[B]? = some (.cells cur t (0, 0)) ∧ Cells E sz (fun b => B < b ∧ b < w.heap.size) w cur.toList xs := by
  obtain ⟨⟨cur, h1, h2⟩, h3⟩ := h
  refine ⟨cur, h1, by simpa using h2, fun i x hx => ?_⟩
  exact G.move (h3 i x (lt_of_get hx) hx) (fun b h => h) (.refl _ _) fun k _ v hv => by rw [cell_of_row _ _ _ _ _ _ h1] at hv; simpa using hv
end

end Go.Proofs.YtjmidhghiahbaaaGreatDoor
