/- Copies: a method's code, an object's slots. -/
import Derived.Test.YtahcmmdlggcfbaaCa
import Derived.Test.YtahcmmdlggcfbaaLaw
import Derived.Laws.Rows
import Derived.Laws.IdiomCopy
namespace Go.Proofs.Ytahcmmdlggcfbaa
open Go.ChangeShapes Go.WideShapes Go.ChangeAt Go.RowKit
set_option linter.unusedSimpArgs false
set_option linter.unusedVariables false

theorem info_parts {P : Program} {t : TypeId} {z : Value} {n m : Nat} (h : (P.info? t).map (fun i => (i.zero, i.size, i.bytes)) = some (some z, n, m)) : ∃ i, P.info? t = some i ∧ i.zero = some z ∧ i.size = n ∧ i.bytes = m := by
  cases hq : P.info? t with
  | none => simp [hq] at h
  | some i =>
    simp [hq] at h
    exact ⟨i, rfl, h.1, h.2.1, h.2.2⟩

abbrev zI : Value := .agg #[.int .i64 0, .int .i64 0, .int .i64 0, .int .i64 0, .string ⟨#[]⟩]
abbrev zM : Value := .agg #[.string ⟨#[]⟩, .int .i64 0, .int .i64 0, .int .i64 0, .slice none 0 0]
abbrev zC : Value := .agg #[.string ⟨#[]⟩, .int .i64 0, .int .i64 0, .slice none 0 0]
theorem info56 : (Try.prog.info? 56).map (fun i => (i.zero, i.size, i.bytes)) = some (some zI, 5, 48) := by kernel_rfl
theorem info28 : (Try.prog.info? 28).map (fun i => (i.zero, i.size, i.bytes)) = some (some zM, 5, 64) := by kernel_rfl
theorem info31 : (Try.prog.info? 31).map (fun i => (i.zero, i.size, i.bytes)) = some (some zC, 4, 56) := by kernel_rfl
theorem info67 : (Try.prog.info? 67).map (fun i => (i.zero, i.size, i.bytes)) = some (some (.agg #[.int .i64 0, .int .i64 0]), 2, 16) := by kernel_rfl
theorem info65 : (Try.prog.info? 65).map (fun i => (i.zero, i.size, i.bytes)) = some (some (.agg #[.int .i64 0, .slice none 0 0]), 2, 32) := by kernel_rfl
theorem info56s : (Try.prog.info? 56).map (·.size) = some 5 := by kernel_rfl
theorem info67s : (Try.prog.info? 67).map (·.size) = some 2 := by kernel_rfl

theorem make_of {T e : TypeId} {zs : Array Value} {sz by' : Nat} (hu : Try.prog.underlying T = some (.slice e)) (hI : (Try.prog.info? e).map (fun i => (i.zero, i.size, i.bytes)) = some (some (.agg zs), sz, by')) (hp : 0 < by') (n : Nat) (hb : n * by' ≤ 140737488351232) (hc : (Value.agg zs).cells = zs) (w : World) : (Instr.makeSlice T (.int .i64 (n : Int)) (.int .i64 (n : Int))).run Try.prog w = .ok (.slice (some ⟨w.heap.size, 0, none⟩) n n) (w.alloc (.cells (madeCells zs (n * sz)) e)) := by
  obtain ⟨i0, hi, hz0, hz1, hz2⟩ := info_parts hI
  have hn : n ≤ n * by' := Nat.le_mul_of_pos_right _ hp
  have := run_make (P := Try.prog) w T e i0 _ hu hi hz0 .i64 .i64 n n (by omega) (by omega) (by rw [hz2]; rw [Nat.mul_comm] at *; omega) (by omega)
  rw [this, hz1, hc]
  simp
abbrev MadeAt (T e : TypeId) (zs : Array Value) (sz n : Nat) : Prop := ∀ w : World, (Instr.makeSlice T (.int .i64 (n : Int)) (.int .i64 (n : Int))).run Try.prog w = .ok (.slice (some ⟨w.heap.size, 0, none⟩) n n) (w.alloc (.cells (madeCells zs (n * sz)) e))
theorem make_code (n : Nat) (hb : n * 48 ≤ 140737488351232) : MadeAt 26 56 #[.int .i64 0, .int .i64 0, .int .i64 0, .int .i64 0, .string ⟨#[]⟩] 5 n := fun w => make_of Try.underlying26 info56 (by omega) n hb rfl w
theorem make_meths (n : Nat) (hb : n * 64 ≤ 140737488351232) : MadeAt 29 28 #[.string ⟨#[]⟩, .int .i64 0, .int .i64 0, .int .i64 0, .slice none 0 0] 5 n := fun w => make_of Try.underlying29 info28 (by omega) n hb rfl w
theorem make_classes (n : Nat) (hb : n * 56 ≤ 140737488351232) : MadeAt 22 31 #[.string ⟨#[]⟩, .int .i64 0, .int .i64 0, .slice none 0 0] 4 n := fun w => make_of Try.underlying22 info31 (by omega) n hb rfl w
theorem make_vals (n : Nat) (hb : n * 16 ≤ 140737488351232) : MadeAt 63 67 #[.int .i64 0, .int .i64 0] 2 n := fun w => make_of Try.underlying63 info67 (by omega) n hb rfl w
theorem make_objs (n : Nat) (hb : n * 32 ≤ 140737488351232) : MadeAt 23 65 #[.int .i64 0, .slice none 0 0] 2 n := fun w => make_of Try.underlying23 info65 (by omega) n hb rfl w

/-- The blocks that came since w. -/
abbrev Since (w w' : World) : Nat → Prop := fun b => w.heap.size ≤ b ∧ b < w'.heap.size

set_option maxHeartbeats 400000 in
theorem ownSlots_any {P : Nat → Prop} (xs : List QV) (v : Value) (w : World) (hh : IsVals P w v xs) : Calls Try.prog 51 #[v] w fun e w' => ∃ a c, e = .returned (.slice a xs.length c) ∧ IsVals (Since w w') w' (.slice a xs.length c) xs ∧ Below w.heap.size w w' := by
  obtain ⟨ad, cap, rfl, hl, hcap, hby, hrow⟩ := hh
  have hmk := make_vals xs.length hby
  obtain ⟨cs, hcs, hsrc⟩ := hrow.cells goodV
  obtain ⟨w1, hcp, h2, h3⟩ := run_copy_whole (P := Try.prog) (w.alloc (.cells (madeCells #[.int .i64 0, .int .i64 0] (xs.length * 2)) 67)) 63 63 3 67 2 w.heap.size xs.length xs.length ad cap (madeCells #[.int .i64 0, .int .i64 0] (xs.length * 2)) 67 cs Try.underlying63 info67s (heap_alloc_new w _) hcs.1
    (fun j v hj => by obtain ⟨a, e, h⟩ := hsrc j v hj; exact ⟨a, e, cell_later (bel1 _ _) h⟩) (size_madeCells _ _) (hcs.all goodV)
  have HB := h3 w.heap.size w (bel1 _ _) (Nat.le_refl _)
  have HV : Hid (IsVals (Since w w1) w1 (.slice (some ⟨w.heap.size, 0, none⟩) xs.length xs.length) xs) :=
    Cells.row (E := ValC) (sz := 2) (cs := cs) ⟨hcs.1, hcs.2⟩ goodV ⟨Nat.le_refl _, blk_lt h2⟩ h2 (by simp; rw [List.take_of_length_le]; rw [hcs.1]; exact Nat.le_refl _) (Nat.le_refl _) (by unfold maxLen; omega) hby
  clear h2 h3 hrow hcs hsrc
  go_enter Try.func51, Try.ntmps51
  go_wp2
  go_ret
  exact ⟨_, _, rfl, HV.out, HB⟩

theorem cell_set_self {w : World} {a : Addr} {v : Value} (h : w.cell? a = some v) (u : Value) : (w.setCell a u).cell? a = some u := by
  rw [World.cell?_setCell_same _ _ _ h]
theorem size_setCell (w : World) (a : Addr) (v : Value) : (w.setCell a v).heap.size = w.heap.size := by
  simp [World.setCell]
theorem keep_set {P : Nat → Prop} {w w0 : World} (h : Keeps P w0 w) {b o : Nat} (hb : ¬ P b) (u : Value) : Keeps P w0 (w.setCell ⟨b, o, none⟩ u) := h.trans (Keeps.of_setCell hb u)
/-- A method's value. -/
abbrev MV (x : QM) (cv : Value) : Value := .agg #[.string x.name, .int .i64 x.args, .int .i64 x.temps, .int .i64 x.prim, cv]

set_option maxHeartbeats 400000 in
theorem method_any {P : Nat → Prop} (x : QM) (v : Value) (w : World) (hh : IsCode P w v x.code) : Calls Try.prog 24 #[MV x v] w fun e w' => ∃ a c, e = .returned (MV x (.slice a x.code.length c)) ∧ IsCode (Since w w') w' (.slice a x.code.length c) x.code ∧ Below w.heap.size w w' := by
  obtain ⟨ad, cap, rfl, hl, hcap, hby, hrow⟩ := hh
  have hmk := make_code x.code.length hby
  obtain ⟨cs, hcs, hsrc⟩ := hrow.cells goodI
  have hs0 : ((w.alloc (.cells #[.string x.name, .int .i64 x.args, .int .i64 x.temps, .int .i64 x.prim, .slice ad x.code.length cap] 28)).alloc (.cells #[.string ⟨#[]⟩, .int .i64 0, .int .i64 0, .int .i64 0, .slice none 0 0] 28)).heap.size = w.heap.size + 1 + 1 := by simp
  obtain ⟨w1, hcp, h2, h3⟩ := run_copy_whole (P := Try.prog) (((w.alloc (.cells #[.string x.name, .int .i64 x.args, .int .i64 x.temps, .int .i64 x.prim, .slice ad x.code.length cap] 28)).alloc (.cells #[.string ⟨#[]⟩, .int .i64 0, .int .i64 0, .int .i64 0, .slice none 0 0] 28)).alloc (.cells (madeCells #[.int .i64 0, .int .i64 0, .int .i64 0, .int .i64 0, .string ⟨#[]⟩] (x.code.length * 5)) 56)) 26 26 3 56 5 _ x.code.length x.code.length ad cap (madeCells #[.int .i64 0, .int .i64 0, .int .i64 0, .int .i64 0, .string ⟨#[]⟩] (x.code.length * 5)) 56 cs Try.underlying26 info56s (heap_alloc_new _ _) hcs.1
    (fun j v hj => by obtain ⟨a, e, h⟩ := hsrc j v hj; exact ⟨a, e, cell_later (bel3 _ _ _ _) h⟩) (size_madeCells _ _) (hcs.all goodI)
  have HB := h3 _ _ (bel1 _ _) (Nat.le_refl _)
  have HC : Hid (Cells InstrC 5 P w cs x.code) := hcs
  rw [hs0] at hcp h2
  have h2' := blk_lt h2
  have H2 : Hid (w1.heap[w.heap.size + 1 + 1]? = some (.cells cs.toArray 56 (0, 0))) := h2
  obtain ⟨hc, hf⟩ := bcell HB
  have hst : ∀ v, (w1.setCell ⟨w.heap.size, 4, none⟩ v).cell? ⟨w.heap.size, 4, none⟩ = some v := fun v => cell_set_self (v := .slice ad x.code.length cap) (by rw [hc _ _ (by simp; omega)]; simp) v
  have HB' : Below w.heap.size w w1 := (bel2 _ _ _).trans (HB.mono (by simp; omega))
  clear h2 h3 hrow hcs hsrc HB hs0
  go_enter Try.func24, Try.ntmps24
  go_wp2

  refine bodyPost_ret (v := MV x (.slice (some ⟨w.heap.size + 1 + 1, 0, none⟩) x.code.length x.code.length)) ?_ rfl ⟨_, _, rfl, ?_, ?_⟩
  · simp [results, Try.results24, go_sem, hc]
  · refine IsRow.keep goodI (w := w1) (P := fun b => w.heap.size + 1 + 1 ≤ b ∧ b < w1.heap.size) ?_ ?_ ?_
    · exact Cells.row (E := InstrC) (sz := 5) (cs := cs) ⟨HC.out.1, HC.out.2⟩ goodI ⟨by omega, h2'⟩ H2.out (by simp; rw [List.take_of_length_le]; rw [HC.out.1]; exact Nat.le_refl _) (Nat.le_refl _) (by unfold maxLen; omega) hby
    · exact keep_set (keep_set (keep_set (keep_set (keep_set (keep_set (Keeps.refl _ _) (fun h => by have := h.1; omega) _) (fun h => by have := h.1; omega) _) (fun h => by have := h.1; omega) _) (fun h => by have := h.1; omega) _) (fun h => by have := h.1; omega) _) (fun h => by have := h.1; omega) _
    · rintro b ⟨h1, h2⟩; exact ⟨by omega, by simpa [size_setCell] using h2⟩
  · exact ((((((HB'.setCell (by simp) _).setCell (by simp) _).setCell (by simp) _).setCell (by simp) _).setCell (by simp) _).setCell (by simp) _)

theorem Below.after {w w' : World} (h : Below w.heap.size w w') : w.heap.size ≤ w'.heap.size := h.size

/-- The row at block B, whose first j elements are those of xs; what they reach lies behind B. -/
def OwnSt {α : Type} (E : Lay α) (sz : Nat) (t : TypeId) (w : World) (B : Nat) (xs : List α) (j : Nat) : Prop :=
  (∃ cur : Array Value, w.heap[B]? = some (.cells cur t (0, 0)) ∧ cur.size = xs.length * sz) ∧ ∀ i x, i < j → xs[i]? = some x → E (fun b => B < b ∧ b < w.heap.size) w (fun k => w.cell? ⟨B, i * sz + k, none⟩) x
theorem setCell_same {w : World} {B o : Nat} {cur : Array Value} {t : TypeId} {fr : Nat × Nat} (h : w.heap[B]? = some (.cells cur t fr)) (v : Value) : (w.setCell ⟨B, o, none⟩ v).heap[B]? = some (.cells (cur.setIfInBounds o v) t fr) := by
  rw [setCell_eq_setRow w B o cur t fr v h]
  exact setRow_heap w B cur _ t fr h
theorem setCell_else {w : World} {B o g : Nat} (hg : g ≠ B) (v : Value) : (w.setCell ⟨B, o, none⟩ v).heap[g]? = w.heap[g]? := Below.heap_setCell _ _ _ _ hg
theorem setCells_block {B n : Nat} {t : TypeId} : ∀ (vs : List Value) (o : Nat) (w : World), (∃ cur : Array Value, w.heap[B]? = some (.cells cur t (0, 0)) ∧ cur.size = n) → ∃ cur : Array Value, (w.setCells B o vs).heap[B]? = some (.cells cur t (0, 0)) ∧ cur.size = n
  | [], _, _, h => h
  | v :: r, o, w, h => by
    obtain ⟨cur, h1, h2⟩ := h
    exact setCells_block r (o + 1) _ ⟨_, setCell_same h1 v, by simpa using h2⟩
theorem setCells_else {B g : Nat} (hg : g ≠ B) : ∀ (vs : List Value) (o : Nat) (w : World), (w.setCells B o vs).heap[g]? = w.heap[g]?
  | [], _, _ => rfl
  | v :: r, o, w => (setCells_else hg r (o + 1) _).trans (setCell_else hg v)
theorem setCells_size {B : Nat} : ∀ (vs : List Value) (o : Nat) (w : World), (w.setCells B o vs).heap.size = w.heap.size
  | [], _, _ => rfl
  | v :: r, o, w => (setCells_size r (o + 1) _).trans (size_setCell _ _ _)
section
variable {α : Type} {E : Lay α} {sz : Nat} {t : TypeId} {w w' : World} {B : Nat} {xs : List α} {j : Nat}
theorem OwnSt.later (h : OwnSt E sz t w B xs j) (G : Good E sz) (hb : Below w.heap.size w w') : OwnSt E sz t w' B xs j := by
  obtain ⟨⟨cur, h1, h2⟩, h3⟩ := h
  refine ⟨⟨cur, by rw [hb.block _ (blk_lt h1)]; exact h1, h2⟩, fun i x hi hx => ?_⟩
  exact G.move (h3 i x hi hx) (fun b h => ⟨h.1, Nat.lt_of_lt_of_le h.2 hb.size⟩) (.of_below hb) fun k _ v hv => cell_later hb hv
theorem OwnSt.start (xs : List α) (c : Array Value) (hc : c.size = xs.length * sz) : OwnSt E sz t (w.alloc (.cells c t)) w.heap.size xs 0 :=
  ⟨⟨c, heap_alloc_new w _, hc⟩, fun i x hi _ => by omega⟩
theorem OwnSt.step {x : α} {vs : List Value} (h : OwnSt E sz t w B xs j) (G : Good E sz) (hx : xs[j]? = some x) (hl : vs.length = sz) (hE : E (fun b => B < b ∧ b < w.heap.size) w (fun k => vs[k]?) x) : OwnSt E sz t (w.setCells B (j * sz) vs) B xs (j + 1) := by
  obtain ⟨⟨cur, h1, h2⟩, h3⟩ := h
  have hj := lt_of_get hx
  have hK : Keeps (fun b => B < b ∧ b < w.heap.size) w (w.setCells B (j * sz) vs) := Keeps.of_block fun b hb _ => setCells_else (by omega) _ _ _
  refine ⟨setCells_block vs _ w ⟨cur, h1, h2⟩, fun i y hi hy => ?_⟩
  have hz := setCells_size (B := B) vs (j * sz) w
  have hin : j * sz + sz ≤ xs.length * sz := by
    have := Nat.mul_le_mul_right sz (show j + 1 ≤ xs.length by omega)
    rw [Nat.add_mul] at this; omega
  by_cases hij : i = j
  · subst hij
    rw [hx] at hy
    cases hy
    refine G.move hE (fun b h => ⟨h.1, by rw [hz]; exact h.2⟩) hK fun k hk v hv => ?_
    have := World.cell?_setCells_in B vs (i * sz) w (fun q hq => by rw [cell_of_row _ _ _ _ _ _ h1]; simp; omega) k (by omega)
    rw [this]
    rw [List.getElem?_eq_getElem (by omega)] at hv
    exact hv
  · refine G.move (h3 i y (by omega) hy) (fun b h => ⟨h.1, by rw [hz]; exact h.2⟩) hK fun k hk v hv => ?_
    rw [World.cell?_setCells_out B vs (j * sz) w _ (fun _ _ => Or.inl ?_)]
    · exact hv
    · have := Nat.mul_le_mul_right sz (show i + 1 ≤ j by omega)
      rw [Nat.add_mul] at this
      simp
      omega
theorem OwnSt.row {bytes : Nat} (h : OwnSt E sz t w B xs xs.length) (G : Good E sz) (hb : xs.length * bytes ≤ 140737488351232) (hp : 0 < bytes) : IsRow E sz bytes (fun b => B ≤ b ∧ b < w.heap.size) w (.slice (some ⟨B, 0, none⟩) xs.length xs.length) xs := by
  obtain ⟨⟨cur, h1, h2⟩, h3⟩ := h
  have hn : xs.length ≤ xs.length * bytes := Nat.le_mul_of_pos_right _ hp
  refine ⟨_, _, rfl, Nat.le_refl _, by unfold maxLen; omega, hb, fun i x hx => ⟨B, 0, rfl, ⟨Nat.le_refl _, blk_lt h1⟩, ?_⟩⟩
  exact G.move (h3 i x (lt_of_get hx) hx) (fun b h => ⟨by omega, h.2⟩) (.refl _ _) fun k _ v hv => by rw [Nat.zero_add]; exact hv
/-- Its cells. -/
theorem OwnSt.cells (h : OwnSt E sz t w B xs xs.length) (G : Good E sz) : ∃ cur : Array Value, w.heap[B]? = some (.cells cur t (0, 0)) ∧ Cells E sz (fun b => B < b ∧ b < w.heap.size) w cur.toList xs := by
  obtain ⟨⟨cur, h1, h2⟩, h3⟩ := h
  refine ⟨cur, h1, by simpa using h2, fun i x hx => ?_⟩
  exact G.move (h3 i x (lt_of_get hx) hx) (fun b h => h) (.refl _ _) fun k _ v hv => by rw [cell_of_row _ _ _ _ _ _ h1] at hv; simpa using hv
end

set_option maxHeartbeats 1000000 in
theorem ownMethods_any {P : Nat → Prop} (xs : List QM) (v : Value) (w : World) (hh : IsMeths P w v xs) : Calls Try.prog 34 #[v] w fun e w' => ∃ g, e = .returned (.slice (some ⟨g, 0, none⟩) xs.length xs.length) ∧ OwnSt MethC 5 28 w' g xs xs.length ∧ w.heap.size ≤ g ∧ Below w.heap.size w w' := by
  obtain ⟨ad, cap, rfl, hl, hcap, hby, hrow⟩ := hh
  have hmk := make_meths xs.length hby
  go_enter Try.func34, Try.ntmps34
  go_wp2
  go_loopg [11] xs.length (fun g c wr => ∃ j : Nat, j + g = xs.length ∧ c = .int .i64 j ∧ Below w.heap.size w wr ∧ OwnSt MethC 5 28 wr w.heap.size xs j ∧ w.heap.size < wr.heap.size)
  case atStart => exact ⟨0, by omega, rfl, bel1 _ _, OwnSt.start _ _ (size_madeCells _ _), by simp⟩
  case round =>
    obtain ⟨j, hj, rfl, hbel, hst, hz⟩ := hrel
    clear hmk
    by_cases hlt : j < xs.length
    · obtain ⟨b, o, rfl, -, hv0, hv1, hv2, hv3, hsz, sv, hv4, hsl⟩ := hrow j xs[j] (by simp [hlt])
      have hxj : Hid (xs[j]? = some xs[j]) := by show _ = _; simp [hlt]
      generalize xs[j] = x at *
      simp only [Nat.add_zero] at hv0
      have u0 := cell_later hbel hv0
      have u1 := cell_later hbel hv1
      have u2 := cell_later hbel hv2
      have u3 := cell_later hbel hv3
      have u4 := cell_later hbel hv4
      have hsl2 := hsl.later goodI hbel
      obtain ⟨ad2, cap2, rfl, -, -, -, -⟩ := id hsl2
      clear hv0 hv1 hv2 hv3 hv4 hsl hrow
      have hj1 : (j : Int) < (xs.length : Int) := by omega
      have hj0 : (0 : Int) ≤ (j : Int) := by omega
      go_wp2_with fail
      refine (method_any x _ _ (hsl2.later goodI (bel1 _ _))).mono ?_
      rintro e w1 ⟨a', c', rfl, hcv, hb⟩
      have hb0 := hbel
      replace hst := (hst.later goodM (bel1 _ _)).later goodM hb
      replace hbel := nstep1 hbel hb
      have hz1 : wr.heap.size + 1 ≤ w1.heap.size := by have := hb.size; simpa using this
      obtain ⟨⟨cur, k1, k2⟩, k3⟩ := id hst
      have f1 : ∀ o, w1.frozen? ⟨w.heap.size, o, none⟩ = false := fun o => (by simp [World.frozen?, k1])
      have e0 : w1.cell? ⟨w.heap.size, j * 5, none⟩ = some (cur[j * 5]'(by omega)) := (by rw [cell_of_row _ _ _ _ _ _ k1]; simp)
      have e1 : w1.cell? ⟨w.heap.size, j * 5 + 1, none⟩ = some (cur[j * 5 + 1]'(by omega)) := (by rw [cell_of_row _ _ _ _ _ _ k1]; simp)
      have e2 : w1.cell? ⟨w.heap.size, j * 5 + 2, none⟩ = some (cur[j * 5 + 2]'(by omega)) := (by rw [cell_of_row _ _ _ _ _ _ k1]; simp)
      have e3 : w1.cell? ⟨w.heap.size, j * 5 + 3, none⟩ = some (cur[j * 5 + 3]'(by omega)) := (by rw [cell_of_row _ _ _ _ _ _ k1]; simp)
      have e4 : w1.cell? ⟨w.heap.size, j * 5 + 4, none⟩ = some (cur[j * 5 + 4]'(by omega)) := (by rw [cell_of_row _ _ _ _ _ _ k1]; simp)
      go_wp2
      go_roundg (gk - 1)
      case measure => omega
      case rel =>
        refine ⟨j + 1, by omega, by go_num, ((((hbel.setCell (Nat.le_refl _) _).setCell (Nat.le_refl _) _).setCell (Nat.le_refl _) _).setCell (Nat.le_refl _) _).setCell (Nat.le_refl _) _, ?_, by simp; omega⟩
        refine hst.step goodM hxj.out (vs := [.string x.name, .int .i64 x.args, .int .i64 x.temps, .int .i64 x.prim, .slice a' x.code.length c']) rfl ?_
        exact ⟨rfl, rfl, rfl, rfl, hsz, _, rfl, hcv.mono goodI fun b h => ⟨by have := h.1; simp at this; omega, h.2⟩⟩
    · obtain rfl : j = xs.length := by omega
      go_wp2
      go_ret
      exact ⟨_, rfl, hst, Nat.le_refl _, hbel⟩

set_option maxHeartbeats 1000000 in
theorem vown_any {P : Nat → Prop} (hs : List QO) (v : Value) (w : World) (hh : IsHeap P w v hs) : Calls Try.prog 35 #[v] w fun e w' => ∃ g, e = .returned (.slice (some ⟨g, 0, none⟩) hs.length hs.length) ∧ OwnSt ObjC 2 65 w' g hs hs.length ∧ w.heap.size ≤ g ∧ Below w.heap.size w w' := by
  obtain ⟨ad, cap, rfl, hl, hcap, hby, hrow⟩ := hh
  have hmk := make_objs hs.length hby
  go_enter Try.func35, Try.ntmps35
  go_wp2
  go_loopg [11] hs.length (fun g c wr => ∃ j : Nat, j + g = hs.length ∧ c = .int .i64 j ∧ Below w.heap.size w wr ∧ OwnSt ObjC 2 65 wr w.heap.size hs j ∧ w.heap.size < wr.heap.size)
  case atStart => exact ⟨0, by omega, rfl, bel1 _ _, OwnSt.start _ _ (size_madeCells _ _), by simp⟩
  case round =>
    obtain ⟨j, hj, rfl, hbel, hst, hz⟩ := hrel
    clear hmk
    by_cases hlt : j < hs.length
    · obtain ⟨b, o, rfl, -, hv1, sv, hv2, hsl⟩ := hrow j hs[j] (by simp [hlt])
      simp only [Nat.add_zero] at hv1
      have hxj : Hid (hs[j]? = some hs[j]) := by show _ = _; simp [hlt]
      generalize hs[j] = x at *
      have u1 := cell_later hbel hv1
      have u2 := cell_later hbel hv2
      have hsl2 := hsl.later goodV hbel
      obtain ⟨ad2, cap2, rfl, hl2, hcap2, hby2, hrow2⟩ := id hsl2
      clear hv1 hv2 hsl hrow2
      have hj1 : (j : Int) < (hs.length : Int) := by omega
      have hj0 : (0 : Int) ≤ (j : Int) := by omega
      go_wp2
      have hW1 : Below wr.heap.size wr (wr.alloc (Obj.cells #[Value.int IntKind.i64 x.cls, Value.slice ad2 x.slots.length cap2] 65)).drew := (bel1 _ _).drew
      have hIV := hsl2.later goodV hW1
      have hst1 := hst.later goodO hW1
      have hbel1 := hbel.trans (hW1.mono (by omega))
      have c1 : (wr.alloc (Obj.cells #[Value.int IntKind.i64 x.cls, Value.slice ad2 x.slots.length cap2] 65)).drew.cell? ⟨wr.heap.size, 0, none⟩ = some (Value.int IntKind.i64 x.cls) := by simp
      have c2 : (wr.alloc (Obj.cells #[Value.int IntKind.i64 x.cls, Value.slice ad2 x.slots.length cap2] 65)).drew.cell? ⟨wr.heap.size, 1, none⟩ = some (Value.slice ad2 x.slots.length cap2) := by simp
      have hzz : (wr.alloc (Obj.cells #[Value.int IntKind.i64 x.cls, Value.slice ad2 x.slots.length cap2] 65)).drew.heap.size = wr.heap.size + 1 := by simp
      clear hsl2 hst u1 u2 hrow
      go_region_held3 (fun w' => w'.cell? ⟨wr.heap.size, 0, none⟩ = some (Value.int IntKind.i64 x.cls) ∧ w'.cell? ⟨wr.heap.size, 1, none⟩ = some (Value.slice ad2 x.slots.length cap2)) (first | exact ⟨c1, c2⟩ | exact ⟨d1, d2⟩ | exact ⟨(World.cell?_setCell_other _ _ _ _ (by first | (simp; done) | (simp; omega))).trans ((World.cell?_setCell_other _ _ _ _ (by first | (simp; done) | (simp; omega))).trans d1), (World.cell?_setCell_other _ _ _ _ (by first | (simp; done) | (simp; omega))).trans ((World.cell?_setCell_other _ _ _ _ (by first | (simp; done) | (simp; omega))).trans d2)⟩)
        (first | (go_at_call 51; refine (ownSlots_any x.slots _ _ hIV).mono ?_; rintro e w1 ⟨a', c', rfl, hg2, hb1⟩; have hst2 := hst1.later goodO hb1; obtain ⟨⟨cur, k1, k2⟩, k3⟩ := id hst2; have f1 : ∀ o, w1.frozen? ⟨w.heap.size, o, none⟩ = false := fun o => (by simp [World.frozen?, k1]); have d1 := cell_later hb1 c1; have d2 := cell_later hb1 c2; have e1 : w1.cell? ⟨w.heap.size, j * 2, none⟩ = some (cur[j * 2]'(by omega)) := (by rw [cell_of_row _ _ _ _ _ _ k1]; simp); have e2 : w1.cell? ⟨w.heap.size, j * 2 + 1, none⟩ = some (cur[j * 2 + 1]'(by omega)) := (by rw [cell_of_row _ _ _ _ _ _ k1]; simp)))
      go_wp2
      go_roundg (gk - 1)
      case measure => omega
      case rel =>
        have hlt1 : w.heap.size < w1.heap.size := Nat.lt_of_lt_of_le (by omega) hb1.size
        refine ⟨j + 1, by omega, by go_num, ((hbel1.trans (hb1.mono (by omega))).setCell (Nat.le_refl _) _).setCell (Nat.le_refl _) _, ?_, by simp; omega⟩
        refine hst2.step goodO hxj.out (vs := [.int .i64 x.cls, .slice a' x.slots.length c']) rfl ?_
        exact ⟨rfl, _, rfl, hg2.mono goodV fun b h => ⟨by have := h.1; rw [hzz] at this; omega, h.2⟩⟩
    · obtain rfl : j = hs.length := by omega
      go_wp2
      go_ret
      exact ⟨_, rfl, hst, Nat.le_refl _, hbel⟩
end Go.Proofs.Ytahcmmdlggcfbaa
