/- Own: a copy of a world. -/
import Derived.Test.YtjmidhghiahbaaaGreatDoorCb
namespace Go.Proofs.YtjmidhghiahbaaaGreatDoor
open Go.ChangeShapes Go.WideShapes Go.ChangeAt Go.RowKit
set_option linter.unusedSimpArgs false
set_option linter.unusedVariables false

abbrev WV (cv hv : Value) (e : Int) : Value := .agg #[cv, hv, .int .i64 e]

/-- A class as it was copied: its methods' row at block g, all that it reaches in blocks from lo on, below hi. -/
def OwnK (w : World) (B i lo hi : Nat) (x : QC) : Prop :=
  w.cell? ⟨B, i * 4, none⟩ = some (.string x.name) ∧ w.cell? ⟨B, i * 4 + 1, none⟩ = some (.int .i64 x.super) ∧ w.cell? ⟨B, i * 4 + 2, none⟩ = some (.int .i64 x.slots) ∧ x.name.size ≤ 140737488351232 ∧
    ∃ g, w.cell? ⟨B, i * 4 + 3, none⟩ = some (.slice (some ⟨g, 0, none⟩) x.methods.length x.methods.length) ∧ lo ≤ g ∧ g < hi ∧ x.methods.length * 64 ≤ 140737488351232 ∧
      ∃ cur : Array Value, w.heap[g]? = some (.cells cur 43 (0, 0)) ∧ Cells MethC 5 (fun b => g < b ∧ b < hi) w cur.toList x.methods
/-- So many classes are copied into the row at block B. -/
def OwnC (w : World) (B : Nat) (xs : List QC) (s : Nat → Nat) (j : Nat) : Prop :=
  (∃ cur : Array Value, w.heap[B]? = some (.cells cur 38 (0, 0)) ∧ cur.size = xs.length * 4) ∧ B < s 0 ∧ (∀ i, i < j → s i ≤ s (i + 1)) ∧ s j ≤ w.heap.size ∧
    ∀ i x, i < j → xs[i]? = some x → OwnK w B i (s i) (s (i + 1)) x

theorem OwnK.later {w w' : World} {B i lo hi : Nat} {x : QC} (h : OwnK w B i lo hi x) (hb : Below w.heap.size w w') : OwnK w' B i lo hi x := by
  obtain ⟨h0, h1, h2, h3, g, h4, h5, h6, h7, cur, h8, h9⟩ := h
  exact ⟨cell_later hb h0, cell_later hb h1, cell_later hb h2, h3, g, cell_later hb h4, h5, h6, h7, cur, by rw [hb.block _ (blk_lt h8)]; exact h8, h9.later goodM hb⟩
theorem OwnC.later {w w' : World} {B : Nat} {xs : List QC} {s : Nat → Nat} {j : Nat} (h : OwnC w B xs s j) (hb : Below w.heap.size w w') : OwnC w' B xs s j := by
  obtain ⟨⟨cur, h1, h2⟩, h3, h4, h5, h6⟩ := h
  exact ⟨⟨cur, by rw [hb.block _ (blk_lt h1)]; exact h1, h2⟩, h3, h4, Nat.le_trans h5 hb.size, fun i x hi hx => (h6 i x hi hx).later hb⟩
theorem OwnC.step {w : World} {B : Nat} {xs : List QC} {s : Nat → Nat} {j g : Nat} {x : QC} (h : OwnC w B xs s j) (hx : xs[j]? = some x) (hn : x.name.size ≤ 140737488351232) (hg : s j ≤ g) (hM : OwnSt MethC 5 43 w g x.methods x.methods.length) (hby : x.methods.length * 64 ≤ 140737488351232) :
    ∃ s', OwnC (w.setCells B (j * 4) [.string x.name, .int .i64 x.super, .int .i64 x.slots, .slice (some ⟨g, 0, none⟩) x.methods.length x.methods.length]) B xs s' (j + 1) := by
  obtain ⟨⟨cur, h1, h2⟩, h3, h4, h5, h6⟩ := h
  have hj := lt_of_get hx
  obtain ⟨curg, hc1, hc2⟩ := hM.cells goodM
  have hgl := blk_lt hc1
  have hsm : ∀ i, i ≤ j → s 0 ≤ s i := fun i => by
    induction i with
    | zero => intro _; exact Nat.le_refl _
    | succ n ih => intro hi; exact Nat.le_trans (ih (by omega)) (h4 n (by omega))
  have hBj := hsm j (Nat.le_refl _)
  have hnn : ¬ (j + 1 ≤ j) := by omega
  refine ⟨fun i => if i ≤ j then s i else w.heap.size, setCells_block _ _ w ⟨cur, h1, h2⟩, by simpa using h3, ?_, ?_, ?_⟩
  · intro i hi
    by_cases hij : i = j
    · subst hij; simp [hnn]; exact h5
    · have h1 : i ≤ j := by omega
      have h2 : i + 1 ≤ j := by omega
      simp only [h1, h2, if_true]
      exact h4 i (by omega)
  · simp [setCells_size, hnn]
  · intro i y hi hy
    have hin : j * 4 + 4 ≤ xs.length * 4 := by omega
    by_cases hij : i = j
    · subst hij
      rw [hx] at hy
      cases hy
      have hc := fun k (hk : k < 4) => World.cell?_setCells_in B [.string x.name, .int .i64 x.super, .int .i64 x.slots, .slice (some ⟨g, 0, none⟩) x.methods.length x.methods.length] (i * 4) w (fun q hq => by rw [cell_of_row _ _ _ _ _ _ h1]; simp at hq ⊢; omega) k hk
      refine ⟨hc 0 (by omega), hc 1 (by omega), hc 2 (by omega), hn, g, hc 3 (by omega), by simpa using hg, by simpa [hnn] using hgl, hby, curg, ?_, ?_⟩
      · rw [setCells_else (by omega)]; exact hc1
      · refine hc2.keep goodM (Keeps.of_block fun b hb _ => setCells_else (by have := hb.1; omega) _ _ _) fun b hb => ⟨hb.1, by simpa [hnn] using hb.2⟩
    · obtain ⟨e0, e1, e2, e3, g', e4, e5, e6, e7, cur', e8, e9⟩ := h6 i y (by omega) hy
      have hi1 : i ≤ j := by omega
      have hi2 : i + 1 ≤ j := by omega
      have hs0 := hsm i hi1
      simp only [hi1, hi2, if_true]
      have ho := fun k (hk : k < 4) => World.cell?_setCells_out B [.string x.name, .int .i64 x.super, .int .i64 x.slots, .slice (some ⟨g, 0, none⟩) x.methods.length x.methods.length] (j * 4) w ⟨B, i * 4 + k, none⟩ (fun _ _ => Or.inl (by simp; omega))
      refine ⟨(ho 0 (by omega)).trans e0, (ho 1 (by omega)).trans e1, (ho 2 (by omega)).trans e2, e3, g', (ho 3 (by omega)).trans e4, e5, e6, e7, cur', ?_, ?_⟩
      · rw [setCells_else (by omega)]; exact e8
      · exact e9.keep goodM (Keeps.of_block fun b hb _ => setCells_else (by have := hb.1; omega) _ _ _) fun b hb => hb
theorem OwnC.mono {w : World} {B : Nat} {xs : List QC} {s : Nat → Nat} {n : Nat} (h : OwnC w B xs s n) : ∀ i j, i ≤ j → j ≤ n → s i ≤ s j := fun i j hij hj => by
  obtain ⟨-, -, h4, -, -⟩ := h
  obtain ⟨d, rfl⟩ : ∃ d, j = i + d := ⟨j - i, by omega⟩
  clear hij
  induction d with
  | zero => exact Nat.le_refl _
  | succ d ih => exact Nat.le_trans (ih (by omega)) (h4 (i + d) (by omega))
theorem OwnK.meths {w : World} {B i lo hi : Nat} {x : QC} (h : OwnK w B i lo hi x) : ∃ g, w.cell? ⟨B, i * 4 + 3, none⟩ = some (.slice (some ⟨g, 0, none⟩) x.methods.length x.methods.length) ∧ lo ≤ g ∧ IsMeths (fun b => lo ≤ b ∧ b < hi) w (.slice (some ⟨g, 0, none⟩) x.methods.length x.methods.length) x.methods := by
  obtain ⟨h0, h1, h2, h3, g, h4, h5, h6, h7, cur, h8, h9⟩ := h
  refine ⟨g, h4, h5, Cells.row (h9.keep goodM (.refl _ _) fun b hb => ⟨by have := hb.1; omega, hb.2⟩) goodM ⟨h5, h6⟩ h8 ?_ (Nat.le_refl _) (by unfold maxLen; omega) h7⟩
  rw [List.take_of_length_le]
  rw [h9.1]
  exact Nat.le_refl _
theorem OwnC.row {w : World} {B : Nat} {xs : List QC} {s : Nat → Nat} (h : OwnC w B xs s xs.length) (hby : xs.length * 56 ≤ 140737488351232) : IsClasses (fun b => B ≤ b ∧ b < w.heap.size) w (.slice (some ⟨B, 0, none⟩) xs.length xs.length) xs := by
  refine ⟨_, _, rfl, Nat.le_refl _, by unfold maxLen; omega, hby, fun i x hx => ⟨B, 0, rfl, ⟨Nat.le_refl _, by obtain ⟨⟨c, hc, -⟩, -⟩ := h; exact blk_lt hc⟩, ?_⟩⟩
  have hi := lt_of_get hx
  have hn := h.mono (i + 1) xs.length (by omega) (Nat.le_refl _)
  have hw := h.2.2.2.1
  have hk := h.2.2.2.2 i x hi hx
  have hm := h.mono 0 i (by omega) (by omega)
  have hB := h.2.1
  obtain ⟨g, hg, hlo, hM⟩ := hk.meths
  obtain ⟨h0, h1, h2, h3, -⟩ := hk
  simp only [Nat.zero_add]
  exact ⟨h0, h1, h2, h3, _, hg, hM.mono goodM fun b hb => ⟨by have := hb.1; omega, by have := hb.2; omega⟩⟩
theorem OwnC.start (w : World) (xs : List QC) (c : Array Value) (hc : c.size = xs.length * 4) : OwnC (w.alloc (.cells c 38)) w.heap.size xs (fun _ => w.heap.size + 1) 0 :=
  ⟨⟨c, heap_alloc_new w _, hc⟩, by simp, fun i hi => by omega, by simp, fun i x hi _ => by omega⟩

theorem OwnK.set {w : World} {B i lo hi d : Nat} {x : QC} (h : OwnK w B i lo hi x) (hd : d ≠ B) (hh : hi ≤ d) (o : Nat) (v : Value) : OwnK (w.setCell ⟨d, o, none⟩ v) B i lo hi x := by
  obtain ⟨h0, h1, h2, h3, g, h4, h5, h6, h7, cur, h8, h9⟩ := h
  have k := fun (o' : Nat) => World.cell?_setCell_far w ⟨d, o, none⟩ ⟨B, o', none⟩ v hd
  refine ⟨(k _).trans h0, (k _).trans h1, (k _).trans h2, h3, g, (k _).trans h4, h5, h6, h7, cur, by rw [setCell_else (by omega)]; exact h8, h9.keep goodM (Keeps.of_setCell (fun hp => ?_) _) fun _ h => h⟩
  have := hp.2
  simp at this
  omega
theorem OwnC.set {w : World} {B d : Nat} {xs : List QC} {s : Nat → Nat} {j : Nat} (h : OwnC w B xs s j) (hd : s j ≤ d) (o : Nat) (v : Value) : OwnC (w.setCell ⟨d, o, none⟩ v) B xs s j := by
  have hm := h.mono
  obtain ⟨⟨cur, h1, h2⟩, h3, h4, h5, h6⟩ := h
  have h0 := hm 0 j (by omega) (Nat.le_refl _)
  refine ⟨⟨cur, by rw [setCell_else (by omega)]; exact h1, h2⟩, h3, h4, by simpa using h5, fun i x hi hx => (h6 i x hi hx).set (by omega) ?_ o v⟩
  have := hm (i + 1) j (by omega) (Nat.le_refl _)
  omega
theorem OwnC.setLow {w : World} {B d : Nat} {xs : List QC} {s : Nat → Nat} {j : Nat} (h : OwnC w B xs s j) (hd : d < B) (o : Nat) (v : Value) : OwnC (w.setCell ⟨d, o, none⟩ v) B xs s j := by
  have hm := h.mono
  obtain ⟨⟨cur, h1, h2⟩, h3, h4, h5, h6⟩ := h
  refine ⟨⟨cur, by rw [setCell_else (by omega)]; exact h1, h2⟩, h3, h4, by simpa using h5, fun i x hi hx => ?_⟩
  have h0 := hm 0 i (by omega) (by omega)
  obtain ⟨h0, h1, h2, h3, g, h4, h5, h6, h7, cur, h8, h9⟩ := h6 i x hi hx
  have k := fun (o' : Nat) => World.cell?_setCell_far w ⟨d, o, none⟩ ⟨B, o', none⟩ v (by simp; omega)
  refine ⟨(k _).trans h0, (k _).trans h1, (k _).trans h2, h3, g, (k _).trans h4, h5, h6, h7, cur, by rw [setCell_else (by omega)]; exact h8, h9.keep goodM (Keeps.of_setCell (fun hp => ?_) _) fun _ h => h⟩
  have := hp.1
  simp at this
  omega
theorem OwnSt.set {α : Type} {E : Lay α} {sz : Nat} {t : TypeId} {w : World} {B d : Nat} {xs : List α} {j : Nat} (h : OwnSt E sz t w B xs j) (G : Good E sz) (hd : d < B) (o : Nat) (v : Value) : OwnSt E sz t (w.setCell ⟨d, o, none⟩ v) B xs j := by
  obtain ⟨⟨cur, h1, h2⟩, h3⟩ := h
  refine ⟨⟨cur, by rw [setCell_else (by omega)]; exact h1, h2⟩, fun i x hi hx => G.move (h3 i x hi hx) (fun b h => by simpa using h) (Keeps.of_setCell (fun hp => ?_) _) fun k _ u hu => ?_⟩
  · have := hp.1; simp at this; omega
  · rw [World.cell?_setCell_far _ _ _ _ (by simp; omega)]; exact hu

theorem IsRow.blkCells {α : Type} {E : Lay α} {sz bytes : Nat} {P : Nat → Prop} {w : World} {g n cap : Nat} {xs : List α} (h : IsRow E sz bytes P w (.slice (some ⟨g, 0, none⟩) n cap) xs) (G : Good E sz) {t : TypeId} {fr : Nat × Nat} {cur : Array Value} (hg : w.heap[g]? = some (.cells cur t fr)) (hl : cur.size = xs.length * sz) : Cells E sz P w cur.toList xs := by
  obtain ⟨ad, cap', e, -, -, -, hr⟩ := h
  simp only [Value.slice.injEq] at e
  obtain ⟨rfl, -, rfl⟩ := e
  refine ⟨by simpa using hl, fun i x hx => ?_⟩
  obtain ⟨b, o, e, -, hE⟩ := hr i x hx
  cases e
  exact G.move hE (fun _ h => h) (.refl _ _) fun k _ v hv => by rw [cell_of_row _ _ _ _ _ _ hg, Nat.zero_add] at hv; simpa using hv

end Go.Proofs.YtjmidhghiahbaaaGreatDoor
