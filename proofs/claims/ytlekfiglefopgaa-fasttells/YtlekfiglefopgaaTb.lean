/- tally.Own. -/
import Derived.Test.YtlekfiglefopgaaTa
namespace Go.Proofs.Ytlekfiglefopgaa
open Go.ChangeShapes Go.WideShapes Go.ChangeAt Go.RowKit
set_option linter.unusedSimpArgs false
set_option linter.unusedVariables false

theorem info58 : (Try.prog.info? 58).map (fun i => (i.zero, i.size, i.bytes)) = some (some (.agg #[.int .i64 0, .string ⟨#[]⟩, .int .i64 0, .slice none 0 0]), 4, 56) := by kernel_rfl
theorem make_tallies (n : Nat) (hb : n * 56 ≤ 281474976710656) : MadeAt 26 58 #[.int .i64 0, .string ⟨#[]⟩, .int .i64 0, .slice none 0 0] 4 n := fun w => make_big Try.underlying26 info58 (by omega) n hb rfl w

/-- What a row of tallies, of one's own, is, as far as it is done: lines in blocks that rise. -/
structure OwnT (w : World) (B : Nat) (xs : List QT) (j : Nat) (gs : Nat → Nat) : Prop where
  row : ∃ cur : Array Value, w.heap[B]? = some (.cells cur 58 (0, 0)) ∧ cur.size = xs.length * 4
  rise : ∀ i k, i < k → k < j → gs i < gs k
  reach : ∀ i, i < j → B < gs i ∧ gs i < w.heap.size
  lines : ∀ i x, i < j → xs[i]? = some x → OwnSt LineC 2 60 w (gs i) x.lines x.lines.length
  cells : ∀ i x, i < j → xs[i]? = some x → w.cell? ⟨B, i * 4 + 0, none⟩ = some (.int .i64 x.site.cls) ∧ w.cell? ⟨B, i * 4 + 1, none⟩ = some (.string x.site.name) ∧ w.cell? ⟨B, i * 4 + 2, none⟩ = some (.int .i64 x.site.at') ∧ w.cell? ⟨B, i * 4 + 3, none⟩ = some (.slice (some ⟨gs i, 0, none⟩) x.lines.length x.lines.length)

theorem OwnT.later {w w' : World} {B : Nat} {xs : List QT} {j : Nat} {gs : Nat → Nat} (h : OwnT w B xs j gs) (hb : Below w.heap.size w w') : OwnT w' B xs j gs where
  row := by
    obtain ⟨cur, h1, h2⟩ := h.row
    exact ⟨cur, by rw [hb.block _ (blk_lt h1)]; exact h1, h2⟩
  rise := h.rise
  reach := fun i hi => ⟨(h.reach i hi).1, Nat.lt_of_lt_of_le (h.reach i hi).2 hb.size⟩
  lines := fun i x hi hx => (h.lines i x hi hx).later goodL hb
  cells := fun i x hi hx => by
    obtain ⟨h0, h1, h2, h3⟩ := h.cells i x hi hx
    exact ⟨cell_later hb h0, cell_later hb h1, cell_later hb h2, cell_later hb h3⟩
theorem OwnT.start (w : World) (xs : List QT) (c : Array Value) (hc : c.size = xs.length * 4) : OwnT (w.alloc (.cells c 58)) w.heap.size xs 0 (fun _ => 0) :=
  ⟨⟨c, heap_alloc_new w _, hc⟩, fun _ _ _ h => by omega, fun _ h => by omega, fun _ _ h => by omega, fun _ _ h => by omega⟩

theorem OwnSt.ofBlock {α : Type} {E : Lay α} {sz : Nat} (G : Good E sz) {t : TypeId} {w w' : World} {B : Nat} {xs : List α} {j : Nat} (h : OwnSt E sz t w B xs j) (hs : w.heap.size ≤ w'.heap.size) (hb : ∀ b, B ≤ b → b < w.heap.size → w'.heap[b]? = w.heap[b]?) : OwnSt E sz t w' B xs j := by
  obtain ⟨⟨cur, h1, h2⟩, h3⟩ := h
  have hB := blk_lt h1
  refine ⟨⟨cur, by rw [hb _ (Nat.le_refl _) hB]; exact h1, h2⟩, fun i x hi hx => ?_⟩
  refine G.move (h3 i x hi hx) (fun b h => ⟨h.1, by omega⟩) (.of_block fun b h1 h2 => hb b (by omega) h2) fun k hk v hv => ?_
  unfold World.cell? at hv ⊢
  rw [hb _ (Nat.le_refl _) hB]
  exact hv

theorem OwnT.step {w : World} {B : Nat} {xs : List QT} {j : Nat} {gs : Nat → Nat} {x : QT} {g : Nat} (h : OwnT w B xs j gs) (hx : xs[j]? = some x) (hg : ∀ i, i < j → gs i < g) (hB : B < g) (hgl : g < w.heap.size) (hl : OwnSt LineC 2 60 w g x.lines x.lines.length) :
    OwnT (w.setCells B (j * 4) [.int .i64 x.site.cls, .string x.site.name, .int .i64 x.site.at', .slice (some ⟨g, 0, none⟩) x.lines.length x.lines.length]) B xs (j + 1) (fun i => if i = j then g else gs i) := by
  have hj := lt_of_get hx
  obtain ⟨cur, h1, h2⟩ := h.row
  have hz := setCells_size (B := B) [.int .i64 x.site.cls, .string x.site.name, .int .i64 x.site.at', .slice (some ⟨g, 0, none⟩) x.lines.length x.lines.length] (j * 4) w
  have hin := fun k (hk : k < 4) => World.cell?_setCells_in B [.int .i64 x.site.cls, .string x.site.name, .int .i64 x.site.at', .slice (some ⟨g, 0, none⟩) x.lines.length x.lines.length] (j * 4) w (fun q hq => by rw [cell_of_row _ _ _ _ _ _ h1]; simp at hq; simp; omega) k (by simpa using hk)
  have hel : ∀ b, b ≠ B → (w.setCells B (j * 4) [.int .i64 x.site.cls, .string x.site.name, .int .i64 x.site.at', .slice (some ⟨g, 0, none⟩) x.lines.length x.lines.length]).heap[b]? = w.heap[b]? := fun b hb => setCells_else hb _ _ _
  have hout : ∀ i k, i < j → k < 4 → (w.setCells B (j * 4) [.int .i64 x.site.cls, .string x.site.name, .int .i64 x.site.at', .slice (some ⟨g, 0, none⟩) x.lines.length x.lines.length]).cell? ⟨B, i * 4 + k, none⟩ = w.cell? ⟨B, i * 4 + k, none⟩ := fun i k hi hk => by
    rw [World.cell?_setCells_out B _ (j * 4) w _ (fun _ _ => Or.inl ?_)]
    simp; omega
  constructor
  · exact setCells_block _ _ w ⟨cur, h1, h2⟩
  · intro i k hik hk
    by_cases hkj : k = j
    · simp only [hkj, if_true]; rw [if_neg (by omega)]; exact hg i (by omega)
    · rw [if_neg hkj, if_neg (by omega)]; exact h.rise i k hik (by omega)
  · intro i hi
    rw [hz]
    by_cases hij : i = j
    · simp only [hij, if_true]; exact ⟨hB, hgl⟩
    · rw [if_neg hij]; exact h.reach i (by omega)
  · intro i y hi hy
    by_cases hij : i = j
    · subst hij
      rw [hx] at hy; cases hy
      simp only [if_true]
      exact hl.ofBlock goodL (by rw [hz]; exact Nat.le_refl _) fun b hb _ => hel b (by omega)
    · rw [if_neg hij]
      have hr := (h.reach i (by omega)).1
      exact (h.lines i y (by omega) hy).ofBlock goodL (by rw [hz]; exact Nat.le_refl _) fun b hb _ => hel b (by omega)
  · intro i y hi hy
    by_cases hij : i = j
    · subst hij
      rw [hx] at hy; cases hy
      simp only [if_true]
      exact ⟨hin 0 (by omega), hin 1 (by omega), hin 2 (by omega), hin 3 (by omega)⟩
    · rw [if_neg hij, hout i 0 (by omega) (by omega), hout i 1 (by omega) (by omega), hout i 2 (by omega) (by omega), hout i 3 (by omega) (by omega)]
      exact h.cells i y (by omega) hy

/-- A row of one's own is one. -/
theorem OwnSt.isLines {w : World} {g : Nat} {ls : List QL} (h : OwnSt LineC 2 60 w g ls ls.length) (hm : ls.length ≤ maxLen) {P : Nat → Prop} (hP : P g) : IsLines P w (.slice (some ⟨g, 0, none⟩) ls.length ls.length) ls := by
  obtain ⟨⟨cur, h1, h2⟩, h3⟩ := h
  refine ⟨_, _, rfl, Nat.le_refl _, hm, by simp, fun i x hx => ⟨g, 0, rfl, hP, ?_⟩⟩
  have := h3 i x (lt_of_get hx) hx
  simp only [Nat.zero_add]
  exact this
theorem OwnT.tallies {w : World} {B : Nat} {xs : List QT} {gs : Nat → Nat} (h : OwnT w B xs xs.length gs) (hm : xs.length ≤ maxLen) (hl : ∀ x ∈ xs, x.lines.length ≤ maxLen) {P : Nat → Prop} (hP : ∀ b, B ≤ b → b < w.heap.size → P b) : IsTallies P w (.slice (some ⟨B, 0, none⟩) xs.length xs.length) xs := by
  obtain ⟨cur, h1, h2⟩ := h.row
  refine ⟨_, _, rfl, Nat.le_refl _, hm, by simp, fun i x hx => ⟨B, 0, rfl, hP _ (Nat.le_refl _) (blk_lt h1), ?_⟩⟩
  have hi := lt_of_get hx
  obtain ⟨c0, c1, c2, c3⟩ := h.cells i x hi hx
  have hr := h.reach i hi
  simp only [Nat.zero_add]
  exact ⟨c0, c1, c2, _, c3, (h.lines i x hi hx).isLines (hl x (List.mem_of_getElem? hx)) (hP _ (by omega) hr.2)⟩

/-- A tally's cells, in a block of their own. -/
structure BoxT (w : World) (b : Nat) (x : QT) (lv : Value) : Prop where
  c0 : w.cell? ⟨b, 0, none⟩ = some (.int .i64 x.site.cls)
  c1 : w.cell? ⟨b, 1, none⟩ = some (.string x.site.name)
  c2 : w.cell? ⟨b, 2, none⟩ = some (.int .i64 x.site.at')
  c3 : w.cell? ⟨b, 3, none⟩ = some lv
theorem BoxT.later {w w' : World} {b : Nat} {x : QT} {lv : Value} (h : BoxT w b x lv) (hb : Below w.heap.size w w') : BoxT w' b x lv := ⟨cell_later hb h.c0, cell_later hb h.c1, cell_later hb h.c2, cell_later hb h.c3⟩
theorem BoxT.set {w : World} {b : Nat} {x : QT} {lv : Value} (h : BoxT w b x lv) {a : Addr} (ha : b ≠ a.block) (u : Value) : BoxT (w.setCell a u) b x lv := by
  have hn : ∀ k, a ≠ (⟨b, k, none⟩ : Addr) := fun k e => ha (by rw [e])
  exact ⟨by rw [World.cell?_setCell_other _ _ _ _ (hn 0)]; exact h.c0, by rw [World.cell?_setCell_other _ _ _ _ (hn 1)]; exact h.c1, by rw [World.cell?_setCell_other _ _ _ _ (hn 2)]; exact h.c2, by rw [World.cell?_setCell_other _ _ _ _ (hn 3)]; exact h.c3⟩
theorem BoxT.all {w : World} {b : Nat} {x : QT} {lv : Value} (h : BoxT w b x lv) : w.cell? ⟨b, 0, none⟩ = some (.int .i64 x.site.cls) ∧ w.cell? ⟨b, 1, none⟩ = some (.string x.site.name) ∧ w.cell? ⟨b, 2, none⟩ = some (.int .i64 x.site.at') ∧ w.cell? ⟨b, 3, none⟩ = some lv := ⟨h.c0, h.c1, h.c2, h.c3⟩
theorem boxT_new (w : World) (x : QT) (lv : Value) (t : TypeId) : BoxT (w.alloc (.cells #[.int .i64 x.site.cls, .string x.site.name, .int .i64 x.site.at', lv] t)) w.heap.size x lv := ⟨by rw [cell_new _ _ _ _ rfl]; rfl, by rw [cell_new _ _ _ _ rfl]; rfl, by rw [cell_new _ _ _ _ rfl]; rfl, by rw [cell_new _ _ _ _ rfl]; rfl⟩

end Go.Proofs.Ytlekfiglefopgaa
