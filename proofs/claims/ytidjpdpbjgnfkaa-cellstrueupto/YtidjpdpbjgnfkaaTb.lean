/- tally.Own. -/
import Derived.Test.YtidjpdpbjgnfkaaTa
namespace Go.Proofs.Ytidjpdpbjgnfkaa
open Go.ChangeShapes Go.WideShapes Go.ChangeAt Go.RowKit
set_option linter.unusedSimpArgs false
set_option linter.unusedVariables false

theorem info53 : (Try.prog.info? 53).map (fun i => (i.zero, i.size, i.bytes)) = some (some (.agg #[.int .i64 0, .string ⟨#[]⟩, .int .i64 0, .slice none 0 0]), 4, 56) := by kernel_rfl
theorem make_tallies (n : Nat) (hb : n * 56 ≤ 281474976710656) : MadeAt 51 53 #[.int .i64 0, .string ⟨#[]⟩, .int .i64 0, .slice none 0 0] 4 n := fun w => make_big Try.underlying51 info53 (by omega) n hb rfl w

/-- What a row of tallies, of one's own, is, as far as it is done: lines in blocks that rise. -/
structure OwnT (w : World) (B : Nat) (xs : List QT) (j : Nat) (gs : Nat → Nat) : Prop where
  row : ∃ cur : Array Value, w.heap[B]? = some (.cells cur 53 (0, 0)) ∧ cur.size = xs.length * 4
  rise : ∀ i k, i < k → k < j → gs i < gs k
  reach : ∀ i, i < j → B < gs i ∧ gs i < w.heap.size
  lines : ∀ i x, i < j → xs[i]? = some x → OwnSt LineC 2 55 w (gs i) x.lines x.lines.length
  cells : ∀ i x, i < j → xs[i]? = some x → w.cell? ⟨B, i * 4 + 0, none⟩ = some (.int .i64 x.site.cls) ∧ w.cell? ⟨B, i * 4 + 1, none⟩ = some (.string x.site.name) ∧ w.cell? ⟨B, i * 4 + 2, none⟩ = some (.int .i64 x.site.at') ∧ w.cell? ⟨B, i * 4 + 3, none⟩ = some (.slice (some ⟨gs i, 0, none⟩) x.lines.length x.lines.length)

theorem OwnT.later {w w' : World} {B : Nat} {xs : List QT} {j : Nat} {gs : Nat → Nat} (h : OwnT w B xs j gs) (hb : Below w.heap.size w w') : OwnT w' B xs j gs where
  row := by
    obtain ⟨cur, h1, h2⟩ := h.row
    exact ⟨cur, by rw [hb.block _ (blk_lt h1)]; exact h1, h2⟩
  rise := h.rise
  reach := fun i hi => ⟨(h.reach i hi).1, Nat.lt_of_lt_of_le (h.reach i hi).2 hb.size⟩
  lines := fun i x hi hx => (h.lines i x hi hx).later goodL hb
  cells := fun i x hi hx => by
    obtain ⟨h0, h1, h2, h3⟩ := h.cells i x hi hx
    exact ⟨cell_later hb h0, cell_later hb h1, cell_later hb h2, cell_later hb h3⟩
theorem OwnT.start (w : World) (xs : List QT) (c : Array Value) (hc : c.size = xs.length * 4) : OwnT (w.alloc (.cells c 53)) w.heap.size xs 0 (fun _ => 0) :=
  ⟨⟨c, heap_alloc_new w _, hc⟩, fun _ _ _ h => by omega, fun _ h => by omega, fun _ _ h => by omega, fun _ _ h => by omega⟩

theorem OwnSt.ofBlock {α : Type} {E : Lay α} {sz : Nat} (G : Good E sz) {t : TypeId} {w w' : World} {B : Nat} {xs : List α} {j : Nat} (h : OwnSt E sz t w B xs j) (hs : w.heap.size ≤ w'.heap.size) (hb : ∀ b, B ≤ b → b < w.heap.size → w'.heap[b]? = w.heap[b]?) : OwnSt E sz t w' B xs j := by
  obtain ⟨⟨cur, h1, h2⟩, h3⟩ := h
  have hB := blk_lt h1
  refine ⟨⟨cur, by rw [hb _ (Nat.le_refl _) hB]; exact h1, h2⟩, fun i x hi hx => ?_⟩
  refine G.move (h3 i x hi hx) (fun b h => ⟨h.1, by omega⟩) (.of_block fun b h1 h2 => hb b (by omega) h2) fun k hk v hv => ?_
  unfold World.cell? at hv ⊢
  rw [hb _ (Nat.le_refl _) hB]
  exact hv

theorem OwnT.step {w : World} {B : Nat} {xs : List QT} {j : Nat} {gs : Nat → Nat} {x : QT} {g : Nat} (h : OwnT w B xs j gs) (hx : xs[j]? = some x) (hg : ∀ i, i < j → gs i < g) (hB : B < g) (hgl : g < w.heap.size) (hl : OwnSt LineC 2 55 w g x.lines x.lines.length) :
    OwnT (w.setCells B (j * 4) [.int .i64 x.site.cls, .string x.site.name, .int .i64 x.site.at', .slice (some ⟨g, 0, none⟩) x.lines.length x.lines.length]) B xs (j + 1) (fun i => if i = j then g else gs i) := by
  have hj := lt_of_get hx
  obtain ⟨cur, h1, h2⟩ := h.row
  have hz := setCells_size (B := B) [.int .i64 x.site.cls, .string x.site.name, .int .i64 x.site.at', .slice (some ⟨g, 0, none⟩) x.lines.length x.lines.length] (j * 4) w
  have hin := fun k (hk : k < 4) => World.cell?_setCells_in B [.int .i64 x.site.cls, .string x.site.name, .int .i64 x.site.at', .slice (some ⟨g, 0, none⟩) x.lines.length x.lines.length] (j * 4) w (fun q hq => by rw [cell_of_row _ _ _ _ _ _ h1]; simp at hq; simp; omega) k (by simpa using hk)
  have hel : ∀ b, b ≠ B → (w.setCells B (j * 4) [.int .i64 x.site.cls, .string x.site.name, .int .i64 x.site.at', .slice (some ⟨g, 0, none⟩) x.lines.length x.lines.length]).heap[b]? = w.heap[b]? := fun b hb => setCells_else hb _ _ _
  have hout : ∀ i k, i < j → k < 4 → (w.setCells B (j * 4) [.int .i64 x.site.cls, .string x.site.name, .int .i64 x.site.at', .slice (some ⟨g, 0, none⟩) x.lines.length x.lines.length]).cell? ⟨B, i * 4 + k, none⟩ = w.cell? ⟨B, i * 4 + k, none⟩ := fun i k hi hk => by
    rw [World.cell?_setCells_out B _ (j * 4) w _ (fun _ _ => Or.inl ?_)]
    simp; omega
  constructor
  · exact setCells_block _ _ w ⟨cur, h1, h2⟩
  · intro i k hik hk
    by_cases hkj : k = j
    · simp only [hkj, if_true]; rw [if_neg (by omega)]; exact hg i (by omega)
    · rw [if_neg hkj, if_neg (by omega)]; exact h.rise i k hik (by omega)
  · intro i hi
    rw [hz]
    by_cases hij : i = j
    · simp only [hij, if_true]; exact ⟨hB, hgl⟩
    · rw [if_neg hij]; exact h.reach i (by omega)
  · intro i y hi hy
    by_cases hij : i = j
    · subst hij
      rw [hx] at hy; cases hy
      simp only [if_true]
      exact hl.ofBlock goodL (by rw [hz]; exact Nat.le_refl _) fun b hb _ => hel b (by omega)
    · rw [if_neg hij]
      have hr := (h.reach i (by omega)).1
      exact (h.lines i y (by omega) hy).ofBlock goodL (by rw [hz]; exact Nat.le_refl _) fun b hb _ => hel b (by omega)
  · intro i y hi hy
    by_cases hij : i = j
    · subst hij
      rw [hx] at hy; cases hy
      simp only [if_true]
      exact ⟨hin 0 (by omega), hin 1 (by omega), hin 2 (by omega), hin 3 (by omega)⟩
    · rw [if_neg hij, hout i 0 (by omega) (by omega), hout i 1 (by omega) (by omega), hout i 2 (by omega) (by omega), hout i 3 (by omega) (by omega)]
      exact h.cells i y (by omega) hy

/-- A row of one's own is one. -/
theorem OwnSt.isLines {w : World} {g : Nat} {ls : List QL} (h : OwnSt LineC 2 55 w g ls ls.length) (hm : ls.length ≤ maxLen) {P : Nat → Prop} (hP : P g) : IsLines P w (.slice (some ⟨g, 0, none⟩) ls.length ls.length) ls := by
  obtain ⟨⟨cur, h1, h2⟩, h3⟩ := h
  refine ⟨_, _, rfl, Nat.le_refl _, hm, by simp, fun i x hx => ⟨g, 0, rfl, hP, ?_⟩⟩
  have := h3 i x (lt_of_get hx) hx
  simp only [Nat.zero_add]
  exact this
theorem OwnT.tallies {w : World} {B : Nat} {xs : List QT} {gs : Nat → Nat} (h : OwnT w B xs xs.length gs) (hm : xs.length ≤ maxLen) (hl : ∀ x ∈ xs, x.lines.length ≤ maxLen) {P : Nat → Prop} (hP : ∀ b, B ≤ b → b < w.heap.size → P b) : IsTallies P w (.slice (some ⟨B, 0, none⟩) xs.length xs.length) xs := by
  obtain ⟨cur, h1, h2⟩ := h.row
  refine ⟨_, _, rfl, Nat.le_refl _, hm, by simp, fun i x hx => ⟨B, 0, rfl, hP _ (Nat.le_refl _) (blk_lt h1), ?_⟩⟩
  have hi := lt_of_get hx
  obtain ⟨c0, c1, c2, c3⟩ := h.cells i x hi hx
  have hr := h.reach i hi
  simp only [Nat.zero_add]
  exact ⟨c0, c1, c2, _, c3, (h.lines i x hi hx).isLines (hl x (List.mem_of_getElem? hx)) (hP _ (by omega) hr.2)⟩

/-- A tally's cells, in a block of their own. -/
structure BoxT (w : World) (b : Nat) (x : QT) (lv : Value) : Prop where
  c0 : w.cell? ⟨b, 0, none⟩ = some (.int .i64 x.site.cls)
  c1 : w.cell? ⟨b, 1, none⟩ = some (.string x.site.name)
  c2 : w.cell? ⟨b, 2, none⟩ = some (.int .i64 x.site.at')
  c3 : w.cell? ⟨b, 3, none⟩ = some lv
theorem BoxT.later {w w' : World} {b : Nat} {x : QT} {lv : Value} (h : BoxT w b x lv) (hb : Below w.heap.size w w') : BoxT w' b x lv := ⟨cell_later hb h.c0, cell_later hb h.c1, cell_later hb h.c2, cell_later hb h.c3⟩
theorem BoxT.set {w : World} {b : Nat} {x : QT} {lv : Value} (h : BoxT w b x lv) {a : Addr} (ha : b ≠ a.block) (u : Value) : BoxT (w.setCell a u) b x lv := by
  have hn : ∀ k, a ≠ (⟨b, k, none⟩ : Addr) := fun k e => ha (by rw [e])
  exact ⟨by rw [World.cell?_setCell_other _ _ _ _ (hn 0)]; exact h.c0, by rw [World.cell?_setCell_other _ _ _ _ (hn 1)]; exact h.c1, by rw [World.cell?_setCell_other _ _ _ _ (hn 2)]; exact h.c2, by rw [World.cell?_setCell_other _ _ _ _ (hn 3)]; exact h.c3⟩
theorem BoxT.all {w : World} {b : Nat} {x : QT} {lv : Value} (h : BoxT w b x lv) : w.cell? ⟨b, 0, none⟩ = some (.int .i64 x.site.cls) ∧ w.cell? ⟨b, 1, none⟩ = some (.string x.site.name) ∧ w.cell? ⟨b, 2, none⟩ = some (.int .i64 x.site.at') ∧ w.cell? ⟨b, 3, none⟩ = some lv := ⟨h.c0, h.c1, h.c2, h.c3⟩
theorem boxT_new (w : World) (x : QT) (lv : Value) (t : TypeId) : BoxT (w.alloc (.cells #[.int .i64 x.site.cls, .string x.site.name, .int .i64 x.site.at', lv] t)) w.heap.size x lv := ⟨by rw [cell_new _ _ _ _ rfl]; rfl, by rw [cell_new _ _ _ _ rfl]; rfl, by rw [cell_new _ _ _ _ rfl]; rfl, by rw [cell_new _ _ _ _ rfl]; rfl⟩

set_option maxHeartbeats 1000000 in
theorem towns_any {P : Nat → Prop} (xs : List QT) (v : Value) (w : World) (hh : IsTallies P w v xs) (hby : xs.length * 56 ≤ 281474976710656) (hls : ∀ x ∈ xs, x.lines.length * 16 ≤ 281474976710656) : Calls Try.prog 25 #[v] w fun e w' => ∃ g gs, e = .returned (.slice (some ⟨g, 0, none⟩) xs.length xs.length) ∧ OwnT w' g xs xs.length gs ∧ w.heap.size ≤ g ∧ Below w.heap.size w w' := by
  obtain ⟨ad, cap, rfl, hl, hcap, -, hrow⟩ := hh
  have hmk := make_tallies xs.length hby
  go_enter Try.func25, Try.ntmps25
  go_wp2
  go_loopg [11] xs.length (fun g c wr => ∃ (j : Nat) (gs : Nat → Nat), j + g = xs.length ∧ c = .int .i64 j ∧ Below w.heap.size w wr ∧ OwnT wr w.heap.size xs j gs ∧ w.heap.size < wr.heap.size)
  case atStart => exact ⟨0, _, by omega, rfl, bel1 _ _, OwnT.start _ _ _ (size_madeCells _ _), by simp⟩
  case round =>
    obtain ⟨j, gs, hj, rfl, hbel, hst, hz⟩ := hrel
    clear hmk
    by_cases hlt : j < xs.length
    · obtain ⟨b, o, rfl, -, hv0, hv1, hv2, sv, hv3, hsl⟩ := hrow j xs[j] (by simp [hlt])
      have hxj : Hid (xs[j]? = some xs[j]) := by show _ = _; simp [hlt]
      have hlj := hls xs[j] (by simp)
      generalize xs[j] = x at *
      simp only [Nat.add_zero] at hv0
      have u0 := cell_later hbel hv0
      have u1 := cell_later hbel hv1
      have u2 := cell_later hbel hv2
      have u3 := cell_later hbel hv3
      have hsl2 := hsl.later goodL hbel
      obtain ⟨ad2, cap2, rfl, -, -, -, -⟩ := id hsl2
      clear hv0 hv1 hv2 hv3 hsl hrow
      have hj1 : (j : Int) < (xs.length : Int) := by omega
      have hj0 : (0 : Int) ≤ (j : Int) := by omega
      go_wp2
      have hbx := (boxT_new wr x (.slice ad2 x.lines.length cap2) 53)
      have hW1 := bel1 wr (Obj.cells #[Value.int IntKind.i64 x.site.cls, Value.string x.site.name, Value.int IntKind.i64 x.site.at', Value.slice ad2 x.lines.length cap2] 53)
      have hIV := hsl2.later goodL hW1
      have hst1 := hst.later hW1
      have hbel1 := hbel.trans (hW1.mono (by omega))
      have hzz : (wr.alloc (Obj.cells #[Value.int IntKind.i64 x.site.cls, Value.string x.site.name, Value.int IntKind.i64 x.site.at', Value.slice ad2 x.lines.length cap2] 53)).heap.size = wr.heap.size + 1 := by simp
      have hreach := hst.reach
      clear hsl2 hst u0 u1 u2 u3
      generalize (wr.alloc (Obj.cells #[Value.int IntKind.i64 x.site.cls, Value.string x.site.name, Value.int IntKind.i64 x.site.at', Value.slice ad2 x.lines.length cap2] 53)) = W1 at *
      generalize wr.heap.size = B1 at *
      have hbx1 := hbx.later (Below.refl _ W1).drew
      have c0 := hbx1.c0
      have c1 := hbx1.c1
      have c2 := hbx1.c2
      have c3 := hbx1.c3
      have hIV1 := hIV.later goodL (Below.refl _ W1).drew
      have hst2 := hst1.later (Below.refl _ W1).drew
      go_region_held3 (fun w' => w'.cell? ⟨B1, 0, none⟩ = some (.int .i64 x.site.cls) ∧ w'.cell? ⟨B1, 1, none⟩ = some (.string x.site.name) ∧ w'.cell? ⟨B1, 2, none⟩ = some (.int .i64 x.site.at') ∧ w'.cell? ⟨B1, 3, none⟩ = some (Value.slice ad2 x.lines.length cap2))
        (first | exact hbx1.all | exact d1.all | exact ((((d1.set (by simp; omega) _).set (by simp; omega) _).set (by simp; omega) _).set (by simp; omega) _).all)
        (first | (go_at_call 46; refine (ownLinesT_any x.lines _ _ hIV1 hlj).mono ?_; rintro e w1 ⟨g, rfl, hown, hg, hb1⟩; have hst3 := hst2.later hb1; obtain ⟨cur, k1, k2⟩ := id hst3.row; have f1 : ∀ o, w1.frozen? ⟨w.heap.size, o, none⟩ = false := fun o => (by simp [World.frozen?, k1]); have d1 := hbx1.later hb1; have e0 : w1.cell? ⟨w.heap.size, j * 4, none⟩ = some (cur[j * 4]'(by omega)) := (by rw [cell_of_row _ _ _ _ _ _ k1]; simp); have e1 : w1.cell? ⟨w.heap.size, j * 4 + 1, none⟩ = some (cur[j * 4 + 1]'(by omega)) := (by rw [cell_of_row _ _ _ _ _ _ k1]; simp); have e2 : w1.cell? ⟨w.heap.size, j * 4 + 2, none⟩ = some (cur[j * 4 + 2]'(by omega)) := (by rw [cell_of_row _ _ _ _ _ _ k1]; simp); have e3 : w1.cell? ⟨w.heap.size, j * 4 + 3, none⟩ = some (cur[j * 4 + 3]'(by omega)) := (by rw [cell_of_row _ _ _ _ _ _ k1]; simp)))
      go_wp2
      go_roundg (gk - 1)
      case measure => omega
      case rel =>
        have hlt1 : w.heap.size < w1.heap.size := Nat.lt_of_lt_of_le (by simp; omega) hb1.size
        have hg' : W1.heap.size ≤ g := by simpa using hg
        refine ⟨j + 1, (fun i => if i = j then g else gs i), by omega, by go_num, ((((hbel1.drew.trans (hb1.mono (by simp; omega))).setCell (Nat.le_refl _) _).setCell (Nat.le_refl _) _).setCell (Nat.le_refl _) _).setCell (Nat.le_refl _) _, ?_, by simp; omega⟩
        refine hst3.step hxj.out (g := g) ?_ ?_ ?_ hown
        · intro i hi; have := (hreach i hi).2; omega
        · omega
        · obtain ⟨cur', q1, -⟩ := hown.1; exact blk_lt q1
    · obtain rfl : j = xs.length := by omega
      go_wp2
      go_ret
      exact ⟨_, _, rfl, hst, Nat.le_refl _, hbel⟩
end Go.Proofs.Ytidjpdpbjgnfkaa
