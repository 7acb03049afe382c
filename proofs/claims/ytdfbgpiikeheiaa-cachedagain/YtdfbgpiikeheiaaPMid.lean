/- Several texts in one. -/
import Derived.Test.YtdfbgpiikeheiaaTa
import Derived.ArgAppend
import Derived.Deep.AppendLies
import Derived.Test.YtdfbgpiikeheiaaDc
import Derived.Test.YtdfbgpiikeheiaaEa
import Derived.Test.YtdfbgpiikeheiaaEc
import Derived.Deep.RegionHeld
/- tally.Own. -/
namespace Go.Proofs.Ytdfbgpiikeheiaa
open Go.ChangeShapes Go.WideShapes Go.ChangeAt Go.RowKit
set_option linter.unusedSimpArgs false
set_option linter.unusedVariables false

theorem info123 : (Try.prog.info? 123).map (fun i => (i.zero, i.size, i.bytes)) = some (some (.agg #[.int .i64 0, .string ⟨#[]⟩, .int .i64 0, .slice none 0 0]), 4, 56) := by kernel_rfl
theorem make_tallies (n : Nat) (hb : n * 56 ≤ 281474976710656) : MadeAt 37 123 #[.int .i64 0, .string ⟨#[]⟩, .int .i64 0, .slice none 0 0] 4 n := fun w => make_big Try.underlying37 info123 (by omega) n hb rfl w

/-- What a row of tallies, of one's own, is, as far as it is done: lines in blocks that rise. -/
structure OwnT (w : World) (B : Nat) (xs : List QT) (j : Nat) (gs : Nat → Nat) : Prop where
  row : ∃ cur : Array Value, w.heap[B]? = some (.cells cur 123 (0, 0)) ∧ cur.size = xs.length * 4
  rise : ∀ i k, i < k → k < j → gs i < gs k
  reach : ∀ i, i < j → B < gs i ∧ gs i < w.heap.size
  lines : ∀ i x, i < j → xs[i]? = some x → OwnSt LineC 2 165 w (gs i) x.lines x.lines.length
  cells : ∀ i x, i < j → xs[i]? = some x → w.cell? ⟨B, i * 4 + 0, none⟩ = some (.int .i64 x.site.cls) ∧ w.cell? ⟨B, i * 4 + 1, none⟩ = some (.string x.site.name) ∧ w.cell? ⟨B, i * 4 + 2, none⟩ = some (.int .i64 x.site.at') ∧ w.cell? ⟨B, i * 4 + 3, none⟩ = some (.slice (some ⟨gs i, 0, none⟩) x.lines.length x.lines.length)

theorem OwnT.later {w w' : World} {B : Nat} {xs : List QT} {j : Nat} {gs : Nat → Nat} (h : OwnT w B xs j gs) (hb : Below w.heap.size w w') : OwnT w' B xs j gs where
  row := by
    obtain ⟨cur, h1, h2⟩ := h.row
    exact ⟨cur, by rw [hb.block _ (blk_lt h1)]; exact h1, h2⟩
  rise := h.rise
  reach := fun i hi => ⟨(h.reach i hi).1, Nat.lt_of_lt_of_le (h.reach i hi).2 hb.size⟩
  lines := fun i x hi hx => (h.lines i x hi hx).later goodL hb
  cells := fun i x hi hx => by
    obtain ⟨h0, h1, h2, h3⟩ := h.cells i x hi hx
    exact ⟨cell_later hb h0, cell_later hb h1, cell_later hb h2, cell_later hb h3⟩
theorem OwnT.start (w : World) (xs : List QT) (c : Array Value) (hc : c.size = xs.length * 4) : OwnT (w.alloc (.cells c 123)) w.heap.size xs 0 (fun _ => 0) :=
  ⟨⟨c, heap_alloc_new w _, hc⟩, fun _ _ _ h => by omega, fun _ h => by omega, fun _ _ h => by omega, fun _ _ h => by omega⟩

theorem OwnSt.ofBlock {α : Type} {E : Lay α} {sz : Nat} (G : Good E sz) {t : TypeId} {w w' : World} {B : Nat} {xs : List α} {j : Nat} (h : OwnSt E sz t w B xs j) (hs : w.heap.size ≤ w'.heap.size) (hb : ∀ b, B ≤ b → b < w.heap.size → w'.heap[b]? = w.heap[b]?) : OwnSt E sz t w' B xs j := by
  obtain ⟨⟨cur, h1, h2⟩, h3⟩ := h
  have hB := blk_lt h1
  refine ⟨⟨cur, by rw [hb _ (Nat.le_refl _) hB]; exact h1, h2⟩, fun i x hi hx => ?_⟩
  refine G.move (h3 i x hi hx) (fun b h => ⟨h.1, by omega⟩) (.of_block fun b h1 h2 => hb b (by omega) h2) fun k hk v hv => ?_
  unfold World.cell? at hv ⊢
  rw [hb _ (Nat.le_refl _) hB]
  exact hv

theorem OwnT.step {w : World} {B : Nat} {xs : List QT} {j : Nat} {gs : Nat → Nat} {x : QT} {g : Nat} (h : OwnT w B xs j gs) (hx : xs[j]? = some x) (hg : ∀ i, i < j → gs i < g) (hB : B < g) (hgl : g < w.heap.size) (hl : OwnSt LineC 2 165 w g x.lines x.lines.length) :
    OwnT (w.setCells B (j * 4) [.int .i64 x.site.cls, .string x.site.name, .int .i64 x.site.at', .slice (some ⟨g, 0, none⟩) x.lines.length x.lines.length]) B xs (j + 1) (fun i => if i = j then g else gs i) := by
  have hj := lt_of_get hx
  obtain ⟨cur, h1, h2⟩ := h.row
  have hz := setCells_size (B := B) [.int .i64 x.site.cls, .string x.site.name, .int .i64 x.site.at', .slice (some ⟨g, 0, none⟩) x.lines.length x.lines.length] (j * 4) w
  have hin := fun k (hk : k < 4) => World.cell?_setCells_in B [.int .i64 x.site.cls, .string x.site.name, .int .i64 x.site.at', .slice (some ⟨g, 0, none⟩) x.lines.length x.lines.length] (j * 4) w (fun q hq => by rw [cell_of_row _ _ _ _ _ _ h1]; simp at hq; simp; omega) k (by simpa using hk)
  have hel : ∀ b, b ≠ B → (w.setCells B (j * 4) [.int .i64 x.site.cls, .string x.site.name, .int .i64 x.site.at', .slice (some ⟨g, 0, none⟩) x.lines.length x.lines.length]).heap[b]? = w.heap[b]? := fun b hb => setCells_else hb _ _ _
  have hout : ∀ i k, i < j → k < 4 → (w.setCells B (j * 4) [.int .i64 x.site.cls, .string x.site.name, .int .i64 x.site.at', .slice (some ⟨g, 0, none⟩) x.lines.length x.lines.length]).cell? ⟨B, i * 4 + k, none⟩ = w.cell? ⟨B, i * 4 + k, none⟩ := fun i k hi hk => by
    rw [World.cell?_setCells_out B _ (j * 4) w _ (fun _ _ => Or.inl ?_)]
    simp; omega
  constructor
  · exact setCells_block _ _ w ⟨cur, h1, h2⟩
  · intro i k hik hk
    by_cases hkj : k = j
    · simp only [hkj, if_true]; rw [if_neg (by omega)]; exact hg i (by omega)
    · rw [if_neg hkj, if_neg (by omega)]; exact h.rise i k hik (by omega)
  · intro i hi
    rw [hz]
    by_cases hij : i = j
    · simp only [hij, if_true]; exact ⟨hB, hgl⟩
    · rw [if_neg hij]; exact h.reach i (by omega)
  · intro i y hi hy
    by_cases hij : i = j
    · subst hij
      rw [hx] at hy; cases hy
      simp only [if_true]
      exact hl.ofBlock goodL (by rw [hz]; exact Nat.le_refl _) fun b hb _ => hel b (by omega)
    · rw [if_neg hij]
      have hr := (h.reach i (by omega)).1
      exact (h.lines i y (by omega) hy).ofBlock goodL (by rw [hz]; exact Nat.le_refl _) fun b hb _ => hel b (by omega)
  · intro i y hi hy
    by_cases hij : i = j
    · subst hij
      rw [hx] at hy; cases hy
      simp only [if_true]
      exact ⟨hin 0 (by omega), hin 1 (by omega), hin 2 (by omega), hin 3 (by omega)⟩
    · rw [if_neg hij, hout i 0 (by omega) (by omega), hout i 1 (by omega) (by omega), hout i 2 (by omega) (by omega), hout i 3 (by omega) (by omega)]
      exact h.cells i y (by omega) hy

/-- A row of one's own is one. -/
theorem OwnSt.isLines {w : World} {g : Nat} {ls : List QL} (h : OwnSt LineC 2 165 w g ls ls.length) (hm : ls.length ≤ maxLen) {P : Nat → Prop} (hP : P g) : IsLines P w (.slice (some ⟨g, 0, none⟩) ls.length ls.length) ls := by
  obtain ⟨⟨cur, h1, h2⟩, h3⟩ := h
  refine ⟨_, _, rfl, Nat.le_refl _, hm, by simp, fun i x hx => ⟨g, 0, rfl, hP, ?_⟩⟩
  have := h3 i x (lt_of_get hx) hx
  simp only [Nat.zero_add]
  exact this
theorem OwnT.tallies {w : World} {B : Nat} {xs : List QT} {gs : Nat → Nat} (h : OwnT w B xs xs.length gs) (hm : xs.length ≤ maxLen) (hl : ∀ x ∈ xs, x.lines.length ≤ maxLen) {P : Nat → Prop} (hP : ∀ b, B ≤ b → b < w.heap.size → P b) : IsTallies P w (.slice (some ⟨B, 0, none⟩) xs.length xs.length) xs := by
  obtain ⟨cur, h1, h2⟩ := h.row
  refine ⟨_, _, rfl, Nat.le_refl _, hm, by simp, fun i x hx => ⟨B, 0, rfl, hP _ (Nat.le_refl _) (blk_lt h1), ?_⟩⟩
  have hi := lt_of_get hx
  obtain ⟨c0, c1, c2, c3⟩ := h.cells i x hi hx
  have hr := h.reach i hi
  simp only [Nat.zero_add]
  exact ⟨c0, c1, c2, _, c3, (h.lines i x hi hx).isLines (hl x (List.mem_of_getElem? hx)) (hP _ (by omega) hr.2)⟩

/-- A tally's cells, in a block of their own. -/
structure BoxT (w : World) (b : Nat) (x : QT) (lv : Value) : Prop where
  c0 : w.cell? ⟨b, 0, none⟩ = some (.int .i64 x.site.cls)
  c1 : w.cell? ⟨b, 1, none⟩ = some (.string x.site.name)
  c2 : w.cell? ⟨b, 2, none⟩ = some (.int .i64 x.site.at')
  c3 : w.cell? ⟨b, 3, none⟩ = some lv
theorem BoxT.later {w w' : World} {b : Nat} {x : QT} {lv : Value} (h : BoxT w b x lv) (hb : Below w.heap.size w w') : BoxT w' b x lv := ⟨cell_later hb h.c0, cell_later hb h.c1, cell_later hb h.c2, cell_later hb h.c3⟩
theorem BoxT.set {w : World} {b : Nat} {x : QT} {lv : Value} (h : BoxT w b x lv) {a : Addr} (ha : b ≠ a.block) (u : Value) : BoxT (w.setCell a u) b x lv := by
  have hn : ∀ k, a ≠ (⟨b, k, none⟩ : Addr) := fun k e => ha (by rw [e])
  exact ⟨by rw [World.cell?_setCell_other _ _ _ _ (hn 0)]; exact h.c0, by rw [World.cell?_setCell_other _ _ _ _ (hn 1)]; exact h.c1, by rw [World.cell?_setCell_other _ _ _ _ (hn 2)]; exact h.c2, by rw [World.cell?_setCell_other _ _ _ _ (hn 3)]; exact h.c3⟩
theorem BoxT.all {w : World} {b : Nat} {x : QT} {lv : Value} (h : BoxT w b x lv) : w.cell? ⟨b, 0, none⟩ = some (.int .i64 x.site.cls) ∧ w.cell? ⟨b, 1, none⟩ = some (.string x.site.name) ∧ w.cell? ⟨b, 2, none⟩ = some (.int .i64 x.site.at') ∧ w.cell? ⟨b, 3, none⟩ = some lv := ⟨h.c0, h.c1, h.c2, h.c3⟩
theorem boxT_new (w : World) (x : QT) (lv : Value) (t : TypeId) : BoxT (w.alloc (.cells #[.int .i64 x.site.cls, .string x.site.name, .int .i64 x.site.at', lv] t)) w.heap.size x lv := ⟨by rw [cell_new _ _ _ _ rfl]; rfl, by rw [cell_new _ _ _ _ rfl]; rfl, by rw [cell_new _ _ _ _ rfl]; rfl, by rw [cell_new _ _ _ _ rfl]; rfl⟩

set_option maxHeartbeats 1000000 in
theorem towns_any {P : Nat → Prop} (xs : List QT) (v : Value) (w : World) (hh : IsTallies P w v xs) (hby : xs.length * 56 ≤ 281474976710656) (hls : ∀ x ∈ xs, x.lines.length * 16 ≤ 281474976710656) : Calls Try.prog 25 #[v] w fun e w' => ∃ g gs, e = .returned (.slice (some ⟨g, 0, none⟩) xs.length xs.length) ∧ OwnT w' g xs xs.length gs ∧ w.heap.size ≤ g ∧ Below w.heap.size w w' := by
  obtain ⟨ad, cap, rfl, hl, hcap, -, hrow⟩ := hh
  have hmk := make_tallies xs.length hby
  go_enter Try.func25, Try.ntmps25
  go_wp2
  go_loopg [11] xs.length (fun g c wr => ∃ (j : Nat) (gs : Nat → Nat), j + g = xs.length ∧ c = .int .i64 j ∧ Below w.heap.size w wr ∧ OwnT wr w.heap.size xs j gs ∧ w.heap.size < wr.heap.size)
  case atStart => exact ⟨0, _, by omega, rfl, bel1 _ _, OwnT.start _ _ _ (size_madeCells _ _), by simp⟩
  case round =>
    obtain ⟨j, gs, hj, rfl, hbel, hst, hz⟩ := hrel
    clear hmk
    by_cases hlt : j < xs.length
    · obtain ⟨b, o, rfl, -, hv0, hv1, hv2, sv, hv3, hsl⟩ := hrow j xs[j] (by simp [hlt])
      have hxj : Hid (xs[j]? = some xs[j]) := by show _ = _; simp [hlt]
      have hlj := hls xs[j] (by simp)
      generalize xs[j] = x at *
      simp only [Nat.add_zero] at hv0
      have u0 := cell_later hbel hv0
      have u1 := cell_later hbel hv1
      have u2 := cell_later hbel hv2
      have u3 := cell_later hbel hv3
      have hsl2 := hsl.later goodL hbel
      obtain ⟨ad2, cap2, rfl, -, -, -, -⟩ := id hsl2
      clear hv0 hv1 hv2 hv3 hsl hrow
      have hj1 : (j : Int) < (xs.length : Int) := by omega
      have hj0 : (0 : Int) ≤ (j : Int) := by omega
      go_wp2
      have hbx := (boxT_new wr x (.slice ad2 x.lines.length cap2) 123)
      have hW1 := bel1 wr (Obj.cells #[Value.int IntKind.i64 x.site.cls, Value.string x.site.name, Value.int IntKind.i64 x.site.at', Value.slice ad2 x.lines.length cap2] 123)
      have hIV := hsl2.later goodL hW1
      have hst1 := hst.later hW1
      have hbel1 := hbel.trans (hW1.mono (by omega))
      have hzz : (wr.alloc (Obj.cells #[Value.int IntKind.i64 x.site.cls, Value.string x.site.name, Value.int IntKind.i64 x.site.at', Value.slice ad2 x.lines.length cap2] 123)).heap.size = wr.heap.size + 1 := by simp
      have hreach := hst.reach
      clear hsl2 hst u0 u1 u2 u3
      generalize (wr.alloc (Obj.cells #[Value.int IntKind.i64 x.site.cls, Value.string x.site.name, Value.int IntKind.i64 x.site.at', Value.slice ad2 x.lines.length cap2] 123)) = W1 at *
      generalize wr.heap.size = B1 at *
      have hbx1 := hbx.later (Below.refl _ W1).drew
      have c0 := hbx1.c0
      have c1 := hbx1.c1
      have c2 := hbx1.c2
      have c3 := hbx1.c3
      have hIV1 := hIV.later goodL (Below.refl _ W1).drew
      have hst2 := hst1.later (Below.refl _ W1).drew
      go_region_held3 (fun w' => w'.cell? ⟨B1, 0, none⟩ = some (.int .i64 x.site.cls) ∧ w'.cell? ⟨B1, 1, none⟩ = some (.string x.site.name) ∧ w'.cell? ⟨B1, 2, none⟩ = some (.int .i64 x.site.at') ∧ w'.cell? ⟨B1, 3, none⟩ = some (Value.slice ad2 x.lines.length cap2))
        (first | exact hbx1.all | exact d1.all | exact ((((d1.set (by simp; omega) _).set (by simp; omega) _).set (by simp; omega) _).set (by simp; omega) _).all)
        (first | (go_at_call 49; refine (ownLinesT_any x.lines _ _ hIV1 hlj).mono ?_; rintro e w1 ⟨g, rfl, hown, hg, hb1⟩; have hst3 := hst2.later hb1; obtain ⟨cur, k1, k2⟩ := id hst3.row; have f1 : ∀ o, w1.frozen? ⟨w.heap.size, o, none⟩ = false := fun o => (by simp [World.frozen?, k1]); have d1 := hbx1.later hb1; have e0 : w1.cell? ⟨w.heap.size, j * 4, none⟩ = some (cur[j * 4]'(by omega)) := (by rw [cell_of_row _ _ _ _ _ _ k1]; simp); have e1 : w1.cell? ⟨w.heap.size, j * 4 + 1, none⟩ = some (cur[j * 4 + 1]'(by omega)) := (by rw [cell_of_row _ _ _ _ _ _ k1]; simp); have e2 : w1.cell? ⟨w.heap.size, j * 4 + 2, none⟩ = some (cur[j * 4 + 2]'(by omega)) := (by rw [cell_of_row _ _ _ _ _ _ k1]; simp); have e3 : w1.cell? ⟨w.heap.size, j * 4 + 3, none⟩ = some (cur[j * 4 + 3]'(by omega)) := (by rw [cell_of_row _ _ _ _ _ _ k1]; simp)))
      go_wp2
      go_roundg (gk - 1)
      case measure => omega
      case rel =>
        have hlt1 : w.heap.size < w1.heap.size := Nat.lt_of_lt_of_le (by simp; omega) hb1.size
        have hg' : W1.heap.size ≤ g := by simpa using hg
        refine ⟨j + 1, (fun i => if i = j then g else gs i), by omega, by go_num, ((((hbel1.drew.trans (hb1.mono (by simp; omega))).setCell (Nat.le_refl _) _).setCell (Nat.le_refl _) _).setCell (Nat.le_refl _) _).setCell (Nat.le_refl _) _, ?_, by simp; omega⟩
        refine hst3.step hxj.out (g := g) ?_ ?_ ?_ hown
        · intro i hi; have := (hreach i hi).2; omega
        · omega
        · obtain ⟨cur', q1, -⟩ := hown.1; exact blk_lt q1
    · obtain rfl : j = xs.length := by omega
      go_wp2
      go_ret
      exact ⟨_, _, rfl, hst, Nat.le_refl _, hbel⟩
end Go.Proofs.Ytdfbgpiikeheiaa

/- append of one element onto a row that is full; tally.withOne. -/
namespace Go.Proofs.Ytdfbgpiikeheiaa
open Go.ChangeShapes Go.WideShapes Go.ChangeAt Go.RowKit
set_option linter.unusedSimpArgs false
set_option linter.unusedVariables false

/-- A row that is owned is one. -/
theorem owns_row {α : Type} {E : Lay α} {sz : Nat} (G : Good E sz) {w : World} {base : Nat} {e : TypeId} {v : Value} {n : Nat} {vs : List Value} {xs : List α} {P : Nat → Prop} (h : w.ownsRow base e sz v n vs) (hx : xs.length = n) (hc : Cells E sz P w vs xs) (hP : ∀ g, base ≤ g → g < w.heap.size → P g) : IsRow E sz 0 P w v xs := by
  obtain ⟨hl, ⟨rfl, h0⟩ | ⟨g, cap, cur, rfl, h1, h2, h3, h4, h5, h6⟩⟩ := h
  · subst hx
    obtain rfl : xs = [] := List.eq_nil_of_length_eq_zero h0
    exact ⟨none, 0, rfl, by simp, by simp, by simp, fun i x hx => by simp at hx⟩
  · subst hx
    exact hc.row G (hP g h1 (blk_lt h2)) h2 h6 h3 h4 (by simp)

section
variable {α : Type} {E : Lay α} {sz : Nat} {P P' R : Nat → Prop} {w : World} {ops : Array Oper} {rest : List Oper} {o : Oper} {a : Act} {Q : Exit → Act → World → Prop}
/-- append(xs, y), where xs has no room: a new row. -/
theorem wpList_append_one (G : Good E sz) (hgd : o.guard = none) (s x : Operand) (T : TypeId) (ho : o.op = .call { callee := .builtin .append, args := #[s, x], argTypes := #[T, T] })
    (e : TypeId) (z : Value) (bytes : Nat) (hu : Try.prog.underlying T = some (.slice e)) (hI : (Try.prog.info? e).map (fun i => (i.zero, i.size, i.bytes)) = some (some z, sz, bytes)) (hz : z.cells.size = sz)
    (xs : List α) (ao : Option Addr) (hs : a.eval s = .slice ao xs.length xs.length) (hrow : IsRow E sz 0 P w (.slice ao xs.length xs.length) xs)
    (B : Nat) (t : TypeId) (vs : List Value) (hx : a.eval x = .slice (some ⟨B, 0, none⟩) 1 1) (hB : w.heap[B]? = some (.cells vs.toArray t (0, 0))) (hvs : vs.length = sz) (y : α) (hy : E P' w (fun k => vs[k]?) y)
    (hao : ao = none → xs = []) (hb1 : xs.length + 1 ≤ maxLen) (hb2 : (xs.length + 1) * bytes ≤ 140737488355328) (hPR : ∀ b, P b → R b) (hPR' : ∀ b, P' b → R b)
    (h : ∀ g cap w', (∀ (S : Nat → Prop), (∀ b, R b → S b) → S g → IsRow E sz 0 S w' (.slice (some ⟨g, 0, none⟩) (xs.length + 1) cap) (xs ++ [y])) → w.heap.size ≤ g → g < w'.heap.size → Below w.heap.size w w' → (∃ cur : Array Value, w'.heap[g]? = some (.cells cur e (0, 0)) ∧ cur.size = cap * sz ∧ xs.length + 1 ≤ cap ∧ cap ≤ maxLen ∧ Cells E sz R w' (cur.toList.take ((xs.length + 1) * sz)) (xs ++ [y]) ∧ ∀ k v, vs[k]? = some v → w'.cell? ⟨g, xs.length * sz + k, none⟩ = some v) → wpList Try.prog ops Q rest (a.put o.dst (.slice (some ⟨g, 0, none⟩) (xs.length + 1) cap)) w') : wpList Try.prog ops Q (o :: rest) a w := by
  obtain ⟨i0, hi, hz0, hz1, hz2⟩ := info_parts hI
  obtain ⟨ad, cap0, e0, hl, hcap, -, hr⟩ := hrow
  simp only [Value.slice.injEq] at e0
  obtain ⟨rfl, -, -⟩ := e0
  obtain ⟨cs, hcs, hsrc⟩ := hr.cells G
  have hp := G.pos
  refine wpList_append_grows w hgd s x T ho e i0 z sz bytes hu hi hz0 hz1 hz2 hz hp ao xs.length xs.length cs hs (fun hn => by rw [hao hn]; simp) hcs.1 (fun b hb j u hj => by obtain ⟨a', e', h'⟩ := hsrc j u hj; rw [hb] at e'; cases e'; exact h') ⟨B, 0, none⟩ 1 1 vs hx (by simpa using hvs) (fun j u hj => by exact World.news_of_block hB j u (by simpa using hj)) ?_ (by omega) hb1 hb2 ?_
  · intro u hu
    obtain ⟨j, hj, rfl⟩ := List.mem_iff_getElem.1 hu
    obtain ⟨v, hv, hone⟩ := G.there hy j (by omega)
    simp only [List.getElem?_eq_getElem hj] at hv
    cases hv
    exact hone
  · intro v' w' hown hgr
    have hbel : Below w.heap.size w w' := (Below.refl _ _).grown hgr (Nat.le_refl _) (fun k hk => by cases hk)
    obtain ⟨hl', ⟨rfl, h0⟩ | ⟨g, cap, cur, rfl, h1, h2, h3, h4, h5, h6⟩⟩ := id hown
    · omega
    · have hC : Cells E sz R w' (cs ++ vs) (xs ++ [y]) := by
        refine Cells.append (Cells.keep hcs G (.of_below hbel) hPR) G (Cells.one G hvs ?_)
        exact G.move hy hPR' (.of_below hbel) fun _ _ _ h => h
      refine h g cap w' (fun S hS hg => ?_) h1 (blk_lt h2) hbel ⟨cur, h2, h5, h3, h4, by rw [h6]; exact hC, fun k v hk => ?_⟩
      rotate_left
      · have hkl := lt_of_get hk
        rw [cell_of_row _ _ _ _ _ _ h2]
        have h6' := congrArg (fun l => l[xs.length * sz + k]?) h6
        simp only [List.getElem?_take] at h6'
        rw [if_pos (by rw [Nat.add_mul]; omega), List.getElem?_append_right (by rw [hcs.1]; omega), hcs.1, Nat.add_sub_cancel_left, hk] at h6'
        simpa using h6'
      have := (hC.keep G (.refl _ _) hS).row G (g := g) (cap := cap) (bytes := 0) hg h2 (by simpa using h6) (by simpa using h3) h4 (by simp)
      simpa using this
end

/-- A line of class c has one more; without one, one comes last. -/
def oneMore : List QL → Int → List QL
  | [], c => [⟨c, 1⟩]
  | x :: r, c => if x.cls == c then ⟨x.cls, wrap64 (x.found + 1)⟩ :: r else x :: oneMore r c
theorem oneMore_none : ∀ {ls : List QL} {c : Int}, findI (fun x => x.cls == c) ls = -1 → oneMore ls c = ls ++ [⟨c, 1⟩]
  | [], c, _ => rfl
  | x :: r, c, h => by
    have hx : (x.cls == c) = false := by
      cases hb : x.cls == c with
      | false => rfl
      | true => rw [findI_at (j := 0) (x := x) rfl hb (fun i y hi _ => by omega)] at h; simp at h
    have hr : findI (fun x : QL => x.cls == c) r = -1 := by
      unfold findI at h ⊢
      rw [List.findIdx?_cons, hx] at h
      cases hf : r.findIdx? (fun x => x.cls == c) with
      | none => rfl
      | some k => rw [hf] at h; simp at h; omega
    simp [oneMore, hx, oneMore_none hr]
theorem oneMore_at : ∀ {ls : List QL} {c : Int} {j : Nat} {x : QL}, ls[j]? = some x → (x.cls == c) = true → (∀ i y, i < j → ls[i]? = some y → (y.cls == c) = false) → oneMore ls c = ls.set j ⟨x.cls, wrap64 (x.found + 1)⟩
  | [], c, j, x, h, _, _ => by simp at h
  | y :: r, c, 0, x, h, hp, _ => by
    simp at h; subst h
    simp [oneMore, hp]
  | y :: r, c, j + 1, x, h, hp, hn => by
    have hy := hn 0 y (by omega) rfl
    simp only [oneMore, hy, List.set_cons_succ]
    rw [oneMore_at (ls := r) (j := j) (x := x) (by simpa using h) hp (fun i z hi hz => hn (i + 1) z (by omega) (by simpa using hz))]
    rfl
/-- What findI tells. -/
theorem findI_cases {α : Type} (p : α → Bool) (xs : List α) : findI p xs = -1 ∨ ∃ (j : Nat) (x : α), findI p xs = (j : Int) ∧ xs[j]? = some x ∧ p x = true ∧ ∀ i y, i < j → xs[i]? = some y → p y = false := by
  unfold findI
  cases h : xs.findIdx? p with
  | none => left; rfl
  | some j =>
    right
    rw [List.findIdx?_eq_some_iff_getElem] at h
    obtain ⟨hj, hp, hn⟩ := h
    refine ⟨j, xs[j], rfl, by simp [hj], hp, fun i y hi hy => ?_⟩
    have := hn i hi
    rw [List.getElem?_eq_getElem (by omega)] at hy
    cases hy
    simpa using this

theorem OwnSt.one {w : World} {g : Nat} {ls : List QL} (h : OwnSt LineC 2 165 w g ls ls.length) {j : Nat} {x : QL} (hx : ls[j]? = some x) : w.cell? ⟨g, j * 2 + 0, none⟩ = some (.int .i64 x.cls) ∧ w.cell? ⟨g, j * 2 + 1, none⟩ = some (.int .i64 x.found) := h.2 j x (lt_of_get hx) hx
theorem OwnSt.unfrozen {w : World} {g : Nat} {α : Type} {E : Lay α} {sz : Nat} {t : TypeId} {ls : List α} {j : Nat} (h : OwnSt E sz t w g ls j) : ∀ o, w.frozen? ⟨g, o, none⟩ = false := fun o => by
  obtain ⟨⟨cur, h1, -⟩, -⟩ := h
  simp [World.frozen?, h1]
/-- One line's number is another. -/
theorem OwnSt.bump {w : World} {g : Nat} {ls : List QL} (h : OwnSt LineC 2 165 w g ls ls.length) {j : Nat} {x : QL} (hx : ls[j]? = some x) (n : Int) : OwnSt LineC 2 165 (w.setCell ⟨g, j * 2 + 1, none⟩ (.int .i64 n)) g (ls.set j ⟨x.cls, n⟩) ls.length := by
  obtain ⟨⟨cur, h1, h2⟩, h3⟩ := h
  have hj := lt_of_get hx
  refine ⟨⟨_, setCell_same h1 _, by simpa using h2⟩, fun i y hi hy => ?_⟩
  have hself : (w.setCell ⟨g, j * 2 + 1, none⟩ (.int .i64 n)).cell? ⟨g, j * 2 + 1, none⟩ = some (.int .i64 n) := cell_set_self (v := .int .i64 x.found) (h3 j x hj hx).2 _
  have hoth : ∀ o, o ≠ j * 2 + 1 → (w.setCell ⟨g, j * 2 + 1, none⟩ (.int .i64 n)).cell? ⟨g, o, none⟩ = w.cell? ⟨g, o, none⟩ := fun o ho => World.cell?_setCell_other _ _ _ _ (by intro e; injection e with _ e2 _; omega)
  by_cases hij : i = j
  · subst hij
    rw [List.getElem?_set_self hj] at hy
    cases hy
    exact ⟨by show World.cell? _ ⟨g, i * 2 + 0, none⟩ = _; rw [hoth _ (by omega)]; exact (h3 i x hj hx).1, hself⟩
  · rw [List.getElem?_set_ne (by omega)] at hy
    exact ⟨by show World.cell? _ ⟨g, i * 2 + 0, none⟩ = _; rw [hoth _ (by omega)]; exact (h3 i y hi hy).1, by show World.cell? _ ⟨g, i * 2 + 1, none⟩ = _; rw [hoth _ (by omega)]; exact (h3 i y hi hy).2⟩

/-- What withOne leaves: a row of lines in g', that is g or new; nothing else of what was there has turned. -/
def OneLeft (w : World) (g : Option Nat) (ls : List QL) (e : Ending) (w' : World) : Prop :=
  ∃ g' cap', e = .returned (.slice (some ⟨g', 0, none⟩) ls.length cap') ∧ IsLines (fun b => b = g') w' (.slice (some ⟨g', 0, none⟩) ls.length cap') ls ∧ (some g' = g ∨ w.heap.size ≤ g') ∧ g' < w'.heap.size ∧ (∀ b, b < w.heap.size → some b ≠ g → w'.heap[b]? = w.heap[b]?) ∧ w'.os = w.os ∧ w'.tape = w.tape ∧ w'.output = w.output ∧ w.heap.size ≤ w'.heap.size

set_option maxHeartbeats 1000000 in
theorem withOne_own (ls : List QL) (g : Nat) (c : Int) (w : World) (h : OwnSt LineC 2 165 w g ls ls.length) (hb : (ls.length + 1) * 16 ≤ 140737488355328) : Calls Try.prog 71 #[.slice (some ⟨g, 0, none⟩) ls.length ls.length, .int .i64 c] w fun e w' => OneLeft w (some g) (oneMore ls c) e w' := by
  have hm := hmf
  have hml : ls.length ≤ maxLen := by unfold maxLen; omega
  have hgl : g < w.heap.size := by obtain ⟨⟨cur, h1, -⟩, -⟩ := h; exact blk_lt h1
  rcases findI_cases (fun x : QL => x.cls == c) ls with hf | ⟨j, x, hf, hx, hp, hn⟩
  · have HO : Hid (oneMore ls c = ls ++ [⟨c, 1⟩]) := oneMore_none hf
    have hb0 := bel1 w (.cells #[.int .i64 c] 3)
    have h1 := h.later goodL hb0
    have hr1 := h1.isLines hml (P := fun b => b = g) rfl
    have hcc : (w.alloc (.cells #[.int .i64 c] 3)).cell? ⟨w.heap.size, 0, none⟩ = some (.int .i64 c) := by rw [cell_new _ _ _ _ rfl]; rfl
    go_enter Try.func71, Try.ntmps71
    go_wp2_with fail
    refine (index57_any _ (fun x => x.cls == c) ls _ _ hr1 fun x w' hb' => eqLine57_any x _ c w' (cell_later hb' hcc)).mono ?_
    rintro e w1 ⟨rfl, hb1⟩
    rw [hf]
    have h2 := h1.later goodL hb1
    have hr2 := h2.isLines hml (P := fun b => b = g) rfl
    have hc1 := cell_later hb1 hcc
    have hb01 : Below w.heap.size w w1 := nstep1 (Below.refl _ _) hb1
    clear hb1 hb0 h1 hr1 hcc hm
    go_wp2_with (at_builtin; refine wpList_append_one (R := fun b => b = g) goodL rfl (.tmp 11) (.tmp 14) 43 rfl 165 _ 16 Try.underlying43 info165 rfl ls _ rfl (hr2.later goodL (bel1 _ _)) _ 165 [.int .i64 c, .int .i64 1] rfl (heap_alloc_new _ _) rfl ⟨c, 1⟩ (P' := fun b => b = g) ⟨rfl, rfl⟩ (fun h => by cases h) (by unfold maxLen; omega) hb (fun _ h => h) (fun _ h => h) ?_; intro g' cap' w2 hrow2 hg2 hgl2 hb2 hblk2)
    go_ret
    have hbel : Below w.heap.size w w2 := nstep1 hb01 hb2
    rw [HO.out]
    refine ⟨g', cap', by simp, ?_, Or.inr ?_, hgl2, fun b hb _ => hbel.block b hb, hbel.os, hbel.tape, hbel.output, hbel.size⟩
    · obtain ⟨cur, q1, q2, q3, q4, q5, -⟩ := hblk2
      have := Cells.row (E := LineC) (sz := 2) (bytes := 0) (P := fun b => b = g') (xs := ls ++ [⟨c, 1⟩]) (g := g') (cap := cap') ⟨q5.1, q5.2⟩ goodL rfl q1 (by simp) (by simpa using q3) q4 (by simp)
      simpa using this
    · have := hb01.size; simp at hg2; omega
  · have HO : Hid (oneMore ls c = ls.set j ⟨x.cls, wrap64 (x.found + 1)⟩) := oneMore_at hx hp hn
    have hj := lt_of_get hx
    have hj0 : (0 : Int) ≤ (j : Int) := by omega
    have hj1 : (j : Int) < (ls.length : Int) := by omega
    have HX : Hid (ls[j]? = some x) := hx
    have hb0 := bel1 w (.cells #[.int .i64 c] 3)
    have h1 := h.later goodL hb0
    have hr1 := h1.isLines hml (P := fun b => b = g) rfl
    have hcc : (w.alloc (.cells #[.int .i64 c] 3)).cell? ⟨w.heap.size, 0, none⟩ = some (.int .i64 c) := by rw [cell_new _ _ _ _ rfl]; rfl
    go_enter Try.func71, Try.ntmps71
    go_wp2_with fail
    refine (index57_any _ (fun x => x.cls == c) ls _ _ hr1 fun x w' hb' => eqLine57_any x _ c w' (cell_later hb' hcc)).mono ?_
    rintro e w1 ⟨rfl, hb1⟩
    rw [hf]
    have h2 := h1.later goodL hb1
    have hc1 := cell_later hb1 hcc
    have hb01 : Below w.heap.size w w1 := nstep1 (Below.refl _ _) hb1
    obtain ⟨k0, k1⟩ := h2.one HX.out
    have fz := h2.unfrozen
    clear hb1 hb0 h1 hr1 hcc hm hn hx hf
    go_wp2_with fail
    go_ret
    rw [HO.out]
    have h3 := h2.bump HX.out (wrap64 (x.found + 1))
    refine ⟨g, ls.length, by simp, ?_, Or.inl rfl, by simp; have := hb01.size; omega, fun b hb hne => ?_, ?_, ?_, ?_, ?_⟩
    · have := OwnSt.isLines (ls := ls.set j ⟨x.cls, wrap64 (x.found + 1)⟩) (by simpa using h3) (by simpa using hml) (P := fun b => b = g) rfl
      simpa using this
    · rw [setCell_else (by intro e; exact hne (by rw [e]))]; exact hb01.block b hb
    · exact hb01.os
    · exact hb01.tape
    · exact hb01.output
    · simpa using hb01.size

set_option maxHeartbeats 1000000 in
theorem withOne_nil (c : Int) (w : World) : Calls Try.prog 71 #[.slice none 0 0, .int .i64 c] w fun e w' => OneLeft w none [⟨c, 1⟩] e w' := by
  have hm := hmf
  have hb0 := bel1 w (.cells #[.int .i64 c] 3)
  have hr1 : IsLines (fun _ => False) (w.alloc (.cells #[.int .i64 c] 3)) (.slice none 0 0) [] := ⟨none, 0, rfl, by simp, by simp, by simp, fun i x hx => by simp at hx⟩
  have hcc : (w.alloc (.cells #[.int .i64 c] 3)).cell? ⟨w.heap.size, 0, none⟩ = some (.int .i64 c) := by rw [cell_new _ _ _ _ rfl]; rfl
  have hf : findI (fun x : QL => x.cls == c) [] = -1 := rfl
  go_enter Try.func71, Try.ntmps71
  go_wp2_with fail
  refine (index57_any _ (fun x => x.cls == c) [] _ _ hr1 fun x w' hb' => eqLine57_any x _ c w' (cell_later hb' hcc)).mono ?_
  rintro e w1 ⟨rfl, hb1⟩
  rw [hf]
  have hr2 := hr1.later goodL hb1
  have hc1 := cell_later hb1 hcc
  have hb01 : Below w.heap.size w w1 := nstep1 (Below.refl _ _) hb1
  clear hb1 hb0 hr1 hcc hm
  go_wp2_with (at_builtin; refine wpList_append_one (R := fun b => False) goodL rfl (.tmp 11) (.tmp 14) 43 rfl 165 _ 16 Try.underlying43 info165 rfl [] _ rfl (hr2.later goodL (bel1 _ _)) _ 165 [.int .i64 c, .int .i64 1] rfl (heap_alloc_new _ _) rfl ⟨c, 1⟩ (P' := fun b => False) ⟨rfl, rfl⟩ (fun h => rfl) (by unfold maxLen; simp) (by simp) (fun _ h => h) (fun _ h => h) ?_; intro g' cap' w2 hrow2 hg2 hgl2 hb2 hblk2)
  go_ret
  have hbel : Below w.heap.size w w2 := nstep1 hb01 hb2
  refine ⟨g', cap', by simp, ?_, Or.inr ?_, hgl2, fun b hb _ => hbel.block b hb, hbel.os, hbel.tape, hbel.output, hbel.size⟩
  · obtain ⟨cur, q1, q2, q3, q4, q5, -⟩ := hblk2
    exact Cells.row (E := LineC) (sz := 2) (bytes := 0) (P := fun b => b = g') (xs := [⟨c, 1⟩]) (g := g') (cap := cap') ⟨q5.1, q5.2⟩ goodL rfl q1 rfl (by simpa using q3) q4 (by simp)
  · have := hb01.size; simp at hg2; omega
end Go.Proofs.Ytdfbgpiikeheiaa

/- tally.Add. -/
namespace Go.Proofs.Ytdfbgpiikeheiaa
open Go.ChangeShapes Go.WideShapes Go.ChangeAt Go.RowKit
set_option linter.unusedSimpArgs false
set_option linter.unusedVariables false

/-- One more receiver of class c at the site. -/
def addE : List QT → QS → Int → List QT
  | [], s, c => [⟨s, [⟨c, 1⟩]⟩]
  | x :: r, s, c => if eqS x.site s then ⟨x.site, oneMore x.lines c⟩ :: r else x :: addE r s c
theorem addE_none : ∀ {xs : List QT} {s : QS} {c : Int}, findI (fun x => eqS x.site s) xs = -1 → addE xs s c = xs ++ [⟨s, [⟨c, 1⟩]⟩]
  | [], s, c, _ => rfl
  | x :: r, s, c, h => by
    have hx : eqS x.site s = false := by
      cases hb : eqS x.site s with
      | false => rfl
      | true => rw [findI_at (j := 0) (x := x) rfl hb (fun i y hi _ => by omega)] at h; simp at h
    have hr : findI (fun x : QT => eqS x.site s) r = -1 := by
      unfold findI at h ⊢
      rw [List.findIdx?_cons, hx] at h
      cases hf : r.findIdx? (fun x => eqS x.site s) with
      | none => rfl
      | some k => rw [hf] at h; simp at h; omega
    simp [addE, hx, addE_none hr]
theorem addE_at : ∀ {xs : List QT} {s : QS} {c : Int} {j : Nat} {x : QT}, xs[j]? = some x → eqS x.site s = true → (∀ i y, i < j → xs[i]? = some y → eqS y.site s = false) → addE xs s c = xs.set j ⟨x.site, oneMore x.lines c⟩
  | [], s, c, j, x, h, _, _ => by simp at h
  | y :: r, s, c, 0, x, h, hp, _ => by
    simp at h; subst h
    simp [addE, hp]
  | y :: r, s, c, j + 1, x, h, hp, hn => by
    have hy := hn 0 y (by omega) rfl
    simp only [addE, hy, List.set_cons_succ]
    rw [addE_at (xs := r) (j := j) (x := x) (by simpa using h) hp (fun i z hi hz => hn (i + 1) z (by omega) (by simpa using hz))]
    rfl

/-- Lines of one tally of a row are others. -/
theorem put_tally {w : World} {g j cap : Nat} {xs : List QT} {x : QT} {v' : Value} {ls' : List QL} {Q S : Nat → Prop} (hx : xs[j]? = some x)
    (hoth : ∀ i y, i ≠ j → xs[i]? = some y → ∃ R : Nat → Prop, ¬ R g ∧ (∀ b, R b → S b) ∧ TallyC R w (fun k => w.cell? ⟨g, i * 4 + k, none⟩) y)
    (h0 : w.cell? ⟨g, j * 4 + 0, none⟩ = some (.int .i64 x.site.cls)) (h1 : w.cell? ⟨g, j * 4 + 1, none⟩ = some (.string x.site.name)) (h2 : w.cell? ⟨g, j * 4 + 2, none⟩ = some (.int .i64 x.site.at')) {u : Value} (h3 : w.cell? ⟨g, j * 4 + 3, none⟩ = some u)
    (hl : IsLines Q w v' ls') (hQ : ¬ Q g) (hQS : ∀ b, Q b → S b) (hSg : S g) (hc1 : xs.length ≤ cap) (hc2 : cap ≤ maxLen) : IsTallies S (w.setCell ⟨g, j * 4 + 3, none⟩ v') (.slice (some ⟨g, 0, none⟩) xs.length cap) (xs.set j ⟨x.site, ls'⟩) := by
  have hself := cell_set_self h3 v'
  have hne : ∀ o, o ≠ j * 4 + 3 → (w.setCell ⟨g, j * 4 + 3, none⟩ v').cell? ⟨g, o, none⟩ = w.cell? ⟨g, o, none⟩ := fun o ho => World.cell?_setCell_other _ _ _ _ (by intro e; injection e with _ e2 _; omega)
  refine ⟨some ⟨g, 0, none⟩, cap, by simp, by simpa using hc1, hc2, by simp, fun i y hy => ⟨g, 0, rfl, hSg, ?_⟩⟩
  by_cases hij : i = j
  · subst hij
    rw [List.getElem?_set_self (lt_of_get hx)] at hy
    cases hy
    simp only [Nat.zero_add]
    refine ⟨(hne (i * 4 + 0) (by omega)).trans h0, (hne (i * 4 + 1) (by omega)).trans h1, (hne (i * 4 + 2) (by omega)).trans h2, v', hself, ?_⟩
    exact hl.keep goodL (Keeps.of_setCell hQ _) hQS
  · rw [List.getElem?_set_ne (by omega)] at hy
    obtain ⟨R, hR, hRS, hT⟩ := hoth i y hij hy
    simp only [Nat.zero_add]
    refine goodT.move hT hRS (Keeps.of_setCell hR _) fun k hk v hv => ?_
    rw [hne _ (by omega)]
    exact hv

theorem OneLeft.cell {w w' : World} {g : Option Nat} {ls : List QL} {e : Ending} (h : OneLeft w g ls e w') {b o : Nat} {v : Value} (hc : w.cell? ⟨b, o, none⟩ = some v) (hb : some b ≠ g) : w'.cell? ⟨b, o, none⟩ = some v := by
  obtain ⟨-, -, -, -, -, -, h1, -⟩ := h
  have hl := World.block_lt_of_cell? _ _ hc
  rw [World.cell?_of_block (h1 b hl hb)]
  exact hc
theorem OneLeft.frozen {w w' : World} {g : Option Nat} {ls : List QL} {e : Ending} (h : OneLeft w g ls e w') {b : Nat} (hl : b < w.heap.size) (hb : some b ≠ g) : ∀ o, w'.frozen? ⟨b, o, none⟩ = w.frozen? ⟨b, o, none⟩ := fun o => by
  obtain ⟨-, -, -, -, -, -, h1, -⟩ := h
  exact World.frozen?_of_block (h1 b hl hb)
theorem OneLeft.below {w w' : World} {g : Option Nat} {ls : List QL} {e : Ending} (h : OneLeft w g ls e w') {B : Nat} (hB : B ≤ w.heap.size) (hg : ∀ b, g = some b → B ≤ b) : Below B w w' := by
  obtain ⟨-, -, -, -, -, -, h1, h2, h3, h4, h5⟩ := h
  exact ⟨h2, h3, h4, h5, fun k hk => h1 k (by omega) fun e => by have := hg k e.symm; omega⟩

set_option maxHeartbeats 2000000 in
theorem add_any {P : Nat → Prop} (xs : List QT) (v : Value) (s : QS) (c : Int) (w : World) (hh : IsTallies P w v xs) (hby : (xs.length + 1) * 56 ≤ 140737488355328) (hls : ∀ x ∈ xs, (x.lines.length + 1) * 16 ≤ 140737488355328) :
    Calls Try.prog 52 #[v, SV s, .int .i64 c] w fun e w' => ∃ g cap, e = .returned (.slice (some ⟨g, 0, none⟩) (addE xs s c).length cap) ∧ IsTallies (fun b => w.heap.size ≤ b) w' (.slice (some ⟨g, 0, none⟩) (addE xs s c).length cap) (addE xs s c) ∧ Below w.heap.size w w' := by
  have hm := hmf
  have hml : xs.length ≤ maxLen := by unfold maxLen; omega
  have hmll : ∀ x ∈ xs, x.lines.length ≤ maxLen := fun x hx => by have := hls x hx; unfold maxLen; omega
  obtain ⟨ad, cap, rfl, -, -, -, -⟩ := id hh
  have hb0 := bel1 w (.cells #[.int .i64 s.cls, .string s.name, .int .i64 s.at'] 42)
  have hs0 := siteNew w s 42
  go_enter Try.func52, Try.ntmps52
  go_wp2_with fail
  refine (towns_any xs _ _ (hh.later goodT hb0) (by omega) (fun x hx => by have := hls x hx; omega)).mono ?_
  rintro e w1 ⟨g, gs, rfl, hown, hg, hb1⟩
  have hs1 := hs0.later hb1
  have hb01 : Below w.heap.size w w1 := nstep1 (Below.refl _ _) hb1
  have hg0 : w.heap.size < g := by simp at hg; omega
  clear hb1 hb0 hs0 hg hh
  go_wp2_with fail
  refine (index44_any _ (fun x => eqS x.site s) xs _ _ (hown.tallies hml hmll (P := fun b => g ≤ b) fun b h _ => h) fun x a n k w' hb' => eqTally_any x a n k _ s w' (hs1.later hb')).mono ?_
  rintro e w2 ⟨rfl, hb2⟩
  replace hown := hown.later hb2
  replace hs1 := hs1.later hb2
  have hb02 : Below w.heap.size w w2 := nstep hb01 hb2
  clear hb2 hb01 hm
  rcases findI_cases (fun x : QT => eqS x.site s) xs with hf | ⟨j, x, hf, hx, hp, hn⟩
  · have HO : Hid (addE xs s c = xs ++ [⟨s, [⟨c, 1⟩]⟩]) := addE_none hf
    rw [hf]
    obtain ⟨s0, s1, s2⟩ := hs1
    have hrow := hown.tallies hml hmll (P := fun b => g ≤ b ∧ b < w2.heap.size) fun b h h' => ⟨h, h'⟩
    go_wp2_with (at_builtin; refine wpList_append_one (R := fun b => g ≤ b ∧ b < w2.heap.size) goodT rfl (.tmp 18) (.tmp 21) 37 rfl 123 _ 56 Try.underlying37 info123 rfl xs _ rfl (hrow.later goodT (bel1 _ _)) _ 123 [.int .i64 s.cls, .string s.name, .int .i64 s.at', .slice none 0 0] rfl (heap_alloc_new _ _) rfl ⟨s, []⟩ (P' := fun b => False) ⟨rfl, rfl, rfl, _, rfl, none, 0, rfl, by simp, by simp, by simp, fun i x hx => by simp at hx⟩ (fun h => by cases h) (by unfold maxLen; omega) hby (fun _ h => h) (fun _ h => h.elim) ?_; intro g' cap' w3 hrow3 hg3 hgl3 hb3 hblk3; obtain ⟨cur3, q1, q2, q3, q4, q5, q6⟩ := hblk3; have k3 := q6 3 _ rfl; have fz3 : ∀ o, w3.frozen? ⟨g', o, none⟩ = false := (fun o => by simp [World.frozen?, q1]); have hn1 : (xs.length : Int) < (xs.length : Int) + 1 := (by omega); have hn0 : (0 : Int) ≤ (xs.length : Int) := (by omega); clear hrow3)
    refine (withOne_nil c w3).mono ?_
    rintro e w4 hleft
    have hg3' : w2.heap.size + 1 ≤ g' := by simpa using hg3
    have hz2 := hb02.size
    have HB34 : Hid (Below w3.heap.size w3 w4) := hleft.below (Nat.le_refl _) (fun b h => by cases h)
    have hb3' : Below w.heap.size w w3 := nstep1 hb02 hb3
    obtain ⟨r0, r1, r2⟩ : w4.cell? ⟨g', xs.length * 4 + 0, none⟩ = some (.int .i64 s.cls) ∧ w4.cell? ⟨g', xs.length * 4 + 1, none⟩ = some (.string s.name) ∧ w4.cell? ⟨g', xs.length * 4 + 2, none⟩ = some (.int .i64 s.at') := ⟨cell_later HB34.out (q6 0 _ rfl), cell_later HB34.out (q6 1 _ rfl), cell_later HB34.out (q6 2 _ rfl)⟩
    have r3 := cell_later HB34.out k3
    have f4 : ∀ o, w4.frozen? ⟨g', o, none⟩ = false := fun o => (hleft.frozen hgl3 (by simp) o).trans (fz3 o)
    obtain ⟨g4, cap4, rfl, hL4, hor4, hgl4, -⟩ := hleft
    have hor4' : w3.heap.size ≤ g4 := hor4.resolve_left (by simp)
    have HOTH : Hid (∀ i y, i ≠ xs.length → (xs ++ [(⟨s, []⟩ : QT)])[i]? = some y → ∃ R : Nat → Prop, ¬ R g' ∧ (∀ b, R b → w.heap.size ≤ b) ∧ TallyC R w4 (fun k => w4.cell? ⟨g', i * 4 + k, none⟩) y) := fun i y hi hy => by
      refine ⟨fun b => g ≤ b ∧ b < w2.heap.size, fun h => by omega, fun b h => by omega, ?_⟩
      refine goodT.move (q5.2 i y hy) (fun _ h => h) (.of_below HB34.out) fun k hk v hv => ?_
      rw [List.getElem?_take] at hv
      split at hv
      · refine cell_later HB34.out ?_
        rw [cell_of_row _ _ _ _ _ _ q1]
        simpa using hv
      · cases hv
    clear hb3 k3 fz3 q6 q5 hrow hf hgl3
    go_wp2_with fail
    go_ret
    rw [HO.out]
    refine ⟨g', cap', by simp, ?_, (hb3'.trans (HB34.out.mono hb3'.size)).setCell (by simp; omega) _⟩
    have := put_tally (g := g') (j := xs.length) (cap := cap') (xs := xs ++ [⟨s, []⟩]) (x := ⟨s, []⟩) (S := fun b => w.heap.size ≤ b) (by simp) HOTH.out r0 r1 r2 r3 hL4 (by intro h; have := blk_lt q1; omega) (fun b h => by have := hb3'.size; omega) (by omega) (by simpa using q3) q4
    simpa using this
  · have HO : Hid (addE xs s c = xs.set j ⟨x.site, oneMore x.lines c⟩) := addE_at hx hp hn
    have hj := lt_of_get hx
    have hj0 : (0 : Int) ≤ (j : Int) := by omega
    have hj1 : (j : Int) < (xs.length : Int) := by omega
    have hlx := hls x (List.mem_of_getElem? hx)
    have HX : Hid (xs[j]? = some x) := hx
    rw [hf]
    obtain ⟨k0, k1, k2, k3⟩ := hown.cells j x hj hx
    have hol := hown.lines j x hj hx
    have hrj := hown.reach j hj
    have fz2 : ∀ o, w2.frozen? ⟨g, o, none⟩ = false := by
      obtain ⟨cur, h1, -⟩ := hown.row
      intro o; simp [World.frozen?, h1]
    clear hf hn hx hs1
    go_wp2_with fail
    refine (withOne_own x.lines (gs j) c w2 hol hlx).mono ?_
    rintro e w3 hleft
    have hz2 := hb02.size
    have HB23 : Hid (Below (gs j) w2 w3) := hleft.below (by omega) (fun b h => by cases h; exact Nat.le_refl _)
    have hne : some g ≠ some (gs j) := by simp; omega
    obtain ⟨r0, r1, r2, r3⟩ : w3.cell? ⟨g, j * 4 + 0, none⟩ = some (.int .i64 x.site.cls) ∧ w3.cell? ⟨g, j * 4 + 1, none⟩ = some (.string x.site.name) ∧ w3.cell? ⟨g, j * 4 + 2, none⟩ = some (.int .i64 x.site.at') ∧ w3.cell? ⟨g, j * 4 + 3, none⟩ = some (.slice (some ⟨gs j, 0, none⟩) x.lines.length x.lines.length) := ⟨hleft.cell k0 hne, hleft.cell k1 hne, hleft.cell k2 hne, hleft.cell k3 hne⟩
    have f3 : ∀ o, w3.frozen? ⟨g, o, none⟩ = false := fun o => (hleft.frozen (by omega) hne o).trans (fz2 o)
    have HOTH : Hid (∀ i y, i ≠ j → xs[i]? = some y → ∃ R : Nat → Prop, ¬ R g ∧ (∀ b, R b → w.heap.size ≤ b) ∧ TallyC R w3 (fun k => w3.cell? ⟨g, i * 4 + k, none⟩) y) := fun i y hi hy => by
      have hil := lt_of_get hy
      have hri := hown.reach i hil
      have hdi : gs i ≠ gs j := by
        rcases Nat.lt_or_ge i j with h | h
        · have := hown.rise i j h hj; omega
        · have := hown.rise j i (by omega) hil; omega
      obtain ⟨c0, c1, c2, c3⟩ := hown.cells i y hil hy
      refine ⟨fun b => b = gs i, fun h => by omega, fun b h => by omega, hleft.cell c0 hne, hleft.cell c1 hne, hleft.cell c2 hne, _, hleft.cell c3 hne, ?_⟩
      refine ((hown.lines i y hil hy).isLines (hmll y (List.mem_of_getElem? hy)) (P := fun b => b = gs i) rfl).keep goodL (fun b o v hb hc => ?_) fun _ h => h
      exact hleft.cell hc (by subst hb; simp; omega)
    obtain ⟨g4, cap4, rfl, hL4, hor4, hgl4, -⟩ := hleft
    clear k0 k1 k2 k3 fz2 hol hown
    go_wp2_with fail
    go_ret
    rw [HO.out]
    refine ⟨g, xs.length, by simp, ?_, (hb02.trans (HB23.out.mono (by omega))).setCell (by simp; omega) _⟩
    have hg4 : g < g4 := by
      rcases hor4 with h | h
      · cases h; omega
      · omega
    have := put_tally (g := g) (j := j) (cap := xs.length) (xs := xs) (x := x) (S := fun b => w.heap.size ≤ b) HX.out HOTH.out r0 r1 r2 r3 hL4 (by omega) (fun b h => by omega) (by omega) (Nat.le_refl _) hml
    simpa using this
end Go.Proofs.Ytdfbgpiikeheiaa

/- cells: Own, Get, withLine. -/
namespace Go.Proofs.Ytdfbgpiikeheiaa
open Go.ChangeShapes Go.WideShapes Go.ChangeAt Go.RowKit
set_option linter.unusedSimpArgs false
set_option linter.unusedVariables false
set_option maxRecDepth 8000

theorem frozen_new (w : World) (cs : Array Value) (t : TypeId) (n j : Nat) (hn : w.heap.size = n) : (w.alloc (.cells cs t)).frozen? ⟨n, j, none⟩ = false := by
  subst hn
  unfold World.frozen?
  rw [show (w.alloc (.cells cs t)).heap[(⟨w.heap.size, j, none⟩ : Addr).block]? = some (.cells cs t) from heap_alloc_new w _]
  simp

/-- Lines without spare room. -/
def Tight (P : Nat → Prop) (w : World) (v : Value) (ls : List QL) : Prop := ∃ a, v = .slice a ls.length ls.length ∧ (a = none → ls = []) ∧ IsLines P w v ls
theorem Tight.keep {P Q : Nat → Prop} {w w' : World} {v : Value} {ls : List QL} (h : Tight P w v ls) (hk : Keeps P w w') (hl : ∀ b, P b → Q b) : Tight Q w' v ls := by
  obtain ⟨a, h1, h2, h3⟩ := h
  exact ⟨a, h1, h2, h3.keep goodL hk hl⟩
theorem Tight.later {P : Nat → Prop} {w w' : World} {v : Value} {ls : List QL} (h : Tight P w v ls) (hb : Below w.heap.size w w') : Tight P w' v ls := h.keep (.of_below hb) fun _ h => h
def CellT : Lay QE := fun P w f x => f 0 = some (.int .i64 x.site.cls) ∧ f 1 = some (.string x.site.name) ∧ f 2 = some (.int .i64 x.site.at') ∧ f 3 = some (.int .i64 x.epoch) ∧ f 4 = some (.bool x.many) ∧ ∃ v, f 5 = some v ∧ Tight P w v x.lines
theorem goodET : Good CellT 6 where
  move h hl hk hf := by
    obtain ⟨h0, h1, h2, h3, h4, v, h5, h6⟩ := h
    exact ⟨hf 0 (by omega) _ h0, hf 1 (by omega) _ h1, hf 2 (by omega) _ h2, hf 3 (by omega) _ h3, hf 4 (by omega) _ h4, v, hf 5 (by omega) _ h5, h6.keep hk hl⟩
  there h k hk := by
    obtain ⟨h0, h1, h2, h3, h4, v, h5, a, rfl, -⟩ := h
    match k, hk with
    | 0, _ => exact ⟨_, h0, rfl⟩
    | 1, _ => exact ⟨_, h1, rfl⟩
    | 2, _ => exact ⟨_, h2, rfl⟩
    | 3, _ => exact ⟨_, h3, rfl⟩
    | 4, _ => exact ⟨_, h4, rfl⟩
    | 5, _ => exact ⟨_, h5, rfl⟩
  pos := by omega
theorem CellT.plain {P : Nat → Prop} {w : World} {f : Nat → Option Value} {x : QE} (h : CellT P w f x) : CellC P w f x := by
  obtain ⟨h0, h1, h2, h3, h4, v, h5, a, -, -, h6⟩ := h
  exact ⟨h0, h1, h2, h3, h4, v, h5, h6⟩
theorem tight_cells {P : Nat → Prop} {w : World} {v : Value} {xs : List QE} (h : IsRow CellT 6 0 P w v xs) : IsCells P w v xs := by
  obtain ⟨ad, cap, h1, h2, h3, h4, h5⟩ := h
  refine ⟨ad, cap, h1, h2, h3, h4, fun i x hx => ?_⟩
  obtain ⟨b, o, e1, e2, e3⟩ := h5 i x hx
  exact ⟨b, o, e1, e2, e3.plain⟩
theorem OwnSt.row0 {α : Type} {E : Lay α} {sz : Nat} {t : TypeId} {w : World} {B : Nat} {xs : List α} (h : OwnSt E sz t w B xs xs.length) (G : Good E sz) (hm : xs.length ≤ maxLen) : IsRow E sz 0 (fun b => B ≤ b ∧ b < w.heap.size) w (.slice (some ⟨B, 0, none⟩) xs.length xs.length) xs := by
  obtain ⟨⟨cur, h1, h2⟩, h3⟩ := h
  refine ⟨_, _, rfl, Nat.le_refl _, hm, by simp, fun i x hx => ⟨B, 0, rfl, ⟨Nat.le_refl _, blk_lt h1⟩, ?_⟩⟩
  exact G.move (h3 i x (lt_of_get hx) hx) (fun b h => ⟨by omega, h.2⟩) (.refl _ _) fun k _ v hv => by rw [Nat.zero_add]; exact hv

theorem info45 : (Try.prog.info? 45).map (fun i => (i.zero, i.size, i.bytes)) = some (some (.agg #[.int .i64 0, .string ⟨#[]⟩, .int .i64 0, .int .i64 0, .bool false, .slice none 0 0]), 6, 72) := by kernel_rfl
theorem make_cells (n : Nat) (hb : n * 72 ≤ 281474976710656) : MadeAt 36 45 #[.int .i64 0, .string ⟨#[]⟩, .int .i64 0, .int .i64 0, .bool false, .slice none 0 0] 6 n := fun w => make_big Try.underlying36 info45 (by omega) n hb rfl w

/-- A cell's cells, in a block of their own. -/
structure BoxE (w : World) (b : Nat) (x : QE) (lv : Value) : Prop where
  c0 : w.cell? ⟨b, 0, none⟩ = some (.int .i64 x.site.cls)
  c1 : w.cell? ⟨b, 1, none⟩ = some (.string x.site.name)
  c2 : w.cell? ⟨b, 2, none⟩ = some (.int .i64 x.site.at')
  c3 : w.cell? ⟨b, 3, none⟩ = some (.int .i64 x.epoch)
  c4 : w.cell? ⟨b, 4, none⟩ = some (.bool x.many)
  c5 : w.cell? ⟨b, 5, none⟩ = some lv
theorem BoxE.later {w w' : World} {b : Nat} {x : QE} {lv : Value} (h : BoxE w b x lv) (hb : Below w.heap.size w w') : BoxE w' b x lv := ⟨cell_later hb h.c0, cell_later hb h.c1, cell_later hb h.c2, cell_later hb h.c3, cell_later hb h.c4, cell_later hb h.c5⟩
theorem boxE_new (w : World) (x : QE) (lv : Value) (t : TypeId) : BoxE (w.alloc (.cells #[.int .i64 x.site.cls, .string x.site.name, .int .i64 x.site.at', .int .i64 x.epoch, .bool x.many, lv] t)) w.heap.size x lv := ⟨by rw [cell_new _ _ _ _ rfl]; rfl, by rw [cell_new _ _ _ _ rfl]; rfl, by rw [cell_new _ _ _ _ rfl]; rfl, by rw [cell_new _ _ _ _ rfl]; rfl, by rw [cell_new _ _ _ _ rfl]; rfl, by rw [cell_new _ _ _ _ rfl]; rfl⟩

theorem tightOf {P : Nat → Prop} {w : World} {g b : Nat} {ls : List QL} (h : IsLines P w (.slice (some ⟨g, 0, none⟩) ls.length ls.length) ls) (hb : ¬ P b) (o : Nat) (u : Value) : Tight P (w.setCell ⟨b, o, none⟩ u) (.slice (some ⟨g, 0, none⟩) ls.length ls.length) ls :=
  ⟨_, rfl, fun h => (by cases h), h.keep goodL (Keeps.of_setCell hb _) fun _ h => h⟩
set_option maxHeartbeats 1000000 in
theorem eowns_any {P : Nat → Prop} (xs : List QE) (v : Value) (w : World) (hh : IsCells P w v xs) (hby : xs.length * 72 ≤ 281474976710656) (hls : ∀ x ∈ xs, x.lines.length * 16 ≤ 281474976710656) : Calls Try.prog 24 #[v] w fun e w' => ∃ g, e = .returned (.slice (some ⟨g, 0, none⟩) xs.length xs.length) ∧ OwnSt CellT 6 45 w' g xs xs.length ∧ w.heap.size ≤ g ∧ Below w.heap.size w w' := by
  obtain ⟨ad, cap, rfl, hl, hcap, -, hrow⟩ := hh
  have hmk := make_cells xs.length hby
  go_enter Try.func24, Try.ntmps24
  go_wp2
  go_loopg [11] xs.length (fun g c wr => ∃ j : Nat, j + g = xs.length ∧ c = .int .i64 j ∧ Below w.heap.size w wr ∧ OwnSt CellT 6 45 wr w.heap.size xs j ∧ w.heap.size < wr.heap.size)
  case atStart => exact ⟨0, by omega, rfl, bel1 _ _, OwnSt.start _ _ (size_madeCells _ _), by simp⟩
  case round =>
    obtain ⟨j, hj, rfl, hbel, hst, hz⟩ := hrel
    clear hmk
    by_cases hlt : j < xs.length
    · obtain ⟨b, o, rfl, -, hv0, hv1, hv2, hv3, hv4, sv, hv5, hsl⟩ := hrow j xs[j] (by simp [hlt])
      have hxj : Hid (xs[j]? = some xs[j]) := by show _ = _; simp [hlt]
      have hlj := hls xs[j] (by simp)
      generalize xs[j] = x at *
      simp only [Nat.add_zero] at hv0
      have u0 := cell_later hbel hv0
      have u1 := cell_later hbel hv1
      have u2 := cell_later hbel hv2
      have u3 := cell_later hbel hv3
      have u4 := cell_later hbel hv4
      have u5 := cell_later hbel hv5
      have hsl2 := hsl.later goodL hbel
      obtain ⟨ad2, cap2, rfl, -, -, -, -⟩ := id hsl2
      clear hv0 hv1 hv2 hv3 hv4 hv5 hsl hrow
      have hj1 : (j : Int) < (xs.length : Int) := by omega
      have hj0 : (0 : Int) ≤ (j : Int) := by omega
      go_wp2_with fail
      refine (ownLinesE_any x.lines _ _ (hsl2.later goodL (bel1 _ _)) hlj).mono ?_
      rintro e w1 ⟨g, rfl, hown, hg, hb⟩
      have hbx := (boxE_new wr x (.slice ad2 x.lines.length cap2) 45).later hb
      have hst1 := (hst.later goodET (bel1 _ _)).later goodET hb
      have hbel1 := nstep1 hbel hb
      have hg0 : wr.heap.size < g := by simp at hg; omega
      have hfz : ∀ o, w1.frozen? ⟨wr.heap.size, o, none⟩ = false := fun o => (hb.frozen (p := ⟨wr.heap.size, o, none⟩) (by simp)).trans (frozen_new wr _ _ _ _ rfl)
      have hz1 : wr.heap.size + 1 ≤ w1.heap.size := by have := hb.size; simpa using this
      have hbw1 : Below wr.heap.size wr w1 := nstep1 (Below.refl _ _) hb
      have HST : Hid (OwnSt CellT 6 45 (w1.setCell ⟨wr.heap.size, 5, none⟩ (.slice (some ⟨g, 0, none⟩) x.lines.length x.lines.length)) w.heap.size xs j) := hst.later goodET (hbw1.setCell (Nat.le_refl _) _)
      have HLN : Hid (Tight (fun b => b = g) (w1.setCell ⟨wr.heap.size, 5, none⟩ (.slice (some ⟨g, 0, none⟩) x.lines.length x.lines.length)) (.slice (some ⟨g, 0, none⟩) x.lines.length x.lines.length) x.lines) := tightOf (hown.isLines (by unfold maxLen; omega) (P := fun b => b = g) rfl) (by show ¬ (wr.heap.size = g); omega) _ _
      have HGL : Hid (g < w1.heap.size) := by obtain ⟨⟨cur', q1, -⟩, -⟩ := hown; exact blk_lt q1
      clear hst hsl2 u0 u1 u2 u3 u4 u5 hb hg hbw1 hown
      generalize wr.heap.size = TB at *
      obtain ⟨c0, c1, c2, c3, c4, c5⟩ := hbx
      obtain ⟨⟨cur, k1, k2⟩, k3⟩ := id hst1
      have f1 : ∀ o, w1.frozen? ⟨w.heap.size, o, none⟩ = false := hst1.unfrozen
      have hne1 : ¬ TB = w.heap.size := by omega
      have hne2 : ¬ w.heap.size = TB := by omega
      have e0 : w1.cell? ⟨w.heap.size, j * 6, none⟩ = some (cur[j * 6]'(by omega)) := (by rw [cell_of_row _ _ _ _ _ _ k1]; simp)
      have e1 : w1.cell? ⟨w.heap.size, j * 6 + 1, none⟩ = some (cur[j * 6 + 1]'(by omega)) := (by rw [cell_of_row _ _ _ _ _ _ k1]; simp)
      have e2 : w1.cell? ⟨w.heap.size, j * 6 + 2, none⟩ = some (cur[j * 6 + 2]'(by omega)) := (by rw [cell_of_row _ _ _ _ _ _ k1]; simp)
      have e3 : w1.cell? ⟨w.heap.size, j * 6 + 3, none⟩ = some (cur[j * 6 + 3]'(by omega)) := (by rw [cell_of_row _ _ _ _ _ _ k1]; simp)
      have e4 : w1.cell? ⟨w.heap.size, j * 6 + 4, none⟩ = some (cur[j * 6 + 4]'(by omega)) := (by rw [cell_of_row _ _ _ _ _ _ k1]; simp)
      have e5 : w1.cell? ⟨w.heap.size, j * 6 + 5, none⟩ = some (cur[j * 6 + 5]'(by omega)) := (by rw [cell_of_row _ _ _ _ _ _ k1]; simp)
      go_wp2
      go_roundg (gk - 1)
      case measure => omega
      case rel =>
        refine ⟨j + 1, by omega, by go_num, ((((((hbel1.setCell (p := ⟨TB, 5, none⟩) (by simp; omega) _).setCell (Nat.le_refl _) _).setCell (Nat.le_refl _) _).setCell (Nat.le_refl _) _).setCell (Nat.le_refl _) _).setCell (Nat.le_refl _) _).setCell (Nat.le_refl _) _, ?_, by simp; omega⟩
        refine HST.out.step goodET hxj.out (vs := [.int .i64 x.site.cls, .string x.site.name, .int .i64 x.site.at', .int .i64 x.epoch, .bool x.many, .slice (some ⟨g, 0, none⟩) x.lines.length x.lines.length]) rfl ?_
        exact ⟨rfl, rfl, rfl, rfl, rfl, _, rfl, HLN.out.keep (.refl _ _) fun b h => ⟨by omega, by have := HGL.out; simp; omega⟩⟩
    · obtain rfl : j = xs.length := by omega
      go_wp2
      go_ret
      exact ⟨_, rfl, hst, Nat.le_refl _, hbel⟩

/-- The site's cell, the first one. -/
theorem cellOf_any {P : Nat → Prop} (xs : List QE) (v : Value) (s : QS) (w : World) (hh : IsCells P w v xs) : Calls Try.prog 89 #[v, SV s] w fun e w' => e = .returned (.int .i64 (findI (fun x : QE => eqS x.site s) xs)) ∧ Below w.heap.size w w' := by
  have hm := hmf
  go_enter Try.func89, Try.ntmps89
  go_wp2_with fail
  refine (index49_any _ (fun x : QE => eqS x.site s) xs v _ (hh.later goodE (bel1 _ _)) fun x a n c w' hb => eqCell_any x a n c _ s w' ((siteNew w s 42).later hb)).mono ?_
  rintro e w1 ⟨rfl, hb⟩
  go_wp2
  go_ret
  exact ⟨rfl, nstep1 (Below.refl _ _) hb⟩
theorem lineOf_any {P : Nat → Prop} (xs : List QL) (v : Value) (c : Int) (w : World) (hh : IsLines P w v xs) : Calls Try.prog 90 #[v, .int .i64 c] w fun e w' => e = .returned (.int .i64 (findI (fun x : QL => x.cls == c) xs)) ∧ Below w.heap.size w w' := by
  have hm := hmf
  go_enter Try.func90, Try.ntmps90
  go_wp2_with fail
  refine (index51_any _ (fun x : QL => x.cls == c) xs v _ (hh.later goodL (bel1 _ _)) fun x w' hb => eqLine51_any x _ c w' (cell_later hb (by rw [cell_new _ _ _ _ rfl]; rfl))).mono ?_
  rintro e w1 ⟨rfl, hb⟩
  go_wp2
  go_ret
  exact ⟨rfl, nstep1 (Below.refl _ _) hb⟩

/-- What a line of class c says. -/
def lineE (ls : List QL) (c : Int) : Int := ((ls.find? fun y => y.cls == c).map (·.found)).getD (-1)
/-- What is remembered. -/
def getE (xs : List QE) (s : QS) (ep c : Int) : Int := ((xs.find? fun x => eqS x.site s).map fun x => if x.epoch = ep then lineE x.lines c else -1).getD (-1)
theorem find_none {α : Type} {p : α → Bool} {xs : List α} (h : findI p xs = -1) : xs.find? p = none := by
  rw [List.find?_eq_none]
  intro x hx
  obtain ⟨i, hi, rfl⟩ := List.mem_iff_getElem.1 hx
  unfold findI at h
  cases hf : xs.findIdx? p with
  | none => rw [List.findIdx?_eq_none_iff] at hf; simpa using hf _ hx
  | some k => rw [hf] at h; simp at h
theorem find_at {α : Type} {p : α → Bool} {xs : List α} {j : Nat} {x : α} (hx : xs[j]? = some x) (hp : p x = true) (hn : ∀ i y, i < j → xs[i]? = some y → p y = false) : xs.find? p = some x := by
  induction xs generalizing j with
  | nil => simp at hx
  | cons y r ih =>
    cases j with
    | zero => simp at hx; subst hx; simp [hp]
    | succ j =>
      have hy := hn 0 y (by omega) rfl
      rw [List.find?_cons, hy]
      exact ih (by simpa using hx) (fun i z hi hz => hn (i + 1) z (by omega) (by simpa using hz))

set_option maxHeartbeats 1000000 in
theorem get_any {P : Nat → Prop} (xs : List QE) (v : Value) (s : QS) (ep c : Int) (w : World) (hh : IsCells P w v xs) : Calls Try.prog 67 #[v, SV s, .int .i64 ep, .int .i64 c] w fun e w' => e = .returned (.int .i64 (getE xs s ep c)) ∧ Below w.heap.size w w' := by
  obtain ⟨ad, cap, rfl, hl, hcap, -, -⟩ := id hh
  unfold maxLen at hcap
  have hb0 := bel1 w (.cells #[.int .i64 s.cls, .string s.name, .int .i64 s.at'] 42)
  rcases findI_cases (fun x : QE => eqS x.site s) xs with hf | ⟨j, x, hf, hx, hp, hn⟩
  · have HG : Hid (getE xs s ep c = -1) := by show _ = _; unfold getE; rw [find_none hf]; rfl
    go_enter Try.func67, Try.ntmps67
    go_wp2_with fail
    refine (cellOf_any xs _ s _ (hh.later goodE hb0)).mono ?_
    rintro e w1 ⟨rfl, hb1⟩
    rw [hf]
    go_wp2
    go_ret
    exact ⟨ret_i HG.out.symm, nstep1 (Below.refl _ _) hb1⟩
  · have hj := lt_of_get hx
    have hj0 : (0 : Int) ≤ (j : Int) := by omega
    have hj1 : (j : Int) < (xs.length : Int) := by omega
    have HG0 : Hid (getE xs s ep c = if x.epoch = ep then lineE x.lines c else -1) := by show _ = _; unfold getE; rw [find_at hx hp hn]; rfl
    have HX : Hid (xs[j]? = some x) := hx
    go_enter Try.func67, Try.ntmps67
    go_wp2_with fail
    refine (cellOf_any xs _ s _ (hh.later goodE hb0)).mono ?_
    rintro e w1 ⟨rfl, hb1⟩
    have hbw := nstep1 (Below.refl _ _) hb1
    rw [hf]
    clear hf hx hp hn hb0 hb1
    obtain ⟨ad', cap', e', -, -, -, hrow⟩ := hh.later goodE hbw
    simp only [Value.slice.injEq] at e'
    obtain ⟨rfl, -, -⟩ := e'
    obtain ⟨b, o, rfl, -, -, -, -, q3, -, lv, q5, ql⟩ := hrow j x HX.out
    clear hrow hh
    by_cases he : x.epoch = ep
    · obtain ⟨ad2, cap2, rfl, hl2, hcap2, -, hrow2⟩ := id ql
      unfold maxLen at hcap2
      have HG1 : Hid (getE xs s ep c = lineE x.lines c) := by show _ = _; rw [HG0.out, if_pos he]
      rcases findI_cases (fun y : QL => y.cls == c) x.lines with hf | ⟨q, y, hf, hy, hpy, hny⟩
      · have HG : Hid (getE xs s ep c = -1) := by show _ = _; rw [HG1.out]; unfold lineE; rw [find_none hf]; rfl
        go_wp2_with fail
        refine (lineOf_any x.lines _ c _ ql).mono ?_
        rintro e w2 ⟨rfl, hb2⟩
        rw [hf]
        go_wp2
        go_ret
        exact ⟨ret_i HG.out.symm, nstep hbw hb2⟩
      · have HG : Hid (getE xs s ep c = y.found) := by show _ = _; rw [HG1.out]; unfold lineE; rw [find_at hy hpy hny]; rfl
        have hq := lt_of_get hy
        have hq0 : (0 : Int) ≤ (q : Int) := by omega
        have hq1 : (q : Int) < (x.lines.length : Int) := by omega
        have HY : Hid (x.lines[q]? = some y) := hy
        clear hy hpy hny
        go_wp2_with fail
        refine (lineOf_any x.lines _ c _ ql).mono ?_
        rintro e w2 ⟨rfl, hb2⟩
        rw [hf]
        obtain ⟨b3, o3, rfl, -, y0, y1⟩ := hrow2 q y HY.out
        replace y1 := cell_later hb2 y1
        replace q5 := cell_later hb2 q5
        clear hrow2
        go_wp2
        go_ret
        exact ⟨ret_i HG.out.symm, nstep hbw hb2⟩
    · have HG : Hid (getE xs s ep c = -1) := by show _ = _; rw [HG0.out, if_neg he]
      have hd : (x.epoch != ep) = true := by simpa using he
      go_wp2
      go_ret
      exact ⟨ret_i HG.out.symm, hbw⟩
end Go.Proofs.Ytdfbgpiikeheiaa

/- cells: withLine, Put. -/
namespace Go.Proofs.Ytdfbgpiikeheiaa
open Go.ChangeShapes Go.WideShapes Go.ChangeAt Go.RowKit
set_option linter.unusedSimpArgs false
set_option linter.unusedVariables false
set_option maxRecDepth 8000

/-- A line more, if there is need of it and room for it. -/
def withLineE (x : QE) (y : QL) : QE := if x.many = true ∨ 0 ≤ findI (fun z : QL => z.cls == y.cls) x.lines then x else if 3 ≤ x.lines.length then ⟨x.site, x.epoch, true, []⟩ else ⟨x.site, x.epoch, x.many, x.lines ++ [y]⟩

theorem cell_setc (w : World) (b o : Nat) (u : Value) {v : Value} (h : w.cell? ⟨b, o, none⟩ = some v) : (w.setCell ⟨b, o, none⟩ u).cell? ⟨b, o, none⟩ = some u := cell_set_self h u

/-- What withLine leaves. -/
def WLeft (P : Nat → Prop) (w : World) (x : QE) (e : Ending) (w' : World) : Prop :=
  ∃ a n c, e = .returned (EV x (.slice a n c)) ∧ n = x.lines.length ∧ IsLines (fun b => P b ∨ w.heap.size ≤ b) w' (.slice a n c) x.lines ∧ Below w.heap.size w w'

theorem linesOf {w : World} {g cap n : Nat} {ls : List QL} {R : Nat → Prop} {vs : List Value} (h : ∃ cur : Array Value, w.heap[g]? = some (.cells cur 165 (0, 0)) ∧ cur.size = cap * 2 ∧ n + 1 ≤ cap ∧ cap ≤ maxLen ∧ Cells LineC 2 R w (cur.toList.take ((n + 1) * 2)) ls ∧ ∀ k v, vs[k]? = some v → w.cell? ⟨g, n * 2 + k, none⟩ = some v) (hn : ls.length = n + 1 := by simp) : IsLines (fun b => b = g) w (.slice (some ⟨g, 0, none⟩) (n + 1) cap) ls := by
  obtain ⟨cur, q1, q2, q3, q4, q5, -⟩ := h
  have := Cells.row (E := LineC) (sz := 2) (bytes := 0) (P := fun b => b = g) (xs := ls) (g := g) (cap := cap) ⟨q5.1, q5.2⟩ goodL rfl q1 (by rw [hn]) (by omega) q4 (by simp)
  rw [hn] at this
  exact this
set_option maxHeartbeats 2000000 in
theorem withLine_any {P : Nat → Prop} (x : QE) (y : QL) (lv : Value) (w : World) (hh : Tight P w lv x.lines) : Calls Try.prog 91 #[EV x lv, LV y] w fun e w' => WLeft P w (withLineE x y) e w' := by
  obtain ⟨ad, rfl, hnone, hl⟩ := hh
  have hb3 := bel3 w (.cells #[.int .i64 x.site.cls, .string x.site.name, .int .i64 x.site.at', .int .i64 x.epoch, .bool x.many, .slice ad x.lines.length x.lines.length] 45) (.cells #[.int .i64 y.cls, .int .i64 y.found] 165) (.cells #[.int .i64 0, .string ⟨#[]⟩, .int .i64 0, .int .i64 0, .bool false, .slice none 0 0] 45)
  by_cases hm : x.many = true
  · have HW : Hid (withLineE x y = x) := by show _ = _; unfold withLineE; rw [if_pos (Or.inl hm)]
    go_enter Try.func91, Try.ntmps91
    go_wp2
    refine bodyPost_ret (v := EV x (.slice ad x.lines.length x.lines.length)) ?_ rfl ?_
    · simp [results, Try.results91, go_sem, hm]
    · rw [HW.out]
      refine ⟨ad, _, _, rfl, rfl, ?_, ?_⟩
      · exact (hl.later goodL (bel3 _ _ _ _)).mono goodL fun b h => Or.inl h
      · exact bel3 _ _ _ _
  · have hm' : x.many = false := by simpa using hm
    clear hm
    have hX := ((boxE_new w x (.slice ad x.lines.length x.lines.length) 45).later (bel1 _ (.cells #[.int .i64 y.cls, .int .i64 y.found] 165))).later (bel1 _ (.cells #[.int .i64 0, .string ⟨#[]⟩, .int .i64 0, .int .i64 0, .bool false, .slice none 0 0] 45))
    have hZ := boxE_new ((w.alloc (.cells #[.int .i64 x.site.cls, .string x.site.name, .int .i64 x.site.at', .int .i64 x.epoch, .bool x.many, .slice ad x.lines.length x.lines.length] 45)).alloc (.cells #[.int .i64 y.cls, .int .i64 y.found] 165)) ⟨⟨0, ⟨#[]⟩, 0⟩, 0, false, []⟩ (.slice none 0 0) 45
    have hzs : ((w.alloc (.cells #[.int .i64 x.site.cls, .string x.site.name, .int .i64 x.site.at', .int .i64 x.epoch, .bool x.many, .slice ad x.lines.length x.lines.length] 45)).alloc (.cells #[.int .i64 y.cls, .int .i64 y.found] 165)).heap.size = w.heap.size + 1 + 1 := by simp
    rw [hzs] at hZ
    have hY0 : (((w.alloc (.cells #[.int .i64 x.site.cls, .string x.site.name, .int .i64 x.site.at', .int .i64 x.epoch, .bool x.many, .slice ad x.lines.length x.lines.length] 45)).alloc (.cells #[.int .i64 y.cls, .int .i64 y.found] 165)).alloc (.cells #[.int .i64 0, .string ⟨#[]⟩, .int .i64 0, .int .i64 0, .bool false, .slice none 0 0] 45)).cell? ⟨w.heap.size + 1, 0, none⟩ = some (.int .i64 y.cls) := cell_later (bel1 _ _) (by rw [cell_new _ _ _ _ (by simp)]; rfl)
    have hY1 : (((w.alloc (.cells #[.int .i64 x.site.cls, .string x.site.name, .int .i64 x.site.at', .int .i64 x.epoch, .bool x.many, .slice ad x.lines.length x.lines.length] 45)).alloc (.cells #[.int .i64 y.cls, .int .i64 y.found] 165)).alloc (.cells #[.int .i64 0, .string ⟨#[]⟩, .int .i64 0, .int .i64 0, .bool false, .slice none 0 0] 45)).cell? ⟨w.heap.size + 1, 1, none⟩ = some (.int .i64 y.found) := cell_later (bel1 _ _) (by rw [cell_new _ _ _ _ (by simp)]; rfl)
    have hF0 : ∀ o, (((w.alloc (.cells #[.int .i64 x.site.cls, .string x.site.name, .int .i64 x.site.at', .int .i64 x.epoch, .bool x.many, .slice ad x.lines.length x.lines.length] 45)).alloc (.cells #[.int .i64 y.cls, .int .i64 y.found] 165)).alloc (.cells #[.int .i64 0, .string ⟨#[]⟩, .int .i64 0, .int .i64 0, .bool false, .slice none 0 0] 45)).frozen? ⟨w.heap.size, o, none⟩ = false := fun o => ((bel2 _ _ _).frozen (p := ⟨w.heap.size, o, none⟩) (by simp)).trans (frozen_new w _ _ _ _ rfl)
    have hF2 : ∀ o, (((w.alloc (.cells #[.int .i64 x.site.cls, .string x.site.name, .int .i64 x.site.at', .int .i64 x.epoch, .bool x.many, .slice ad x.lines.length x.lines.length] 45)).alloc (.cells #[.int .i64 y.cls, .int .i64 y.found] 165)).alloc (.cells #[.int .i64 0, .string ⟨#[]⟩, .int .i64 0, .int .i64 0, .bool false, .slice none 0 0] 45)).frozen? ⟨w.heap.size + 1 + 1, o, none⟩ = false := fun o => frozen_new _ _ _ _ _ hzs
    have hl3 := hl.later goodL hb3
    have hz3 : (((w.alloc (.cells #[.int .i64 x.site.cls, .string x.site.name, .int .i64 x.site.at', .int .i64 x.epoch, .bool x.many, .slice ad x.lines.length x.lines.length] 45)).alloc (.cells #[.int .i64 y.cls, .int .i64 y.found] 165)).alloc (.cells #[.int .i64 0, .string ⟨#[]⟩, .int .i64 0, .int .i64 0, .bool false, .slice none 0 0] 45)).heap.size = w.heap.size + 3 := by simp
    rw [hm'] at hb3 hX hZ hY0 hY1 hF0 hF2 hl3 hz3
    go_enter Try.func91, Try.ntmps91
    go_upto_region 1 with (fail)
    generalize (((w.alloc (.cells #[.int .i64 x.site.cls, .string x.site.name, .int .i64 x.site.at', .int .i64 x.epoch, .bool false, .slice ad x.lines.length x.lines.length] 45)).alloc (.cells #[.int .i64 y.cls, .int .i64 y.found] 165)).alloc (.cells #[.int .i64 0, .string ⟨#[]⟩, .int .i64 0, .int .i64 0, .bool false, .slice none 0 0] 45)) = W3 at *
    have hne02 : ¬ w.heap.size = w.heap.size + 1 + 1 := by omega
    have hne20 : ¬ w.heap.size + 1 + 1 = w.heap.size := by omega
    have hLast : ∀ {w1 : World} {u0 u1 u2 u3 u4 u5 : Value}, Below W3.heap.size W3 w1 → Below w.heap.size w ((((((w1.setCell ⟨w.heap.size + 1 + 1, 0, none⟩ u0).setCell ⟨w.heap.size + 1 + 1, 1, none⟩ u1).setCell ⟨w.heap.size + 1 + 1, 2, none⟩ u2).setCell ⟨w.heap.size + 1 + 1, 3, none⟩ u3).setCell ⟨w.heap.size + 1 + 1, 4, none⟩ u4).setCell ⟨w.heap.size + 1 + 1, 5, none⟩ u5) := fun h => ((((((hb3.trans (h.mono hb3.size)).setCell (by simp; omega) _).setCell (by simp; omega) _).setCell (by simp; omega) _).setCell (by simp; omega) _).setCell (by simp; omega) _).setCell (by simp; omega) _
    obtain ⟨x0, x1, x2, x3, x4, x5⟩ := id hX
    rcases findI_cases (fun z : QL => z.cls == y.cls) x.lines with hf | ⟨j, z, hf, hz, hp, hn⟩
    · by_cases h3 : 3 ≤ x.lines.length
      · have HW : Hid (withLineE x y = ⟨x.site, x.epoch, true, []⟩) := by show _ = _; unfold withLineE; rw [if_neg (by rw [hf, hm']; simp), if_pos h3]
        have h3' : (3 : Int) ≤ (x.lines.length : Int) := by omega
        go_wp2_with fail
        refine (lineOf_any x.lines _ y.cls _ hl3).mono ?_
        rintro e w1 ⟨rfl, hb1⟩
        rw [hf]
        obtain ⟨x0, x1, x2, x3, x4, x5⟩ := hX.later hb1
        obtain ⟨z0, z1, z2, z3, z4, z5⟩ := hZ.later hb1
        have f2 := fun o => (hb1.frozen (p := ⟨w.heap.size + 1 + 1, o, none⟩) (by simp; omega)).trans (hF2 o)
        go_wp2
        refine bodyPost_ret (v := EV ⟨x.site, x.epoch, true, []⟩ (.slice none 0 0)) ?_ rfl ?_
        · simp [results, Try.results91, go_sem, z0, z1, z2, z3, z4, z5]
        · rw [HW.out]
          exact ⟨none, 0, 0, rfl, rfl, ⟨none, 0, rfl, by simp, by simp, by simp, fun i x hx => by simp at hx⟩, hLast hb1⟩
      · have HW : Hid (withLineE x y = ⟨x.site, x.epoch, false, x.lines ++ [y]⟩) := by show _ = _; unfold withLineE; rw [if_neg (by rw [hf, hm']; simp), if_neg h3, hm']
        have h3' : (x.lines.length : Int) < (3 : Int) := by omega
        go_wp2_with fail
        refine (lineOf_any x.lines _ y.cls _ hl3).mono ?_
        rintro e w1 ⟨rfl, hb1⟩
        rw [hf]
        have hX1 := hX.later hb1
        have hZ1 := hZ.later hb1
        obtain ⟨x0, x1, x2, x3, x4, x5⟩ := id hX1
        have y0 := cell_later hb1 hY0
        have y1 := cell_later hb1 hY1
        have f0 := fun o => (hb1.frozen (p := ⟨w.heap.size, o, none⟩) (by simp; omega)).trans (hF0 o)
        have f2 := fun o => (hb1.frozen (p := ⟨w.heap.size + 1 + 1, o, none⟩) (by simp; omega)).trans (hF2 o)
        have hl1 := hl3.later goodL hb1
        have hz1 : w.heap.size + 3 ≤ w1.heap.size := by have := hb1.size; omega
        go_wp2_with (at_builtin; refine wpList_append_one (R := P) goodL rfl (.tmp 26) (.tmp 28) 43 rfl 165 _ 16 Try.underlying43 info165 rfl x.lines _ rfl (hl1.later goodL (bel1 _ _)) _ 165 [.int .i64 y.cls, .int .i64 y.found] rfl (heap_alloc_new _ _) rfl y (P' := fun b => False) ⟨rfl, rfl⟩ hnone (by unfold maxLen; omega) (by omega) (fun _ h => h) (fun _ h => h.elim) ?_; intro g2 cap2 w2 hrow2 hg2 hgl2 hb2 hblk2; have hb12 := nstep1 (Below.refl _ _) hb2; obtain ⟨x0, x1, x2, x3, x4, x5⟩ := hX1.later hb12; obtain ⟨z0, z1, z2, z3, z4, z5⟩ := hZ1.later hb12; have g0 := fun o => (hb12.frozen (p := ⟨w.heap.size, o, none⟩) (by simp; omega)).trans (f0 o); have g2' := fun o => (hb12.frozen (p := ⟨w.heap.size + 1 + 1, o, none⟩) (by simp; omega)).trans (f2 o); have HL2 : Hid (IsLines (fun b => b = g2) w2 (.slice (some ⟨g2, 0, none⟩) (x.lines.length + 1) cap2) (x.lines ++ [y])) := linesOf hblk2; clear hrow2 hblk2)
        have hg2' : w.heap.size + 3 ≤ g2 := by simp at hg2; omega
        refine bodyPost_ret (v := EV ⟨x.site, x.epoch, false, x.lines ++ [y]⟩ (.slice (some ⟨g2, 0, none⟩) (x.lines.length + 1) cap2)) ?_ rfl ?_
        · simp [results, Try.results91, go_sem, z0, z1, z2, z3, z4, z5]
        · rw [HW.out]
          have hbw2 : Below w.heap.size w w2 := hb3.trans ((hb1.mono hb3.size).trans (hb12.mono (by have := hb1.size; omega)))
          refine ⟨some ⟨g2, 0, none⟩, _, cap2, rfl, by simp, ?_, ((((((hbw2.setCell (Nat.le_refl _) _).setCell (by simp; omega) _).setCell (by simp; omega) _).setCell (by simp; omega) _).setCell (by simp; omega) _).setCell (by simp; omega) _).setCell (by simp; omega) _⟩
          refine HL2.out.keep goodL ?_ (fun b h => Or.inr (by omega))
          exact keep_set (keep_set (keep_set (keep_set (keep_set (keep_set (keep_set (Keeps.refl _ _) (by show ¬ (_ = g2); omega) _) (by show ¬ (_ = g2); omega) _) (by show ¬ (_ = g2); omega) _) (by show ¬ (_ = g2); omega) _) (by show ¬ (_ = g2); omega) _) (by show ¬ (_ = g2); omega) _) (by show ¬ (_ = g2); omega) _
    · have HW : Hid (withLineE x y = x) := by show _ = _; unfold withLineE; rw [if_pos (Or.inr (by rw [hf]; omega))]
      have hj0 : (0 : Int) ≤ (j : Int) := by omega
      clear hz hp hn
      go_wp2_with fail
      refine (lineOf_any x.lines _ y.cls _ hl3).mono ?_
      rintro e w1 ⟨rfl, hb1⟩
      rw [hf]
      obtain ⟨x0, x1, x2, x3, x4, x5⟩ := hX.later hb1
      obtain ⟨z0, z1, z2, z3, z4, z5⟩ := hZ.later hb1
      have f2 := fun o => (hb1.frozen (p := ⟨w.heap.size + 1 + 1, o, none⟩) (by simp; omega)).trans (hF2 o)
      go_wp2
      refine bodyPost_ret (v := EV x (.slice ad x.lines.length x.lines.length)) ?_ rfl ?_
      · simp [results, Try.results91, go_sem, z0, z1, z2, z3, z4, z5, hm']
      · rw [HW.out]
        exact ⟨ad, _, _, rfl, rfl, (hl.later goodL (hLast hb1)).mono goodL fun b h => Or.inl h, hLast hb1⟩
end Go.Proofs.Ytdfbgpiikeheiaa

/- cells.Put. -/
namespace Go.Proofs.Ytdfbgpiikeheiaa
open Go.ChangeShapes Go.WideShapes Go.ChangeAt Go.RowKit
set_option linter.unusedSimpArgs false
set_option linter.unusedVariables false
set_option maxRecDepth 8000

/-- A cell of another epoch is so anew. -/
def freshE (x : QE) (s : QS) (ep : Int) : QE := if x.epoch = ep then x else ⟨s, ep, false, []⟩
/-- What was found is remembered. -/
def putE : List QE → QS → Int → QL → List QE
  | [], s, ep, y => [withLineE ⟨s, ep, false, []⟩ y]
  | x :: r, s, ep, y => if eqS x.site s then withLineE (freshE x s ep) y :: r else x :: putE r s ep y
theorem putE_none : ∀ {xs : List QE} {s : QS} {ep : Int} {y : QL}, findI (fun x => eqS x.site s) xs = -1 → putE xs s ep y = xs ++ [withLineE ⟨s, ep, false, []⟩ y]
  | [], s, ep, y, _ => rfl
  | x :: r, s, ep, y, h => by
    have hx : eqS x.site s = false := by
      cases hb : eqS x.site s with
      | false => rfl
      | true => rw [findI_at (j := 0) (x := x) rfl hb (fun i y hi _ => by omega)] at h; simp at h
    have hr : findI (fun x : QE => eqS x.site s) r = -1 := by
      unfold findI at h ⊢
      rw [List.findIdx?_cons, hx] at h
      cases hf : r.findIdx? (fun x => eqS x.site s) with
      | none => rfl
      | some k => rw [hf] at h; simp at h; omega
    simp [putE, hx, putE_none hr]
theorem putE_at : ∀ {xs : List QE} {s : QS} {ep : Int} {y : QL} {j : Nat} {x : QE}, xs[j]? = some x → eqS x.site s = true → (∀ i z, i < j → xs[i]? = some z → eqS z.site s = false) → putE xs s ep y = xs.set j (withLineE (freshE x s ep) y)
  | [], s, ep, y, j, x, h, _, _ => by simp at h
  | z :: r, s, ep, y, 0, x, h, hp, _ => by
    simp at h; subst h
    simp [putE, hp]
  | z :: r, s, ep, y, j + 1, x, h, hp, hn => by
    have hz := hn 0 z (by omega) rfl
    simp only [putE, hz, List.set_cons_succ]
    rw [putE_at (xs := r) (j := j) (x := x) (by simpa using h) hp (fun i u hi hu => hn (i + 1) u (by omega) (by simpa using hu))]
    rfl

/-- One element of a row is another. -/
theorem row_set {α : Type} {E : Lay α} {sz : Nat} (G : Good E sz) {w : World} {g j cap : Nat} {xs : List α} {x' : α} {vs : List Value} {Q S : Nat → Prop} (hj : j < xs.length)
    (hoth : ∀ i y, i ≠ j → xs[i]? = some y → ∃ R : Nat → Prop, ¬ R g ∧ (∀ b, R b → S b) ∧ E R w (fun k => w.cell? ⟨g, i * sz + k, none⟩) y)
    (hblk : ∀ k, k < sz → ∃ u, w.cell? ⟨g, j * sz + k, none⟩ = some u) (hl : vs.length = sz) (hE : E Q w (fun k => vs[k]?) x') (hQ : ¬ Q g) (hQS : ∀ b, Q b → S b) (hSg : S g) (hc1 : xs.length ≤ cap) (hc2 : cap ≤ maxLen) :
    IsRow E sz 0 S (w.setCells g (j * sz) vs) (.slice (some ⟨g, 0, none⟩) xs.length cap) (xs.set j x') := by
  have hK : ∀ R : Nat → Prop, ¬ R g → Keeps R w (w.setCells g (j * sz) vs) := fun R hR => Keeps.of_block fun b hb _ => setCells_else (by intro e; subst e; exact hR hb) _ _ _
  refine ⟨some ⟨g, 0, none⟩, cap, by simp, by simpa using hc1, hc2, by simp, fun i y hy => ⟨g, 0, rfl, hSg, ?_⟩⟩
  by_cases hij : i = j
  · subst hij
    rw [List.getElem?_set_self hj] at hy
    cases hy
    refine G.move hE hQS (hK Q hQ) fun k hk v hv => ?_
    have := World.cell?_setCells_in g vs (i * sz) w (fun q hq => by obtain ⟨u, hu⟩ := hblk q (by omega); rw [hu]; rfl) k (by omega)
    rw [Nat.zero_add, this]
    rw [List.getElem?_eq_getElem (by omega)] at hv
    exact hv
  · rw [List.getElem?_set_ne (by omega)] at hy
    obtain ⟨R, hR, hRS, hT⟩ := hoth i y hij hy
    refine G.move hT hRS (hK R hR) fun k hk v hv => ?_
    rw [Nat.zero_add, World.cell?_setCells_out g vs (j * sz) w _ (fun q hq => ?_)]
    · exact hv
    · by_cases hlt : i < j
      · left
        have := Nat.mul_le_mul_right sz (show i + 1 ≤ j by omega)
        rw [Nat.add_mul] at this
        simp; omega
      · right
        have := Nat.mul_le_mul_right sz (show j + 1 ≤ i by omega)
        rw [Nat.add_mul] at this
        simp; omega

set_option maxHeartbeats 4000000 in
theorem put_any {P : Nat → Prop} (xs : List QE) (v : Value) (s : QS) (ep c fd : Int) (w : World) (hh : IsCells P w v xs) (hby : (xs.length + 1) * 72 ≤ 140737488355328) (hls : ∀ x ∈ xs, x.lines.length * 16 ≤ 281474976710656) :
    Calls Try.prog 68 #[v, SV s, .int .i64 ep, .int .i64 c, .int .i64 fd] w fun e w' => ∃ g cap, e = .returned (.slice (some ⟨g, 0, none⟩) (putE xs s ep ⟨c, fd⟩).length cap) ∧ IsCells (fun b => w.heap.size ≤ b) w' (.slice (some ⟨g, 0, none⟩) (putE xs s ep ⟨c, fd⟩).length cap) (putE xs s ep ⟨c, fd⟩) ∧ Below w.heap.size w w' := by
  have hml : xs.length ≤ maxLen := by unfold maxLen; omega
  obtain ⟨ad, cap, rfl, -, -, -, -⟩ := id hh
  have hb0 := bel1 w (.cells #[.int .i64 s.cls, .string s.name, .int .i64 s.at'] 42)
  have hs0 := siteNew w s 42
  go_enter Try.func68, Try.ntmps68
  go_wp2_with fail
  refine (eowns_any xs _ _ (hh.later goodE hb0) (by omega) hls).mono ?_
  rintro e w1 ⟨g, rfl, hown, hg, hb1⟩
  have hs1 := hs0.later hb1
  have hb01 : Below w.heap.size w w1 := nstep1 (Below.refl _ _) hb1
  have hg0 : w.heap.size < g := by simp at hg; omega
  clear hb1 hb0 hs0 hg hh
  obtain ⟨s0, s1, s2⟩ := id hs1
  go_wp2_with fail
  refine (cellOf_any xs _ s _ (tight_cells (hown.row0 goodET hml))).mono ?_
  rintro e w2 ⟨rfl, hb2⟩
  replace hown := hown.later goodET hb2
  obtain ⟨s0, s1, s2⟩ := hs1.later hb2
  have hb02 : Below w.heap.size w w2 := nstep hb01 hb2
  clear hb2 hb01
  rcases findI_cases (fun x : QE => eqS x.site s) xs with hf | ⟨j, x, hf, hx, hp, hn⟩
  · have HO : Hid (putE xs s ep ⟨c, fd⟩ = xs ++ [withLineE ⟨s, ep, false, []⟩ ⟨c, fd⟩]) := putE_none hf
    rw [hf]
    have hrow := hown.row0 goodET hml
    go_wp2_with (at_builtin; refine wpList_append_one (R := fun b => g ≤ b ∧ b < w2.heap.size) goodET rfl (.tmp 22) (.tmp 26) 36 rfl 45 _ 72 Try.underlying36 info45 rfl xs _ rfl (hrow.later goodET (bel1 _ _)) _ 45 [.int .i64 s.cls, .string s.name, .int .i64 s.at', .int .i64 ep, .bool false, .slice none 0 0] rfl (heap_alloc_new _ _) rfl ⟨s, ep, false, []⟩ (P' := fun b => False) ⟨rfl, rfl, rfl, rfl, rfl, _, rfl, none, rfl, fun _ => rfl, none, 0, rfl, by simp, by simp, by simp, fun i x hx => by simp at hx⟩ (fun h => by cases h) (by unfold maxLen; omega) hby (fun _ h => h) (fun _ h => h.elim) ?_; intro g' cap' w3 hrow3 hg3 hgl3 hb3 hblk3; obtain ⟨cur3, q1, q2, q3, q4, q5, q6⟩ := hblk3; have k0 := q6 0 _ rfl; have k1 := q6 1 _ rfl; have k2 := q6 2 _ rfl; have k3 := q6 3 _ rfl; have k4 := q6 4 _ rfl; have k5 := q6 5 _ rfl; simp only [Nat.add_zero] at k0; have fz3 : ∀ o, w3.frozen? ⟨g', o, none⟩ = false := (fun o => by simp [World.frozen?, q1]); have hn1 : (xs.length : Int) < (xs.length : Int) + 1 := (by omega); have hn0 : (0 : Int) ≤ (xs.length : Int) := (by omega); clear hrow3)
    refine (withLine_any (P := fun _ => False) ⟨s, ep, false, []⟩ ⟨c, fd⟩ _ w3 ⟨none, rfl, fun _ => rfl, none, 0, rfl, by simp, by simp, by simp, fun i x hx => by simp at hx⟩).mono ?_
    rintro e w4 ⟨a4, n4, c4, rfl, hn4, hL4, hb4⟩
    have hg3' : w2.heap.size + 1 ≤ g' := by simpa using hg3
    have hz2 := hb02.size
    have hb3' : Below w.heap.size w w3 := nstep1 hb02 hb3
    have hz3 := hb3'.size
    generalize withLineE ⟨s, ep, false, []⟩ ⟨c, fd⟩ = x' at *
    have k0 := cell_later hb4 k0
    have k1 := cell_later hb4 k1
    have k2 := cell_later hb4 k2
    have k3 := cell_later hb4 k3
    have k4 := cell_later hb4 k4
    have k5 := cell_later hb4 k5
    have f4 : ∀ o, w4.frozen? ⟨g', o, none⟩ = false := fun o => (hb4.frozen (p := ⟨g', o, none⟩) hgl3).trans (fz3 o)
    have HOTH : Hid (∀ i y, i ≠ xs.length → (xs ++ [(⟨s, ep, false, []⟩ : QE)])[i]? = some y → ∃ R : Nat → Prop, ¬ R g' ∧ (∀ b, R b → w.heap.size ≤ b) ∧ CellC R w4 (fun k => w4.cell? ⟨g', i * 6 + k, none⟩) y) := fun i y hi hy => by
      refine ⟨fun b => g ≤ b ∧ b < w2.heap.size, fun h => by omega, fun b h => by omega, CellT.plain ?_⟩
      refine goodET.move (q5.2 i y hy) (fun _ h => h) (.of_below hb4) fun k hk v hv => ?_
      rw [List.getElem?_take] at hv
      split at hv
      · refine cell_later hb4 ?_
        rw [cell_of_row _ _ _ _ _ _ q1]
        simpa using hv
      · cases hv
    have HBK : Hid (∀ k, k < 6 → ∃ u, w4.cell? ⟨g', xs.length * 6 + k, none⟩ = some u) := fun k hk => by
      match k, hk with
      | 0, _ => exact ⟨_, k0⟩
      | 1, _ => exact ⟨_, k1⟩
      | 2, _ => exact ⟨_, k2⟩
      | 3, _ => exact ⟨_, k3⟩
      | 4, _ => exact ⟨_, k4⟩
      | 5, _ => exact ⟨_, k5⟩
    clear hb3 fz3 q6 q5 hrow hf hown
    subst hn4
    go_wp2_with fail
    go_ret
    rw [HO.out]
    refine ⟨g', cap', by simp, ?_, ((((((hb3'.trans (hb4.mono hz3)).setCell (by simp; omega) _).setCell (by simp; omega) _).setCell (by simp; omega) _).setCell (by simp; omega) _).setCell (by simp; omega) _).setCell (by simp; omega) _⟩
    have := row_set goodE (g := g') (j := xs.length) (cap := cap') (xs := xs ++ [⟨s, ep, false, []⟩]) (x' := x') (vs := [.int .i64 x'.site.cls, .string x'.site.name, .int .i64 x'.site.at', .int .i64 x'.epoch, .bool x'.many, .slice a4 x'.lines.length c4]) (Q := fun b => False ∨ w3.heap.size ≤ b) (S := fun b => w.heap.size ≤ b) (by simp) HOTH.out HBK.out rfl ⟨rfl, rfl, rfl, rfl, rfl, _, rfl, hL4⟩ (by rintro (h | h) <;> first | exact h | omega) (fun b h => by rcases h with h | h <;> first | exact h.elim | omega) (by omega) (by simpa using q3) q4
    rw [show (xs ++ [(⟨s, ep, false, []⟩ : QE)]).set xs.length x' = xs ++ [x'] by simp, show (xs ++ [(⟨s, ep, false, []⟩ : QE)]).length = xs.length + 1 by simp] at this
    rw [show (xs ++ [x']).length = xs.length + 1 by simp]
    exact this
  · have HO : Hid (putE xs s ep ⟨c, fd⟩ = xs.set j (withLineE (freshE x s ep) ⟨c, fd⟩)) := putE_at hx hp hn
    have hj := lt_of_get hx
    have hj0 : (0 : Int) ≤ (j : Int) := by omega
    have hj1 : (j : Int) < (xs.length : Int) := by omega
    obtain ⟨k0, k1, k2, k3, k4, lv, k5, htl⟩ := hown.2 j x hj hx
    replace k0 : w2.cell? ⟨g, j * 6, none⟩ = some (.int .i64 x.site.cls) := k0
    replace k1 : w2.cell? ⟨g, j * 6 + 1, none⟩ = some (.string x.site.name) := k1
    replace k2 : w2.cell? ⟨g, j * 6 + 2, none⟩ = some (.int .i64 x.site.at') := k2
    replace k3 : w2.cell? ⟨g, j * 6 + 3, none⟩ = some (.int .i64 x.epoch) := k3
    replace k4 : w2.cell? ⟨g, j * 6 + 4, none⟩ = some (.bool x.many) := k4
    replace k5 : w2.cell? ⟨g, j * 6 + 5, none⟩ = some lv := k5
    have hz2 := hb02.size
    have fz2 : ∀ o, w2.frozen? ⟨g, o, none⟩ = false := hown.unfrozen
    have hgl : g < w2.heap.size := by obtain ⟨⟨cur, h1, -⟩, -⟩ := hown; exact blk_lt h1
    have HOTH : Hid (∀ w', Keeps (fun b => g < b ∧ b < w2.heap.size) w2 w' → (∀ i k, i < xs.length → i ≠ j → k < 6 → ∀ v, w2.cell? ⟨g, i * 6 + k, none⟩ = some v → w'.cell? ⟨g, i * 6 + k, none⟩ = some v) → ∀ i y, i ≠ j → xs[i]? = some y → ∃ R : Nat → Prop, ¬ R g ∧ (∀ b, R b → w.heap.size ≤ b) ∧ CellC R w' (fun k => w'.cell? ⟨g, i * 6 + k, none⟩) y) := fun w' hk hcl i y hi hy => by
      refine ⟨fun b => g < b ∧ b < w2.heap.size, fun h => by omega, fun b h => by omega, CellT.plain ?_⟩
      exact goodET.move (hown.2 i y (lt_of_get hy) hy) (fun _ h => h) hk fun k hk' v hv => hcl i k (lt_of_get hy) hi hk' v hv
    rw [hf]
    clear hf hn hx hs1
    by_cases he : x.epoch = ep
    · have HF : Hid (freshE x s ep = x) := by show _ = _; unfold freshE; rw [if_pos he]
      rw [HF.out] at HO
      subst he
      go_wp2_with fail
      refine (withLine_any x ⟨c, fd⟩ lv w2 htl).mono ?_
      rintro e w3 ⟨a3, n3, c3, rfl, hn3, hL3, hb3⟩
      generalize withLineE x ⟨c, fd⟩ = x' at *
      have HO3 : Hid (∀ i y, i ≠ j → xs[i]? = some y → ∃ R : Nat → Prop, ¬ R g ∧ (∀ b, R b → w.heap.size ≤ b) ∧ CellC R w3 (fun k => w3.cell? ⟨g, i * 6 + k, none⟩) y) := HOTH.out w3 (.of_below hb3) fun i k _ _ _ v hv => cell_later hb3 hv
      have m0 := cell_later hb3 k0
      have m1 := cell_later hb3 k1
      have m2 := cell_later hb3 k2
      have m3 := cell_later hb3 k3
      have m4 := cell_later hb3 k4
      have m5 := cell_later hb3 k5
      have hbw3 := nstep hb02 hb3
      clear k0 k1 k2 k3 k4 k5 HOTH hown htl s0 s1 s2
      have f3 : ∀ o, w3.frozen? ⟨g, o, none⟩ = false := fun o => (hb3.frozen (p := ⟨g, o, none⟩) hgl).trans (fz2 o)
      have HBK : Hid (∀ k, k < 6 → ∃ u, w3.cell? ⟨g, j * 6 + k, none⟩ = some u) := fun k hk => by
        match k, hk with
        | 0, _ => exact ⟨_, m0⟩
        | 1, _ => exact ⟨_, m1⟩
        | 2, _ => exact ⟨_, m2⟩
        | 3, _ => exact ⟨_, m3⟩
        | 4, _ => exact ⟨_, m4⟩
        | 5, _ => exact ⟨_, m5⟩
      subst hn3
      go_wp2_with fail
      go_ret
      rw [HO.out]
      refine ⟨g, xs.length, by simp, ?_, (((((hbw3.setCell (by simp; omega) _).setCell (by simp; omega) _).setCell (by simp; omega) _).setCell (by simp; omega) _).setCell (by simp; omega) _).setCell (by simp; omega) _⟩
      have := row_set goodE (g := g) (j := j) (cap := xs.length) (xs := xs) (x' := x') (vs := [.int .i64 x'.site.cls, .string x'.site.name, .int .i64 x'.site.at', .int .i64 x'.epoch, .bool x'.many, .slice a3 x'.lines.length c3]) (Q := fun b => (g < b ∧ b < w2.heap.size) ∨ w2.heap.size ≤ b) (S := fun b => w.heap.size ≤ b) hj HO3.out HBK.out rfl ⟨rfl, rfl, rfl, rfl, rfl, _, rfl, hL3⟩ (by rintro (h | h) <;> first | exact h | omega) (fun b h => by rcases h with h | h <;> first | exact h.elim | omega) (by omega) (Nat.le_refl _) hml
      rw [show (xs.set j x').length = xs.length by simp]
      exact this
    · have HF : Hid (freshE x s ep = ⟨s, ep, false, []⟩) := by show _ = _; unfold freshE; rw [if_neg he]
      rw [HF.out] at HO
      have hd : (x.epoch != ep) = true := by simpa using he
      go_wp2_with fail
      have hin := fun k (hk : k < 6) => World.cell?_setCells_in g [.int .i64 s.cls, .string s.name, .int .i64 s.at', .int .i64 ep, .bool false, .slice none 0 0] (j * 6) w2 (fun q hq => by
        simp only [List.length_cons, List.length_nil] at hq
        match q, hq with
        | 0, _ => show (w2.cell? ⟨g, j * 6, none⟩).isSome = true; rw [k0]; rfl
        | 1, _ => rw [k1]; rfl
        | 2, _ => rw [k2]; rfl
        | 3, _ => rw [k3]; rfl
        | 4, _ => rw [k4]; rfl
        | 5, _ => rw [k5]; rfl) k (by simpa using hk)
      have hW : Keeps (fun b => g < b ∧ b < w2.heap.size) w2 (w2.setCells g (j * 6) [.int .i64 s.cls, .string s.name, .int .i64 s.at', .int .i64 ep, .bool false, .slice none 0 0]) := Keeps.of_block fun b hb _ => setCells_else (by omega) _ _ _
      have hWo : ∀ i k, i < xs.length → i ≠ j → k < 6 → ∀ v, w2.cell? ⟨g, i * 6 + k, none⟩ = some v → (w2.setCells g (j * 6) [.int .i64 s.cls, .string s.name, .int .i64 s.at', .int .i64 ep, .bool false, .slice none 0 0]).cell? ⟨g, i * 6 + k, none⟩ = some v := fun i k hi hij hk v hv => by
        rw [World.cell?_setCells_out g _ (j * 6) w2 _ (fun _ _ => ?_)]
        · exact hv
        · simp; omega
      have hWb : Below w.heap.size w (w2.setCells g (j * 6) [.int .i64 s.cls, .string s.name, .int .i64 s.at', .int .i64 ep, .bool false, .slice none 0 0]) := (((((hb02.setCell (by simp; omega) _).setCell (by simp; omega) _).setCell (by simp; omega) _).setCell (by simp; omega) _).setCell (by simp; omega) _).setCell (by simp; omega) _
      have hWz : (w2.setCells g (j * 6) [.int .i64 s.cls, .string s.name, .int .i64 s.at', .int .i64 ep, .bool false, .slice none 0 0]).heap.size = w2.heap.size := setCells_size _ _ _
      have hWf : ∀ o, (w2.setCells g (j * 6) [.int .i64 s.cls, .string s.name, .int .i64 s.at', .int .i64 ep, .bool false, .slice none 0 0]).frozen? ⟨g, o, none⟩ = false := fun o => by simpa [World.setCells] using fz2 o
      change Calls Try.prog 91 _ (w2.setCells g (j * 6) [.int .i64 s.cls, .string s.name, .int .i64 s.at', .int .i64 ep, .bool false, .slice none 0 0]) _
      generalize (w2.setCells g (j * 6) [.int .i64 s.cls, .string s.name, .int .i64 s.at', .int .i64 ep, .bool false, .slice none 0 0]) = W2 at *
      refine (withLine_any (P := fun _ => False) ⟨s, ep, false, []⟩ ⟨c, fd⟩ _ W2 ⟨none, rfl, fun _ => rfl, none, 0, rfl, by simp, by simp, by simp, fun i x hx => by simp at hx⟩).mono ?_
      rintro e w3 ⟨a3, n3, c3, rfl, hn3, hL3, hb3⟩
      generalize withLineE ⟨s, ep, false, []⟩ ⟨c, fd⟩ = x' at *
      have HO3 : Hid (∀ i y, i ≠ j → xs[i]? = some y → ∃ R : Nat → Prop, ¬ R g ∧ (∀ b, R b → w.heap.size ≤ b) ∧ CellC R w3 (fun k => w3.cell? ⟨g, i * 6 + k, none⟩) y) := HOTH.out w3 (hW.trans (.of_below hb3)) fun i k h1 h2 h3 v hv => cell_later hb3 (hWo i k h1 h2 h3 v hv)
      have m0 : w3.cell? ⟨g, j * 6, none⟩ = some (.int .i64 s.cls) := cell_later hb3 (hin 0 (by omega))
      have m1 : w3.cell? ⟨g, j * 6 + 1, none⟩ = some (.string s.name) := cell_later hb3 (hin 1 (by omega))
      have m2 : w3.cell? ⟨g, j * 6 + 2, none⟩ = some (.int .i64 s.at') := cell_later hb3 (hin 2 (by omega))
      have m3 : w3.cell? ⟨g, j * 6 + 3, none⟩ = some (.int .i64 ep) := cell_later hb3 (hin 3 (by omega))
      have m4 : w3.cell? ⟨g, j * 6 + 4, none⟩ = some (.bool false) := cell_later hb3 (hin 4 (by omega))
      have m5 : w3.cell? ⟨g, j * 6 + 5, none⟩ = some (.slice none 0 0) := cell_later hb3 (hin 5 (by omega))
      have hbw3 := nstep hWb hb3
      clear k0 k1 k2 k3 k4 k5 HOTH hown htl s0 s1 s2
      have f3 : ∀ o, w3.frozen? ⟨g, o, none⟩ = false := fun o => (hb3.frozen (p := ⟨g, o, none⟩) (by simp; omega)).trans (hWf o)
      clear hin hW hWo hWf hWb
      have HBK : Hid (∀ k, k < 6 → ∃ u, w3.cell? ⟨g, j * 6 + k, none⟩ = some u) := fun k hk => by
        match k, hk with
        | 0, _ => exact ⟨_, m0⟩
        | 1, _ => exact ⟨_, m1⟩
        | 2, _ => exact ⟨_, m2⟩
        | 3, _ => exact ⟨_, m3⟩
        | 4, _ => exact ⟨_, m4⟩
        | 5, _ => exact ⟨_, m5⟩
      subst hn3
      go_wp2_with fail
      go_ret
      rw [HO.out]
      refine ⟨g, xs.length, by simp, ?_, (((((hbw3.setCell (by simp; omega) _).setCell (by simp; omega) _).setCell (by simp; omega) _).setCell (by simp; omega) _).setCell (by simp; omega) _).setCell (by simp; omega) _⟩
      have := row_set goodE (g := g) (j := j) (cap := xs.length) (xs := xs) (x' := x') (vs := [.int .i64 x'.site.cls, .string x'.site.name, .int .i64 x'.site.at', .int .i64 x'.epoch, .bool x'.many, .slice a3 x'.lines.length c3]) (Q := fun b => False ∨ W2.heap.size ≤ b) (S := fun b => w.heap.size ≤ b) hj HO3.out HBK.out rfl ⟨rfl, rfl, rfl, rfl, rfl, _, rfl, hL3⟩ (by rintro (h | h) <;> first | exact h | omega) (fun b h => by rcases h with h | h <;> first | exact h.elim | omega) (by omega) (Nat.le_refl _) hml
      rw [show (xs.set j x').length = xs.length by simp]
      exact this
end Go.Proofs.Ytdfbgpiikeheiaa

/- cells.Find; the closed fact of chapter 6. -/
namespace Go.Proofs.Ytdfbgpiikeheiaa
open Go.ChangeShapes Go.WideShapes Go.ChangeAt Go.RowKit
set_option linter.unusedSimpArgs false
set_option linter.unusedVariables false
set_option maxRecDepth 8000

/-- What is found by cells, and what they are then. -/
def cfindE (xs : List QE) (X : QW) (s : QS) (c : Int) (name : ByteArray) : List QE × (Int × Int) × Bool :=
  if hasB X.classes.length (getE xs s X.epoch c) then (xs, findE X.classes (getE xs s X.epoch c) name, true)
  else if (findE X.classes c name).1 < 0 then (xs, findE X.classes c name, false)
  else (putE xs s X.epoch ⟨c, (findE X.classes c name).1⟩, findE X.classes c name, false)

/-- What Find's walk holds: the two boxes, the world, the cells. -/
structure FdR (w : World) (P : Nat → Prop) (v cv hv : Value) (xs : List QE) (X : QW) (s : QS) (w' : World) : Prop where
  bel : Below w.heap.size w w'
  cl : IsCells P w' v xs
  hc : IsClasses P w' cv X.classes
  hh : IsHeap P w' hv X.heap
  w0 : w'.cell? ⟨w.heap.size, 0, none⟩ = some cv
  w1 : w'.cell? ⟨w.heap.size, 1, none⟩ = some hv
  w2 : w'.cell? ⟨w.heap.size, 2, none⟩ = some (.int .i64 X.epoch)
  st : SiteAt w' (w.heap.size + 1) s
theorem FdR.later {w : World} {P : Nat → Prop} {v cv hv : Value} {xs : List QE} {X : QW} {s : QS} {w' w'' : World} (h : FdR w P v cv hv xs X s w') (hb : Below w'.heap.size w' w'') : FdR w P v cv hv xs X s w'' :=
  ⟨nstep h.bel hb, h.cl.later goodE hb, h.hc.later goodC hb, h.hh.later goodO hb, cell_later hb h.w0, cell_later hb h.w1, cell_later hb h.w2, h.st.later hb⟩

set_option maxHeartbeats 2000000 in
theorem cfind_any {P : Nat → Prop} (xs : List QE) (X : QW) (s : QS) (c : Int) (name : ByteArray) (v cv hv : Value) (w : World) (hx : IsCells P w v xs) (hC : IsClasses P w cv X.classes) (hH : IsHeap P w hv X.heap) (hby : (xs.length + 1) * 72 ≤ 140737488355328) (hls : ∀ x ∈ xs, x.lines.length * 16 ≤ 281474976710656) :
    Calls Try.prog 51 #[v, WV cv hv X.epoch, SV s, .int .i64 c, .string name] w fun e w' => ∃ a k, e = .returned (.tuple #[.slice a (cfindE xs X s c name).1.length k, .int .i64 (cfindE xs X s c name).2.1.1, .int .i64 (cfindE xs X s c name).2.1.2, .bool (cfindE xs X s c name).2.2]) ∧ IsCells (fun b => w.heap.size ≤ b) w' (.slice a (cfindE xs X s c name).1.length k) (cfindE xs X s c name).1 ∧ Below w.heap.size w w' := by
  have hml : xs.length ≤ maxLen := by unfold maxLen; omega
  have hR0 : FdR w P v cv hv xs X s ((w.alloc (.cells #[cv, hv, .int .i64 X.epoch] 25)).alloc (.cells #[.int .i64 s.cls, .string s.name, .int .i64 s.at'] 42)) := by
    have hb := bel2 w (.cells #[cv, hv, .int .i64 X.epoch] 25) (.cells #[.int .i64 s.cls, .string s.name, .int .i64 s.at'] 42)
    refine ⟨hb, hx.later goodE hb, hC.later goodC hb, hH.later goodO hb, cell_later (bel1 _ _) (by rw [cell_new _ _ _ _ rfl]; rfl), cell_later (bel1 _ _) (by rw [cell_new _ _ _ _ rfl]; rfl), cell_later (bel1 _ _) (by rw [cell_new _ _ _ _ rfl]; rfl), ?_⟩
    have := siteNew (w.alloc (.cells #[cv, hv, .int .i64 X.epoch] 25)) s 42
    simpa using this
  obtain ⟨ad, cap, rfl, -, -, -, -⟩ := id hx
  obtain ⟨ac, cc, rfl, -, -, -, -⟩ := id hC
  obtain ⟨ah, ch, rfl, -, -, -, -⟩ := id hH
  clear hx hC hH
  go_enter Try.func51, Try.ntmps51
  go_upto_region 1 with (fail)
  generalize ((w.alloc (.cells #[.slice ac X.classes.length cc, .slice ah X.heap.length ch, .int .i64 X.epoch] 25)).alloc (.cells #[.int .i64 s.cls, .string s.name, .int .i64 s.at'] 42)) = W0 at *
  obtain ⟨-, -, -, -, b0, b1, b2, s0, s1, s2⟩ := id hR0
  go_wp2_with fail
  refine (get_any xs _ s X.epoch c _ hR0.cl).mono ?_
  rintro e w1 ⟨rfl, hb1⟩
  have hR1 := hR0.later hb1
  clear hR0 hb1 b0 b1 b2 s0 s1 s2
  obtain ⟨k, hk⟩ : ∃ k, k = getE xs s X.epoch c := ⟨_, rfl⟩
  rw [← hk]
  obtain ⟨-, -, -, -, b0, b1, b2, s0, s1, s2⟩ := id hR1
  by_cases h0 : 0 ≤ k
  · have hd0 : decide (0 ≤ k) = true := by simpa using h0
    by_cases h1 : k < X.classes.length
    · have hd1 : decide (k < (X.classes.length : Int)) = true := by simpa using h1
      have HE : Hid (cfindE xs X s c name = (xs, findE X.classes k name, true)) := by show _ = _; unfold cfindE; rw [← hk, if_pos (by simp [hasB, h0, h1])]
      clear hk
      go_wp2_with fail
      refine (find_any X k name _ _ _ hR1.hc hR1.hh).mono ?_
      rintro e w2 ⟨rfl, hb2⟩
      have hR2 := hR1.later hb2
      clear hR1 hb2 b0 b1 b2 s0 s1 s2
      go_wp2_with fail
      refine (eowns_any xs _ _ hR2.cl (by omega) hls).mono ?_
      rintro e w3 ⟨g, rfl, hown, hg, hb3⟩
      go_wp2
      rw [HE.out]
      refine bodyPost_ret (v := .tuple #[.slice (some ⟨g, 0, none⟩) xs.length xs.length, .int .i64 (findE X.classes k name).1, .int .i64 (findE X.classes k name).2, .bool true]) ?_ rfl ⟨_, _, rfl, ?_, nstep hR2.bel hb3⟩
      · simp [results, Try.results51, go_sem]
      · exact (tight_cells (hown.row0 goodET hml)).mono goodE fun b h => by have := hR2.bel.size; omega
    · have hd1 : decide (k < (X.classes.length : Int)) = false := by simpa using h1
      have HE0 : Hid (cfindE xs X s c name = if (findE X.classes c name).1 < 0 then (xs, findE X.classes c name, false) else (putE xs s X.epoch ⟨c, (findE X.classes c name).1⟩, findE X.classes c name, false)) := by show _ = _; unfold cfindE; rw [← hk, if_neg (by simp [hasB]; omega)]
      clear hk
      go_wp2_with fail
      refine (find_any X c name _ _ _ hR1.hc hR1.hh).mono ?_
      rintro e w2 ⟨rfl, hb2⟩
      have hR2 := hR1.later hb2
      clear hR1 hb2 b0 b1 b2 s0 s1 s2
      obtain ⟨-, -, -, -, b0, b1, b2, s0, s1, s2⟩ := id hR2
      generalize findE X.classes c name = r at *
      obtain ⟨r1, r2⟩ := r
      simp only at HE0 ⊢
      by_cases hr : r1 < 0
      · have HE : Hid (cfindE xs X s c name = (xs, (r1, r2), false)) := by show _ = _; rw [HE0.out, if_pos hr]
        go_wp2_with fail
        refine (eowns_any xs _ _ hR2.cl (by omega) hls).mono ?_
        rintro e w3 ⟨g, rfl, hown, hg, hb3⟩
        go_wp2
        rw [HE.out]
        refine bodyPost_ret (v := .tuple #[.slice (some ⟨g, 0, none⟩) xs.length xs.length, .int .i64 r1, .int .i64 r2, .bool false]) ?_ rfl ⟨_, _, rfl, ?_, nstep hR2.bel hb3⟩
        · simp [results, Try.results51, go_sem]
        · exact (tight_cells (hown.row0 goodET hml)).mono goodE fun b h => by have := hR2.bel.size; omega
      · have HE : Hid (cfindE xs X s c name = (putE xs s X.epoch ⟨c, r1⟩, (r1, r2), false)) := by show _ = _; rw [HE0.out, if_neg hr]
        have hr' : 0 ≤ r1 := by omega
        go_wp2_with fail
        refine (put_any xs _ s X.epoch c r1 _ hR2.cl hby hls).mono ?_
        rintro e w3 ⟨g, k3, rfl, hP3, hb3⟩
        generalize putE xs s X.epoch ⟨c, r1⟩ = ys at *
        go_wp2
        rw [HE.out]
        refine bodyPost_ret (v := .tuple #[.slice (some ⟨g, 0, none⟩) ys.length k3, .int .i64 r1, .int .i64 r2, .bool false]) ?_ rfl ⟨_, _, rfl, ?_, nstep hR2.bel hb3⟩
        · simp [results, Try.results51, go_sem]
        · exact hP3.mono goodE fun b h => by have := hR2.bel.size; omega
  · have hd0 : decide (0 ≤ k) = false := by simpa using h0
    have HE0 : Hid (cfindE xs X s c name = if (findE X.classes c name).1 < 0 then (xs, findE X.classes c name, false) else (putE xs s X.epoch ⟨c, (findE X.classes c name).1⟩, findE X.classes c name, false)) := by show _ = _; unfold cfindE; rw [← hk, if_neg (by simp [hasB]; omega)]
    clear hk
    go_wp2_with fail
    refine (find_any X c name _ _ _ hR1.hc hR1.hh).mono ?_
    rintro e w2 ⟨rfl, hb2⟩
    have hR2 := hR1.later hb2
    clear hR1 hb2 b0 b1 b2 s0 s1 s2
    obtain ⟨-, -, -, -, b0, b1, b2, s0, s1, s2⟩ := id hR2
    generalize findE X.classes c name = r at *
    obtain ⟨r1, r2⟩ := r
    simp only at HE0 ⊢
    by_cases hr : r1 < 0
    · have HE : Hid (cfindE xs X s c name = (xs, (r1, r2), false)) := by show _ = _; rw [HE0.out, if_pos hr]
      go_wp2_with fail
      refine (eowns_any xs _ _ hR2.cl (by omega) hls).mono ?_
      rintro e w3 ⟨g, rfl, hown, hg, hb3⟩
      go_wp2
      rw [HE.out]
      refine bodyPost_ret (v := .tuple #[.slice (some ⟨g, 0, none⟩) xs.length xs.length, .int .i64 r1, .int .i64 r2, .bool false]) ?_ rfl ⟨_, _, rfl, ?_, nstep hR2.bel hb3⟩
      · simp [results, Try.results51, go_sem]
      · exact (tight_cells (hown.row0 goodET hml)).mono goodE fun b h => by have := hR2.bel.size; omega
    · have HE : Hid (cfindE xs X s c name = (putE xs s X.epoch ⟨c, r1⟩, (r1, r2), false)) := by show _ = _; rw [HE0.out, if_neg hr]
      have hr' : 0 ≤ r1 := by omega
      go_wp2_with fail
      refine (put_any xs _ s X.epoch c r1 _ hR2.cl hby hls).mono ?_
      rintro e w3 ⟨g, k3, rfl, hP3, hb3⟩
      generalize putE xs s X.epoch ⟨c, r1⟩ = ys at *
      go_wp2
      rw [HE.out]
      refine bodyPost_ret (v := .tuple #[.slice (some ⟨g, 0, none⟩) ys.length k3, .int .i64 r1, .int .i64 r2, .bool false]) ?_ rfl ⟨_, _, rfl, ?_, nstep hR2.bel hb3⟩
      · simp [results, Try.results51, go_sem]
      · exact hP3.mono goodE fun b h => by have := hR2.bel.size; omega
end Go.Proofs.Ytdfbgpiikeheiaa

/- 'append([]T{}, src...)': a row that holds the cells of src. -/
namespace Go.Proofs.Ytdfbgpiikeheiaa
open Go.ChangeShapes Go.WideShapes Go.ChangeAt Go.RowKit
set_option linter.unusedSimpArgs false
set_option linter.unusedVariables false
set_option maxRecDepth 8000

theorem run_append_none {P : Program} (w : World) (t ty e : TypeId) (i : TypeInfo) (ht : P.underlying t = some (.slice e)) (hi : P.info? e = some i) (B : Nat) (ad : Option Addr) (cap : Nat) :
    (Builtin.append_ #[t, t] ty #[.slice (some ⟨B, 0, none⟩) 0 0, .slice ad 0 cap]).run P w = .ok (.slice (some ⟨B, 0, none⟩) 0 0) w := by
  have hl : ∀ (x : Addr), (loadCells x 0).run P w = .ok #[] w := fun x => by simpa using run_loadCells_list (P := P) w x [] (by simp)
  cases ad <;> simp [Builtin.append_, run_underlying ht, sizeOf, typeInfo, hi, Builtin.lenOf, Builtin.firstCells, storeCells, hl]

theorem wpList_append_src {ops : Array Oper} {rest : List Oper} {o : Oper} {a : Act} {w : World} {Q : Exit → Act → World → Prop} (hgd : o.guard = none) (s x : Operand) (T e : TypeId) (z : Value) (sz bytes : Nat)
    (hop : o.op = Op.call { callee := Callee.builtin Builtin.append, args := #[s, x], argTypes := #[T, T] }) (hT : Try.prog.underlying T = some (.slice e)) (hI : (Try.prog.info? e).map (fun i => (i.zero, i.size, i.bytes)) = some (some z, sz, bytes)) (hzs : z.cells.size = sz) (hsz : 0 < sz) (hbz : 0 < bytes)
    (B : Nat) (hs : a.eval s = .slice (some ⟨B, 0, none⟩) 0 0) (hB : w.heap[B]? = some (.cells #[] e (0, 0)))
    (ad : Option Addr) (n cap : Nat) (hx : a.eval x = .slice ad n cap) (cs : List Value) (hlen : cs.length = n * sz) (hsrc : ∀ j u, cs[j]? = some u → ∃ b, ad = some b ∧ w.cell? (b.add j) = some u) (hn : n * bytes ≤ 140737488351232)
    (hK : ∀ g cap' w', w'.ownsRow B e sz (.slice (some ⟨g, 0, none⟩) n cap') n cs → (g = B ∨ w.heap.size ≤ g) → g < w'.heap.size → Below w.heap.size w w' → wpList Try.prog ops Q rest (a.put o.dst (.slice (some ⟨g, 0, none⟩) n cap')) w') :
    wpList Try.prog ops Q (o :: rest) a w := by
  refine wpList_plain hgd fun K hKK => ?_
  obtain ⟨i0, hi, hz0, hz1, hz2⟩ := info_parts hI
  have hBl := blk_lt hB
  by_cases h0 : n = 0
  · subst h0
    have hcs : cs = [] := List.eq_nil_of_length_eq_zero (by simpa using hlen)
    have hrun := run_append_none (P := Try.prog) w T o.type e i0 hT hi B ad cap
    unfold Oper.wp
    simp [execOp, hop, resolve, invoke, builtin, hs, hx, hrun, Result.andThen]
    refine hKK _ _ (hK B 0 w ?_ (Or.inl rfl) hBl (Below.refl _ _))
    rw [hcs]
    exact ⟨by simp, .inr ⟨B, 0, #[], rfl, Nat.le_refl _, hB, Nat.le_refl _, by unfold maxLen; omega, by simp, by simp⟩⟩
  · obtain ⟨b, rfl⟩ : ∃ b, ad = some b := by
      have : 0 < cs.length := by rw [hlen]; exact Nat.mul_pos (by omega) hsz
      obtain ⟨b, e, -⟩ := hsrc 0 cs[0] (by simp [this])
      exact ⟨b, e⟩
    have hnb : n ≤ 140737488351232 := Nat.le_trans (Nat.le_mul_of_pos_right n hbz) hn
    obtain ⟨v', w', hrun, r1, r2⟩ := run_append_arg_grows (P := Try.prog) w T o.type e i0 _ sz bytes hT hi hz0 hz1 hz2 hzs hsz ⟨B, 0, none⟩ 0 0 [] (by simp) (fun j u hu => by simp at hu) b n cap cs hlen (fun j u hu => by obtain ⟨b', e, h⟩ := hsrc j u hu; cases e; exact h) (by omega) (by unfold maxLen; omega) (by rw [Nat.zero_add]; omega)
    simp only [Nat.zero_add, List.nil_append] at r1
    obtain ⟨g, cap', rfl, hg, hgl⟩ := r1.form (by omega)
    unfold Oper.wp
    simp [execOp, hop, resolve, invoke, builtin, hs, hx, hrun, Result.andThen]
    refine hKK _ _ (hK g cap' w' ?_ (Or.inr hg) hgl ((Below.refl _ _).grown r2 (Nat.le_refl _) (fun k hk => by cases hk)))
    obtain ⟨q1, q2⟩ := r1
    refine ⟨q1, ?_⟩
    rcases q2 with q2 | ⟨g', c', cur, e, h1, h2⟩
    · exact .inl q2
    · exact .inr ⟨g', c', cur, e, by omega, h2⟩
end Go.Proofs.Ytdfbgpiikeheiaa

/- The reference's Make. -/
namespace Go.Proofs.Ytdfbgpiikeheiaa
open Go.ChangeShapes Go.WideShapes Go.ChangeAt Go.RowKit
set_option linter.unusedSimpArgs false
set_option linter.unusedVariables false
set_option maxRecDepth 8000

/-- What comes of Make in the reference: as in package class. -/
def MakeR (P : Nat → Prop) (w : World) (X : QW) (name : ByteArray) (super slots : Int) (hv : Value) (e : Ending) (w' : World) : Prop :=
  (wrongE X.classes name super slots ≠ 0 ∧ e = .returned (.tuple #[WV (.slice none 0 0) (.slice none 0 0) 0, .int .i64 0, .int .i64 (wrongE X.classes name super slots)]) ∨
    wrongE X.classes name super slots = 0 ∧ ∃ cv', e = .returned (.tuple #[WV cv' hv X.epoch, .int .i64 X.classes.length, .int .i64 0]) ∧ IsClasses (fun b => P b ∨ w.heap.size ≤ b) w' cv' (madeX X name super slots).classes) ∧ Below w.heap.size w w'

set_option maxHeartbeats 4000000 in
theorem rmake_any {P : Nat → Prop} (X : QW) (name : ByteArray) (super slots : Int) (cv hv : Value) (w : World) (hn : name.size ≤ 140737488351232) (hh : IsClasses P w cv X.classes) (hH : IsHeap P w hv X.heap) (ho : SlotsOk X.classes) : Calls Try.prog 28 #[WV cv hv X.epoch, .string name, .int .i64 super, .int .i64 slots] w fun e w' => MakeR P w X name super slots hv e w' := by
  obtain ⟨ad, cap, rfl, hl, hcap, hby, hrow⟩ := id hh
  obtain ⟨ah, ch, rfl, -, -, -, -⟩ := id hH
  unfold maxLen at hcap
  go_enter Try.func28, Try.ntmps28
  go_wp2_with fail
  refine (rname_any name _ hn).mono ?_
  rintro e w1 ⟨rfl, hb⟩
  have hB := nstep (bel2 _ _ _) hb
  have a0 : w1.cell? ⟨w.heap.size, 0, none⟩ = some (Value.slice ad X.classes.length cap) := cell_later hb (cell_later (bel1 _ _) (by rw [cell_new _ _ _ _ rfl]; rfl))
  have a1 : w1.cell? ⟨w.heap.size, 1, none⟩ = some (Value.slice ah X.heap.length ch) := cell_later hb (cell_later (bel1 _ _) (by rw [cell_new _ _ _ _ rfl]; rfl))
  have a2 : w1.cell? ⟨w.heap.size, 2, none⟩ = some (Value.int IntKind.i64 X.epoch) := cell_later hb (cell_later (bel1 _ _) (by rw [cell_new _ _ _ _ rfl]; rfl))
  have r : w1.heap[w.heap.size + 1]? = some (.cells #[Value.slice none 0 0, Value.slice none 0 0, Value.int IntKind.i64 0] 25 (0, 0)) := by rw [hb.block _ (by simp)]; exact blk_new _ _ _ (by simp)
  have RC : Hid (∀ W : World, Below w1.heap.size w1 W → (∀ o, W.cell? ⟨w.heap.size + 1, o, none⟩ = (#[Value.slice none 0 0, Value.slice none 0 0, Value.int IntKind.i64 0] : Array Value)[o]?) ∧ (∀ o, W.frozen? ⟨w.heap.size + 1, o, none⟩ = false)) := fun W hW => by
    have hr : W.heap[w.heap.size + 1]? = some (.cells #[Value.slice none 0 0, Value.slice none 0 0, Value.int IntKind.i64 0] 25 (0, 0)) := by rw [hW.block _ (blk_lt r)]; exact r
    exact ⟨fun o => by rw [cell_of_row _ _ _ _ _ _ hr], fun o => by unfold World.frozen?; simp [hr]⟩
  have RB : Hid (∀ W : World, Below w1.heap.size w1 W → (∀ o, W.cell? ⟨w.heap.size, o, none⟩ = (#[Value.slice ad X.classes.length cap, Value.slice ah X.heap.length ch, Value.int IntKind.i64 X.epoch] : Array Value)[o]?) ∧ (∀ o, W.frozen? ⟨w.heap.size, o, none⟩ = false)) := fun W hW => by
    have r1 : w1.heap[w.heap.size]? = some (.cells #[Value.slice ad X.classes.length cap, Value.slice ah X.heap.length ch, Value.int IntKind.i64 X.epoch] 25 (0, 0)) := by rw [hb.block _ (by simp; omega), (bel1 _ _).block _ (by simp)]; exact blk_new _ _ _ rfl
    have hr : W.heap[w.heap.size]? = some (.cells #[Value.slice ad X.classes.length cap, Value.slice ah X.heap.length ch, Value.int IntKind.i64 X.epoch] 25 (0, 0)) := by rw [hW.block _ (blk_lt r1)]; exact r1
    exact ⟨fun o => by rw [cell_of_row _ _ _ _ _ _ hr], fun o => by unfold World.frozen?; simp [hr]⟩
  cases hnb : nameB name
  · have HE : Hid (wrongE X.classes name super slots = 7) := by show _ = _; unfold wrongE; rw [if_pos (Or.inl hnb)]
    obtain ⟨q0, qf⟩ := RC.out _ (Below.refl _ _)
    go_wp2
    refine bodyPost_ret (v := .tuple #[WV (.slice none 0 0) (.slice none 0 0) 0, .int .i64 0, .int .i64 7]) ?_ rfl ⟨Or.inl ⟨by rw [HE.out]; decide, by rw [HE.out]⟩, ?_⟩
    · simp [results, Try.results28, go_sem, q0, qf]
    · exact ((hB.setCell (by simp) _).setCell (by simp) _).setCell (by simp) _
  · go_wp2
    go_loopg [21] X.classes.length (fun g i wr => ∃ j : Nat, j + g = X.classes.length ∧ i = .int .i64 j ∧ Below w1.heap.size w1 wr ∧ (∀ i x, i < j → X.classes[i]? = some x → eqN x.name name = false))
    case atStart => exact ⟨0, by omega, rfl, Below.refl _ _, fun i x h => by omega⟩
    case round =>
      obtain ⟨j, hg, rfl, hbr, hD⟩ := hrel
      have HD : Hid (∀ i x, i < j → X.classes[i]? = some x → eqN x.name name = false) := hD
      clear hD
      have hBr := nstep hB hbr
      by_cases hj : j < X.classes.length
      · obtain ⟨x, hx⟩ : ∃ x, X.classes[j]? = some x := ⟨_, List.getElem?_eq_getElem hj⟩
        obtain ⟨b, o, rfl, -, v0, v1, v2, -, mv, v3, hM⟩ := hrow j x hx
        obtain ⟨ad2, cap2, rfl, -⟩ := id hM
        have HX : Hid (X.classes[j]? = some x) := hx
        have hj1 : (j : Int) < (X.classes.length : Int) := by omega
        have hj0 : (0 : Int) ≤ (j : Int) := by omega
        clear hx
        simp only [Nat.add_zero] at v0
        replace v0 := cell_later hBr v0
        replace v1 := cell_later hBr v1
        replace v2 := cell_later hBr v2
        replace v3 := cell_later hBr v3
        have hB2 := bel1 wr (Obj.cells #[Value.string x.name, Value.int IntKind.i64 x.super, Value.int IntKind.i64 x.slots, Value.slice ad2 x.methods.length cap2] 52)
        cases he : eqN x.name name
        · have he' : (x.name.toList == name.toList) = false := he
          go_wp2
          go_roundg (gk - 1)
          case measure => omega
          case rel =>
            refine ⟨j + 1, by omega, by go_num, nstep hbr hB2, fun i y h hy => ?_⟩
            by_cases hij : i = j
            · subst hij
              rw [HX.out] at hy
              cases hy
              exact he
            · exact HD.out i y (by omega) hy
        · have he' : (x.name.toList == name.toList) = true := he
          have HE : Hid (wrongE X.classes name super slots = 7) := by
            show _ = _
            unfold wrongE
            rw [if_pos (Or.inr _)]
            unfold takenB
            rw [findI_at HX.out he HD.out]
            simp
          obtain ⟨q0, qf⟩ := RC.out _ (nstep hbr hB2)
          go_wp2
          refine bodyPost_ret (v := .tuple #[WV (.slice none 0 0) (.slice none 0 0) 0, .int .i64 0, .int .i64 7]) ?_ rfl ⟨Or.inl ⟨by rw [HE.out]; decide, by rw [HE.out]⟩, ?_⟩
          · simp [results, Try.results28, go_sem, q0, qf]
          · exact (((nstep hBr hB2).setCell (by simp) _).setCell (by simp) _).setCell (by simp) _
      · obtain rfl : j = X.classes.length := by omega
        have htk : takenB X.classes name = false := by
          unfold takenB
          rw [findI_none fun i y hy => HD.out i y (lt_of_get hy) hy]
          rfl
        have t1 : ¬ (nameB name = false ∨ takenB X.classes name = true) := by rw [hnb, htk]; simp
        obtain ⟨q0, qf⟩ := RC.out _ hbr
        have a0' := cell_later hbr a0
        have a1' := cell_later hbr a1
        have a2' := cell_later hbr a2
        cases hhas : hasB X.classes.length super
        · have HE : Hid (wrongE X.classes name super slots = 6) := by show _ = _; unfold wrongE; rw [if_neg t1, if_pos hhas]
          have HEND : Hid (∀ W : World, Below w.heap.size w W → MakeR P w X name super slots (.slice ah X.heap.length ch) (.returned (.tuple #[WV (.slice none 0 0) (.slice none 0 0) 0, .int .i64 0, .int .i64 6])) W) := fun W h => ⟨Or.inl ⟨by rw [HE.out]; decide, by rw [HE.out]⟩, h⟩
          by_cases h0 : super < 0
          · go_wp2
            refine bodyPost_ret (v := .tuple #[WV (.slice none 0 0) (.slice none 0 0) 0, .int .i64 0, .int .i64 6]) ?_ rfl (HEND.out _ (below_set3 hBr (by omega) _ _ _))
            simp [results, Try.results28, go_sem, q0, qf]
          · have h0' : decide (super < 0) = false := by simpa using h0
            have h1 : (X.classes.length : Int) ≤ super := by simp [hasB] at hhas; omega
            go_wp2
            refine bodyPost_ret (v := .tuple #[WV (.slice none 0 0) (.slice none 0 0) 0, .int .i64 0, .int .i64 6]) ?_ rfl (HEND.out _ (below_set3 hBr (by omega) _ _ _))
            simp [results, Try.results28, go_sem, q0, qf]
        · have HE : Hid (wrongE X.classes name super slots = if slots < 0 ∨ 6 - slotsE X.classes super < slots ∨ plainB super = true then 3 else if 12 ≤ X.classes.length then 5 else 0) := by show _ = _; unfold wrongE; rw [if_neg t1, if_neg (by rw [hhas]; simp)]
          have h0 : (0 : Int) ≤ super := by simp [hasB] at hhas; omega
          have h1 : super < (X.classes.length : Int) := by simp [hasB] at hhas; omega
          have hsl : 0 ≤ slotsE X.classes super := (slotsE_le ho (X.classes.length + 1) super 0 (by omega)).1
          have hsl6 : slotsE X.classes super ≤ 0 + 6 * ((X.classes.length + 1 : Nat) : Int) := (slotsE_le ho (X.classes.length + 1) super 0 (by omega)).2
          have HEND : Hid (wrongE X.classes name super slots = 3 → ∀ W : World, Below w.heap.size w W → MakeR P w X name super slots (.slice ah X.heap.length ch) (.returned (.tuple #[WV (.slice none 0 0) (.slice none 0 0) 0, .int .i64 0, .int .i64 3])) W) := fun he W h => ⟨Or.inl ⟨by rw [he]; decide, by rw [he]⟩, h⟩
          by_cases s0 : slots < 0
          · go_wp2
            refine bodyPost_ret (v := .tuple #[WV (.slice none 0 0) (.slice none 0 0) 0, .int .i64 0, .int .i64 3]) ?_ rfl (HEND.out (by rw [HE.out, if_pos (Or.inl s0)]) _ (below_set3 hBr (by omega) _ _ _))
            simp [results, Try.results28, go_sem, q0, qf]
          · have s0' : (0 : Int) ≤ slots := by omega
            by_cases s6 : 6 < slots
            · go_wp2
              refine bodyPost_ret (v := .tuple #[WV (.slice none 0 0) (.slice none 0 0) 0, .int .i64 0, .int .i64 3]) ?_ rfl (HEND.out (by rw [HE.out, if_pos (Or.inr (Or.inl (by omega)))]) _ (below_set3 hBr (by omega) _ _ _))
              simp [results, Try.results28, go_sem, q0, qf]
            · have s6' : slots ≤ 6 := by omega
              go_wp2_with fail
              refine (rslots_any X super _ _ _ (hh.later goodC hBr) (hH.later goodO hBr) ho).mono ?_
              rintro e w4 ⟨rfl, hb4⟩
              have hb4' := nstep hbr hb4
              replace a0' := cell_later hb4 a0'
              replace a1' := cell_later hb4 a1'
              replace a2' := cell_later hb4 a2'
              replace hBr := nstep hBr hb4
              clear q0 qf
              obtain ⟨q0, qf⟩ := RC.out _ hb4'
              clear hb4 hbr
              have hwr : IntKind.i64.wrap (slots + slotsE X.classes super) = slots + slotsE X.classes super := by rw [IntKind.wrap_i64]; omega
              by_cases s1 : 6 < slots + slotsE X.classes super
              · go_wp2
                refine bodyPost_ret (v := .tuple #[WV (.slice none 0 0) (.slice none 0 0) 0, .int .i64 0, .int .i64 3]) ?_ rfl (HEND.out (by rw [HE.out, if_pos (Or.inr (Or.inl (by omega)))]) _ (below_set3 hBr (by omega) _ _ _))
                simp [results, Try.results28, go_sem, q0, qf]
              · have s1' : slots + slotsE X.classes super ≤ 6 := by omega
                have s1d : decide (6 < slots + slotsE X.classes super) = false := by simpa using s1
                cases hpl : plainB super
                · have hpl' : ¬ (0 < super ∧ super < 4) := by simp [plainB] at hpl; omega
                  have hE2 : Hid (wrongE X.classes name super slots = if 12 ≤ X.classes.length then 5 else 0) := by
                    show _ = _
                    rw [HE.out, if_neg]
                    rintro (h | h | h)
                    · omega
                    · omega
                    · rw [hpl] at h; cases h
                  have pd : decide (0 < super) = false ∨ decide (0 < super) = true ∧ decide (super < 4) = false := by
                    by_cases h : 0 < super
                    · right; exact ⟨by simpa using h, by simp; omega⟩
                    · left; simpa using h
                  by_cases s2 : 12 ≤ X.classes.length
                  · have s2' : (12 : Int) ≤ (X.classes.length : Int) := by omega
                    have HEND5 : Hid (∀ W : World, Below w.heap.size w W → MakeR P w X name super slots (.slice ah X.heap.length ch) (.returned (.tuple #[WV (.slice none 0 0) (.slice none 0 0) 0, .int .i64 0, .int .i64 5])) W) := fun W h => ⟨Or.inl ⟨by rw [hE2.out, if_pos s2]; decide, by rw [hE2.out, if_pos s2]⟩, h⟩
                    rcases pd with pd | ⟨pd, pd'⟩
                    all_goals
                      go_wp2
                      refine bodyPost_ret (v := .tuple #[WV (.slice none 0 0) (.slice none 0 0) 0, .int .i64 0, .int .i64 5]) ?_ rfl (HEND5.out _ (below_set3 hBr (by omega) _ _ _))
                      simp [results, Try.results28, go_sem, q0, qf]
                  · have s2' : (X.classes.length : Int) < 12 := by omega
                    have HE0 : Hid (wrongE X.classes name super slots = 0) := by show _ = _; rw [hE2.out, if_neg s2]
                    obtain ⟨cs, hcs, hsrc⟩ := RowAt.cells hrow goodC
                    have HSRC : Hid (∀ j u, cs[j]? = some u → ∃ a, ad = some a ∧ w.cell? (a.add j) = some u) := hsrc
                    obtain ⟨i0, hi, hz0, hz1, hz2⟩ := info_parts info52
                    have a0x := fun x => cell_later (bel1 w4 x) a0'
                    have hz4 : w.heap.size + 1 < w4.heap.size := Nat.lt_of_lt_of_le (blk_lt r) hb4'.size
                    clear hsrc
                    rcases pd with pd | ⟨pd, pd'⟩
                    all_goals
                      go_wp2_with (first
                        | (at_builtin; refine wpList_append_src rfl (.tmp 72) (.tmp 74) 22 52 zC 4 56 rfl Try.underlying22 info52 rfl (by decide) (by decide) w4.heap.size rfl (blk_new _ _ _ rfl) ad X.classes.length cap rfl cs hcs.1 (fun j u hu => by obtain ⟨a, e, h⟩ := HSRC.out j u hu; exact ⟨a, e, cell_later (nstep hBr (bel1 _ _)) h⟩) hby ?_; intro gA capA wA hownA hgA hgAl hbA)
                        | (at_builtin; refine wpList_append_lies _ rfl (.tmp 75) (.tmp 80) 22 rfl w4.heap.size 52 i0 _ 4 56 Try.underlying22 hi hz0 hz1 hz2 rfl (by decide) _ X.classes.length cs rfl (hownA.alloc _) ⟨_, 0, none⟩ 1 1 [.string name, .int .i64 super, .int .i64 slots, .slice none 0 0] rfl rfl (fun j u hu => (by rw [Addr.add_lit, Nat.zero_add]; exact (cell_new wA _ 52 _ rfl j).trans (by simpa using hu))) (by intro u hu; simp at hu; rcases hu with rfl | rfl | rfl | rfl <;> rfl) (by omega) (by unfold maxLen; omega) (by omega) (by have := hbA.size; simp at this; simp; omega) _ rfl ?_; intro gg cap2 w2 hown2 hgr hor hlt2; have hbAs := hbA.size; have hb2 := grown_below hownA (by simp at hbAs; omega) hgr; have hW2 : Below w4.heap.size w4 w2 := (nstep (bel1 _ _) hbA).trans hb2; have hR2 := RC.out _ (nstep hb4' hW2); have hB2 := RB.out _ (nstep hb4' hW2); have q0 := hR2.1; have qf := hR2.2; have c0 := hB2.1; have cf := hB2.2; clear hR2 hB2))
                      have hF : Below w.heap.size w ((((w2.setCell ⟨w.heap.size, 0, none⟩ (.slice (some ⟨gg, 0, none⟩) (X.classes.length + 1) cap2)).setCell ⟨w.heap.size + 1, 0, none⟩ (.slice (some ⟨gg, 0, none⟩) (X.classes.length + 1) cap2)).setCell ⟨w.heap.size + 1, 1, none⟩ (.slice ah X.heap.length ch)).setCell ⟨w.heap.size + 1, 2, none⟩ (.int .i64 X.epoch)) := below_set3 ((nstep hBr hW2).setCell (Nat.le_refl _) _) (by omega) _ _ _
                      refine bodyPost_ret (v := .tuple #[WV (.slice (some ⟨gg, 0, none⟩) (X.classes.length + 1) cap2) (.slice ah X.heap.length ch) X.epoch, .int .i64 X.classes.length, .int .i64 0]) ?_ rfl ⟨Or.inr ⟨HE0.out, _, rfl, ?_⟩, hF⟩
                      · simp [results, Try.results28, go_sem, q0, qf, c0, cf]
                      · obtain ⟨-, ⟨e, h0⟩ | ⟨g, c, cur, e, h1, h2, h3, h4, h5, h6⟩⟩ := hown2
                        · cases h0
                        · cases e
                          have hlen : (madeX X name super slots).classes.length = X.classes.length + 1 := by simp [madeX]
                          have hR := Cells.row (bytes := 56) (cap := cap2) (g := gg) ((hcs.keep goodC (.of_below hF) (Q := fun b => P b ∨ w.heap.size ≤ b) fun _ h => Or.inl h).append goodC (one_class (P := fun b => P b ∨ w.heap.size ≤ b) ⟨name, super, slots, []⟩ _ hn row_none)) goodC (Or.inr (by omega)) (by rw [setCell_else (by omega), setCell_else (by omega), setCell_else (by omega), setCell_else (by omega)]; exact h2) (by simpa using h6) (by simpa using h3) h4 (by simp; omega)
                          rw [List.length_append] at hR
                          exact hR
                · have p1 : 0 < super := by simp [plainB] at hpl; omega
                  have p2 : super < 4 := by simp [plainB] at hpl; omega
                  go_wp2
                  refine bodyPost_ret (v := .tuple #[WV (.slice none 0 0) (.slice none 0 0) 0, .int .i64 0, .int .i64 3]) ?_ rfl (HEND.out (by rw [HE.out, if_pos (Or.inr (Or.inr hpl))]) _ (below_set3 hBr (by omega) _ _ _))
                  simp [results, Try.results28, go_sem, q0, qf]
end Go.Proofs.Ytdfbgpiikeheiaa

/- The order of names. -/
namespace Go.Proofs.Ytdfbgpiikeheiaa
open Go.ChangeShapes Go.WideShapes Go.ChangeAt Go.RowKit
set_option linter.unusedSimpArgs false
set_option linter.unusedVariables false

theorem less_trans : ∀ (x y z : List UInt8), Op.bytesLess x y = true → Op.bytesLess y z = true → Op.bytesLess x z = true
  | [], [], z, h, _ => by simp [Op.bytesLess] at h
  | [], b :: y, [], _, k => by simp [Op.bytesLess] at k
  | [], b :: y, c :: z, _, _ => by simp [Op.bytesLess]
  | a :: x, [], z, h, _ => by simp [Op.bytesLess] at h
  | a :: x, b :: y, [], _, k => by simp [Op.bytesLess] at k
  | a :: x, b :: y, c :: z, h, k => by
    simp only [Op.bytesLess, Bool.or_eq_true, decide_eq_true_eq, Bool.and_eq_true, beq_iff_eq] at h k ⊢
    rcases h with h | ⟨rfl, h⟩
    · rcases k with k | ⟨rfl, k⟩
      · exact Or.inl (UInt8.lt_trans h k)
      · exact Or.inl h
    · rcases k with k | ⟨rfl, k⟩
      · exact Or.inl k
      · exact Or.inr ⟨rfl, less_trans x y z h k⟩
theorem less_irr : ∀ (x : List UInt8), Op.bytesLess x x = false
  | [] => rfl
  | a :: x => by simp [Op.bytesLess, less_irr x]
theorem less_tri : ∀ (x y : List UInt8), Op.bytesLess x y = true ∨ x = y ∨ Op.bytesLess y x = true
  | [], [] => Or.inr (Or.inl rfl)
  | [], b :: y => Or.inl (by simp [Op.bytesLess])
  | a :: x, [] => Or.inr (Or.inr (by simp [Op.bytesLess]))
  | a :: x, b :: y => by
    simp only [Op.bytesLess, Bool.or_eq_true, decide_eq_true_eq, Bool.and_eq_true, beq_iff_eq]
    rcases UInt8.lt_or_lt_of_ne (a := a) (b := b) |> fun h => (Classical.em (a = b)).elim (fun e => Or.inr e) (fun e => Or.inl (h e)) with (h | h) | rfl
    · exact Or.inl (Or.inl h)
    · exact Or.inr (Or.inr (Or.inl h))
    · rcases less_tri x y with h | rfl | h
      · exact Or.inl (Or.inr ⟨rfl, h⟩)
      · exact Or.inr (Or.inl rfl)
      · exact Or.inr (Or.inr (Or.inr ⟨rfl, h⟩))

theorem gtN_iff {a b : ByteArray} : gtN a b = true ↔ ltN b a = true := by
  unfold gtN ltN
  constructor
  · intro h
    simp only [Bool.and_eq_true, Bool.not_eq_true', beq_eq_false_iff_ne] at h
    rcases less_tri a.toList b.toList with k | k | k
    · rw [h.1] at k; cases k
    · exact absurd k (by simpa using h.2)
    · exact k
  · intro h
    have h1 : Op.bytesLess a.toList b.toList = false := by
      cases k : Op.bytesLess a.toList b.toList
      · rfl
      · have := less_trans _ _ _ h k; rw [less_irr] at this; cases this
    have h2 : ¬ a.toList = b.toList := fun e => by rw [e, less_irr] at h; cases h
    simp [h1, h2]
theorem eqN_iffG {a b : ByteArray} : eqN a b = true ↔ a.toList = b.toList := by simp [eqN]
theorem ltN_eq {a b c : ByteArray} (h : eqN a b = true) (k : ltN a c = true) : ltN b c = true := by
  unfold ltN at k ⊢; rw [← eqN_iffG.1 h]; exact k
theorem ltN_trans {a b c : ByteArray} (h : ltN a b = true) (k : ltN b c = true) : ltN a c = true := less_trans _ _ _ h k
theorem eqN_of_lt {a b : ByteArray} (h : ltN b a = true) : eqN a b = false := by
  cases k : eqN a b
  · rfl
  · unfold ltN at h; rw [eqN_iffG.1 k, less_irr] at h; cases h

end Go.Proofs.Ytdfbgpiikeheiaa

/- Names in order; the reference's way to lay a method among others. -/
namespace Go.Proofs.Ytdfbgpiikeheiaa
open Go.ChangeShapes Go.WideShapes Go.ChangeAt Go.RowKit
set_option linter.unusedSimpArgs false
set_option linter.unusedVariables false
set_option maxRecDepth 8000

/-- The reference's loop: what is laid, whether m is, whether one of its name was there. -/
structure InsS where
  ms : List QM
  done : Bool
  was : Bool
def insS (m : QM) (s : InsS) (x : QM) : InsS :=
  if eqN x.name m.name = true then ⟨s.ms ++ [m], true, true⟩
  else if s.done = false ∧ gtN x.name m.name = true then ⟨s.ms ++ [m] ++ [x], true, s.was⟩
  else ⟨s.ms ++ [x], s.done, s.was⟩
def insF (m : QM) (xs : List QM) : InsS := xs.foldl (insS m) ⟨[], false, false⟩
def insL (m : QM) (xs : List QM) : List QM := if (insF m xs).done then (insF m xs).ms else (insF m xs).ms ++ [m]

theorem RisesM.tail {x : QM} {r : List QM} (h : RisesM (x :: r)) : RisesM r := fun i a b ha hb => h (i + 1) a b (by simpa using ha) (by simpa using hb)
theorem RisesM.head {x : QM} : ∀ {r : List QM}, RisesM (x :: r) → ∀ y ∈ r, ltN x.name y.name = true
  | [], _, y, hy => by simp at hy
  | z :: r, h, y, hy => by
    have h1 : ltN x.name z.name = true := h 0 x z rfl rfl
    rcases List.mem_cons.1 hy with rfl | hy
    · exact h1
    · exact ltN_trans h1 (RisesM.head h.tail y hy)
theorem insS_past {m : QM} : ∀ (r : List QM) (s : InsS), s.done = true → (∀ y ∈ r, ltN m.name y.name = true) → r.foldl (insS m) s = ⟨s.ms ++ r, true, s.was⟩
  | [], s, h, _ => by cases s; simp at h ⊢; exact h
  | x :: r, s, h, hr => by
    have h1 : insS m s x = ⟨s.ms ++ [x], true, s.was⟩ := by
      unfold insS
      rw [if_neg (by rw [eqN_of_lt (hr x (by simp))]; simp), if_neg (by simp [h]), h]
    rw [List.foldl_cons, h1, insS_past r _ rfl fun y hy => hr y (by simp [hy])]
    simp
/-- From a place at which m is not yet laid. -/
theorem insS_from {m : QM} : ∀ (r pre : List QM), RisesM r →
    r.foldl (insS m) ⟨pre, false, false⟩ = (match r.findIdx? (fun y => eqN y.name m.name) with
      | some i => ⟨pre ++ r.set i m, true, true⟩
      | none => match r.findIdx? (fun y => gtN y.name m.name) with
        | some i => ⟨pre ++ (r.take i ++ [m] ++ r.drop i), true, false⟩
        | none => ⟨pre ++ r, false, false⟩)
  | [], pre, _ => by simp
  | x :: r, pre, h => by
    have hh := h.head
    cases he : eqN x.name m.name
    · cases hg : gtN x.name m.name
      · have h1 : insS m ⟨pre, false, false⟩ x = ⟨pre ++ [x], false, false⟩ := by simp [insS, he, hg]
        rw [List.foldl_cons, h1, insS_from r _ h.tail]
        rw [List.findIdx?_cons, List.findIdx?_cons, he, hg]
        cases h2 : r.findIdx? (fun y => eqN y.name m.name) with
        | some i => simp
        | none =>
          cases h3 : r.findIdx? (fun y => gtN y.name m.name) with
          | some i => simp
          | none => simp
      · have h1 : insS m ⟨pre, false, false⟩ x = ⟨pre ++ [m] ++ [x], true, false⟩ := by simp [insS, he, hg]
        have hm : ∀ y ∈ r, ltN m.name y.name = true := fun y hy => ltN_trans (gtN_iff.1 hg) (hh y hy)
        rw [List.foldl_cons, h1, insS_past r _ rfl hm]
        rw [List.findIdx?_cons, List.findIdx?_cons, he, hg]
        have h2 : r.findIdx? (fun y => eqN y.name m.name) = none := by
          rw [List.findIdx?_eq_none_iff]
          exact fun y hy => eqN_of_lt (hm y hy)
        rw [h2]
        simp
    · have h1 : insS m ⟨pre, false, false⟩ x = ⟨pre ++ [m], true, true⟩ := by simp [insS, he]
      have hm : ∀ y ∈ r, ltN m.name y.name = true := fun y hy => ltN_eq he (hh y hy)
      rw [List.foldl_cons, h1, insS_past r _ rfl hm]
      rw [List.findIdx?_cons, he]
      simp
theorem insF_was {m : QM} {xs : List QM} (h : RisesM xs) : (insF m xs).was = decide (0 ≤ numI xs m.name) := by
  unfold insF numI findI
  rw [insS_from xs [] h]
  cases h2 : xs.findIdx? (fun y => eqN y.name m.name) with
  | some i => simp
  | none => cases h3 : xs.findIdx? (fun y => gtN y.name m.name) <;> simp
theorem insL_ins {m : QM} {xs : List QM} (h : RisesM xs) : insL m xs = insM xs m := by
  unfold insL insF insM numI placeI findI
  rw [insS_from xs [] h]
  cases h2 : xs.findIdx? (fun y => eqN y.name m.name) with
  | some i => simp
  | none =>
    cases h3 : xs.findIdx? (fun y => gtN y.name m.name) with
    | some i =>
      have : ¬ ((i : Int) < 0) := by omega
      simp [this]
    | none => simp
end Go.Proofs.Ytdfbgpiikeheiaa

/- The reference's Install. -/
namespace Go.Proofs.Ytdfbgpiikeheiaa
open Go.ChangeShapes Go.WideShapes Go.ChangeAt Go.RowKit
set_option linter.unusedSimpArgs false
set_option linter.unusedVariables false
set_option maxRecDepth 8000

theorem grown_below2 {wr w2 : World} {B : Nat} {X Y : Obj} {a : Option Addr} {e : TypeId} {sz n k : Nat} {xs : List Value} (hown : wr.ownsRow B e sz (.slice a n k) n xs) (hB : B ≤ wr.heap.size) (hgr : ((wr.alloc X).alloc Y).grownBy w2 (Value.ownBlock (.slice a n k))) : Below B wr w2 :=
  ((Below.refl B wr).alloc hB X).trans (grown_below (hown.alloc X) (by simp; omega) hgr)
theorem grown_keep {wr w2 : World} {B : Nat} {X Y : Obj} {a : Option Addr} {e : TypeId} {sz n k : Nat} {xs : List Value} (hown : wr.ownsRow B e sz (.slice a n k) n xs) (hgr : ((wr.alloc X).alloc Y).grownBy w2 (Value.ownBlock (.slice a n k))) : w2.heap[wr.heap.size]? = some X := by
  rw [hgr.block wr.heap.size (by simp; omega) ?_, (bel1 _ _).block _ (by simp)]
  · exact blk_new _ _ _ rfl
  · obtain ⟨-, ⟨e, -⟩ | ⟨g, c, cur, e, h1, h2, -⟩⟩ := hown
    · rw [e]; simp [Value.ownBlock]
    · rw [e]
      have := blk_lt h2
      simp [Value.ownBlock]
      omega
theorem insF_len {m : QM} : ∀ (r : List QM) (s : InsS), (r.foldl (insS m) s).ms.length ≤ s.ms.length + r.length + (if s.done then 0 else 1) ∧ ((r.foldl (insS m) s).done = false → s.done = false ∧ (r.foldl (insS m) s).ms.length ≤ s.ms.length + r.length)
  | [], s => by simp
  | x :: r, s => by
    obtain ⟨h1, h2⟩ := insF_len (m := m) r (insS m s x)
    rw [List.foldl_cons]
    cases he : eqN x.name m.name
    · by_cases hg : s.done = false ∧ gtN x.name m.name = true
      · have e : insS m s x = ⟨s.ms ++ [m] ++ [x], true, s.was⟩ := by simp [insS, he, hg]
        rw [e] at h1 h2 ⊢
        simp [hg.1] at h1 h2 ⊢
        exact ⟨by omega, fun h => by rw [h2] at h; cases h⟩
      · have e : insS m s x = ⟨s.ms ++ [x], s.done, s.was⟩ := by simp [insS, he, hg]
        rw [e] at h1 h2 ⊢
        simp at h1 h2 ⊢
        exact ⟨by omega, fun h => ⟨(h2 h).1, by have := (h2 h).2; omega⟩⟩
    · have e : insS m s x = ⟨s.ms ++ [m], true, true⟩ := by simp [insS, he]
      rw [e] at h1 h2 ⊢
      simp at h1 h2 ⊢
      exact ⟨by split <;> omega, fun h => by rw [h2] at h; cases h⟩
theorem foldl_take_succ {α β : Type} (f : β → α → β) (b : β) (xs : List α) (j : Nat) (x : α) (h : xs[j]? = some x) : (xs.take (j + 1)).foldl f b = f ((xs.take j).foldl f b) x := by
  rw [List.take_add_one, h]; simp

/-- What comes of Install in the reference. -/
def InstR (P : Nat → Prop) (w : World) (X : QW) (c : Int) (m : QM) (hv : Value) (e : Ending) (w' : World) : Prop :=
  (hasB X.classes.length c = false ∧ e = .returned (.tuple #[WV (.slice none 0 0) (.slice none 0 0) 0, .int .i64 6]) ∨
    ∃ (k : Nat) (x : QC), c = (k : Int) ∧ X.classes[k]? = some x ∧
      ((numI x.methods m.name < 0 ∧ 8 ≤ x.methods.length ∧ e = .returned (.tuple #[WV (.slice none 0 0) (.slice none 0 0) 0, .int .i64 5])) ∨
        (¬ (numI x.methods m.name < 0 ∧ 8 ≤ x.methods.length) ∧ ∃ cv', e = .returned (.tuple #[WV cv' hv (epochE X.epoch), .int .i64 0]) ∧ IsClasses (fun b => P b ∨ w.heap.size ≤ b) w' cv' (instX X k x m).classes))) ∧ Below w.heap.size w w'
abbrev In (w : World) : Nat → Prop := fun b => b < w.heap.size
abbrev InP (P : Nat → Prop) (w : World) : Nat → Prop := fun b => P b ∧ b < w.heap.size
theorem code_in {P : Nat → Prop} {w : World} {v : Value} {xs : List QI} (h : IsCode P w v xs) : IsCode (InP P w) w v xs := by
  obtain ⟨ad, cap, h1, h2, h3, h4, h5⟩ := h
  refine ⟨ad, cap, h1, h2, h3, h4, fun i x hx => ?_⟩
  obtain ⟨b, o, e1, e2, e3⟩ := h5 i x hx
  exact ⟨b, o, e1, ⟨e2, World.block_lt_of_cell? w _ e3.1⟩, e3⟩
theorem own_row {α : Type} {E : Lay α} {sz bytes : Nat} (G : Good E sz) {t : TypeId} {Q : Nat → Prop} {B n k : Nat} {a : Option Addr} {w : World} {cs : List Value} {xs : List α} (hown : w.ownsRow B t sz (.slice a n k) n cs) (hc : Cells E sz Q w cs xs) (hn : xs.length = n) (hQ : ∀ b, B ≤ b → b < w.heap.size → Q b) (hby : n * bytes ≤ 140737488351232) : IsRow E sz bytes Q w (.slice a n k) xs := by
  obtain ⟨-, ⟨e, h0⟩ | ⟨g, c, cur, e, h1, h2, h3, h4, h5, h6⟩⟩ := hown
  · cases e
    obtain rfl := List.eq_nil_of_length_eq_zero hn
    exact row_none
  · cases e
    subst hn
    exact hc.row G (hQ _ h1 (blk_lt h2)) h2 h6 h3 h4 hby
theorem own_cell {t : TypeId} {B sz n k g : Nat} {w : World} {cs : List Value} (hown : w.ownsRow B t sz (.slice (some ⟨g, 0, none⟩) n k) n cs) {j : Nat} {u : Value} (hj : cs[j]? = some u) : w.cell? ⟨g, j, none⟩ = some u := by
  obtain ⟨-, ⟨e, h0⟩ | ⟨g', c, cur, e, h1, h2, h3, h4, h5, h6⟩⟩ := hown
  · cases e
  · cases e
    rw [cell_of_row _ _ _ _ _ _ h2]
    rw [← h6, List.getElem?_take] at hj
    split at hj
    · simpa using hj
    · cases hj
theorem own_free {t : TypeId} {B sz n k g : Nat} {w : World} {cs : List Value} (hown : w.ownsRow B t sz (.slice (some ⟨g, 0, none⟩) n k) n cs) (j : Nat) : w.frozen? ⟨g, j, none⟩ = false := by
  obtain ⟨-, ⟨e, h0⟩ | ⟨g', c, cur, e, h1, h2, h3, h4, h5, h6⟩⟩ := hown
  · cases e
  · cases e
    unfold World.frozen?; simp [h2]
theorem Cells.setAt {α : Type} {E : Lay α} {sz : Nat} {P : Nat → Prop} {w : World} {cs cs' : List Value} {xs : List α} (h : Cells E sz P w cs xs) (G : Good E sz) {q : Nat} {y : α} (hq : q < xs.length) (hl : cs'.length = cs.length) (hk : ∀ j, (j < q * sz ∨ (q + 1) * sz ≤ j) → cs'[j]? = cs[j]?) (hy : E P w (fun k => cs'[q * sz + k]?) y) : Cells E sz P w cs' (xs.set q y) := by
  refine ⟨by rw [hl, h.1, List.length_set], fun i x hx => ?_⟩
  by_cases hi : i = q
  · subst hi
    rw [List.getElem?_set_self hq] at hx
    cases hx
    exact hy
  · rw [List.getElem?_set_ne (Ne.symm hi)] at hx
    refine G.move (h.2 i x hx) (fun _ h => h) (.refl _ _) fun k hk' v hv => ?_
    rw [hk]
    · exact hv
    · rcases Nat.lt_or_gt_of_ne hi with h' | h'
      · left
        have : (i + 1) * sz ≤ q * sz := Nat.mul_le_mul_right _ h'
        rw [Nat.add_mul] at this
        omega
      · right
        have : (q + 1) * sz ≤ i * sz := Nat.mul_le_mul_right _ h'
        omega

/-- What holds while the reference lays methods. -/
structure LayR (P : Nat → Prop) (w W0 : World) (m : QM) (s : InsS) (a : Option Addr) (k : Nat) (cs : List Value) (wr : World) : Prop where
  bel : Below (w.heap.size + 3) W0 wr
  own : wr.ownsRow (w.heap.size + 3) 55 5 (.slice a s.ms.length k) s.ms.length cs
  cells : Cells MethC 5 (InP P w) w cs s.ms

/-- The world as the reference's Install leaves it. -/
theorem inst_fin {P : Nat → Prop} {w wc wA : World} {X : QW} {m : QM} {q : Nat} {x : QC} {ccs : List Value} {az : Option Addr} {L cap2 gA capA : Nat} {S1 S2 S3 S4 S5 : Value} (hx : X.classes[q]? = some x) (hbw : Below w.heap.size w wc) (hA : Below wc.heap.size wc wA) (hgB : wc.heap.size ≤ gA) (hsz : w.heap.size + 3 ≤ wc.heap.size)
    (hownA : wA.ownsRow wc.heap.size 52 4 (.slice (some ⟨gA, 0, none⟩) X.classes.length capA) X.classes.length ccs) (HCC : Cells ClassC 4 P w ccs X.classes) (hMZ : IsMeths (fun b => (P b ∧ b < w.heap.size ∨ w.heap.size + 3 ≤ b) ∧ b < wc.heap.size) wc (.slice az L cap2) (insM x.methods m)) (hby : X.classes.length * 56 ≤ 140737488351232) :
    Below w.heap.size w ((((((wA.setCell ⟨w.heap.size, 0, none⟩ S1).setCell ⟨gA, q * 4 + 3, none⟩ (.slice az L cap2)).setCell ⟨w.heap.size, 2, none⟩ S2).setCell ⟨w.heap.size + 1 + 1, 0, none⟩ S3).setCell ⟨w.heap.size + 1 + 1, 1, none⟩ S4).setCell ⟨w.heap.size + 1 + 1, 2, none⟩ S5) ∧
      IsClasses (fun b => P b ∨ w.heap.size ≤ b) ((((((wA.setCell ⟨w.heap.size, 0, none⟩ S1).setCell ⟨gA, q * 4 + 3, none⟩ (.slice az L cap2)).setCell ⟨w.heap.size, 2, none⟩ S2).setCell ⟨w.heap.size + 1 + 1, 0, none⟩ S3).setCell ⟨w.heap.size + 1 + 1, 1, none⟩ S4).setCell ⟨w.heap.size + 1 + 1, 2, none⟩ S5) (.slice (some ⟨gA, 0, none⟩) X.classes.length capA) (instX X q x m).classes := by
  have hF : Below w.heap.size w ((((((wA.setCell ⟨w.heap.size, 0, none⟩ S1).setCell ⟨gA, q * 4 + 3, none⟩ (.slice az L cap2)).setCell ⟨w.heap.size, 2, none⟩ S2).setCell ⟨w.heap.size + 1 + 1, 0, none⟩ S3).setCell ⟨w.heap.size + 1 + 1, 1, none⟩ S4).setCell ⟨w.heap.size + 1 + 1, 2, none⟩ S5) :=
    below_set3 ((((nstep hbw hA).setCell (Nat.le_refl _) _).setCell (by show w.heap.size ≤ gA; omega) _).setCell (Nat.le_refl _) _) (by omega) _ _ _
  refine ⟨hF, ?_⟩
  have hM2 : IsMeths (fun b => P b ∨ w.heap.size ≤ b) ((((((wA.setCell ⟨w.heap.size, 0, none⟩ S1).setCell ⟨gA, q * 4 + 3, none⟩ (.slice az L cap2)).setCell ⟨w.heap.size, 2, none⟩ S2).setCell ⟨w.heap.size + 1 + 1, 0, none⟩ S3).setCell ⟨w.heap.size + 1 + 1, 1, none⟩ S4).setCell ⟨w.heap.size + 1 + 1, 2, none⟩ S5) (.slice az L cap2) (insM x.methods m) :=
    hMZ.keep goodM (keep_set (keep_set (keep_set (keep_set (keep_set (keep_set (.of_below hA) (by rintro ⟨⟨_, h⟩ | h, _⟩ <;> omega) _) (by rintro ⟨⟨_, h⟩ | h, _⟩ <;> omega) _) (by rintro ⟨⟨_, h⟩ | h, _⟩ <;> omega) _) (by rintro ⟨⟨_, h⟩ | h, _⟩ <;> omega) _) (by rintro ⟨⟨_, h⟩ | h, _⟩ <;> omega) _) (by rintro ⟨⟨_, h⟩ | h, _⟩ <;> omega) _) fun b hb => by
      rcases hb.1 with h | h
      · exact Or.inl h.1
      · exact Or.inr (by omega)
  have hq := lt_of_get hx
  obtain ⟨-, ⟨e, h0⟩ | ⟨g, c, cur, e, h1, h2, h3, h4, h5, h6⟩⟩ := hownA
  · cases e
  · cases e
    have hlen : (instX X q x m).classes.length = X.classes.length := by simp [instX]
    have hblk : ((((((wA.setCell ⟨w.heap.size, 0, none⟩ S1).setCell ⟨gA, q * 4 + 3, none⟩ (.slice az L cap2)).setCell ⟨w.heap.size, 2, none⟩ S2).setCell ⟨w.heap.size + 1 + 1, 0, none⟩ S3).setCell ⟨w.heap.size + 1 + 1, 1, none⟩ S4).setCell ⟨w.heap.size + 1 + 1, 2, none⟩ S5).heap[gA]? = some (.cells (cur.setIfInBounds (q * 4 + 3) (.slice az L cap2)) 52 (0, 0)) := by
      rw [setCell_else (by omega), setCell_else (by omega), setCell_else (by omega), setCell_else (by omega)]
      exact setCell_same (by rw [setCell_else (by omega)]; exact h2) _
    have hcs := HCC.keep goodC (.of_below hF) (Q := fun b => P b ∨ w.heap.size ≤ b) fun _ h => Or.inl h
    obtain ⟨e0, e1, e2, en, -⟩ := hcs.2 q x hx
    have hl3 : q * 4 + 3 < ccs.length := by rw [hcs.1]; omega
    have hC2 : Cells ClassC 4 (fun b => P b ∨ w.heap.size ≤ b) ((((((wA.setCell ⟨w.heap.size, 0, none⟩ S1).setCell ⟨gA, q * 4 + 3, none⟩ (.slice az L cap2)).setCell ⟨w.heap.size, 2, none⟩ S2).setCell ⟨w.heap.size + 1 + 1, 0, none⟩ S3).setCell ⟨w.heap.size + 1 + 1, 1, none⟩ S4).setCell ⟨w.heap.size + 1 + 1, 2, none⟩ S5) (ccs.set (q * 4 + 3) (.slice az L cap2)) (instX X q x m).classes := by
      refine hcs.setAt goodC hq (by simp) (fun j hj => List.getElem?_set_ne (by omega)) ⟨?_, ?_, ?_, en, _, ?_, hM2⟩
      · exact (List.getElem?_set_ne (by omega)).trans e0
      · exact (List.getElem?_set_ne (by omega)).trans e1
      · exact (List.getElem?_set_ne (by omega)).trans e2
      · exact List.getElem?_set_self hl3
    have := hC2.row (bytes := 56) (cap := capA) goodC (Or.inr (by omega)) hblk (by rw [hlen, ← h6]; simp [List.take_set]) (by rw [hlen]; exact h3) h4 (by rw [hlen]; exact hby)
    rw [hlen] at this
    exact this

set_option maxHeartbeats 4000000 in
theorem rinstall_any {P : Nat → Prop} (X : QW) (c : Int) (m : QM) (cv hv mv : Value) (w : World) (hh : IsClasses P w cv X.classes) (hH : IsHeap P w hv X.heap) (hM : IsCode P w mv m.code) (hmn : m.name.size ≤ 140737488351232) (hRC : RisesC X.classes) : Calls Try.prog 29 #[WV cv hv X.epoch, .int .i64 c, MV m mv] w fun e w' => InstR P w X c m hv e w' := by
  obtain ⟨ad, cap, rfl, hl, hcap, hby, hrow⟩ := id hh
  obtain ⟨ah, ch, rfl, -, -, -, -⟩ := id hH
  obtain ⟨am, cm, rfl⟩ := hM.get
  obtain ⟨i0, hi, hz0, hz1, hz2⟩ := info_parts info55
  unfold maxLen at hcap
  go_enter Try.func29, Try.ntmps29
  cases hhas : hasB X.classes.length c
  · have HE : Hid (∀ W : World, Below w.heap.size w W → InstR P w X c m (.slice ah X.heap.length ch) (.returned (.tuple #[WV (.slice none 0 0) (.slice none 0 0) 0, .int .i64 6])) W) := fun W h => ⟨Or.inl ⟨hhas, rfl⟩, h⟩
    by_cases h0 : c < 0
    · go_wp2
      refine bodyPost_ret (v := .tuple #[WV (.slice none 0 0) (.slice none 0 0) 0, .int .i64 6]) ?_ rfl (HE.out _ ?_)
      · simp [results, Try.results29, go_sem]
      · first | exact bel3 _ _ _ _ | exact below_set3 (bel3 _ _ _ _) (by omega) _ _ _
    · have h0' : decide (c < 0) = false := by simpa using h0
      have h1 : (X.classes.length : Int) ≤ c := by simp [hasB] at hhas; omega
      go_wp2
      refine bodyPost_ret (v := .tuple #[WV (.slice none 0 0) (.slice none 0 0) 0, .int .i64 6]) ?_ rfl (HE.out _ ?_)
      · simp [results, Try.results29, go_sem]
      · first | exact bel3 _ _ _ _ | exact below_set3 (bel3 _ _ _ _) (by omega) _ _ _
  · have h0 : (0 : Int) ≤ c := by simp [hasB] at hhas; omega
    obtain ⟨q, rfl⟩ := Int.eq_ofNat_of_zero_le h0
    have hq : q < X.classes.length := by simp [hasB] at hhas; omega
    have h1 : (q : Int) < (X.classes.length : Int) := by omega
    obtain ⟨x, hx⟩ : ∃ x, X.classes[q]? = some x := ⟨_, List.getElem?_eq_getElem hq⟩
    obtain ⟨b, o, rfl, -, v0, v1, v2, -, sv, v3, hms⟩ := hrow q x hx
    obtain ⟨am2, km, rfl, hlm, hkm, hbm, hrm⟩ := id hms
    unfold maxLen at hkm
    have HX : Hid (X.classes[q]? = some x) := hx
    have hRM : RisesM x.methods := hRC q x hx
    have HROW : Hid (RowAt ClassC 4 P w (some ⟨b, o, none⟩) X.classes) := hrow
    clear hx hhas hrow
    have v3x := fun x1 x2 x3 => cell_later (bel3 w x1 x2 x3) v3
    go_wp2
    generalize hW0 : ((w.alloc (Obj.cells #[Value.slice (some ⟨b, o, none⟩) X.classes.length cap, Value.slice ah X.heap.length ch, Value.int IntKind.i64 X.epoch] 25)).alloc (Obj.cells #[Value.string m.name, Value.int IntKind.i64 m.args, Value.int IntKind.i64 m.temps, Value.int IntKind.i64 m.prim, Value.slice am m.code.length cm] 55)).alloc (Obj.cells #[Value.slice none 0 0, Value.slice none 0 0, Value.int IntKind.i64 0] 25) = W0 at *
    have hBW : Below w.heap.size w W0 := by rw [← hW0]; exact bel3 _ _ _ _
    have hsW : W0.heap.size = w.heap.size + 3 := by rw [← hW0]; simp
    have gA : W0.heap[w.heap.size]? = some (.cells #[Value.slice (some ⟨b, o, none⟩) X.classes.length cap, Value.slice ah X.heap.length ch, Value.int IntKind.i64 X.epoch] 25 (0, 0)) := by rw [← hW0, (bel2 _ _ _).block _ (by simp)]; exact blk_new _ _ _ rfl
    have gB : W0.heap[w.heap.size + 1]? = some (.cells #[Value.string m.name, Value.int IntKind.i64 m.args, Value.int IntKind.i64 m.temps, Value.int IntKind.i64 m.prim, Value.slice am m.code.length cm] 55 (0, 0)) := by rw [← hW0, (bel1 _ _).block _ (by simp)]; exact blk_new _ _ _ (by simp)
    have gC : W0.heap[w.heap.size + 1 + 1]? = some (.cells #[Value.slice none 0 0, Value.slice none 0 0, Value.int IntKind.i64 0] 25 (0, 0)) := by rw [← hW0]; exact blk_new _ _ _ (by simp)
    clear hW0
    go_loopg [8, 9, 10, 30] x.methods.length (fun g ms dn ws i wr => ∃ (j : Nat) (s : InsS) (a : Option Addr) (k : Nat) (cs : List Value), j + g = x.methods.length ∧ i = .int .i64 j ∧ s = (x.methods.take j).foldl (insS m) ⟨[], false, false⟩ ∧ ms = .slice a s.ms.length k ∧ dn = .bool s.done ∧ ws = .bool s.was ∧ LayR P w W0 m s a k cs wr)
    case atStart => exact ⟨0, ⟨[], false, false⟩, none, 0, [], by omega, rfl, rfl, rfl, rfl, rfl, Below.refl _ _, ⟨by simp, Or.inl ⟨rfl, rfl⟩⟩, .nil⟩
    case round =>
      obtain ⟨j, s, a, k, cs, hg, rfl, hs, rfl, rfl, rfl, hL⟩ := hrel
      obtain ⟨sm, sd, sw⟩ := s
      have HS : Hid (InsS.mk sm sd sw = (x.methods.take j).foldl (insS m) ⟨[], false, false⟩) := hs
      have hlen1 : sm.length ≤ j + 1 := by
        have := (insF_len (m := m) (x.methods.take j) ⟨[], false, false⟩).1
        rw [← hs] at this
        simp at this
        have h2 := List.length_take_le j x.methods
        simp at h2
        omega
      obtain ⟨hbel, hown, hcs⟩ := id hL
      have hsz : w.heap.size + 3 ≤ wr.heap.size := by have := hbel.size; omega
      have hbw : Below w.heap.size w wr := hBW.trans (hbel.mono (by omega))
      have HCS : Hid (Cells MethC 5 (InP P w) w cs sm) := hcs
      clear hs hL hcs
      simp only at hown
      by_cases hj : j < x.methods.length
      · have hj1 : (j : Int) < (x.methods.length : Int) := by omega
        have hj0 : (0 : Int) ≤ (j : Int) := by omega
        obtain ⟨y, hy⟩ : ∃ y, x.methods[j]? = some y := ⟨_, List.getElem?_eq_getElem hj⟩
        obtain ⟨b2, o2, rfl, -, p0, p1, p2, p3, hyn, yv, p4, hyc⟩ := hrm j y hy
        obtain ⟨ay, ky, rfl⟩ := hyc.get
        have HY : Hid (InsS.mk sm sd sw = (x.methods.take j).foldl (insS m) ⟨[], false, false⟩ → (x.methods.take (j + 1)).foldl (insS m) ⟨[], false, false⟩ = insS m ⟨sm, sd, sw⟩ y) := fun h => by rw [foldl_take_succ _ _ _ _ _ hy, h]
        simp only [Nat.add_zero] at p0
        replace p0 := cell_later hbw p0
        replace p1 := cell_later hbw p1
        replace p2 := cell_later hbw p2
        replace p3 := cell_later hbw p3
        replace p4 := cell_later hbw p4
        have gB' : wr.heap[w.heap.size + 1]? = some (.cells #[Value.string m.name, Value.int IntKind.i64 m.args, Value.int IntKind.i64 m.temps, Value.int IntKind.i64 m.prim, Value.slice am m.code.length cm] 55 (0, 0)) := by rw [hbel.block _ (by omega)]; exact gB
        have mc : ∀ z q, (wr.alloc z).cell? ⟨w.heap.size + 1, q, none⟩ = (#[Value.string m.name, Value.int IntKind.i64 m.args, Value.int IntKind.i64 m.temps, Value.int IntKind.i64 m.prim, Value.slice am m.code.length cm] : Array Value)[q]? := fun z q => by rw [(bel1 wr z).cell (p := ⟨w.heap.size + 1, q, none⟩) (by simp; omega), cell_of_row _ _ _ _ _ _ gB']
        have HYC : Hid (IsCode (InP P w) w (.slice ay y.code.length ky) y.code) := code_in hyc
        clear hy hyc
        cases he : eqN y.name m.name
        · have he' : (y.name.toList == m.name.toList) = false := he
          cases sd
          · cases hlt : Op.bytesLess y.name.toList m.name.toList
            · have hg : gtN y.name m.name = true := by unfold gtN; rw [hlt, he']; rfl
              go_wp2_with (first
                | (at_builtin; refine wpList_append_lies _ rfl (.tmp 52) (.tmp 54) 50 rfl (w.heap.size + 3) 55 i0 _ 5 64 Try.underlying50 hi hz0 hz1 hz2 rfl (by decide) _ sm.length _ rfl ((hown.alloc _).alloc _) ⟨_, 0, none⟩ 1 1 [Value.string m.name, Value.int IntKind.i64 m.args, Value.int IntKind.i64 m.temps, Value.int IntKind.i64 m.prim, Value.slice am m.code.length cm] rfl rfl (fun j u hu => (by rw [Addr.add_lit, Nat.zero_add]; exact (cell_new (World.alloc wr _) _ 55 _ (by simp) j).trans (by simpa using hu))) (by intro u hu; simp at hu; rcases hu with rfl | rfl | rfl | rfl | rfl <;> rfl) (by omega) (by unfold maxLen; omega) (by omega) (by first | (simp; omega) | (have := hb2.size; simp; omega)) _ rfl ?_; intro gg cap2 w2 hown2 hgr hor hlt2; have hb2 := grown_below2 hown hsz hgr; have hk2 := grown_keep hown hgr; have yc : ∀ q, w2.cell? ⟨wr.heap.size, q, none⟩ = (#[Value.string y.name, Value.int IntKind.i64 y.args, Value.int IntKind.i64 y.temps, Value.int IntKind.i64 y.prim, Value.slice ay y.code.length ky] : Array Value)[q]? := (fun q => by rw [cell_of_row _ _ _ _ _ _ hk2]))
                | (at_builtin; refine wpList_append_lies _ rfl (.tmp 56) (.tmp 58) 50 rfl (w.heap.size + 3) 55 i0 _ 5 64 Try.underlying50 hi hz0 hz1 hz2 rfl (by decide) _ (sm.length + 1) _ rfl (hown2.alloc _) ⟨_, 0, none⟩ 1 1 [Value.string y.name, Value.int IntKind.i64 y.args, Value.int IntKind.i64 y.temps, Value.int IntKind.i64 y.prim, Value.slice ay y.code.length ky] rfl rfl (fun j u hu => (by rw [Addr.add_lit, Nat.zero_add]; exact (cell_new w2 _ 55 _ rfl j).trans (by simpa using hu))) (by intro u hu; simp at hu; rcases hu with rfl | rfl | rfl | rfl | rfl <;> rfl) (by omega) (by unfold maxLen; omega) (by omega) (by first | (simp; omega) | (have := hb2.size; simp; omega)) _ rfl ?_; intro gg3 cap3 w3 hown3 hgr3 hor3 hlt3; have hb3 := grown_below hown2 (Nat.le_trans hsz hb2.size) hgr3))
              go_roundg (gk - 1)
              case measure => omega
              case rel =>
                refine ⟨j + 1, ⟨sm ++ [m] ++ [y], true, sw⟩, some ⟨gg3, 0, none⟩, cap3, _, by omega, by go_num, ?_, by simp, rfl, rfl, hbel.trans (hb2.trans hb3), by simpa using hown3, (HCS.out.append goodM (one_meth m _ hmn (code_in hM))).append goodM (one_meth y _ hyn HYC.out)⟩
                rw [HY.out HS.out]
                simp [insS, he, hg]
            · have hg : gtN y.name m.name = false := by unfold gtN; rw [hlt]; rfl
              go_wp2_with (at_builtin; refine wpList_append_lies _ rfl (.tmp 56) (.tmp 58) 50 rfl (w.heap.size + 3) 55 i0 _ 5 64 Try.underlying50 hi hz0 hz1 hz2 rfl (by decide) _ sm.length _ rfl ((hown.alloc _).alloc _) ⟨_, 0, none⟩ 1 1 [Value.string y.name, Value.int IntKind.i64 y.args, Value.int IntKind.i64 y.temps, Value.int IntKind.i64 y.prim, Value.slice ay y.code.length ky] rfl rfl (fun j u hu => (by rw [Addr.add_lit, Nat.zero_add]; exact (cell_new (World.alloc wr _) _ 55 _ (by simp) j).trans (by simpa using hu))) (by intro u hu; simp at hu; rcases hu with rfl | rfl | rfl | rfl | rfl <;> rfl) (by omega) (by unfold maxLen; omega) (by omega) (by first | (simp; omega) | (have := hb2.size; simp; omega)) _ rfl ?_; intro gg cap2 w2 hown2 hgr hor hlt2; have hb2 := grown_below2 hown hsz hgr)
              go_roundg (gk - 1)
              case measure => omega
              case rel =>
                refine ⟨j + 1, ⟨sm ++ [y], false, sw⟩, some ⟨gg, 0, none⟩, cap2, _, by omega, by go_num, ?_, by simp, rfl, rfl, hbel.trans hb2, by simpa using hown2, HCS.out.append goodM (one_meth y _ hyn HYC.out)⟩
                rw [HY.out HS.out]
                simp [insS, he, hg]
          · go_wp2_with (at_builtin; refine wpList_append_lies _ rfl (.tmp 56) (.tmp 58) 50 rfl (w.heap.size + 3) 55 i0 _ 5 64 Try.underlying50 hi hz0 hz1 hz2 rfl (by decide) _ sm.length _ rfl ((hown.alloc _).alloc _) ⟨_, 0, none⟩ 1 1 [Value.string y.name, Value.int IntKind.i64 y.args, Value.int IntKind.i64 y.temps, Value.int IntKind.i64 y.prim, Value.slice ay y.code.length ky] rfl rfl (fun j u hu => (by rw [Addr.add_lit, Nat.zero_add]; exact (cell_new (World.alloc wr _) _ 55 _ (by simp) j).trans (by simpa using hu))) (by intro u hu; simp at hu; rcases hu with rfl | rfl | rfl | rfl | rfl <;> rfl) (by omega) (by unfold maxLen; omega) (by omega) (by first | (simp; omega) | (have := hb2.size; simp; omega)) _ rfl ?_; intro gg cap2 w2 hown2 hgr hor hlt2; have hb2 := grown_below2 hown hsz hgr)
            go_roundg (gk - 1)
            case measure => omega
            case rel =>
              refine ⟨j + 1, ⟨sm ++ [y], true, sw⟩, some ⟨gg, 0, none⟩, cap2, _, by omega, by go_num, ?_, by simp, rfl, rfl, hbel.trans hb2, by simpa using hown2, HCS.out.append goodM (one_meth y _ hyn HYC.out)⟩
              rw [HY.out HS.out]
              simp [insS, he]
        · have he' : (y.name.toList == m.name.toList) = true := he
          go_wp2_with (at_builtin; refine wpList_append_lies _ rfl (.tmp 39) (.tmp 41) 50 rfl (w.heap.size + 3) 55 i0 _ 5 64 Try.underlying50 hi hz0 hz1 hz2 rfl (by decide) _ sm.length cs rfl ((hown.alloc _).alloc _) ⟨_, 0, none⟩ 1 1 [Value.string m.name, Value.int IntKind.i64 m.args, Value.int IntKind.i64 m.temps, Value.int IntKind.i64 m.prim, Value.slice am m.code.length cm] rfl rfl (fun j u hu => (by rw [Addr.add_lit, Nat.zero_add]; exact (cell_new (World.alloc wr _) _ 55 _ (by simp) j).trans (by simpa using hu))) (by intro u hu; simp at hu; rcases hu with rfl | rfl | rfl | rfl | rfl <;> rfl) (by omega) (by unfold maxLen; omega) (by omega) (by simp; omega) _ rfl ?_; intro gg cap2 w2 hown2 hgr hor hlt2; have hb2 := grown_below2 hown hsz hgr)
          go_roundg (gk - 1)
          case measure => omega
          case rel =>
            refine ⟨j + 1, ⟨sm ++ [m], true, true⟩, some ⟨gg, 0, none⟩, cap2, _, by omega, by go_num, ?_, by simp, rfl, rfl, hbel.trans hb2, by simpa using hown2, HCS.out.append goodM (one_meth m _ hmn (code_in hM))⟩
            rw [HY.out HS.out]
            simp [insS, he]
      · obtain rfl : j = x.methods.length := by omega
        have hF : Hid (insF m x.methods = ⟨sm, sd, sw⟩) := by show _ = _; unfold insF; rw [HS.out, List.take_length]
        have hsw : Hid (sw = decide (0 ≤ numI x.methods m.name)) := by show _ = _; rw [← insF_was hRM, hF.out]
        have hlI : insM x.methods m = if sd then sm else sm ++ [m] := by rw [← insL_ins hRM]; unfold insL; rw [hF.out]
        have hj1 : (x.methods.length : Int) ≤ (x.methods.length : Int) := by omega
        have gA' : wr.heap[w.heap.size]? = some (.cells #[Value.slice (some ⟨b, o, none⟩) X.classes.length cap, Value.slice ah X.heap.length ch, Value.int IntKind.i64 X.epoch] 25 (0, 0)) := by rw [hbel.block _ (by omega)]; exact gA
        have gB' : wr.heap[w.heap.size + 1]? = some (.cells #[Value.string m.name, Value.int IntKind.i64 m.args, Value.int IntKind.i64 m.temps, Value.int IntKind.i64 m.prim, Value.slice am m.code.length cm] 55 (0, 0)) := by rw [hbel.block _ (by omega)]; exact gB
        have mc : ∀ q, wr.cell? ⟨w.heap.size + 1, q, none⟩ = (#[Value.string m.name, Value.int IntKind.i64 m.args, Value.int IntKind.i64 m.temps, Value.int IntKind.i64 m.prim, Value.slice am m.code.length cm] : Array Value)[q]? := fun q => by rw [cell_of_row _ _ _ _ _ _ gB']
        go_upto_if 62 with (fail)
        go_cut [8] (fun ms wz => ∃ (L cap2 : Nat) (az : Option Addr) (csz : List Value), ms = .slice az L cap2 ∧ Below (w.heap.size + 3) W0 wz ∧ wz.ownsRow (w.heap.size + 3) 55 5 (.slice az L cap2) L csz ∧ Cells MethC 5 (InP P w) w csz (insM x.methods m) ∧ L = (insM x.methods m).length)
        case first =>
          cases sd
          · simp only [Bool.false_eq_true, if_false] at hlI
            go_wp2_with (at_builtin; refine wpList_append_lies _ rfl (.tmp 63) (.tmp 65) 50 rfl (w.heap.size + 3) 55 i0 _ 5 64 Try.underlying50 hi hz0 hz1 hz2 rfl (by decide) _ sm.length cs rfl (hown.alloc _) ⟨_, 0, none⟩ 1 1 [Value.string m.name, Value.int IntKind.i64 m.args, Value.int IntKind.i64 m.temps, Value.int IntKind.i64 m.prim, Value.slice am m.code.length cm] rfl rfl (fun j u hu => (by rw [Addr.add_lit, Nat.zero_add]; exact (cell_new wr _ 55 _ rfl j).trans (by simpa using hu))) (by intro u hu; simp at hu; rcases hu with rfl | rfl | rfl | rfl | rfl <;> rfl) (by omega) (by unfold maxLen; omega) (by omega) (by simp; omega) _ rfl ?_; intro gg cap2 w2 hown2 hgr hor hlt2; have hb2 := grown_below hown hsz hgr)
            go_meet
            case rel => exact ⟨_, _, _, _, rfl, hbel.trans hb2, hown2, by rw [hlI]; exact HCS.out.append goodM (one_meth m _ hmn (code_in hM)), by rw [hlI]; simp⟩
          · simp only [if_true] at hlI
            go_wp2_with fail
            go_meet
            case rel => exact ⟨_, _, _, _, rfl, hbel, hown, by rw [hlI]; exact HCS.out, by rw [hlI]⟩
        case rest =>
          obtain ⟨L, cap2, az, csz, rfl, hbz, hownz, hcz, hL⟩ := hcut
          clear gA' gB' mc hown hbel hbw hsz HCS
          have hsz : w.heap.size + 3 ≤ wc.heap.size := by have := hbz.size; omega
          have hbw : Below w.heap.size w wc := hBW.trans (hbz.mono (by omega))
          have gA' : wc.heap[w.heap.size]? = some (.cells #[Value.slice (some ⟨b, o, none⟩) X.classes.length cap, Value.slice ah X.heap.length ch, Value.int IntKind.i64 X.epoch] 25 (0, 0)) := by rw [hbz.block _ (by omega)]; exact gA
          have gC' : wc.heap[w.heap.size + 1 + 1]? = some (.cells #[Value.slice none 0 0, Value.slice none 0 0, Value.int IntKind.i64 0] 25 (0, 0)) := by rw [hbz.block _ (by omega)]; exact gC
          have ac : ∀ q, wc.cell? ⟨w.heap.size, q, none⟩ = (#[Value.slice (some ⟨b, o, none⟩) X.classes.length cap, Value.slice ah X.heap.length ch, Value.int IntKind.i64 X.epoch] : Array Value)[q]? := fun q => by rw [cell_of_row _ _ _ _ _ _ gA']
          have rc : ∀ q, wc.cell? ⟨w.heap.size + 1 + 1, q, none⟩ = (#[Value.slice none 0 0, Value.slice none 0 0, Value.int IntKind.i64 0] : Array Value)[q]? := fun q => by rw [cell_of_row _ _ _ _ _ _ gC']
          have rf : ∀ q, wc.frozen? ⟨w.heap.size + 1 + 1, q, none⟩ = false := fun q => by unfold World.frozen?; simp [gC']
          have v3' := cell_later hbw v3
          by_cases hmany : numI x.methods m.name < 0 ∧ 8 ≤ x.methods.length
          · have hsw' : sw = false := by rw [hsw.out]; simpa using hmany.1
            subst hsw'
            have h8 : (8 : Int) ≤ (x.methods.length : Int) := by omega
            have HE : Hid (∀ W : World, Below w.heap.size w W → InstR P w X (q : Int) m (.slice ah X.heap.length ch) (.returned (.tuple #[WV (.slice none 0 0) (.slice none 0 0) 0, .int .i64 5])) W) := fun W h => ⟨Or.inr ⟨q, x, rfl, HX.out, Or.inl ⟨hmany.1, hmany.2, rfl⟩⟩, h⟩
            clear hsw
            go_wp2
            refine bodyPost_ret (v := .tuple #[WV (.slice none 0 0) (.slice none 0 0) 0, .int .i64 5]) ?_ rfl (HE.out _ (below_set3 hbw (by omega) _ _ _))
            simp [results, Try.results29, go_sem, rc, rf]
          · have HN : Hid (¬ (numI x.methods m.name < 0 ∧ 8 ≤ x.methods.length)) := hmany
            have hLlen : L * 64 ≤ 140737488351232 := by
              rw [hL]
              unfold insM
              split
              · rw [List.length_set]; omega
              · have : x.methods.length < 8 := by omega
                simp
                omega
            obtain ⟨ccs, hcs, hsrc⟩ := RowAt.cells HROW.out goodC
            have HCC : Hid (Cells ClassC 4 P w ccs X.classes) := hcs
            have HSRC : Hid (∀ j u, ccs[j]? = some u → ∃ a, some (⟨b, o, none⟩ : Addr) = some a ∧ w.cell? (a.add j) = some u) := hsrc
            have hcl := hcs.1
            have hMZ : Hid (IsMeths (fun b => (P b ∧ b < w.heap.size ∨ w.heap.size + 3 ≤ b) ∧ b < wc.heap.size) wc (.slice az L cap2) (insM x.methods m)) :=
              own_row goodM hownz (hcz.keep goodM (.of_below hbw) fun b hb => ⟨Or.inl hb, Nat.lt_of_lt_of_le hb.2 hbw.size⟩) hL.symm (fun b h1 h2 => ⟨Or.inr h1, h2⟩) hLlen
            clear hcs hsrc hmany
            have acx := fun x q => ((bel1 wc x).cell (p := ⟨w.heap.size, q, none⟩) (by simp; omega)).trans (ac q)
            have hgd : sw = false → decide (8 ≤ (x.methods.length : Int)) = false := fun h => by
              have := hsw.out
              rw [h] at this
              have h1 : ¬ (0 ≤ numI x.methods m.name) := by simpa using this
              have := HN.out
              simp
              omega
            obtain ⟨u3, hu3⟩ : ∃ u, ccs[q * 4 + 3]? = some u := by
              obtain ⟨u, hu, -⟩ := goodC.there (HCC.out.2 q x HX.out) 3 (by omega)
              exact ⟨u, hu⟩
            have HL : Hid (L = (insM x.methods m).length) := hL
            have HCU : Hid (ccs[q * 4 + 3]? = some u3) := hu3
            have afc : ∀ q, wc.frozen? ⟨w.heap.size, q, none⟩ = false := fun q => by unfold World.frozen?; simp [gA']
            clear hlI hL hsw hu3
            cases hsv : sw
            · have hgd' := hgd hsv
              clear hgd
              go_wp2_with (at_builtin; refine wpList_append_src rfl (.tmp 80) (.tmp 82) 22 52 zC 4 56 rfl Try.underlying22 info52 rfl (by decide) (by decide) wc.heap.size rfl (blk_new _ _ _ rfl) (some ⟨b, o, none⟩) X.classes.length cap rfl ccs hcl (fun j u hu => by obtain ⟨a, e, h⟩ := HSRC.out j u hu; exact ⟨a, e, cell_later (nstep hbw (bel1 _ _)) h⟩) hby ?_; intro gA capA wA hownA hgA hgAl hbA; have hA := nstep (bel1 _ _) hbA; have acA := (fun q => (hA.cell (p := ⟨w.heap.size, q, none⟩) (by simp; omega)).trans (ac q)); have afA := (fun q => (hA.frozen (p := ⟨w.heap.size, q, none⟩) (by simp; omega)).trans (afc q)); have rcA := (fun q => (hA.cell (p := ⟨w.heap.size + 1 + 1, q, none⟩) (by simp; omega)).trans (rc q)); have rfA := (fun q => (hA.frozen (p := ⟨w.heap.size + 1 + 1, q, none⟩) (by simp; omega)).trans (rf q)); have hgc := own_cell hownA HCU.out; have hgf := own_free hownA; have hgB : wc.heap.size ≤ gA := (by rcases hgA with rfl | h; exact Nat.le_refl _; simp at h; omega); have hne1 : ¬ gA = w.heap.size := (by omega); have hne2 : ¬ w.heap.size = gA := (by omega); have hne3 : ¬ gA = w.heap.size + 1 + 1 := (by omega); have hne4 : ¬ w.heap.size + 1 + 1 = gA := (by omega))
              obtain ⟨hF, hFC⟩ := inst_fin (S1 := .slice (some ⟨gA, 0, none⟩) X.classes.length capA) (S2 := .int .i64 (wrap64 (X.epoch + 1))) (S3 := .slice (some ⟨gA, 0, none⟩) X.classes.length capA) (S4 := .slice ah X.heap.length ch) (S5 := .int .i64 (wrap64 (X.epoch + 1))) HX.out hbw hA hgB hsz hownA HCC.out hMZ.out hby
              refine bodyPost_ret (v := .tuple #[WV (.slice (some ⟨gA, 0, none⟩) X.classes.length capA) (.slice ah X.heap.length ch) (epochE X.epoch), .int .i64 0]) ?_ rfl ⟨Or.inr ⟨q, x, rfl, HX.out, Or.inr ⟨HN.out, _, rfl, hFC⟩⟩, hF⟩
              simp [results, Try.results29, go_sem, rcA, rfA, acA, afA, hne1, hne2, hne3, hne4, epochE]
            · clear hgd
              go_wp2_with (at_builtin; refine wpList_append_src rfl (.tmp 80) (.tmp 82) 22 52 zC 4 56 rfl Try.underlying22 info52 rfl (by decide) (by decide) wc.heap.size rfl (blk_new _ _ _ rfl) (some ⟨b, o, none⟩) X.classes.length cap rfl ccs hcl (fun j u hu => by obtain ⟨a, e, h⟩ := HSRC.out j u hu; exact ⟨a, e, cell_later (nstep hbw (bel1 _ _)) h⟩) hby ?_; intro gA capA wA hownA hgA hgAl hbA; have hA := nstep (bel1 _ _) hbA; have acA := (fun q => (hA.cell (p := ⟨w.heap.size, q, none⟩) (by simp; omega)).trans (ac q)); have afA := (fun q => (hA.frozen (p := ⟨w.heap.size, q, none⟩) (by simp; omega)).trans (afc q)); have rcA := (fun q => (hA.cell (p := ⟨w.heap.size + 1 + 1, q, none⟩) (by simp; omega)).trans (rc q)); have rfA := (fun q => (hA.frozen (p := ⟨w.heap.size + 1 + 1, q, none⟩) (by simp; omega)).trans (rf q)); have hgc := own_cell hownA HCU.out; have hgf := own_free hownA; have hgB : wc.heap.size ≤ gA := (by rcases hgA with rfl | h; exact Nat.le_refl _; simp at h; omega); have hne1 : ¬ gA = w.heap.size := (by omega); have hne2 : ¬ w.heap.size = gA := (by omega); have hne3 : ¬ gA = w.heap.size + 1 + 1 := (by omega); have hne4 : ¬ w.heap.size + 1 + 1 = gA := (by omega))
              obtain ⟨hF, hFC⟩ := inst_fin (S1 := .slice (some ⟨gA, 0, none⟩) X.classes.length capA) (S2 := .int .i64 (wrap64 (X.epoch + 1))) (S3 := .slice (some ⟨gA, 0, none⟩) X.classes.length capA) (S4 := .slice ah X.heap.length ch) (S5 := .int .i64 (wrap64 (X.epoch + 1))) HX.out hbw hA hgB hsz hownA HCC.out hMZ.out hby
              refine bodyPost_ret (v := .tuple #[WV (.slice (some ⟨gA, 0, none⟩) X.classes.length capA) (.slice ah X.heap.length ch) (epochE X.epoch), .int .i64 0]) ?_ rfl ⟨Or.inr ⟨q, x, rfl, HX.out, Or.inr ⟨HN.out, _, rfl, hFC⟩⟩, hF⟩
              simp [results, Try.results29, go_sem, rcA, rfA, acA, afA, hne1, hne2, hne3, hne4, epochE]
end Go.Proofs.Ytdfbgpiikeheiaa

/- A region that draws its order, whose last operation may turn what the others lean on. -/
namespace Go.Proofs.Ytdfbgpiikeheiaa
set_option linter.unusedSimpArgs false
set_option linter.unusedVariables false

section
variable {P : Program} {md : Region.Mode} {ops : Array Oper} {Q : Exit → Act → World → Prop} {S : World → Prop}
/-- Whatever order is picked from here on; S holds behind every operation but L. -/
def wpAnyL (P : Program) (md : Region.Mode) (ops : Array Oper) (Q : Exit → Act → World → Prop) (S : World → Prop) (L : Nat) : Nat → Array Bool → Act → World → Prop
  | 0, listed, a, w => Region.ready md ops listed = [] ∧ Q .normal a w
  | fuel + 1, listed, a, w =>
    (Region.ready md ops listed = [] → Q .normal a w) ∧
    ∀ i ∈ Region.ready md ops listed, wpOp P ops Q i (fun a' w' => (i ≠ L → S w') ∧ wpAnyL P md ops Q S L fuel (listed.setIfInBounds i true) a' w') a w
theorem wpAny_of_last {L : Nat} : ∀ (fuel : Nat) (listed : Array Bool) (a : Act) (w : World), wpAnyL P md ops Q S L fuel listed a w → wpAny P md ops Q fuel listed a w
  | 0, _, _, _, h => h
  | fuel + 1, _, _, _, h => ⟨h.1, fun i hi => wpOp_mono (fun a' w' h' => wpAny_of_last fuel _ a' w' h'.2) (h.2 i hi)⟩
/-- All others come ahead of L. -/
def lastB (md : Region.Mode) (ops : Array Oper) (L : Nat) : Bool :=
  match ops[L]? with
  | none => false
  | some o => (List.range ops.size).all fun k => k == L || o.after.any fun e => Region.binds md e && e.on == k
theorem lastB_ready {L i : Nat} {listed : Array Bool} (h : lastB md ops L = true) (hi : i ∈ Region.ready md ops listed) (hL : L ∈ Region.ready md ops listed) : i = L := by
  by_cases hne : i = L
  · exact hne
  · obtain ⟨hjun, oj, hoj, hall⟩ := mem_ready.1 hL
    obtain ⟨hiun, oi, hoi, -⟩ := mem_ready.1 hi
    unfold lastB at h
    rw [hoj] at h
    simp only [List.all_eq_true, List.mem_range] at h
    have hlt : i < ops.size := (Array.getElem?_eq_some_iff.1 hoi).1
    have := h i hlt
    simp only [Bool.or_eq_true, beq_iff_eq, hne, false_or, Array.any_eq_true, Bool.and_eq_true] at this
    obtain ⟨x, hx, hb, ho⟩ := this
    have h1 := hall _ (Array.getElem_mem hx) hb
    rw [ho] at h1
    rcases Nat.lt_or_ge i listed.size with h' | h'
    · simp [h'] at hiun h1
      rw [hiun] at h1
      cases h1
    · simp [Array.getElem?_eq_none h'] at h1
theorem wpAnyL_first {L i : Nat} {oi : Oper} {v : Value} (hlast : lastB md ops L = true) (hiL : i ≠ L) (hi : ops[i]? = some oi) (hsel : ∀ (j : Nat) (o : Oper) cs b, ops[j]? = some o → o.op ≠ .select cs b)
    (hQ : ∀ c a w, Q (.panic c) (a.put oi.dst v) w → Q (.panic c) a w) :
    ∀ (fuel : Nat) (listed : Array Bool) (a : Act) (w : World),
      (∀ j oj, ops[j]? = some oj → j ≠ i → listed.getD j true = false → (∀ e ∈ oj.after, Region.binds md e = true → e.on ≠ i) → oi.apart ops oj = true) →
      i ∈ Region.ready md ops listed → YieldsIf P ops S oi v a → S w →
      wpAnyL P md ops Q S L fuel (listed.setIfInBounds i true) (a.put oi.dst v) w → wpAnyL P md ops Q S L (fuel + 1) listed a w := by
  intro fuel
  induction fuel with
  | zero =>
    intro listed a w _ hr hy hS H
    refine ⟨fun h => (by rw [h] at hr; cases hr), fun j hj => ?_⟩
    by_cases hji : j = i
    · subst hji; exact hy.wpOp hi hS ⟨fun _ => hS, H⟩
    · have := ready_mono hj hji
      rw [H.1] at this
      cases this
  | succ fuel ih =>
    intro listed a w hfree hr hy hS H
    refine ⟨fun h => (by rw [h] at hr; cases hr), fun j hj => ?_⟩
    by_cases hji : j = i
    · subst hji; exact hy.wpOp hi hS ⟨fun _ => hS, H⟩
    · have hjL : j ≠ L := fun e => by subst e; exact hji (lastB_ready hlast hr hj).symm
      have h1 := H.2 j (ready_mono hj hji)
      obtain ⟨hjun, oj, hoj, hall⟩ := mem_ready.1 hj
      have hnot : ∀ e ∈ oj.after, Region.binds md e = true → e.on ≠ i := fun e he hb heq => by
        have h1 := hall e he hb
        have h0 := (mem_ready.1 hr).1
        rw [heq] at h1
        rcases Nat.lt_or_ge i listed.size with h' | h'
        · simp [h'] at h0 h1; rw [h0] at h1; cases h1
        · simp [Array.getElem?_eq_none h'] at h1
      have h2 := wpOp_putIf hoj (hfree j oj hoj hji hjun hnot) (fun cs b => hsel i oi cs b hi) (fun cs b => hsel j oj cs b hoj) hQ hy h1
      have hfree' : ∀ k ok, ops[k]? = some ok → k ≠ i → (listed.setIfInBounds j true).getD k true = false →
          (∀ e ∈ ok.after, Region.binds md e = true → e.on ≠ i) → oi.apart ops ok = true := fun k ok hk hki hun hno => by
        refine hfree k ok hk hki ?_ hno
        by_cases hjk : j = k
        · subst hjk; exact hjun
        · rw [getD_set_ne true hjk] at hun; exact hun
      refine wpOp_mono (fun a' w' h3 => ⟨fun _ => h3.2.1 hjL, ih (listed.setIfInBounds j true) a' w' hfree' (ready_mono hr (Ne.symm hji)) h3.1 (h3.2.1 hjL) ?_⟩) h2
      rw [Array.setIfInBounds_comm _ _ hji]
      exact h3.2.2
theorem wpAnyL_take {L i : Nat} {oi : Oper} {v : Value} {fuel : Nat} {listed : Array Bool} {a : Act} {w : World} (hlast : lastB md ops L = true) (hiL : (i == L) = false) (hi : ops[i]? = some oi)
    (hs : Region.noSelect ops = true) (hf : Region.free md ops listed i = true) (hr : (Region.ready md ops listed).contains i = true)
    (hQ : ∀ c a w, Q (.panic c) (a.put oi.dst v) w → Q (.panic c) a w) (hy : YieldsIf P ops S oi v a) (hS : S w)
    (h : wpAnyL P md ops Q S L fuel (listed.setIfInBounds i true) (a.put oi.dst v) w) : wpAnyL P md ops Q S L (fuel + 1) listed a w :=
  wpAnyL_first hlast (by simpa using hiL) hi (Region.noSelect_spec hs) hQ fuel listed a w (Region.free_spec hi hf) (by simpa using hr) hy hS h
theorem wpAnyL_done {L : Nat} {listed : Array Bool} {a : Act} {w : World} (hr : Region.ready md ops listed = []) (h : Q .normal a w) : ∀ fuel, wpAnyL P md ops Q S L fuel listed a w
  | 0 => ⟨hr, h⟩
  | _ + 1 => ⟨fun _ => h, by rw [hr]; simp⟩
theorem wpAnyL_ready {L : Nat} {rs : List Nat} {fuel : Nat} {listed : Array Bool} {a : Act} {w : World} (hr : Region.ready md ops listed = rs) (hne : rs ≠ [])
    (h : ∀ i ∈ rs, wpOp P ops Q i (fun a' w' => (i ≠ L → S w') ∧ wpAnyL P md ops Q S L fuel (listed.setIfInBounds i true) a' w') a w) : wpAnyL P md ops Q S L (fuel + 1) listed a w :=
  ⟨fun h0 => absurd (hr ▸ h0) hne, hr ▸ h⟩
theorem stepL {L i : Nat} {fuel : Nat} {listed : Array Bool} {a : Act} {w : World} {o : Oper} (ho : ops[i]? = some o)
    (h : ∀ K' : Act → World → Prop, (∀ a w, (i ≠ L → S w) → wpAnyL P md ops Q S L fuel (listed.setIfInBounds i true) a w → K' a w) → if Region.wanted o (yielded ops a.tmps) = true then Oper.wp P o a w K' Q else K' (a.put o.dst undef) w) :
    wpOp P ops Q i (fun a' w' => (i ≠ L → S w') ∧ wpAnyL P md ops Q S L fuel (listed.setIfInBounds i true) a' w') a w :=
  wpOp_step ho (fun K' hK => h K' (fun a w hS hW => hK a w ⟨hS, hW⟩))
theorem wp_region_last {id : Nat} {a : Act} {w : World} (L : Nat) (hm : P.follows .mixedOrders = true)
    (h : wpAnyL P .any ops Q S L ops.size (Array.replicate ops.size false) a w.drew) : (Code.region id ops true).wp P Q a w :=
  wp_region_any hm (wpAny_of_last _ _ _ _ h)
end
end Go.Proofs.Ytdfbgpiikeheiaa

/- A region that draws its order, in which some operations, the late ones, may turn what the others lean on. -/
namespace Go.Proofs.Ytdfbgpiikeheiaa
set_option linter.unusedSimpArgs false
set_option linter.unusedVariables false

section
variable {P : Program} {md : Region.Mode} {ops : Array Oper} {Q : Exit → Act → World → Prop} {S : World → Prop}
/-- Whatever order is picked from here on; S holds behind every operation that isn't late. -/
def wpAnyM (P : Program) (md : Region.Mode) (ops : Array Oper) (Q : Exit → Act → World → Prop) (S : World → Prop) (late : List Nat) : Nat → Array Bool → Act → World → Prop
  | 0, listed, a, w => Region.ready md ops listed = [] ∧ Q .normal a w
  | fuel + 1, listed, a, w =>
    (Region.ready md ops listed = [] → Q .normal a w) ∧
    ∀ i ∈ Region.ready md ops listed, wpOp P ops Q i (fun a' w' => (late.contains i = false → S w') ∧ wpAnyM P md ops Q S late fuel (listed.setIfInBounds i true) a' w') a w
theorem wpAny_of_late {late : List Nat} : ∀ (fuel : Nat) (listed : Array Bool) (a : Act) (w : World), wpAnyM P md ops Q S late fuel listed a w → wpAny P md ops Q fuel listed a w
  | 0, _, _, _, h => h
  | fuel + 1, _, _, _, h => ⟨h.1, fun i hi => wpOp_mono (fun a' w' h' => wpAny_of_late fuel _ a' w' h'.2) (h.2 i hi)⟩
/-- k comes behind i, by so many steps at the most. -/
def depB (md : Region.Mode) (ops : Array Oper) (i : Nat) : Nat → Nat → Bool
  | 0, _ => false
  | n + 1, k => match ops[k]? with
    | none => false
    | some o => o.after.any fun e => Region.binds md e && (e.on == i || depB md ops i n e.on)
/-- What was done had all that it leans on. -/
def Down (md : Region.Mode) (ops : Array Oper) (listed : Array Bool) : Prop := ∀ k o, ops[k]? = some o → listed.getD k true = true → ∀ e ∈ o.after, Region.binds md e = true → listed.getD e.on true = true
def downB (md : Region.Mode) (ops : Array Oper) (listed : Array Bool) : Bool :=
  (List.range ops.size).all fun k => match ops[k]? with
    | none => true
    | some o => !(listed.getD k true) || o.after.all fun e => !(Region.binds md e) || listed.getD e.on true
theorem downB_spec {listed : Array Bool} (h : downB md ops listed = true) : Down md ops listed := by
  intro k o hk hl e he hb
  unfold downB at h
  rw [List.all_eq_true] at h
  have := h k (List.mem_range.2 (Array.getElem?_eq_some_iff.1 hk).1)
  rw [hk] at this
  simp only [hl, Bool.not_true, Bool.false_or, Array.all_eq_true'] at this
  have h1 := this e he
  simpa [hb] using h1
theorem getDB_set {l : Array Bool} {i k : Nat} (h : l.getD k true = true) : (l.setIfInBounds i true).getD k true = true := by
  by_cases hik : i = k
  · subst hik
    rcases Nat.lt_or_ge i l.size with h' | h'
    · simp [h']
    · simp [h']
  · rw [getD_set_ne true hik]; exact h
theorem down_ready {listed : Array Bool} {i : Nat} (hd : Down md ops listed) (hi : i ∈ Region.ready md ops listed) : Down md ops (listed.setIfInBounds i true) := by
  intro k o hk hl e he hb
  obtain ⟨hiun, oi, hoi, hall⟩ := mem_ready.1 hi
  by_cases hki : i = k
  · subst hki
    rw [hoi] at hk
    cases hk
    have h1 := hall e he hb
    refine getDB_set ?_
    rcases Nat.lt_or_ge e.on listed.size with h' | h'
    · simp [h'] at h1 ⊢; exact h1
    · simp [Array.getElem?_eq_none h']
  · rw [getD_set_ne true hki] at hl
    exact getDB_set (hd k o hk hl e he hb)
theorem dep_listed {listed : Array Bool} {i : Nat} (hd : Down md ops listed) : ∀ (n k : Nat), depB md ops i n k = true → listed.getD k true = true → listed.getD i true = true
  | 0, k, h, _ => by cases h
  | n + 1, k, h, hl => by
    unfold depB at h
    split at h
    · cases h
    · rename_i o ho
      rw [Array.any_eq_true'] at h
      obtain ⟨e, he, h⟩ := h
      simp only [Bool.and_eq_true, Bool.or_eq_true, beq_iff_eq] at h
      obtain ⟨hb, h⟩ := h
      have hl' := hd k o ho hl e he hb
      rcases h with h | h
      · rw [← h]; exact hl'
      · exact dep_listed hd n e.on h hl'
theorem dep_ready {listed : Array Bool} {i l : Nat} (hd : Down md ops listed) {n : Nat} (h : depB md ops i n l = true) (hl : l ∈ Region.ready md ops listed) : listed.getD i true = true := by
  cases n with
  | zero => cases h
  | succ n =>
    obtain ⟨hlun, o, ho, hall⟩ := mem_ready.1 hl
    unfold depB at h
    rw [ho] at h
    simp only [] at h
    rw [Array.any_eq_true'] at h
    obtain ⟨e, he, h⟩ := h
    simp only [Bool.and_eq_true, Bool.or_eq_true, beq_iff_eq] at h
    obtain ⟨hb, h⟩ := h
    have h1 := hall e he hb
    have hl' : listed.getD e.on true = true := by
      rcases Nat.lt_or_ge e.on listed.size with h' | h'
      · simp [h'] at h1 ⊢; exact h1
      · simp [Array.getElem?_eq_none h']
    rcases h with h | h
    · rw [← h]; exact hl'
    · exact dep_listed hd n e.on h hl'
/-- All late ones come behind i. -/
def lateB (md : Region.Mode) (ops : Array Oper) (late : List Nat) (i : Nat) : Bool := late.all fun l => depB md ops i ops.size l
theorem lateB_ready {late : List Nat} {listed : Array Bool} {i j : Nat} (h : lateB md ops late i = true) (hd : Down md ops listed) (hi : i ∈ Region.ready md ops listed) (hj : j ∈ Region.ready md ops listed) : late.contains j = false := by
  by_cases hc : late.contains j = true
  · exfalso
    unfold lateB at h
    rw [List.all_eq_true] at h
    have h1 := dep_ready hd (h j (by simpa using hc)) hj
    have h0 := (mem_ready.1 hi).1
    rcases Nat.lt_or_ge i listed.size with h' | h'
    · simp [h'] at h0 h1; rw [h0] at h1; cases h1
    · simp [Array.getElem?_eq_none h'] at h0
  · simpa using hc
theorem wpAnyM_first {late : List Nat} {i : Nat} {oi : Oper} {v : Value} (hlate : lateB md ops late i = true) (hi : ops[i]? = some oi) (hsel : ∀ (j : Nat) (o : Oper) cs b, ops[j]? = some o → o.op ≠ .select cs b)
    (hQ : ∀ c a w, Q (.panic c) (a.put oi.dst v) w → Q (.panic c) a w) :
    ∀ (fuel : Nat) (listed : Array Bool) (a : Act) (w : World), Down md ops listed →
      (∀ j oj, ops[j]? = some oj → j ≠ i → listed.getD j true = false → (∀ e ∈ oj.after, Region.binds md e = true → e.on ≠ i) → oi.apart ops oj = true) →
      i ∈ Region.ready md ops listed → YieldsIf P ops S oi v a → S w →
      wpAnyM P md ops Q S late fuel (listed.setIfInBounds i true) (a.put oi.dst v) w → wpAnyM P md ops Q S late (fuel + 1) listed a w := by
  intro fuel
  induction fuel with
  | zero =>
    intro listed a w _ _ hr hy hS H
    refine ⟨fun h => (by rw [h] at hr; cases hr), fun j hj => ?_⟩
    by_cases hji : j = i
    · subst hji; exact hy.wpOp hi hS ⟨fun _ => hS, H⟩
    · have := ready_mono hj hji
      rw [H.1] at this
      cases this
  | succ fuel ih =>
    intro listed a w hd hfree hr hy hS H
    refine ⟨fun h => (by rw [h] at hr; cases hr), fun j hj => ?_⟩
    by_cases hji : j = i
    · subst hji; exact hy.wpOp hi hS ⟨fun _ => hS, H⟩
    · have hjL : late.contains j = false := lateB_ready hlate hd hr hj
      have h1 := H.2 j (ready_mono hj hji)
      obtain ⟨hjun, oj, hoj, hall⟩ := mem_ready.1 hj
      have hnot : ∀ e ∈ oj.after, Region.binds md e = true → e.on ≠ i := fun e he hb heq => by
        have h1 := hall e he hb
        have h0 := (mem_ready.1 hr).1
        rw [heq] at h1
        rcases Nat.lt_or_ge i listed.size with h' | h'
        · simp [h'] at h0 h1; rw [h0] at h1; cases h1
        · simp [Array.getElem?_eq_none h'] at h1
      have h2 := wpOp_putIf hoj (hfree j oj hoj hji hjun hnot) (fun cs b => hsel i oi cs b hi) (fun cs b => hsel j oj cs b hoj) hQ hy h1
      have hfree' : ∀ k ok, ops[k]? = some ok → k ≠ i → (listed.setIfInBounds j true).getD k true = false →
          (∀ e ∈ ok.after, Region.binds md e = true → e.on ≠ i) → oi.apart ops ok = true := fun k ok hk hki hun hno => by
        refine hfree k ok hk hki ?_ hno
        by_cases hjk : j = k
        · subst hjk; exact hjun
        · rw [getD_set_ne true hjk] at hun; exact hun
      refine wpOp_mono (fun a' w' h3 => ⟨fun _ => h3.2.1 hjL, ih (listed.setIfInBounds j true) a' w' (down_ready hd hj) hfree' (ready_mono hr (Ne.symm hji)) h3.1 (h3.2.1 hjL) ?_⟩) h2
      rw [Array.setIfInBounds_comm _ _ hji]
      exact h3.2.2
theorem wpAnyM_take {late : List Nat} {i : Nat} {oi : Oper} {v : Value} {fuel : Nat} {listed : Array Bool} {a : Act} {w : World} (hlate : lateB md ops late i = true) (hd : downB md ops listed = true) (hi : ops[i]? = some oi)
    (hs : Region.noSelect ops = true) (hf : Region.free md ops listed i = true) (hr : (Region.ready md ops listed).contains i = true)
    (hQ : ∀ c a w, Q (.panic c) (a.put oi.dst v) w → Q (.panic c) a w) (hy : YieldsIf P ops S oi v a) (hS : S w)
    (h : wpAnyM P md ops Q S late fuel (listed.setIfInBounds i true) (a.put oi.dst v) w) : wpAnyM P md ops Q S late (fuel + 1) listed a w :=
  wpAnyM_first hlate hi (Region.noSelect_spec hs) hQ fuel listed a w (downB_spec hd) (Region.free_spec hi hf) (by simpa using hr) hy hS h
theorem wpAnyM_done {late : List Nat} {listed : Array Bool} {a : Act} {w : World} (hr : Region.ready md ops listed = []) (h : Q .normal a w) : ∀ fuel, wpAnyM P md ops Q S late fuel listed a w
  | 0 => ⟨hr, h⟩
  | _ + 1 => ⟨fun _ => h, by rw [hr]; simp⟩
theorem wpAnyM_ready {late : List Nat} {rs : List Nat} {fuel : Nat} {listed : Array Bool} {a : Act} {w : World} (hr : Region.ready md ops listed = rs) (hne : rs ≠ [])
    (h : ∀ i ∈ rs, wpOp P ops Q i (fun a' w' => (late.contains i = false → S w') ∧ wpAnyM P md ops Q S late fuel (listed.setIfInBounds i true) a' w') a w) : wpAnyM P md ops Q S late (fuel + 1) listed a w :=
  ⟨fun h0 => absurd (hr ▸ h0) hne, hr ▸ h⟩
theorem stepM {late : List Nat} {i : Nat} {fuel : Nat} {listed : Array Bool} {a : Act} {w : World} {o : Oper} (ho : ops[i]? = some o)
    (h : ∀ K' : Act → World → Prop, (∀ a w, (late.contains i = false → S w) → wpAnyM P md ops Q S late fuel (listed.setIfInBounds i true) a w → K' a w) → if Region.wanted o (yielded ops a.tmps) = true then Oper.wp P o a w K' Q else K' (a.put o.dst undef) w) :
    wpOp P ops Q i (fun a' w' => (late.contains i = false → S w') ∧ wpAnyM P md ops Q S late fuel (listed.setIfInBounds i true) a' w') a w :=
  wpOp_step ho (fun K' hK => h K' (fun a w hS hW => hK a w ⟨hS, hW⟩))
/-- Where only late ones are left, what the others leaned on is of no account. -/
theorem wpAnyM_swap {S' : World → Prop} {late late' : List Nat} : ∀ (fuel : Nat) (listed : Array Bool) (a : Act) (w : World), (∀ i, i ∈ Region.ready md ops listed → late.contains i = true) → (∀ i, late.contains i = false → listed.getD i true = true) →
    wpAnyM P md ops Q S' late' fuel listed a w → wpAnyM P md ops Q S late fuel listed a w
  | 0, _, _, _, _, _, h => h
  | fuel + 1, listed, a, w, h0, h1, h => ⟨h.1, fun i hi => wpOp_mono (fun a' w' h' => ⟨fun hl => (by rw [h0 i hi] at hl; cases hl), wpAnyM_swap fuel _ a' w' (fun j hj => by
      by_cases hc : late.contains j = true
      · exact hc
      · exfalso
        have := h1 j (by simpa using hc)
        have h2 := (mem_ready.1 hj).1
        have h3 := getDB_set (i := i) this
        rcases Nat.lt_or_ge j (listed.setIfInBounds i true).size with h' | h'
        · simp only [Array.getD_eq_getD_getElem?, Array.getElem?_eq_getElem h', Option.getD_some] at h2 h3; rw [h2] at h3; cases h3
        · rw [Array.getD_eq_getD_getElem?, Array.getElem?_eq_none h'] at h2; cases h2) (fun j hj => getDB_set (h1 j hj)) h'.2⟩) (h.2 i hi)⟩
def onlyB (ops : Array Oper) (late : List Nat) (listed : Array Bool) : Bool := listed.size == ops.size && (List.range ops.size).all fun i => late.contains i || listed.getD i true
theorem wpAnyM_only {S' : World → Prop} {late late' : List Nat} {fuel : Nat} {listed : Array Bool} {a : Act} {w : World} (ho : onlyB ops late listed = true) (h : wpAnyM P md ops Q S' late' fuel listed a w) : wpAnyM P md ops Q S late fuel listed a w := by
  unfold onlyB at ho
  simp only [Bool.and_eq_true, beq_iff_eq, List.all_eq_true, List.mem_range, Bool.or_eq_true] at ho
  have h1 : ∀ i, late.contains i = false → listed.getD i true = true := fun i hi => by
    rcases Nat.lt_or_ge i ops.size with h' | h'
    · rcases ho.2 i h' with h'' | h''
      · rw [hi] at h''; cases h''
      · exact h''
    · rw [Array.getD_eq_getD_getElem?, Array.getElem?_eq_none (by omega)]; rfl
  refine wpAnyM_swap fuel listed a w (fun i hi => ?_) h1 h
  by_cases hc : late.contains i = true
  · exact hc
  · exfalso
    have h2 := (mem_ready.1 hi).1
    have h3 := h1 i (by simpa using hc)
    rcases Nat.lt_or_ge i listed.size with h' | h'
    · simp only [Array.getD_eq_getD_getElem?, Array.getElem?_eq_getElem h', Option.getD_some] at h2 h3; rw [h2] at h3; cases h3
    · rw [Array.getD_eq_getD_getElem?, Array.getElem?_eq_none h'] at h2; cases h2
theorem wp_region_late {id : Nat} {a : Act} {w : World} (late : List Nat) (hm : P.follows .mixedOrders = true)
    (h : wpAnyM P .any ops Q S late ops.size (Array.replicate ops.size false) a w.drew) : (Code.region id ops true).wp P Q a w :=
  wp_region_any hm (wpAny_of_late _ _ _ _ h)
end
end Go.Proofs.Ytdfbgpiikeheiaa

