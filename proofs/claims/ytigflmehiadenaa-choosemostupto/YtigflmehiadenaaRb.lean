/- Sites, tallies, cells and numbers that came in, read. -/
import Derived.Test.YtigflmehiadenaaRa
import Derived.Test.YtigflmehiadenaaTa
import Derived.Test.YtigflmehiadenaaDa
namespace Go.Proofs.Ytigflmehiadenaa
open Go.ChangeShapes Go.WideShapes Go.ChangeAt Go.RowKit Go.Deep
set_option linter.unusedSimpArgs false
set_option linter.unusedVariables false
set_option maxRecDepth 8000

theorem bytes28 : Try.prog.bytesOf 28 = 32 := by kernel_rfl
theorem bytes48 : Try.prog.bytesOf 48 = 16 := by kernel_rfl
theorem bytes46 : Try.prog.bytesOf 46 = 56 := by kernel_rfl
theorem bytes3 : Try.prog.bytesOf 3 = 8 := by kernel_rfl
theorem cells28 : Try.prog.cellsOf 28 = 3 := by kernel_rfl
theorem cells48 : Try.prog.cellsOf 48 = 2 := by kernel_rfl
theorem cells46 : Try.prog.cellsOf 46 = 4 := by kernel_rfl
theorem cells44 : Try.prog.cellsOf 44 = 1 := by kernel_rfl
theorem cells4 : Try.prog.cellsOf 4 = 1 := by kernel_rfl

theorem IsRow.weak {α : Type} {E : Lay α} {sz bytes : Nat} {P : Nat → Prop} {w : World} {v : Value} {xs : List α} (h : IsRow E sz bytes P w v xs) : IsRow E sz 0 P w v xs ∧ xs.length * bytes ≤ 140737488351232 := by
  obtain ⟨ad, cap, h1, h2, h3, h4, h5⟩ := h
  exact ⟨⟨ad, cap, h1, h2, h3, by simp, h5⟩, h4⟩
/-- Elements of which more is known. -/
def LayAnd {α : Type} (E : Lay α) (q : α → Prop) : Lay α := fun P w f x => E P w f x ∧ q x
theorem Good.and {α : Type} {E : Lay α} {sz : Nat} (G : Good E sz) (q : α → Prop) : Good (LayAnd E q) sz where
  move h hl hk hf := ⟨G.move h.1 hl hk hf, h.2⟩
  there h := G.there h.1
  pos := G.pos
theorem IsRow.split {α : Type} {E : Lay α} {q : α → Prop} {sz bytes : Nat} {P : Nat → Prop} {w : World} {v : Value} {xs : List α} (h : IsRow (LayAnd E q) sz bytes P w v xs) : IsRow E sz bytes P w v xs ∧ ∀ x ∈ xs, q x := by
  obtain ⟨ad, cap, h1, h2, h3, h4, h5⟩ := h
  refine ⟨⟨ad, cap, h1, h2, h3, h4, fun i x hx => ?_⟩, fun x hx => ?_⟩
  · obtain ⟨b, o, e1, e2, e3⟩ := h5 i x hx
    exact ⟨b, o, e1, e2, e3.1⟩
  · obtain ⟨i, hi, rfl⟩ := List.mem_iff_getElem.1 hx
    obtain ⟨b, o, e1, e2, e3⟩ := h5 i xs[i] (by simp)
    exact e3.2

section
variable {H : Type} {enc : TypeId × Value → H} {w : World} {base : Nat} {spare : Nat → Bool} {held : Bool}

theorem read_site {n : Nat} {cs : List Value} {x : DataW H × List MemPlace} (hl : cs.length = 3) (h : DataW.trod enc Try.prog w base spare held n 28 cs = some x) : ∃ y, SiteC Tru w (fun k => cs[k]?) y := by
  obtain ⟨xs, k, hk, hxy, _, hxl, hf⟩ := DataW.trod_struct Try.underlying28 h
  match xs, hxl, cs, hl with
  | [y0, y1, y2], _, [v0, v1, v2], _ =>
    have g0 := hf 0 _ rfl
    have g1 := hf 1 _ rfl
    have g2 := hf 2 _ rfl
    simp [cells3, cells9] at g0 g1 g2
    obtain ⟨a, e0, -, -⟩ := DataW.trod_int Try.underlying3 g0
    obtain ⟨s, e1, -, -⟩ := DataW.trod_string Try.underlying9 g1
    obtain ⟨b, e2, -, -⟩ := DataW.trod_int Try.underlying3 g2
    simp at e0 e1 e2
    subst e0 e1 e2
    exact ⟨⟨a, s, b⟩, rfl, rfl, rfl⟩
theorem read_line {n : Nat} {cs : List Value} {x : DataW H × List MemPlace} (hl : cs.length = 2) (h : DataW.trod enc Try.prog w base spare held n 48 cs = some x) : ∃ y, LineC Tru w (fun k => cs[k]?) y := by
  obtain ⟨xs, k, hk, hxy, _, hxl, hf⟩ := DataW.trod_struct Try.underlying48 h
  match xs, hxl, cs, hl with
  | [y0, y1], _, [v0, v1], _ =>
    have g0 := hf 0 _ rfl
    have g1 := hf 1 _ rfl
    simp [cells3] at g0 g1
    obtain ⟨a, e0, -, -⟩ := DataW.trod_int Try.underlying3 g0
    obtain ⟨b, e1, -, -⟩ := DataW.trod_int Try.underlying3 g1
    simp at e0 e1
    subst e0 e1
    exact ⟨⟨a, b⟩, rfl, rfl⟩
theorem read_int {n : Nat} {cs : List Value} {x : DataW H × List MemPlace} (hl : cs.length = 1) (h : DataW.trod enc Try.prog w base spare held n 3 cs = some x) : ∃ y, IntC Tru w (fun k => cs[k]?) y := by
  match cs, hl with
  | [v0], _ =>
    obtain ⟨a, e0, -, -⟩ := DataW.trod_int Try.underlying3 h
    simp at e0
    subst e0
    exact ⟨a, rfl⟩
theorem read_lines {fuel : Nat} {v : Value} {x : DataW H × List MemPlace} (h : DataW.trod enc Try.prog w base spare held fuel 44 [v] = some x) (hw : ∀ n ∈ x.1.weights Try.prog 44, n ≤ 140737488351232) : ∃ xs, IsRow LineC 2 16 Tru w v xs :=
  read_row goodL Try.underlying44 cells48 bytes48 (by omega) (fun n cs x hl h hw => read_line hl h) h hw
theorem read_ints {fuel : Nat} {v : Value} {x : DataW H × List MemPlace} (h : DataW.trod enc Try.prog w base spare held fuel 39 [v] = some x) (hw : ∀ n ∈ x.1.weights Try.prog 39, n ≤ 140737488351232) : ∃ xs, IsRow IntC 1 8 Tru w v xs :=
  read_row goodN Try.underlying39 cells3 bytes3 (by omega) (fun n cs x hl h hw => read_int hl h) h hw

abbrev TallyR : Lay QT := LayAnd TallyC fun x => x.lines.length * 16 ≤ 140737488351232
theorem read_tally {n : Nat} {cs : List Value} {x : DataW H × List MemPlace} (hl : cs.length = 4) (h : DataW.trod enc Try.prog w base spare held n 46 cs = some x) (hw : ∀ n ∈ x.1.weights Try.prog 46, n ≤ 140737488351232) : ∃ y, TallyR Tru w (fun k => cs[k]?) y := by
  obtain ⟨xs, k, hk, hxy, _, hxl, hf⟩ := DataW.trod_struct Try.underlying46 h
  match xs, hxl, cs, hl with
  | [y0, y1], _, [v0, v1, v2, v3], _ =>
    have g0 := hf 0 _ rfl
    have g1 := hf 1 _ rfl
    simp [cells28, cells44] at g0 g1
    obtain ⟨s, q0, q1, q2⟩ := read_site rfl g0
    rw [hxy] at hw
    obtain ⟨ls, hls⟩ := read_lines g1 (fun q hq => hw q (weights_at (j := 1) (xs := [y0, y1]) Try.underlying46 rfl rfl q hq))
    obtain ⟨k1, k2⟩ := hls.weak
    exact ⟨⟨s, ls⟩, ⟨q0, q1, q2, _, rfl, k1⟩, k2⟩
theorem read_tallies {fuel : Nat} {v : Value} {x : DataW H × List MemPlace} (h : DataW.trod enc Try.prog w base spare held fuel 26 [v] = some x) (hw : ∀ n ∈ x.1.weights Try.prog 26, n ≤ 140737488351232) : ∃ xs, IsTallies Tru w v xs ∧ xs.length * 56 ≤ 140737488351232 ∧ ∀ x ∈ xs, x.lines.length * 16 ≤ 140737488351232 := by
  obtain ⟨xs, hx⟩ := read_row (goodT.and _) Try.underlying26 cells46 bytes46 (by omega) (fun n cs x hl h hw => read_tally hl h hw) h hw
  obtain ⟨h1, h2⟩ := hx.split
  exact ⟨xs, h1.weak.1, h1.weak.2, h2⟩
/-- A site that came in. -/
theorem open_site {r : Reach} {b0 : Nat} {v : Value} {d : DataW H} {p : List MemPlace} (hv : Value.okWide Try.prog w r b0 28 v) (h : DataW.Trod enc Try.prog w base spare held 28 v d p) : ∃ s : QS, v = SV s := by
  obtain ⟨v0, v1, v2, y0, y1, y2, n, rfl, rfl, rfl, h0, h1, h2⟩ := Joins.open_agg3 Try.underlying28 (by kernel_rfl) cells28 hv h
  obtain ⟨a, e0, -, -⟩ := DataW.trod_int Try.underlying3 h0
  obtain ⟨s, e1, -, -⟩ := DataW.trod_string Try.underlying9 h1
  obtain ⟨b, e2, -, -⟩ := DataW.trod_int Try.underlying3 h2
  simp at e0 e1 e2
  subst e0 e1 e2
  exact ⟨⟨a, s, b⟩, rfl⟩
/-- The cells of a value of a slice's type. -/
theorem slice_cells {T e : TypeId} (ht : Try.prog.underlying T = some (.slice e)) {r : Reach} {b0 : Nat} {v : Value} {d : DataW H} {p : List MemPlace} (hv : Value.okWide Try.prog w r b0 T v) (h : DataW.Trod enc Try.prog w base spare held T v d p) : ∃ fuel, DataW.trod enc Try.prog w base spare held fuel T [v] = some (d, p) := by
  obtain ⟨fuel, hf⟩ := h
  obtain ⟨a, len, cap, rfl⟩ := okWide_slice ht hv
  exact ⟨fuel, hf⟩
/-- How much is counted at the least. -/
theorem bulk_len {H : Type} : ∀ l : List (DataW H), l.length ≤ Rows.uptoBulkAll l
  | [] => by simp
  | d :: r => by
    have ih := bulk_len r
    have h1 : 1 ≤ Rows.uptoBulk d := by
      cases d with
      | lit l => cases l <;> simp [Rows.uptoBulk]
      | nil => simp [Rows.uptoBulk]
      | ptr d => simp [Rows.uptoBulk]
      | slice elems spare => simp [Rows.uptoBulk]
      | agg parts => simp [Rows.uptoBulk]
      | iface t d => simp [Rows.uptoBulk]
      | map entries => simp [Rows.uptoBulk]
      | held h => simp [Rows.uptoBulk]
    simp only [Rows.uptoBulkAll, List.length_cons]
    omega
theorem bulk_slice {T e : TypeId} (ht : Try.prog.underlying T = some (.slice e)) {fuel : Nat} {a : Option Addr} {n c : Nat} {x : DataW H × List MemPlace} (h : DataW.trod enc Try.prog w base spare held fuel T [.slice a n c] = some x) : n ≤ Rows.uptoBulk x.1 := by
  rcases open_slice ht h with ⟨hcs, -⟩ | ⟨b, len, cap, m, k, D, Pl, hcs, -, hl, hm, hmm, rfl, hx⟩
  · simp at hcs; omega
  · simp at hcs
    obtain ⟨-, rfl, -⟩ := hcs
    have := bulk_len ((List.range n).map D)
    simp only [List.length_map, List.length_range] at this
    simp only [Rows.uptoBulk]
    omega
theorem bulk_row {α : Type} {E : Lay α} {sz bytes : Nat} {P : Nat → Prop} {T e : TypeId} (ht : Try.prog.underlying T = some (.slice e)) {fuel : Nat} {v : Value} {xs : List α} {x : DataW H × List MemPlace} (h : DataW.trod enc Try.prog w base spare held fuel T [v] = some x) (hr : IsRow E sz bytes P w v xs) : xs.length ≤ Rows.uptoBulk x.1 := by
  obtain ⟨ad, cap, rfl, -⟩ := hr
  exact bulk_slice ht h
end
end Go.Proofs.Ytigflmehiadenaa
