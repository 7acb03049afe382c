/- What came in as a world, or as a method, read: it lies in memory as the contracts ask. -/
import Derived.Test.YtjmidhghiahbaaaGreatDoorCh
import Derived.Deep.SlicePairs
import Derived.SizedLaws
import Derived.ChangeOld
import Derived.Lib.SmallJoins
namespace Go.Proofs.YtjmidhghiahbaaaGreatDoor
open Go.ChangeShapes Go.WideShapes Go.ChangeAt Go.RowKit Go.Deep
set_option linter.unusedSimpArgs false
set_option linter.unusedVariables false
set_option maxRecDepth 8000

theorem bytes62 : Tryz.prog.bytesOf 62 = 48 := by kernel_rfl
theorem bytes43 : Tryz.prog.bytesOf 43 = 64 := by kernel_rfl
theorem bytes38 : Tryz.prog.bytesOf 38 = 56 := by kernel_rfl
theorem bytes51 : Tryz.prog.bytesOf 51 = 16 := by kernel_rfl
theorem bytes49 : Tryz.prog.bytesOf 49 = 32 := by kernel_rfl
theorem cells62 : Tryz.prog.cellsOf 62 = 5 := by kernel_rfl
theorem cells43 : Tryz.prog.cellsOf 43 = 5 := by kernel_rfl
theorem cells38 : Tryz.prog.cellsOf 38 = 4 := by kernel_rfl
theorem cells51 : Tryz.prog.cellsOf 51 = 2 := by kernel_rfl
theorem cells49 : Tryz.prog.cellsOf 49 = 2 := by kernel_rfl
theorem cells3 : Tryz.prog.cellsOf 3 = 1 := by kernel_rfl
theorem cells9 : Tryz.prog.cellsOf 9 = 1 := by kernel_rfl
theorem cells41 : Tryz.prog.cellsOf 41 = 1 := by kernel_rfl
theorem cells36 : Tryz.prog.cellsOf 36 = 1 := by kernel_rfl
theorem cells22 : Tryz.prog.cellsOf 22 = 1 := by kernel_rfl
theorem cells23 : Tryz.prog.cellsOf 23 = 1 := by kernel_rfl
theorem cells47 : Tryz.prog.cellsOf 47 = 1 := by kernel_rfl
theorem cells25 : Tryz.prog.cellsOf 25 = 3 := by kernel_rfl
theorem laidOut : laidOutB Tryz.prog = true := by kernel_rfl
theorem own : ownKnob Tryz.prog.godebug = none := by kernel_rfl
abbrev Tru : Nat → Prop := fun _ => True

theorem wAll_mem {H : Type} {P : Program} {e : TypeId} : ∀ {l : List (DataW H)} {d : DataW H}, d ∈ l → ∀ n ∈ d.weights P e, n ∈ DataW.weightsAll P e l
  | d' :: r, d, hd, n, hn => by
    simp only [DataW.weightsAll, List.mem_append]
    rcases List.mem_cons.1 hd with rfl | h
    · exact Or.inl hn
    · exact Or.inr (wAll_mem h n hn)
theorem addr_lit {w : World} {a : Addr} {v : Value} (h : w.cell? (a.add 0) = some v) : ∃ b o, a = ⟨b, o, none⟩ := by
  have hs := World.cell?_spot h
  obtain ⟨b, o, spot⟩ := a
  refine ⟨b, o, ?_⟩
  have : spot = none := by simpa [Addr.add] using hs
  rw [this]

theorem choose_list {α : Type} {p : Nat → α → Prop} : ∀ n : Nat, (∀ i, i < n → ∃ y, p i y) → ∃ xs : List α, xs.length = n ∧ ∀ (i : Nat) x, xs[i]? = some x → p i x
  | 0, _ => ⟨[], rfl, fun i x hx => by simp at hx⟩
  | n + 1, h => by
    obtain ⟨xs, h1, h2⟩ := choose_list n fun i hi => h i (by omega)
    obtain ⟨y, hy⟩ := h n (by omega)
    refine ⟨xs ++ [y], by simp [h1], fun i x hx => ?_⟩
    by_cases hi : i < xs.length
    · rw [List.getElem?_append_left hi] at hx
      exact h2 i x hx
    · have := lt_of_get hx
      simp at this
      obtain rfl : i = xs.length := by omega
      simp at hx
      subst hx
      rw [h1]
      exact hy

section
variable {H : Type} {enc : TypeId × Value → H} {w : World} {base : Nat} {spare : Nat → Bool} {held : Bool}

theorem read_row {α : Type} {E : Lay α} {sz bytes : Nat} (G : Good E sz) {T e : TypeId} (ht : Tryz.prog.underlying T = some (.slice e)) (hc : Tryz.prog.cellsOf e = sz) (hb : Tryz.prog.bytesOf e = bytes) (hp : 0 < bytes)
    (hel : ∀ (n : Nat) (cs : List Value) (x : DataW H × List MemPlace), cs.length = sz → DataW.trod enc Tryz.prog w base spare held n e cs = some x → (∀ n ∈ x.1.weights Tryz.prog e, n ≤ 140737488351232) → ∃ y, E Tru w (fun k => cs[k]?) y)
    {fuel : Nat} {v : Value} {x : DataW H × List MemPlace} (h : DataW.trod enc Tryz.prog w base spare held fuel T [v] = some x) (hw : ∀ n ∈ x.1.weights Tryz.prog T, n ≤ 140737488351232) : ∃ xs, IsRow E sz bytes Tru w v xs := by
  have hsz := G.pos
  rcases open_slice ht h with ⟨hcs, -⟩ | ⟨a, len, cap, m, n, D, Pl, hcs, -, hl, hm, hmm, rfl, hx⟩
  · simp only [List.cons.injEq, and_true] at hcs
    subst hcs
    exact ⟨[], none, 0, rfl, Nat.le_refl _, by unfold maxLen; omega, by simp, fun i x hx => by simp at hx⟩
  · simp only [List.cons.injEq, and_true] at hcs
    subst hcs
    have hlm : len ≤ m := by rw [hmm]; split <;> omega
    have hbd : len * bytes ≤ 140737488351232 := by
      have := hw ((((List.range len).map D).length + ((List.range (m - len)).map fun j => D (len + j)).length) * Tryz.prog.bytesOf e) (by simp [DataW.weights, ht])
      rw [hb] at this
      simp at this
      rw [show len + (m - len) = m by omega] at this
      exact Nat.le_trans (Nat.mul_le_mul_right _ hlm) this
    have hsl : ∀ i, i < len → ∃ y, ∃ b o, a = ⟨b, o, none⟩ ∧ E Tru w (fun k => w.cell? ⟨b, o + i * sz + k, none⟩) y := fun i hi => by
      obtain ⟨cs, h1, h2⟩ := hx i (by omega)
      rw [hc] at h1
      obtain ⟨_, hlen, hcell⟩ := World.cells?_some h1
      obtain ⟨y, hy⟩ := hel n cs _ hlen h2 (fun q hq => hw q (by
        simp only [DataW.weights, ht, List.mem_cons, List.mem_append]
        exact Or.inr (Or.inl (wAll_mem (d := D i) (by simp; exact ⟨i, hi, rfl⟩) q hq))))
      obtain ⟨b, o, rfl⟩ : ∃ b o, a = ⟨b, o, none⟩ := by
        obtain ⟨cs0, k1, -⟩ := hx 0 (by omega)
        rw [hc] at k1
        obtain ⟨_, hlen0, hcell0⟩ := World.cells?_some k1
        have h0 := hcell0 0 (by omega)
        rw [add_add, Nat.zero_mul, Nat.add_zero, List.getElem?_eq_getElem (by omega)] at h0
        exact addr_lit h0
      refine ⟨y, b, o, rfl, G.move hy (fun _ h => h) (.refl _ _) fun k hk u hu => ?_⟩
      have h0 := hcell k (by omega)
      rw [add_add, Addr.add_lit, ← Nat.add_assoc] at h0
      rw [h0]
      exact hu
    obtain ⟨xs, h1, h2⟩ := choose_list len hsl
    refine ⟨xs, some a, cap, by rw [h1], by rw [h1]; exact hl, hm, by rw [h1]; exact hbd, fun i x hx => ?_⟩
    obtain ⟨b, o, rfl, hE⟩ := h2 i x hx
    exact ⟨b, o, rfl, trivial, hE⟩

theorem weights_at {fs : Array Field} {e : TypeId} (he : Tryz.prog.underlying e = some (.struct fs)) {xs : List (DataW H × List MemPlace)} {j : Nat} {f : Field} {y : DataW H × List MemPlace} (hf : fs[j]? = some f) (hy : xs[j]? = some y) : ∀ n ∈ y.1.weights Tryz.prog f.type, n ∈ (DataW.agg (xs.map (·.1))).weights Tryz.prog e := by
  intro n hn
  simp only [DataW.weights, he]
  refine DataW.weights_mem_each (j := j) (t := f.type) (d := y.1) ?_ ?_ n hn
  · rw [List.getElem?_map]
    simp [hf]
  · rw [List.getElem?_map, hy]
    rfl

theorem read_val {n : Nat} {cs : List Value} {x : DataW H × List MemPlace} (hl : cs.length = 2) (h : DataW.trod enc Tryz.prog w base spare held n 51 cs = some x) : ∃ y, ValC Tru w (fun k => cs[k]?) y := by
  obtain ⟨xs, k, hk, hxy, _, hxl, hf⟩ := DataW.trod_struct Tryz.underlying51 h
  match xs, hxl, cs, hl with
  | [y0, y1], _, [v0, v1], _ =>
    have g0 := hf 0 _ rfl
    have g1 := hf 1 _ rfl
    simp [cells3] at g0 g1
    obtain ⟨a, e0, -, -⟩ := DataW.trod_int Tryz.underlying3 g0
    obtain ⟨b, e1, -, -⟩ := DataW.trod_int Tryz.underlying3 g1
    simp at e0 e1
    subst e0 e1
    exact ⟨⟨a, b⟩, rfl, rfl⟩
theorem read_instr {n : Nat} {cs : List Value} {x : DataW H × List MemPlace} (hl : cs.length = 5) (h : DataW.trod enc Tryz.prog w base spare held n 62 cs = some x) (hw : ∀ n ∈ x.1.weights Tryz.prog 62, n ≤ 140737488351232) : ∃ y, InstrC Tru w (fun k => cs[k]?) y := by
  obtain ⟨xs, k, hk, hxy, _, hxl, hf⟩ := DataW.trod_struct Tryz.underlying62 h
  match xs, hxl, cs, hl with
  | [y0, y1, y2, y3, y4], _, [v0, v1, v2, v3, v4], _ =>
    have g0 := hf 0 _ rfl
    have g1 := hf 1 _ rfl
    have g2 := hf 2 _ rfl
    have g3 := hf 3 _ rfl
    have g4 := hf 4 _ rfl
    simp [cells3, cells9] at g0 g1 g2 g3 g4
    obtain ⟨a, e0, -, -⟩ := DataW.trod_int Tryz.underlying3 g0
    obtain ⟨b, e1, -, -⟩ := DataW.trod_int Tryz.underlying3 g1
    obtain ⟨c, e2, -, -⟩ := DataW.trod_int Tryz.underlying3 g2
    obtain ⟨d, e3, -, -⟩ := DataW.trod_int Tryz.underlying3 g3
    obtain ⟨s, e4, e5, -⟩ := DataW.trod_string Tryz.underlying9 g4
    simp at e0 e1 e2 e3 e4
    subst e0 e1 e2 e3 e4
    have hs : s.size ≤ 140737488351232 := by
      rw [hxy] at hw
      have := hw s.data.toList.length (weights_at (j := 4) (xs := [y0, y1, y2, y3, y4]) Tryz.underlying62 rfl rfl _ (by rw [e5]; simp [DataW.weights]))
      simpa using this
    exact ⟨⟨a, b, c, d, s⟩, rfl, rfl, rfl, rfl, rfl, hs⟩
theorem read_code {fuel : Nat} {v : Value} {x : DataW H × List MemPlace} (h : DataW.trod enc Tryz.prog w base spare held fuel 41 [v] = some x) (hw : ∀ n ∈ x.1.weights Tryz.prog 41, n ≤ 140737488351232) : ∃ xs, IsCode Tru w v xs :=
  read_row goodI Tryz.underlying41 cells62 bytes62 (by omega) (fun n cs x hl h hw => read_instr hl h hw) h hw
theorem read_vals {fuel : Nat} {v : Value} {x : DataW H × List MemPlace} (h : DataW.trod enc Tryz.prog w base spare held fuel 47 [v] = some x) (hw : ∀ n ∈ x.1.weights Tryz.prog 47, n ≤ 140737488351232) : ∃ xs, IsVals Tru w v xs :=
  read_row goodV Tryz.underlying47 cells51 bytes51 (by omega) (fun n cs x hl h hw => read_val hl h) h hw
theorem read_meth {n : Nat} {cs : List Value} {x : DataW H × List MemPlace} (hl : cs.length = 5) (h : DataW.trod enc Tryz.prog w base spare held n 43 cs = some x) (hw : ∀ n ∈ x.1.weights Tryz.prog 43, n ≤ 140737488351232) : ∃ y, MethC Tru w (fun k => cs[k]?) y := by
  obtain ⟨xs, k, hk, hxy, _, hxl, hf⟩ := DataW.trod_struct Tryz.underlying43 h
  match xs, hxl, cs, hl with
  | [y0, y1, y2, y3, y4], _, [v0, v1, v2, v3, v4], _ =>
    have g0 := hf 0 _ rfl
    have g1 := hf 1 _ rfl
    have g2 := hf 2 _ rfl
    have g3 := hf 3 _ rfl
    have g4 := hf 4 _ rfl
    simp [cells3, cells9, cells41] at g0 g1 g2 g3 g4
    rw [hxy] at hw
    obtain ⟨s, e0, e5, -⟩ := DataW.trod_string Tryz.underlying9 g0
    obtain ⟨b, e1, -, -⟩ := DataW.trod_int Tryz.underlying3 g1
    obtain ⟨c, e2, -, -⟩ := DataW.trod_int Tryz.underlying3 g2
    obtain ⟨d, e3, -, -⟩ := DataW.trod_int Tryz.underlying3 g3
    obtain ⟨l, hc⟩ := read_code g4 (fun q hq => hw q (weights_at (j := 4) (xs := [y0, y1, y2, y3, y4]) Tryz.underlying43 rfl rfl q hq))
    simp at e0 e1 e2 e3
    subst e0 e1 e2 e3
    have hs : s.size ≤ 140737488351232 := by
      have := hw s.data.toList.length (weights_at (j := 0) (xs := [y0, y1, y2, y3, y4]) Tryz.underlying43 rfl rfl _ (by rw [e5]; simp [DataW.weights]))
      simpa using this
    exact ⟨⟨s, b, c, d, l⟩, rfl, rfl, rfl, rfl, hs, _, rfl, hc⟩
theorem read_meths {fuel : Nat} {v : Value} {x : DataW H × List MemPlace} (h : DataW.trod enc Tryz.prog w base spare held fuel 36 [v] = some x) (hw : ∀ n ∈ x.1.weights Tryz.prog 36, n ≤ 140737488351232) : ∃ xs, IsMeths Tru w v xs :=
  read_row goodM Tryz.underlying36 cells43 bytes43 (by omega) (fun n cs x hl h hw => read_meth hl h hw) h hw
theorem read_obj {n : Nat} {cs : List Value} {x : DataW H × List MemPlace} (hl : cs.length = 2) (h : DataW.trod enc Tryz.prog w base spare held n 49 cs = some x) (hw : ∀ n ∈ x.1.weights Tryz.prog 49, n ≤ 140737488351232) : ∃ y, ObjC Tru w (fun k => cs[k]?) y := by
  obtain ⟨xs, k, hk, hxy, _, hxl, hf⟩ := DataW.trod_struct Tryz.underlying49 h
  match xs, hxl, cs, hl with
  | [y0, y1], _, [v0, v1], _ =>
    have g0 := hf 0 _ rfl
    have g1 := hf 1 _ rfl
    simp [cells3, cells47] at g0 g1
    rw [hxy] at hw
    obtain ⟨a, e0, -, -⟩ := DataW.trod_int Tryz.underlying3 g0
    obtain ⟨l, hc⟩ := read_vals g1 (fun q hq => hw q (weights_at (j := 1) (xs := [y0, y1]) Tryz.underlying49 rfl rfl q hq))
    simp at e0
    subst e0
    exact ⟨⟨a, l⟩, rfl, _, rfl, hc⟩
theorem read_heap {fuel : Nat} {v : Value} {x : DataW H × List MemPlace} (h : DataW.trod enc Tryz.prog w base spare held fuel 23 [v] = some x) (hw : ∀ n ∈ x.1.weights Tryz.prog 23, n ≤ 140737488351232) : ∃ xs, IsHeap Tru w v xs :=
  read_row goodO Tryz.underlying23 cells49 bytes49 (by omega) (fun n cs x hl h hw => read_obj hl h hw) h hw
theorem read_class {n : Nat} {cs : List Value} {x : DataW H × List MemPlace} (hl : cs.length = 4) (h : DataW.trod enc Tryz.prog w base spare held n 38 cs = some x) (hw : ∀ n ∈ x.1.weights Tryz.prog 38, n ≤ 140737488351232) : ∃ y, ClassC Tru w (fun k => cs[k]?) y := by
  obtain ⟨xs, k, hk, hxy, _, hxl, hf⟩ := DataW.trod_struct Tryz.underlying38 h
  match xs, hxl, cs, hl with
  | [y0, y1, y2, y3], _, [v0, v1, v2, v3], _ =>
    have g0 := hf 0 _ rfl
    have g1 := hf 1 _ rfl
    have g2 := hf 2 _ rfl
    have g3 := hf 3 _ rfl
    simp [cells3, cells9, cells36] at g0 g1 g2 g3
    rw [hxy] at hw
    obtain ⟨s, e0, e5, -⟩ := DataW.trod_string Tryz.underlying9 g0
    obtain ⟨b, e1, -, -⟩ := DataW.trod_int Tryz.underlying3 g1
    obtain ⟨c, e2, -, -⟩ := DataW.trod_int Tryz.underlying3 g2
    obtain ⟨l, hc⟩ := read_meths g3 (fun q hq => hw q (weights_at (j := 3) (xs := [y0, y1, y2, y3]) Tryz.underlying38 rfl rfl q hq))
    simp at e0 e1 e2
    subst e0 e1 e2
    have hs : s.size ≤ 140737488351232 := by
      have := hw s.data.toList.length (weights_at (j := 0) (xs := [y0, y1, y2, y3]) Tryz.underlying38 rfl rfl _ (by rw [e5]; simp [DataW.weights]))
      simpa using this
    exact ⟨⟨s, b, c, l⟩, rfl, rfl, rfl, hs, _, rfl, hc⟩
theorem read_classes {fuel : Nat} {v : Value} {x : DataW H × List MemPlace} (h : DataW.trod enc Tryz.prog w base spare held fuel 22 [v] = some x) (hw : ∀ n ∈ x.1.weights Tryz.prog 22, n ≤ 140737488351232) : ∃ xs, IsClasses Tru w v xs :=
  read_row goodC Tryz.underlying22 cells38 bytes38 (by omega) (fun n cs x hl h hw => read_class hl h hw) h hw

/-- A world that came in. -/
theorem open_world {r : Reach} {b0 : Nat} {v : Value} {d : DataW H} {p : List MemPlace} (hv : Value.okWide Tryz.prog w r b0 25 v) (h : DataW.Trod enc Tryz.prog w base spare held 25 v d p) (hw : ∀ n ∈ d.weights Tryz.prog 25, n ≤ 140737488351232) : ∃ (X : QW) (cv hv : Value), v = WV cv hv X.epoch ∧ IsClasses Tru w cv X.classes ∧ IsHeap Tru w hv X.heap := by
  obtain ⟨v0, v1, v2, y0, y1, y2, n, rfl, rfl, rfl, h0, h1, h2⟩ := Joins.open_agg3 Tryz.underlying25 (by kernel_rfl) cells25 hv h
  obtain ⟨cs, hc⟩ := read_classes h0 (fun q hq => hw q (weights_at (j := 0) (xs := [y0, y1, y2]) Tryz.underlying25 rfl rfl q hq))
  obtain ⟨hs, hh⟩ := read_heap h1 (fun q hq => hw q (weights_at (j := 1) (xs := [y0, y1, y2]) Tryz.underlying25 rfl rfl q hq))
  obtain ⟨e, e2, -, -⟩ := DataW.trod_int Tryz.underlying3 h2
  simp at e2
  subst e2
  exact ⟨⟨cs, hs, e⟩, v0, v1, rfl, hc, hh⟩
end
end Go.Proofs.YtjmidhghiahbaaaGreatDoor
