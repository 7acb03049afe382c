/- Worlds as they lie in memory: instructions, methods, classes, values, objects. -/
import Derived.Test.YtfdonemehiamjaaRows
import Derived.WalkKit
import Derived.ProofKit
import Derived.OpenShut
import Derived.Below
import Derived.WalkSpells
import Derived.WalkLawsBesides
import Derived.BigQuiet
import Derived.Deep.RegionHeld3
import Derived.Deep.Light
import Derived.Deep.LoopGhost
import Derived.Deep.DeepCutAuto
import Derived.Laws.CopyOwn
import Derived.Laws.Append
import Derived.Laws.Rows
import Derived.Laws.IdiomCopy
namespace Go.Proofs.Ytfdonemehiamjaa
open Go.ChangeShapes Go.WideShapes Go.ChangeAt Go.RowKit
set_option linter.unusedSimpArgs false
set_option linter.unusedVariables false

theorem bcell {W w1 : World} (hb : Below W.heap.size W w1) : (∀ b o, b < W.heap.size → w1.cell? ⟨b, o, none⟩ = W.cell? ⟨b, o, none⟩) ∧ (∀ b o, b < W.heap.size → w1.frozen? ⟨b, o, none⟩ = W.frozen? ⟨b, o, none⟩) :=
  ⟨fun b o h => hb.cell (p := ⟨b, o, none⟩) h, fun b o h => hb.frozen (p := ⟨b, o, none⟩) h⟩
theorem bel1 (w : World) (a : Obj) : Below w.heap.size w (w.alloc a) := (Below.refl _ _).alloc (Nat.le_refl _) _
theorem bel2 (w : World) (a b : Obj) : Below w.heap.size w ((w.alloc a).alloc b) := (bel1 _ _).alloc (by simp) _
theorem bel3 (w : World) (a b c : Obj) : Below w.heap.size w (((w.alloc a).alloc b).alloc c) := (bel2 _ _ _).alloc (by simp; omega) _
theorem nstep {w W w' : World} (h : Below w.heap.size w W) (k : Below W.heap.size W w') : Below w.heap.size w w' := h.trans (k.mono h.size)
theorem nstep1 {w W w' : World} {X : Obj} (h : Below w.heap.size w W) (k : Below (W.alloc X).heap.size (W.alloc X) w') : Below w.heap.size w w' := nstep (h.alloc h.size _) k
theorem blk_lt {w : World} {g : Nat} {x : Obj} (h : w.heap[g]? = some x) : g < w.heap.size := (Array.getElem?_eq_some_iff.1 h).1
theorem lt_of_get {α : Type} {l : List α} {i : Nat} {x : α} (h : l[i]? = some x) : i < l.length := by
  rcases Nat.lt_or_ge i l.length with h' | h'
  · exact h'
  · rw [List.getElem?_eq_none h'] at h; cases h
theorem ret_i {a b : Int} (h : a = b) : Ending.returned (.int .i64 a) = .returned (.int .i64 b) := by rw [h]
theorem ret_b {a b : Bool} (h : a = b) : Ending.returned (.bool a) = .returned (.bool b) := by rw [h]
theorem cell_new (w : World) (cs : Array Value) (t : TypeId) (n : Nat) (hn : w.heap.size = n) (j : Nat) : (w.alloc (.cells cs t)).cell? ⟨n, j, none⟩ = cs[j]? := by
  subst hn
  exact cell_of_row _ _ _ _ _ _ (heap_alloc_new w _)


structure QV where
  k : Int
  n : Int
structure QO where
  cls : Int
  slots : List QV
structure QI where
  op : Int
  a : Int
  b : Int
  c : Int
  name : ByteArray
structure QM where
  name : ByteArray
  args : Int
  temps : Int
  prim : Int
  code : List QI
structure QC where
  name : ByteArray
  super : Int
  slots : Int
  methods : List QM
structure QW where
  classes : List QC
  heap : List QO
  epoch : Int

/-- All cells of blocks that P names and that are there in w are there in w', too. -/
def Keeps (P : Nat → Prop) (w w' : World) : Prop := ∀ b o v, P b → w.cell? ⟨b, o, none⟩ = some v → w'.cell? ⟨b, o, none⟩ = some v
theorem Keeps.of_below {P : Nat → Prop} {w w' : World} (hb : Below w.heap.size w w') : Keeps P w w' := fun b o v _ h => cell_later hb h
theorem Keeps.of_setCell {P : Nat → Prop} {w : World} {a : Addr} (ha : ¬ P a.block) (u : Value) : Keeps P w (w.setCell a u) := fun b o v hl h => by
  rw [World.cell?_setCell_other _ _ _ _ (by intro e; subst e; exact ha hl)]; exact h
theorem Keeps.trans {P : Nat → Prop} {w w' w'' : World} (h : Keeps P w w') (k : Keeps P w' w'') : Keeps P w w'' := fun b o v hl hc => k b o v hl (h b o v hl hc)
theorem Keeps.mono {P Q : Nat → Prop} {w w' : World} (h : Keeps P w w') (hl : ∀ b, Q b → P b) : Keeps Q w w' := fun b o v hb hc => h b o v (hl _ hb) hc
theorem Keeps.refl (P : Nat → Prop) (w : World) : Keeps P w w := fun _ _ _ _ h => h
theorem Keeps.of_block {P : Nat → Prop} {w w' : World} (h : ∀ b, P b → b < w.heap.size → w'.heap[b]? = w.heap[b]?) : Keeps P w w' := fun b o v hp hc => by
  have hl := World.block_lt_of_cell? w ⟨b, o, none⟩ hc
  unfold World.cell? at hc ⊢
  rw [h b hp hl]
  exact hc

/-- What is said of an element's cells (f k: the one at place k), of which there are sz. -/
abbrev Lay (α : Type) := (Nat → Prop) → World → (Nat → Option Value) → α → Prop
/-- It hangs on those cells, and on blocks that P names. -/
structure Good {α : Type} (E : Lay α) (sz : Nat) : Prop where
  move : ∀ {P Q : Nat → Prop} {w w' : World} {f f' : Nat → Option Value} {x : α}, E P w f x → (∀ b, P b → Q b) → Keeps P w w' → (∀ k, k < sz → ∀ v, f k = some v → f' k = some v) → E Q w' f' x
  there : ∀ {P : Nat → Prop} {w : World} {f : Nat → Option Value} {x : α}, E P w f x → ∀ k, k < sz → ∃ u, f k = some u ∧ u.oneCell' = true
  pos : 0 < sz

def RowAt {α : Type} (E : Lay α) (sz : Nat) (P : Nat → Prop) (w : World) (ad : Option Addr) (xs : List α) : Prop :=
  ∀ i x, xs[i]? = some x → ∃ b o, ad = some ⟨b, o, none⟩ ∧ P b ∧ E P w (fun k => w.cell? ⟨b, o + i * sz + k, none⟩) x
/-- A slice's value over such a row; bytes: of one element. -/
def IsRow {α : Type} (E : Lay α) (sz bytes : Nat) (P : Nat → Prop) (w : World) (v : Value) (xs : List α) : Prop :=
  ∃ ad cap, v = .slice ad xs.length cap ∧ xs.length ≤ cap ∧ cap ≤ maxLen ∧ xs.length * bytes ≤ 140737488351232 ∧ RowAt E sz P w ad xs

theorem RowAt.keep {α : Type} {E : Lay α} {sz : Nat} (G : Good E sz) {P Q : Nat → Prop} {w w' : World} {ad : Option Addr} {xs : List α} (h : RowAt E sz P w ad xs) (hk : Keeps P w w') (hl : ∀ b, P b → Q b) : RowAt E sz Q w' ad xs := fun i x hx => by
  obtain ⟨b, o, e1, e2, e3⟩ := h i x hx
  exact ⟨b, o, e1, hl _ e2, G.move e3 hl hk fun k _ v hv => hk _ _ _ e2 hv⟩
theorem IsRow.keep {α : Type} {E : Lay α} {sz bytes : Nat} (G : Good E sz) {P Q : Nat → Prop} {w w' : World} {v : Value} {xs : List α} (h : IsRow E sz bytes P w v xs) (hk : Keeps P w w') (hl : ∀ b, P b → Q b) : IsRow E sz bytes Q w' v xs := by
  obtain ⟨ad, cap, h1, h2, h3, h4, h5⟩ := h
  exact ⟨ad, cap, h1, h2, h3, h4, h5.keep G hk hl⟩

def InstrC : Lay QI := fun _ _ f x => f 0 = some (.int .i64 x.op) ∧ f 1 = some (.int .i64 x.a) ∧ f 2 = some (.int .i64 x.b) ∧ f 3 = some (.int .i64 x.c) ∧ f 4 = some (.string x.name) ∧ x.name.size ≤ 140737488351232
def ValC : Lay QV := fun _ _ f x => f 0 = some (.int .i64 x.k) ∧ f 1 = some (.int .i64 x.n)
abbrev IsCode := IsRow InstrC 5 48
abbrev IsVals := IsRow ValC 2 16
def MethC : Lay QM := fun P w f x => f 0 = some (.string x.name) ∧ f 1 = some (.int .i64 x.args) ∧ f 2 = some (.int .i64 x.temps) ∧ f 3 = some (.int .i64 x.prim) ∧ x.name.size ≤ 140737488351232 ∧ ∃ v, f 4 = some v ∧ IsCode P w v x.code
def ObjC : Lay QO := fun P w f x => f 0 = some (.int .i64 x.cls) ∧ ∃ v, f 1 = some v ∧ IsVals P w v x.slots
abbrev IsMeths := IsRow MethC 5 64
abbrev IsHeap := IsRow ObjC 2 32
def ClassC : Lay QC := fun P w f x => f 0 = some (.string x.name) ∧ f 1 = some (.int .i64 x.super) ∧ f 2 = some (.int .i64 x.slots) ∧ x.name.size ≤ 140737488351232 ∧ ∃ v, f 3 = some v ∧ IsMeths P w v x.methods
abbrev IsClasses := IsRow ClassC 4 56

theorem isRow_one {α : Type} {E : Lay α} {sz bytes : Nat} {P : Nat → Prop} {w : World} {v : Value} {xs : List α} (h : IsRow E sz bytes P w v xs) : v.oneCell' = true := by
  obtain ⟨ad, cap, rfl, -⟩ := h; rfl

theorem goodI : Good InstrC 5 where
  move h _ _ hf := ⟨hf 0 (by omega) _ h.1, hf 1 (by omega) _ h.2.1, hf 2 (by omega) _ h.2.2.1, hf 3 (by omega) _ h.2.2.2.1, hf 4 (by omega) _ h.2.2.2.2.1, h.2.2.2.2.2⟩
  there h k hk := by
    obtain ⟨h0, h1, h2, h3, h4, -⟩ := h
    match k, hk with
    | 0, _ => exact ⟨_, h0, rfl⟩
    | 1, _ => exact ⟨_, h1, rfl⟩
    | 2, _ => exact ⟨_, h2, rfl⟩
    | 3, _ => exact ⟨_, h3, rfl⟩
    | 4, _ => exact ⟨_, h4, rfl⟩
  pos := by omega
theorem goodV : Good ValC 2 where
  move h _ _ hf := ⟨hf 0 (by omega) _ h.1, hf 1 (by omega) _ h.2⟩
  there h k hk := by
    obtain ⟨h0, h1⟩ := h
    match k, hk with
    | 0, _ => exact ⟨_, h0, rfl⟩
    | 1, _ => exact ⟨_, h1, rfl⟩
  pos := by omega
theorem goodM : Good MethC 5 where
  move h hl hk hf := by
    obtain ⟨h0, h1, h2, h3, h4, v, h5, h6⟩ := h
    exact ⟨hf 0 (by omega) _ h0, hf 1 (by omega) _ h1, hf 2 (by omega) _ h2, hf 3 (by omega) _ h3, h4, v, hf 4 (by omega) _ h5, h6.keep goodI hk hl⟩
  there h k hk := by
    obtain ⟨h0, h1, h2, h3, h4, v, h5, h6⟩ := h
    match k, hk with
    | 0, _ => exact ⟨_, h0, rfl⟩
    | 1, _ => exact ⟨_, h1, rfl⟩
    | 2, _ => exact ⟨_, h2, rfl⟩
    | 3, _ => exact ⟨_, h3, rfl⟩
    | 4, _ => exact ⟨_, h5, isRow_one h6⟩
  pos := by omega
theorem goodO : Good ObjC 2 where
  move h hl hk hf := by
    obtain ⟨h0, v, h5, h6⟩ := h
    exact ⟨hf 0 (by omega) _ h0, v, hf 1 (by omega) _ h5, h6.keep goodV hk hl⟩
  there h k hk := by
    obtain ⟨h0, v, h5, h6⟩ := h
    match k, hk with
    | 0, _ => exact ⟨_, h0, rfl⟩
    | 1, _ => exact ⟨_, h5, isRow_one h6⟩
  pos := by omega
theorem goodC : Good ClassC 4 where
  move h hl hk hf := by
    obtain ⟨h0, h1, h2, h4, v, h5, h6⟩ := h
    exact ⟨hf 0 (by omega) _ h0, hf 1 (by omega) _ h1, hf 2 (by omega) _ h2, h4, v, hf 3 (by omega) _ h5, h6.keep goodM hk hl⟩
  there h k hk := by
    obtain ⟨h0, h1, h2, h4, v, h5, h6⟩ := h
    match k, hk with
    | 0, _ => exact ⟨_, h0, rfl⟩
    | 1, _ => exact ⟨_, h1, rfl⟩
    | 2, _ => exact ⟨_, h2, rfl⟩
    | 3, _ => exact ⟨_, h5, isRow_one h6⟩
  pos := by omega

section
variable {α : Type} {E : Lay α} {sz bytes : Nat} {P Q : Nat → Prop} {w w' : World} {v : Value} {xs : List α}
theorem IsRow.later (h : IsRow E sz bytes P w v xs) (G : Good E sz) (hb : Below w.heap.size w w') : IsRow E sz bytes P w' v xs := h.keep G (.of_below hb) fun _ h => h
theorem IsRow.mono (h : IsRow E sz bytes P w v xs) (G : Good E sz) (hl : ∀ b, P b → Q b) : IsRow E sz bytes Q w v xs := h.keep G (.refl _ _) hl
end

/-- A world's value. -/
def IsWorld (P : Nat → Prop) (w : World) (v : Value) (X : QW) : Prop := ∃ cv hv, v = .agg #[cv, hv, .int .i64 X.epoch] ∧ IsClasses P w cv X.classes ∧ IsHeap P w hv X.heap
theorem IsWorld.keep {P Q : Nat → Prop} {w w' : World} {v : Value} {X : QW} (h : IsWorld P w v X) (hk : Keeps P w w') (hl : ∀ b, P b → Q b) : IsWorld Q w' v X := by
  obtain ⟨cv, hv, rfl, h1, h2⟩ := h
  exact ⟨cv, hv, rfl, h1.keep goodC hk hl, h2.keep goodO hk hl⟩
theorem IsWorld.later {P : Nat → Prop} {w w' : World} {v : Value} {X : QW} (h : IsWorld P w v X) (hb : Below w.heap.size w w') : IsWorld P w' v X := h.keep (.of_below hb) fun _ h => h

/-- The cells cs are the elements xs. -/
def Cells {α : Type} (E : Lay α) (sz : Nat) (P : Nat → Prop) (w : World) (cs : List Value) (xs : List α) : Prop :=
  cs.length = xs.length * sz ∧ ∀ i x, xs[i]? = some x → E P w (fun k => cs[i * sz + k]?) x
section
variable {α : Type} {E : Lay α} {sz bytes : Nat} {P Q : Nat → Prop} {w w' : World} {cs : List Value} {xs : List α}
theorem Cells.keep (h : Cells E sz P w cs xs) (G : Good E sz) (hk : Keeps P w w') (hl : ∀ b, P b → Q b) : Cells E sz Q w' cs xs :=
  ⟨h.1, fun i x hx => G.move (h.2 i x hx) hl hk fun _ _ _ h => h⟩
theorem Cells.later (h : Cells E sz P w cs xs) (G : Good E sz) (hb : Below w.heap.size w w') : Cells E sz P w' cs xs := h.keep G (.of_below hb) fun _ h => h
theorem Cells.nil : Cells E sz P w [] ([] : List α) := ⟨by simp, fun i x hx => by simp at hx⟩
theorem Cells.append {ds : List Value} {ys : List α} (h : Cells E sz P w cs xs) (G : Good E sz) (k : Cells E sz P w ds ys) : Cells E sz P w (cs ++ ds) (xs ++ ys) := by
  have hl := h.1
  refine ⟨by rw [List.length_append, List.length_append, h.1, k.1, Nat.add_mul], fun i x hx => ?_⟩
  by_cases hi : i < xs.length
  · rw [List.getElem?_append_left hi] at hx
    refine G.move (h.2 i x hx) (fun _ h => h) (.refl _ _) fun k hk v hv => ?_
    have hlt := lt_of_get hv
    simp only [List.getElem?_append_left hlt]
    exact hv
  · rw [List.getElem?_append_right (by omega)] at hx
    refine G.move (k.2 _ x hx) (fun _ h => h) (.refl _ _) fun k hk v hv => ?_
    obtain ⟨d, rfl⟩ : ∃ d, i = xs.length + d := ⟨i - xs.length, by omega⟩
    simp only [Nat.add_sub_cancel_left] at hv
    rw [List.getElem?_append_right (by rw [hl, Nat.add_mul]; omega), hl, Nat.add_mul, show xs.length * sz + d * sz + k - xs.length * sz = d * sz + k by omega]
    exact hv
theorem Cells.one {x : α} (G : Good E sz) (h1 : cs.length = sz) (h : E P w (fun k => cs[k]?) x) : Cells E sz P w cs [x] := by
  refine ⟨by simpa using h1, fun i y hy => ?_⟩
  have hi := lt_of_get hy
  obtain rfl : i = 0 := by simpa using hi
  simp at hy
  subst hy
  refine G.move h (fun _ h => h) (.refl _ _) fun k hk v hv => by simpa using hv
theorem Cells.all (h : Cells E sz P w cs xs) (G : Good E sz) : ∀ u ∈ cs, u.oneCell' = true := by
  intro u hu
  obtain ⟨j, hj, rfl⟩ := List.mem_iff_getElem.1 hu
  have hp := G.pos
  have hl := h.1
  have h1 : j / sz < xs.length := by
    rw [Nat.div_lt_iff_lt_mul hp]; omega
  obtain ⟨v, hv, ho⟩ := G.there (h.2 (j / sz) xs[j / sz] (by simp [h1])) (j % sz) (Nat.mod_lt _ hp)
  rw [Nat.div_add_mod'] at hv
  rw [List.getElem?_eq_getElem hj] at hv
  cases hv
  exact ho
/-- The cells of a row. -/
theorem RowAt.cells {ad : Option Addr} (h : RowAt E sz P w ad xs) (G : Good E sz) : ∃ cs, Cells E sz P w cs xs ∧ ∀ j u, cs[j]? = some u → ∃ a, ad = some a ∧ w.cell? (a.add j) = some u := by
  have hp := G.pos
  cases xs with
  | nil => exact ⟨[], .nil, fun j u hu => by simp at hu⟩
  | cons y r =>
    obtain ⟨b, o, rfl, -⟩ := h 0 y rfl
    refine ⟨(List.range ((y :: r).length * sz)).map fun j => (w.cell? ⟨b, o + j, none⟩).getD undef, ⟨by simp, fun i x hx => ?_⟩, fun j u hu => ?_⟩
    · have hi := lt_of_get hx
      obtain ⟨b', o', e, -, h1⟩ := h i x hx
      cases e
      refine G.move h1 (fun _ h => h) (.refl _ _) fun k hk v hv => ?_
      have hlt : i * sz + k < (y :: r).length * sz := by
        have : i * sz + k < (i + 1) * sz := by rw [Nat.add_mul]; omega
        exact Nat.lt_of_lt_of_le this (Nat.mul_le_mul_right _ hi)
      rw [List.getElem?_map, List.getElem?_range hlt]
      rw [Nat.add_assoc] at hv
      simp [hv]
    · rw [List.getElem?_map] at hu
      have hj : j < (y :: r).length * sz := by
        rcases Nat.lt_or_ge j ((y :: r).length * sz) with h' | h'
        · exact h'
        · rw [List.getElem?_eq_none (by simpa using h')] at hu; simp at hu
      rw [List.getElem?_range hj] at hu
      refine ⟨_, rfl, ?_⟩
      rw [Addr.add_lit]
      have hjs : j / sz < (y :: r).length := by rw [Nat.div_lt_iff_lt_mul hp]; exact hj
      obtain ⟨b', o', e, -, h1⟩ := h (j / sz) ((y :: r)[j / sz]) (by simp)
      cases e
      obtain ⟨v, hv, -⟩ := G.there h1 (j % sz) (Nat.mod_lt _ hp)
      rw [Nat.add_assoc, Nat.div_add_mod'] at hv
      rw [hv]
      simpa [hv] using hu
/-- A row at the head of a block whose first cells are those. -/
theorem Cells.row {g cap : Nat} (h : Cells E sz P w cs xs) (G : Good E sz) (hP : P g) {t : TypeId} {fr : Nat × Nat} {cur : Array Value} (hg : w.heap[g]? = some (.cells cur t fr)) (hc : cur.toList.take (xs.length * sz) = cs) (h1 : xs.length ≤ cap) (h2 : cap ≤ maxLen) (h3 : xs.length * bytes ≤ 140737488351232) :
    IsRow E sz bytes P w (.slice (some ⟨g, 0, none⟩) xs.length cap) xs := by
  refine ⟨_, _, rfl, h1, h2, h3, fun i x hx => ⟨g, 0, rfl, hP, ?_⟩⟩
  refine G.move (h.2 i x hx) (fun _ h => h) (.refl _ _) fun k hk v hv => ?_
  have hlt := lt_of_get hv
  rw [cell_of_row w g _ _ _ _ hg, Nat.zero_add]
  subst hc
  rw [List.getElem?_take] at hv
  split at hv
  · simpa using hv
  · cases hv
end
end Go.Proofs.Ytfdonemehiamjaa
/- Laws on memory that the library lacks: the built-in copy over a whole row whose elements take more than one cell. -/
namespace Go.Proofs.Ytfdonemehiamjaa
open Go.RowKit

/-- 'copy(own, l)' where both have as many elements: behind it the row of own holds the cells of l. -/
theorem run_copy_whole {P : Program} (w : World) (dT sT ty elem : TypeId) (sz g len dCap : Nat) (sp : Option Addr) (sCap : Nat) (cur : Array Value) (t : TypeId) (cs : List Value)
    (hu : P.underlying dT = some (.slice elem)) (hs : (P.info? elem).map (·.size) = some sz) (hg : w.heap[g]? = some (.cells cur t (0, 0))) (hn : cs.length = len * sz)
    (hsrc : ∀ j v, cs[j]? = some v → ∃ a, sp = some a ∧ w.cell? (a.add j) = some v) (hcur : cur.size = len * sz) (h1 : ∀ v ∈ cs, v.oneCell' = true) :
    ∃ w', (Builtin.copy_ #[dT, sT] ty #[.slice (some ⟨g, 0, none⟩) len dCap, .slice sp len sCap]).run P w = .ok (goInt len) w' ∧ w'.heap[g]? = some (.cells cs.toArray t (0, 0)) ∧ ∀ B w0, Below B w0 w → B ≤ g → Below B w0 w' := by
  cases hq : P.info? elem with
  | none => simp [hq] at hs
  | some i =>
    have hi : i.size = sz := by simpa [hq] using hs
    have hst := run_storeCells_at P g 0 t cs 0 cur w hg (by simp; omega) h1
    have hm : Nat.min len len = len := Nat.min_self len
    have hfc : (Builtin.firstCells sz len (.slice sp len sCap)).run P w = .ok cs.toArray w := by
      cases sp with
      | some a => exact run_firstCells_some w sz len a len sCap cs hn (fun j v hv => by obtain ⟨a', e, h⟩ := hsrc j v hv; cases e; exact h)
      | none =>
        have : cs = [] := by
          cases cs with
          | nil => rfl
          | cons c r => obtain ⟨a', e, _⟩ := hsrc 0 c rfl; cases e
        rw [this]
        exact run_firstCells_none w sz len len sCap
    refine ⟨w.setRow g cs.toArray, ?_, setRow_heap w g cur _ t _ hg, fun B w0 hb hB => below_setRow hb hB _⟩
    have e : (cur.toList.take (0 + 0) ++ cs ++ cur.toList.drop (0 + 0 + cs.length)).toArray = cs.toArray := by
      have : cur.toList.drop cs.length = [] := by rw [List.drop_eq_nil_iff]; simp; omega
      simp [this]
    rw [e] at hst
    simp [Builtin.copy_, run_underlying hu, Builtin.lenOf, sizeOf, typeInfo, hq, hi, hm, hfc, hst]

theorem wpList_copy_whole {P : Program} {w : World} {ops : Array Oper} {rest : List Oper} {o : Oper} {a : Act} {Q : Exit → Act → World → Prop} (hgd : o.guard = none) (d s : Operand) (dT sT : TypeId)
    (ho : o.op = .call { callee := .builtin .copy, args := #[d, s], argTypes := #[dT, sT] }) (elem : TypeId) (hu : P.underlying dT = some (.slice elem)) (sz : Nat) (hsz : (P.info? elem).map (·.size) = some sz)
    (g len dCap : Nat) (sp : Option Addr) (sCap : Nat) (hd : a.eval d = .slice (some ⟨g, 0, none⟩) len dCap) (hs : a.eval s = .slice sp len sCap)
    (cur : Array Value) (t : TypeId) (hg : w.heap[g]? = some (.cells cur t (0, 0))) (cs : List Value) (hn : cs.length = len * sz)
    (hsrc : ∀ j v, cs[j]? = some v → ∃ a, sp = some a ∧ w.cell? (a.add j) = some v) (hcur : cur.size = len * sz) (h1 : ∀ v ∈ cs, v.oneCell' = true)
    (h : ∀ w', w'.heap[g]? = some (.cells cs.toArray t (0, 0)) → (∀ B w0, Below B w0 w → B ≤ g → Below B w0 w') → wpList P ops Q rest (a.put o.dst (goInt len)) w') : wpList P ops Q (o :: rest) a w := by
  refine wpList_plain hgd fun K hK => ?_
  obtain ⟨w', hrun, h2, h3⟩ := run_copy_whole (P := P) w dT sT o.type elem sz g len dCap sp sCap cur t cs hu hsz hg hn hsrc hcur h1
  unfold Oper.wp
  simp [execOp, ho, resolve, invoke, builtin, hd, hs, hrun, Result.andThen]
  exact hK _ _ (h w' h2 h3)

end Go.Proofs.Ytfdonemehiamjaa
/- Copies: a method's code, an object's slots. -/
namespace Go.Proofs.Ytfdonemehiamjaa
open Go.ChangeShapes Go.WideShapes Go.ChangeAt Go.RowKit
set_option linter.unusedSimpArgs false
set_option linter.unusedVariables false

theorem info_parts {P : Program} {t : TypeId} {z : Value} {n m : Nat} (h : (P.info? t).map (fun i => (i.zero, i.size, i.bytes)) = some (some z, n, m)) : ∃ i, P.info? t = some i ∧ i.zero = some z ∧ i.size = n ∧ i.bytes = m := by
  cases hq : P.info? t with
  | none => simp [hq] at h
  | some i =>
    simp [hq] at h
    exact ⟨i, rfl, h.1, h.2.1, h.2.2⟩

abbrev zI : Value := .agg #[.int .i64 0, .int .i64 0, .int .i64 0, .int .i64 0, .string ⟨#[]⟩]
abbrev zM : Value := .agg #[.string ⟨#[]⟩, .int .i64 0, .int .i64 0, .int .i64 0, .slice none 0 0]
abbrev zC : Value := .agg #[.string ⟨#[]⟩, .int .i64 0, .int .i64 0, .slice none 0 0]
theorem info81 : (Try.prog.info? 81).map (fun i => (i.zero, i.size, i.bytes)) = some (some zI, 5, 48) := by kernel_rfl
theorem info54 : (Try.prog.info? 54).map (fun i => (i.zero, i.size, i.bytes)) = some (some zM, 5, 64) := by kernel_rfl
theorem info49 : (Try.prog.info? 49).map (fun i => (i.zero, i.size, i.bytes)) = some (some zC, 4, 56) := by kernel_rfl
theorem info27 : (Try.prog.info? 27).map (fun i => (i.zero, i.size, i.bytes)) = some (some (.agg #[.int .i64 0, .int .i64 0]), 2, 16) := by kernel_rfl
theorem info59 : (Try.prog.info? 59).map (fun i => (i.zero, i.size, i.bytes)) = some (some (.agg #[.int .i64 0, .slice none 0 0]), 2, 32) := by kernel_rfl
theorem info81s : (Try.prog.info? 81).map (·.size) = some 5 := by kernel_rfl
theorem info27s : (Try.prog.info? 27).map (·.size) = some 2 := by kernel_rfl

theorem make_of {T e : TypeId} {zs : Array Value} {sz by' : Nat} (hu : Try.prog.underlying T = some (.slice e)) (hI : (Try.prog.info? e).map (fun i => (i.zero, i.size, i.bytes)) = some (some (.agg zs), sz, by')) (hp : 0 < by') (n : Nat) (hb : n * by' ≤ 140737488351232) (hc : (Value.agg zs).cells = zs) (w : World) : (Instr.makeSlice T (.int .i64 (n : Int)) (.int .i64 (n : Int))).run Try.prog w = .ok (.slice (some ⟨w.heap.size, 0, none⟩) n n) (w.alloc (.cells (madeCells zs (n * sz)) e)) := by
  obtain ⟨i0, hi, hz0, hz1, hz2⟩ := info_parts hI
  have hn : n ≤ n * by' := Nat.le_mul_of_pos_right _ hp
  have := run_make (P := Try.prog) w T e i0 _ hu hi hz0 .i64 .i64 n n (by omega) (by omega) (by rw [hz2]; rw [Nat.mul_comm] at *; omega) (by omega)
  rw [this, hz1, hc]
  simp
abbrev MadeAt (T e : TypeId) (zs : Array Value) (sz n : Nat) : Prop := ∀ w : World, (Instr.makeSlice T (.int .i64 (n : Int)) (.int .i64 (n : Int))).run Try.prog w = .ok (.slice (some ⟨w.heap.size, 0, none⟩) n n) (w.alloc (.cells (madeCells zs (n * sz)) e))
theorem make_code (n : Nat) (hb : n * 48 ≤ 140737488351232) : MadeAt 52 81 #[.int .i64 0, .int .i64 0, .int .i64 0, .int .i64 0, .string ⟨#[]⟩] 5 n := fun w => make_of Try.underlying52 info81 (by omega) n hb rfl w
theorem make_meths (n : Nat) (hb : n * 64 ≤ 140737488351232) : MadeAt 47 54 #[.string ⟨#[]⟩, .int .i64 0, .int .i64 0, .int .i64 0, .slice none 0 0] 5 n := fun w => make_of Try.underlying47 info54 (by omega) n hb rfl w
theorem make_classes (n : Nat) (hb : n * 56 ≤ 140737488351232) : MadeAt 22 49 #[.string ⟨#[]⟩, .int .i64 0, .int .i64 0, .slice none 0 0] 4 n := fun w => make_of Try.underlying22 info49 (by omega) n hb rfl w
theorem make_vals (n : Nat) (hb : n * 16 ≤ 140737488351232) : MadeAt 28 27 #[.int .i64 0, .int .i64 0] 2 n := fun w => make_of Try.underlying28 info27 (by omega) n hb rfl w
theorem make_objs (n : Nat) (hb : n * 32 ≤ 140737488351232) : MadeAt 23 59 #[.int .i64 0, .slice none 0 0] 2 n := fun w => make_of Try.underlying23 info59 (by omega) n hb rfl w

/-- The blocks that came since w. -/
abbrev Since (w w' : World) : Nat → Prop := fun b => w.heap.size ≤ b ∧ b < w'.heap.size

theorem cell_set_self {w : World} {a : Addr} {v : Value} (h : w.cell? a = some v) (u : Value) : (w.setCell a u).cell? a = some u := by
  rw [World.cell?_setCell_same _ _ _ h]
theorem size_setCell (w : World) (a : Addr) (v : Value) : (w.setCell a v).heap.size = w.heap.size := by
  simp [World.setCell]
theorem keep_set {P : Nat → Prop} {w w0 : World} (h : Keeps P w0 w) {b o : Nat} (hb : ¬ P b) (u : Value) : Keeps P w0 (w.setCell ⟨b, o, none⟩ u) := h.trans (Keeps.of_setCell hb u)
/-- A method's value. -/
abbrev MV (x : QM) (cv : Value) : Value := .agg #[.string x.name, .int .i64 x.args, .int .i64 x.temps, .int .i64 x.prim, cv]

theorem Below.after {w w' : World} (h : Below w.heap.size w w') : w.heap.size ≤ w'.heap.size := h.size

/-- The row at block B, whose first j elements are those of xs; what they reach lies behind B. -/
def OwnSt {α : Type} (E : Lay α) (sz : Nat) (t : TypeId) (w : World) (B : Nat) (xs : List α) (j : Nat) : Prop :=
  (∃ cur : Array Value, w.heap[B]? = some (.cells cur t (0, 0)) ∧ cur.size = xs.length * sz) ∧ ∀ i x, i < j → xs[i]? = some x → E (fun b => B < b ∧ b < w.heap.size) w (fun k => w.cell? ⟨B, i * sz + k, none⟩) x
theorem setCell_same {w : World} {B o : Nat} {cur : Array Value} {t : TypeId} {fr : Nat × Nat} (h : w.heap[B]? = some (.cells cur t fr)) (v : Value) : (w.setCell ⟨B, o, none⟩ v).heap[B]? = some (.cells (cur.setIfInBounds o v) t fr) := by
  rw [setCell_eq_setRow w B o cur t fr v h]
  exact setRow_heap w B cur _ t fr h
theorem setCell_else {w : World} {B o g : Nat} (hg : g ≠ B) (v : Value) : (w.setCell ⟨B, o, none⟩ v).heap[g]? = w.heap[g]? := Below.heap_setCell _ _ _ _ hg
theorem setCells_block {B n : Nat} {t : TypeId} : ∀ (vs : List Value) (o : Nat) (w : World), (∃ cur : Array Value, w.heap[B]? = some (.cells cur t (0, 0)) ∧ cur.size = n) → ∃ cur : Array Value, (w.setCells B o vs).heap[B]? = some (.cells cur t (0, 0)) ∧ cur.size = n
  | [], _, _, h => h
  | v :: r, o, w, h => by
    obtain ⟨cur, h1, h2⟩ := h
    exact setCells_block r (o + 1) _ ⟨_, setCell_same h1 v, by simpa using h2⟩
theorem setCells_else {B g : Nat} (hg : g ≠ B) : ∀ (vs : List Value) (o : Nat) (w : World), (w.setCells B o vs).heap[g]? = w.heap[g]?
  | [], _, _ => rfl
  | v :: r, o, w => (setCells_else hg r (o + 1) _).trans (setCell_else hg v)
theorem setCells_size {B : Nat} : ∀ (vs : List Value) (o : Nat) (w : World), (w.setCells B o vs).heap.size = w.heap.size
  | [], _, _ => rfl
  | v :: r, o, w => (setCells_size r (o + 1) _).trans (size_setCell _ _ _)
section
variable {α : Type} {E : Lay α} {sz : Nat} {t : TypeId} {w w' : World} {B : Nat} {xs : List α} {j : Nat}
theorem OwnSt.later (h : OwnSt E sz t w B xs j) (G : Good E sz) (hb : Below w.heap.size w w') : OwnSt E sz t w' B xs j := by
  obtain ⟨⟨cur, h1, h2⟩, h3⟩ := h
  refine ⟨⟨cur, by rw [hb.block _ (blk_lt h1)]; exact h1, h2⟩, fun i x hi hx => ?_⟩
  exact G.move (h3 i x hi hx) (fun b h => ⟨h.1, Nat.lt_of_lt_of_le h.2 hb.size⟩) (.of_below hb) fun k _ v hv => cell_later hb hv
theorem OwnSt.start (xs : List α) (c : Array Value) (hc : c.size = xs.length * sz) : OwnSt E sz t (w.alloc (.cells c t)) w.heap.size xs 0 :=
  ⟨⟨c, heap_alloc_new w _, hc⟩, fun i x hi _ => by omega⟩
theorem OwnSt.step {x : α} {vs : List Value} (h : OwnSt E sz t w B xs j) (G : Good E sz) (hx : xs[j]? = some x) (hl : vs.length = sz) (hE : E (fun b => B < b ∧ b < w.heap.size) w (fun k => vs[k]?) x) : OwnSt E sz t (w.setCells B (j * sz) vs) B xs (j + 1) := by
  obtain ⟨⟨cur, h1, h2⟩, h3⟩ := h
  have hj := lt_of_get hx
  have hK : Keeps (fun b => B < b ∧ b < w.heap.size) w (w.setCells B (j * sz) vs) := Keeps.of_block fun b hb _ => setCells_else (by omega) _ _ _
  refine ⟨setCells_block vs _ w ⟨cur, h1, h2⟩, fun i y hi hy => ?_⟩
  have hz := setCells_size (B := B) vs (j * sz) w
  have hin : j * sz + sz ≤ xs.length * sz := by
    have := Nat.mul_le_mul_right sz (show j + 1 ≤ xs.length by omega)
    rw [Nat.add_mul] at this; omega
  by_cases hij : i = j
  · subst hij
    rw [hx] at hy
    cases hy
    refine G.move hE (fun b h => ⟨h.1, by rw [hz]; exact h.2⟩) hK fun k hk v hv => ?_
    have := World.cell?_setCells_in B vs (i * sz) w (fun q hq => by rw [cell_of_row _ _ _ _ _ _ h1]; simp; omega) k (by omega)
    rw [this]
    rw [List.getElem?_eq_getElem (by omega)] at hv
    exact hv
  · refine G.move (h3 i y (by omega) hy) (fun b h => ⟨h.1, by rw [hz]; exact h.2⟩) hK fun k hk v hv => ?_
    rw [World.cell?_setCells_out B vs (j * sz) w _ (fun _ _ => Or.inl ?_)]
    · exact hv
    · have := Nat.mul_le_mul_right sz (show i + 1 ≤ j by omega)
      rw [Nat.add_mul] at this
      simp
      omega
theorem OwnSt.row {bytes : Nat} (h : OwnSt E sz t w B xs xs.length) (G : Good E sz) (hb : xs.length * bytes ≤ 140737488351232) (hp : 0 < bytes) : IsRow E sz bytes (fun b => B ≤ b ∧ b < w.heap.size) w (.slice (some ⟨B, 0, none⟩) xs.length xs.length) xs := by
  obtain ⟨⟨cur, h1, h2⟩, h3⟩ := h
  have hn : xs.length ≤ xs.length * bytes := Nat.le_mul_of_pos_right _ hp
  refine ⟨_, _, rfl, Nat.le_refl _, by unfold maxLen; omega, hb, fun i x hx => ⟨B, 0, rfl, ⟨Nat.le_refl _, blk_lt h1⟩, ?_⟩⟩
  exact G.move (h3 i x (lt_of_get hx) hx) (fun b h => ⟨by omega, h.2⟩) (.refl _ _) fun k _ v hv => by rw [Nat.zero_add]; exact hv
/-- Its cells. -/
theorem OwnSt.cells (h : OwnSt E sz t w B xs xs.length) (G : Good E sz) : ∃ cur : Array Value, w.heap[B]? = some (.cells cur t (0, 0)) ∧ Cells E sz (fun b => B < b ∧ b < w.heap.size) w cur.toList xs := by
  obtain ⟨⟨cur, h1, h2⟩, h3⟩ := h
  refine ⟨cur, h1, by simpa using h2, fun i x hx => ?_⟩
  exact G.move (h3 i x (lt_of_get hx) hx) (fun b h => h) (.refl _ _) fun k _ v hv => by rw [cell_of_row _ _ _ _ _ _ h1] at hv; simpa using hv
end

end Go.Proofs.Ytfdonemehiamjaa
/- Own: a copy of a world. -/
namespace Go.Proofs.Ytfdonemehiamjaa
open Go.ChangeShapes Go.WideShapes Go.ChangeAt Go.RowKit
set_option linter.unusedSimpArgs false
set_option linter.unusedVariables false

abbrev WV (cv hv : Value) (e : Int) : Value := .agg #[cv, hv, .int .i64 e]

/-- A class as it was copied: its methods' row at block g, all that it reaches in blocks from lo on, below hi. -/
def OwnK (w : World) (B i lo hi : Nat) (x : QC) : Prop :=
  w.cell? ⟨B, i * 4, none⟩ = some (.string x.name) ∧ w.cell? ⟨B, i * 4 + 1, none⟩ = some (.int .i64 x.super) ∧ w.cell? ⟨B, i * 4 + 2, none⟩ = some (.int .i64 x.slots) ∧ x.name.size ≤ 140737488351232 ∧
    ∃ g, w.cell? ⟨B, i * 4 + 3, none⟩ = some (.slice (some ⟨g, 0, none⟩) x.methods.length x.methods.length) ∧ lo ≤ g ∧ g < hi ∧ x.methods.length * 64 ≤ 140737488351232 ∧
      ∃ cur : Array Value, w.heap[g]? = some (.cells cur 54 (0, 0)) ∧ Cells MethC 5 (fun b => g < b ∧ b < hi) w cur.toList x.methods
/-- So many classes are copied into the row at block B. -/
def OwnC (w : World) (B : Nat) (xs : List QC) (s : Nat → Nat) (j : Nat) : Prop :=
  (∃ cur : Array Value, w.heap[B]? = some (.cells cur 49 (0, 0)) ∧ cur.size = xs.length * 4) ∧ B < s 0 ∧ (∀ i, i < j → s i ≤ s (i + 1)) ∧ s j ≤ w.heap.size ∧
    ∀ i x, i < j → xs[i]? = some x → OwnK w B i (s i) (s (i + 1)) x

theorem OwnK.later {w w' : World} {B i lo hi : Nat} {x : QC} (h : OwnK w B i lo hi x) (hb : Below w.heap.size w w') : OwnK w' B i lo hi x := by
  obtain ⟨h0, h1, h2, h3, g, h4, h5, h6, h7, cur, h8, h9⟩ := h
  exact ⟨cell_later hb h0, cell_later hb h1, cell_later hb h2, h3, g, cell_later hb h4, h5, h6, h7, cur, by rw [hb.block _ (blk_lt h8)]; exact h8, h9.later goodM hb⟩
theorem OwnC.later {w w' : World} {B : Nat} {xs : List QC} {s : Nat → Nat} {j : Nat} (h : OwnC w B xs s j) (hb : Below w.heap.size w w') : OwnC w' B xs s j := by
  obtain ⟨⟨cur, h1, h2⟩, h3, h4, h5, h6⟩ := h
  exact ⟨⟨cur, by rw [hb.block _ (blk_lt h1)]; exact h1, h2⟩, h3, h4, Nat.le_trans h5 hb.size, fun i x hi hx => (h6 i x hi hx).later hb⟩
theorem OwnC.step {w : World} {B : Nat} {xs : List QC} {s : Nat → Nat} {j g : Nat} {x : QC} (h : OwnC w B xs s j) (hx : xs[j]? = some x) (hn : x.name.size ≤ 140737488351232) (hg : s j ≤ g) (hM : OwnSt MethC 5 54 w g x.methods x.methods.length) (hby : x.methods.length * 64 ≤ 140737488351232) :
    ∃ s', OwnC (w.setCells B (j * 4) [.string x.name, .int .i64 x.super, .int .i64 x.slots, .slice (some ⟨g, 0, none⟩) x.methods.length x.methods.length]) B xs s' (j + 1) := by
  obtain ⟨⟨cur, h1, h2⟩, h3, h4, h5, h6⟩ := h
  have hj := lt_of_get hx
  obtain ⟨curg, hc1, hc2⟩ := hM.cells goodM
  have hgl := blk_lt hc1
  have hsm : ∀ i, i ≤ j → s 0 ≤ s i := fun i => by
    induction i with
    | zero => intro _; exact Nat.le_refl _
    | succ n ih => intro hi; exact Nat.le_trans (ih (by omega)) (h4 n (by omega))
  have hBj := hsm j (Nat.le_refl _)
  have hnn : ¬ (j + 1 ≤ j) := by omega
  refine ⟨fun i => if i ≤ j then s i else w.heap.size, setCells_block _ _ w ⟨cur, h1, h2⟩, by simpa using h3, ?_, ?_, ?_⟩
  · intro i hi
    by_cases hij : i = j
    · subst hij; simp [hnn]; exact h5
    · have h1 : i ≤ j := by omega
      have h2 : i + 1 ≤ j := by omega
      simp only [h1, h2, if_true]
      exact h4 i (by omega)
  · simp [setCells_size, hnn]
  · intro i y hi hy
    have hin : j * 4 + 4 ≤ xs.length * 4 := by omega
    by_cases hij : i = j
    · subst hij
      rw [hx] at hy
      cases hy
      have hc := fun k (hk : k < 4) => World.cell?_setCells_in B [.string x.name, .int .i64 x.super, .int .i64 x.slots, .slice (some ⟨g, 0, none⟩) x.methods.length x.methods.length] (i * 4) w (fun q hq => by rw [cell_of_row _ _ _ _ _ _ h1]; simp at hq ⊢; omega) k hk
      refine ⟨hc 0 (by omega), hc 1 (by omega), hc 2 (by omega), hn, g, hc 3 (by omega), by simpa using hg, by simpa [hnn] using hgl, hby, curg, ?_, ?_⟩
      · rw [setCells_else (by omega)]; exact hc1
      · refine hc2.keep goodM (Keeps.of_block fun b hb _ => setCells_else (by have := hb.1; omega) _ _ _) fun b hb => ⟨hb.1, by simpa [hnn] using hb.2⟩
    · obtain ⟨e0, e1, e2, e3, g', e4, e5, e6, e7, cur', e8, e9⟩ := h6 i y (by omega) hy
      have hi1 : i ≤ j := by omega
      have hi2 : i + 1 ≤ j := by omega
      have hs0 := hsm i hi1
      simp only [hi1, hi2, if_true]
      have ho := fun k (hk : k < 4) => World.cell?_setCells_out B [.string x.name, .int .i64 x.super, .int .i64 x.slots, .slice (some ⟨g, 0, none⟩) x.methods.length x.methods.length] (j * 4) w ⟨B, i * 4 + k, none⟩ (fun _ _ => Or.inl (by simp; omega))
      refine ⟨(ho 0 (by omega)).trans e0, (ho 1 (by omega)).trans e1, (ho 2 (by omega)).trans e2, e3, g', (ho 3 (by omega)).trans e4, e5, e6, e7, cur', ?_, ?_⟩
      · rw [setCells_else (by omega)]; exact e8
      · exact e9.keep goodM (Keeps.of_block fun b hb _ => setCells_else (by have := hb.1; omega) _ _ _) fun b hb => hb
theorem OwnC.mono {w : World} {B : Nat} {xs : List QC} {s : Nat → Nat} {n : Nat} (h : OwnC w B xs s n) : ∀ i j, i ≤ j → j ≤ n → s i ≤ s j := fun i j hij hj => by
  obtain ⟨-, -, h4, -, -⟩ := h
  obtain ⟨d, rfl⟩ : ∃ d, j = i + d := ⟨j - i, by omega⟩
  clear hij
  induction d with
  | zero => exact Nat.le_refl _
  | succ d ih => exact Nat.le_trans (ih (by omega)) (h4 (i + d) (by omega))
theorem OwnK.meths {w : World} {B i lo hi : Nat} {x : QC} (h : OwnK w B i lo hi x) : ∃ g, w.cell? ⟨B, i * 4 + 3, none⟩ = some (.slice (some ⟨g, 0, none⟩) x.methods.length x.methods.length) ∧ lo ≤ g ∧ IsMeths (fun b => lo ≤ b ∧ b < hi) w (.slice (some ⟨g, 0, none⟩) x.methods.length x.methods.length) x.methods := by
  obtain ⟨h0, h1, h2, h3, g, h4, h5, h6, h7, cur, h8, h9⟩ := h
  refine ⟨g, h4, h5, Cells.row (h9.keep goodM (.refl _ _) fun b hb => ⟨by have := hb.1; omega, hb.2⟩) goodM ⟨h5, h6⟩ h8 ?_ (Nat.le_refl _) (by unfold maxLen; omega) h7⟩
  rw [List.take_of_length_le]
  rw [h9.1]
  exact Nat.le_refl _
theorem OwnC.row {w : World} {B : Nat} {xs : List QC} {s : Nat → Nat} (h : OwnC w B xs s xs.length) (hby : xs.length * 56 ≤ 140737488351232) : IsClasses (fun b => B ≤ b ∧ b < w.heap.size) w (.slice (some ⟨B, 0, none⟩) xs.length xs.length) xs := by
  refine ⟨_, _, rfl, Nat.le_refl _, by unfold maxLen; omega, hby, fun i x hx => ⟨B, 0, rfl, ⟨Nat.le_refl _, by obtain ⟨⟨c, hc, -⟩, -⟩ := h; exact blk_lt hc⟩, ?_⟩⟩
  have hi := lt_of_get hx
  have hn := h.mono (i + 1) xs.length (by omega) (Nat.le_refl _)
  have hw := h.2.2.2.1
  have hk := h.2.2.2.2 i x hi hx
  have hm := h.mono 0 i (by omega) (by omega)
  have hB := h.2.1
  obtain ⟨g, hg, hlo, hM⟩ := hk.meths
  obtain ⟨h0, h1, h2, h3, -⟩ := hk
  simp only [Nat.zero_add]
  exact ⟨h0, h1, h2, h3, _, hg, hM.mono goodM fun b hb => ⟨by have := hb.1; omega, by have := hb.2; omega⟩⟩
theorem OwnC.start (w : World) (xs : List QC) (c : Array Value) (hc : c.size = xs.length * 4) : OwnC (w.alloc (.cells c 49)) w.heap.size xs (fun _ => w.heap.size + 1) 0 :=
  ⟨⟨c, heap_alloc_new w _, hc⟩, by simp, fun i hi => by omega, by simp, fun i x hi _ => by omega⟩

theorem OwnK.set {w : World} {B i lo hi d : Nat} {x : QC} (h : OwnK w B i lo hi x) (hd : d ≠ B) (hh : hi ≤ d) (o : Nat) (v : Value) : OwnK (w.setCell ⟨d, o, none⟩ v) B i lo hi x := by
  obtain ⟨h0, h1, h2, h3, g, h4, h5, h6, h7, cur, h8, h9⟩ := h
  have k := fun (o' : Nat) => World.cell?_setCell_far w ⟨d, o, none⟩ ⟨B, o', none⟩ v hd
  refine ⟨(k _).trans h0, (k _).trans h1, (k _).trans h2, h3, g, (k _).trans h4, h5, h6, h7, cur, by rw [setCell_else (by omega)]; exact h8, h9.keep goodM (Keeps.of_setCell (fun hp => ?_) _) fun _ h => h⟩
  have := hp.2
  simp at this
  omega
theorem OwnC.set {w : World} {B d : Nat} {xs : List QC} {s : Nat → Nat} {j : Nat} (h : OwnC w B xs s j) (hd : s j ≤ d) (o : Nat) (v : Value) : OwnC (w.setCell ⟨d, o, none⟩ v) B xs s j := by
  have hm := h.mono
  obtain ⟨⟨cur, h1, h2⟩, h3, h4, h5, h6⟩ := h
  have h0 := hm 0 j (by omega) (Nat.le_refl _)
  refine ⟨⟨cur, by rw [setCell_else (by omega)]; exact h1, h2⟩, h3, h4, by simpa using h5, fun i x hi hx => (h6 i x hi hx).set (by omega) ?_ o v⟩
  have := hm (i + 1) j (by omega) (Nat.le_refl _)
  omega
theorem OwnC.setLow {w : World} {B d : Nat} {xs : List QC} {s : Nat → Nat} {j : Nat} (h : OwnC w B xs s j) (hd : d < B) (o : Nat) (v : Value) : OwnC (w.setCell ⟨d, o, none⟩ v) B xs s j := by
  have hm := h.mono
  obtain ⟨⟨cur, h1, h2⟩, h3, h4, h5, h6⟩ := h
  refine ⟨⟨cur, by rw [setCell_else (by omega)]; exact h1, h2⟩, h3, h4, by simpa using h5, fun i x hi hx => ?_⟩
  have h0 := hm 0 i (by omega) (by omega)
  obtain ⟨h0, h1, h2, h3, g, h4, h5, h6, h7, cur, h8, h9⟩ := h6 i x hi hx
  have k := fun (o' : Nat) => World.cell?_setCell_far w ⟨d, o, none⟩ ⟨B, o', none⟩ v (by simp; omega)
  refine ⟨(k _).trans h0, (k _).trans h1, (k _).trans h2, h3, g, (k _).trans h4, h5, h6, h7, cur, by rw [setCell_else (by omega)]; exact h8, h9.keep goodM (Keeps.of_setCell (fun hp => ?_) _) fun _ h => h⟩
  have := hp.1
  simp at this
  omega
theorem OwnSt.set {α : Type} {E : Lay α} {sz : Nat} {t : TypeId} {w : World} {B d : Nat} {xs : List α} {j : Nat} (h : OwnSt E sz t w B xs j) (G : Good E sz) (hd : d < B) (o : Nat) (v : Value) : OwnSt E sz t (w.setCell ⟨d, o, none⟩ v) B xs j := by
  obtain ⟨⟨cur, h1, h2⟩, h3⟩ := h
  refine ⟨⟨cur, by rw [setCell_else (by omega)]; exact h1, h2⟩, fun i x hi hx => G.move (h3 i x hi hx) (fun b h => by simpa using h) (Keeps.of_setCell (fun hp => ?_) _) fun k _ u hu => ?_⟩
  · have := hp.1; simp at this; omega
  · rw [World.cell?_setCell_far _ _ _ _ (by simp; omega)]; exact hu

theorem IsRow.blkCells {α : Type} {E : Lay α} {sz bytes : Nat} {P : Nat → Prop} {w : World} {g n cap : Nat} {xs : List α} (h : IsRow E sz bytes P w (.slice (some ⟨g, 0, none⟩) n cap) xs) (G : Good E sz) {t : TypeId} {fr : Nat × Nat} {cur : Array Value} (hg : w.heap[g]? = some (.cells cur t fr)) (hl : cur.size = xs.length * sz) : Cells E sz P w cur.toList xs := by
  obtain ⟨ad, cap', e, -, -, -, hr⟩ := h
  simp only [Value.slice.injEq] at e
  obtain ⟨rfl, -, rfl⟩ := e
  refine ⟨by simpa using hl, fun i x hx => ?_⟩
  obtain ⟨b, o, e, -, hE⟩ := hr i x hx
  cases e
  exact G.move hE (fun _ h => h) (.refl _ _) fun k _ v hv => by rw [cell_of_row _ _ _ _ _ _ hg, Nat.zero_add] at hv; simpa using hv

end Go.Proofs.Ytfdonemehiamjaa
/- Looking through rows: has, IndexFunc, numberOf, placeOf. -/
namespace Go.Proofs.Ytfdonemehiamjaa
open Go.ChangeShapes Go.WideShapes Go.ChangeAt Go.RowKit
set_option linter.unusedSimpArgs false
set_option linter.unusedVariables false

/-- Whether c is a number below n. -/
def hasB (n : Nat) (c : Int) : Bool := decide (0 ≤ c ∧ c < n)

set_option maxHeartbeats 400000 in
theorem has_any (n : Nat) (c : Int) (ad : Option Addr) (cap : Nat) (ah : Option Addr) (nh ch : Nat) (ep : Int) (w : World) : Calls Try.prog 58 #[WV (.slice ad n cap) (.slice ah nh ch) ep, .int .i64 c] w fun e w' => e = .returned (.bool (hasB n c)) ∧ Below w.heap.size w w' := by
  by_cases h0 : 0 ≤ c
  · go_enter Try.func58, Try.ntmps58
    go_wp2
    go_ret
    exact ⟨ret_b (by simp [hasB, h0]), bel1 _ _⟩
  · have h0' : c < 0 := by omega
    have hd : decide (0 ≤ c) = false := by simpa using h0
    go_enter Try.func58, Try.ntmps58
    go_wp2
    go_ret
    exact ⟨ret_b (by simp [hasB]; omega), bel1 _ _⟩

/-- The place of the first one of which p tells true, or -1. -/
def findI {α : Type} (p : α → Bool) (xs : List α) : Int := ((xs.findIdx? p).map Int.ofNat).getD (-1)
theorem findI_at {α : Type} {p : α → Bool} {xs : List α} {j : Nat} {x : α} (hx : xs[j]? = some x) (hp : p x = true) (h : ∀ i y, i < j → xs[i]? = some y → p y = false) : findI p xs = (j : Int) := by
  have : xs.findIdx? p = some j := by
    rw [List.findIdx?_eq_some_iff_getElem]
    have hj := lt_of_get hx
    refine ⟨hj, ?_, fun i hi => ?_⟩
    · rw [List.getElem?_eq_getElem hj] at hx; cases hx; exact hp
    · have := h i xs[i] hi (by simp)
      simp [this]
  simp [findI, this]
theorem findI_none {α : Type} {p : α → Bool} {xs : List α} (h : ∀ (i : Nat) y, xs[i]? = some y → p y = false) : findI p xs = -1 := by
  have : xs.findIdx? p = none := by
    rw [List.findIdx?_eq_none_iff]
    intro y hy
    obtain ⟨i, hi, rfl⟩ := List.mem_iff_getElem.1 hy
    exact h i _ (by simp)
  simp [findI, this]

/-- Names are told apart by their bytes. -/
def eqN (a b : ByteArray) : Bool := a.toList == b.toList
def gtN (a b : ByteArray) : Bool := !Op.bytesLess a.toList b.toList && !a.toList == b.toList
/-- A class's value. -/
abbrev CV (x : QC) (mv : Value) : Value := .agg #[.string x.name, .int .i64 x.super, .int .i64 x.slots, mv]

set_option maxHeartbeats 1000000 in
theorem index40_any {P : Nat → Prop} (cap' : Value) (p : QM → Bool) (xs : List QM) (v : Value) (w : World) (hh : IsMeths P w v xs)
    (hF : ∀ (x : QM) (a : Option Addr) (n c : Nat) (w' : World), Below w.heap.size w w' → Calls Try.prog 60 #[MV x (.slice a n c), cap'] w' fun e w'' => e = .returned (.bool (p x)) ∧ Below w'.heap.size w' w'') :
    Calls Try.prog 59 #[v, .func (.func 60) #[] #[cap']] w fun e w' => e = .returned (.int .i64 (findI p xs)) ∧ Below w.heap.size w w' := by
  obtain ⟨ad, cap, rfl, hl, hcap, hby, hrow⟩ := hh
  go_enter Try.func59, Try.ntmps59
  go_wp2
  go_loopg [8] xs.length (fun g c wr => ∃ j : Nat, j + g = xs.length ∧ c = .int .i64 j ∧ Below w.heap.size w wr ∧ ∀ i y, i < j → xs[i]? = some y → p y = false)
  case atStart => exact ⟨0, by omega, rfl, Below.refl _ _, fun i y hi => by omega⟩
  case round =>
    obtain ⟨j, hj, rfl, hbel, hno⟩ := hrel
    have HN : Hid (∀ i y, i < j → xs[i]? = some y → p y = false) := hno
    clear hno
    by_cases hlt : j < xs.length
    · obtain ⟨b, o, rfl, -, hv0, hv1, hv2, hv3, hsz, sv, hv4, hsl⟩ := hrow j xs[j] (by simp [hlt])
      have hxj : Hid (xs[j]? = some xs[j]) := by show _ = _; simp [hlt]
      generalize xs[j] = x at *
      simp only [Nat.add_zero] at hv0
      have u0 := cell_later hbel hv0
      have u1 := cell_later hbel hv1
      have u2 := cell_later hbel hv2
      have u3 := cell_later hbel hv3
      have u4 := cell_later hbel hv4
      obtain ⟨ad2, cap2, rfl, -, -, -, -⟩ := id hsl
      clear hv0 hv1 hv2 hv3 hv4 hsl hrow
      have hj1 : (j : Int) < (xs.length : Int) := by omega
      have hj0 : (0 : Int) ≤ (j : Int) := by omega
      go_wp2_with fail
      refine (hF x ad2 x.code.length cap2 _ hbel).mono ?_
      rintro e w1 ⟨rfl, hb⟩
      by_cases hp : p x = true
      · go_wp2
        go_ret
        exact ⟨ret_i (findI_at hxj.out hp HN.out).symm, nstep hbel hb⟩
      · have hp' : p x = false := by simpa using hp
        clear hp
        go_wp2
        go_roundg (gk - 1)
        case measure => omega
        case rel =>
          refine ⟨j + 1, by omega, by go_num, nstep hbel hb, fun i y hi hy => ?_⟩
          by_cases hij : i = j
          · subst hij; rw [hxj.out] at hy; cases hy; exact hp'
          · exact HN.out i y (by omega) hy
    · obtain rfl : j = xs.length := by omega
      go_wp2
      go_ret
      exact ⟨ret_i (findI_none fun i y hy => HN.out i y (lt_of_get hy) hy).symm, hbel⟩

theorem eqName_any (x : QM) (a : Option Addr) (n c b : Nat) (name : ByteArray) (w : World) (hc : w.cell? ⟨b, 0, none⟩ = some (.string name)) : Calls Try.prog 60 #[MV x (.slice a n c), .pointer (some ⟨b, 0, none⟩)] w fun e w' => e = .returned (.bool (eqN x.name name)) ∧ Below w.heap.size w w' := by
  have k := fun y => cell_later (bel1 w y) hc
  go_enter Try.func60, Try.ntmps60
  go_wp2
  go_ret
  exact ⟨ret_b rfl, bel1 _ _⟩
theorem hmf (fn : Fn) (first cap : Array Value) (w : World) : (Instr.makeFunc fn first cap).run Try.prog w = .ok (.func fn first cap) w := rfl

/-- The number of the method of that name, or -1. -/
def numI (xs : List QM) (name : ByteArray) : Int := findI (fun m => eqN m.name name) xs
theorem numberOf_any {P : Nat → Prop} (xs : List QM) (v : Value) (name : ByteArray) (w : World) (hh : IsMeths P w v xs) : Calls Try.prog 45 #[v, .string name] w fun e w' => e = .returned (.int .i64 (numI xs name)) ∧ Below w.heap.size w w' := by
  have hm := hmf
  go_enter Try.func45, Try.ntmps45
  go_wp2_with fail
  refine (index40_any _ (fun m => eqN m.name name) xs v _ (hh.later goodM (bel1 _ _)) fun x a n c w' hb => eqName_any x a n c _ name w' (cell_later hb (by rw [cell_new _ _ _ _ rfl]; rfl))).mono ?_
  rintro e w1 ⟨rfl, hb⟩
  go_wp2
  go_ret
  exact ⟨rfl, nstep1 (Below.refl _ _) hb⟩
/-- Where a method of a new name must stand. -/
def placeI (xs : List QM) (name : ByteArray) : Int := if findI (fun m => gtN m.name name) xs < 0 then xs.length else findI (fun m => gtN m.name name) xs
end Go.Proofs.Ytfdonemehiamjaa
