/- Worlds as they lie in memory: instructions, methods, classes, values, objects. -/
import Derived.Test.YtjmidhghiahbaaaGreatDoorRows
import Derived.WalkKit
import Derived.ProofKit
import Derived.OpenShut
import Derived.Below
import Derived.WalkSpells
import Derived.WalkLawsBesides
import Derived.BigQuiet
import Derived.Deep.RegionHeld3
import Derived.Deep.Light
import Derived.Deep.LoopGhost
import Derived.Deep.DeepCutAuto
namespace Go.Proofs.YtjmidhghiahbaaaGreatDoor
open Go.ChangeShapes Go.WideShapes Go.ChangeAt Go.RowKit
set_option linter.unusedSimpArgs false
set_option linter.unusedVariables false

theorem bcell {W w1 : World} (hb : Below W.heap.size W w1) : (∀ b o, b < W.heap.size → w1.cell? ⟨b, o, none⟩ = W.cell? ⟨b, o, none⟩) ∧ (∀ b o, b < W.heap.size → w1.frozen? ⟨b, o, none⟩ = W.frozen? ⟨b, o, none⟩) :=
  ⟨fun b o h => hb.cell (p := ⟨b, o, none⟩) h, fun b o h => hb.frozen (p := ⟨b, o, none⟩) h⟩
theorem bel1 (w : World) (a : Obj) : Below w.heap.size w (w.alloc a) := (Below.refl _ _).alloc (Nat.le_refl _) _
theorem bel2 (w : World) (a b : Obj) : Below w.heap.size w ((w.alloc a).alloc b) := (bel1 _ _).alloc (by simp) _
theorem bel3 (w : World) (a b c : Obj) : Below w.heap.size w (((w.alloc a).alloc b).alloc c) := (bel2 _ _ _).alloc (by simp; omega) _
theorem nstep {w W w' : World} (h : Below w.heap.size w W) (k : Below W.heap.size W w') : Below w.heap.size w w' := h.trans (k.mono h.size)
theorem nstep1 {w W w' : World} {X : Obj} (h : Below w.heap.size w W) (k : Below (W.alloc X).heap.size (W.alloc X) w') : Below w.heap.size w w' := nstep (h.alloc h.size _) k
theorem blk_lt {w : World} {g : Nat} {x : Obj} (h : w.heap[g]? = some x) : g < w.heap.size := (Array.getElem?_eq_some_iff.1 h).1
theorem lt_of_get {α : Type} {l : List α} {i : Nat} {x : α} (h : l[i]? = some x) : i < l.length := by
  rcases Nat.lt_or_ge i l.length with h' | h'
  · exact h'
  · rw [List.getElem?_eq_none h'] at h; cases h
theorem ret_i {a b : Int} (h : a = b) : Ending.returned (.int .i64 a) = .returned (.int .i64 b) := by rw [h]
theorem ret_b {a b : Bool} (h : a = b) : Ending.returned (.bool a) = .returned (.bool b) := by rw [h]
theorem cell_new (w : World) (cs : Array Value) (t : TypeId) (n : Nat) (hn : w.heap.size = n) (j : Nat) : (w.alloc (.cells cs t)).cell? ⟨n, j, none⟩ = cs[j]? := by
  subst hn
  exact cell_of_row _ _ _ _ _ _ (heap_alloc_new w _)


structure QV where
  k : Int
  n : Int
structure QO where
  cls : Int
  slots : List QV
structure QI where
  op : Int
  a : Int
  b : Int
  c : Int
  name : ByteArray
structure QM where
  name : ByteArray
  args : Int
  temps : Int
  prim : Int
  code : List QI
structure QC where
  name : ByteArray
  super : Int
  slots : Int
  methods : List QM
structure QW where
  classes : List QC
  heap : List QO
  epoch : Int

/-- All cells of blocks that P names and that are there in w are there in w', too. -/
def Keeps (P : Nat → Prop) (w w' : World) : Prop := ∀ b o v, P b → w.cell? ⟨b, o, none⟩ = some v → w'.cell? ⟨b, o, none⟩ = some v
theorem Keeps.of_below {P : Nat → Prop} {w w' : World} (hb : Below w.heap.size w w') : Keeps P w w' := fun b o v _ h => cell_later hb h
theorem Keeps.of_setCell {P : Nat → Prop} {w : World} {a : Addr} (ha : ¬ P a.block) (u : Value) : Keeps P w (w.setCell a u) := fun b o v hl h => by
  rw [World.cell?_setCell_other _ _ _ _ (by intro e; subst e; exact ha hl)]; exact h
theorem Keeps.trans {P : Nat → Prop} {w w' w'' : World} (h : Keeps P w w') (k : Keeps P w' w'') : Keeps P w w'' := fun b o v hl hc => k b o v hl (h b o v hl hc)
theorem Keeps.mono {P Q : Nat → Prop} {w w' : World} (h : Keeps P w w') (hl : ∀ b, Q b → P b) : Keeps Q w w' := fun b o v hb hc => h b o v (hl _ hb) hc
theorem Keeps.refl (P : Nat → Prop) (w : World) : Keeps P w w := fun _ _ _ _ h => h
theorem Keeps.of_block {P : Nat → Prop} {w w' : World} (h : ∀ b, P b → b < w.heap.size → w'.heap[b]? = w.heap[b]?) : Keeps P w w' := fun b o v hp hc => by
  have hl := World.block_lt_of_cell? w ⟨b, o, none⟩ hc
  unfold World.cell? at hc ⊢
  rw [h b hp hl]
  exact hc

/-- What is said of an element's cells (f k: the one at place k), of which there are sz. -/
abbrev Lay (α : Type) := (Nat → Prop) → World → (Nat → Option Value) → α → Prop
/-- It hangs on those cells, and on blocks that P names. -/
structure Good {α : Type} (E : Lay α) (sz : Nat) : Prop where
  move : ∀ {P Q : Nat → Prop} {w w' : World} {f f' : Nat → Option Value} {x : α}, E P w f x → (∀ b, P b → Q b) → Keeps P w w' → (∀ k, k < sz → ∀ v, f k = some v → f' k = some v) → E Q w' f' x
  there : ∀ {P : Nat → Prop} {w : World} {f : Nat → Option Value} {x : α}, E P w f x → ∀ k, k < sz → ∃ u, f k = some u ∧ u.oneCell' = true
  pos : 0 < sz

def RowAt {α : Type} (E : Lay α) (sz : Nat) (P : Nat → Prop) (w : World) (ad : Option Addr) (xs : List α) : Prop :=
  ∀ i x, xs[i]? = some x → ∃ b o, ad = some ⟨b, o, none⟩ ∧ P b ∧ E P w (fun k => w.cell? ⟨b, o + i * sz + k, none⟩) x
/-- A slice's value over such a row; bytes: of one element. -/
def IsRow {α : Type} (E : Lay α) (sz bytes : Nat) (P : Nat → Prop) (w : World) (v : Value) (xs : List α) : Prop :=
  ∃ ad cap, v = .slice ad xs.length cap ∧ xs.length ≤ cap ∧ cap ≤ maxLen ∧ xs.length * bytes ≤ 140737488351232 ∧ RowAt E sz P w ad xs

theorem RowAt.keep {α : Type} {E : Lay α} {sz : Nat} (G : Good E sz) {P Q : Nat → Prop} {w w' : World} {ad : Option Addr} {xs : List α} (h : RowAt E sz P w ad xs) (hk : Keeps P w w') (hl : ∀ b, P b → Q b) : RowAt E sz Q w' ad xs := fun i x hx => by
  obtain ⟨b, o, e1, e2, e3⟩ := h i x hx
  exact ⟨b, o, e1, hl _ e2, G.move e3 hl hk fun k _ v hv => hk _ _ _ e2 hv⟩
theorem IsRow.keep {α : Type} {E : Lay α} {sz bytes : Nat} (G : Good E sz) {P Q : Nat → Prop} {w w' : World} {v : Value} {xs : List α} (h : IsRow E sz bytes P w v xs) (hk : Keeps P w w') (hl : ∀ b, P b → Q b) : IsRow E sz bytes Q w' v xs := by
  obtain ⟨ad, cap, h1, h2, h3, h4, h5⟩ := h
  exact ⟨ad, cap, h1, h2, h3, h4, h5.keep G hk hl⟩

def InstrC : Lay QI := fun _ _ f x => f 0 = some (.int .i64 x.op) ∧ f 1 = some (.int .i64 x.a) ∧ f 2 = some (.int .i64 x.b) ∧ f 3 = some (.int .i64 x.c) ∧ f 4 = some (.string x.name) ∧ x.name.size ≤ 140737488351232
def ValC : Lay QV := fun _ _ f x => f 0 = some (.int .i64 x.k) ∧ f 1 = some (.int .i64 x.n)
abbrev IsCode := IsRow InstrC 5 48
abbrev IsVals := IsRow ValC 2 16
def MethC : Lay QM := fun P w f x => f 0 = some (.string x.name) ∧ f 1 = some (.int .i64 x.args) ∧ f 2 = some (.int .i64 x.temps) ∧ f 3 = some (.int .i64 x.prim) ∧ x.name.size ≤ 140737488351232 ∧ ∃ v, f 4 = some v ∧ IsCode P w v x.code
def ObjC : Lay QO := fun P w f x => f 0 = some (.int .i64 x.cls) ∧ ∃ v, f 1 = some v ∧ IsVals P w v x.slots
abbrev IsMeths := IsRow MethC 5 64
abbrev IsHeap := IsRow ObjC 2 32
def ClassC : Lay QC := fun P w f x => f 0 = some (.string x.name) ∧ f 1 = some (.int .i64 x.super) ∧ f 2 = some (.int .i64 x.slots) ∧ x.name.size ≤ 140737488351232 ∧ ∃ v, f 3 = some v ∧ IsMeths P w v x.methods
abbrev IsClasses := IsRow ClassC 4 56

theorem isRow_one {α : Type} {E : Lay α} {sz bytes : Nat} {P : Nat → Prop} {w : World} {v : Value} {xs : List α} (h : IsRow E sz bytes P w v xs) : v.oneCell' = true := by
  obtain ⟨ad, cap, rfl, -⟩ := h; rfl

theorem goodI : Good InstrC 5 where
  move h _ _ hf := ⟨hf 0 (by omega) _ h.1, hf 1 (by omega) _ h.2.1, hf 2 (by omega) _ h.2.2.1, hf 3 (by omega) _ h.2.2.2.1, hf 4 (by omega) _ h.2.2.2.2.1, h.2.2.2.2.2⟩
  there h k hk := by
    obtain ⟨h0, h1, h2, h3, h4, -⟩ := h
    match k, hk with
    | 0, _ => exact ⟨_, h0, rfl⟩
    | 1, _ => exact ⟨_, h1, rfl⟩
    | 2, _ => exact ⟨_, h2, rfl⟩
    | 3, _ => exact ⟨_, h3, rfl⟩
    | 4, _ => exact ⟨_, h4, rfl⟩
  pos := by omega
theorem goodV : Good ValC 2 where
  move h _ _ hf := ⟨hf 0 (by omega) _ h.1, hf 1 (by omega) _ h.2⟩
  there h k hk := by
    obtain ⟨h0, h1⟩ := h
    match k, hk with
    | 0, _ => exact ⟨_, h0, rfl⟩
    | 1, _ => exact ⟨_, h1, rfl⟩
  pos := by omega
theorem goodM : Good MethC 5 where
  move h hl hk hf := by
    obtain ⟨h0, h1, h2, h3, h4, v, h5, h6⟩ := h
    exact ⟨hf 0 (by omega) _ h0, hf 1 (by omega) _ h1, hf 2 (by omega) _ h2, hf 3 (by omega) _ h3, h4, v, hf 4 (by omega) _ h5, h6.keep goodI hk hl⟩
  there h k hk := by
    obtain ⟨h0, h1, h2, h3, h4, v, h5, h6⟩ := h
    match k, hk with
    | 0, _ => exact ⟨_, h0, rfl⟩
    | 1, _ => exact ⟨_, h1, rfl⟩
    | 2, _ => exact ⟨_, h2, rfl⟩
    | 3, _ => exact ⟨_, h3, rfl⟩
    | 4, _ => exact ⟨_, h5, isRow_one h6⟩
  pos := by omega
theorem goodO : Good ObjC 2 where
  move h hl hk hf := by
    obtain ⟨h0, v, h5, h6⟩ := h
    exact ⟨hf 0 (by omega) _ h0, v, hf 1 (by omega) _ h5, h6.keep goodV hk hl⟩
  there h k hk := by
    obtain ⟨h0, v, h5, h6⟩ := h
    match k, hk with
    | 0, _ => exact ⟨_, h0, rfl⟩
    | 1, _ => exact ⟨_, h5, isRow_one h6⟩
  pos := by omega
theorem goodC : Good ClassC 4 where
  move h hl hk hf := by
    obtain ⟨h0, h1, h2, h4, v, h5, h6⟩ := h
    exact ⟨hf 0 (by omega) _ h0, hf 1 (by omega) _ h1, hf 2 (by omega) _ h2, h4, v, hf 3 (by omega) _ h5, h6.keep goodM hk hl⟩
  there h k hk := by
    obtain ⟨h0, h1, h2, h4, v, h5, h6⟩ := h
    match k, hk with
    | 0, _ => exact ⟨_, h0, rfl⟩
    | 1, _ => exact ⟨_, h1, rfl⟩
    | 2, _ => exact ⟨_, h2, rfl⟩
    | 3, _ => exact ⟨_, h5, isRow_one h6⟩
  pos := by omega

section
variable {α : Type} {E : Lay α} {sz bytes : Nat} {P Q : Nat → Prop} {w w' : World} {v : Value} {xs : List α}
theorem IsRow.later (h : IsRow E sz bytes P w v xs) (G : Good E sz) (hb : Below w.heap.size w w') : IsRow E sz bytes P w' v xs := h.keep G (.of_below hb) fun _ h => h
theorem IsRow.mono (h : IsRow E sz bytes P w v xs) (G : Good E sz) (hl : ∀ b, P b → Q b) : IsRow E sz bytes Q w v xs := h.keep G (.refl _ _) hl
end

/-- A world's value. -/
def IsWorld (P : Nat → Prop) (w : World) (v : Value) (X : QW) : Prop := ∃ cv hv, v = .agg #[cv, hv, .int .i64 X.epoch] ∧ IsClasses P w cv X.classes ∧ IsHeap P w hv X.heap
theorem IsWorld.keep {P Q : Nat → Prop} {w w' : World} {v : Value} {X : QW} (h : IsWorld P w v X) (hk : Keeps P w w') (hl : ∀ b, P b → Q b) : IsWorld Q w' v X := by
  obtain ⟨cv, hv, rfl, h1, h2⟩ := h
  exact ⟨cv, hv, rfl, h1.keep goodC hk hl, h2.keep goodO hk hl⟩
theorem IsWorld.later {P : Nat → Prop} {w w' : World} {v : Value} {X : QW} (h : IsWorld P w v X) (hb : Below w.heap.size w w') : IsWorld P w' v X := h.keep (.of_below hb) fun _ h => h

/-- The cells cs are the elements xs. -/
def Cells {α : Type} (E : Lay α) (sz : Nat) (P : Nat → Prop) (w : World) (cs : List Value) (xs : List α) : Prop :=
  cs.length = xs.length * sz ∧ ∀ i x, xs[i]? = some x → E P w (fun k => cs[i * sz + k]?) x
section
variable {α : Type} {E : Lay α} {sz bytes : Nat} {P Q : Nat → Prop} {w w' : World} {cs : List Value} {xs : List α}
theorem Cells.keep (h : Cells E sz P w cs xs) (G : Good E sz) (hk : Keeps P w w') (hl : ∀ b, P b → Q b) : Cells E sz Q w' cs xs :=
  ⟨h.1, fun i x hx => G.move (h.2 i x hx) hl hk fun _ _ _ h => h⟩
theorem Cells.later (h : Cells E sz P w cs xs) (G : Good E sz) (hb : Below w.heap.size w w') : Cells E sz P w' cs xs := h.keep G (.of_below hb) fun _ h => h
theorem Cells.nil : Cells E sz P w [] ([] : List α) := ⟨by simp, fun i x hx => by simp at hx⟩
theorem Cells.append {ds : List Value} {ys : List α} (h : Cells E sz P w cs xs) (G : Good E sz) (k : Cells E sz P w ds ys) : Cells E sz P w (cs ++ ds) (xs ++ ys) := by
  have hl := h.1
  refine ⟨by rw [List.length_append, List.length_append, h.1, k.1, Nat.add_mul], fun i x hx => ?_⟩
  by_cases hi : i < xs.length
  · rw [List.getElem?_append_left hi] at hx
    refine G.move (h.2 i x hx) (fun _ h => h) (.refl _ _) fun k hk v hv => ?_
    have hlt := lt_of_get hv
    simp only [List.getElem?_append_left hlt]
    exact hv
  · rw [List.getElem?_append_right (by omega)] at hx
    refine G.move (k.2 _ x hx) (fun _ h => h) (.refl _ _) fun k hk v hv => ?_
    obtain ⟨d, rfl⟩ : ∃ d, i = xs.length + d := ⟨i - xs.length, by omega⟩
    simp only [Nat.add_sub_cancel_left] at hv
    rw [List.getElem?_append_right (by rw [hl, Nat.add_mul]; omega), hl, Nat.add_mul, show xs.length * sz + d * sz + k - xs.length * sz = d * sz + k by omega]
    exact hv
theorem Cells.one {x : α} (G : Good E sz) (h1 : cs.length = sz) (h : E P w (fun k => cs[k]?) x) : Cells E sz P w cs [x] := by
  refine ⟨by simpa using h1, fun i y hy => ?_⟩
  have hi := lt_of_get hy
  obtain rfl : i = 0 := by simpa using hi
  simp at hy
  subst hy
  refine G.move h (fun _ h => h) (.refl _ _) fun k hk v hv => by simpa using hv
theorem Cells.all (h : Cells E sz P w cs xs) (G : Good E sz) : ∀ u ∈ cs, u.oneCell' = true := by
  intro u hu
  obtain ⟨j, hj, rfl⟩ := List.mem_iff_getElem.1 hu
  have hp := G.pos
  have hl := h.1
  have h1 : j / sz < xs.length := by
    rw [Nat.div_lt_iff_lt_mul hp]; omega
  obtain ⟨v, hv, ho⟩ := G.there (h.2 (j / sz) xs[j / sz] (by simp [h1])) (j % sz) (Nat.mod_lt _ hp)
  rw [Nat.div_add_mod'] at hv
  rw [List.getElem?_eq_getElem hj] at hv
  cases hv
  exact ho
/-- The cells of a row. -/
theorem RowAt.cells {ad : Option Addr} (h : RowAt E sz P w ad xs) (G : Good E sz) : ∃ cs, Cells E sz P w cs xs ∧ ∀ j u, cs[j]? = some u → ∃ a, ad = some a ∧ w.cell? (a.add j) = some u := by
  have hp := G.pos
  cases xs with
  | nil => exact ⟨[], .nil, fun j u hu => by simp at hu⟩
  | cons y r =>
    obtain ⟨b, o, rfl, -⟩ := h 0 y rfl
    refine ⟨(List.range ((y :: r).length * sz)).map fun j => (w.cell? ⟨b, o + j, none⟩).getD undef, ⟨by simp, fun i x hx => ?_⟩, fun j u hu => ?_⟩
    · have hi := lt_of_get hx
      obtain ⟨b', o', e, -, h1⟩ := h i x hx
      cases e
      refine G.move h1 (fun _ h => h) (.refl _ _) fun k hk v hv => ?_
      have hlt : i * sz + k < (y :: r).length * sz := by
        have : i * sz + k < (i + 1) * sz := by rw [Nat.add_mul]; omega
        exact Nat.lt_of_lt_of_le this (Nat.mul_le_mul_right _ hi)
      rw [List.getElem?_map, List.getElem?_range hlt]
      rw [Nat.add_assoc] at hv
      simp [hv]
    · rw [List.getElem?_map] at hu
      have hj : j < (y :: r).length * sz := by
        rcases Nat.lt_or_ge j ((y :: r).length * sz) with h' | h'
        · exact h'
        · rw [List.getElem?_eq_none (by simpa using h')] at hu; simp at hu
      rw [List.getElem?_range hj] at hu
      refine ⟨_, rfl, ?_⟩
      rw [Addr.add_lit]
      have hjs : j / sz < (y :: r).length := by rw [Nat.div_lt_iff_lt_mul hp]; exact hj
      obtain ⟨b', o', e, -, h1⟩ := h (j / sz) ((y :: r)[j / sz]) (by simp)
      cases e
      obtain ⟨v, hv, -⟩ := G.there h1 (j % sz) (Nat.mod_lt _ hp)
      rw [Nat.add_assoc, Nat.div_add_mod'] at hv
      rw [hv]
      simpa [hv] using hu
/-- A row at the head of a block whose first cells are those. -/
theorem Cells.row {g cap : Nat} (h : Cells E sz P w cs xs) (G : Good E sz) (hP : P g) {t : TypeId} {fr : Nat × Nat} {cur : Array Value} (hg : w.heap[g]? = some (.cells cur t fr)) (hc : cur.toList.take (xs.length * sz) = cs) (h1 : xs.length ≤ cap) (h2 : cap ≤ maxLen) (h3 : xs.length * bytes ≤ 140737488351232) :
    IsRow E sz bytes P w (.slice (some ⟨g, 0, none⟩) xs.length cap) xs := by
  refine ⟨_, _, rfl, h1, h2, h3, fun i x hx => ⟨g, 0, rfl, hP, ?_⟩⟩
  refine G.move (h.2 i x hx) (fun _ h => h) (.refl _ _) fun k hk v hv => ?_
  have hlt := lt_of_get hv
  rw [cell_of_row w g _ _ _ _ hg, Nat.zero_add]
  subst hc
  rw [List.getElem?_take] at hv
  split at hv
  · simpa using hv
  · cases hv
end
end Go.Proofs.YtjmidhghiahbaaaGreatDoor
