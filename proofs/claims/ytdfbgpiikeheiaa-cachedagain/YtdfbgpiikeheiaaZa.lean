/- Who owns which block: a tag a block; what is kept. The machine's and a frame's memory. -/
import Derived.Test.YtdfbgpiikeheiaaYa
import Derived.Test.YtdfbgpiikeheiaaKc
import Derived.Test.YtdfbgpiikeheiaaKd
namespace Go.Proofs.Ytdfbgpiikeheiaa
open Go.ChangeShapes Go.WideShapes Go.ChangeAt Go.RowKit
set_option linter.unusedSimpArgs false
set_option linter.unusedVariables false
set_option maxRecDepth 8000

def vcells : List QV → List Value
  | [] => []
  | v :: r => .int .i64 v.k :: .int .i64 v.n :: vcells r
theorem vcells_len : ∀ q, (vcells q).length = q.length * 2
  | [] => rfl
  | p :: q => by simp [vcells, vcells_len q]; omega
theorem vcells_append : ∀ q r, vcells (q ++ r) = vcells q ++ vcells r
  | [], r => rfl
  | p :: q, r => by simp [vcells, vcells_append q r]
theorem vcells_get : ∀ {q : List QV} {i : Nat} {x : QV}, q[i]? = some x → (vcells q)[i * 2]? = some (.int .i64 x.k) ∧ (vcells q)[i * 2 + 1]? = some (.int .i64 x.n)
  | [], i, x, h => by simp at h
  | p :: q, 0, x, h => by simp at h; subst h; exact ⟨rfl, rfl⟩
  | p :: q, i + 1, x, h => by
    have := vcells_get (q := q) (i := i) (x := x) (by simpa using h)
    rw [show (i + 1) * 2 = i * 2 + 1 + 1 by omega]
    exact this
theorem vcells_set : ∀ (q : List QV) (i : Nat) (x : QV), ((vcells q).set (i * 2) (.int .i64 x.k)).set (i * 2 + 1) (.int .i64 x.n) = vcells (q.set i x)
  | [], i, x => by simp [vcells]
  | p :: q, 0, x => by simp [vcells]
  | p :: q, i + 1, x => by
    rw [show (i + 1) * 2 = i * 2 + 1 + 1 by omega]
    simp only [vcells, List.set_cons_succ]
    rw [vcells_set q i x]
theorem vcells_take : ∀ (q : List QV) (n : Nat), (vcells q).take (n * 2) = vcells (q.take n)
  | [], n => by simp [vcells]
  | p :: q, 0 => by simp [vcells]
  | p :: q, n + 1 => by
    rw [show (n + 1) * 2 = n * 2 + 1 + 1 by omega]
    simp only [vcells, List.take_succ_cons]
    rw [vcells_take q n]
theorem vcells_drop : ∀ (q : List QV) (n : Nat), (vcells q).drop (n * 2) = vcells (q.drop n)
  | [], n => by simp [vcells]
  | p :: q, 0 => by simp [vcells]
  | p :: q, n + 1 => by
    rw [show (n + 1) * 2 = n * 2 + 1 + 1 by omega]
    simp only [vcells, List.drop_succ_cons]
    exact vcells_drop q n
theorem vcells_rep : ∀ n, vcells (List.replicate n nilV) = List.replicate (n * 2) (.int .i64 0)
  | 0 => rfl
  | n + 1 => by
    rw [show (n + 1) * 2 = n * 2 + 1 + 1 by omega]
    simp only [List.replicate_succ, vcells]
    rw [vcells_rep n]
theorem vcells_one : ∀ (q : List QV), ∀ u ∈ vcells q, u.oneCell' = true
  | [], u, h => by simp [vcells] at h
  | p :: q, u, h => by
    simp only [vcells, List.mem_cons] at h
    rcases h with rfl | rfl | h
    · rfl
    · rfl
    · exact vcells_one q u h
theorem vcells_of_row {E : Unit} : ∀ {cs : List Value} {xs : List QV} {P : Nat → Prop} {w : World}, Cells ValC 2 P w cs xs → cs = vcells xs := fun {cs xs P w} h => by
  obtain ⟨h1, h2⟩ := h
  apply List.ext_getElem?
  intro j
  by_cases hj : j < xs.length * 2
  · have hi : j / 2 < xs.length := by omega
    have hx : xs[j / 2]? = some xs[j / 2] := by simp [hi]
    obtain ⟨e1, e2⟩ := h2 _ _ hx
    obtain ⟨d1, d2⟩ := vcells_get hx
    rcases Nat.mod_two_eq_zero_or_one j with hm | hm
    · have : j = j / 2 * 2 := by omega
      rw [this, d1]; simpa using e1
    · have : j = j / 2 * 2 + 1 := by omega
      rw [this, d2]; simpa using e2
  · rw [List.getElem?_eq_none (by omega), List.getElem?_eq_none (by rw [vcells_len]; omega)]

/-- Only blocks whose tags S names are changed. -/
structure Kp (S : Nat → Prop) (T : Nat → Nat) (w w' : World) : Prop where
  os : w'.os = w.os
  tape : w'.tape = w.tape
  output : w'.output = w.output
  size : w.heap.size ≤ w'.heap.size
  blk : ∀ b, b < w.heap.size → ¬ S (T b) → w'.heap[b]? = w.heap[b]?
/-- Tags of what is there stay. -/
def Ext (T T' : Nat → Nat) (w : World) : Prop := ∀ b, b < w.heap.size → T' b = T b
theorem Ext.refl (T : Nat → Nat) (w : World) : Ext T T w := fun _ _ => rfl
theorem Ext.trans {T T' T'' : Nat → Nat} {w w' : World} (h : Ext T T' w) (hs : w.heap.size ≤ w'.heap.size) (k : Ext T' T'' w') : Ext T T'' w := fun b hb => (k b (by omega)).trans (h b hb)
theorem Kp.refl (S : Nat → Prop) (T : Nat → Nat) (w : World) : Kp S T w w := ⟨rfl, rfl, rfl, Nat.le_refl _, fun _ _ _ => rfl⟩
theorem Kp.of_below {S : Nat → Prop} {T : Nat → Nat} {w w' : World} (h : Below w.heap.size w w') : Kp S T w w' := ⟨h.os, h.tape, h.output, h.size, fun b hb _ => h.block b hb⟩
theorem Kp.trans {S : Nat → Prop} {T T' : Nat → Nat} {w w' w'' : World} (h : Kp S T w w') (e : Ext T T' w) (k : Kp S T' w' w'') : Kp S T w w'' :=
  ⟨k.os.trans h.os, k.tape.trans h.tape, k.output.trans h.output, Nat.le_trans h.size k.size, fun b hb hs => (k.blk b (Nat.lt_of_lt_of_le hb h.size) (by rw [e b hb]; exact hs)).trans (h.blk b hb hs)⟩
theorem Kp.on {S : Nat → Prop} {T : Nat → Nat} {w w' w'' : World} (h : Kp S T w w') (k : Below w'.heap.size w' w'') : Kp S T w w'' := h.trans (.refl _ _) (.of_below k)
theorem Kp.drew {S : Nat → Prop} {T : Nat → Nat} {w w' : World} (h : Kp S T w w') : Kp S T w w'.drew := ⟨h.os, h.tape, h.output, h.size, h.blk⟩
theorem Kp.mono {S S' : Nat → Prop} {T : Nat → Nat} {w w' : World} (h : Kp S T w w') (hs : ∀ t, S t → S' t) : Kp S' T w w' := ⟨h.os, h.tape, h.output, h.size, fun b hb n => h.blk b hb fun k => n (hs _ k)⟩
theorem Kp.tags {S : Nat → Prop} {T T' : Nat → Nat} {w w' : World} (h : Kp S T w w') (e : Ext T T' w) : Kp S T' w w' := ⟨h.os, h.tape, h.output, h.size, fun b hb n => h.blk b hb (by rw [← e b hb]; exact n)⟩
theorem Kp.untag {S : Nat → Prop} {T T' : Nat → Nat} {w w' : World} (h : Kp S T' w w') (e : Ext T T' w) : Kp S T w w' := ⟨h.os, h.tape, h.output, h.size, fun b hb n => h.blk b hb (by rw [e b hb]; exact n)⟩
theorem Kp.below {S : Nat → Prop} {T : Nat → Nat} {w w' : World} (h : Kp S T w w') {lo : Nat} (hl : ∀ b, b < lo → ¬ S (T b)) (hs : lo ≤ w.heap.size) : Below lo w w' := ⟨h.os, h.tape, h.output, h.size, fun b hb => h.blk b (by omega) (hl b hb)⟩
theorem Kp.set {S : Nat → Prop} {T : Nat → Nat} {w w' : World} (h : Kp S T w w') {b : Nat} (hb : b < w.heap.size → S (T b)) (o : Nat) (v : Value) : Kp S T w (w'.setCell ⟨b, o, none⟩ v) := by
  have k := Below.refl w'.heap.size w'
  have hd : Below 0 w' (w'.setCell ⟨b, o, none⟩ v) := (Below.refl 0 w').setCell (Nat.zero_le _) _
  refine ⟨hd.os.trans h.os, hd.tape.trans h.tape, hd.output.trans h.output, Nat.le_trans h.size hd.size, fun c hc n => ?_⟩
  rw [setCell_else (fun e => n (by rw [e]; exact hb (by omega)))]
  exact h.blk c hc n
theorem Kp.held {S : Nat → Prop} {T : Nat → Nat} {w w' : World} (h : Kp S T w w') {b : Nat} {o : Obj} (hb : w.heap[b]? = some o) (hs : ¬ S (T b)) : w'.heap[b]? = some o := by
  rw [h.blk b (blk_lt hb) hs]; exact hb
theorem Kp.cell {S : Nat → Prop} {T : Nat → Nat} {w w' : World} (h : Kp S T w w') {b o : Nat} {v : Value} (hb : w.cell? ⟨b, o, none⟩ = some v) (hs : ¬ S (T b)) : w'.cell? ⟨b, o, none⟩ = some v := by
  have hl := World.block_lt_of_cell? w ⟨b, o, none⟩ hb
  unfold World.cell? at hb ⊢
  rw [h.blk b hl hs]
  exact hb
/-- What no one changes. -/
abbrev Fx (T : Nat → Nat) (w : World) : Nat → Prop := fun b => b < w.heap.size ∧ T b = 0
abbrev Hx (T : Nat → Nat) (w : World) : Nat → Prop := fun b => b < w.heap.size ∧ T b = 2
theorem IsRow.fx {α : Type} {E : Lay α} {sz bytes : Nat} {t : Nat} {T T' : Nat → Nat} {S : Nat → Prop} {w w' : World} {v : Value} {xs : List α} (h : IsRow E sz bytes (fun b => b < w.heap.size ∧ T b = t) w v xs) (G : Good E sz) (e : Ext T T' w) (k : Kp S T w w') (h0 : ¬ S t) : IsRow E sz bytes (fun b => b < w'.heap.size ∧ T' b = t) w' v xs :=
  h.keep G (Keeps.of_block fun b hb hl => k.blk b hl (by rw [hb.2]; exact h0)) fun b hb => ⟨Nat.lt_of_lt_of_le hb.1 k.size, by rw [e b hb.1]; exact hb.2⟩
/-- Blocks that come get this tag. -/
def tagged (T : Nat → Nat) (w : World) (t : Nat) : Nat → Nat := fun b => if b < w.heap.size then T b else t
theorem tagged_ext (T : Nat → Nat) (w : World) (t : Nat) : Ext T (tagged T w t) w := fun b hb => by simp [tagged, hb]
theorem tagged_new {T : Nat → Nat} {w : World} {t b : Nat} (h : w.heap.size ≤ b) : tagged T w t b = t := by simp [tagged]; omega
/-- One block's tag. -/
def tag1 (T : Nat → Nat) (g t : Nat) : Nat → Nat := fun b => if b = g then t else T b
theorem tag1_ext {T : Nat → Nat} {w : World} {g t : Nat} (h : w.heap.size ≤ g) : Ext T (tag1 T g t) w := fun b hb => by simp [tag1]; omega
theorem tag1_self (T : Nat → Nat) (g t : Nat) : tag1 T g t g = t := by simp [tag1]

/-- The objects: a row, and each one's slots in a block of their own. -/
structure HeapSt (T : Nat → Nat) (w : World) (hv : Value) (g : Nat) (s : Nat → Nat) (xs : List QO) : Prop where
  form : ∃ cap, hv = .slice (some ⟨g, 0, none⟩) xs.length cap ∧ xs.length ≤ cap ∧ cap ≤ maxLen
  len : xs.length * 32 ≤ 140737488351232
  there : g < w.heap.size
  tg : T g = 2
  obj : ∀ i x, xs[i]? = some x → w.cell? ⟨g, i * 2, none⟩ = some (.int .i64 x.cls) ∧ w.cell? ⟨g, i * 2 + 1, none⟩ = some (.slice (some ⟨s i, 0, none⟩) x.slots.length x.slots.length) ∧ w.heap[s i]? = some (.cells (vcells x.slots).toArray 27 (0, 0)) ∧ T (s i) = 2 ∧ s i ≠ g ∧ x.slots.length * 16 ≤ 140737488351232
  inj : ∀ i j, i < xs.length → j < xs.length → s i = s j → i = j
theorem vcell_at {w : World} {g : Nat} {vs : List QV} {t : TypeId} (h : w.heap[g]? = some (.cells (vcells vs).toArray t (0, 0))) {i : Nat} {x : QV} (hx : vs[i]? = some x) : w.cell? ⟨g, i * 2, none⟩ = some (.int .i64 x.k) ∧ w.cell? ⟨g, i * 2 + 1, none⟩ = some (.int .i64 x.n) := by
  rw [cell_of_row _ _ _ _ _ _ h, cell_of_row _ _ _ _ _ _ h]
  have := vcells_get hx
  simpa using this
theorem vals_row {w : World} {g : Nat} {vs : List QV} {t : TypeId} {P : Nat → Prop} (h : w.heap[g]? = some (.cells (vcells vs).toArray t (0, 0))) (hP : P g) (hb : vs.length * 16 ≤ 140737488351232) : IsVals P w (.slice (some ⟨g, 0, none⟩) vs.length vs.length) vs := by
  refine ⟨_, _, rfl, Nat.le_refl _, by unfold maxLen; omega, hb, fun i x hx => ⟨g, 0, rfl, hP, ?_⟩⟩
  have := vcell_at h hx
  simp only [Nat.zero_add]
  exact ⟨by simpa using this.1, this.2⟩
theorem HeapSt.heap {T : Nat → Nat} {w : World} {hv : Value} {g : Nat} {s : Nat → Nat} {xs : List QO} (h : HeapSt T w hv g s xs) : IsHeap (Hx T w) w hv xs := by
  obtain ⟨cap, rfl, h1, h2⟩ := h.form
  refine ⟨_, _, rfl, h1, h2, h.len, fun i x hx => ⟨g, 0, rfl, ⟨h.there, h.tg⟩, ?_⟩⟩
  obtain ⟨e1, e2, e3, e4, e5, e6⟩ := h.obj i x hx
  simp only [Nat.zero_add]
  exact ⟨by simpa using e1, _, e2, vals_row e3 ⟨blk_lt e3, e4⟩ e6⟩
theorem HeapSt.keep {T T' : Nat → Nat} {S : Nat → Prop} {w w' : World} {hv : Value} {g : Nat} {s : Nat → Nat} {xs : List QO} (h : HeapSt T w hv g s xs) (e : Ext T T' w) (k : Kp S T w w') (h2 : ¬ S 2) : HeapSt T' w' hv g s xs := by
  refine ⟨h.form, h.len, Nat.lt_of_lt_of_le h.there k.size, by rw [e g h.there]; exact h.tg, fun i x hx => ?_, h.inj⟩
  obtain ⟨e1, e2, e3, e4, e5, e6⟩ := h.obj i x hx
  exact ⟨k.cell e1 (by rw [h.tg]; exact h2), k.cell e2 (by rw [h.tg]; exact h2), k.held e3 (by rw [e4]; exact h2), by rw [e _ (blk_lt e3)]; exact e4, e5, e6⟩
theorem vset_row {w : World} {g : Nat} {vs : List QV} {t : TypeId} (h : w.heap[g]? = some (.cells (vcells vs).toArray t (0, 0))) (j : Nat) (v : QV) : ((w.setCell ⟨g, j * 2, none⟩ (.int .i64 v.k)).setCell ⟨g, j * 2 + 1, none⟩ (.int .i64 v.n)).heap[g]? = some (.cells (vcells (vs.set j v)).toArray t (0, 0)) := by
  rw [setCell_same (setCell_same h _), ← vcells_set]
  simp
theorem HeapSt.set {T : Nat → Nat} {w : World} {hv : Value} {g : Nat} {s : Nat → Nat} {xs : List QO} (h : HeapSt T w hv g s xs) {i : Nat} {x : QO} (hx : xs[i]? = some x) (j : Nat) (v : QV) : HeapSt T ((w.setCell ⟨s i, j * 2, none⟩ (.int .i64 v.k)).setCell ⟨s i, j * 2 + 1, none⟩ (.int .i64 v.n)) hv g s (xs.set i ⟨x.cls, x.slots.set j v⟩) := by
  have hi := lt_of_get hx
  obtain ⟨e1, e2, e3, e4, e5, e6⟩ := h.obj i x hx
  refine ⟨by simpa using h.form, by simpa using h.len, by rw [size_setCell, size_setCell]; exact h.there, h.tg, fun k y hy => ?_, fun a b ha hb => h.inj a b (by simpa using ha) (by simpa using hb)⟩
  have hc : ∀ o u, w.cell? ⟨g, o, none⟩ = some u → ((w.setCell ⟨s i, j * 2, none⟩ (.int .i64 v.k)).setCell ⟨s i, j * 2 + 1, none⟩ (.int .i64 v.n)).cell? ⟨g, o, none⟩ = some u := fun o u hu => by
    rw [World.cell?_setCell_far _ _ _ _ (by simpa using e5), World.cell?_setCell_far _ _ _ _ (by simpa using e5)]; exact hu
  by_cases hk : k = i
  · subst hk
    rw [List.getElem?_set_self hi] at hy
    cases hy
    exact ⟨hc _ _ e1, by simpa using hc _ _ e2, vset_row e3 j v, e4, e5, by simpa using e6⟩
  · rw [List.getElem?_set_ne (by omega)] at hy
    obtain ⟨d1, d2, d3, d4, d5, d6⟩ := h.obj k y hy
    have hne : s k ≠ s i := fun e => hk (h.inj k i (lt_of_get hy) hi e)
    exact ⟨hc _ _ d1, hc _ _ d2, by rw [setCell_else hne, setCell_else hne]; exact d3, d4, d5, d6⟩
end Go.Proofs.Ytdfbgpiikeheiaa
