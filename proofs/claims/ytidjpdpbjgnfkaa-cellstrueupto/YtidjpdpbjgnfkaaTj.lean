/- Rows that grow by append; the reference's Count. -/
import Derived.Test.YtidjpdpbjgnfkaaTe
namespace Go.Proofs.Ytidjpdpbjgnfkaa
open Go.ChangeShapes Go.WideShapes Go.ChangeAt Go.RowKit
set_option linter.unusedSimpArgs false
set_option linter.unusedVariables false

/-- A row of one's own, that grows; what its elements reach lies elsewhere. -/
def Out {α : Type} (E : Lay α) (sz : Nat) (e : TypeId) (B : Nat) (w : World) (v : Value) (xs : List α) : Prop :=
  ∃ cs, w.ownsRow B e sz v xs.length cs ∧ Cells E sz (fun b => b < w.heap.size ∧ some b ≠ v.ownBlock) w cs xs
theorem ownsRow_later {w w' : World} {B : Nat} {e : TypeId} {sz : Nat} {v : Value} {n : Nat} {cs : List Value} (h : w.ownsRow B e sz v n cs) (hb : Below w.heap.size w w') : w'.ownsRow B e sz v n cs := by
  obtain ⟨h0, h | ⟨g, cap, cur, h1, h2, h3, h4⟩⟩ := h
  · exact ⟨h0, Or.inl h⟩
  · exact ⟨h0, Or.inr ⟨g, cap, cur, h1, h2, (hb.block _ (blk_lt h3)).trans h3, h4⟩⟩
section
variable {α : Type} {E : Lay α} {sz : Nat} {e : TypeId} {B : Nat} {w w' : World} {v : Value} {xs : List α}
theorem Out.later (h : Out E sz e B w v xs) (G : Good E sz) (hb : Below w.heap.size w w') : Out E sz e B w' v xs := by
  obtain ⟨cs, h1, h2⟩ := h
  exact ⟨cs, ownsRow_later h1 hb, h2.keep G (.of_below hb) fun b h => ⟨Nat.lt_of_lt_of_le h.1 hb.size, h.2⟩⟩
theorem Out.nil : Out E sz e B w (.slice none 0 0) ([] : List α) := ⟨[], ⟨by simp, Or.inl ⟨rfl, rfl⟩⟩, .nil⟩
theorem Out.row (h : Out E sz e B w v xs) (G : Good E sz) {P : Nat → Prop} (hP : ∀ b, b < w.heap.size → P b) : IsRow E sz 0 P w v xs := by
  obtain ⟨cs, h1, h2⟩ := h
  exact owns_row G h1 rfl (h2.keep G (.refl _ _) fun b h => hP b h.1) fun g _ hg => hP g hg
theorem Out.form (h : Out E sz e B w v xs) : ∃ a c, v = .slice a xs.length c ∧ ∀ g, v.ownBlock = some g → B ≤ g ∧ g < w.heap.size := by
  obtain ⟨cs, ⟨h0, ⟨rfl, h⟩ | ⟨g, cap, cur, rfl, h2, h3, h4⟩⟩, -⟩ := h
  · exact ⟨none, 0, by rw [h], fun g hg => by cases hg⟩
  · exact ⟨_, _, rfl, fun k hk => by simp [Value.ownBlock] at hk; subst hk; exact ⟨h2, blk_lt h3⟩⟩
theorem Out.block (h : Out E sz e B w v xs) (g : Nat) (hg : v.ownBlock = some g) : B ≤ g ∧ g < w.heap.size := by
  obtain ⟨a, c, rfl, h⟩ := h.form
  exact h g hg
end
section
variable {α : Type} {E : Lay α} {sz : Nat} {R' : Nat → Prop} {w : World} {ops : Array Oper} {rest : List Oper} {o : Oper} {a : Act} {Q : Exit → Act → World → Prop}
theorem wpList_append_out (G : Good E sz) (hgd : o.guard = none) (s x : Operand) (T : TypeId) (ho : o.op = .call { callee := .builtin .append, args := #[s, x], argTypes := #[T, T] })
    (e : TypeId) (z : Value) (bytes : Nat) (hu : Try.prog.underlying T = some (.slice e)) (hI : (Try.prog.info? e).map (fun i => (i.zero, i.size, i.bytes)) = some (some z, sz, bytes)) (hz : z.cells.size = sz)
    (B0 : Nat) (v : Value) (pre : List α) (hs : a.eval s = v) (hout : Out E sz e B0 w v pre)
    (B : Nat) (t : TypeId) (vs : List Value) (hx : a.eval x = .slice (some ⟨B, 0, none⟩) 1 1) (hB : w.heap[B]? = some (.cells vs.toArray t (0, 0))) (hvs : vs.length = sz) (y : α) (hy : E R' w (fun k => vs[k]?) y)
    (hR' : ∀ b, R' b → b < w.heap.size ∧ some b ≠ v.ownBlock) (hB0 : B0 ≤ w.heap.size) (hb1 : pre.length + 1 ≤ maxLen) (hb2 : (pre.length + 1) * bytes ≤ 140737488355328)
    (h : ∀ g cap w', Out E sz e B0 w' (.slice (some ⟨g, 0, none⟩) (pre.length + 1) cap) (pre ++ [y]) → Below B0 w w' → (∀ b, b < w.heap.size → some b ≠ v.ownBlock → w'.heap[b]? = w.heap[b]?) → wpList Try.prog ops Q rest (a.put o.dst (.slice (some ⟨g, 0, none⟩) (pre.length + 1) cap)) w') : wpList Try.prog ops Q (o :: rest) a w := by
  obtain ⟨i0, hi, hz0, hz1, hz2⟩ := info_parts hI
  obtain ⟨cs, hown, hcs⟩ := id hout
  refine wpList_append_lies w hgd s x T ho B0 e i0 z sz bytes hu hi hz0 hz1 hz2 hz G.pos v pre.length cs hs hown ⟨B, 0, none⟩ 1 1 vs hx (by simpa using hvs) (fun j u hj => World.news_of_block hB j u (by simpa using hj)) ?_ (by omega) hb1 hb2 hB0 w.heap.size rfl ?_
  · intro u hu
    obtain ⟨j, hj, rfl⟩ := List.mem_iff_getElem.1 hu
    obtain ⟨v, hv, hone⟩ := G.there hy j (by omega)
    simp only [List.getElem?_eq_getElem hj] at hv
    cases hv
    exact hone
  · intro g cap w' hown' hgr hor hlt
    have hob := hout.block
    have hbel : Below B0 w w' := (Below.refl _ _).grown hgr hB0 (fun k hk => (hob k hk).1)
    have hK : Keeps (fun b => b < w.heap.size ∧ some b ≠ v.ownBlock) w w' := .of_block fun b hb _ => hgr.block b hb.1 hb.2
    have hne : ∀ b, b < w.heap.size ∧ some b ≠ v.ownBlock → b < w'.heap.size ∧ some b ≠ (Value.slice (some ⟨g, 0, none⟩) (pre.length + 1) cap).ownBlock := fun b hb => by
      refine ⟨Nat.lt_of_lt_of_le hb.1 hgr.size, ?_⟩
      simp only [Value.ownBlock]
      rcases hor with h | h
      · rw [← h]; exact hb.2
      · intro e; cases e; omega
    refine h g cap w' ⟨cs ++ vs, by simpa using hown', Cells.append (hcs.keep G hK hne) G (Cells.one G hvs ?_)⟩ hbel (fun b hb hn => hgr.block b hb hn)
    exact G.move hy (fun b hb => hne b (hR' b hb)) (hK.mono hR') fun _ _ _ h => h
end

/-- The reference's Count, step by step. -/
def lstep (c : Int) (p : List QL × Bool) (x : QL) : List QL × Bool := if (x.cls == c) = true ∧ p.2 = false then (p.1 ++ [⟨x.cls, wrap64 (x.found + 1)⟩], true) else (p.1 ++ [x], p.2)
def lrun (c : Int) (ls : List QL) : List QL × Bool := ls.foldl (lstep c) ([], false)
def lfin (c : Int) (p : List QL × Bool) : List QL := if p.2 then p.1 else p.1 ++ [⟨c, 1⟩]
theorem lrun_snoc (c : Int) (ls : List QL) (x : QL) : lrun c (ls ++ [x]) = lstep c (lrun c ls) x := by simp [lrun]
theorem lfold_true (c : Int) : ∀ (ls pre : List QL), ls.foldl (lstep c) (pre, true) = (pre ++ ls, true)
  | [], pre => by simp
  | x :: r, pre => by
    rw [List.foldl_cons]
    have : lstep c (pre, true) x = (pre ++ [x], true) := by simp [lstep]
    rw [this, lfold_true c r]
    simp
theorem lfold_false (c : Int) : ∀ (ls pre : List QL), lfin c (ls.foldl (lstep c) (pre, false)) = pre ++ oneMore ls c
  | [], pre => by simp [lfin, oneMore]
  | x :: r, pre => by
    rw [List.foldl_cons]
    by_cases hx : (x.cls == c) = true
    · have : lstep c (pre, false) x = (pre ++ [⟨x.cls, wrap64 (x.found + 1)⟩], true) := by simp [lstep, hx]
      rw [this, lfold_true]
      simp [lfin, oneMore, hx]
    · have : lstep c (pre, false) x = (pre ++ [x], false) := by simp [lstep, hx]
      rw [this, lfold_false c r]
      simp [oneMore, hx]
theorem lfin_run (c : Int) (ls : List QL) : lfin c (lrun c ls) = oneMore ls c := by
  have := lfold_false c ls []
  simpa [lrun] using this
theorem lrun_len (c : Int) (ls : List QL) : (lrun c ls).1.length = ls.length := by
  have : ∀ (ls : List QL) (p : List QL × Bool), (ls.foldl (lstep c) p).1.length = p.1.length + ls.length := by
    intro ls
    induction ls with
    | nil => simp
    | cons x r ih =>
      intro p
      rw [List.foldl_cons, ih]
      unfold lstep
      split <;> simp <;> omega
  have := this ls ([], false)
  simpa [lrun] using this
def cstep (s : QS) (c : Int) (p : List QT × Bool) (x : QT) : List QT × Bool := if eqS x.site s = true ∧ p.2 = false then (p.1 ++ [⟨x.site, oneMore x.lines c⟩], true) else (p.1 ++ [x], p.2)
def crun (s : QS) (c : Int) (xs : List QT) : List QT × Bool := xs.foldl (cstep s c) ([], false)
def cfin (s : QS) (c : Int) (p : List QT × Bool) : List QT := if p.2 then p.1 else p.1 ++ [⟨s, [⟨c, 1⟩]⟩]
theorem crun_snoc (s : QS) (c : Int) (xs : List QT) (x : QT) : crun s c (xs ++ [x]) = cstep s c (crun s c xs) x := by simp [crun]
theorem cfold_true (s : QS) (c : Int) : ∀ (xs pre : List QT), xs.foldl (cstep s c) (pre, true) = (pre ++ xs, true)
  | [], pre => by simp
  | x :: r, pre => by
    rw [List.foldl_cons]
    have : cstep s c (pre, true) x = (pre ++ [x], true) := by simp [cstep]
    rw [this, cfold_true s c r]
    simp
theorem cfold_false (s : QS) (c : Int) : ∀ (xs pre : List QT), cfin s c (xs.foldl (cstep s c) (pre, false)) = pre ++ addE xs s c
  | [], pre => by simp [cfin, addE]
  | x :: r, pre => by
    rw [List.foldl_cons]
    by_cases hx : eqS x.site s = true
    · have : cstep s c (pre, false) x = (pre ++ [⟨x.site, oneMore x.lines c⟩], true) := by simp [cstep, hx]
      rw [this, cfold_true]
      simp [cfin, addE, hx]
    · have : cstep s c (pre, false) x = (pre ++ [x], false) := by simp [cstep, hx]
      rw [this, cfold_false s c r]
      simp [addE, hx]
theorem cfin_run (s : QS) (c : Int) (xs : List QT) : cfin s c (crun s c xs) = addE xs s c := by
  have := cfold_false s c xs []
  simpa [crun] using this
theorem crun_len (s : QS) (c : Int) (xs : List QT) : (crun s c xs).1.length = xs.length := by
  have : ∀ (xs : List QT) (p : List QT × Bool), (xs.foldl (cstep s c) p).1.length = p.1.length + xs.length := by
    intro xs
    induction xs with
    | nil => simp
    | cons x r ih =>
      intro p
      rw [List.foldl_cons, ih]
      unfold cstep
      split <;> simp <;> omega
  have := this xs ([], false)
  simpa [crun] using this
end Go.Proofs.Ytidjpdpbjgnfkaa
