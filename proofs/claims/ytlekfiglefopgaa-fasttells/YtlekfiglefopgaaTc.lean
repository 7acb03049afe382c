/- append of one element onto a row that is full; tally.withOne. -/
import Derived.Test.YtlekfiglefopgaaTb
import Derived.ArgAppend
import Derived.Deep.AppendLies
namespace Go.Proofs.Ytlekfiglefopgaa
open Go.ChangeShapes Go.WideShapes Go.ChangeAt Go.RowKit
set_option linter.unusedSimpArgs false
set_option linter.unusedVariables false

/-- A row that is owned is one. -/
theorem owns_row {α : Type} {E : Lay α} {sz : Nat} (G : Good E sz) {w : World} {base : Nat} {e : TypeId} {v : Value} {n : Nat} {vs : List Value} {xs : List α} {P : Nat → Prop} (h : w.ownsRow base e sz v n vs) (hx : xs.length = n) (hc : Cells E sz P w vs xs) (hP : ∀ g, base ≤ g → g < w.heap.size → P g) : IsRow E sz 0 P w v xs := by
  obtain ⟨hl, ⟨rfl, h0⟩ | ⟨g, cap, cur, rfl, h1, h2, h3, h4, h5, h6⟩⟩ := h
  · subst hx
    obtain rfl : xs = [] := List.eq_nil_of_length_eq_zero h0
    exact ⟨none, 0, rfl, by simp, by simp, by simp, fun i x hx => by simp at hx⟩
  · subst hx
    exact hc.row G (hP g h1 (blk_lt h2)) h2 h6 h3 h4 (by simp)

section
variable {α : Type} {E : Lay α} {sz : Nat} {P P' R : Nat → Prop} {w : World} {ops : Array Oper} {rest : List Oper} {o : Oper} {a : Act} {Q : Exit → Act → World → Prop}
/-- append(xs, y), where xs has no room: a new row. -/
theorem wpList_append_one (G : Good E sz) (hgd : o.guard = none) (s x : Operand) (T : TypeId) (ho : o.op = .call { callee := .builtin .append, args := #[s, x], argTypes := #[T, T] })
    (e : TypeId) (z : Value) (bytes : Nat) (hu : Try.prog.underlying T = some (.slice e)) (hI : (Try.prog.info? e).map (fun i => (i.zero, i.size, i.bytes)) = some (some z, sz, bytes)) (hz : z.cells.size = sz)
    (xs : List α) (ao : Option Addr) (hs : a.eval s = .slice ao xs.length xs.length) (hrow : IsRow E sz 0 P w (.slice ao xs.length xs.length) xs)
    (B : Nat) (t : TypeId) (vs : List Value) (hx : a.eval x = .slice (some ⟨B, 0, none⟩) 1 1) (hB : w.heap[B]? = some (.cells vs.toArray t (0, 0))) (hvs : vs.length = sz) (y : α) (hy : E P' w (fun k => vs[k]?) y)
    (hao : ao = none → xs = []) (hb1 : xs.length + 1 ≤ maxLen) (hb2 : (xs.length + 1) * bytes ≤ 140737488355328) (hPR : ∀ b, P b → R b) (hPR' : ∀ b, P' b → R b)
    (h : ∀ g cap w', (∀ (S : Nat → Prop), (∀ b, R b → S b) → S g → IsRow E sz 0 S w' (.slice (some ⟨g, 0, none⟩) (xs.length + 1) cap) (xs ++ [y])) → w.heap.size ≤ g → g < w'.heap.size → Below w.heap.size w w' → (∃ cur : Array Value, w'.heap[g]? = some (.cells cur e (0, 0)) ∧ cur.size = cap * sz ∧ xs.length + 1 ≤ cap ∧ cap ≤ maxLen ∧ Cells E sz R w' (cur.toList.take ((xs.length + 1) * sz)) (xs ++ [y]) ∧ ∀ k v, vs[k]? = some v → w'.cell? ⟨g, xs.length * sz + k, none⟩ = some v) → wpList Try.prog ops Q rest (a.put o.dst (.slice (some ⟨g, 0, none⟩) (xs.length + 1) cap)) w') : wpList Try.prog ops Q (o :: rest) a w := by
  obtain ⟨i0, hi, hz0, hz1, hz2⟩ := info_parts hI
  obtain ⟨ad, cap0, e0, hl, hcap, -, hr⟩ := hrow
  simp only [Value.slice.injEq] at e0
  obtain ⟨rfl, -, -⟩ := e0
  obtain ⟨cs, hcs, hsrc⟩ := hr.cells G
  have hp := G.pos
  refine wpList_append_grows w hgd s x T ho e i0 z sz bytes hu hi hz0 hz1 hz2 hz hp ao xs.length xs.length cs hs (fun hn => by rw [hao hn]; simp) hcs.1 (fun b hb j u hj => by obtain ⟨a', e', h'⟩ := hsrc j u hj; rw [hb] at e'; cases e'; exact h') ⟨B, 0, none⟩ 1 1 vs hx (by simpa using hvs) (fun j u hj => by exact World.news_of_block hB j u (by simpa using hj)) ?_ (by omega) hb1 hb2 ?_
  · intro u hu
    obtain ⟨j, hj, rfl⟩ := List.mem_iff_getElem.1 hu
    obtain ⟨v, hv, hone⟩ := G.there hy j (by omega)
    simp only [List.getElem?_eq_getElem hj] at hv
    cases hv
    exact hone
  · intro v' w' hown hgr
    have hbel : Below w.heap.size w w' := (Below.refl _ _).grown hgr (Nat.le_refl _) (fun k hk => by cases hk)
    obtain ⟨hl', ⟨rfl, h0⟩ | ⟨g, cap, cur, rfl, h1, h2, h3, h4, h5, h6⟩⟩ := id hown
    · omega
    · have hC : Cells E sz R w' (cs ++ vs) (xs ++ [y]) := by
        refine Cells.append (Cells.keep hcs G (.of_below hbel) hPR) G (Cells.one G hvs ?_)
        exact G.move hy hPR' (.of_below hbel) fun _ _ _ h => h
      refine h g cap w' (fun S hS hg => ?_) h1 (blk_lt h2) hbel ⟨cur, h2, h5, h3, h4, by rw [h6]; exact hC, fun k v hk => ?_⟩
      rotate_left
      · have hkl := lt_of_get hk
        rw [cell_of_row _ _ _ _ _ _ h2]
        have h6' := congrArg (fun l => l[xs.length * sz + k]?) h6
        simp only [List.getElem?_take] at h6'
        rw [if_pos (by rw [Nat.add_mul]; omega), List.getElem?_append_right (by rw [hcs.1]; omega), hcs.1, Nat.add_sub_cancel_left, hk] at h6'
        simpa using h6'
      have := (hC.keep G (.refl _ _) hS).row G (g := g) (cap := cap) (bytes := 0) hg h2 (by simpa using h6) (by simpa using h3) h4 (by simp)
      simpa using this
end

/-- A line of class c has one more; without one, one comes last. -/
def oneMore : List QL → Int → List QL
  | [], c => [⟨c, 1⟩]
  | x :: r, c => if x.cls == c then ⟨x.cls, wrap64 (x.found + 1)⟩ :: r else x :: oneMore r c
theorem oneMore_none : ∀ {ls : List QL} {c : Int}, findI (fun x => x.cls == c) ls = -1 → oneMore ls c = ls ++ [⟨c, 1⟩]
  | [], c, _ => rfl
  | x :: r, c, h => by
    have hx : (x.cls == c) = false := by
      cases hb : x.cls == c with
      | false => rfl
      | true => rw [findI_at (j := 0) (x := x) rfl hb (fun i y hi _ => by omega)] at h; simp at h
    have hr : findI (fun x : QL => x.cls == c) r = -1 := by
      unfold findI at h ⊢
      rw [List.findIdx?_cons, hx] at h
      cases hf : r.findIdx? (fun x => x.cls == c) with
      | none => rfl
      | some k => rw [hf] at h; simp at h; omega
    simp [oneMore, hx, oneMore_none hr]
theorem oneMore_at : ∀ {ls : List QL} {c : Int} {j : Nat} {x : QL}, ls[j]? = some x → (x.cls == c) = true → (∀ i y, i < j → ls[i]? = some y → (y.cls == c) = false) → oneMore ls c = ls.set j ⟨x.cls, wrap64 (x.found + 1)⟩
  | [], c, j, x, h, _, _ => by simp at h
  | y :: r, c, 0, x, h, hp, _ => by
    simp at h; subst h
    simp [oneMore, hp]
  | y :: r, c, j + 1, x, h, hp, hn => by
    have hy := hn 0 y (by omega) rfl
    simp only [oneMore, hy, List.set_cons_succ]
    rw [oneMore_at (ls := r) (j := j) (x := x) (by simpa using h) hp (fun i z hi hz => hn (i + 1) z (by omega) (by simpa using hz))]
    rfl
/-- What findI tells. -/
theorem findI_cases {α : Type} (p : α → Bool) (xs : List α) : findI p xs = -1 ∨ ∃ (j : Nat) (x : α), findI p xs = (j : Int) ∧ xs[j]? = some x ∧ p x = true ∧ ∀ i y, i < j → xs[i]? = some y → p y = false := by
  unfold findI
  cases h : xs.findIdx? p with
  | none => left; rfl
  | some j =>
    right
    rw [List.findIdx?_eq_some_iff_getElem] at h
    obtain ⟨hj, hp, hn⟩ := h
    refine ⟨j, xs[j], rfl, by simp [hj], hp, fun i y hi hy => ?_⟩
    have := hn i hi
    rw [List.getElem?_eq_getElem (by omega)] at hy
    cases hy
    simpa using this

theorem OwnSt.one {w : World} {g : Nat} {ls : List QL} (h : OwnSt LineC 2 60 w g ls ls.length) {j : Nat} {x : QL} (hx : ls[j]? = some x) : w.cell? ⟨g, j * 2 + 0, none⟩ = some (.int .i64 x.cls) ∧ w.cell? ⟨g, j * 2 + 1, none⟩ = some (.int .i64 x.found) := h.2 j x (lt_of_get hx) hx
theorem OwnSt.unfrozen {w : World} {g : Nat} {α : Type} {E : Lay α} {sz : Nat} {t : TypeId} {ls : List α} {j : Nat} (h : OwnSt E sz t w g ls j) : ∀ o, w.frozen? ⟨g, o, none⟩ = false := fun o => by
  obtain ⟨⟨cur, h1, -⟩, -⟩ := h
  simp [World.frozen?, h1]
/-- One line's number is another. -/
theorem OwnSt.bump {w : World} {g : Nat} {ls : List QL} (h : OwnSt LineC 2 60 w g ls ls.length) {j : Nat} {x : QL} (hx : ls[j]? = some x) (n : Int) : OwnSt LineC 2 60 (w.setCell ⟨g, j * 2 + 1, none⟩ (.int .i64 n)) g (ls.set j ⟨x.cls, n⟩) ls.length := by
  obtain ⟨⟨cur, h1, h2⟩, h3⟩ := h
  have hj := lt_of_get hx
  refine ⟨⟨_, setCell_same h1 _, by simpa using h2⟩, fun i y hi hy => ?_⟩
  have hself : (w.setCell ⟨g, j * 2 + 1, none⟩ (.int .i64 n)).cell? ⟨g, j * 2 + 1, none⟩ = some (.int .i64 n) := cell_set_self (v := .int .i64 x.found) (h3 j x hj hx).2 _
  have hoth : ∀ o, o ≠ j * 2 + 1 → (w.setCell ⟨g, j * 2 + 1, none⟩ (.int .i64 n)).cell? ⟨g, o, none⟩ = w.cell? ⟨g, o, none⟩ := fun o ho => World.cell?_setCell_other _ _ _ _ (by intro e; injection e with _ e2 _; omega)
  by_cases hij : i = j
  · subst hij
    rw [List.getElem?_set_self hj] at hy
    cases hy
    exact ⟨by show World.cell? _ ⟨g, i * 2 + 0, none⟩ = _; rw [hoth _ (by omega)]; exact (h3 i x hj hx).1, hself⟩
  · rw [List.getElem?_set_ne (by omega)] at hy
    exact ⟨by show World.cell? _ ⟨g, i * 2 + 0, none⟩ = _; rw [hoth _ (by omega)]; exact (h3 i y hi hy).1, by show World.cell? _ ⟨g, i * 2 + 1, none⟩ = _; rw [hoth _ (by omega)]; exact (h3 i y hi hy).2⟩

/-- What withOne leaves: a row of lines in g', that is g or new; nothing else of what was there has turned. -/
def OneLeft (w : World) (g : Option Nat) (ls : List QL) (e : Ending) (w' : World) : Prop :=
  ∃ g' cap', e = .returned (.slice (some ⟨g', 0, none⟩) ls.length cap') ∧ IsLines (fun b => b = g') w' (.slice (some ⟨g', 0, none⟩) ls.length cap') ls ∧ (some g' = g ∨ w.heap.size ≤ g') ∧ g' < w'.heap.size ∧ (∀ b, b < w.heap.size → some b ≠ g → w'.heap[b]? = w.heap[b]?) ∧ w'.os = w.os ∧ w'.tape = w.tape ∧ w'.output = w.output ∧ w.heap.size ≤ w'.heap.size

end Go.Proofs.Ytlekfiglefopgaa
