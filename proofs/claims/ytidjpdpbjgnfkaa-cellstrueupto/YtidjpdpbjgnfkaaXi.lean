/- Rows that grow by append, whose elements reach no box; what the reference's Put holds. -/
import Derived.Test.YtidjpdpbjgnfkaaXc
import Derived.Test.YtidjpdpbjgnfkaaTj
namespace Go.Proofs.Ytidjpdpbjgnfkaa
open Go.ChangeShapes Go.WideShapes Go.ChangeAt Go.RowKit
set_option linter.unusedSimpArgs false
set_option linter.unusedVariables false
set_option maxRecDepth 8000

/-- A row of one's own, that grows; what its elements reach lies elsewhere, in blocks that N names. -/
def OutN {α : Type} (N : Nat → Prop) (E : Lay α) (sz : Nat) (e : TypeId) (B : Nat) (w : World) (v : Value) (xs : List α) : Prop :=
  ∃ cs, w.ownsRow B e sz v xs.length cs ∧ Cells E sz (fun b => N b ∧ b < w.heap.size ∧ some b ≠ v.ownBlock) w cs xs
section
variable {α : Type} {N : Nat → Prop} {E : Lay α} {sz : Nat} {e : TypeId} {B : Nat} {w w' : World} {v : Value} {xs : List α}
theorem OutN.later (h : OutN N E sz e B w v xs) (G : Good E sz) (hb : Below w.heap.size w w') : OutN N E sz e B w' v xs := by
  obtain ⟨cs, h1, h2⟩ := h
  exact ⟨cs, ownsRow_later h1 hb, h2.keep G (.of_below hb) fun b h => ⟨h.1, Nat.lt_of_lt_of_le h.2.1 hb.size, h.2.2⟩⟩
theorem OutN.nil : OutN N E sz e B w (.slice none 0 0) ([] : List α) := ⟨[], ⟨by simp, Or.inl ⟨rfl, rfl⟩⟩, .nil⟩
theorem OutN.row (h : OutN N E sz e B w v xs) (G : Good E sz) : IsRow E sz 0 (fun _ => True) w v xs := by
  obtain ⟨cs, h1, h2⟩ := h
  exact owns_row G h1 rfl (h2.keep G (.refl _ _) fun b h => trivial) fun g _ hg => trivial
theorem OutN.form (h : OutN N E sz e B w v xs) : ∃ a c, v = .slice a xs.length c := by
  obtain ⟨cs, ⟨h0, ⟨rfl, h⟩ | ⟨g, cap, cur, rfl, h2, h3, h4⟩⟩, -⟩ := h
  · exact ⟨none, 0, by rw [h]⟩
  · exact ⟨_, _, rfl⟩
theorem OutN.block (h : OutN N E sz e B w v xs) (g : Nat) (hg : v.ownBlock = some g) : B ≤ g ∧ g < w.heap.size := by
  obtain ⟨cs, ⟨h0, ⟨rfl, h⟩ | ⟨g', cap, cur, rfl, h2, h3, h4⟩⟩, -⟩ := h
  · cases hg
  · simp [Value.ownBlock] at hg; subst hg; exact ⟨h2, blk_lt h3⟩
theorem OutN.set (h : OutN N E sz e B w v xs) (G : Good E sz) {b o : Nat} (hN : ¬ N b) (hb : b < B) (u : Value) : OutN N E sz e B (w.setCell ⟨b, o, none⟩ u) v xs := by
  obtain ⟨cs, h1, h2⟩ := h
  refine ⟨cs, ?_, h2.keep G (Keeps.of_setCell (by intro h; exact hN h.1) _) fun b h => ⟨h.1, by simpa using h.2.1, h.2.2⟩⟩
  obtain ⟨h0, h | ⟨g, cap, cur, h1, h2, h3, h4⟩⟩ := h1
  · exact ⟨h0, Or.inl h⟩
  · exact ⟨h0, Or.inr ⟨g, cap, cur, h1, h2, (setCell_else (by omega) _).trans h3, h4⟩⟩
end
section
variable {α : Type} {N : Nat → Prop} {E : Lay α} {sz : Nat} {R' : Nat → Prop} {w : World} {ops : Array Oper} {rest : List Oper} {o : Oper} {a : Act} {Q : Exit → Act → World → Prop}
theorem wpList_append_outN (G : Good E sz) (hgd : o.guard = none) (s x : Operand) (T : TypeId) (ho : o.op = .call { callee := .builtin .append, args := #[s, x], argTypes := #[T, T] })
    (e : TypeId) (z : Value) (bytes : Nat) (hu : Try.prog.underlying T = some (.slice e)) (hI : (Try.prog.info? e).map (fun i => (i.zero, i.size, i.bytes)) = some (some z, sz, bytes)) (hz : z.cells.size = sz)
    (B0 : Nat) (v : Value) (pre : List α) (hs : a.eval s = v) (hout : OutN N E sz e B0 w v pre)
    (B : Nat) (t : TypeId) (vs : List Value) (hx : a.eval x = .slice (some ⟨B, 0, none⟩) 1 1) (hB : w.heap[B]? = some (.cells vs.toArray t (0, 0))) (hvs : vs.length = sz) (y : α) (hy : E R' w (fun k => vs[k]?) y)
    (hR' : ∀ b, R' b → N b ∧ b < w.heap.size ∧ some b ≠ v.ownBlock) (hB0 : B0 ≤ w.heap.size) (hb1 : pre.length + 1 ≤ maxLen) (hb2 : (pre.length + 1) * bytes ≤ 140737488355328)
    (h : ∀ g cap w', OutN N E sz e B0 w' (.slice (some ⟨g, 0, none⟩) (pre.length + 1) cap) (pre ++ [y]) → Below B0 w w' → wpList Try.prog ops Q rest (a.put o.dst (.slice (some ⟨g, 0, none⟩) (pre.length + 1) cap)) w') : wpList Try.prog ops Q (o :: rest) a w := by
  obtain ⟨i0, hi, hz0, hz1, hz2⟩ := info_parts hI
  obtain ⟨cs, hown, hcs⟩ := id hout
  refine wpList_append_lies w hgd s x T ho B0 e i0 z sz bytes hu hi hz0 hz1 hz2 hz G.pos v pre.length cs hs hown ⟨B, 0, none⟩ 1 1 vs hx (by simpa using hvs) (fun j u hj => World.news_of_block hB j u (by simpa using hj)) ?_ (by omega) hb1 hb2 hB0 w.heap.size rfl ?_
  · intro u hu
    obtain ⟨j, hj, rfl⟩ := List.mem_iff_getElem.1 hu
    obtain ⟨v, hv, hone⟩ := G.there hy j (by omega)
    simp only [List.getElem?_eq_getElem hj] at hv
    cases hv
    exact hone
  · intro g cap w' hown' hgr hor hlt
    have hob := hout.block
    have hbel : Below B0 w w' := (Below.refl _ _).grown hgr hB0 (fun k hk => (hob k hk).1)
    have hK : Keeps (fun b => N b ∧ b < w.heap.size ∧ some b ≠ v.ownBlock) w w' := .of_block fun b hb _ => hgr.block b hb.2.1 hb.2.2
    have hne : ∀ b, N b ∧ b < w.heap.size ∧ some b ≠ v.ownBlock → N b ∧ b < w'.heap.size ∧ some b ≠ (Value.slice (some ⟨g, 0, none⟩) (pre.length + 1) cap).ownBlock := fun b hb => by
      refine ⟨hb.1, Nat.lt_of_lt_of_le hb.2.1 hgr.size, ?_⟩
      simp only [Value.ownBlock]
      rcases hor with h | h
      · rw [← h]; exact hb.2.2
      · intro e; cases e; omega
    refine h g cap w' ⟨cs ++ vs, by simpa using hown', Cells.append (hcs.keep G hK hne) G (Cells.one G hvs ?_)⟩ hbel
    exact G.move hy (fun b hb => hne b (hR' b hb)) (hK.mono hR') fun _ _ _ h => h
end

theorem run_append_none {P : Program} (w : World) (t ty e : TypeId) (i : TypeInfo) (ht : P.underlying t = some (.slice e)) (hi : P.info? e = some i) (B : Nat) (ad : Option Addr) (cap : Nat) :
    (Builtin.append_ #[t, t] ty #[.slice (some ⟨B, 0, none⟩) 0 0, .slice ad 0 cap]).run P w = .ok (.slice (some ⟨B, 0, none⟩) 0 0) w := by
  have hl : ∀ (x : Addr), (loadCells x 0).run P w = .ok #[] w := fun x => by simpa using run_loadCells_list (P := P) w x [] (by simp)
  cases ad <;> simp [Builtin.append_, run_underlying ht, sizeOf, typeInfo, hi, Builtin.lenOf, Builtin.firstCells, storeCells, hl]
section
variable {ops : Array Oper} {o : Oper} {a : Act} {w : World} {K : Act → World → Prop} {Q : Exit → Act → World → Prop} {F : Prop}
/-- 'append([]Line{}, ls...)', as a step. -/
theorem step_lines_src (hw : Region.wanted o (yielded ops a.tmps) = true) (s x : Operand) (hop : o.op = Op.call { callee := Callee.builtin Builtin.append, args := #[s, x], argTypes := #[47, 47] })
    (B0 B : Nat) (hs : a.eval s = .slice (some ⟨B, 0, none⟩) 0 0) (hB : w.heap[B]? = some (.cells #[] 55 (0, 0))) (hB0 : B0 ≤ B) (ad : Option Addr) (cap : Nat) (ls : List QL) (hx : a.eval x = .slice ad ls.length cap) {P : Nat → Prop} (hl : IsLines P w (.slice ad ls.length cap) ls) (hn : ls.length < 1000)
    (hK : ∀ g cap' w', Out LineC 2 55 B0 w' (.slice (some ⟨g, 0, none⟩) ls.length cap') ls → Below w.heap.size w w' → K (a.put o.dst (.slice (some ⟨g, 0, none⟩) ls.length cap')) w') :
    if Region.wanted o (yielded ops a.tmps) = true then Oper.wp Try.prog o a w K Q else F := by
  rw [if_pos hw]
  obtain ⟨i0, hi, hz0, hz1, hz2⟩ := info_parts info55
  have hBl := blk_lt hB
  obtain ⟨ad', cap0, e0, -, -, -, hr⟩ := hl
  simp only [Value.slice.injEq] at e0
  obtain ⟨rfl, -, rfl⟩ := e0
  obtain ⟨cs, hcs, hsrc⟩ := hr.cells goodL
  by_cases h0 : ls.length = 0
  · obtain rfl : ls = [] := List.eq_nil_of_length_eq_zero h0
    have hrun := run_append_none (P := Try.prog) w 47 o.type 55 i0 Try.underlying47 hi B ad cap
    simp only [List.length_nil] at hx hK
    unfold Oper.wp
    simp [execOp, hop, resolve, invoke, builtin, hs, hx, hrun, Result.andThen]
    refine hK B 0 w ⟨[], ⟨by simp, .inr ⟨B, 0, #[], rfl, hB0, hB, Nat.le_refl _, by unfold maxLen; omega, rfl, rfl⟩⟩, .nil⟩ (Below.refl _ _)
  · obtain ⟨b, rfl⟩ : ∃ b, ad = some b := by
      have h1 := hcs.1
      obtain ⟨b, e, -⟩ := hsrc 0 (cs[0]'(by omega)) (by simp)
      exact ⟨b, e⟩
    obtain ⟨v', w', hrun, r1, r2⟩ := run_append_arg_grows (P := Try.prog) w 47 o.type 55 i0 _ 2 16 Try.underlying47 hi hz0 hz1 hz2 rfl (by decide) ⟨B, 0, none⟩ 0 0 [] rfl (fun j u hu => by simp at hu) b ls.length cap cs hcs.1 (fun j u hu => by obtain ⟨b', e, h⟩ := hsrc j u hu; cases e; exact h) (by omega) (by unfold maxLen; omega) (by omega)
    simp only [Nat.zero_add, List.nil_append] at r1
    obtain ⟨g, cap', rfl, hg, hgl⟩ := r1.form (by omega)
    unfold Oper.wp
    simp [execOp, hop, resolve, invoke, builtin, hs, hx, hrun, Result.andThen]
    refine hK g cap' w' ⟨cs, ?_, hcs.1, hcs.2⟩ ((Below.refl _ _).grown r2 (Nat.le_refl _) (fun k hk => by cases hk))
    obtain ⟨q1, q2⟩ := r1
    refine ⟨q1, ?_⟩
    rcases q2 with q2 | ⟨g', c', cur, e, h1, h2⟩
    · exact .inl q2
    · exact .inr ⟨g', c', cur, e, by omega, h2⟩
/-- 'append(ls, Line{..})' on a row of one's own, as a step. -/
theorem step_lines_out (hw : Region.wanted o (yielded ops a.tmps) = true) (s x : Operand) (hop : o.op = Op.call { callee := Callee.builtin Builtin.append, args := #[s, x], argTypes := #[47, 47] })
    (B0 : Nat) (v : Value) (ls : List QL) (hs : a.eval s = v) (hout : Out LineC 2 55 B0 w v ls) (hB0 : B0 ≤ w.heap.size) (B : Nat) (y : QL) (hx : a.eval x = .slice (some ⟨B, 0, none⟩) 1 1) (hB : w.heap[B]? = some (.cells #[.int .i64 y.cls, .int .i64 y.found] 55 (0, 0))) (hn : ls.length < 1000)
    (hK : ∀ g cap' w', Out LineC 2 55 B0 w' (.slice (some ⟨g, 0, none⟩) (ls.length + 1) cap') (ls ++ [y]) → Below B0 w w' → K (a.put o.dst (.slice (some ⟨g, 0, none⟩) (ls.length + 1) cap')) w') :
    if Region.wanted o (yielded ops a.tmps) = true then Oper.wp Try.prog o a w K Q else F := by
  rw [if_pos hw]
  obtain ⟨i0, hi, hz0, hz1, hz2⟩ := info_parts info55
  obtain ⟨cs, hown, hcs⟩ := id hout
  have hob := hout.block
  refine wp_append_lies w s x 47 hop B0 55 i0 _ 2 16 Try.underlying47 hi hz0 hz1 hz2 rfl (by decide) v ls.length cs hs hown ⟨B, 0, none⟩ 1 1 [.int .i64 y.cls, .int .i64 y.found] hx rfl (fun j u hj => World.news_of_block hB j u (by simpa using hj)) (by intro u hu; simp at hu; rcases hu with rfl | rfl <;> rfl) (by omega) (by unfold maxLen; omega) (by omega) hB0 w.heap.size rfl ?_
  intro g cap w' hown' hgr hor hlt
  refine hK g cap w' ⟨cs ++ [.int .i64 y.cls, .int .i64 y.found], by simpa using hown', ?_⟩ ((Below.refl _ _).grown hgr hB0 (fun k hk => (hob k hk).1))
  refine Cells.append ⟨hcs.1, hcs.2⟩ goodL (Cells.one goodL rfl ⟨rfl, rfl⟩)
end

/-- Blocks that are no box of Put's. -/
abbrev NoBox (B : Nat) : Nat → Prop := fun b => b < B ∨ B + 6 ≤ b
/-- What the reference's Put holds in its boxes: site, epoch, class, found, what came out, whether it is done. -/
structure PutR (B : Nat) (s : QS) (ep c fd : Int) (ov : Value) (pre : List QE) (d : Bool) (w : World) : Prop where
  site : SiteAt w B s
  e : w.cell? ⟨B + 1, 0, none⟩ = some (.int .i64 ep)
  c : w.cell? ⟨B + 2, 0, none⟩ = some (.int .i64 c)
  f : w.cell? ⟨B + 3, 0, none⟩ = some (.int .i64 fd)
  o : w.cell? ⟨B + 4, 0, none⟩ = some ov
  d : w.cell? ⟨B + 5, 0, none⟩ = some (.bool d)
  fo : w.frozen? ⟨B + 4, 0, none⟩ = false
  fd : w.frozen? ⟨B + 5, 0, none⟩ = false
  out : OutN (NoBox B) CellC 6 49 (B + 6) w ov pre
  sz : B + 6 ≤ w.heap.size
theorem PutR.later {B : Nat} {s : QS} {ep c fd : Int} {ov : Value} {pre : List QE} {d : Bool} {w w' : World} (h : PutR B s ep c fd ov pre d w) (hb : Below w.heap.size w w') : PutR B s ep c fd ov pre d w' :=
  ⟨h.site.later hb, cell_later hb h.e, cell_later hb h.c, cell_later hb h.f, cell_later hb h.o, cell_later hb h.d, (hb.frozen (p := ⟨B + 4, 0, none⟩) (by have := h.sz; simp; omega)).trans h.fo, (hb.frozen (p := ⟨B + 5, 0, none⟩) (by have := h.sz; simp; omega)).trans h.fd, h.out.later goodE hb, Nat.le_trans h.sz hb.size⟩
/-- Behind an append, the new row is laid into its box. -/
theorem PutR.next {B : Nat} {s : QS} {ep c fd : Int} {ov ov' : Value} {pre pre' : List QE} {d : Bool} {w w' : World} (h : PutR B s ep c fd ov pre d w) (hb : Below (B + 6) w w') (ho : OutN (NoBox B) CellC 6 49 (B + 6) w' ov' pre') : PutR B s ep c fd ov' pre' d (w'.setCell ⟨B + 4, 0, none⟩ ov') := by
  have hz := h.sz
  have hk : ∀ b o v, b < B + 6 → b ≠ B + 4 → w.cell? ⟨b, o, none⟩ = some v → (w'.setCell ⟨B + 4, 0, none⟩ ov').cell? ⟨b, o, none⟩ = some v := fun b o v h1 h2 h3 => by
    rw [World.cell?_setCell_other _ _ _ _ (by intro e; injection e with e1 _ _; omega), hb.cell (p := ⟨b, o, none⟩) h1]
    exact h3
  refine ⟨⟨hk _ _ _ (by omega) (by omega) h.site.c0, hk _ _ _ (by omega) (by omega) h.site.c1, hk _ _ _ (by omega) (by omega) h.site.c2⟩, hk _ _ _ (by omega) (by omega) h.e, hk _ _ _ (by omega) (by omega) h.c, hk _ _ _ (by omega) (by omega) h.f, ?_, hk _ _ _ (by omega) (by omega) h.d, ?_, ?_, ho.set goodE (by intro h; omega) (by omega) _, by simpa using Nat.le_trans hz hb.size⟩
  · exact cell_set_self (v := ov) ((hb.cell (p := ⟨B + 4, 0, none⟩) (by simp)).trans h.o) _
  · simpa using (hb.frozen (p := ⟨B + 4, 0, none⟩) (by simp)).trans h.fo
  · simpa using (hb.frozen (p := ⟨B + 5, 0, none⟩) (by simp)).trans h.fd
theorem PutR.done {B : Nat} {s : QS} {ep c fd : Int} {ov : Value} {pre : List QE} {d : Bool} {w : World} (h : PutR B s ep c fd ov pre d w) (d' : Bool) : PutR B s ep c fd ov pre d' (w.setCell ⟨B + 5, 0, none⟩ (.bool d')) := by
  have hk : ∀ b o v, b ≠ B + 5 → w.cell? ⟨b, o, none⟩ = some v → (w.setCell ⟨B + 5, 0, none⟩ (.bool d')).cell? ⟨b, o, none⟩ = some v := fun b o v h2 h3 => by
    rw [World.cell?_setCell_other _ _ _ _ (by intro e; injection e with e1 _ _; omega)]
    exact h3
  exact ⟨⟨hk _ _ _ (by omega) h.site.c0, hk _ _ _ (by omega) h.site.c1, hk _ _ _ (by omega) h.site.c2⟩, hk _ _ _ (by omega) h.e, hk _ _ _ (by omega) h.c, hk _ _ _ (by omega) h.f, hk _ _ _ (by omega) h.o, cell_set_self h.d _, by simpa using h.fo, by simpa using h.fd, h.out.set goodE (by intro h; omega) (by omega) _, by simpa using h.sz⟩
end Go.Proofs.Ytidjpdpbjgnfkaa
