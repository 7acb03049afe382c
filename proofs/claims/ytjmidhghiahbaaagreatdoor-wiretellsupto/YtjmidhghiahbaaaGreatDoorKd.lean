/- Package code: places that are led to; what an instruction needs and leaves; arrive. -/
import Derived.Test.YtjmidhghiahbaaaGreatDoorKb
import Derived.Test.YtjmidhghiahbaaaGreatDoorKc
namespace Go.Proofs.YtjmidhghiahbaaaGreatDoor
open Go.ChangeShapes Go.WideShapes Go.ChangeAt Go.RowKit
set_option linter.unusedSimpArgs false
set_option linter.unusedVariables false
set_option maxRecDepth 8000

theorem info137 : (Tryz.prog.info? 137).map (fun i => (i.zero, i.size, i.bytes)) = some (some (.agg #[.int .i64 0, .int .i64 0]), 2, 16) := by kernel_rfl
def qCells : List (Int × Int) → List Value
  | [] => []
  | p :: q => .int .i64 p.1 :: .int .i64 p.2 :: qCells q
theorem qCells_len : ∀ q, (qCells q).length = q.length * 2
  | [] => rfl
  | p :: q => by simp [qCells, qCells_len q]; omega
theorem qCells_append : ∀ q r, qCells (q ++ r) = qCells q ++ qCells r
  | [], r => rfl
  | p :: q, r => by simp [qCells, qCells_append q r]
/-- The box bl holds the slice v of places that wait. -/
structure LedQ (w : World) (base bl : Nat) (v : Value) (q : List (Int × Int)) : Prop where
  box : w.heap[bl]? = some (.cells #[v] 135 (0, 0))
  own : ownsAt w base 137 2 v q.length (qCells q)
  lt : bl < base
/-- All but the box, and the row, are as they were. -/
structure LedF (w w' : World) (bl : Nat) (v v' : Value) : Prop where
  bel : Below bl w w'
  blk : ∀ b, b < w.heap.size → b ≠ bl → some b ≠ v.ownBlock → w'.heap[b]? = w.heap[b]?
  own : v'.ownBlock = v.ownBlock ∨ ∃ g, v'.ownBlock = some g ∧ w.heap.size ≤ g
theorem LedF.refl (w : World) (bl : Nat) (v : Value) : LedF w w bl v v := ⟨Below.refl _ _, fun _ _ _ _ => rfl, Or.inl rfl⟩
theorem LedF.trans {w w' w'' : World} {bl : Nat} {v v' v'' : Value} (h : LedF w w' bl v v') (k : LedF w' w'' bl v' v'') : LedF w w'' bl v v'' := by
  refine ⟨h.bel.trans k.bel, fun b hb h1 h2 => ?_, ?_⟩
  · rw [k.blk b (Nat.lt_of_lt_of_le hb h.bel.size) h1 ?_, h.blk b hb h1 h2]
    rcases h.own with e | ⟨g, e, hg⟩
    · rw [e]; exact h2
    · rw [e]; intro e'; cases e'; omega
  · rcases k.own with e | ⟨g, e, hg⟩
    · rw [e]; exact h.own
    · exact Or.inr ⟨g, e, Nat.le_trans h.bel.size hg⟩
theorem LedQ.later {w w' : World} {base bl : Nat} {v : Value} {q : List (Int × Int)} (h : LedQ w base bl v q) (hb : Below w.heap.size w w') : LedQ w' base bl v q :=
  ⟨by rw [hb.block _ (blk_lt h.box)]; exact h.box, h.own.keep fun g hg => hb.block _ (h.own.lt g hg).2, h.lt⟩
theorem LedF.of_below {w w' : World} (bl : Nat) (v : Value) (hb : Below w.heap.size w w') (hbl : bl ≤ w.heap.size) : LedF w w' bl v v := ⟨hb.mono hbl, fun b h _ _ => hb.block b h, Or.inl rfl⟩

theorem box_later' {w w' : World} {B : Nat} {o : Obj} (h : w.heap[B]? = some o) (hb : Below w.heap.size w w') : w'.heap[B]? = some o := by rw [hb.block _ (blk_lt h)]; exact h
set_option maxHeartbeats 1000000 in
theorem lead_any (tt ht : Int) (bl base : Nat) (v : Value) (q : List (Int × Int)) (w : World) (hQ : LedQ w base bl v q) (hbase : base ≤ w.heap.size) (hlen : q.length ≤ 8000000000000) :
    Calls Tryz.prog 92 #[.int .i64 tt, .int .i64 ht, .pointer (some ⟨bl, 0, none⟩)] w fun e w' => e = .returned (.tuple #[]) ∧ ∃ v', LedQ w' base bl v' (q ++ [(tt, ht)]) ∧ LedF w w' bl v v' := by
  obtain ⟨a, cap, rfl, h1, h2⟩ := hQ.own.form
  have c0 := cell_of_one hQ.box
  have hlt := hQ.lt
  have hbl := blk_lt hQ.box
  have hown := hQ.own
  have hf0 := free_of_one hQ.box
  go_enter Tryz.func92, Tryz.ntmps92
  go_wp2_with (at_builtin; refine wpList_append_at rfl (.tmp 5) (.tmp 9) 135 137 _ 2 16 rfl Tryz.underlying135 info137 rfl (by decide) base q.length (.slice a q.length cap) (qCells q) rfl (hown.alloc _) w.heap.size rfl [.int .i64 tt, .int .i64 ht] rfl (blk_new _ _ _ rfl) (by intro u hu; simp at hu; rcases hu with rfl | rfl <;> rfl) (by unfold maxLen; omega) (by omega) (by simp; omega) ?_; intro a' cap' w2 hown2 hob hb2 hblk; have hc2 : w2.cell? ⟨bl, 0, none⟩ = some (.slice a q.length cap) := ((hb2.cell (by simp; omega)).trans (cell_later (bel1 _ _) c0)); have hf2 : w2.frozen? ⟨bl, 0, none⟩ = false := ((hb2.frozen (by simp; omega)).trans (((bel1 _ _).frozen (by simp; omega)).trans hf0)))
  go_end0
  have hbx : w2.heap[bl]? = some (.cells #[.slice a q.length cap] 135 (0, 0)) := by rw [hb2.block _ hlt, (bel1 _ _).block _ (by simpa using hbl)]; exact hQ.box
  refine ⟨rfl, _, ⟨one_setCell hbx, ?_, hlt⟩, ?_, fun b hb h3 h4 => ?_, ?_⟩
  · rw [List.length_append, qCells_append]
    exact hown2.keep fun g hg => setCell_else (by have := (hown2.lt g hg).1; omega) _
  · exact (((bel1 w _).mono (by omega)).trans (hb2.mono (by omega))).setCell (by show bl ≤ bl; exact Nat.le_refl _) _
  · rw [setCell_else h3, hblk b (by simp; omega) h4, (bel1 _ _).block _ (by simpa using hb)]
  · rcases hob with e | ⟨g, e, hg⟩
    · exact Or.inl e
    · exact Or.inr ⟨g, e, by simp at hg; omega⟩
/-- Through arrive's closure: the box bf holds that closure, the box bh the height. -/
theorem lead1_any (tt ht : Int) (bl base bf bh : Nat) (v : Value) (q : List (Int × Int)) (w : World) (hQ : LedQ w base bl v q) (hbase : base ≤ w.heap.size) (hlen : q.length ≤ 8000000000000) (hf : w.cell? ⟨bf, 0, none⟩ = some (.func (.func 92) #[] #[.pointer (some ⟨bl, 0, none⟩)])) (hh : w.cell? ⟨bh, 0, none⟩ = some (.int .i64 ht)) :
    Calls Tryz.prog 106 #[.int .i64 tt, .pointer (some ⟨bf, 0, none⟩), .pointer (some ⟨bh, 0, none⟩)] w fun e w' => e = .returned (.tuple #[]) ∧ ∃ v', LedQ w' base bl v' (q ++ [(tt, ht)]) ∧ LedF w w' bl v v' := by
  go_enter Tryz.func106, Tryz.ntmps106
  go_wp2_with fail
  refine (lead_any tt ht bl base v q w hQ hbase hlen).mono ?_
  rintro e w1 ⟨rfl, h⟩
  go_wp2
  go_end0
  exact ⟨rfl, h⟩
abbrev IV (x : QI) : Value := .agg #[.int .i64 x.op, .int .i64 x.a, .int .i64 x.b, .int .i64 x.c, .string x.name]

set_option maxHeartbeats 1000000 in
theorem leads_any (x : QI) (p ht : Int) (bl base bf bh : Nat) (v : Value) (q : List (Int × Int)) (w : World) (hQ : LedQ w base bl v q) (hbase : base ≤ w.heap.size) (hlen : q.length + 2 ≤ 8000000000000) (hf : w.heap[bf]? = some (.cells #[.func (.func 92) #[] #[.pointer (some ⟨bl, 0, none⟩)]] 138 (0, 0))) (hh : w.heap[bh]? = some (.cells #[.int .i64 ht] 3 (0, 0))) (hbf : bf ≠ bl ∧ some bf ≠ v.ownBlock) (hbh : bh ≠ bl ∧ some bh ≠ v.ownBlock) (hp : IntKind.i64.wrap (p + 1) = p + 1) :
    Calls Tryz.prog 105 #[IV x, .int .i64 p, .func (.func 106) #[] #[.pointer (some ⟨bf, 0, none⟩), .pointer (some ⟨bh, 0, none⟩)]] w fun e w' => e = .returned (.tuple #[]) ∧ ∃ v', LedQ w' base bl v' (q ++ (nextE x p).next.map fun t => (t, ht)) ∧ LedF w w' bl v v' := by
  obtain ⟨op, xa, xb, xc, nm⟩ := x
  have hb1 := bel1 w (Obj.cells #[.int .i64 op, .int .i64 xa, .int .i64 xb, .int .i64 xc, .string nm] 62)
  have hQ1 := hQ.later hb1
  have hF1 := LedF.of_below bl v hb1 (by have := hQ.lt; omega)
  have hf1 := cell_of_one (box_later' hf hb1)
  have hh1 := cell_of_one (box_later' hh hb1)
  have hx1 : ∀ q, (w.alloc (Obj.cells #[.int .i64 op, .int .i64 xa, .int .i64 xb, .int .i64 xc, .string nm] 62)).cell? ⟨w.heap.size, q, none⟩ = (#[Value.int .i64 op, .int .i64 xa, .int .i64 xb, .int .i64 xc, .string nm] : Array Value)[q]? := fun q => cell_new _ _ _ _ rfl q
  have hxb := blk_new w (Obj.cells #[.int .i64 op, .int .i64 xa, .int .i64 xb, .int .i64 xc, .string nm] 62) _ rfl
  have hlt := hQ.lt
  have hvl : some w.heap.size ≠ v.ownBlock := fun e => by have := (hQ.own.lt _ e.symm).2; omega
  go_enter Tryz.func105, Tryz.ntmps105
  by_cases h17 : op = 17
  · subst h17
    go_wp2
    go_end0
    exact ⟨rfl, v, by simpa [nextE] using hQ1, hF1⟩
  · by_cases h15 : op = 15
    · subst h15
      go_wp2_with fail
      refine (lead1_any xa ht bl base bf bh v q _ hQ1 (by simp; omega) (by omega) hf1 hh1).mono ?_
      rintro e w1 ⟨rfl, v', h2, h3⟩
      go_wp2
      go_end0
      exact ⟨rfl, v', by simpa [nextE] using h2, hF1.trans h3⟩
    · by_cases h16 : op = 16
      · subst h16
        go_wp2_with fail
        refine (lead1_any (p + 1) ht bl base bf bh v q _ hQ1 (by simp; omega) (by omega) hf1 hh1).mono ?_
        rintro e w1 ⟨rfl, v', h2, h3⟩
        have hbx : w1.heap[w.heap.size]? = _ := (h3.blk w.heap.size (by simp) (by omega) hvl).trans hxb
        have hx2 : ∀ q, w1.cell? ⟨w.heap.size, q, none⟩ = (#[Value.int .i64 16, .int .i64 xa, .int .i64 xb, .int .i64 xc, .string nm] : Array Value)[q]? := fun q => by rw [cell_of_row _ _ _ _ _ _ hbx]
        have hf2 := cell_of_one ((h3.blk bf (blk_lt (box_later' hf hb1)) hbf.1 hbf.2).trans (box_later' hf hb1))
        have hh2 := cell_of_one ((h3.blk bh (blk_lt (box_later' hh hb1)) hbh.1 hbh.2).trans (box_later' hh hb1))
        have hsz := h3.bel.size
        simp at hsz
        go_wp2_with fail
        refine (lead1_any xa ht bl base bf bh v' _ _ h2 (by omega) (by simp; omega) hf2 hh2).mono ?_
        rintro e w2 ⟨rfl, v2, h4, h5⟩
        go_wp2
        go_end0
        exact ⟨rfl, v2, by simpa [nextE] using h4, (hF1.trans h3).trans h5⟩
      · have hn : (nextE ⟨op, xa, xb, xc, nm⟩ p).next = [p + 1] := by
          unfold nextE
          simp only [h15, h16, h17, if_false]
          (repeat' split) <;> rfl
        go_wp2_with fail
        refine (lead1_any (p + 1) ht bl base bf bh v q _ hQ1 (by simp; omega) (by omega) hf1 hh1).mono ?_
        rintro e w1 ⟨rfl, v', h2, h3⟩
        go_wp2
        go_end0
        refine ⟨rfl, v', ?_, hF1.trans h3⟩
        rw [hn]
        exact h2

/-- What an instruction needs, and leaves, of right numbers. -/
theorem wrap_of {n : Int} (h1 : -9223372036854775808 ≤ n) (h2 : n ≤ 9223372036854775807) : IntKind.i64.wrap n = n := by rw [IntKind.wrap_i64]; omega
set_option maxHeartbeats 1000000 in
theorem effect_any (x : QI) (p : Int) (w : World) (hx : x.op = 14 → 0 ≤ x.a ∧ x.a ≤ 4) : Calls Tryz.prog 111 #[IV x] w fun e w' => e = .returned (.tuple #[.int .i64 (nextE x p).need, .int .i64 ((nextE x p).need + (nextE x p).more)]) ∧ Below w.heap.size w w' := by
  obtain ⟨op, xa, xb, xc, nm⟩ := x
  simp only at hx
  go_enter Tryz.func111, Tryz.ntmps111
  by_cases h1 : op = 9 ∨ op = 11 ∨ op = 12
  · rcases h1 with rfl | rfl | rfl
    all_goals
      go_wp2
      refine bodyPost_ret (v := .tuple #[.int .i64 1, .int .i64 0]) (by simp [results, Tryz.results111, go_sem]) rfl ⟨by simp [nextE], bel1 _ _⟩
  · by_cases h2 : op = 16
    · subst h2
      go_wp2
      refine bodyPost_ret (v := .tuple #[.int .i64 1, .int .i64 0]) (by simp [results, Tryz.results111, go_sem]) rfl ⟨by simp [nextE], bel1 _ _⟩
    · by_cases h3 : op = 17
      · subst h3
        go_wp2
        refine bodyPost_ret (v := .tuple #[.int .i64 1, .int .i64 0]) (by simp [results, Tryz.results111, go_sem]) rfl ⟨by simp [nextE], bel1 _ _⟩
      · by_cases h4 : op = 10
        · subst h4
          go_wp2
          refine bodyPost_ret (v := .tuple #[.int .i64 1, .int .i64 2]) (by simp [results, Tryz.results111, go_sem]) rfl ⟨by simp [nextE], bel1 _ _⟩
        · by_cases h5 : op = 14
          · subst h5
            obtain ⟨q1, q2⟩ := hx rfl
            go_wp2
            refine bodyPost_ret (v := .tuple #[.int .i64 (xa + 1), .int .i64 1]) (by simp [results, Tryz.results111, go_sem]) rfl ⟨?_, bel1 _ _⟩
            simp [nextE]
            omega
          · by_cases h6 : op = 15
            · subst h6
              go_wp2
              refine bodyPost_ret (v := .tuple #[.int .i64 0, .int .i64 0]) (by simp [results, Tryz.results111, go_sem]) rfl ⟨by simp [nextE], bel1 _ _⟩
            · have n1 : ¬ op = 9 := fun h => h1 (Or.inl h)
              have n2 : ¬ op = 11 := fun h => h1 (Or.inr (Or.inl h))
              have n3 : ¬ op = 12 := fun h => h1 (Or.inr (Or.inr h))
              go_wp2
              refine bodyPost_ret (v := .tuple #[.int .i64 0, .int .i64 1]) (by simp [results, Tryz.results111, go_sem]) rfl ⟨by simp [nextE, h2, h3, h4, h5, h6, n1, n2, n3], bel1 _ _⟩

/-- The height behind an instruction, and what is wrong. -/
def stepE (x : QI) (p n : Int) : Int × Int := if n < (nextE x p).need ∨ x.op = 17 ∧ n ≠ 1 then (0, 8) else if 12 < n + (nextE x p).more then (0, 4) else (n + (nextE x p).more, 0)
set_option maxHeartbeats 1000000 in
theorem step_any (x : QI) (p n : Int) (w : World) (hx : x.op = 14 → 0 ≤ x.a ∧ x.a ≤ 4) (hn : 0 ≤ n ∧ n ≤ 12) : Calls Tryz.prog 104 #[IV x, .int .i64 n] w fun e w' => e = .returned (.tuple #[.int .i64 (stepE x p n).1, .int .i64 (stepE x p n).2]) ∧ Below w.heap.size w w' := by
  obtain ⟨r1, r2, r3, r4, r5, -⟩ := nextE_range hx p
  have he := effect_any x p (w.alloc (Obj.cells #[.int .i64 x.op, .int .i64 x.a, .int .i64 x.b, .int .i64 x.c, .string x.name] 62)) hx
  have HSE : Hid (stepE x p n = if n < (nextE x p).need ∨ x.op = 17 ∧ n ≠ 1 then (0, 8) else if 12 < n + (nextE x p).more then (0, 4) else (n + (nextE x p).more, 0)) := rfl
  generalize stepE x p n = r at *
  generalize hN : nextE x p = N at *
  obtain ⟨need, more, next⟩ := N
  simp only at r1 r2 r3 r4 r5 he HSE
  clear hN
  have hw1 : IntKind.i64.wrap (n - need) = n - need := wrap_of (by omega) (by omega)
  have hw2 : IntKind.i64.wrap (n - need + (need + more)) = n + more := by rw [show n - need + (need + more) = n + more by omega]; exact wrap_of (by omega) (by omega)
  go_enter Tryz.func104, Tryz.ntmps104
  go_wp2_with fail
  refine he.mono ?_
  rintro e w1 ⟨rfl, hb⟩
  have hx0 : w1.cell? ⟨w.heap.size, 0, none⟩ = some (.int .i64 x.op) := cell_later hb (by rw [cell_new _ _ _ _ rfl]; rfl)
  have hB := nstep (bel1 _ _) hb
  clear hb he
  by_cases h1 : n < need
  · go_wp2
    refine bodyPost_ret (v := .tuple #[.int .i64 0, .int .i64 8]) (by simp [results, Tryz.results104, go_sem]) rfl ⟨?_, hB⟩
    rw [HSE.out, if_pos (Or.inl h1)]
  · have h1' : decide (n < need) = false := by simpa using h1
    by_cases h2 : x.op = 17
    · by_cases h3 : n = 1
      · subst h3
        by_cases h4 : 12 < 1 + more
        · omega
        · go_wp2
          refine bodyPost_ret (v := .tuple #[.int .i64 (1 + more), .int .i64 0]) (by simp [results, Tryz.results104, go_sem]) rfl ⟨?_, hB⟩
          rw [HSE.out, if_neg (by omega), if_neg (by omega)]
      · have h3' : (n != 1) = true := by simpa using h3
        go_wp2
        refine bodyPost_ret (v := .tuple #[.int .i64 0, .int .i64 8]) (by simp [results, Tryz.results104, go_sem]) rfl ⟨?_, hB⟩
        rw [HSE.out, if_pos (Or.inr ⟨h2, h3⟩)]
    · by_cases h4 : 12 < n + more
      · go_wp2
        refine bodyPost_ret (v := .tuple #[.int .i64 0, .int .i64 4]) (by simp [results, Tryz.results104, go_sem]) rfl ⟨?_, hB⟩
        rw [HSE.out, if_neg (by omega), if_pos h4]
      · go_wp2
        refine bodyPost_ret (v := .tuple #[.int .i64 (n + more), .int .i64 0]) (by simp [results, Tryz.results104, go_sem]) rfl ⟨?_, hB⟩
        rw [HSE.out, if_neg (by omega), if_neg (by omega)]
end Go.Proofs.YtjmidhghiahbaaaGreatDoor
