/- Package code: places that are led to; what an instruction needs and leaves; arrive. -/
import Derived.Test.YtdfbgpiikeheiaaKb
import Derived.Test.YtdfbgpiikeheiaaKc
namespace Go.Proofs.Ytdfbgpiikeheiaa
open Go.ChangeShapes Go.WideShapes Go.ChangeAt Go.RowKit
set_option linter.unusedSimpArgs false
set_option linter.unusedVariables false
set_option maxRecDepth 8000

def qCells : List (Int × Int) → List Value
  | [] => []
  | p :: q => .int .i64 p.1 :: .int .i64 p.2 :: qCells q
theorem qCells_len : ∀ q, (qCells q).length = q.length * 2
  | [] => rfl
  | p :: q => by simp [qCells, qCells_len q]; omega
theorem qCells_append : ∀ q r, qCells (q ++ r) = qCells q ++ qCells r
  | [], r => rfl
  | p :: q, r => by simp [qCells, qCells_append q r]
/-- The box bl holds the slice v of places that wait. -/
structure LedQ (w : World) (base bl : Nat) (v : Value) (q : List (Int × Int)) : Prop where
  box : w.heap[bl]? = some (.cells #[v] 79 (0, 0))
  own : ownsAt w base 28 2 v q.length (qCells q)
  lt : bl < base
/-- All but the box, and the row, are as they were. -/
structure LedF (w w' : World) (bl : Nat) (v v' : Value) : Prop where
  bel : Below bl w w'
  blk : ∀ b, b < w.heap.size → b ≠ bl → some b ≠ v.ownBlock → w'.heap[b]? = w.heap[b]?
  own : v'.ownBlock = v.ownBlock ∨ ∃ g, v'.ownBlock = some g ∧ w.heap.size ≤ g
theorem LedF.refl (w : World) (bl : Nat) (v : Value) : LedF w w bl v v := ⟨Below.refl _ _, fun _ _ _ _ => rfl, Or.inl rfl⟩
theorem LedF.trans {w w' w'' : World} {bl : Nat} {v v' v'' : Value} (h : LedF w w' bl v v') (k : LedF w' w'' bl v' v'') : LedF w w'' bl v v'' := by
  refine ⟨h.bel.trans k.bel, fun b hb h1 h2 => ?_, ?_⟩
  · rw [k.blk b (Nat.lt_of_lt_of_le hb h.bel.size) h1 ?_, h.blk b hb h1 h2]
    rcases h.own with e | ⟨g, e, hg⟩
    · rw [e]; exact h2
    · rw [e]; intro e'; cases e'; omega
  · rcases k.own with e | ⟨g, e, hg⟩
    · rw [e]; exact h.own
    · exact Or.inr ⟨g, e, Nat.le_trans h.bel.size hg⟩
theorem LedQ.later {w w' : World} {base bl : Nat} {v : Value} {q : List (Int × Int)} (h : LedQ w base bl v q) (hb : Below w.heap.size w w') : LedQ w' base bl v q :=
  ⟨by rw [hb.block _ (blk_lt h.box)]; exact h.box, h.own.keep fun g hg => hb.block _ (h.own.lt g hg).2, h.lt⟩
theorem LedF.of_below {w w' : World} (bl : Nat) (v : Value) (hb : Below w.heap.size w w') (hbl : bl ≤ w.heap.size) : LedF w w' bl v v := ⟨hb.mono hbl, fun b h _ _ => hb.block b h, Or.inl rfl⟩

theorem box_later' {w w' : World} {B : Nat} {o : Obj} (h : w.heap[B]? = some o) (hb : Below w.heap.size w w') : w'.heap[B]? = some o := by rw [hb.block _ (blk_lt h)]; exact h
abbrev IV (x : QI) : Value := .agg #[.int .i64 x.op, .int .i64 x.a, .int .i64 x.b, .int .i64 x.c, .string x.name]

/-- What an instruction needs, and leaves, of right numbers. -/
theorem wrap_of {n : Int} (h1 : -9223372036854775808 ≤ n) (h2 : n ≤ 9223372036854775807) : IntKind.i64.wrap n = n := by rw [IntKind.wrap_i64]; omega
/-- The height behind an instruction, and what is wrong. -/
def stepE (x : QI) (p n : Int) : Int × Int := if n < (nextE x p).need ∨ x.op = 17 ∧ n ≠ 1 then (0, 8) else if 12 < n + (nextE x p).more then (0, 4) else (n + (nextE x p).more, 0)
end Go.Proofs.Ytdfbgpiikeheiaa
