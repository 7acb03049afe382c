/- Inline: what Method's loop holds in memory. -/
import Derived.Test.YthaefhojnjdheaaIg
import Derived.Test.YthaefhojnjdheaaIe
import Derived.Test.YthaefhojnjdheaaIf
import Derived.Test.YthaefhojnjdheaaIh
import Derived.Test.YthaefhojnjdheaaKf
namespace Go.Proofs.Ythaefhojnjdheaa
open Go.ChangeShapes Go.WideShapes Go.ChangeAt Go.RowKit
set_option linter.unusedSimpArgs false
set_option linter.unusedVariables false
set_option maxRecDepth 8000

structure MtL (Z : World) (bm : Nat) (m : QM) (kv : Value) (c ep tm : Int) (code : List QI) (bl : List Int) (a : Option Addr) (cap : Nat) (wr : World) : Prop where
  os : wr.os = Z.os
  tape : wr.tape = Z.tape
  output : wr.output = Z.output
  sz : bm + 3 ≤ wr.heap.size
  fix : ∀ b, b < bm → wr.heap[b]? = Z.heap[b]?
  mb : wr.heap[bm]? = some (.cells #[.string m.name, .int .i64 m.args, .int .i64 m.temps, .int .i64 m.prim, kv] 48 (0, 0))
  fb : wr.heap[bm + 1]? = some (.cells #[.int .i64 c, .string m.name, .int .i64 ep, .int .i64 tm, .slice a code.length cap] 31 (0, 0))
  gb : wr.heap[bm + 2]? = some (.cells (bl.map (Value.int .i64)).toArray 3 (0, 0))
  own : OwnI wr (bm + 3) a cap code
section
variable {Z : World} {bm : Nat} {m : QM} {kv : Value} {c ep tm : Int} {code : List QI} {bl : List Int} {a : Option Addr} {cap : Nat} {wr w' : World}
theorem MtL.later (h : MtL Z bm m kv c ep tm code bl a cap wr) (hb : Below wr.heap.size wr w') : MtL Z bm m kv c ep tm code bl a cap w' :=
  ⟨hb.os.trans h.os, hb.tape.trans h.tape, hb.output.trans h.output, Nat.le_trans h.sz hb.size, fun b hb' => (hb.block b (by have := h.sz; omega)).trans (h.fix b hb'), box_later' h.mb hb, box_later' h.fb hb, box_later' h.gb hb, h.own.keep fun g hg => hb.block g (h.own.lt g hg).2⟩
theorem MtL.setG (h : MtL Z bm m kv c ep tm code bl a cap wr) (j : Nat) (t : Int) : MtL Z bm m kv c ep tm code (bl.set j t) a cap (wr.setCell ⟨bm + 2, j, none⟩ (.int .i64 t)) := by
  have hd : Below 0 wr (wr.setCell ⟨bm + 2, j, none⟩ (.int .i64 t)) := (Below.refl 0 wr).setCell (Nat.zero_le _) _
  refine ⟨hd.os.trans h.os, hd.tape.trans h.tape, hd.output.trans h.output, by rw [size_setCell]; exact h.sz, fun b hb => by rw [setCell_else (by omega)]; exact h.fix b hb, by rw [setCell_else (by omega)]; exact h.mb, by rw [setCell_else (by omega)]; exact h.fb, ?_, h.own.keep fun g hg => setCell_else (by have := (h.own.lt g hg).1; omega) _⟩
  rw [setCell_same h.gb, List.map_set]
  simp
theorem MtL.setT (h : MtL Z bm m kv c ep tm code bl a cap wr) (t : Int) : MtL Z bm m kv c ep t code bl a cap (wr.setCell ⟨bm + 1, 3, none⟩ (.int .i64 t)) := by
  have hd : Below 0 wr (wr.setCell ⟨bm + 1, 3, none⟩ (.int .i64 t)) := (Below.refl 0 wr).setCell (Nat.zero_le _) _
  refine ⟨hd.os.trans h.os, hd.tape.trans h.tape, hd.output.trans h.output, by rw [size_setCell]; exact h.sz, fun b hb => by rw [setCell_else (by omega)]; exact h.fix b hb, by rw [setCell_else (by omega)]; exact h.mb, ?_, by rw [setCell_else (by omega)]; exact h.gb, h.own.keep fun g hg => setCell_else (by have := (h.own.lt g hg).1; omega) _⟩
  rw [setCell_same h.fb]; rfl
/-- More code. -/
theorem MtL.setC {U : World} {a' : Option Addr} {cap' : Nat} {ys : List QI} (h : MtL Z bm m kv c ep tm code bl a cap U) (r1 : OwnI w' (bm + 3) a' cap' (code ++ ys)) (r3 : Below (bm + 3) U w') : MtL Z bm m kv c ep tm (code ++ ys) bl a' cap' (w'.setCell ⟨bm + 1, 4, none⟩ (.slice a' (code ++ ys).length cap')) := by
  have hd : Below 0 w' (w'.setCell ⟨bm + 1, 4, none⟩ (.slice a' (code ++ ys).length cap')) := (Below.refl 0 w').setCell (Nat.zero_le _) _
  have hs := h.sz
  refine ⟨hd.os.trans (r3.os.trans h.os), hd.tape.trans (r3.tape.trans h.tape), hd.output.trans (r3.output.trans h.output), by rw [size_setCell]; exact Nat.le_trans hs r3.size, fun b hb => by rw [setCell_else (by omega), r3.block b (by omega)]; exact h.fix b hb, by rw [setCell_else (by omega), r3.block _ (by omega)]; exact h.mb, ?_, by rw [setCell_else (by omega), r3.block _ (by omega)]; exact h.gb, r1.keep fun g hg => setCell_else (by have := (r1.lt g hg).1; omega) _⟩
  rw [setCell_same (show w'.heap[bm + 1]? = _ by rw [r3.block _ (by omega)]; exact h.fb)]; rfl
theorem MtL.below {w : World} (h : MtL Z bm m kv c ep tm code bl a cap wr) (hb : Below w.heap.size w Z) (hl : w.heap.size ≤ bm) : Below w.heap.size w wr := ⟨h.os.trans hb.os, h.tape.trans hb.tape, h.output.trans hb.output, by have := h.sz; omega, fun b hb' => (h.fix b (by omega)).trans (hb.block b hb')⟩
theorem MtL.f0 (h : MtL Z bm m kv c ep tm code bl a cap wr) : wr.cell? ⟨bm + 1, 0, none⟩ = some (.int .i64 c) := by rw [cell_of_row _ _ _ _ _ _ h.fb]; rfl
theorem MtL.f1 (h : MtL Z bm m kv c ep tm code bl a cap wr) : wr.cell? ⟨bm + 1, 1, none⟩ = some (.string m.name) := by rw [cell_of_row _ _ _ _ _ _ h.fb]; rfl
theorem MtL.f2 (h : MtL Z bm m kv c ep tm code bl a cap wr) : wr.cell? ⟨bm + 1, 2, none⟩ = some (.int .i64 ep) := by rw [cell_of_row _ _ _ _ _ _ h.fb]; rfl
theorem MtL.f3 (h : MtL Z bm m kv c ep tm code bl a cap wr) : wr.cell? ⟨bm + 1, 3, none⟩ = some (.int .i64 tm) := by rw [cell_of_row _ _ _ _ _ _ h.fb]; rfl
theorem MtL.f4 (h : MtL Z bm m kv c ep tm code bl a cap wr) : wr.cell? ⟨bm + 1, 4, none⟩ = some (.slice a code.length cap) := by rw [cell_of_row _ _ _ _ _ _ h.fb]; rfl
theorem MtL.m4 (h : MtL Z bm m kv c ep tm code bl a cap wr) : wr.cell? ⟨bm, 4, none⟩ = some kv := by rw [cell_of_row _ _ _ _ _ _ h.mb]; rfl
theorem MtL.g (h : MtL Z bm m kv c ep tm code bl a cap wr) {j : Nat} {t : Int} (hj : bl[j]? = some t) : wr.cell? ⟨bm + 2, j, none⟩ = some (.int .i64 t) := by rw [cell_of_row _ _ _ _ _ _ h.gb]; simp [hj]
theorem MtL.ff (h : MtL Z bm m kv c ep tm code bl a cap wr) (o : Nat) : wr.frozen? ⟨bm + 1, o, none⟩ = false := row_free h.fb o
theorem MtL.gf (h : MtL Z bm m kv c ep tm code bl a cap wr) (o : Nat) : wr.frozen? ⟨bm + 2, o, none⟩ = false := row_free h.gb o
theorem MtL.old (h : MtL Z bm m kv c ep tm code bl a cap wr) {b o : Nat} {v : Value} (hb : b < bm) (hv : Z.cell? ⟨b, o, none⟩ = some v) : wr.cell? ⟨b, o, none⟩ = some v := by
  unfold World.cell? at hv ⊢; rw [h.fix b hb]; exact hv
theorem MtL.capOk (h : MtL Z bm m kv c ep tm code bl a cap wr) : code.length ≤ cap ∧ cap ≤ 9223372036854775807 := by
  obtain ⟨a', c', e, h1, h2⟩ := h.own.form
  cases e; unfold maxLen at h2; exact ⟨h1, by omega⟩
end
theorem begins_set {s : List Int} {n j : Nat} {t : Int} (hs : s.length = j) (hj : j < n) : (s ++ List.replicate (n - j) 0).set j t = s ++ [t] ++ List.replicate (n - (j + 1)) 0 := by
  rw [show n - j = (n - (j + 1)) + 1 by omega, List.replicate_succ, List.set_append]
  simp [hs]
/-- What Method leaves. -/
def MtPost (w : World) (r : Fst × Bool) (e : Ending) (w' : World) : Prop :=
  ∃ a cap, e = .returned (.tuple #[FsV r.1 (.slice a r.1.code.length cap), .bool r.2]) ∧ IsCode (fun b => w.heap.size ≤ b ∧ b < w'.heap.size) w' (.slice a r.1.code.length cap) r.1.code ∧ Below w.heap.size w w'
end Go.Proofs.Ythaefhojnjdheaa
