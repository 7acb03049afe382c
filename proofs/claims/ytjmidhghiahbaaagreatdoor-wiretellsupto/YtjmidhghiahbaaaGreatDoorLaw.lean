/- Laws on memory that the library lacks: the built-in copy over a whole row whose elements take more than one cell. -/
import Derived.WalkKit
import Derived.Laws.CopyOwn
import Derived.Laws.Append
namespace Go.Proofs.YtjmidhghiahbaaaGreatDoor
open Go.RowKit

/-- 'copy(own, l)' where both have as many elements: behind it the row of own holds the cells of l. -/
theorem run_copy_whole {P : Program} (w : World) (dT sT ty elem : TypeId) (sz g len dCap : Nat) (sp : Option Addr) (sCap : Nat) (cur : Array Value) (t : TypeId) (cs : List Value)
    (hu : P.underlying dT = some (.slice elem)) (hs : (P.info? elem).map (·.size) = some sz) (hg : w.heap[g]? = some (.cells cur t (0, 0))) (hn : cs.length = len * sz)
    (hsrc : ∀ j v, cs[j]? = some v → ∃ a, sp = some a ∧ w.cell? (a.add j) = some v) (hcur : cur.size = len * sz) (h1 : ∀ v ∈ cs, v.oneCell' = true) :
    ∃ w', (Builtin.copy_ #[dT, sT] ty #[.slice (some ⟨g, 0, none⟩) len dCap, .slice sp len sCap]).run P w = .ok (goInt len) w' ∧ w'.heap[g]? = some (.cells cs.toArray t (0, 0)) ∧ ∀ B w0, Below B w0 w → B ≤ g → Below B w0 w' := by
  cases hq : P.info? elem with
  | none => simp [hq] at hs
  | some i =>
    have hi : i.size = sz := by simpa [hq] using hs
    have hst := run_storeCells_at P g 0 t cs 0 cur w hg (by simp; omega) h1
    have hm : Nat.min len len = len := Nat.min_self len
    have hfc : (Builtin.firstCells sz len (.slice sp len sCap)).run P w = .ok cs.toArray w := by
      cases sp with
      | some a => exact run_firstCells_some w sz len a len sCap cs hn (fun j v hv => by obtain ⟨a', e, h⟩ := hsrc j v hv; cases e; exact h)
      | none =>
        have : cs = [] := by
          cases cs with
          | nil => rfl
          | cons c r => obtain ⟨a', e, _⟩ := hsrc 0 c rfl; cases e
        rw [this]
        exact run_firstCells_none w sz len len sCap
    refine ⟨w.setRow g cs.toArray, ?_, setRow_heap w g cur _ t _ hg, fun B w0 hb hB => below_setRow hb hB _⟩
    have e : (cur.toList.take (0 + 0) ++ cs ++ cur.toList.drop (0 + 0 + cs.length)).toArray = cs.toArray := by
      have : cur.toList.drop cs.length = [] := by rw [List.drop_eq_nil_iff]; simp; omega
      simp [this]
    rw [e] at hst
    simp [Builtin.copy_, run_underlying hu, Builtin.lenOf, sizeOf, typeInfo, hq, hi, hm, hfc, hst]

theorem wpList_copy_whole {P : Program} {w : World} {ops : Array Oper} {rest : List Oper} {o : Oper} {a : Act} {Q : Exit → Act → World → Prop} (hgd : o.guard = none) (d s : Operand) (dT sT : TypeId)
    (ho : o.op = .call { callee := .builtin .copy, args := #[d, s], argTypes := #[dT, sT] }) (elem : TypeId) (hu : P.underlying dT = some (.slice elem)) (sz : Nat) (hsz : (P.info? elem).map (·.size) = some sz)
    (g len dCap : Nat) (sp : Option Addr) (sCap : Nat) (hd : a.eval d = .slice (some ⟨g, 0, none⟩) len dCap) (hs : a.eval s = .slice sp len sCap)
    (cur : Array Value) (t : TypeId) (hg : w.heap[g]? = some (.cells cur t (0, 0))) (cs : List Value) (hn : cs.length = len * sz)
    (hsrc : ∀ j v, cs[j]? = some v → ∃ a, sp = some a ∧ w.cell? (a.add j) = some v) (hcur : cur.size = len * sz) (h1 : ∀ v ∈ cs, v.oneCell' = true)
    (h : ∀ w', w'.heap[g]? = some (.cells cs.toArray t (0, 0)) → (∀ B w0, Below B w0 w → B ≤ g → Below B w0 w') → wpList P ops Q rest (a.put o.dst (goInt len)) w') : wpList P ops Q (o :: rest) a w := by
  refine wpList_plain hgd fun K hK => ?_
  obtain ⟨w', hrun, h2, h3⟩ := run_copy_whole (P := P) w dT sT o.type elem sz g len dCap sp sCap cur t cs hu hsz hg hn hsrc hcur h1
  unfold Oper.wp
  simp [execOp, ho, resolve, invoke, builtin, hd, hs, hrun, Result.andThen]
  exact hK _ _ (h w' h2 h3)

end Go.Proofs.YtjmidhghiahbaaaGreatDoor
