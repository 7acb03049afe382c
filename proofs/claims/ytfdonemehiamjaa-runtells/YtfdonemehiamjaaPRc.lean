/- A call, read. -/
import Derived.Test.YtfdonemehiamjaaPRa
import Derived.Test.YtfdonemehiamjaaPZr
namespace Go.Proofs.Ytfdonemehiamjaa
open Go.ChangeShapes Go.WideShapes Go.ChangeAt Go.RowKit
set_option linter.unusedSimpArgs false
set_option linter.unusedVariables false
set_option maxRecDepth 8000
section
variable {H : Type} {enc : TypeId × Value → H} {w : World} {base : Nat} {spare : Nat → Bool} {held : Bool}
theorem cells30 : Try.prog.cellsOf 30 = 4 := by kernel_rfl
theorem open_call {r : Reach} {b0 : Nat} {v : Value} {d : DataW H} {p : List MemPlace} (hv : Value.okWide Try.prog w r b0 30 v) (h : DataW.Trod enc Try.prog w base spare held 30 v d p) (hw : ∀ n ∈ d.weights Try.prog 30, n ≤ 140737488351232) : ∃ (s : QV) (name : ByteArray) (av : Value) (args : List QV), v = ClV s name av ∧ name.size ≤ 140737488351232 ∧ IsVals Tru w av args := by
  obtain ⟨cs, rfl, hsz⟩ := okWide_struct Try.underlying30 hv
  obtain ⟨c0, c1, c2, c3, rfl⟩ := Joins.array4 (hsz.trans cells30)
  obtain ⟨fuel, hf0⟩ := h
  obtain ⟨xs, k, hk, hxy, _, hxl, hf⟩ := DataW.trod_struct Try.underlying30 hf0
  match xs, hxl with
  | [y0, y1, y2], _ =>
    have g0 := hf 0 _ rfl
    have g1 := hf 1 _ rfl
    have g2 := hf 2 _ rfl
    simp [Value.cells, cells27, cells9, cells28] at g0 g1 g2
    simp only [Prod.mk.injEq] at hxy
    obtain ⟨rfl, -⟩ := hxy
    obtain ⟨y, hy⟩ := read_val rfl g0
    obtain ⟨z0, z1⟩ := hy
    simp at z0 z1
    subst z0 z1
    obtain ⟨s, e1, e2, -⟩ := DataW.trod_string Try.underlying9 g1
    simp at e1
    subst e1
    obtain ⟨l, hl⟩ := read_vals g2 (fun q hq => hw q (weights_at (j := 2) (xs := [y0, y1, y2]) Try.underlying30 rfl rfl q hq))
    have hs : s.size ≤ 140737488351232 := by
      have := hw s.data.toList.length (weights_at (j := 1) (xs := [y0, y1, y2]) Try.underlying30 rfl rfl _ (by rw [e2]; simp [DataW.weights]))
      simpa using this
    exact ⟨y, s, _, l, rfl, hs, hl⟩
end
end Go.Proofs.Ytfdonemehiamjaa
