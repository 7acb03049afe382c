/- A method that came in. -/
import Derived.Test.YtahcmmdlggcfbaaRa
import Derived.Lib.SmallJoins
namespace Go.Proofs.Ytahcmmdlggcfbaa
open Go.ChangeShapes Go.WideShapes Go.ChangeAt Go.RowKit
set_option linter.unusedSimpArgs false
set_option linter.unusedVariables false
set_option maxRecDepth 8000

theorem array5 {a : Array Value} (h : a.size = 5) : ∃ v0 v1 v2 v3 v4, a = #[v0, v1, v2, v3, v4] := by
  match a, h with
  | ⟨[v0, v1, v2, v3, v4]⟩, _ => exact ⟨v0, v1, v2, v3, v4, rfl⟩
section
variable {H : Type} {enc : TypeId × Value → H} {w : World} {base : Nat} {spare : Nat → Bool} {held : Bool}
theorem open_meth {r : Reach} {b0 : Nat} {v : Value} {d : DataW H} {p : List MemPlace} (hv : Value.okWide Try.prog w r b0 28 v) (h : DataW.Trod enc Try.prog w base spare held 28 v d p) (hw : ∀ n ∈ d.weights Try.prog 28, n ≤ 140737488351232) : ∃ (m : QM) (mv : Value), v = MV m mv ∧ IsCode Tru w mv m.code ∧ m.name.size ≤ 140737488351232 := by
  obtain ⟨cs, rfl, hsz⟩ := okWide_struct Try.underlying28 hv
  obtain ⟨c0, c1, c2, c3, c4, rfl⟩ := array5 (hsz.trans cells28)
  obtain ⟨fuel, hf⟩ := h
  obtain ⟨y, h0, h1, h2, h3, hs, u, h4, hc⟩ := read_meth (x := (d, p)) (cs := [c0, c1, c2, c3, c4]) rfl (by simpa [Value.cells] using hf) hw
  simp at h0 h1 h2 h3 h4
  subst h0 h1 h2 h3 h4
  exact ⟨y, c4, rfl, hc, hs⟩
end
end Go.Proofs.Ytahcmmdlggcfbaa
