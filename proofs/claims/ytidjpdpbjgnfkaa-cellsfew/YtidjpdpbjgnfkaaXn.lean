/- CellsFew's walk. -/
import Derived.Test.YtidjpdpbjgnfkaaXf
import Derived.Maps.RangeWalk
import Derived.Maps.OwnSet
namespace Go.Proofs.Ytidjpdpbjgnfkaa
open Go.ChangeShapes Go.WideShapes Go.ChangeAt Go.RowKit Go.Maps
set_option linter.unusedSimpArgs false
set_option linter.unusedVariables false
set_option maxRecDepth 8000

theorem law3 : Keyed Try.prog 3 := int_keyed Try.underlying3
/-- What the site's cell is, and which classes were. -/
structure FewI (s : QS) (ep : Int) (x : QE) (D : DataW Unit) : Prop where
  site : x.site = s
  epoch : x.epoch = ep
  few : (x.many = false ∧ x.lines.length ≤ 3 ∧ Maps.size D = x.lines.length ∧ (∀ y ∈ x.lines, y.found = y.cls) ∧ ∀ k : Int, Maps.has D (.int .i64 k) = true ↔ ∃ y ∈ x.lines, y.cls = k) ∨ (x.many = true ∧ x.lines = [] ∧ 4 ≤ Maps.size D)
theorem FewI.start (s : QS) (ep : Int) : FewI s ep ⟨s, ep, false, []⟩ (.map []) := ⟨rfl, rfl, Or.inl ⟨rfl, by simp, rfl, fun y hy => by simp at hy, fun k => by simp [Maps.has]⟩⟩
theorem any_mem (ls : List QL) (c : Int) : 0 ≤ findI (fun y : QL => y.cls == c) ls ↔ ∃ y ∈ ls, y.cls = c := by
  rcases findI_cases (fun y : QL => y.cls == c) ls with hf | ⟨j, y, hf, hy, hp, -⟩
  · have := find_none hf
    rw [List.find?_eq_none] at this
    rw [hf]
    constructor
    · intro h; omega
    · rintro ⟨y, hy, e⟩; exact absurd (by simpa using e) (this y hy)
  · rw [hf]
    exact ⟨fun _ => ⟨y, List.mem_of_getElem? hy, by simpa using hp⟩, fun _ => by omega⟩
theorem FewI.put {s : QS} {ep : Int} {x : QE} {D : DataW Unit} (h : FewI s ep x D) (c : Int) (hD : IsMap D) (hT : Tidy D) (d : DataW Unit) : FewI s ep (withLineE x ⟨c, c⟩) (D.put (.int .i64 c) d) := by
  have hk : WideAt.IsKeyLit (.int .i64 c) := trivial
  refine ⟨(withLine_site x _).1.trans h.site, (withLine_site x _).2.trans h.epoch, ?_⟩
  have hsz := size_put hT (k := .int .i64 c) d
  rcases h.few with ⟨h1, h2, h3, h4, h5⟩ | ⟨h1, h2, h3⟩
  · by_cases hm : ∃ y ∈ x.lines, y.cls = c
    · have hw : withLineE x ⟨c, c⟩ = x := by unfold withLineE; rw [if_pos (Or.inr ((any_mem _ _).2 hm))]
      rw [hw]
      left
      rw [if_pos ((h5 c).2 hm)] at hsz
      refine ⟨h1, h2, by rw [hsz, h3], h4, fun k => ?_⟩
      by_cases hkc : k = c
      · subst hkc
        exact ⟨fun _ => hm, fun _ => has_put_same hD hk d⟩
      · rw [has_put_other (by intro e; injection e with _ e; exact hkc e)]
        exact h5 k
    · have hh : Maps.has D (.int .i64 c) = false := by
        cases hq : Maps.has D (.int .i64 c) with
        | false => rfl
        | true => exact absurd ((h5 c).1 hq) hm
      rw [hh] at hsz
      simp only [Bool.false_eq_true, if_false] at hsz
      have hno : ¬ (x.many = true ∨ 0 ≤ findI (fun z : QL => z.cls == c) x.lines) := by
        rw [h1]
        rintro (h | h)
        · cases h
        · exact hm ((any_mem _ _).1 h)
      by_cases h3' : 3 ≤ x.lines.length
      · have hw : withLineE x ⟨c, c⟩ = ⟨x.site, x.epoch, true, []⟩ := by unfold withLineE; rw [if_neg hno, if_pos h3']
        rw [hw]
        right
        exact ⟨rfl, rfl, by omega⟩
      · have hw : withLineE x ⟨c, c⟩ = ⟨x.site, x.epoch, x.many, x.lines ++ [⟨c, c⟩]⟩ := by unfold withLineE; rw [if_neg hno, if_neg h3']
        rw [hw]
        left
        refine ⟨h1, by simp; omega, by simp; omega, fun y hy => ?_, fun k => ?_⟩
        · simp at hy
          rcases hy with hy | rfl
          · exact h4 y hy
          · rfl
        · by_cases hkc : k = c
          · subst hkc
            exact ⟨fun _ => ⟨⟨k, k⟩, by simp, rfl⟩, fun _ => has_put_same hD hk d⟩
          · rw [has_put_other (by intro e; injection e with _ e; exact hkc e), h5 k]
            constructor
            · rintro ⟨y, hy, e⟩; exact ⟨y, by simp [hy], e⟩
            · rintro ⟨y, hy, e⟩
              simp at hy
              rcases hy with hy | rfl
              · exact ⟨y, hy, e⟩
              · exact absurd e.symm hkc
  · have hw : withLineE x ⟨c, c⟩ = x := by unfold withLineE; rw [if_pos (Or.inl h1)]
    rw [hw]
    right
    refine ⟨h1, h2, ?_⟩
    rw [hsz]
    split <;> omega
theorem FewI.len {s : QS} {ep : Int} {x : QE} {D : DataW Unit} (h : FewI s ep x D) : x.lines.length ≤ 3 := by
  rcases h.few with ⟨h1, h2, h3, h4, h5⟩ | ⟨h1, h2, h3⟩
  · exact h2
  · rw [h2]; simp
theorem getE_one (x : QE) (k : Int) : getE [x] x.site x.epoch k = lineE x.lines k := by simp [getE, eqS_self]
theorem FewI.get {s : QS} {ep : Int} {x : QE} {D : DataW Unit} (h : FewI s ep x D) {k : Int} (hk : Maps.has D (.int .i64 k) = true) : getE [x] s ep k = if Maps.size D ≤ 3 then k else -1 := by
  have e1 := h.site
  have e2 := h.epoch
  subst e1 e2
  rw [getE_one]
  rcases h.few with ⟨h1, h2, h3, h4, h5⟩ | ⟨h1, h2, h3⟩
  · rw [if_pos (by omega)]
    obtain ⟨y, hy, hc⟩ := (h5 k).1 hk
    unfold lineE
    cases hf : x.lines.find? fun y => y.cls == k with
    | none =>
      rw [List.find?_eq_none] at hf
      exact absurd (by simpa using hc) (hf y hy)
    | some z =>
      have hz := List.mem_of_find?_eq_some hf
      have hzk := List.find?_some hf
      simp only [Option.map_some, Option.getD_some]
      rw [h4 z hz]
      simpa using hzk
  · rw [if_neg (by omega), h2]
    rfl
end Go.Proofs.Ytidjpdpbjgnfkaa
