/- In whatever order they came: the plain part. -/
import Derived.Test.YtidjpdpbjgnfkaaTe
namespace Go.Proofs.Ytidjpdpbjgnfkaa
open Go.ChangeShapes Go.WideShapes Go.ChangeAt Go.RowKit
set_option linter.unusedSimpArgs false
set_option linter.unusedVariables false

/-- Classes that came, counted. -/
def cntL (cs : List Int) : List QL := cs.foldl oneMore []
theorem cntL_snoc (cs : List Int) (c : Int) : cntL (cs ++ [c]) = oneMore (cntL cs) c := by simp [cntL]

theorem wrap64_small {a : Int} (h0 : 0 ≤ a) (h1 : a ≤ 4611686018427387904) : wrap64 a = a := by
  unfold wrap64; omega
theorem oneMore_map : ∀ (ls : List QL) (c : Int), (oneMore ls c).map (·.cls) = if c ∈ ls.map (·.cls) then ls.map (·.cls) else ls.map (·.cls) ++ [c]
  | [], c => by simp [oneMore]
  | x :: r, c => by
    unfold oneMore
    by_cases h : x.cls = c
    · simp [h]
    · have ih := oneMore_map r c
      have hb : (x.cls == c) = false := by simpa using h
      rw [hb]
      simp only [Bool.false_eq_true, if_false, List.map_cons, ih, List.mem_cons]
      have hc : ¬ c = x.cls := fun e => h e.symm
      by_cases hm : c ∈ r.map (·.cls)
      · simp [hm]
      · simp [hm, hc]
theorem oneMore_mem : ∀ {ls : List QL} {c : Int}, (ls.map (·.cls)).Nodup → ∀ x : QL, x ∈ oneMore ls c ↔ (x ∈ ls ∧ x.cls ≠ c) ∨ (x.cls = c ∧ ((∃ y ∈ ls, y.cls = c ∧ x.found = wrap64 (y.found + 1)) ∨ ((∀ y ∈ ls, y.cls ≠ c) ∧ x.found = 1)))
  | [], c, _, x => by
    obtain ⟨xc, xf⟩ := x
    simp [oneMore]
  | y :: r, c, hn, x => by
    rw [List.map_cons, List.nodup_cons] at hn
    obtain ⟨hy, hn⟩ := hn
    unfold oneMore
    by_cases h : y.cls = c
    · subst h
      simp only [beq_self_eq_true, if_true, List.mem_cons]
      constructor
      · rintro (rfl | hx)
        · exact Or.inr ⟨rfl, Or.inl ⟨y, Or.inl rfl, rfl, rfl⟩⟩
        · exact Or.inl ⟨Or.inr hx, fun e => hy (by rw [← e]; exact List.mem_map_of_mem hx)⟩
      · rintro (⟨rfl | hx, h⟩ | ⟨h, ⟨z, rfl | hz, h1, h2⟩ | ⟨h1, h2⟩⟩)
        · exact absurd rfl h
        · exact Or.inr hx
        · left
          obtain ⟨xc, xf⟩ := x
          simp only at h h2
          rw [h, h2]
        · exact absurd (by rw [← h1]; exact List.mem_map_of_mem hz) hy
        · exact absurd rfl (h1 y (Or.inl rfl))
    · have hb : (y.cls == c) = false := by simpa using h
      rw [hb]
      simp only [Bool.false_eq_true, if_false, List.mem_cons]
      have ih := oneMore_mem (c := c) hn x
      rw [ih]
      constructor
      · rintro (rfl | ⟨hx, h1⟩ | ⟨h1, ⟨z, hz, h2, h3⟩ | ⟨h2, h3⟩⟩)
        · exact Or.inl ⟨Or.inl rfl, h⟩
        · exact Or.inl ⟨Or.inr hx, h1⟩
        · exact Or.inr ⟨h1, Or.inl ⟨z, Or.inr hz, h2, h3⟩⟩
        · refine Or.inr ⟨h1, Or.inr ⟨?_, h3⟩⟩
          rintro z (rfl | hz)
          · exact h
          · exact h2 z hz
      · rintro (⟨rfl | hx, h1⟩ | ⟨h1, ⟨z, rfl | hz, h2, h3⟩ | ⟨h2, h3⟩⟩)
        · exact Or.inl rfl
        · exact Or.inr (Or.inl ⟨hx, h1⟩)
        · exact absurd h2 h
        · exact Or.inr (Or.inr ⟨h1, Or.inl ⟨z, hz, h2, h3⟩⟩)
        · exact Or.inr (Or.inr ⟨h1, Or.inr ⟨fun z hz => h2 z (Or.inr hz), h3⟩⟩)

theorem snoc_ind {α : Type} {p : List α → Prop} (h0 : p []) (h1 : ∀ l a, p l → p (l ++ [a])) (l : List α) : p l := by
  have : ∀ n (l : List α), l.length = n → p l := by
    intro n
    induction n with
    | zero => intro l hl; rw [List.eq_nil_of_length_eq_zero hl]; exact h0
    | succ n ih =>
      intro l hl
      have hne : l ≠ [] := by intro e; rw [e] at hl; simp at hl
      rw [← List.dropLast_concat_getLast hne]
      exact h1 _ _ (ih _ (by simp; omega))
  exact this _ l rfl

theorem cntL_spec (cs : List Int) (hl : cs.length ≤ 1048576) : ((cntL cs).map (·.cls)).Nodup ∧ ∀ x : QL, x ∈ cntL cs ↔ x.cls ∈ cs ∧ x.found = cs.count x.cls := by
  revert hl
  refine snoc_ind (p := fun cs => cs.length ≤ 1048576 → ((cntL cs).map (·.cls)).Nodup ∧ ∀ x : QL, x ∈ cntL cs ↔ x.cls ∈ cs ∧ x.found = cs.count x.cls) ?_ ?_ cs
  · intro _; exact ⟨by simp [cntL], fun x => by simp [cntL]⟩
  · intro l c ih hl
    simp only [List.length_append, List.length_singleton] at hl
    obtain ⟨hn, hm⟩ := ih (by omega)
    have hmem : c ∈ (cntL l).map (·.cls) ↔ c ∈ l := by
      rw [List.mem_map]
      constructor
      · rintro ⟨x, hx, rfl⟩; exact ((hm x).1 hx).1
      · intro h; exact ⟨⟨c, l.count c⟩, (hm _).2 ⟨h, rfl⟩, rfl⟩
    rw [cntL_snoc]
    constructor
    · rw [oneMore_map]
      by_cases h : c ∈ (cntL l).map (·.cls)
      · rw [if_pos h]; exact hn
      · rw [if_neg h, List.nodup_append]
        refine ⟨hn, by simp, fun a ha b hb => ?_⟩
        simp at hb; subst hb
        intro e; subst e; exact h ha
    · intro x
      rw [oneMore_mem hn]
      have hcl : ∀ a : Int, (l.count a : Int) ≤ l.length := fun a => by have := List.count_le_length (a := a) (l := l); omega
      constructor
      · rintro (⟨hx, hne⟩ | ⟨hc, ⟨y, hy, h1, h2⟩ | ⟨h1, h2⟩⟩)
        · obtain ⟨h1, h2⟩ := (hm x).1 hx
          exact ⟨by simp [h1], by rw [List.count_append, h2, List.count_singleton]; simp [show ¬ (c = x.cls) from fun e => hne e.symm]⟩
        · obtain ⟨h3, h4⟩ := (hm y).1 hy
          rw [h1] at h3 h4
          refine ⟨by simp [hc], ?_⟩
          have := hcl c
          rw [h2, h4, hc, List.count_append, List.count_singleton_self, wrap64_small (by omega) (by omega)]
          omega
        · refine ⟨by simp [hc], ?_⟩
          have h0 : c ∉ l := fun h => h1 ⟨c, l.count c⟩ ((hm _).2 ⟨h, rfl⟩) rfl
          rw [hc, List.count_append, List.count_singleton_self, List.count_eq_zero.2 h0, h2]
          rfl
      · rintro ⟨h1, h2⟩
        by_cases hc : x.cls = c
        · refine Or.inr ⟨hc, ?_⟩
          by_cases h0 : c ∈ l
          · refine Or.inl ⟨⟨c, l.count c⟩, (hm _).2 ⟨h0, rfl⟩, rfl, ?_⟩
            have := hcl c
            rw [h2, hc, List.count_append, List.count_singleton_self]
            simp only
            rw [wrap64_small (by omega) (by omega)]
            omega
          · refine Or.inr ⟨fun y hy e => h0 (by rw [← e]; exact ((hm y).1 hy).1), ?_⟩
            rw [h2, hc, List.count_append, List.count_singleton_self, List.count_eq_zero.2 h0]
            rfl
        · refine Or.inl ⟨(hm x).2 ⟨?_, ?_⟩, hc⟩
          · simpa [hc] using h1
          · rw [h2, List.count_append, List.count_singleton]; simp [show ¬ (c = x.cls) from fun e => hc e.symm]

/-- The best of a list. -/
theorem mostL_spec (ls : List QL) (hp : ∀ x ∈ ls, 0 < x.found) : (ls = [] ∧ mostL ls = ⟨-1, 0⟩) ∨ (mostL ls ∈ ls ∧ ∀ y ∈ ls, y.found < (mostL ls).found ∨ (y.found = (mostL ls).found ∧ (mostL ls).cls ≤ y.cls)) := by
  revert hp
  refine snoc_ind (p := fun ls => (∀ x ∈ ls, 0 < x.found) → (ls = [] ∧ mostL ls = ⟨-1, 0⟩) ∨ (mostL ls ∈ ls ∧ ∀ y ∈ ls, y.found < (mostL ls).found ∨ (y.found = (mostL ls).found ∧ (mostL ls).cls ≤ y.cls))) ?_ ?_ ls
  · intro _; exact Or.inl ⟨rfl, rfl⟩
  · intro l x ih hp
    right
    have hx := hp x (by simp)
    rw [mostL_snoc]
    rcases ih (fun y hy => hp y (by simp [hy])) with ⟨rfl, h⟩ | ⟨h1, h2⟩
    · rw [h]
      have : mostStep ⟨-1, 0⟩ x = x := by unfold mostStep; rw [if_pos (Or.inl hx)]
      rw [this]
      exact ⟨by simp, fun y hy => by simp at hy; subst hy; right; exact ⟨rfl, Int.le_refl _⟩⟩
    · generalize mostL l = m at *
      unfold mostStep
      split
      · rename_i hc
        refine ⟨by simp, fun y hy => ?_⟩
        rw [List.mem_append] at hy
        rcases hy with hy | hy
        · rcases h2 y hy with h | ⟨h, h'⟩ <;> rcases hc with hc | ⟨hc, hc', hc''⟩
          · left; omega
          · left; omega
          · left; omega
          · right; omega
        · simp at hy; subst hy; right; exact ⟨rfl, Int.le_refl _⟩
      · rename_i hc
        refine ⟨by simp [h1], fun y hy => ?_⟩
        rw [List.mem_append] at hy
        rcases hy with hy | hy
        · exact h2 y hy
        · simp at hy; subst hy; omega
theorem mostL_same {a b : List QL} (hp : ∀ x ∈ a, 0 < x.found) (h : ∀ x, x ∈ a ↔ x ∈ b) : mostL a = mostL b := by
  have hq : ∀ x ∈ b, 0 < x.found := fun x hx => hp x ((h x).2 hx)
  rcases mostL_spec a hp with ⟨ha, ea⟩ | ⟨ha, ea⟩ <;> rcases mostL_spec b hq with ⟨hb, eb⟩ | ⟨hb, eb⟩
  · rw [ea, eb]
  · subst ha; have := (h _).2 hb; simp at this
  · subst hb; have := (h _).1 ha; simp at this
  · have h1 := ea _ ((h _).2 hb)
    have h2 := eb _ ((h _).1 ha)
    generalize mostL a = x at *
    generalize mostL b = y at *
    obtain ⟨xc, xf⟩ := x
    obtain ⟨yc, yf⟩ := y
    simp only at h1 h2
    congr <;> omega

/-- Sums, without going round. -/
def plainSum (ls : List QL) : Int := (ls.map (·.found)).sum
theorem plainSum_cons (x : QL) (r : List QL) : plainSum (x :: r) = x.found + plainSum r := by simp [plainSum]
theorem plainSum_one : ∀ {ls : List QL} {c : Int}, (∀ x ∈ ls, 0 ≤ x.found ∧ x.found ≤ 1048576) → plainSum (oneMore ls c) = plainSum ls + 1
  | [], c, _ => by simp [oneMore, plainSum]
  | x :: r, c, h => by
    unfold oneMore
    have hx := h x (by simp)
    split
    · rw [plainSum_cons, plainSum_cons, wrap64_small (by omega) (by omega)]; simp only; omega
    · rw [plainSum_cons, plainSum_cons, plainSum_one (fun y hy => h y (by simp [hy]))]; omega
theorem plainSum_snoc (l : List QL) (x : QL) : plainSum (l ++ [x]) = plainSum l + x.found := by simp [plainSum]
theorem sumL_plain (ls : List QL) (h : ∀ x ∈ ls, 0 ≤ x.found) (hs : plainSum ls ≤ 1048576) : sumL ls = plainSum ls ∧ 0 ≤ plainSum ls := by
  revert h hs
  refine snoc_ind (p := fun ls => (∀ x ∈ ls, 0 ≤ x.found) → plainSum ls ≤ 1048576 → sumL ls = plainSum ls ∧ 0 ≤ plainSum ls) ?_ ?_ ls
  · intro _ _; exact ⟨rfl, by simp [plainSum]⟩
  · intro l x ih h hs
    rw [plainSum_snoc] at hs ⊢
    have hx := h x (by simp)
    obtain ⟨h1, h2⟩ := ih (fun y hy => h y (by simp [hy])) (by omega)
    rw [sumL_snoc, h1, wrap64_small (by omega) (by omega)]
    exact ⟨rfl, by omega⟩
theorem cntL_found {cs : List Int} (hl : cs.length ≤ 1048576) {x : QL} (hx : x ∈ cntL cs) : 0 < x.found ∧ x.found ≤ cs.length := by
  obtain ⟨h1, h2⟩ := ((cntL_spec cs hl).2 x).1 hx
  have := List.count_pos_iff.2 h1
  have := List.count_le_length (a := x.cls) (l := cs)
  omega
theorem cntL_sum (cs : List Int) (hl : cs.length ≤ 1048576) : plainSum (cntL cs) = cs.length := by
  revert hl
  refine snoc_ind (p := fun cs => cs.length ≤ 1048576 → plainSum (cntL cs) = cs.length) ?_ ?_ cs
  · intro _; simp [cntL, plainSum]
  · intro l c ih hl
    simp only [List.length_append, List.length_singleton] at hl
    rw [cntL_snoc, plainSum_one (fun x hx => by have := cntL_found (cs := l) (by omega) hx; omega), ih (by omega)]
    simp
theorem cntL_sumL (cs : List Int) (hl : cs.length ≤ 1048576) : sumL (cntL cs) = cs.length := by
  have h := cntL_sum cs hl
  rw [(sumL_plain _ (fun x hx => by have := cntL_found hl hx; omega) (by rw [h]; omega)).1, h]
theorem cntL_most (cs : List Int) (hl : cs.length ≤ 1048576) : 0 ≤ (mostL (cntL cs)).found ∧ (mostL (cntL cs)).found ≤ cs.length := by
  rcases mostL_spec (cntL cs) (fun x hx => (cntL_found hl hx).1) with ⟨h1, h2⟩ | ⟨h1, h2⟩
  · rw [h2]; simp
  · have := cntL_found hl h1; omega
theorem cntL_turned (cs : List Int) (hl : cs.length ≤ 1048576) : mostL (cntL cs) = mostL (cntL cs.reverse) := by
  refine mostL_same (fun x hx => (cntL_found hl hx).1) fun x => ?_
  rw [(cntL_spec cs hl).2, (cntL_spec cs.reverse (by simpa using hl)).2]
  simp [List.count_reverse]

/-- Receivers that came, in their order. -/
def tallyAll (ps : List (QS × Int)) : List QT := ps.foldl (fun l p => addE l p.1 p.2) []
theorem tallyAll_snoc (ps : List (QS × Int)) (p : QS × Int) : tallyAll (ps ++ [p]) = addE (tallyAll ps) p.1 p.2 := by simp [tallyAll]
theorem eqS_no {a b : QS} (h : a ≠ b) : eqS a b = false := by
  cases hq : eqS a b with
  | false => rfl
  | true => exact absurd ((eqS_iff _ _).1 hq) h
theorem addE_in : ∀ {xs : List QT} {s : QS} {c : Int}, s ∈ xs.map (·.site) → (addE xs s c).map (·.site) = xs.map (·.site)
  | [], s, c, h => by simp at h
  | x :: r, s, c, h => by
    unfold addE
    by_cases hx : x.site = s
    · simp [hx, (eqS_iff s s).2 rfl]
    · rw [eqS_no hx]
      rw [List.map_cons, List.mem_cons] at h
      have hr := h.resolve_left (fun e => hx e.symm)
      simp [addE_in (c := c) hr]
theorem addE_out : ∀ {xs : List QT} {s : QS} {c : Int}, s ∉ xs.map (·.site) → (addE xs s c).map (·.site) = xs.map (·.site) ++ [s]
  | [], s, c, h => by simp [addE]
  | x :: r, s, c, h => by
    rw [List.map_cons, List.mem_cons, not_or] at h
    unfold addE
    rw [eqS_no (fun e => h.1 e.symm)]
    simp [addE_out (c := c) h.2]
theorem addE_nodup {xs : List QT} (h : (xs.map (·.site)).Nodup) (s : QS) (c : Int) : ((addE xs s c).map (·.site)).Nodup := by
  by_cases hm : s ∈ xs.map (·.site)
  · rw [addE_in hm]; exact h
  · rw [addE_out hm, List.nodup_append]
    refine ⟨h, by simp, fun a ha b hb => ?_⟩
    simp at hb; subst hb
    intro e; subst e; exact hm ha
theorem linesAt_cons (x : QT) (r : List QT) (s : QS) : linesAt (x :: r) s = (if eqS x.site s then x.lines else []) ++ linesAt r s := by
  unfold linesAt
  by_cases h : eqS x.site s <;> simp [List.filter_cons, h]
theorem linesAt_none {xs : List QT} {s : QS} (h : s ∉ xs.map (·.site)) : linesAt xs s = [] := by
  induction xs with
  | nil => rfl
  | cons x r ih =>
    simp only [List.map_cons, List.mem_cons, not_or] at h
    rw [linesAt_cons, ih h.2, if_neg (fun e => h.1 ((eqS_iff _ _).1 e).symm)]
    rfl
theorem linesAt_add : ∀ {xs : List QT}, (xs.map (·.site)).Nodup → ∀ (s t : QS) (c : Int), linesAt (addE xs t c) s = if eqS t s then oneMore (linesAt xs s) c else linesAt xs s
  | [], _, s, t, c => by
    by_cases h : t = s
    · subst h; simp [addE, linesAt, oneMore, (eqS_iff t t).2 rfl]
    · simp [addE, linesAt, eqS_no h]
  | x :: r, hn, s, t, c => by
    rw [List.map_cons, List.nodup_cons] at hn
    obtain ⟨hx, hn⟩ := hn
    unfold addE
    by_cases ht : x.site = t
    · subst ht
      rw [if_pos ((eqS_iff _ _).2 rfl), linesAt_cons, linesAt_cons]
      simp only
      by_cases hs : x.site = s
      · subst hs
        rw [(eqS_iff _ _).2 rfl, linesAt_none hx]
        simp
      · rw [eqS_no hs]
        simp
    · rw [eqS_no ht]
      simp only [Bool.false_eq_true, if_false]
      rw [linesAt_cons, linesAt_cons, linesAt_add hn]
      by_cases hs : t = s
      · subst hs
        rw [(eqS_iff _ _).2 rfl, eqS_no ht]
        simp
      · rw [eqS_no hs]
        simp
theorem tallyAll_nodup (ps : List (QS × Int)) : ((tallyAll ps).map (·.site)).Nodup := by
  refine snoc_ind (p := fun ps => ((tallyAll ps).map (·.site)).Nodup) ?_ ?_ ps
  · simp [tallyAll]
  · intro l p ih; rw [tallyAll_snoc]; exact addE_nodup ih _ _
/-- Classes of the site's receivers. -/
def classesAt (ps : List (QS × Int)) (s : QS) : List Int := (ps.filter fun p => eqS p.1 s).map (·.2)
theorem classesAt_snoc (ps : List (QS × Int)) (p : QS × Int) (s : QS) : classesAt (ps ++ [p]) s = classesAt ps s ++ if eqS p.1 s then [p.2] else [] := by
  unfold classesAt
  by_cases h : eqS p.1 s <;> simp [List.filter_append, List.filter_cons, h]
theorem linesAt_tally (ps : List (QS × Int)) (s : QS) : linesAt (tallyAll ps) s = cntL (classesAt ps s) := by
  refine snoc_ind (p := fun ps => linesAt (tallyAll ps) s = cntL (classesAt ps s)) rfl ?_ ps
  intro l p ih
  rw [tallyAll_snoc, linesAt_add (tallyAll_nodup l), classesAt_snoc, ih]
  by_cases h : p.1 = s
  · rw [(eqS_iff _ _).2 h]
    simp [cntL_snoc]
  · rw [eqS_no h]
    simp
theorem classesAt_reverse (ps : List (QS × Int)) (s : QS) : classesAt ps.reverse s = (classesAt ps s).reverse := by simp [classesAt, List.filter_reverse]
theorem classesAt_len (ps : List (QS × Int)) (s : QS) : (classesAt ps s).length ≤ ps.length := by
  unfold classesAt; rw [List.length_map]; exact List.length_filter_le _ _
/-- How great it becomes. -/
theorem oneMore_len : ∀ (ls : List QL) (c : Int), (oneMore ls c).length ≤ ls.length + 1
  | [], c => by simp [oneMore]
  | x :: r, c => by
    unfold oneMore
    split
    · simp
    · simpa using oneMore_len r c
theorem addE_len : ∀ (xs : List QT) (s : QS) (c : Int) (k : Nat), xs.length ≤ k → (∀ x ∈ xs, x.lines.length ≤ k) → (addE xs s c).length ≤ k + 1 ∧ ∀ x ∈ addE xs s c, x.lines.length ≤ k + 1
  | [], s, c, k, _, _ => by simp [addE]
  | x :: r, s, c, 0, h, _ => by simp at h
  | x :: r, s, c, k + 1, h, hl => by
    have hr : r.length ≤ k := by simpa using h
    have hx := hl x (by simp)
    unfold addE
    split
    · refine ⟨by simp; omega, fun y hy => ?_⟩
      rw [List.mem_cons] at hy
      rcases hy with rfl | hy
      · have := oneMore_len x.lines c; simp only; omega
      · have := hl y (by simp [hy]); omega
    · have hlen : ∀ (r : List QT), (addE r s c).length ≤ r.length + 1 := by
        intro r
        induction r with
        | nil => simp [addE]
        | cons z r ih => unfold addE; split <;> simp; omega
      have hmm : ∀ (r : List QT) (k : Nat), (∀ x ∈ r, x.lines.length ≤ k + 1) → ∀ x ∈ addE r s c, x.lines.length ≤ k + 1 + 1 := by
        intro r k
        induction r with
        | nil => intro _ y hy; simp [addE] at hy; subst hy; simp
        | cons z r ih =>
          intro hz y hy
          unfold addE at hy
          split at hy
          · rw [List.mem_cons] at hy
            rcases hy with rfl | hy
            · have := oneMore_len z.lines c; have := hz z (by simp); simp only; omega
            · have := hz y (by simp [hy]); omega
          · rw [List.mem_cons] at hy
            rcases hy with rfl | hy
            · have := hz y (by simp); omega
            · exact ih (fun x hx => hz x (by simp [hx])) y hy
      refine ⟨by have := hlen r; simp; omega, fun y hy => ?_⟩
      rw [List.mem_cons] at hy
      rcases hy with rfl | hy
      · omega
      · exact hmm r k (fun z hz => hl z (by simp [hz])) y hy
theorem tallyAll_len (ps : List (QS × Int)) : (tallyAll ps).length ≤ ps.length ∧ ∀ x ∈ tallyAll ps, x.lines.length ≤ ps.length := by
  refine snoc_ind (p := fun ps => (tallyAll ps).length ≤ ps.length ∧ ∀ x ∈ tallyAll ps, x.lines.length ≤ ps.length) ?_ ?_ ps
  · simp [tallyAll]
  · intro l p ih
    rw [tallyAll_snoc, List.length_append, List.length_singleton]
    exact addE_len _ _ _ _ ih.1 ih.2
/-- What the law asks at last. -/
theorem turned_facts (ps : List (QS × Int)) (s : QS) (hl : ps.length ≤ 1048576) :
    sumL (linesAt (tallyAll ps) s) = (classesAt ps s).length ∧ sumL (linesAt (tallyAll ps.reverse) s) = (classesAt ps s).length ∧ mostL (linesAt (tallyAll ps) s) = mostL (linesAt (tallyAll ps.reverse) s) ∧ 0 ≤ (mostL (linesAt (tallyAll ps) s)).found ∧ (mostL (linesAt (tallyAll ps) s)).found ≤ (classesAt ps s).length := by
  have h := classesAt_len ps s
  rw [linesAt_tally, linesAt_tally, classesAt_reverse, cntL_sumL _ (by omega), cntL_sumL _ (by simp; omega)]
  exact ⟨rfl, by simp, cntL_turned _ (by omega), cntL_most _ (by omega)⟩
end Go.Proofs.Ytidjpdpbjgnfkaa
