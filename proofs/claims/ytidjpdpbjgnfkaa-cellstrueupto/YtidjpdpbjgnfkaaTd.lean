/- tally.Add. -/
import Derived.Test.YtidjpdpbjgnfkaaTc
namespace Go.Proofs.Ytidjpdpbjgnfkaa
open Go.ChangeShapes Go.WideShapes Go.ChangeAt Go.RowKit
set_option linter.unusedSimpArgs false
set_option linter.unusedVariables false

/-- One more receiver of class c at the site. -/
def addE : List QT → QS → Int → List QT
  | [], s, c => [⟨s, [⟨c, 1⟩]⟩]
  | x :: r, s, c => if eqS x.site s then ⟨x.site, oneMore x.lines c⟩ :: r else x :: addE r s c
theorem addE_none : ∀ {xs : List QT} {s : QS} {c : Int}, findI (fun x => eqS x.site s) xs = -1 → addE xs s c = xs ++ [⟨s, [⟨c, 1⟩]⟩]
  | [], s, c, _ => rfl
  | x :: r, s, c, h => by
    have hx : eqS x.site s = false := by
      cases hb : eqS x.site s with
      | false => rfl
      | true => rw [findI_at (j := 0) (x := x) rfl hb (fun i y hi _ => by omega)] at h; simp at h
    have hr : findI (fun x : QT => eqS x.site s) r = -1 := by
      unfold findI at h ⊢
      rw [List.findIdx?_cons, hx] at h
      cases hf : r.findIdx? (fun x => eqS x.site s) with
      | none => rfl
      | some k => rw [hf] at h; simp at h; omega
    simp [addE, hx, addE_none hr]
theorem addE_at : ∀ {xs : List QT} {s : QS} {c : Int} {j : Nat} {x : QT}, xs[j]? = some x → eqS x.site s = true → (∀ i y, i < j → xs[i]? = some y → eqS y.site s = false) → addE xs s c = xs.set j ⟨x.site, oneMore x.lines c⟩
  | [], s, c, j, x, h, _, _ => by simp at h
  | y :: r, s, c, 0, x, h, hp, _ => by
    simp at h; subst h
    simp [addE, hp]
  | y :: r, s, c, j + 1, x, h, hp, hn => by
    have hy := hn 0 y (by omega) rfl
    simp only [addE, hy, List.set_cons_succ]
    rw [addE_at (xs := r) (j := j) (x := x) (by simpa using h) hp (fun i z hi hz => hn (i + 1) z (by omega) (by simpa using hz))]
    rfl

/-- Lines of one tally of a row are others. -/
theorem put_tally {w : World} {g j cap : Nat} {xs : List QT} {x : QT} {v' : Value} {ls' : List QL} {Q S : Nat → Prop} (hx : xs[j]? = some x)
    (hoth : ∀ i y, i ≠ j → xs[i]? = some y → ∃ R : Nat → Prop, ¬ R g ∧ (∀ b, R b → S b) ∧ TallyC R w (fun k => w.cell? ⟨g, i * 4 + k, none⟩) y)
    (h0 : w.cell? ⟨g, j * 4 + 0, none⟩ = some (.int .i64 x.site.cls)) (h1 : w.cell? ⟨g, j * 4 + 1, none⟩ = some (.string x.site.name)) (h2 : w.cell? ⟨g, j * 4 + 2, none⟩ = some (.int .i64 x.site.at')) {u : Value} (h3 : w.cell? ⟨g, j * 4 + 3, none⟩ = some u)
    (hl : IsLines Q w v' ls') (hQ : ¬ Q g) (hQS : ∀ b, Q b → S b) (hSg : S g) (hc1 : xs.length ≤ cap) (hc2 : cap ≤ maxLen) : IsTallies S (w.setCell ⟨g, j * 4 + 3, none⟩ v') (.slice (some ⟨g, 0, none⟩) xs.length cap) (xs.set j ⟨x.site, ls'⟩) := by
  have hself := cell_set_self h3 v'
  have hne : ∀ o, o ≠ j * 4 + 3 → (w.setCell ⟨g, j * 4 + 3, none⟩ v').cell? ⟨g, o, none⟩ = w.cell? ⟨g, o, none⟩ := fun o ho => World.cell?_setCell_other _ _ _ _ (by intro e; injection e with _ e2 _; omega)
  refine ⟨some ⟨g, 0, none⟩, cap, by simp, by simpa using hc1, hc2, by simp, fun i y hy => ⟨g, 0, rfl, hSg, ?_⟩⟩
  by_cases hij : i = j
  · subst hij
    rw [List.getElem?_set_self (lt_of_get hx)] at hy
    cases hy
    simp only [Nat.zero_add]
    refine ⟨(hne (i * 4 + 0) (by omega)).trans h0, (hne (i * 4 + 1) (by omega)).trans h1, (hne (i * 4 + 2) (by omega)).trans h2, v', hself, ?_⟩
    exact hl.keep goodL (Keeps.of_setCell hQ _) hQS
  · rw [List.getElem?_set_ne (by omega)] at hy
    obtain ⟨R, hR, hRS, hT⟩ := hoth i y hij hy
    simp only [Nat.zero_add]
    refine goodT.move hT hRS (Keeps.of_setCell hR _) fun k hk v hv => ?_
    rw [hne _ (by omega)]
    exact hv

theorem OneLeft.cell {w w' : World} {g : Option Nat} {ls : List QL} {e : Ending} (h : OneLeft w g ls e w') {b o : Nat} {v : Value} (hc : w.cell? ⟨b, o, none⟩ = some v) (hb : some b ≠ g) : w'.cell? ⟨b, o, none⟩ = some v := by
  obtain ⟨-, -, -, -, -, -, h1, -⟩ := h
  have hl := World.block_lt_of_cell? _ _ hc
  rw [World.cell?_of_block (h1 b hl hb)]
  exact hc
theorem OneLeft.frozen {w w' : World} {g : Option Nat} {ls : List QL} {e : Ending} (h : OneLeft w g ls e w') {b : Nat} (hl : b < w.heap.size) (hb : some b ≠ g) : ∀ o, w'.frozen? ⟨b, o, none⟩ = w.frozen? ⟨b, o, none⟩ := fun o => by
  obtain ⟨-, -, -, -, -, -, h1, -⟩ := h
  exact World.frozen?_of_block (h1 b hl hb)
theorem OneLeft.below {w w' : World} {g : Option Nat} {ls : List QL} {e : Ending} (h : OneLeft w g ls e w') {B : Nat} (hB : B ≤ w.heap.size) (hg : ∀ b, g = some b → B ≤ b) : Below B w w' := by
  obtain ⟨-, -, -, -, -, -, h1, h2, h3, h4, h5⟩ := h
  exact ⟨h2, h3, h4, h5, fun k hk => h1 k (by omega) fun e => by have := hg k e.symm; omega⟩

set_option maxHeartbeats 2000000 in
theorem add_any {P : Nat → Prop} (xs : List QT) (v : Value) (s : QS) (c : Int) (w : World) (hh : IsTallies P w v xs) (hby : (xs.length + 1) * 56 ≤ 140737488355328) (hls : ∀ x ∈ xs, (x.lines.length + 1) * 16 ≤ 140737488355328) :
    Calls Try.prog 23 #[v, SV s, .int .i64 c] w fun e w' => ∃ g cap, e = .returned (.slice (some ⟨g, 0, none⟩) (addE xs s c).length cap) ∧ IsTallies (fun b => w.heap.size ≤ b) w' (.slice (some ⟨g, 0, none⟩) (addE xs s c).length cap) (addE xs s c) ∧ Below w.heap.size w w' := by
  have hm := hmf
  have hml : xs.length ≤ maxLen := by unfold maxLen; omega
  have hmll : ∀ x ∈ xs, x.lines.length ≤ maxLen := fun x hx => by have := hls x hx; unfold maxLen; omega
  obtain ⟨ad, cap, rfl, -, -, -, -⟩ := id hh
  have hb0 := bel1 w (.cells #[.int .i64 s.cls, .string s.name, .int .i64 s.at'] 28)
  have hs0 := siteNew w s 28
  go_enter Try.func23, Try.ntmps23
  go_wp2_with fail
  refine (towns_any xs _ _ (hh.later goodT hb0) (by omega) (fun x hx => by have := hls x hx; omega)).mono ?_
  rintro e w1 ⟨g, gs, rfl, hown, hg, hb1⟩
  have hs1 := hs0.later hb1
  have hb01 : Below w.heap.size w w1 := nstep1 (Below.refl _ _) hb1
  have hg0 : w.heap.size < g := by simp at hg; omega
  clear hb1 hb0 hs0 hg hh
  go_wp2_with fail
  refine (index44_any _ (fun x => eqS x.site s) xs _ _ (hown.tallies hml hmll (P := fun b => g ≤ b) fun b h _ => h) fun x a n k w' hb' => eqTally_any x a n k _ s w' (hs1.later hb')).mono ?_
  rintro e w2 ⟨rfl, hb2⟩
  replace hown := hown.later hb2
  replace hs1 := hs1.later hb2
  have hb02 : Below w.heap.size w w2 := nstep hb01 hb2
  clear hb2 hb01 hm
  rcases findI_cases (fun x : QT => eqS x.site s) xs with hf | ⟨j, x, hf, hx, hp, hn⟩
  · have HO : Hid (addE xs s c = xs ++ [⟨s, [⟨c, 1⟩]⟩]) := addE_none hf
    rw [hf]
    obtain ⟨s0, s1, s2⟩ := hs1
    have hrow := hown.tallies hml hmll (P := fun b => g ≤ b ∧ b < w2.heap.size) fun b h h' => ⟨h, h'⟩
    go_wp2_with (at_builtin; refine wpList_append_one (R := fun b => g ≤ b ∧ b < w2.heap.size) goodT rfl (.tmp 18) (.tmp 21) 51 rfl 53 _ 56 Try.underlying51 info53 rfl xs _ rfl (hrow.later goodT (bel1 _ _)) _ 53 [.int .i64 s.cls, .string s.name, .int .i64 s.at', .slice none 0 0] rfl (heap_alloc_new _ _) rfl ⟨s, []⟩ (P' := fun b => False) ⟨rfl, rfl, rfl, _, rfl, none, 0, rfl, by simp, by simp, by simp, fun i x hx => by simp at hx⟩ (fun h => by cases h) (by unfold maxLen; omega) hby (fun _ h => h) (fun _ h => h.elim) ?_; intro g' cap' w3 hrow3 hg3 hgl3 hb3 hblk3; obtain ⟨cur3, q1, q2, q3, q4, q5, q6⟩ := hblk3; have k3 := q6 3 _ rfl; have fz3 : ∀ o, w3.frozen? ⟨g', o, none⟩ = false := (fun o => by simp [World.frozen?, q1]); have hn1 : (xs.length : Int) < (xs.length : Int) + 1 := (by omega); have hn0 : (0 : Int) ≤ (xs.length : Int) := (by omega); clear hrow3)
    refine (withOne_nil c w3).mono ?_
    rintro e w4 hleft
    have hg3' : w2.heap.size + 1 ≤ g' := by simpa using hg3
    have hz2 := hb02.size
    have HB34 : Hid (Below w3.heap.size w3 w4) := hleft.below (Nat.le_refl _) (fun b h => by cases h)
    have hb3' : Below w.heap.size w w3 := nstep1 hb02 hb3
    obtain ⟨r0, r1, r2⟩ : w4.cell? ⟨g', xs.length * 4 + 0, none⟩ = some (.int .i64 s.cls) ∧ w4.cell? ⟨g', xs.length * 4 + 1, none⟩ = some (.string s.name) ∧ w4.cell? ⟨g', xs.length * 4 + 2, none⟩ = some (.int .i64 s.at') := ⟨cell_later HB34.out (q6 0 _ rfl), cell_later HB34.out (q6 1 _ rfl), cell_later HB34.out (q6 2 _ rfl)⟩
    have r3 := cell_later HB34.out k3
    have f4 : ∀ o, w4.frozen? ⟨g', o, none⟩ = false := fun o => (hleft.frozen hgl3 (by simp) o).trans (fz3 o)
    obtain ⟨g4, cap4, rfl, hL4, hor4, hgl4, -⟩ := hleft
    have hor4' : w3.heap.size ≤ g4 := hor4.resolve_left (by simp)
    have HOTH : Hid (∀ i y, i ≠ xs.length → (xs ++ [(⟨s, []⟩ : QT)])[i]? = some y → ∃ R : Nat → Prop, ¬ R g' ∧ (∀ b, R b → w.heap.size ≤ b) ∧ TallyC R w4 (fun k => w4.cell? ⟨g', i * 4 + k, none⟩) y) := fun i y hi hy => by
      refine ⟨fun b => g ≤ b ∧ b < w2.heap.size, fun h => by omega, fun b h => by omega, ?_⟩
      refine goodT.move (q5.2 i y hy) (fun _ h => h) (.of_below HB34.out) fun k hk v hv => ?_
      rw [List.getElem?_take] at hv
      split at hv
      · refine cell_later HB34.out ?_
        rw [cell_of_row _ _ _ _ _ _ q1]
        simpa using hv
      · cases hv
    clear hb3 k3 fz3 q6 q5 hrow hf hgl3
    go_wp2_with fail
    go_ret
    rw [HO.out]
    refine ⟨g', cap', by simp, ?_, (hb3'.trans (HB34.out.mono hb3'.size)).setCell (by simp; omega) _⟩
    have := put_tally (g := g') (j := xs.length) (cap := cap') (xs := xs ++ [⟨s, []⟩]) (x := ⟨s, []⟩) (S := fun b => w.heap.size ≤ b) (by simp) HOTH.out r0 r1 r2 r3 hL4 (by intro h; have := blk_lt q1; omega) (fun b h => by have := hb3'.size; omega) (by omega) (by simpa using q3) q4
    simpa using this
  · have HO : Hid (addE xs s c = xs.set j ⟨x.site, oneMore x.lines c⟩) := addE_at hx hp hn
    have hj := lt_of_get hx
    have hj0 : (0 : Int) ≤ (j : Int) := by omega
    have hj1 : (j : Int) < (xs.length : Int) := by omega
    have hlx := hls x (List.mem_of_getElem? hx)
    have HX : Hid (xs[j]? = some x) := hx
    rw [hf]
    obtain ⟨k0, k1, k2, k3⟩ := hown.cells j x hj hx
    have hol := hown.lines j x hj hx
    have hrj := hown.reach j hj
    have fz2 : ∀ o, w2.frozen? ⟨g, o, none⟩ = false := by
      obtain ⟨cur, h1, -⟩ := hown.row
      intro o; simp [World.frozen?, h1]
    clear hf hn hx hs1
    go_wp2_with fail
    refine (withOne_own x.lines (gs j) c w2 hol hlx).mono ?_
    rintro e w3 hleft
    have hz2 := hb02.size
    have HB23 : Hid (Below (gs j) w2 w3) := hleft.below (by omega) (fun b h => by cases h; exact Nat.le_refl _)
    have hne : some g ≠ some (gs j) := by simp; omega
    obtain ⟨r0, r1, r2, r3⟩ : w3.cell? ⟨g, j * 4 + 0, none⟩ = some (.int .i64 x.site.cls) ∧ w3.cell? ⟨g, j * 4 + 1, none⟩ = some (.string x.site.name) ∧ w3.cell? ⟨g, j * 4 + 2, none⟩ = some (.int .i64 x.site.at') ∧ w3.cell? ⟨g, j * 4 + 3, none⟩ = some (.slice (some ⟨gs j, 0, none⟩) x.lines.length x.lines.length) := ⟨hleft.cell k0 hne, hleft.cell k1 hne, hleft.cell k2 hne, hleft.cell k3 hne⟩
    have f3 : ∀ o, w3.frozen? ⟨g, o, none⟩ = false := fun o => (hleft.frozen (by omega) hne o).trans (fz2 o)
    have HOTH : Hid (∀ i y, i ≠ j → xs[i]? = some y → ∃ R : Nat → Prop, ¬ R g ∧ (∀ b, R b → w.heap.size ≤ b) ∧ TallyC R w3 (fun k => w3.cell? ⟨g, i * 4 + k, none⟩) y) := fun i y hi hy => by
      have hil := lt_of_get hy
      have hri := hown.reach i hil
      have hdi : gs i ≠ gs j := by
        rcases Nat.lt_or_ge i j with h | h
        · have := hown.rise i j h hj; omega
        · have := hown.rise j i (by omega) hil; omega
      obtain ⟨c0, c1, c2, c3⟩ := hown.cells i y hil hy
      refine ⟨fun b => b = gs i, fun h => by omega, fun b h => by omega, hleft.cell c0 hne, hleft.cell c1 hne, hleft.cell c2 hne, _, hleft.cell c3 hne, ?_⟩
      refine ((hown.lines i y hil hy).isLines (hmll y (List.mem_of_getElem? hy)) (P := fun b => b = gs i) rfl).keep goodL (fun b o v hb hc => ?_) fun _ h => h
      exact hleft.cell hc (by subst hb; simp; omega)
    obtain ⟨g4, cap4, rfl, hL4, hor4, hgl4, -⟩ := hleft
    clear k0 k1 k2 k3 fz2 hol hown
    go_wp2_with fail
    go_ret
    rw [HO.out]
    refine ⟨g, xs.length, by simp, ?_, (hb02.trans (HB23.out.mono (by omega))).setCell (by simp; omega) _⟩
    have hg4 : g < g4 := by
      rcases hor4 with h | h
      · cases h; omega
      · omega
    have := put_tally (g := g) (j := j) (cap := xs.length) (xs := xs) (x := x) (S := fun b => w.heap.size ≤ b) HX.out HOTH.out r0 r1 r2 r3 hL4 (by omega) (fun b h => by omega) (by omega) (Nat.le_refl _) hml
    simpa using this
end Go.Proofs.Ytidjpdpbjgnfkaa
