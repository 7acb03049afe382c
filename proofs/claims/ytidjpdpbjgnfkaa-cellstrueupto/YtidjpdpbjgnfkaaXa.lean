/- cells: Own, Get, withLine. -/
import Derived.Test.YtidjpdpbjgnfkaaTe
import Derived.Test.YtidjpdpbjgnfkaaTc
namespace Go.Proofs.Ytidjpdpbjgnfkaa
open Go.ChangeShapes Go.WideShapes Go.ChangeAt Go.RowKit
set_option linter.unusedSimpArgs false
set_option linter.unusedVariables false
set_option maxRecDepth 8000

/-- Lines without spare room. -/
def Tight (P : Nat → Prop) (w : World) (v : Value) (ls : List QL) : Prop := ∃ a, v = .slice a ls.length ls.length ∧ (a = none → ls = []) ∧ IsLines P w v ls
theorem Tight.keep {P Q : Nat → Prop} {w w' : World} {v : Value} {ls : List QL} (h : Tight P w v ls) (hk : Keeps P w w') (hl : ∀ b, P b → Q b) : Tight Q w' v ls := by
  obtain ⟨a, h1, h2, h3⟩ := h
  exact ⟨a, h1, h2, h3.keep goodL hk hl⟩
theorem Tight.later {P : Nat → Prop} {w w' : World} {v : Value} {ls : List QL} (h : Tight P w v ls) (hb : Below w.heap.size w w') : Tight P w' v ls := h.keep (.of_below hb) fun _ h => h
def CellT : Lay QE := fun P w f x => f 0 = some (.int .i64 x.site.cls) ∧ f 1 = some (.string x.site.name) ∧ f 2 = some (.int .i64 x.site.at') ∧ f 3 = some (.int .i64 x.epoch) ∧ f 4 = some (.bool x.many) ∧ ∃ v, f 5 = some v ∧ Tight P w v x.lines
theorem goodET : Good CellT 6 where
  move h hl hk hf := by
    obtain ⟨h0, h1, h2, h3, h4, v, h5, h6⟩ := h
    exact ⟨hf 0 (by omega) _ h0, hf 1 (by omega) _ h1, hf 2 (by omega) _ h2, hf 3 (by omega) _ h3, hf 4 (by omega) _ h4, v, hf 5 (by omega) _ h5, h6.keep hk hl⟩
  there h k hk := by
    obtain ⟨h0, h1, h2, h3, h4, v, h5, a, rfl, -⟩ := h
    match k, hk with
    | 0, _ => exact ⟨_, h0, rfl⟩
    | 1, _ => exact ⟨_, h1, rfl⟩
    | 2, _ => exact ⟨_, h2, rfl⟩
    | 3, _ => exact ⟨_, h3, rfl⟩
    | 4, _ => exact ⟨_, h4, rfl⟩
    | 5, _ => exact ⟨_, h5, rfl⟩
  pos := by omega
theorem CellT.plain {P : Nat → Prop} {w : World} {f : Nat → Option Value} {x : QE} (h : CellT P w f x) : CellC P w f x := by
  obtain ⟨h0, h1, h2, h3, h4, v, h5, a, -, -, h6⟩ := h
  exact ⟨h0, h1, h2, h3, h4, v, h5, h6⟩
theorem tight_cells {P : Nat → Prop} {w : World} {v : Value} {xs : List QE} (h : IsRow CellT 6 0 P w v xs) : IsCells P w v xs := by
  obtain ⟨ad, cap, h1, h2, h3, h4, h5⟩ := h
  refine ⟨ad, cap, h1, h2, h3, h4, fun i x hx => ?_⟩
  obtain ⟨b, o, e1, e2, e3⟩ := h5 i x hx
  exact ⟨b, o, e1, e2, e3.plain⟩
theorem OwnSt.row0 {α : Type} {E : Lay α} {sz : Nat} {t : TypeId} {w : World} {B : Nat} {xs : List α} (h : OwnSt E sz t w B xs xs.length) (G : Good E sz) (hm : xs.length ≤ maxLen) : IsRow E sz 0 (fun b => B ≤ b ∧ b < w.heap.size) w (.slice (some ⟨B, 0, none⟩) xs.length xs.length) xs := by
  obtain ⟨⟨cur, h1, h2⟩, h3⟩ := h
  refine ⟨_, _, rfl, Nat.le_refl _, hm, by simp, fun i x hx => ⟨B, 0, rfl, ⟨Nat.le_refl _, blk_lt h1⟩, ?_⟩⟩
  exact G.move (h3 i x (lt_of_get hx) hx) (fun b h => ⟨by omega, h.2⟩) (.refl _ _) fun k _ v hv => by rw [Nat.zero_add]; exact hv

theorem info49 : (Try.prog.info? 49).map (fun i => (i.zero, i.size, i.bytes)) = some (some (.agg #[.int .i64 0, .string ⟨#[]⟩, .int .i64 0, .int .i64 0, .bool false, .slice none 0 0]), 6, 72) := by kernel_rfl
theorem make_cells (n : Nat) (hb : n * 72 ≤ 281474976710656) : MadeAt 22 49 #[.int .i64 0, .string ⟨#[]⟩, .int .i64 0, .int .i64 0, .bool false, .slice none 0 0] 6 n := fun w => make_big Try.underlying22 info49 (by omega) n hb rfl w

/-- A cell's cells, in a block of their own. -/
structure BoxE (w : World) (b : Nat) (x : QE) (lv : Value) : Prop where
  c0 : w.cell? ⟨b, 0, none⟩ = some (.int .i64 x.site.cls)
  c1 : w.cell? ⟨b, 1, none⟩ = some (.string x.site.name)
  c2 : w.cell? ⟨b, 2, none⟩ = some (.int .i64 x.site.at')
  c3 : w.cell? ⟨b, 3, none⟩ = some (.int .i64 x.epoch)
  c4 : w.cell? ⟨b, 4, none⟩ = some (.bool x.many)
  c5 : w.cell? ⟨b, 5, none⟩ = some lv
theorem BoxE.later {w w' : World} {b : Nat} {x : QE} {lv : Value} (h : BoxE w b x lv) (hb : Below w.heap.size w w') : BoxE w' b x lv := ⟨cell_later hb h.c0, cell_later hb h.c1, cell_later hb h.c2, cell_later hb h.c3, cell_later hb h.c4, cell_later hb h.c5⟩
theorem boxE_new (w : World) (x : QE) (lv : Value) (t : TypeId) : BoxE (w.alloc (.cells #[.int .i64 x.site.cls, .string x.site.name, .int .i64 x.site.at', .int .i64 x.epoch, .bool x.many, lv] t)) w.heap.size x lv := ⟨by rw [cell_new _ _ _ _ rfl]; rfl, by rw [cell_new _ _ _ _ rfl]; rfl, by rw [cell_new _ _ _ _ rfl]; rfl, by rw [cell_new _ _ _ _ rfl]; rfl, by rw [cell_new _ _ _ _ rfl]; rfl, by rw [cell_new _ _ _ _ rfl]; rfl⟩

theorem tightOf {P : Nat → Prop} {w : World} {g b : Nat} {ls : List QL} (h : IsLines P w (.slice (some ⟨g, 0, none⟩) ls.length ls.length) ls) (hb : ¬ P b) (o : Nat) (u : Value) : Tight P (w.setCell ⟨b, o, none⟩ u) (.slice (some ⟨g, 0, none⟩) ls.length ls.length) ls :=
  ⟨_, rfl, fun h => (by cases h), h.keep goodL (Keeps.of_setCell hb _) fun _ h => h⟩
set_option maxHeartbeats 1000000 in
theorem eowns_any {P : Nat → Prop} (xs : List QE) (v : Value) (w : World) (hh : IsCells P w v xs) (hby : xs.length * 72 ≤ 281474976710656) (hls : ∀ x ∈ xs, x.lines.length * 16 ≤ 281474976710656) : Calls Try.prog 14 #[v] w fun e w' => ∃ g, e = .returned (.slice (some ⟨g, 0, none⟩) xs.length xs.length) ∧ OwnSt CellT 6 49 w' g xs xs.length ∧ w.heap.size ≤ g ∧ Below w.heap.size w w' := by
  obtain ⟨ad, cap, rfl, hl, hcap, -, hrow⟩ := hh
  have hmk := make_cells xs.length hby
  go_enter Try.func14, Try.ntmps14
  go_wp2
  go_loopg [11] xs.length (fun g c wr => ∃ j : Nat, j + g = xs.length ∧ c = .int .i64 j ∧ Below w.heap.size w wr ∧ OwnSt CellT 6 49 wr w.heap.size xs j ∧ w.heap.size < wr.heap.size)
  case atStart => exact ⟨0, by omega, rfl, bel1 _ _, OwnSt.start _ _ (size_madeCells _ _), by simp⟩
  case round =>
    obtain ⟨j, hj, rfl, hbel, hst, hz⟩ := hrel
    clear hmk
    by_cases hlt : j < xs.length
    · obtain ⟨b, o, rfl, -, hv0, hv1, hv2, hv3, hv4, sv, hv5, hsl⟩ := hrow j xs[j] (by simp [hlt])
      have hxj : Hid (xs[j]? = some xs[j]) := by show _ = _; simp [hlt]
      have hlj := hls xs[j] (by simp)
      generalize xs[j] = x at *
      simp only [Nat.add_zero] at hv0
      have u0 := cell_later hbel hv0
      have u1 := cell_later hbel hv1
      have u2 := cell_later hbel hv2
      have u3 := cell_later hbel hv3
      have u4 := cell_later hbel hv4
      have u5 := cell_later hbel hv5
      have hsl2 := hsl.later goodL hbel
      obtain ⟨ad2, cap2, rfl, -, -, -, -⟩ := id hsl2
      clear hv0 hv1 hv2 hv3 hv4 hv5 hsl hrow
      have hj1 : (j : Int) < (xs.length : Int) := by omega
      have hj0 : (0 : Int) ≤ (j : Int) := by omega
      go_wp2_with fail
      refine (ownLinesE_any x.lines _ _ (hsl2.later goodL (bel1 _ _)) hlj).mono ?_
      rintro e w1 ⟨g, rfl, hown, hg, hb⟩
      have hbx := (boxE_new wr x (.slice ad2 x.lines.length cap2) 49).later hb
      have hst1 := (hst.later goodET (bel1 _ _)).later goodET hb
      have hbel1 := nstep1 hbel hb
      have hg0 : wr.heap.size < g := by simp at hg; omega
      have hfz : ∀ o, w1.frozen? ⟨wr.heap.size, o, none⟩ = false := fun o => (hb.frozen (p := ⟨wr.heap.size, o, none⟩) (by simp)).trans (frozen_new wr _ _ _ _ rfl)
      have hz1 : wr.heap.size + 1 ≤ w1.heap.size := by have := hb.size; simpa using this
      have hbw1 : Below wr.heap.size wr w1 := nstep1 (Below.refl _ _) hb
      have HST : Hid (OwnSt CellT 6 49 (w1.setCell ⟨wr.heap.size, 5, none⟩ (.slice (some ⟨g, 0, none⟩) x.lines.length x.lines.length)) w.heap.size xs j) := hst.later goodET (hbw1.setCell (Nat.le_refl _) _)
      have HLN : Hid (Tight (fun b => b = g) (w1.setCell ⟨wr.heap.size, 5, none⟩ (.slice (some ⟨g, 0, none⟩) x.lines.length x.lines.length)) (.slice (some ⟨g, 0, none⟩) x.lines.length x.lines.length) x.lines) := tightOf (hown.isLines (by unfold maxLen; omega) (P := fun b => b = g) rfl) (by show ¬ (wr.heap.size = g); omega) _ _
      have HGL : Hid (g < w1.heap.size) := by obtain ⟨⟨cur', q1, -⟩, -⟩ := hown; exact blk_lt q1
      clear hst hsl2 u0 u1 u2 u3 u4 u5 hb hg hbw1 hown
      generalize wr.heap.size = TB at *
      obtain ⟨c0, c1, c2, c3, c4, c5⟩ := hbx
      obtain ⟨⟨cur, k1, k2⟩, k3⟩ := id hst1
      have f1 : ∀ o, w1.frozen? ⟨w.heap.size, o, none⟩ = false := hst1.unfrozen
      have hne1 : ¬ TB = w.heap.size := by omega
      have hne2 : ¬ w.heap.size = TB := by omega
      have e0 : w1.cell? ⟨w.heap.size, j * 6, none⟩ = some (cur[j * 6]'(by omega)) := (by rw [cell_of_row _ _ _ _ _ _ k1]; simp)
      have e1 : w1.cell? ⟨w.heap.size, j * 6 + 1, none⟩ = some (cur[j * 6 + 1]'(by omega)) := (by rw [cell_of_row _ _ _ _ _ _ k1]; simp)
      have e2 : w1.cell? ⟨w.heap.size, j * 6 + 2, none⟩ = some (cur[j * 6 + 2]'(by omega)) := (by rw [cell_of_row _ _ _ _ _ _ k1]; simp)
      have e3 : w1.cell? ⟨w.heap.size, j * 6 + 3, none⟩ = some (cur[j * 6 + 3]'(by omega)) := (by rw [cell_of_row _ _ _ _ _ _ k1]; simp)
      have e4 : w1.cell? ⟨w.heap.size, j * 6 + 4, none⟩ = some (cur[j * 6 + 4]'(by omega)) := (by rw [cell_of_row _ _ _ _ _ _ k1]; simp)
      have e5 : w1.cell? ⟨w.heap.size, j * 6 + 5, none⟩ = some (cur[j * 6 + 5]'(by omega)) := (by rw [cell_of_row _ _ _ _ _ _ k1]; simp)
      go_wp2
      go_roundg (gk - 1)
      case measure => omega
      case rel =>
        refine ⟨j + 1, by omega, by go_num, ((((((hbel1.setCell (p := ⟨TB, 5, none⟩) (by simp; omega) _).setCell (Nat.le_refl _) _).setCell (Nat.le_refl _) _).setCell (Nat.le_refl _) _).setCell (Nat.le_refl _) _).setCell (Nat.le_refl _) _).setCell (Nat.le_refl _) _, ?_, by simp; omega⟩
        refine HST.out.step goodET hxj.out (vs := [.int .i64 x.site.cls, .string x.site.name, .int .i64 x.site.at', .int .i64 x.epoch, .bool x.many, .slice (some ⟨g, 0, none⟩) x.lines.length x.lines.length]) rfl ?_
        exact ⟨rfl, rfl, rfl, rfl, rfl, _, rfl, HLN.out.keep (.refl _ _) fun b h => ⟨by omega, by have := HGL.out; simp; omega⟩⟩
    · obtain rfl : j = xs.length := by omega
      go_wp2
      go_ret
      exact ⟨_, rfl, hst, Nat.le_refl _, hbel⟩

/-- The site's cell, the first one. -/
theorem cellOf_any {P : Nat → Prop} (xs : List QE) (v : Value) (s : QS) (w : World) (hh : IsCells P w v xs) : Calls Try.prog 28 #[v, SV s] w fun e w' => e = .returned (.int .i64 (findI (fun x : QE => eqS x.site s) xs)) ∧ Below w.heap.size w w' := by
  have hm := hmf
  go_enter Try.func28, Try.ntmps28
  go_wp2_with fail
  refine (index49_any _ (fun x : QE => eqS x.site s) xs v _ (hh.later goodE (bel1 _ _)) fun x a n c w' hb => eqCell_any x a n c _ s w' ((siteNew w s 28).later hb)).mono ?_
  rintro e w1 ⟨rfl, hb⟩
  go_wp2
  go_ret
  exact ⟨rfl, nstep1 (Below.refl _ _) hb⟩
theorem lineOf_any {P : Nat → Prop} (xs : List QL) (v : Value) (c : Int) (w : World) (hh : IsLines P w v xs) : Calls Try.prog 29 #[v, .int .i64 c] w fun e w' => e = .returned (.int .i64 (findI (fun x : QL => x.cls == c) xs)) ∧ Below w.heap.size w w' := by
  have hm := hmf
  go_enter Try.func29, Try.ntmps29
  go_wp2_with fail
  refine (index51_any _ (fun x : QL => x.cls == c) xs v _ (hh.later goodL (bel1 _ _)) fun x w' hb => eqLine51_any x _ c w' (cell_later hb (by rw [cell_new _ _ _ _ rfl]; rfl))).mono ?_
  rintro e w1 ⟨rfl, hb⟩
  go_wp2
  go_ret
  exact ⟨rfl, nstep1 (Below.refl _ _) hb⟩

/-- What a line of class c says. -/
def lineE (ls : List QL) (c : Int) : Int := ((ls.find? fun y => y.cls == c).map (·.found)).getD (-1)
/-- What is remembered. -/
def getE (xs : List QE) (s : QS) (ep c : Int) : Int := ((xs.find? fun x => eqS x.site s).map fun x => if x.epoch = ep then lineE x.lines c else -1).getD (-1)
theorem find_none {α : Type} {p : α → Bool} {xs : List α} (h : findI p xs = -1) : xs.find? p = none := by
  rw [List.find?_eq_none]
  intro x hx
  obtain ⟨i, hi, rfl⟩ := List.mem_iff_getElem.1 hx
  unfold findI at h
  cases hf : xs.findIdx? p with
  | none => rw [List.findIdx?_eq_none_iff] at hf; simpa using hf _ hx
  | some k => rw [hf] at h; simp at h
theorem find_at {α : Type} {p : α → Bool} {xs : List α} {j : Nat} {x : α} (hx : xs[j]? = some x) (hp : p x = true) (hn : ∀ i y, i < j → xs[i]? = some y → p y = false) : xs.find? p = some x := by
  induction xs generalizing j with
  | nil => simp at hx
  | cons y r ih =>
    cases j with
    | zero => simp at hx; subst hx; simp [hp]
    | succ j =>
      have hy := hn 0 y (by omega) rfl
      rw [List.find?_cons, hy]
      exact ih (by simpa using hx) (fun i z hi hz => hn (i + 1) z (by omega) (by simpa using hz))

set_option maxHeartbeats 1000000 in
theorem get_any {P : Nat → Prop} (xs : List QE) (v : Value) (s : QS) (ep c : Int) (w : World) (hh : IsCells P w v xs) : Calls Try.prog 9 #[v, SV s, .int .i64 ep, .int .i64 c] w fun e w' => e = .returned (.int .i64 (getE xs s ep c)) ∧ Below w.heap.size w w' := by
  obtain ⟨ad, cap, rfl, hl, hcap, -, -⟩ := id hh
  unfold maxLen at hcap
  have hb0 := bel1 w (.cells #[.int .i64 s.cls, .string s.name, .int .i64 s.at'] 28)
  rcases findI_cases (fun x : QE => eqS x.site s) xs with hf | ⟨j, x, hf, hx, hp, hn⟩
  · have HG : Hid (getE xs s ep c = -1) := by show _ = _; unfold getE; rw [find_none hf]; rfl
    go_enter Try.func9, Try.ntmps9
    go_wp2_with fail
    refine (cellOf_any xs _ s _ (hh.later goodE hb0)).mono ?_
    rintro e w1 ⟨rfl, hb1⟩
    rw [hf]
    go_wp2
    go_ret
    exact ⟨ret_i HG.out.symm, nstep1 (Below.refl _ _) hb1⟩
  · have hj := lt_of_get hx
    have hj0 : (0 : Int) ≤ (j : Int) := by omega
    have hj1 : (j : Int) < (xs.length : Int) := by omega
    have HG0 : Hid (getE xs s ep c = if x.epoch = ep then lineE x.lines c else -1) := by show _ = _; unfold getE; rw [find_at hx hp hn]; rfl
    have HX : Hid (xs[j]? = some x) := hx
    go_enter Try.func9, Try.ntmps9
    go_wp2_with fail
    refine (cellOf_any xs _ s _ (hh.later goodE hb0)).mono ?_
    rintro e w1 ⟨rfl, hb1⟩
    have hbw := nstep1 (Below.refl _ _) hb1
    rw [hf]
    clear hf hx hp hn hb0 hb1
    obtain ⟨ad', cap', e', -, -, -, hrow⟩ := hh.later goodE hbw
    simp only [Value.slice.injEq] at e'
    obtain ⟨rfl, -, -⟩ := e'
    obtain ⟨b, o, rfl, -, -, -, -, q3, -, lv, q5, ql⟩ := hrow j x HX.out
    clear hrow hh
    by_cases he : x.epoch = ep
    · obtain ⟨ad2, cap2, rfl, hl2, hcap2, -, hrow2⟩ := id ql
      unfold maxLen at hcap2
      have HG1 : Hid (getE xs s ep c = lineE x.lines c) := by show _ = _; rw [HG0.out, if_pos he]
      rcases findI_cases (fun y : QL => y.cls == c) x.lines with hf | ⟨q, y, hf, hy, hpy, hny⟩
      · have HG : Hid (getE xs s ep c = -1) := by show _ = _; rw [HG1.out]; unfold lineE; rw [find_none hf]; rfl
        go_wp2_with fail
        refine (lineOf_any x.lines _ c _ ql).mono ?_
        rintro e w2 ⟨rfl, hb2⟩
        rw [hf]
        go_wp2
        go_ret
        exact ⟨ret_i HG.out.symm, nstep hbw hb2⟩
      · have HG : Hid (getE xs s ep c = y.found) := by show _ = _; rw [HG1.out]; unfold lineE; rw [find_at hy hpy hny]; rfl
        have hq := lt_of_get hy
        have hq0 : (0 : Int) ≤ (q : Int) := by omega
        have hq1 : (q : Int) < (x.lines.length : Int) := by omega
        have HY : Hid (x.lines[q]? = some y) := hy
        clear hy hpy hny
        go_wp2_with fail
        refine (lineOf_any x.lines _ c _ ql).mono ?_
        rintro e w2 ⟨rfl, hb2⟩
        rw [hf]
        obtain ⟨b3, o3, rfl, -, y0, y1⟩ := hrow2 q y HY.out
        replace y1 := cell_later hb2 y1
        replace q5 := cell_later hb2 q5
        clear hrow2
        go_wp2
        go_ret
        exact ⟨ret_i HG.out.symm, nstep hbw hb2⟩
    · have HG : Hid (getE xs s ep c = -1) := by show _ = _; rw [HG0.out, if_neg he]
      have hd : (x.epoch != ep) = true := by simpa using he
      go_wp2
      go_ret
      exact ⟨ret_i HG.out.symm, hbw⟩
end Go.Proofs.Ytidjpdpbjgnfkaa
