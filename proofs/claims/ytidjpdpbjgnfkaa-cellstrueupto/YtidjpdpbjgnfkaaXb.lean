/- cells: withLine, Put. -/
import Derived.Test.YtidjpdpbjgnfkaaXa
namespace Go.Proofs.Ytidjpdpbjgnfkaa
open Go.ChangeShapes Go.WideShapes Go.ChangeAt Go.RowKit
set_option linter.unusedSimpArgs false
set_option linter.unusedVariables false
set_option maxRecDepth 8000

/-- A line more, if there is need of it and room for it. -/
def withLineE (x : QE) (y : QL) : QE := if x.many = true ∨ 0 ≤ findI (fun z : QL => z.cls == y.cls) x.lines then x else if 3 ≤ x.lines.length then ⟨x.site, x.epoch, true, []⟩ else ⟨x.site, x.epoch, x.many, x.lines ++ [y]⟩

theorem cell_setc (w : World) (b o : Nat) (u : Value) {v : Value} (h : w.cell? ⟨b, o, none⟩ = some v) : (w.setCell ⟨b, o, none⟩ u).cell? ⟨b, o, none⟩ = some u := cell_set_self h u

/-- What withLine leaves. -/
def WLeft (P : Nat → Prop) (w : World) (x : QE) (e : Ending) (w' : World) : Prop :=
  ∃ a n c, e = .returned (EV x (.slice a n c)) ∧ n = x.lines.length ∧ IsLines (fun b => P b ∨ w.heap.size ≤ b) w' (.slice a n c) x.lines ∧ Below w.heap.size w w'

theorem linesOf {w : World} {g cap n : Nat} {ls : List QL} {R : Nat → Prop} {vs : List Value} (h : ∃ cur : Array Value, w.heap[g]? = some (.cells cur 55 (0, 0)) ∧ cur.size = cap * 2 ∧ n + 1 ≤ cap ∧ cap ≤ maxLen ∧ Cells LineC 2 R w (cur.toList.take ((n + 1) * 2)) ls ∧ ∀ k v, vs[k]? = some v → w.cell? ⟨g, n * 2 + k, none⟩ = some v) (hn : ls.length = n + 1 := by simp) : IsLines (fun b => b = g) w (.slice (some ⟨g, 0, none⟩) (n + 1) cap) ls := by
  obtain ⟨cur, q1, q2, q3, q4, q5, -⟩ := h
  have := Cells.row (E := LineC) (sz := 2) (bytes := 0) (P := fun b => b = g) (xs := ls) (g := g) (cap := cap) ⟨q5.1, q5.2⟩ goodL rfl q1 (by rw [hn]) (by omega) q4 (by simp)
  rw [hn] at this
  exact this
set_option maxHeartbeats 2000000 in
theorem withLine_any {P : Nat → Prop} (x : QE) (y : QL) (lv : Value) (w : World) (hh : Tight P w lv x.lines) : Calls Try.prog 31 #[EV x lv, LV y] w fun e w' => WLeft P w (withLineE x y) e w' := by
  obtain ⟨ad, rfl, hnone, hl⟩ := hh
  have hb3 := bel3 w (.cells #[.int .i64 x.site.cls, .string x.site.name, .int .i64 x.site.at', .int .i64 x.epoch, .bool x.many, .slice ad x.lines.length x.lines.length] 49) (.cells #[.int .i64 y.cls, .int .i64 y.found] 55) (.cells #[.int .i64 0, .string ⟨#[]⟩, .int .i64 0, .int .i64 0, .bool false, .slice none 0 0] 49)
  by_cases hm : x.many = true
  · have HW : Hid (withLineE x y = x) := by show _ = _; unfold withLineE; rw [if_pos (Or.inl hm)]
    go_enter Try.func31, Try.ntmps31
    go_wp2
    refine bodyPost_ret (v := EV x (.slice ad x.lines.length x.lines.length)) ?_ rfl ?_
    · simp [results, Try.results31, go_sem, hm]
    · rw [HW.out]
      refine ⟨ad, _, _, rfl, rfl, ?_, ?_⟩
      · exact (hl.later goodL (bel3 _ _ _ _)).mono goodL fun b h => Or.inl h
      · exact bel3 _ _ _ _
  · have hm' : x.many = false := by simpa using hm
    clear hm
    have hX := ((boxE_new w x (.slice ad x.lines.length x.lines.length) 49).later (bel1 _ (.cells #[.int .i64 y.cls, .int .i64 y.found] 55))).later (bel1 _ (.cells #[.int .i64 0, .string ⟨#[]⟩, .int .i64 0, .int .i64 0, .bool false, .slice none 0 0] 49))
    have hZ := boxE_new ((w.alloc (.cells #[.int .i64 x.site.cls, .string x.site.name, .int .i64 x.site.at', .int .i64 x.epoch, .bool x.many, .slice ad x.lines.length x.lines.length] 49)).alloc (.cells #[.int .i64 y.cls, .int .i64 y.found] 55)) ⟨⟨0, ⟨#[]⟩, 0⟩, 0, false, []⟩ (.slice none 0 0) 49
    have hzs : ((w.alloc (.cells #[.int .i64 x.site.cls, .string x.site.name, .int .i64 x.site.at', .int .i64 x.epoch, .bool x.many, .slice ad x.lines.length x.lines.length] 49)).alloc (.cells #[.int .i64 y.cls, .int .i64 y.found] 55)).heap.size = w.heap.size + 1 + 1 := by simp
    rw [hzs] at hZ
    have hY0 : (((w.alloc (.cells #[.int .i64 x.site.cls, .string x.site.name, .int .i64 x.site.at', .int .i64 x.epoch, .bool x.many, .slice ad x.lines.length x.lines.length] 49)).alloc (.cells #[.int .i64 y.cls, .int .i64 y.found] 55)).alloc (.cells #[.int .i64 0, .string ⟨#[]⟩, .int .i64 0, .int .i64 0, .bool false, .slice none 0 0] 49)).cell? ⟨w.heap.size + 1, 0, none⟩ = some (.int .i64 y.cls) := cell_later (bel1 _ _) (by rw [cell_new _ _ _ _ (by simp)]; rfl)
    have hY1 : (((w.alloc (.cells #[.int .i64 x.site.cls, .string x.site.name, .int .i64 x.site.at', .int .i64 x.epoch, .bool x.many, .slice ad x.lines.length x.lines.length] 49)).alloc (.cells #[.int .i64 y.cls, .int .i64 y.found] 55)).alloc (.cells #[.int .i64 0, .string ⟨#[]⟩, .int .i64 0, .int .i64 0, .bool false, .slice none 0 0] 49)).cell? ⟨w.heap.size + 1, 1, none⟩ = some (.int .i64 y.found) := cell_later (bel1 _ _) (by rw [cell_new _ _ _ _ (by simp)]; rfl)
    have hF0 : ∀ o, (((w.alloc (.cells #[.int .i64 x.site.cls, .string x.site.name, .int .i64 x.site.at', .int .i64 x.epoch, .bool x.many, .slice ad x.lines.length x.lines.length] 49)).alloc (.cells #[.int .i64 y.cls, .int .i64 y.found] 55)).alloc (.cells #[.int .i64 0, .string ⟨#[]⟩, .int .i64 0, .int .i64 0, .bool false, .slice none 0 0] 49)).frozen? ⟨w.heap.size, o, none⟩ = false := fun o => ((bel2 _ _ _).frozen (p := ⟨w.heap.size, o, none⟩) (by simp)).trans (frozen_new w _ _ _ _ rfl)
    have hF2 : ∀ o, (((w.alloc (.cells #[.int .i64 x.site.cls, .string x.site.name, .int .i64 x.site.at', .int .i64 x.epoch, .bool x.many, .slice ad x.lines.length x.lines.length] 49)).alloc (.cells #[.int .i64 y.cls, .int .i64 y.found] 55)).alloc (.cells #[.int .i64 0, .string ⟨#[]⟩, .int .i64 0, .int .i64 0, .bool false, .slice none 0 0] 49)).frozen? ⟨w.heap.size + 1 + 1, o, none⟩ = false := fun o => frozen_new _ _ _ _ _ hzs
    have hl3 := hl.later goodL hb3
    have hz3 : (((w.alloc (.cells #[.int .i64 x.site.cls, .string x.site.name, .int .i64 x.site.at', .int .i64 x.epoch, .bool x.many, .slice ad x.lines.length x.lines.length] 49)).alloc (.cells #[.int .i64 y.cls, .int .i64 y.found] 55)).alloc (.cells #[.int .i64 0, .string ⟨#[]⟩, .int .i64 0, .int .i64 0, .bool false, .slice none 0 0] 49)).heap.size = w.heap.size + 3 := by simp
    rw [hm'] at hb3 hX hZ hY0 hY1 hF0 hF2 hl3 hz3
    go_enter Try.func31, Try.ntmps31
    go_upto_region 1 with (fail)
    generalize (((w.alloc (.cells #[.int .i64 x.site.cls, .string x.site.name, .int .i64 x.site.at', .int .i64 x.epoch, .bool false, .slice ad x.lines.length x.lines.length] 49)).alloc (.cells #[.int .i64 y.cls, .int .i64 y.found] 55)).alloc (.cells #[.int .i64 0, .string ⟨#[]⟩, .int .i64 0, .int .i64 0, .bool false, .slice none 0 0] 49)) = W3 at *
    have hne02 : ¬ w.heap.size = w.heap.size + 1 + 1 := by omega
    have hne20 : ¬ w.heap.size + 1 + 1 = w.heap.size := by omega
    have hLast : ∀ {w1 : World} {u0 u1 u2 u3 u4 u5 : Value}, Below W3.heap.size W3 w1 → Below w.heap.size w ((((((w1.setCell ⟨w.heap.size + 1 + 1, 0, none⟩ u0).setCell ⟨w.heap.size + 1 + 1, 1, none⟩ u1).setCell ⟨w.heap.size + 1 + 1, 2, none⟩ u2).setCell ⟨w.heap.size + 1 + 1, 3, none⟩ u3).setCell ⟨w.heap.size + 1 + 1, 4, none⟩ u4).setCell ⟨w.heap.size + 1 + 1, 5, none⟩ u5) := fun h => ((((((hb3.trans (h.mono hb3.size)).setCell (by simp; omega) _).setCell (by simp; omega) _).setCell (by simp; omega) _).setCell (by simp; omega) _).setCell (by simp; omega) _).setCell (by simp; omega) _
    obtain ⟨x0, x1, x2, x3, x4, x5⟩ := id hX
    rcases findI_cases (fun z : QL => z.cls == y.cls) x.lines with hf | ⟨j, z, hf, hz, hp, hn⟩
    · by_cases h3 : 3 ≤ x.lines.length
      · have HW : Hid (withLineE x y = ⟨x.site, x.epoch, true, []⟩) := by show _ = _; unfold withLineE; rw [if_neg (by rw [hf, hm']; simp), if_pos h3]
        have h3' : (3 : Int) ≤ (x.lines.length : Int) := by omega
        go_wp2_with fail
        refine (lineOf_any x.lines _ y.cls _ hl3).mono ?_
        rintro e w1 ⟨rfl, hb1⟩
        rw [hf]
        obtain ⟨x0, x1, x2, x3, x4, x5⟩ := hX.later hb1
        obtain ⟨z0, z1, z2, z3, z4, z5⟩ := hZ.later hb1
        have f2 := fun o => (hb1.frozen (p := ⟨w.heap.size + 1 + 1, o, none⟩) (by simp; omega)).trans (hF2 o)
        go_wp2
        refine bodyPost_ret (v := EV ⟨x.site, x.epoch, true, []⟩ (.slice none 0 0)) ?_ rfl ?_
        · simp [results, Try.results31, go_sem, z0, z1, z2, z3, z4, z5]
        · rw [HW.out]
          exact ⟨none, 0, 0, rfl, rfl, ⟨none, 0, rfl, by simp, by simp, by simp, fun i x hx => by simp at hx⟩, hLast hb1⟩
      · have HW : Hid (withLineE x y = ⟨x.site, x.epoch, false, x.lines ++ [y]⟩) := by show _ = _; unfold withLineE; rw [if_neg (by rw [hf, hm']; simp), if_neg h3, hm']
        have h3' : (x.lines.length : Int) < (3 : Int) := by omega
        go_wp2_with fail
        refine (lineOf_any x.lines _ y.cls _ hl3).mono ?_
        rintro e w1 ⟨rfl, hb1⟩
        rw [hf]
        have hX1 := hX.later hb1
        have hZ1 := hZ.later hb1
        obtain ⟨x0, x1, x2, x3, x4, x5⟩ := id hX1
        have y0 := cell_later hb1 hY0
        have y1 := cell_later hb1 hY1
        have f0 := fun o => (hb1.frozen (p := ⟨w.heap.size, o, none⟩) (by simp; omega)).trans (hF0 o)
        have f2 := fun o => (hb1.frozen (p := ⟨w.heap.size + 1 + 1, o, none⟩) (by simp; omega)).trans (hF2 o)
        have hl1 := hl3.later goodL hb1
        have hz1 : w.heap.size + 3 ≤ w1.heap.size := by have := hb1.size; omega
        go_wp2_with (at_builtin; refine wpList_append_one (R := P) goodL rfl (.tmp 26) (.tmp 28) 47 rfl 55 _ 16 Try.underlying47 info55 rfl x.lines _ rfl (hl1.later goodL (bel1 _ _)) _ 55 [.int .i64 y.cls, .int .i64 y.found] rfl (heap_alloc_new _ _) rfl y (P' := fun b => False) ⟨rfl, rfl⟩ hnone (by unfold maxLen; omega) (by omega) (fun _ h => h) (fun _ h => h.elim) ?_; intro g2 cap2 w2 hrow2 hg2 hgl2 hb2 hblk2; have hb12 := nstep1 (Below.refl _ _) hb2; obtain ⟨x0, x1, x2, x3, x4, x5⟩ := hX1.later hb12; obtain ⟨z0, z1, z2, z3, z4, z5⟩ := hZ1.later hb12; have g0 := fun o => (hb12.frozen (p := ⟨w.heap.size, o, none⟩) (by simp; omega)).trans (f0 o); have g2' := fun o => (hb12.frozen (p := ⟨w.heap.size + 1 + 1, o, none⟩) (by simp; omega)).trans (f2 o); have HL2 : Hid (IsLines (fun b => b = g2) w2 (.slice (some ⟨g2, 0, none⟩) (x.lines.length + 1) cap2) (x.lines ++ [y])) := linesOf hblk2; clear hrow2 hblk2)
        have hg2' : w.heap.size + 3 ≤ g2 := by simp at hg2; omega
        refine bodyPost_ret (v := EV ⟨x.site, x.epoch, false, x.lines ++ [y]⟩ (.slice (some ⟨g2, 0, none⟩) (x.lines.length + 1) cap2)) ?_ rfl ?_
        · simp [results, Try.results31, go_sem, z0, z1, z2, z3, z4, z5]
        · rw [HW.out]
          have hbw2 : Below w.heap.size w w2 := hb3.trans ((hb1.mono hb3.size).trans (hb12.mono (by have := hb1.size; omega)))
          refine ⟨some ⟨g2, 0, none⟩, _, cap2, rfl, by simp, ?_, ((((((hbw2.setCell (Nat.le_refl _) _).setCell (by simp; omega) _).setCell (by simp; omega) _).setCell (by simp; omega) _).setCell (by simp; omega) _).setCell (by simp; omega) _).setCell (by simp; omega) _⟩
          refine HL2.out.keep goodL ?_ (fun b h => Or.inr (by omega))
          exact keep_set (keep_set (keep_set (keep_set (keep_set (keep_set (keep_set (Keeps.refl _ _) (by show ¬ (_ = g2); omega) _) (by show ¬ (_ = g2); omega) _) (by show ¬ (_ = g2); omega) _) (by show ¬ (_ = g2); omega) _) (by show ¬ (_ = g2); omega) _) (by show ¬ (_ = g2); omega) _) (by show ¬ (_ = g2); omega) _
    · have HW : Hid (withLineE x y = x) := by show _ = _; unfold withLineE; rw [if_pos (Or.inr (by rw [hf]; omega))]
      have hj0 : (0 : Int) ≤ (j : Int) := by omega
      clear hz hp hn
      go_wp2_with fail
      refine (lineOf_any x.lines _ y.cls _ hl3).mono ?_
      rintro e w1 ⟨rfl, hb1⟩
      rw [hf]
      obtain ⟨x0, x1, x2, x3, x4, x5⟩ := hX.later hb1
      obtain ⟨z0, z1, z2, z3, z4, z5⟩ := hZ.later hb1
      have f2 := fun o => (hb1.frozen (p := ⟨w.heap.size + 1 + 1, o, none⟩) (by simp; omega)).trans (hF2 o)
      go_wp2
      refine bodyPost_ret (v := EV x (.slice ad x.lines.length x.lines.length)) ?_ rfl ?_
      · simp [results, Try.results31, go_sem, z0, z1, z2, z3, z4, z5, hm']
      · rw [HW.out]
        exact ⟨ad, _, _, rfl, rfl, (hl.later goodL (hLast hb1)).mono goodL fun b h => Or.inl h, hLast hb1⟩
end Go.Proofs.Ytidjpdpbjgnfkaa
