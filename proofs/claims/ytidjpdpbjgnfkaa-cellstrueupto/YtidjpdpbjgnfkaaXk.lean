/- The reference's Put. -/
import Derived.Test.YtidjpdpbjgnfkaaXj
namespace Go.Proofs.Ytidjpdpbjgnfkaa
open Go.ChangeShapes Go.WideShapes Go.ChangeAt Go.RowKit
set_option linter.unusedSimpArgs false
set_option linter.unusedVariables false
set_option maxRecDepth 8000

/-- The reference's Put, step by step. -/
def pstep (s : QS) (ep : Int) (y : QL) (p : List QE × Bool) (x : QE) : List QE × Bool := if eqS x.site s = true ∧ p.2 = false then (p.1 ++ [withLineE (freshE x s ep) y], true) else (p.1 ++ [x], p.2)
def prun (s : QS) (ep : Int) (y : QL) (xs : List QE) : List QE × Bool := xs.foldl (pstep s ep y) ([], false)
def pfin (s : QS) (ep : Int) (y : QL) (p : List QE × Bool) : List QE := if p.2 then p.1 else p.1 ++ [withLineE ⟨s, ep, false, []⟩ y]
theorem prun_snoc (s : QS) (ep : Int) (y : QL) (xs : List QE) (x : QE) : prun s ep y (xs ++ [x]) = pstep s ep y (prun s ep y xs) x := by simp [prun]
theorem pfold_true (s : QS) (ep : Int) (y : QL) : ∀ (xs pre : List QE), xs.foldl (pstep s ep y) (pre, true) = (pre ++ xs, true)
  | [], pre => by simp
  | x :: r, pre => by
    rw [List.foldl_cons]
    have : pstep s ep y (pre, true) x = (pre ++ [x], true) := by simp [pstep]
    rw [this, pfold_true s ep y r]
    simp
theorem pfold_false (s : QS) (ep : Int) (y : QL) : ∀ (xs pre : List QE), pfin s ep y (xs.foldl (pstep s ep y) (pre, false)) = pre ++ putE xs s ep y
  | [], pre => by simp [pfin, putE]
  | x :: r, pre => by
    rw [List.foldl_cons]
    by_cases hx : eqS x.site s = true
    · have : pstep s ep y (pre, false) x = (pre ++ [withLineE (freshE x s ep) y], true) := by simp [pstep, hx]
      rw [this, pfold_true]
      simp [pfin, putE, hx]
    · have : pstep s ep y (pre, false) x = (pre ++ [x], false) := by simp [pstep, hx]
      rw [this, pfold_false s ep y r]
      simp [putE, hx]
theorem pfin_run (s : QS) (ep : Int) (y : QL) (xs : List QE) : pfin s ep y (prun s ep y xs) = putE xs s ep y := by
  have := pfold_false s ep y xs []
  simpa [prun] using this
theorem prun_len (s : QS) (ep : Int) (y : QL) (xs : List QE) : (prun s ep y xs).1.length = xs.length := by
  have : ∀ (xs : List QE) (p : List QE × Bool), (xs.foldl (pstep s ep y) p).1.length = p.1.length + xs.length := by
    intro xs
    induction xs with
    | nil => simp
    | cons x r ih =>
      intro p
      rw [List.foldl_cons, ih]
      unfold pstep
      split <;> simp <;> omega
  have := this xs ([], false)
  simpa [prun] using this
theorem fresh_same (s : QS) (ep : Int) : freshE ⟨s, ep, false, []⟩ s ep = ⟨s, ep, false, []⟩ := by simp [freshE]

/-- The boxes, at first. -/
theorem putR_new (w : World) (s : QS) (ep c fd : Int) : PutR w.heap.size s ep c fd (.slice none 0 0) [] false ((((((w.alloc (.cells #[.int .i64 s.cls, .string s.name, .int .i64 s.at'] 28)).alloc (.cells #[.int .i64 ep] 3)).alloc (.cells #[.int .i64 c] 3)).alloc (.cells #[.int .i64 fd] 3)).alloc (.cells #[.slice none 0 0] 22)).alloc (.cells #[.bool false] 4)) := by
  refine ⟨?_, ?_, ?_, ?_, ?_, ?_, ?_, ?_, OutN.nil, by simp⟩
  · exact ((siteNew w s 28).later (bel3 _ _ _ _)).later (bel2 _ _ _)
  · exact cell_later (bel2 _ _ _) (cell_later (bel2 _ _ _) (by rw [cell_new _ _ _ _ (by simp)]; rfl))
  · exact cell_later (bel3 _ _ _ _) (by rw [cell_new _ _ _ _ (by simp)]; rfl)
  · exact cell_later (bel2 _ _ _) (by rw [cell_new _ _ _ _ (by simp)]; rfl)
  · exact cell_later (bel1 _ _) (by rw [cell_new _ _ _ _ (by simp)]; rfl)
  · rw [cell_new _ _ _ _ (by simp)]; rfl
  · exact ((bel1 _ _).frozen (p := ⟨w.heap.size + 4, 0, none⟩) (by simp)).trans (frozen_new _ _ _ _ _ (by simp))
  · exact frozen_new _ _ _ _ _ (by simp)

set_option maxHeartbeats 4000000 in
theorem rput_any {P : Nat → Prop} (xs : List QE) (v : Value) (s : QS) (ep c fd : Int) (w : World) (hh : IsCells P w v xs) (hby : (xs.length + 1) * 72 ≤ 140737488355328) :
    Calls Try.prog 13 #[v, SV s, .int .i64 ep, .int .i64 c, .int .i64 fd] w fun e w' => ∃ a k, e = .returned (.slice a (putE xs s ep ⟨c, fd⟩).length k) ∧ IsCells (fun _ => True) w' (.slice a (putE xs s ep ⟨c, fd⟩).length k) (putE xs s ep ⟨c, fd⟩) ∧ Below w.heap.size w w' := by
  have hm := hmf
  have ho := cells_old hh
  obtain ⟨ad, cap, rfl, hl, hcap, -, -⟩ := id hh
  unfold maxLen at hcap
  have hP0 := putR_new w s ep c fd
  have hb0 : Below w.heap.size w ((((((w.alloc (.cells #[.int .i64 s.cls, .string s.name, .int .i64 s.at'] 28)).alloc (.cells #[.int .i64 ep] 3)).alloc (.cells #[.int .i64 c] 3)).alloc (.cells #[.int .i64 fd] 3)).alloc (.cells #[.slice none 0 0] 22)).alloc (.cells #[.bool false] 4)) := ((((bel2 _ _ _).alloc (by simp; omega) _).alloc (by simp; omega) _).alloc (by simp; omega) _).alloc (by simp; omega) _
  clear hh
  go_enter Try.func13, Try.ntmps13
  go_wp2
  generalize ((((((w.alloc (.cells #[.int .i64 s.cls, .string s.name, .int .i64 s.at'] 28)).alloc (.cells #[.int .i64 ep] 3)).alloc (.cells #[.int .i64 c] 3)).alloc (.cells #[.int .i64 fd] 3)).alloc (.cells #[.slice none 0 0] 22)).alloc (.cells #[.bool false] 4)) = W0 at *
  simp only [Nat.add_assoc, Nat.reduceAdd]
  clear hm
  go_loopg [19] xs.length (fun g i wr => ∃ (j : Nat) (ov : Value), j + g = xs.length ∧ i = .int .i64 j ∧ Below w.heap.size w wr ∧ PutR w.heap.size s ep c fd ov (prun s ep ⟨c, fd⟩ (xs.take j)).1 (prun s ep ⟨c, fd⟩ (xs.take j)).2 wr)
  case atStart => exact ⟨0, _, by omega, rfl, hb0, hP0⟩
  case round =>
    obtain ⟨j, ov, hj, rfl, hbel, hP⟩ := hrel
    have hlen : (prun s ep ⟨c, fd⟩ (xs.take j)).1.length = j := by rw [prun_len, List.length_take]; omega
    clear hP0 hb0
    have HO : Hid (IsCells (fun b => b < w.heap.size) wr (.slice ad xs.length cap) xs) := ho.later goodE hbel
    have hzr := hP.sz
    by_cases hlt : j < xs.length
    · obtain ⟨ad', cap', e', -, -, -, hrow⟩ := HO.out
      simp only [Value.slice.injEq] at e'
      obtain ⟨rfl, -, -⟩ := e'
      obtain ⟨b, o, rfl, -, q0, q1, q2, q3, q4, lv, q5, ql⟩ := hrow j xs[j] (by simp [hlt])
      have hxj : Hid (xs[j]? = some xs[j]) := by show _ = _; simp [hlt]
      generalize xs[j] = x at *
      have HC : Hid (prun s ep ⟨c, fd⟩ (xs.take (j + 1)) = pstep s ep ⟨c, fd⟩ (prun s ep ⟨c, fd⟩ (xs.take j)) x) := by show _ = _; rw [take_snoc hxj.out, prun_snoc]
      simp only [Nat.add_zero] at q0
      obtain ⟨ad2, cap2, rfl, hl2, hcap2, -, -⟩ := id ql
      unfold maxLen at hcap2
      generalize hcr : prun s ep ⟨c, fd⟩ (xs.take j) = pd at *
      obtain ⟨pre, dn⟩ := pd
      simp only at hP hlen ⊢
      clear hcr hrow
      obtain ⟨s0, s1, s2⟩ := id hP.site
      have s0' := fun y => cell_later (bel1 wr y) s0
      have s1' := fun y => cell_later (bel1 wr y) s1
      have s2' := fun y => cell_later (bel1 wr y) s2
      have ed' := fun y => cell_later (bel1 wr y) hP.d
      have eo' := fun y => cell_later (bel1 wr y) hP.o
      have he := fun w => eqlS x.site s w
      have hj1 : (j : Int) < (xs.length : Int) := by omega
      have hj0 : (0 : Int) ≤ (j : Int) := by omega
      have hbx := bel1 wr (Obj.cells #[Value.int IntKind.i64 x.site.cls, Value.string x.site.name, Value.int IntKind.i64 x.site.at', Value.int IntKind.i64 x.epoch, Value.bool x.many, Value.slice ad2 x.lines.length cap2] 49)
      have hPx := hP.later hbx
      have hlx := ql.later goodL hbx
      have hob := hP.out.block
      clear s0 s1 s2
      by_cases hcase : eqS x.site s = true ∧ dn = false
      · obtain ⟨h1, rfl⟩ := hcase
        have HP : Hid (pstep s ep ⟨c, fd⟩ (pre, false) x = (pre ++ [withLineE (freshE x s ep) ⟨c, fd⟩], true)) := by show _ = _; unfold pstep; rw [if_pos ⟨h1, rfl⟩]
        rw [h1] at he
        clear h1
        go_wp2_with fail
        refine (radd_any w.heap.size s ep c fd ov pre false x _ _ hPx hlx (by unfold maxLen; omega) (by rw [hlen]; omega)).mono ?_
        rintro e w2 ⟨rfl, ov2, hP2, hb2⟩
        go_wp2
        go_roundg (gk - 1)
        case measure => omega
        case rel => exact ⟨j + 1, ov2, by omega, by go_num, hbel.trans ((hbx.mono hbel.size).trans (hb2.mono (by omega))), by rw [HC.out, HP.out]; exact hP2⟩
      · have HP : Hid (pstep s ep ⟨c, fd⟩ (pre, dn) x = (pre ++ [x], dn)) := by show _ = _; unfold pstep; rw [if_neg hcase]
        have hfo' := hPx.fo
        cases h1 : eqS x.site s with
        | false =>
          rw [h1] at he
          clear hcase
          go_wp2_with (at_builtin; refine wpList_append_outN goodE rfl (.tmp 34) (.tmp 36) 22 rfl 49 _ 72 Try.underlying22 info49 rfl (w.heap.size + 6) _ pre rfl (hPx.out.later goodE (bel1 _ _)) _ 49 [.int .i64 x.site.cls, .string x.site.name, .int .i64 x.site.at', .int .i64 x.epoch, .bool x.many, .slice ad2 x.lines.length cap2] rfl (blkN _ _ _ (by simp)) rfl x (R' := fun b => b < w.heap.size) ⟨rfl, rfl, rfl, rfl, rfl, _, rfl, hlx.later goodL (bel1 _ _)⟩ (fun b hb => ⟨Or.inl hb, by simp; omega, fun e => by have := (hob b e.symm).1; omega⟩) (by simp; omega) (by unfold maxLen; omega) (by rw [hlen]; omega) ?_; intro g3 cap3 w3 hout3 hbel3; have hb3 := ((bel1 _ _).mono hPx.sz).trans hbel3; have hP3 := hPx.next hb3 hout3; have eo3 := (hb3.cell (p := ⟨w.heap.size + 4, 0, none⟩) (by simp)).trans hPx.o; have fo3 := (hb3.frozen (p := ⟨w.heap.size + 4, 0, none⟩) (by simp)).trans hPx.fo)
          go_roundg (gk - 1)
          case measure => omega
          case rel => exact ⟨j + 1, _, by omega, by go_num, ((hbel.trans (hbx.mono hbel.size)).trans (hb3.mono (by omega))).setCell (by simp) _, by rw [HC.out, HP.out]; simpa [hlen] using hP3⟩
        | true =>
          obtain rfl : dn = true := by
            cases dn with
            | true => rfl
            | false => exact absurd ⟨h1, rfl⟩ hcase
          rw [h1] at he
          clear hcase
          go_wp2_with (at_builtin; refine wpList_append_outN goodE rfl (.tmp 34) (.tmp 36) 22 rfl 49 _ 72 Try.underlying22 info49 rfl (w.heap.size + 6) _ pre rfl (hPx.out.later goodE (bel1 _ _)) _ 49 [.int .i64 x.site.cls, .string x.site.name, .int .i64 x.site.at', .int .i64 x.epoch, .bool x.many, .slice ad2 x.lines.length cap2] rfl (blkN _ _ _ (by simp)) rfl x (R' := fun b => b < w.heap.size) ⟨rfl, rfl, rfl, rfl, rfl, _, rfl, hlx.later goodL (bel1 _ _)⟩ (fun b hb => ⟨Or.inl hb, by simp; omega, fun e => by have := (hob b e.symm).1; omega⟩) (by simp; omega) (by unfold maxLen; omega) (by rw [hlen]; omega) ?_; intro g3 cap3 w3 hout3 hbel3; have hb3 := ((bel1 _ _).mono hPx.sz).trans hbel3; have hP3 := hPx.next hb3 hout3; have eo3 := (hb3.cell (p := ⟨w.heap.size + 4, 0, none⟩) (by simp)).trans hPx.o; have fo3 := (hb3.frozen (p := ⟨w.heap.size + 4, 0, none⟩) (by simp)).trans hPx.fo)
          go_roundg (gk - 1)
          case measure => omega
          case rel => exact ⟨j + 1, _, by omega, by go_num, ((hbel.trans (hbx.mono hbel.size)).trans (hb3.mono (by omega))).setCell (by simp) _, by rw [HC.out, HP.out]; simpa [hlen] using hP3⟩
    · obtain rfl : j = xs.length := by omega
      have HT : Hid (xs.take xs.length = xs) := List.take_of_length_le (Nat.le_refl _)
      rw [HT.out] at hP hlen
      have HF : Hid (putE xs s ep ⟨c, fd⟩ = pfin s ep ⟨c, fd⟩ (prun s ep ⟨c, fd⟩ xs)) := (pfin_run s ep ⟨c, fd⟩ xs).symm
      generalize hcr : prun s ep ⟨c, fd⟩ xs = pd at *
      obtain ⟨pre, dn⟩ := pd
      simp only at hP hlen
      clear hcr
      have HLEN : Hid (pre.length = xs.length) := hlen
      clear hlen
      obtain ⟨s0, s1, s2⟩ := id hP.site
      have ed := hP.d
      have eo := hP.o
      have ee := hP.e
      cases dn with
      | true =>
        have HE : Hid (putE xs s ep ⟨c, fd⟩ = pre) := by show _ = _; rw [HF.out]; rfl
        obtain ⟨a9, c9, rfl⟩ := hP.out.form
        go_wp2
        go_ret
        rw [HE.out]
        exact ⟨a9, c9, rfl, hP.out.row goodE, hbel⟩
      | false =>
        have HE : Hid (putE xs s ep ⟨c, fd⟩ = pre ++ [withLineE ⟨s, ep, false, []⟩ ⟨c, fd⟩]) := by show _ = _; rw [HF.out]; rfl
        go_wp2_with fail
        refine (radd_any w.heap.size s ep c fd ov pre false ⟨s, ep, false, []⟩ (.slice none 0 0) _ hP ⟨none, 0, rfl, by simp, by simp, by simp, fun i x hx => by simp at hx⟩ (by rw [HLEN.out]; unfold maxLen; omega) (by rw [HLEN.out]; omega)).mono ?_
        rintro e w2 ⟨rfl, ov2, hP2, hb2⟩
        rw [fresh_same] at hP2
        generalize pre ++ [withLineE ⟨s, ep, false, []⟩ ⟨c, fd⟩] = ys at *
        obtain ⟨a9, c9, rfl⟩ := hP2.out.form
        have eo2 := hP2.o
        go_wp2
        go_ret
        rw [HE.out]
        exact ⟨a9, c9, rfl, hP2.out.row goodE, hbel.trans (hb2.mono (by omega))⟩
end Go.Proofs.Ytidjpdpbjgnfkaa
