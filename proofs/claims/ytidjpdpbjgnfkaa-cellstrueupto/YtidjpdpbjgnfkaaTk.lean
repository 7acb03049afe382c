/- The reference's Count: its walk. -/
import Derived.Test.YtidjpdpbjgnfkaaTj
namespace Go.Proofs.Ytidjpdpbjgnfkaa
open Go.ChangeShapes Go.WideShapes Go.ChangeAt Go.RowKit
set_option linter.unusedSimpArgs false
set_option linter.unusedVariables false
set_option maxRecDepth 8000

theorem blkN (w : World) (o : Obj) (n : Nat) (hn : w.heap.size = n) : (w.alloc o).heap[n]? = some o := by subst hn; exact heap_alloc_new w o
theorem oneLine (w : World) (c : Int) (o : Obj) : IsLines (fun b => b = w.heap.size) ((w.alloc (.cells #[.int .i64 c, .int .i64 1] 55)).alloc o) (.slice (some ⟨w.heap.size, 0, none⟩) 1 1) [⟨c, 1⟩] := by
  refine ⟨_, _, rfl, Nat.le_refl _, by unfold maxLen; omega, by simp, fun i x hx => ⟨w.heap.size, 0, rfl, rfl, ?_⟩⟩
  have hi := lt_of_get hx
  obtain rfl : i = 0 := by simpa using hi
  simp at hx
  subst hx
  exact ⟨cell_later (bel1 _ _) (cell_new w _ _ _ rfl 0), cell_later (bel1 _ _) (cell_new w _ _ _ rfl 1)⟩
theorem Out.lines {B : Nat} {w : World} {v : Value} {ls : List QL} (h : Out LineC 2 55 B w v ls) : IsLines (fun b => B ≤ b ∧ b < w.heap.size) w v ls := by
  obtain ⟨cs, h1, h2⟩ := h
  exact owns_row goodL h1 rfl (P := fun b => B ≤ b ∧ b < w.heap.size) ⟨h2.1, h2.2⟩ fun g h h' => ⟨h, h'⟩
set_option maxHeartbeats 4000000 in
theorem count_any {P : Nat → Prop} (xs : List QT) (v : Value) (s : QS) (c : Int) (w : World) (hh : IsTallies P w v xs) (hby : (xs.length + 1) * 56 ≤ 140737488355328) (hls : ∀ x ∈ xs, (x.lines.length + 1) * 16 ≤ 140737488355328) :
    Calls Try.prog 24 #[v, SV s, .int .i64 c] w fun e w' => ∃ a cap, e = .returned (.slice a (addE xs s c).length cap) ∧ IsTallies (fun _ => True) w' (.slice a (addE xs s c).length cap) (addE xs s c) ∧ Below w.heap.size w w' := by
  have ho := tallies_old hh
  obtain ⟨ad, cap, rfl, hl, hcap, -, -⟩ := id hh
  unfold maxLen at hcap
  have hs0 := siteNew w s 28
  have hb0 := bel1 w (.cells #[.int .i64 s.cls, .string s.name, .int .i64 s.at'] 28)
  have hB0 : (w.alloc (.cells #[.int .i64 s.cls, .string s.name, .int .i64 s.at'] 28)).heap.size = w.heap.size + 1 := by simp
  replace ho := ho.later goodT hb0
  clear hh
  go_enter Try.func24, Try.ntmps24
  go_wp2
  generalize (w.alloc (.cells #[.int .i64 s.cls, .string s.name, .int .i64 s.at'] 28)) = W0 at *
  go_loopg [7, 8, 17] xs.length (fun g o d i wr => ∃ j : Nat, j + g = xs.length ∧ i = .int .i64 j ∧ d = .bool (crun s c (xs.take j)).2 ∧ Below W0.heap.size W0 wr ∧ Out TallyC 4 53 W0.heap.size wr o (crun s c (xs.take j)).1)
  case atStart => exact ⟨0, by omega, rfl, rfl, Below.refl _ _, Out.nil⟩
  case round =>
    obtain ⟨j, hj, rfl, rfl, hbel, hout⟩ := hrel
    obtain ⟨s0, s1, s2⟩ := hs0.later hbel
    have hlen : (crun s c (xs.take j)).1.length = j := by rw [crun_len, List.length_take]; omega
    have hzr := hbel.size
    by_cases hlt : j < xs.length
    · obtain ⟨ad', cap', e', -, -, -, hrow⟩ := ho.later goodT hbel
      simp only [Value.slice.injEq] at e'
      obtain ⟨rfl, -, -⟩ := e'
      obtain ⟨b, o, rfl, -, q0, q1, q2, lv, q3, ql⟩ := hrow j xs[j] (by simp [hlt])
      have hxj : Hid (xs[j]? = some xs[j]) := by show _ = _; simp [hlt]
      have hlx := hls xs[j] (by simp)
      generalize xs[j] = x at *
      have HC : Hid (crun s c (xs.take (j + 1)) = cstep s c (crun s c (xs.take j)) x) := by show _ = _; rw [take_snoc hxj.out, crun_snoc]
      simp only [Nat.add_zero] at q0
      obtain ⟨ad2, cap2, rfl, hl2, hcap2, -, -⟩ := id ql
      unfold maxLen at hcap2
      generalize hcr : crun s c (xs.take j) = pd at *
      obtain ⟨pre, dn⟩ := pd
      simp only at hout hlen ⊢
      clear hcr hrow
      have s0' := fun y => cell_later (bel1 wr y) s0
      have s1' := fun y => cell_later (bel1 wr y) s1
      have s2' := fun y => cell_later (bel1 wr y) s2
      have he := fun w => eqlS x.site s w
      have hj1 : (j : Int) < (xs.length : Int) := by omega
      have hj0 : (0 : Int) ≤ (j : Int) := by omega
      have hbx := bel1 wr (Obj.cells #[Value.int IntKind.i64 x.site.cls, Value.string x.site.name, Value.int IntKind.i64 x.site.at', Value.slice ad2 x.lines.length cap2] 53)
      have hob := hout.block
      by_cases hcase : eqS x.site s = true ∧ dn = false
      · obtain ⟨h1, rfl⟩ := hcase
        have HP : Hid (cstep s c (pre, false) x = (pre ++ [⟨x.site, oneMore x.lines c⟩], true)) := by show _ = _; unfold cstep; rw [if_pos ⟨h1, rfl⟩]
        rw [h1] at he
        clear h1
        have hbox := boxT_new wr x (Value.slice ad2 x.lines.length cap2) 53
        have hqx := ql.later goodL hbx
        have hz1 : (wr.alloc (Obj.cells #[Value.int IntKind.i64 x.site.cls, Value.string x.site.name, Value.int IntKind.i64 x.site.at', Value.slice ad2 x.lines.length cap2] 53)).heap.size = wr.heap.size + 1 := by simp
        have hfz1 := fun o => frozen_new wr #[Value.int IntKind.i64 x.site.cls, Value.string x.site.name, Value.int IntKind.i64 x.site.at', Value.slice ad2 x.lines.length cap2] 53 wr.heap.size o rfl
        go_wp2
        generalize (wr.alloc (Obj.cells #[Value.int IntKind.i64 x.site.cls, Value.string x.site.name, Value.int IntKind.i64 x.site.at', Value.slice ad2 x.lines.length cap2] 53)) = W1 at *
        have HQ : Hid (∀ w', Below W1.heap.size W1 w' → Below wr.heap.size wr w') := fun w' h => hbx.trans (h.mono (by omega))
        have HOUT : Hid (∀ w', Below wr.heap.size wr w' → Out TallyC 4 53 W0.heap.size w' u7 pre) := fun w' h => hout.later goodT h
        have HBW : Hid (∀ w', Below wr.heap.size wr w' → Below W0.heap.size W0 w') := fun w' h => hbel.trans (h.mono hzr)
        clear s0 s1 s2 s0' s1' s2' he q0 q1 q2 q3 ql hbx hout hbel
        generalize wr.heap.size = TB at *
        go_loopg [11, 12, 32] x.lines.length (fun g l d i wr => ∃ q : Nat, q + g = x.lines.length ∧ i = .int .i64 q ∧ d = .bool (lrun c (x.lines.take q)).2 ∧ Below W1.heap.size W1 wr ∧ Out LineC 2 55 W1.heap.size wr l (lrun c (x.lines.take q)).1)
        case atStart => exact ⟨0, by omega, rfl, rfl, Below.refl _ _, Out.nil⟩
        case round =>
          obtain ⟨q, hq, rfl, rfl, hbq, houtq⟩ := hrel
          have hlenq : (lrun c (x.lines.take q)).1.length = q := by rw [lrun_len, List.length_take]; omega
          by_cases hltq : q < x.lines.length
          · obtain ⟨ad3, cap3, e3, -, -, -, hrow3⟩ := hqx.later goodL hbq
            simp only [Value.slice.injEq] at e3
            obtain ⟨rfl, -, -⟩ := e3
            obtain ⟨b3, o3, rfl, -, y0, y1⟩ := hrow3 q x.lines[q] (by simp [hltq])
            have hyq : Hid (x.lines[q]? = some x.lines[q]) := by show _ = _; simp [hltq]
            generalize x.lines[q] = y at *
            simp only [Nat.add_zero] at y0
            have HL : Hid (lrun c (x.lines.take (q + 1)) = lstep c (lrun c (x.lines.take q)) y) := by show _ = _; rw [take_snoc hyq.out, lrun_snoc]
            generalize hlr : lrun c (x.lines.take q) = lp at *
            obtain ⟨lpre, was⟩ := lp
            simp only at houtq hlenq ⊢
            clear hlr hrow3
            have hq1 : (q : Int) < (x.lines.length : Int) := by omega
            have hq0 : (0 : Int) ≤ (q : Int) := by omega
            have hzq := hbq.size
            by_cases hcy : (y.cls == c) = true ∧ was = false
            · obtain ⟨hc1, rfl⟩ := hcy
              have HLP : Hid (lstep c (lpre, false) y = (lpre ++ [⟨y.cls, wrap64 (y.found + 1)⟩], true)) := by show _ = _; unfold lstep; rw [if_pos ⟨hc1, rfl⟩]
              go_wp2_with (at_builtin; refine wpList_append_out goodL rfl (.tmp 48) (.tmp 50) 47 rfl 55 _ 16 Try.underlying47 info55 rfl W1.heap.size _ lpre rfl ((houtq.later goodL (bel1 _ _)).later goodL (bel1 _ _)) _ 55 [.int .i64 y.cls, .int .i64 (wrap64 (y.found + 1))] rfl (blkN _ _ _ (by simp)) rfl ⟨y.cls, wrap64 (y.found + 1)⟩ (R' := fun b => False) ⟨rfl, rfl⟩ (fun b hb => hb.elim) (by simp; omega) (by unfold maxLen; omega) (by rw [hlenq]; omega) ?_; intro g3 cap3 w3 hout3 hbel3 hkeep3)
              go_roundg (x.lines.length - (q + 1))
              case measure => omega
              case rel => exact ⟨q + 1, by omega, by go_num, by rw [HL.out, HLP.out], hbq.trans (((bel1 _ _).mono hzq).trans (((bel1 _ _).mono (by simp; omega)).trans hbel3)), by rw [HL.out, HLP.out]; simpa [hlenq] using hout3⟩
            · have HLP : Hid (lstep c (lpre, was) y = (lpre ++ [y], was)) := by show _ = _; unfold lstep; rw [if_neg hcy]
              cases hc1 : (y.cls == c) with
              | false =>
                go_wp2_with (at_builtin; refine wpList_append_out goodL rfl (.tmp 48) (.tmp 50) 47 rfl 55 _ 16 Try.underlying47 info55 rfl W1.heap.size _ lpre rfl ((houtq.later goodL (bel1 _ _)).later goodL (bel1 _ _)) _ 55 [.int .i64 y.cls, .int .i64 y.found] rfl (blkN _ _ _ (by simp)) rfl y (R' := fun b => False) ⟨rfl, rfl⟩ (fun b hb => hb.elim) (by simp; omega) (by unfold maxLen; omega) (by rw [hlenq]; omega) ?_; intro g3 cap3 w3 hout3 hbel3 hkeep3)
                go_roundg (x.lines.length - (q + 1))
                case measure => omega
                case rel => exact ⟨q + 1, by omega, by go_num, by rw [HL.out, HLP.out], hbq.trans (((bel1 _ _).mono hzq).trans (((bel1 _ _).mono (by simp; omega)).trans hbel3)), by rw [HL.out, HLP.out]; simpa [hlenq] using hout3⟩
              | true =>
                obtain rfl : was = true := by
                  cases was with
                  | true => rfl
                  | false => exact absurd ⟨hc1, rfl⟩ hcy
                clear hcy
                go_wp2_with (at_builtin; refine wpList_append_out goodL rfl (.tmp 48) (.tmp 50) 47 rfl 55 _ 16 Try.underlying47 info55 rfl W1.heap.size _ lpre rfl ((houtq.later goodL (bel1 _ _)).later goodL (bel1 _ _)) _ 55 [.int .i64 y.cls, .int .i64 y.found] rfl (blkN _ _ _ (by simp)) rfl y (R' := fun b => False) ⟨rfl, rfl⟩ (fun b hb => hb.elim) (by simp; omega) (by unfold maxLen; omega) (by rw [hlenq]; omega) ?_; intro g3 cap3 w3 hout3 hbel3 hkeep3)
                go_roundg (x.lines.length - (q + 1))
                case measure => omega
                case rel => exact ⟨q + 1, by omega, by go_num, by rw [HL.out, HLP.out], hbq.trans (((bel1 _ _).mono hzq).trans (((bel1 _ _).mono (by simp; omega)).trans hbel3)), by rw [HL.out, HLP.out]; simpa [hlenq] using hout3⟩
          · obtain rfl : q = x.lines.length := by omega
            have HTq : Hid (x.lines.take x.lines.length = x.lines) := List.take_of_length_le (Nat.le_refl _)
            rw [HTq.out] at houtq hlenq ⊢
            have HFq : Hid (oneMore x.lines c = lfin c (lrun c x.lines)) := (lfin_run c x.lines).symm
            generalize hlr : lrun c x.lines = lp at *
            obtain ⟨lpre, was⟩ := lp
            simp only at houtq hlenq ⊢
            clear hlr
            have hzq := hbq.size
            have HLQ : Hid (lpre.length = x.lines.length) := hlenq
            clear hlenq
            cases was with
            | true =>
              have HE : Hid (oneMore x.lines c = lpre) := by show _ = _; rw [HFq.out]; rfl
              obtain ⟨a8, k8, rfl, -⟩ := houtq.form
              have hbx9 := hbox.later hbq
              have f9 := fun o => (hbq.frozen (p := ⟨TB, o, none⟩) (by simp; omega)).trans (hfz1 o)
              obtain ⟨c90, c91, c92, c93⟩ := hbx9
              have hset9 := (HQ.out _ hbq).setCell (p := ⟨TB, 3, none⟩) (Nat.le_refl _) (.slice a8 lpre.length k8)
              have hl9 := houtq.lines.keep goodL (Keeps.of_setCell (a := ⟨TB, 3, none⟩) (by intro h; have := h.1; simp at this; omega) (.slice a8 lpre.length k8)) (fun _ h => h)
              have hz9 := hset9.size
              go_wp2_with (at_builtin; refine wpList_append_out goodT rfl (.tmp 62) (.tmp 64) 51 rfl 53 _ 56 Try.underlying51 info53 rfl W0.heap.size _ pre rfl ((HOUT.out _ hset9).later goodT (bel1 _ _)) _ 53 [.int .i64 x.site.cls, .string x.site.name, .int .i64 x.site.at', .slice a8 lpre.length k8] rfl (blkN _ _ _ (by simp)) rfl ⟨x.site, lpre⟩ (R' := fun b => W1.heap.size ≤ b ∧ b < wr.heap.size) ⟨rfl, rfl, rfl, _, rfl, hl9.later goodL (bel1 _ _)⟩ (fun b hb => ⟨by simp; omega, fun e => by have := (hob b e.symm).2; omega⟩) (by simp; omega) (by unfold maxLen; omega) (by rw [hlen]; omega) ?_; intro g3 cap3 w3 hout3 hbel3 hkeep3)
              go_roundg (xs.length - (j + 1))
              case measure => omega
              case rel => exact ⟨j + 1, by omega, by go_num, by rw [HC.out, HP.out], (HBW.out _ hset9).trans (((bel1 _ _).mono (HBW.out _ hset9).size).trans hbel3), by rw [HC.out, HP.out, HE.out]; simpa [hlen] using hout3⟩
            | false =>
              have HE : Hid (oneMore x.lines c = lpre ++ [⟨c, 1⟩]) := by show _ = _; rw [HFq.out]; rfl
              have hbx9 := hbox.later hbq
              have f9 := fun o => (hbq.frozen (p := ⟨TB, o, none⟩) (by simp; omega)).trans (hfz1 o)
              obtain ⟨c90, c91, c92, c93⟩ := hbx9
              have hw9 := HQ.out _ hbq
              go_wp2_with (first
                | (at_builtin; refine wpList_append_out goodL rfl (.tmp 55) (.tmp 58) 47 rfl 55 _ 16 Try.underlying47 info55 rfl W1.heap.size _ lpre rfl (houtq.later goodL (bel1 _ _)) _ 55 [.int .i64 c, .int .i64 1] rfl (blkN _ _ _ (by simp)) rfl ⟨c, 1⟩ (R' := fun b => False) ⟨rfl, rfl⟩ (fun b hb => hb.elim) (by simp; omega) (by rw [HLQ.out]; unfold maxLen; omega) (by rw [HLQ.out]; omega) ?_; intro g8 cap8 w8 hout8 hbel8 hkeep8; have hb8 := ((bel1 _ _).mono hzq).trans hbel8; have hbq8 := hbq.trans hb8; have hz8 := hbq8.size; have hbx8 := hbox.later hbq8; have f8 := fun o => (hbq8.frozen (p := ⟨TB, o, none⟩) (by simp; omega)).trans (hfz1 o); obtain ⟨c80, c81, c82, c83⟩ := hbx8; have hset9 := (HQ.out _ hbq8).setCell (p := ⟨TB, 3, none⟩) (Nat.le_refl _) (.slice (some ⟨g8, 0, none⟩) (lpre.length + 1) cap8); have hl9 := hout8.lines.keep goodL (Keeps.of_setCell (a := ⟨TB, 3, none⟩) (by intro h; have := h.1; simp at this; omega) (.slice (some ⟨g8, 0, none⟩) (lpre.length + 1) cap8)) (fun _ h => h); have hz9 := hset9.size; clear c90 c91 c92 c93 f9)
                | (at_builtin; refine wpList_append_out goodT rfl (.tmp 62) (.tmp 64) 51 rfl 53 _ 56 Try.underlying51 info53 rfl W0.heap.size _ pre rfl ((HOUT.out _ hset9).later goodT (bel1 _ _)) _ 53 [.int .i64 x.site.cls, .string x.site.name, .int .i64 x.site.at', .slice (some ⟨g8, 0, none⟩) (lpre.length + 1) cap8] rfl (blkN _ _ _ (by simp)) rfl ⟨x.site, lpre ++ [⟨c, 1⟩]⟩ (R' := fun b => W1.heap.size ≤ b ∧ b < w8.heap.size) ⟨rfl, rfl, rfl, _, rfl, hl9.later goodL (bel1 _ _)⟩ (fun b hb => ⟨by simp; omega, fun e => by have := (hob b e.symm).2; omega⟩) (by simp; omega) (by unfold maxLen; omega) (by rw [hlen]; omega) ?_; intro g3 cap3 w3 hout3 hbel3 hkeep3))
              go_roundg (xs.length - (j + 1))
              case measure => omega
              case rel => exact ⟨j + 1, by omega, by go_num, by rw [HC.out, HP.out], (HBW.out _ hset9).trans (((bel1 _ _).mono (HBW.out _ hset9).size).trans hbel3), by rw [HC.out, HP.out, HE.out]; simpa [hlen] using hout3⟩
      · have HP : Hid (cstep s c (pre, dn) x = (pre ++ [x], dn)) := by show _ = _; unfold cstep; rw [if_neg hcase]
        have hlR : IsLines (fun b => b < w.heap.size) (wr.alloc (Obj.cells #[Value.int IntKind.i64 x.site.cls, Value.string x.site.name, Value.int IntKind.i64 x.site.at', Value.slice ad2 x.lines.length cap2] 53)) (.slice ad2 x.lines.length cap2) x.lines := ql.later goodL hbx
        cases h1 : eqS x.site s with
        | false =>
          rw [h1] at he
          go_wp2_with (at_builtin; refine wpList_append_out goodT rfl (.tmp 62) (.tmp 64) 51 rfl 53 _ 56 Try.underlying51 info53 rfl W0.heap.size _ pre rfl ((hout.later goodT hbx).later goodT (bel1 _ _)) _ 53 [.int .i64 x.site.cls, .string x.site.name, .int .i64 x.site.at', .slice ad2 x.lines.length cap2] rfl (blkN _ _ _ (by simp)) rfl x (R' := fun b => b < w.heap.size) ⟨rfl, rfl, rfl, _, rfl, hlR.later goodL (bel1 _ _)⟩ (fun b hb => ⟨by simp; omega, fun e => by have := (hob b e.symm).1; omega⟩) (by simp; omega) (by unfold maxLen; omega) (by rw [hlen]; omega) ?_; intro g3 cap3 w3 hout3 hbel3 hkeep3)
          go_roundg (gk - 1)
          case measure => omega
          case rel => exact ⟨j + 1, by omega, by go_num, by rw [HC.out, HP.out], hbel.trans ((hbx.mono hzr).trans (((bel1 _ _).mono (by simp; omega)).trans hbel3)), by rw [HC.out, HP.out]; simpa [hlen] using hout3⟩
        | true =>
          obtain rfl : dn = true := by
            cases dn with
            | true => rfl
            | false => exact absurd ⟨h1, rfl⟩ hcase
          rw [h1] at he
          clear hcase
          go_wp2_with (at_builtin; refine wpList_append_out goodT rfl (.tmp 62) (.tmp 64) 51 rfl 53 _ 56 Try.underlying51 info53 rfl W0.heap.size _ pre rfl ((hout.later goodT hbx).later goodT (bel1 _ _)) _ 53 [.int .i64 x.site.cls, .string x.site.name, .int .i64 x.site.at', .slice ad2 x.lines.length cap2] rfl (blkN _ _ _ (by simp)) rfl x (R' := fun b => b < w.heap.size) ⟨rfl, rfl, rfl, _, rfl, hlR.later goodL (bel1 _ _)⟩ (fun b hb => ⟨by simp; omega, fun e => by have := (hob b e.symm).1; omega⟩) (by simp; omega) (by unfold maxLen; omega) (by rw [hlen]; omega) ?_; intro g3 cap3 w3 hout3 hbel3 hkeep3)
          go_roundg (gk - 1)
          case measure => omega
          case rel => exact ⟨j + 1, by omega, by go_num, by rw [HC.out, HP.out], hbel.trans ((hbx.mono hzr).trans (((bel1 _ _).mono (by simp; omega)).trans hbel3)), by rw [HC.out, HP.out]; simpa [hlen] using hout3⟩
    · obtain rfl : j = xs.length := by omega
      have HT : Hid (xs.take xs.length = xs) := List.take_of_length_le (Nat.le_refl _)
      rw [HT.out] at hout hlen ⊢
      have HF : Hid (addE xs s c = cfin s c (crun s c xs)) := (cfin_run s c xs).symm
      generalize hcr : crun s c xs = pd at *
      obtain ⟨pre, dn⟩ := pd
      simp only at hout hlen ⊢
      clear hcr
      have hob := hout.block
      have hbw : Below w.heap.size w wr := nstep hb0 hbel
      cases dn with
      | true =>
        have HE : Hid (addE xs s c = pre) := by show _ = _; rw [HF.out]; rfl
        obtain ⟨a9, c9, rfl, -⟩ := hout.form
        go_wp2
        go_ret
        rw [HE.out]
        exact ⟨a9, c9, rfl, hout.row goodT (fun _ _ => trivial), hbw⟩
      | false =>
        have HE : Hid (addE xs s c = pre ++ [⟨s, [⟨c, 1⟩]⟩]) := by show _ = _; rw [HF.out]; rfl
        go_wp2_with (at_builtin; refine wpList_append_out goodT rfl (.tmp 69) (.tmp 75) 51 rfl 53 _ 56 Try.underlying51 info53 rfl W0.heap.size _ pre rfl ((hout.later goodT (bel1 _ _)).later goodT (bel1 _ _)) _ 53 [.int .i64 s.cls, .string s.name, .int .i64 s.at', .slice (some ⟨wr.heap.size, 0, none⟩) 1 1] rfl (blkN _ _ _ (by simp)) rfl ⟨s, [⟨c, 1⟩]⟩ (R' := fun b => b = wr.heap.size) ⟨rfl, rfl, rfl, _, rfl, oneLine wr c _⟩ (fun b hb => ⟨by simp; omega, fun e => by have := (hob b e.symm).2; omega⟩) (by simp; omega) (by unfold maxLen; omega) (by rw [hlen]; omega) ?_; intro g3 cap3 w3 hout3 hbel3 hkeep3)
        go_ret
        rw [HE.out]
        refine ⟨some ⟨g3, 0, none⟩, cap3, by simp [hlen], ?_, ?_⟩
        · have := hout3.row goodT (P := fun _ => True) (fun _ _ => trivial)
          simpa [hlen] using this
        · exact (hbw.trans ((bel1 _ _).mono hbw.size)).trans (((bel1 _ _).mono (by have := hbw.size; simp; omega)).trans (hbel3.mono (by omega)))
end Go.Proofs.Ytidjpdpbjgnfkaa
