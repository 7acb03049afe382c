/- ChooseMost's walk. -/
import Derived.Test.YtigflmehiadenaaSg
import Derived.Test.YtigflmehiadenaaSh
namespace Go.Proofs.Ytigflmehiadenaa
open Go.ChangeShapes Go.WideShapes Go.ChangeAt Go.RowKit
set_option linter.unusedSimpArgs false
set_option linter.unusedVariables false
set_option maxRecDepth 8000

theorem mostL_mem (ls : List QL) : mostL ls = ⟨-1, 0⟩ ∨ mostL ls ∈ ls := by
  have : ∀ (l : List QL) (p : QL), l.foldl mostStep p = p ∨ l.foldl mostStep p ∈ l := by
    intro l
    induction l with
    | nil => exact fun p => Or.inl rfl
    | cons x r ih =>
      intro p
      simp only [List.foldl_cons]
      rcases ih (mostStep p x) with h | h
      · rw [h]
        unfold mostStep
        split
        · right; simp
        · left; rfl
      · right; simp [h]
  exact this ls _
/-- How many of class c there were, as the machine counts. -/
def mineStep (c : Int) (n : Int) (y : QL) : Int := if y.cls = c then wrap64 (n + y.found) else n
def mineL (c : Int) (ls : List QL) : Int := ls.foldl (mineStep c) 0
theorem mineL_snoc (c : Int) (l : List QL) (x : QL) : mineL c (l ++ [x]) = mineStep c (mineL c l) x := by simp [mineL]
theorem mine_from (c : Int) : ∀ (l : List QL) (a : Int), 0 ≤ a → a + 1000000 * l.length < 4611686018427387904 → (∀ y ∈ l, 0 ≤ y.found ∧ y.found ≤ 1000000) →
    a ≤ l.foldl (mineStep c) a ∧ l.foldl (mineStep c) a ≤ a + 1000000 * l.length ∧ ∀ y ∈ l, y.cls = c → a + y.found ≤ l.foldl (mineStep c) a
  | [], a, h0, h1, h2 => by simp
  | x :: r, a, h0, h1, h2 => by
    have hx := h2 x (by simp)
    simp only [List.foldl_cons, List.length_cons] at *
    have hs : a ≤ mineStep c a x ∧ mineStep c a x ≤ a + 1000000 ∧ (x.cls = c → mineStep c a x = a + x.found) := by
      unfold mineStep
      split
      · have : wrap64 (a + x.found) = a + x.found := by unfold wrap64; omega
        rw [this]
        exact ⟨by omega, by omega, fun _ => rfl⟩
      · rename_i h
        exact ⟨by omega, by omega, fun h' => absurd h' h⟩
    obtain ⟨i1, i2, i3⟩ := mine_from c r (mineStep c a x) (by omega) (by omega) (fun y hy => h2 y (by simp [hy]))
    refine ⟨by omega, by omega, fun y hy hc => ?_⟩
    rcases List.mem_cons.1 hy with rfl | hy
    · have := hs.2.2 hc; omega
    · have := i3 y hy hc; omega
theorem linesAt_len (t : List QT) (s : QS) (M : Nat) (h : ∀ x ∈ t, x.lines.length ≤ M) : (linesAt t s).length ≤ t.length * M := by
  induction t with
  | nil => simp [linesAt]
  | cons x r ih =>
    have h1 := ih (fun y hy => h y (by simp [hy]))
    have h2 := h x (by simp)
    unfold linesAt at h1 ⊢
    rw [List.filter_cons]
    split
    · simp only [List.flatMap_cons, List.length_append, List.length_cons]
      rw [Nat.add_mul]; omega
    · simp only [List.length_cons]
      rw [Nat.add_mul]; omega
theorem site_told {X : QW} {t : List QT} {s : QS} {name : ByteArray} {args : Int} (h : siteE X t s name args ≠ -1) (hs : smallB t = true) (ht : t.length ≤ 1048576) (hl : ∀ x ∈ t, x.lines.length ≤ 1048576) :
    0 ≤ mineL (siteE X t s name args) (linesAt t s) ∧ mineL (siteE X t s name args) (linesAt t s) < 4611686018427387904 ∧ sumL (linesAt t s) < mineL (siteE X t s name args) (linesAt t s) + mineL (siteE X t s name args) (linesAt t s) ∧ leafAt X.classes (siteE X t s name args) name args = true := by
  have hn : ¬ (sumL (linesAt t s) < 2 ∨ (mostL (linesAt t s)).found + (mostL (linesAt t s)).found ≤ sumL (linesAt t s) ∨ leafAt X.classes (mostL (linesAt t s)).cls name args = false) := fun h' => h (by unfold siteE; rw [if_pos h'])
  have he : siteE X t s name args = (mostL (linesAt t s)).cls := by unfold siteE; rw [if_neg hn]
  rw [he]
  have h1 : ¬ sumL (linesAt t s) < 2 := fun h => hn (Or.inl h)
  have h2 : ¬ (mostL (linesAt t s)).found + (mostL (linesAt t s)).found ≤ sumL (linesAt t s) := fun h => hn (Or.inr (Or.inl h))
  have h3 : leafAt X.classes (mostL (linesAt t s)).cls name args = true := by
    cases hh : leafAt X.classes (mostL (linesAt t s)).cls name args
    · exact absurd (Or.inr (Or.inr hh)) hn
    · rfl
  have hlen := linesAt_len t s 1048576 hl
  have hm : t.length * 1048576 ≤ 1048576 * 1048576 := Nat.mul_le_mul_right _ ht
  obtain ⟨i1, i2, i3⟩ := mine_from (mostL (linesAt t s)).cls (linesAt t s) 0 (by omega) (by omega) (fun y hy => by
    obtain ⟨x, hx, hy⟩ := linesAt_mem hy
    exact smallB_is hs x hx y hy)
  have hmem : mostL (linesAt t s) ∈ linesAt t s := by
    rcases mostL_mem (linesAt t s) with hm | hm
    · rw [hm] at h2; simp at h2; omega
    · exact hm
  have := i3 _ hmem rfl
  refine ⟨i1, ?_, ?_, h3⟩
  · show (linesAt t s).foldl (mineStep _) 0 < _
    omega
  · show _ < (linesAt t s).foldl (mineStep _) 0 + (linesAt t s).foldl (mineStep _) 0
    omega
theorem leafAt_told {xs : List QC} {c : Int} {name : ByteArray} {args : Int} (h : leafAt xs c name args = true) : ∃ (q t : Nat) (x : QC) (m : QM), findE xs c name = ((q : Int), (t : Int)) ∧ xs[q]? = some x ∧ x.methods[t]? = some m ∧ m.args = args ∧ m.prim = 0 ∧ ∀ i ∈ m.code, sendsB i = false := by
  rcases find_cases xs c name with ⟨-, h2⟩ | ⟨q, x, t, m, he, hx, hm⟩
  · rw [leafAt_no args h2] at h; cases h
  · rw [leafAt_yes args he hx hm] at h
    simp [leafE] at h
    exact ⟨q, t, x, m, he, hx, hm, h.1, h.2.1, h.2.2⟩
set_option maxHeartbeats 4000000 in
theorem chooseMost_walk {P P2 : Nat → Prop} (X : QW) (t : List QT) (s : QS) (name : ByteArray) (args : Int) (cv hv tv : Value) (w : World) (hC : IsClasses P w cv X.classes) (hH : IsHeap P w hv X.heap) (hT : IsTallies P2 w tv t) (htl : t.length ≤ 1048576) (hll : ∀ x ∈ t, x.lines.length ≤ 1048576) :
    Calls Try.prog 4 #[WV cv hv X.epoch, tv, SV s, .string name, .int .i64 args] w fun e w' => e = .returned (.bool true) ∧ Below w.heap.size w w' := by
  obtain ⟨ad, cap, rfl, hl, hcap, -, -⟩ := id hC
  obtain ⟨ah, ch, rfl, -⟩ := id hH
  obtain ⟨at', ct, rfl, htc, hct, -, -⟩ := id hT
  have hB := ctB_new w _ _ _ X t s hC hH hT
  have HLL : Hid (∀ x ∈ t, x.lines.length ≤ 1048576) := hll
  unfold maxLen at hcap hct
  clear hll
  go_enter Try.func4, Try.ntmps4
  go_upto_region 1 with (fail)
  generalize (w.alloc (.cells #[.slice ad X.classes.length cap, .slice ah X.heap.length ch, .int .i64 X.epoch] 25)).alloc (.cells #[.int .i64 s.cls, .string s.name, .int .i64 s.at'] 28) = W0 at *
  clear hC hH hT
  go_wp2_with fail
  refine (alive9 _).mono ?_
  rintro e w1 ⟨rfl, hb1⟩
  replace hB := hB.later hb1
  clear hb1
  obtain ⟨k0, k1, k2, -, -⟩ := id hB
  go_wp2_with fail
  refine (rright_any X _ _ _ hB.r.C hB.r.H).mono ?_
  rintro e w1 ⟨rfl, hb1⟩
  replace hB := hB.later hb1
  clear hb1 k0 k1 k2
  by_cases hr : rightE X = 0
  · rw [hr]
    clear hr
    go_wp2_with fail
    refine (small_any t _ _ hB.r.T).mono ?_
    rintro e w2 ⟨rfl, hb2⟩
    replace hB := hB.later hb2
    clear hb2
    cases hsm : smallB t
    · go_wp2
      go_ret
      exact ⟨rfl, hB.r.bel⟩
    · have HT : Hid (siteE X t s name args ≠ -1 → 0 ≤ mineL (siteE X t s name args) (linesAt t s) ∧ mineL (siteE X t s name args) (linesAt t s) < 4611686018427387904 ∧ sumL (linesAt t s) < mineL (siteE X t s name args) (linesAt t s) + mineL (siteE X t s name args) (linesAt t s) ∧ leafAt X.classes (siteE X t s name args) name args = true) := fun h => site_told h hsm htl HLL.out
      clear hsm htl HLL
      obtain ⟨k0, k1, k2, ⟨s0, s1, s2⟩, -⟩ := id hB
      go_wp2_with fail
      clear k0 k1 k2 s0 s1 s2
      refine (site_any X t s name args _ _ _ _ hB.r.C hB.r.H hB.r.T).mono ?_
      rintro e w3 ⟨rfl, hb3⟩
      replace hB := hB.later hb3
      clear hb3
      generalize siteE X t s name args = c at *
      by_cases hc : c = -1
      · subst hc
        go_wp2
        go_ret
        exact ⟨rfl, hB.r.bel⟩
      · have hd : (c == -1) = false := by simpa using hc
        replace HT := HT.out hc
        obtain ⟨hm0, hm1, hm2, hlf⟩ := HT
        clear hc
        go_wp2
        have HM : Hid (0 ≤ mineL c (linesAt t s) ∧ mineL c (linesAt t s) < 4611686018427387904 ∧ sumL (linesAt t s) < mineL c (linesAt t s) + mineL c (linesAt t s)) := ⟨hm0, hm1, hm2⟩
        have HF : Hid (leafAt X.classes c name args = true) := hlf
        clear hm0 hm1 hm2 hlf
        go_loopg [12, 13, 43] t.length (fun g n a i wr => ∃ j : Nat, j + g = t.length ∧ i = .int .i64 j ∧ n = .int .i64 (mineL c (linesAt (t.take j) s)) ∧ a = .int .i64 (sumL (linesAt (t.take j) s)) ∧ CtB w P P2 (.slice ad X.classes.length cap) (.slice ah X.heap.length ch) (.slice at' t.length ct) X t s wr)
        case atStart => exact ⟨0, by omega, rfl, rfl, rfl, hB⟩
        case round =>
          clear hB
          obtain ⟨j, hj, rfl, rfl, rfl, hB⟩ := hrel
          by_cases hlt : j < t.length
          · obtain ⟨ad', cap', e', -, -, -, hrow⟩ := id hB.r.T
            simp only [Value.slice.injEq] at e'
            obtain ⟨rfl, -, -⟩ := e'
            obtain ⟨b, o, rfl, -, q0, q1, q2, lv, q3, ql⟩ := hrow j t[j] (by simp [hlt])
            have hxj : Hid (t[j]? = some t[j]) := by show _ = _; simp [hlt]
            generalize t[j] = x at *
            have HT : Hid (linesAt (t.take (j + 1)) s = linesAt (t.take j) s ++ if eqS x.site s then x.lines else []) := linesAt_take hxj.out s
            simp only [Nat.add_zero] at q0
            obtain ⟨ad2, cap2, rfl, hl2, hcap2, -, -⟩ := id ql
            unfold maxLen at hcap2
            have hj1 : (j : Int) < (t.length : Int) := by omega
            have hj0 : (0 : Int) ≤ (j : Int) := by omega
            have hbx := bel1 wr (Obj.cells #[Value.int IntKind.i64 x.site.cls, Value.string x.site.name, Value.int IntKind.i64 x.site.at', Value.slice ad2 x.lines.length cap2] 46)
            have n0 : (wr.alloc (Obj.cells #[Value.int IntKind.i64 x.site.cls, Value.string x.site.name, Value.int IntKind.i64 x.site.at', Value.slice ad2 x.lines.length cap2] 46)).cell? ⟨wr.heap.size, 0, none⟩ = some (.int .i64 x.site.cls) := by rw [cell_new _ _ _ _ rfl]; rfl
            have n1 : (wr.alloc (Obj.cells #[Value.int IntKind.i64 x.site.cls, Value.string x.site.name, Value.int IntKind.i64 x.site.at', Value.slice ad2 x.lines.length cap2] 46)).cell? ⟨wr.heap.size, 1, none⟩ = some (.string x.site.name) := by rw [cell_new _ _ _ _ rfl]; rfl
            have n2 : (wr.alloc (Obj.cells #[Value.int IntKind.i64 x.site.cls, Value.string x.site.name, Value.int IntKind.i64 x.site.at', Value.slice ad2 x.lines.length cap2] 46)).cell? ⟨wr.heap.size, 2, none⟩ = some (.int .i64 x.site.at') := by rw [cell_new _ _ _ _ rfl]; rfl
            have n3 : (wr.alloc (Obj.cells #[Value.int IntKind.i64 x.site.cls, Value.string x.site.name, Value.int IntKind.i64 x.site.at', Value.slice ad2 x.lines.length cap2] 46)).cell? ⟨wr.heap.size, 3, none⟩ = some (.slice ad2 x.lines.length cap2) := by rw [cell_new _ _ _ _ rfl]; rfl
            go_upto_region 12 with (fail)
            replace hB := hB.later hbx
            replace ql := ql.later goodL hbx
            generalize (wr.alloc (Obj.cells #[Value.int IntKind.i64 x.site.cls, Value.string x.site.name, Value.int IntKind.i64 x.site.at', Value.slice ad2 x.lines.length cap2] 46)) = W1 at *
            generalize wr.heap.size = bt at *
            obtain ⟨s0, s1, s2⟩ := hB.s
            have he := fun w => neqS x.site s w
            clear hrow q0 q1 q2 q3 hbx
            by_cases hp : eqS x.site s = true
            · have HT' : Hid (linesAt (t.take (j + 1)) s = linesAt (t.take j) s ++ x.lines) := by show _ = _; rw [HT.out, if_pos hp]
              rw [hp] at he
              clear hp HT
              go_wp2
              obtain ⟨pre, hpre⟩ : ∃ pre, pre = linesAt (t.take j) s := ⟨_, rfl⟩
              rw [← hpre] at HT' ⊢
              clear he s0 s1 s2 n0 n1 n2 n3 hpre
              go_loopg [12, 13, 54] x.lines.length (fun g n a i ws => ∃ q : Nat, q + g = x.lines.length ∧ i = .int .i64 q ∧ n = .int .i64 (mineL c (pre ++ x.lines.take q)) ∧ a = .int .i64 (sumL (pre ++ x.lines.take q)) ∧ CtB w P P2 (.slice ad X.classes.length cap) (.slice ah X.heap.length ch) (.slice (some ⟨b, o, none⟩) t.length ct) X t s ws ∧ IsLines P2 ws (.slice ad2 x.lines.length cap2) x.lines)
              case atStart => exact ⟨0, by omega, rfl, by simp, by simp, hB, ql⟩
              case round =>
                clear hB ql
                obtain ⟨q, hq, rfl, rfl, rfl, hB, hlq⟩ := hrel
                by_cases hltq : q < x.lines.length
                · obtain ⟨ad3, cap3, e3, -, -, -, hrow3⟩ := id hlq
                  simp only [Value.slice.injEq] at e3
                  obtain ⟨rfl, -, -⟩ := e3
                  obtain ⟨b3, o3, rfl, -, y0, y1⟩ := hrow3 q x.lines[q] (by simp [hltq])
                  have hyq : Hid (x.lines[q]? = some x.lines[q]) := by show _ = _; simp [hltq]
                  generalize x.lines[q] = y at *
                  simp only [Nat.add_zero] at y0
                  have hq1 : (q : Int) < (x.lines.length : Int) := by omega
                  have hq0 : (0 : Int) ≤ (q : Int) := by omega
                  have hby := bel1 wr (Obj.cells #[Value.int IntKind.i64 y.cls, Value.int IntKind.i64 y.found] 48)
                  have HS : Hid (pre ++ x.lines.take (q + 1) = (pre ++ x.lines.take q) ++ [y]) := by show _ = _; rw [take_snoc hyq.out, List.append_assoc]
                  have HMn : Hid (mineL c (pre ++ x.lines.take (q + 1)) = mineStep c (mineL c (pre ++ x.lines.take q)) y) := by show _ = _; rw [HS.out, mineL_snoc]
                  have HU : Hid (sumL (pre ++ x.lines.take (q + 1)) = wrap64 (sumL (pre ++ x.lines.take q) + y.found)) := by show _ = _; rw [HS.out, sumL_snoc]
                  clear hrow3 HS
                  generalize mineL c (pre ++ x.lines.take q) = mn at *
                  generalize sumL (pre ++ x.lines.take q) = sm at *
                  by_cases hyc : y.cls = c
                  · have hdc : (y.cls == c) = true := by simpa using hyc
                    have HV : Hid (mineStep c mn y = wrap64 (mn + y.found)) := by show _ = _; unfold mineStep; rw [if_pos hyc]
                    subst hyc
                    clear hdc
                    go_wp2
                    go_roundg (x.lines.length - (q + 1))
                    case measure => omega
                    case rel => exact ⟨q + 1, by omega, by go_num, by rw [HMn.out, HV.out], by rw [HU.out], hB.later hby, hlq.later goodL hby⟩
                  · have hdc : (y.cls == c) = false := by simpa using hyc
                    have HV : Hid (mineStep c mn y = mn) := by show _ = _; unfold mineStep; rw [if_neg hyc]
                    clear hyc
                    go_wp2
                    go_roundg (x.lines.length - (q + 1))
                    case measure => omega
                    case rel => exact ⟨q + 1, by omega, by go_num, by rw [HMn.out, HV.out], by rw [HU.out], hB.later hby, hlq.later goodL hby⟩
                · obtain rfl : q = x.lines.length := by omega
                  go_wp2
                  go_roundg (t.length - (j + 1))
                  case measure => omega
                  case rel =>
                    rw [List.take_of_length_le (Nat.le_refl _)]
                    exact ⟨j + 1, by omega, by go_num, by rw [HT'.out], by rw [HT'.out], hB⟩
            · have hp' : eqS x.site s = false := by simpa using hp
              have HT' : Hid (linesAt (t.take (j + 1)) s = linesAt (t.take j) s) := by show _ = _; rw [HT.out, if_neg hp]; simp
              rw [hp'] at he
              clear hp hp' HT
              go_wp2
              go_roundg (gk - 1)
              case measure => omega
              case rel => exact ⟨j + 1, by omega, by go_num, by rw [HT'.out], by rw [HT'.out], hB⟩
          · obtain rfl : j = t.length := by omega
            have HTt : Hid (t.take t.length = t) := List.take_of_length_le (Nat.le_refl _)
            rw [HTt.out]
            obtain ⟨q, t', x, m, hfe, hx, hm, hargs, hprim, hcode⟩ := leafAt_told HF.out
            have HCode : Hid (∀ i ∈ m.code, sendsB i = false) := hcode
            have hM := HM.out
            generalize mineL c (linesAt t s) = mn at *
            generalize sumL (linesAt t s) = sm at *
            have hd2 : decide (wrap64 (mn + mn) ≤ sm) = false := by
              have hw2 : wrap64 (mn + mn) = mn + mn := by unfold wrap64; omega
              rw [hw2]; simp; omega
            clear hcode HM hM HF
            obtain ⟨k0, k1, k2, -, -⟩ := id hB
            go_wp2_with fail
            clear k0 k1 k2
            refine (rfind_any X c name _ _ _ hB.r.C hB.r.H).mono ?_
            rintro e w4 ⟨rfl, hb4⟩
            rw [hfe]
            replace hB := hB.later hb4
            have k0 := hB.k0
            have hq := lt_of_get hx
            have ht := lt_of_get hm
            obtain ⟨ad', cap', e', -, -, -, hrow⟩ := id hB.r.C
            simp only [Value.slice.injEq] at e'
            obtain ⟨rfl, -, -⟩ := e'
            obtain ⟨b, o, rfl, -, -, -, -, -, mv, u3, hms⟩ := hrow q x hx
            obtain ⟨am, cm, rfl, hlm, hcm, -, hrm⟩ := hms
            obtain ⟨b2, o2, rfl, -, z0, z1, z2, z3, -, sv, z4, hco⟩ := hrm t' m hm
            obtain ⟨ac, cc, rfl, hlc, hcc, -, -⟩ := id hco
            simp only [Nat.add_zero] at z0
            unfold maxLen at hcm hcc
            have hq1 : (q : Int) < (X.classes.length : Int) := by omega
            have hq0 : (0 : Int) ≤ (q : Int) := by omega
            have ht1 : (t' : Int) < (x.methods.length : Int) := by omega
            have ht0 : (0 : Int) ≤ (t' : Int) := by omega
            have hqn : decide ((t' : Int) < 0) = false := by simp
            obtain ⟨mname, margs, mtemps, mprim, mcode⟩ := m
            simp only at *
            subst hargs hprim
            have hbx := bel1 w4 (Obj.cells #[.string mname, .int .i64 margs, .int .i64 mtemps, .int .i64 0, .slice ac mcode.length cc] 37)
            have n1 : (w4.alloc (Obj.cells #[.string mname, .int .i64 margs, .int .i64 mtemps, .int .i64 0, .slice ac mcode.length cc] 37)).cell? ⟨w4.heap.size, 1, none⟩ = some (.int .i64 margs) := by rw [cell_new _ _ _ _ rfl]; rfl
            have n3 : (w4.alloc (Obj.cells #[.string mname, .int .i64 margs, .int .i64 mtemps, .int .i64 0, .slice ac mcode.length cc] 37)).cell? ⟨w4.heap.size, 3, none⟩ = some (.int .i64 0) := by rw [cell_new _ _ _ _ rfl]; rfl
            have n4 : (w4.alloc (Obj.cells #[.string mname, .int .i64 margs, .int .i64 mtemps, .int .i64 0, .slice ac mcode.length cc] 37)).cell? ⟨w4.heap.size, 4, none⟩ = some (.slice ac mcode.length cc) := by rw [cell_new _ _ _ _ rfl]; rfl
            clear hrow hrm hx hm hfe hb4
            go_upto_region 25 with (fail)
            have hbel := nstep hB.r.bel hbx
            replace hco := hco.later goodI hbx
            generalize (w4.alloc (Obj.cells #[.string mname, .int .i64 margs, .int .i64 mtemps, .int .i64 0, .slice ac mcode.length cc] 37)) = W5 at *
            generalize w4.heap.size = bm at *
            clear k0 u3 z0 z1 z2 z3 z4 hB hbx
            go_wp2
            clear n4
            go_loopg [100] mcode.length (fun g i wr => ∃ j : Nat, j + g = mcode.length ∧ i = .int .i64 j ∧ Below w.heap.size w wr ∧ wr.cell? ⟨bm, 1, none⟩ = some (.int .i64 margs) ∧ wr.cell? ⟨bm, 3, none⟩ = some (.int .i64 0) ∧ IsCode P wr (.slice ac mcode.length cc) mcode)
            case atStart => exact ⟨0, by omega, rfl, hbel, n1, n3, hco⟩
            case round =>
              clear hbel n1 n3 hco
              obtain ⟨j, hj, rfl, hbel, n1, n3, hco⟩ := hrel
              by_cases hlt2 : j < mcode.length
              · obtain ⟨ac', cc', e', -, -, -, hrc⟩ := id hco
                simp only [Value.slice.injEq] at e'
                obtain ⟨rfl, -, -⟩ := e'
                obtain ⟨b4, o4, rfl, -, v0, v1, v2, v3, v4, -⟩ := hrc j mcode[j] (by simp [hlt2])
                have hs := HCode.out mcode[j] (List.getElem_mem hlt2)
                generalize mcode[j] = y at *
                simp only [Nat.add_zero] at v0
                have hd14 : (y.op == 14) = false := by simp [sendsB] at hs; simpa using hs.1
                have hd13 : (y.op == 13) = false := by simp [sendsB] at hs; simpa using hs.2
                have hj1 : (j : Int) < (mcode.length : Int) := by omega
                have hj0 : (0 : Int) ≤ (j : Int) := by omega
                have hby := bel1 wr (Obj.cells #[Value.int IntKind.i64 y.op, Value.int IntKind.i64 y.a, Value.int IntKind.i64 y.b, Value.int IntKind.i64 y.c, Value.string y.name] 52)
                clear hrc hs
                go_wp2
                go_roundg (mcode.length - (j + 1))
                case measure => omega
                case rel => exact ⟨j + 1, by omega, by go_num, nstep hbel hby, cell_later hby n1, cell_later hby n3, hco.later goodI hby⟩
              · go_wp2
                go_ret
                exact ⟨ret_b (by simp), hbel⟩
  · have hd : (rightE X == 0) = false := by simpa using hr
    go_wp2
    go_ret
    exact ⟨rfl, hB.r.bel⟩
end Go.Proofs.Ytigflmehiadenaa
