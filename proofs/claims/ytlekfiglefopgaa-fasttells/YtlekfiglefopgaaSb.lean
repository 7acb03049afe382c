/- What is worth it at a site. -/
import Derived.Test.YtlekfiglefopgaaSa
namespace Go.Proofs.Ytlekfiglefopgaa
open Go.ChangeShapes Go.WideShapes Go.ChangeAt Go.RowKit
set_option linter.unusedSimpArgs false
set_option linter.unusedVariables false

theorem findL_is {xs : List QC} {name : ByteArray} : ∀ (l : List Int), 0 ≤ (findL xs name l).2 → (findL xs name l).2 = numI (methsOf xs (findL xs name l).1) name
  | [], h => by simp [findL] at h
  | k :: r, h => by
    unfold findL at h ⊢
    by_cases hk : 0 ≤ numI (methsOf xs k) name
    · rw [if_pos hk]
    · rw [if_neg hk] at h ⊢
      exact findL_is r h
theorem methsOf_some {xs : List QC} {k : Int} {name : ByteArray} (h : 0 ≤ numI (methsOf xs k) name) : ∃ (q : Nat) (x : QC), k = (q : Int) ∧ xs[q]? = some x ∧ methsOf xs k = x.methods := by
  unfold methsOf at h ⊢
  cases hx : clsAt xs k with
  | none => rw [hx] at h; simp [numI, findI] at h
  | some x =>
    obtain ⟨q, rfl, hq⟩ := clsAt_some hx
    exact ⟨q, x, rfl, hq, rfl⟩
theorem findL_sign {xs : List QC} {name : ByteArray} : ∀ {l : List Int}, (∀ k ∈ l, 0 ≤ k) → ((findL xs name l).1 < 0 ∧ (findL xs name l).2 < 0) ∨ (0 ≤ (findL xs name l).1 ∧ 0 ≤ (findL xs name l).2)
  | [], _ => Or.inl (by simp [findL])
  | k :: r, h => by
    unfold findL
    split
    · rename_i hk
      exact Or.inr ⟨h k (by simp), hk⟩
    · exact findL_sign fun q hq => h q (by simp [hq])
theorem findE_sign (xs : List QC) (c : Int) (name : ByteArray) : ((findE xs c name).1 < 0 ∧ (findE xs c name).2 < 0) ∨ (0 ≤ (findE xs c name).1 ∧ 0 ≤ (findE xs c name).2) := by
  rw [findE_L]
  refine findL_sign fun k hk => ?_
  obtain ⟨i, hi, rfl⟩ := List.mem_iff_getElem.1 hk
  obtain ⟨q, x, e, -⟩ := upsE_mem _ _ i _ (by rw [List.getElem?_eq_getElem hi])
  rw [e]; omega
theorem find_found {xs : List QC} {k : Int} {name : ByteArray} (h : 0 ≤ (findE xs k name).2) : ∃ (q : Nat) (x : QC) (t : Nat) (y : QM), findE xs k name = ((q : Int), (t : Int)) ∧ xs[q]? = some x ∧ x.methods[t]? = some y := by
  rw [findE_L] at h ⊢
  generalize upsE xs (xs.length + 1) k = l at *
  have h1 := findL_is l h
  have h2 : 0 ≤ numI (methsOf xs (findL xs name l).1) name := by omega
  obtain ⟨q, x, hq, hx, hm⟩ := methsOf_some h2
  rw [hm] at h1 h2
  rcases findI_cases (fun m : QM => eqN m.name name) x.methods with h3 | ⟨t, y, ht, hy, hp, -⟩
  · have : numI x.methods name = -1 := h3
    omega
  · have ht' : numI x.methods name = (t : Int) := ht
    refine ⟨q, x, t, y, ?_, hx, hy⟩
    rw [ht'] at h1
    exact Prod.ext hq h1
theorem find_cases (xs : List QC) (k : Int) (name : ByteArray) : ((findE xs k name).1 < 0 ∧ (findE xs k name).2 < 0) ∨ ∃ (q : Nat) (x : QC) (t : Nat) (y : QM), findE xs k name = ((q : Int), (t : Int)) ∧ xs[q]? = some x ∧ x.methods[t]? = some y := by
  rcases findE_sign xs k name with h | h
  · exact Or.inl h
  · exact Or.inr (find_found h.2)
theorem findE_neg {xs : List QC} {c : Int} (name : ByteArray) (h : c < 0) : findE xs c name = (-1, -1) := by
  unfold findE upE clsAt
  simp [show ¬ 0 ≤ c by omega]

/-- Whether class c understands the name by a leaf of so many arguments. -/
def leafAt (xs : List QC) (c : Int) (name : ByteArray) (args : Int) : Bool :=
  if (findE xs c name).2 < 0 then false else
  match (xs[(findE xs c name).1.toNat]?).bind fun x => x.methods[(findE xs c name).2.toNat]? with
  | some m => m.args == args && leafE m
  | none => false
theorem leafAt_no {xs : List QC} {c : Int} {name : ByteArray} (args : Int) (h : (findE xs c name).2 < 0) : leafAt xs c name args = false := by simp [leafAt, h]
theorem leafAt_yes {xs : List QC} {c : Int} {name : ByteArray} (args : Int) {q t : Nat} {x : QC} {m : QM} (h : findE xs c name = ((q : Int), (t : Int))) (hx : xs[q]? = some x) (hm : x.methods[t]? = some m) : leafAt xs c name args = (m.args == args && leafE m) := by
  unfold leafAt
  rw [h]
  simp [hx, hm]

set_option maxHeartbeats 1000000 in
theorem findsLeaf_any {P : Nat → Prop} (X : QW) (c : Int) (name : ByteArray) (args : Int) (cv hv : Value) (w : World) (hC : IsClasses P w cv X.classes) (hH : IsHeap P w hv X.heap) :
    Calls Try.prog 44 #[WV cv hv X.epoch, .int .i64 c, .string name, .int .i64 args] w fun e w' => e = .returned (.bool (leafAt X.classes c name args)) ∧ Below w.heap.size w w' := by
  obtain ⟨ad, cap, rfl, hl, hcap, hby, hrow⟩ := id hC
  obtain ⟨ah, ch, rfl, -, -, -, -⟩ := id hH
  have hb0 := bel1 w (.cells #[.slice ad X.classes.length cap, .slice ah X.heap.length ch, .int .i64 X.epoch] 25)
  have k0 : (w.alloc (.cells #[.slice ad X.classes.length cap, .slice ah X.heap.length ch, .int .i64 X.epoch] 25)).cell? ⟨w.heap.size, 0, none⟩ = some (.slice ad X.classes.length cap) := by rw [cell_new _ _ _ _ rfl]; rfl
  go_enter Try.func44, Try.ntmps44
  go_wp2_with fail
  refine (find_any X c name _ _ _ (hC.later goodC (bel1 _ _)) (hH.later goodO (bel1 _ _))).mono ?_
  rintro e w1 ⟨rfl, hb⟩
  replace k0 := cell_later hb k0
  have hB := nstep hb0 hb
  clear hb0 hb
  rcases find_cases X.classes c name with ⟨h1, h2⟩ | ⟨q, x, t, m, he, hx, hm⟩
  · have HS : Hid (leafAt X.classes c name args = false) := leafAt_no args h2
    have hd : decide ((findE X.classes c name).1 < 0) = true := by simpa using h1
    generalize findE X.classes c name = f at *
    obtain ⟨f1, f2⟩ := f
    go_wp2
    go_ret
    exact ⟨ret_b HS.out.symm, hB⟩
  · have HS : Hid (leafAt X.classes c name args = (m.args == args && leafE m)) := leafAt_yes args he hx hm
    rw [he]
    have hq := lt_of_get hx
    have ht := lt_of_get hm
    obtain ⟨b, o, rfl, -, -, -, -, -, mv, hv3, hms⟩ := hrow q x hx
    obtain ⟨am, cm, rfl, hlm, hcm, -, hrm⟩ := hms
    obtain ⟨b2, o2, rfl, -, y0, y1, y2, y3, -, sv, y4, hco⟩ := hrm t m hm
    obtain ⟨ac, cc, rfl, -, -, -, -⟩ := id hco
    simp only [Nat.add_zero] at y0
    have u3 := cell_later hB hv3
    have z0 := cell_later hB y0
    have z1 := cell_later hB y1
    have z2 := cell_later hB y2
    have z3 := cell_later hB y3
    have z4 := cell_later hB y4
    have hcl := hco.later goodI hB
    unfold maxLen at hcap hcm
    have hq1 : (q : Int) < (X.classes.length : Int) := by omega
    have hq0 : (0 : Int) ≤ (q : Int) := by omega
    have ht1 : (t : Int) < (x.methods.length : Int) := by omega
    have ht0 : (0 : Int) ≤ (t : Int) := by omega
    have hqn : decide ((q : Int) < 0) = false := by simp
    clear hrow hrm hx hm he hv3 y0 y1 y2 y3 y4 hco hC hH
    by_cases ha : m.args = args
    · have hd : (m.args == args) = true := by simpa using ha
      have HL : Hid (leafAt X.classes c name args = leafE m) := by show _ = _; rw [HS.out, hd]; simp
      subst ha
      clear hd HS
      go_wp2_with fail
      refine (leaf_any m _ _ (hcl.later goodI (bel1 _ _))).mono ?_
      rintro e w2 ⟨rfl, hb2⟩
      go_wp2
      go_ret
      exact ⟨ret_b HL.out.symm, nstep hB (nstep1 (Below.refl _ _) hb2)⟩
    · have hd : (m.args == args) = false := by simpa using ha
      have HL : Hid (leafAt X.classes c name args = false) := by show _ = _; rw [HS.out, hd]; simp
      clear HS ha
      go_wp2
      go_ret
      exact ⟨ret_b HL.out.symm, nstep hB (bel1 _ _)⟩
theorem mostL_low (ls : List QL) : 0 ≤ (mostL ls).found := by
  have : ∀ (l : List QL) (p : QL), 0 ≤ p.found → 0 ≤ (l.foldl mostStep p).found := by
    intro l
    induction l with
    | nil => exact fun p h => h
    | cons x r ih =>
      intro p h
      refine ih _ ?_
      unfold mostStep
      split <;> omega
  exact this ls _ (by simp)
theorem mostL_high (ls : List QL) (M : Int) (hM : 0 ≤ M) (h : ∀ x ∈ ls, x.found ≤ M) : (mostL ls).found ≤ M := by
  have : ∀ (l : List QL) (p : QL), p.found ≤ M → (∀ x ∈ l, x.found ≤ M) → (l.foldl mostStep p).found ≤ M := by
    intro l
    induction l with
    | nil => exact fun p h _ => h
    | cons x r ih =>
      intro p h hx
      refine ih _ ?_ (fun y hy => hx y (by simp [hy]))
      have := hx x (by simp)
      unfold mostStep
      split <;> omega
  exact this ls _ (by simpa using hM) h

theorem sumL_range (ls : List QL) : -9223372036854775808 ≤ sumL ls ∧ sumL ls < 9223372036854775808 := by
  rcases List.eq_nil_or_concat ls with rfl | ⟨r, x, rfl⟩
  · simp [sumL]
  · rw [List.concat_eq_append, sumL_snoc]; unfold wrap64; omega
theorem half_le {a n : Int} (h2 : ¬ a < 2) (hi : a < 9223372036854775808) : n ≤ wrap64 (a.tdiv 2) ↔ n + n ≤ a := by
  rw [Int.tdiv_eq_ediv_of_nonneg (by omega)]
  unfold wrap64
  omega

/-- The class for which it is worth it at a site, or -1. -/
def siteE (X : QW) (t : List QT) (s : QS) (name : ByteArray) (args : Int) : Int :=
  if sumL (linesAt t s) < 2 ∨ (mostL (linesAt t s)).found + (mostL (linesAt t s)).found ≤ sumL (linesAt t s) ∨ leafAt X.classes (mostL (linesAt t s)).cls name args = false then -1 else (mostL (linesAt t s)).cls

structure SiteB (w : World) (ad : Option Addr) (n cap : Nat) (ah : Option Addr) (nh ch : Nat) (ep : Int) (b : Nat) (s : QS) (w' : World) : Prop where
  k0 : w'.cell? ⟨b, 0, none⟩ = some (.slice ad n cap)
  k1 : w'.cell? ⟨b, 1, none⟩ = some (.slice ah nh ch)
  k2 : w'.cell? ⟨b, 2, none⟩ = some (.int .i64 ep)
  s : SiteAt w' (b + 1) s
  bel : Below w.heap.size w w'
theorem SiteB.later {w : World} {ad : Option Addr} {n cap : Nat} {ah : Option Addr} {nh ch : Nat} {ep : Int} {b : Nat} {s : QS} {w' w'' : World} (h : SiteB w ad n cap ah nh ch ep b s w') (hb : Below w'.heap.size w' w'') : SiteB w ad n cap ah nh ch ep b s w'' :=
  ⟨cell_later hb h.k0, cell_later hb h.k1, cell_later hb h.k2, h.s.later hb, nstep h.bel hb⟩
theorem siteB_new (w : World) (ad : Option Addr) (n cap : Nat) (ah : Option Addr) (nh ch : Nat) (ep : Int) (s : QS) : SiteB w ad n cap ah nh ch ep w.heap.size s ((w.alloc (.cells #[.slice ad n cap, .slice ah nh ch, .int .i64 ep] 25)).alloc (.cells #[.int .i64 s.cls, .string s.name, .int .i64 s.at'] 55)) := by
  refine ⟨?_, ?_, ?_, ?_, bel2 _ _ _⟩
  · exact cell_later (bel1 _ _) (by rw [cell_new _ _ _ _ rfl]; rfl)
  · exact cell_later (bel1 _ _) (by rw [cell_new _ _ _ _ rfl]; rfl)
  · exact cell_later (bel1 _ _) (by rw [cell_new _ _ _ _ rfl]; rfl)
  · have := siteNew (w.alloc (.cells #[.slice ad n cap, .slice ah nh ch, .int .i64 ep] 25)) s 55
    simpa using this

set_option maxHeartbeats 1000000 in
theorem site_any {P P2 : Nat → Prop} (X : QW) (t : List QT) (s : QS) (name : ByteArray) (args : Int) (cv hv tv : Value) (w : World) (hC : IsClasses P w cv X.classes) (hH : IsHeap P w hv X.heap) (hT : IsTallies P2 w tv t) :
    Calls Try.prog 32 #[WV cv hv X.epoch, tv, SV s, .string name, .int .i64 args] w fun e w' => e = .returned (.int .i64 (siteE X t s name args)) ∧ Below w.heap.size w w' := by
  obtain ⟨ad, cap, rfl, -⟩ := id hC
  obtain ⟨ah, ch, rfl, -⟩ := id hH
  have hB := siteB_new w ad X.classes.length cap ah X.heap.length ch X.epoch s
  go_enter Try.func32, Try.ntmps32
  go_upto_region 1 with (fail)
  generalize (w.alloc (.cells #[.slice ad X.classes.length cap, .slice ah X.heap.length ch, .int .i64 X.epoch] 25)).alloc (.cells #[.int .i64 s.cls, .string s.name, .int .i64 s.at'] 55) = W0 at *
  have hT0 := hT.later goodT hB.bel
  have hC0 := hC.later goodC hB.bel
  have hH0 := hH.later goodO hB.bel
  obtain ⟨s0, s1, s2⟩ := hB.s
  go_wp2_with fail
  refine (all_any t s _ _ hT0).mono ?_
  rintro e w1 ⟨rfl, hb1⟩
  replace hB := hB.later hb1
  replace hT0 := hT0.later goodT hb1
  clear hb1 s0 s1 s2
  obtain ⟨s0, s1, s2⟩ := hB.s
  go_wp2_with fail
  refine (most_any t s _ _ hT0).mono ?_
  rintro e w2 ⟨rfl, hb2⟩
  replace hB := hB.later hb2
  clear hb2 s0 s1 s2 hT0
  have HE : Hid (siteE X t s name args = if sumL (linesAt t s) < 2 ∨ (mostL (linesAt t s)).found + (mostL (linesAt t s)).found ≤ sumL (linesAt t s) ∨ leafAt X.classes (mostL (linesAt t s)).cls name args = false then -1 else (mostL (linesAt t s)).cls) := rfl
  have hhi := (sumL_range (linesAt t s)).2
  have hlow := mostL_low (linesAt t s)
  generalize sumL (linesAt t s) = a at *
  generalize mostL (linesAt t s) = p at *
  obtain ⟨pc, pn⟩ := p
  simp only at *
  have hC2 := hC.later goodC hB.bel
  have hH2 := hH.later goodO hB.bel
  clear hT hC0 hH0
  obtain ⟨k0, k1, k2, -, hbel⟩ := hB
  by_cases h1 : a < 2
  · have hd : decide (a < 2) = true := by simpa using h1
    have HR : Hid (siteE X t s name args = -1) := by show _ = _; rw [HE.out, if_pos (Or.inl h1)]
    clear HE
    go_wp2
    go_ret
    exact ⟨ret_i HR.out.symm, hbel⟩
  · have hd : decide (a < 2) = false := by simpa using h1
    by_cases h2 : pn + pn ≤ a
    · have hd2 : decide (pn ≤ wrap64 (a.tdiv 2)) = true := by simpa using (half_le h1 hhi).2 h2
      have HR : Hid (siteE X t s name args = -1) := by show _ = _; rw [HE.out, if_pos (Or.inr (Or.inl h2))]
      clear HE h1 h2
      go_wp2
      go_ret
      exact ⟨ret_i HR.out.symm, hbel⟩
    · have hd2 : decide (pn ≤ wrap64 (a.tdiv 2)) = false := by
        have := fun h => h2 ((half_le h1 hhi).1 h)
        simpa using this
      cases hlf : leafAt X.classes pc name args
      · have HR : Hid (siteE X t s name args = -1) := by show _ = _; rw [HE.out, if_pos (Or.inr (Or.inr hlf))]
        have HL : Hid (leafAt X.classes pc name args = false) := hlf
        clear HE h1 h2 hlf
        go_wp2_with fail
        refine (findsLeaf_any X pc name args _ _ _ hC2 hH2).mono ?_
        rintro e w3 ⟨rfl, hb3⟩
        rw [HL.out]
        go_wp2
        go_ret
        exact ⟨ret_i HR.out.symm, nstep hbel hb3⟩
      · have HR : Hid (siteE X t s name args = pc) := by show _ = _; rw [HE.out, if_neg (by simp [h1, h2, hlf])]
        have HL : Hid (leafAt X.classes pc name args = true) := hlf
        clear HE h1 h2 hlf
        go_wp2_with fail
        refine (findsLeaf_any X pc name args _ _ _ hC2 hH2).mono ?_
        rintro e w3 ⟨rfl, hb3⟩
        rw [HL.out]
        go_wp2
        go_ret
        exact ⟨ret_i HR.out.symm, nstep hbel hb3⟩

set_option maxHeartbeats 1000000 in
theorem rsite_any {P P2 : Nat → Prop} (X : QW) (t : List QT) (s : QS) (name : ByteArray) (args : Int) (cv hv tv : Value) (w : World) (hC : IsClasses P w cv X.classes) (hH : IsHeap P w hv X.heap) (hT : IsTallies P2 w tv t) (hM : (mostL (linesAt t s)).found ≤ 1000000) :
    Calls Try.prog 36 #[WV cv hv X.epoch, tv, SV s, .string name, .int .i64 args] w fun e w' => e = .returned (.int .i64 (siteE X t s name args)) ∧ Below w.heap.size w w' := by
  obtain ⟨ad, cap, rfl, hl, hcap, -, hrow⟩ := id hC
  obtain ⟨ah, ch, rfl, -⟩ := id hH
  have hB := siteB_new w ad X.classes.length cap ah X.heap.length ch X.epoch s
  go_enter Try.func36, Try.ntmps36
  go_upto_region 1 with (fail)
  generalize (w.alloc (.cells #[.slice ad X.classes.length cap, .slice ah X.heap.length ch, .int .i64 X.epoch] 25)).alloc (.cells #[.int .i64 s.cls, .string s.name, .int .i64 s.at'] 55) = W0 at *
  have hT0 := hT.later goodT hB.bel
  obtain ⟨s0, s1, s2⟩ := hB.s
  go_wp2_with fail
  refine (rmost_any t s _ _ hT0).mono ?_
  rintro e w2 ⟨rfl, hb2⟩
  replace hB := hB.later hb2
  clear hb2 s0 s1 s2 hT0
  have HE : Hid (siteE X t s name args = if sumL (linesAt t s) < 2 ∨ (mostL (linesAt t s)).found + (mostL (linesAt t s)).found ≤ sumL (linesAt t s) ∨ leafAt X.classes (mostL (linesAt t s)).cls name args = false then -1 else (mostL (linesAt t s)).cls) := rfl
  have hlow := mostL_low (linesAt t s)
  generalize sumL (linesAt t s) = a at *
  generalize mostL (linesAt t s) = p at *
  obtain ⟨pc, pn⟩ := p
  simp only at *
  have hC2 := hC.later goodC hB.bel
  have hH2 := hH.later goodO hB.bel
  clear hT
  obtain ⟨k0, k1, k2, -, hbel⟩ := hB
  have hww : wrap64 (pn + pn) = pn + pn := by unfold wrap64; omega
  by_cases h1 : a < 2
  · have hd : decide (a < 2) = true := by simpa using h1
    have HR : Hid (siteE X t s name args = -1) := by show _ = _; rw [HE.out, if_pos (Or.inl h1)]
    clear HE hrow
    go_wp2
    go_ret
    exact ⟨ret_i HR.out.symm, hbel⟩
  · have hd : decide (a < 2) = false := by simpa using h1
    by_cases h2 : pn + pn ≤ a
    · have hd2 : decide (pn + pn ≤ a) = true := by simpa using h2
      have HR : Hid (siteE X t s name args = -1) := by show _ = _; rw [HE.out, if_pos (Or.inr (Or.inl h2))]
      clear HE h1 h2 hrow
      go_wp2
      go_ret
      exact ⟨ret_i HR.out.symm, hbel⟩
    · have hd2 : decide (pn + pn ≤ a) = false := by simpa using h2
      by_cases h3 : pc < 0
      · have hd3 : decide (pc < 0) = true := by simpa using h3
        have HR : Hid (siteE X t s name args = -1) := by
          show _ = _; rw [HE.out, if_pos (Or.inr (Or.inr (leafAt_no args (by rw [findE_neg name h3]; simp))))]
        clear HE h1 h2 h3 hrow
        go_wp2
        go_ret
        exact ⟨ret_i HR.out.symm, hbel⟩
      · have hd3 : decide (pc < 0) = false := by simpa using h3
        replace HE : Hid (siteE X t s name args = if leafAt X.classes pc name args = false then -1 else pc) := by
          show _ = _; rw [HE.out]; simp [h1, h2]
        clear h1 h2 h3
        go_wp2_with fail
        refine (rfind_any X pc name _ _ _ hC2 hH2).mono ?_
        rintro e w3 ⟨rfl, hb⟩
        have q0 := cell_later hb k0
        have hB := nstep hbel hb
        clear k0 k1 k2 hbel hb hC2 hH2
        rcases find_cases X.classes pc name with ⟨h1, h2⟩ | ⟨q, x, t', m, he, hx, hm⟩
        · have HR : Hid (siteE X t s name args = -1) := by show _ = _; rw [HE.out, if_pos (leafAt_no args h2)]
          have hd : decide ((findE X.classes pc name).2 < 0) = true := by simpa using h2
          clear HE
          generalize findE X.classes pc name = f at *
          obtain ⟨f1, f2⟩ := f
          go_wp2
          go_ret
          exact ⟨ret_i HR.out.symm, hB⟩
        · have HS : Hid (leafAt X.classes pc name args = (m.args == args && leafE m)) := leafAt_yes args he hx hm
          rw [he]
          have hq := lt_of_get hx
          have ht := lt_of_get hm
          obtain ⟨b, o, rfl, -, -, -, -, -, mv, hv3, hms⟩ := hrow q x hx
          obtain ⟨am, cm, rfl, hlm, hcm, -, hrm⟩ := hms
          obtain ⟨b2, o2, rfl, -, y0, y1, y2, y3, -, sv, y4, hco⟩ := hrm t' m hm
          obtain ⟨ac, cc, rfl, -, -, -, -⟩ := id hco
          simp only [Nat.add_zero] at y0
          have u3 := cell_later hB hv3
          have z0 := cell_later hB y0
          have z1 := cell_later hB y1
          have z2 := cell_later hB y2
          have z3 := cell_later hB y3
          have z4 := cell_later hB y4
          have hcl := hco.later goodI hB
          unfold maxLen at hcap hcm
          have hq1 : (q : Int) < (X.classes.length : Int) := by omega
          have hq0 : (0 : Int) ≤ (q : Int) := by omega
          have ht1 : (t' : Int) < (x.methods.length : Int) := by omega
          have ht0 : (0 : Int) ≤ (t' : Int) := by omega
          have hqn : decide ((t' : Int) < 0) = false := by simp
          clear hrow hrm hx hm he hv3 y0 y1 y2 y3 y4 hco hC hH
          go_wp2_with fail
          refine (rleaf_any m _ _ (hcl.later goodI (bel1 _ _))).mono ?_
          rintro e w4 ⟨rfl, hb4⟩
          have c1 : w4.cell? ⟨w3.heap.size, 1, none⟩ = some (.int .i64 m.args) := cell_later hb4 (by rw [cell_new _ _ _ _ rfl]; rfl)
          have hB4 := nstep hB (nstep1 (Below.refl _ _) hb4)
          clear hb4 hB u3 z0 z1 z2 z3 z4 q0
          cases hlf : leafE m
          · have HR : Hid (siteE X t s name args = -1) := by show _ = _; rw [HE.out, if_pos (by rw [HS.out, hlf]; simp)]
            clear HE HS hlf
            go_wp2
            go_ret
            exact ⟨ret_i HR.out.symm, hB4⟩
          · by_cases ha : m.args = args
            · have HR : Hid (siteE X t s name args = pc) := by show _ = _; rw [HE.out, if_neg (by rw [HS.out, hlf]; simp [ha])]
              have hd : (m.args == args) = true := by simpa using ha
              subst ha
              clear HE HS hlf
              go_wp2
              go_ret
              exact ⟨ret_i HR.out.symm, hB4⟩
            · have hd : (m.args == args) = false := by simpa using ha
              have HR : Hid (siteE X t s name args = -1) := by show _ = _; rw [HE.out, if_pos (by rw [HS.out, hd]; simp)]
              clear HE HS hlf ha
              go_wp2
              go_ret
              exact ⟨ret_i HR.out.symm, hB4⟩
end Go.Proofs.Ytlekfiglefopgaa
