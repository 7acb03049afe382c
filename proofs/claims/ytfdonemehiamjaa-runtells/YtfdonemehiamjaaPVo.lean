/- The reference's Run. -/
import Derived.Test.YtfdonemehiamjaaPG12
import Derived.Test.YtfdonemehiamjaaPG13
import Derived.Test.YtfdonemehiamjaaPG6
import Derived.Test.YtfdonemehiamjaaPZt
namespace Go.Proofs.Ytfdonemehiamjaa
open Go.ChangeShapes Go.WideShapes Go.ChangeAt Go.RowKit
set_option linter.unusedSimpArgs false
set_option linter.unusedVariables false
set_option maxRecDepth 8000

theorem rent_all {p : Rp} (hX : Rx p) : ∀ d : Nat, d ≤ 20 → ReOk p d
  | 0, h => renter_any hX 0 h fun d' e => by omega
  | d + 1, h => renter_any hX (d + 1) h fun d' e => by
    obtain rfl : d = d' := by omega
    exact body_any hX (rent_all hX d (by omega))
def refRun (X : QW) (s : QV) (name : ByteArray) (args : List QV) (fuel : Int) : Mc RSt × QV × Int :=
  entE (refEnv X fuel) 20 ⟨X.heap, 0, 0, []⟩ (findE X.classes (classV X.heap s) name).1 (findE X.classes (classV X.heap s) name).2 s args
/-- The sends that looked. -/
def sitesE (X : QW) (s : QV) (name : ByteArray) (args : List QV) (fuel : Int) : RSt := if wrongCallE X s name args fuel ≠ 0 then [] else (refRun X s name args fuel).1.st
theorem ref_rel (X : QW) (s : QV) (name : ByteArray) (args : List QV) (fuel : Int) : (runE X s name args fuel).1.heap = (refRun X s name args fuel).1.heap ∧ (runE X s name args fuel).1.sends = (refRun X s name args fuel).1.sends ∧ (runE X s name args fuel).2 = (refRun X s name args fuel).2 := by
  have h := ent_rel (Rel := fun (_ : RSt) (_ : Unit) => True) (SOk := fun _ _ => True) (E := refEnv X fuel) (E' := plainEnv X fuel) ⟨rfl, rfl, rfl, fun _ _ _ _ _ _ _ => ⟨rfl, trivial⟩, fun _ _ _ _ _ _ _ _ => trivial, fun _ _ _ _ _ _ _ _ _ => trivial⟩ 20 ⟨X.heap, 0, 0, []⟩ ⟨X.heap, 0, 0, ()⟩ (findE X.classes (classV X.heap s) name).1 (findE X.classes (classV X.heap s) name).2 s args ⟨rfl, rfl, rfl, trivial⟩
  exact ⟨h.1.heap, h.1.sends, h.2⟩
/-- What Run leaves. -/
def RuPost (X : QW) (fuel : Int) (cv0 : Value) (w : World) (r : Ran) (st : RSt) (e : Ending) (w' : World) : Prop :=
  Below w.heap.size w w' ∧ ∃ cv hv T m deep err hv' sv ov, e = .returned (.tuple #[WV cv hv X.epoch, RnV r, .pointer (some ⟨w.heap.size + 4, 0, none⟩)]) ∧ IsClasses Tru w' cv X.classes ∧ IsHeap Tru w' hv r.heap ∧ RMac ⟨X, fuel, cv0⟩ T w' (w.heap.size + 4) m deep err hv' sv ov ∧ m.st = st
theorem far3 {U : World} {b o b' : Nat} {v u0 u1 u2 : Value} (h : U.cell? ⟨b, o, none⟩ = some v) (hne : b ≠ b') : (((U.setCell ⟨b', 0, none⟩ u0).setCell ⟨b', 1, none⟩ u1).setCell ⟨b', 2, none⟩ u2).cell? ⟨b, o, none⟩ = some v :=
  (World.cell?_setCell_far _ _ _ _ (by simp; omega)).trans ((World.cell?_setCell_far _ _ _ _ (by simp; omega)).trans ((World.cell?_setCell_far _ _ _ _ (by simp; omega)).trans h))
theorem far4 {U : World} {b o b' : Nat} {v u0 u1 u2 u3 : Value} (h : U.cell? ⟨b, o, none⟩ = some v) (hne : b ≠ b') : ((((U.setCell ⟨b', 0, none⟩ u0).setCell ⟨b', 1, none⟩ u1).setCell ⟨b', 2, none⟩ u2).setCell ⟨b', 3, none⟩ u3).cell? ⟨b, o, none⟩ = some v :=
  (World.cell?_setCell_far _ _ _ _ (by simp; omega)).trans (far3 h hne)
theorem RuPost.fin {X : QW} {fuel : Int} {cv0 : Value} {w V : World} {r : Ran} {st : RSt} {cv hv hv' sv ov : Value} {P : Nat → Prop} {T : Nat → Nat} {m : Mc RSt} {deep err : Int} (hb : Below w.heap.size w V) (hC : IsClasses P V cv X.classes) (hH : IsHeap P V hv r.heap) (h2 : ¬ P (w.heap.size + 2)) (h3 : ¬ P (w.heap.size + 3)) (hM : RMac ⟨X, fuel, cv0⟩ T V (w.heap.size + 4) m deep err hv' sv ov) (hst : m.st = st) (t2 : T (w.heap.size + 2) = 4) (t3 : T (w.heap.size + 3) = 4) (u0 u1 u2 v0 v1 v2 v3 : Value) :
    RuPost X fuel cv0 w r st (.returned (.tuple #[WV cv hv X.epoch, RnV r, .pointer (some ⟨w.heap.size + 4, 0, none⟩)])) (((((((V.setCell ⟨w.heap.size + 2, 0, none⟩ u0).setCell ⟨w.heap.size + 2, 1, none⟩ u1).setCell ⟨w.heap.size + 2, 2, none⟩ u2).setCell ⟨w.heap.size + 3, 0, none⟩ v0).setCell ⟨w.heap.size + 3, 1, none⟩ v1).setCell ⟨w.heap.size + 3, 2, none⟩ v2).setCell ⟨w.heap.size + 3, 3, none⟩ v3) := by
  have k : Keeps P V (((((((V.setCell ⟨w.heap.size + 2, 0, none⟩ u0).setCell ⟨w.heap.size + 2, 1, none⟩ u1).setCell ⟨w.heap.size + 2, 2, none⟩ u2).setCell ⟨w.heap.size + 3, 0, none⟩ v0).setCell ⟨w.heap.size + 3, 1, none⟩ v1).setCell ⟨w.heap.size + 3, 2, none⟩ v2).setCell ⟨w.heap.size + 3, 3, none⟩ v3) := keep_set (keep_set (keep_set (keep_set (keep_set (keep_set (keep_set (Keeps.refl _ _) h2 _) h2 _) h2 _) h3 _) h3 _) h3 _) h3 _
  have k4 : Kp (fun t => t = 4) T V (((((((V.setCell ⟨w.heap.size + 2, 0, none⟩ u0).setCell ⟨w.heap.size + 2, 1, none⟩ u1).setCell ⟨w.heap.size + 2, 2, none⟩ u2).setCell ⟨w.heap.size + 3, 0, none⟩ v0).setCell ⟨w.heap.size + 3, 1, none⟩ v1).setCell ⟨w.heap.size + 3, 2, none⟩ v2).setCell ⟨w.heap.size + 3, 3, none⟩ v3) := (((((((Kp.refl _ _ _).set (fun _ => t2) _ _).set (fun _ => t2) _ _).set (fun _ => t2) _ _).set (fun _ => t3) _ _).set (fun _ => t3) _ _).set (fun _ => t3) _ _).set (fun _ => t3) _ _
  refine ⟨((((((hb.setCell (by simp) _).setCell (by simp) _).setCell (by simp) _).setCell (by simp) _).setCell (by simp) _).setCell (by simp) _).setCell (by simp) _, cv, hv, T, m, deep, err, hv', sv, ov, rfl, hC.keep goodC k fun _ _ => trivial, hH.keep goodO k fun _ _ => trivial, hM.keep (.refl _ _) k4 (by omega) (by omega) (by omega) (by omega), hst⟩
theorem RuPost.drew {X : QW} {fuel : Int} {cv0 : Value} {w w' : World} {r : Ran} {st : RSt} {e : Ending} (h : RuPost X fuel cv0 w r st e w') : RuPost X fuel cv0 w r st e w'.drew := by
  obtain ⟨hb, cv, hv, T, m, deep, err, hv', sv, ov, h1, h2, h3, h4, h5⟩ := h
  exact ⟨hb.drew, cv, hv, T, m, deep, err, hv', sv, ov, h1, h2.later goodC (Below.refl _ _).drew, h3.later goodO (Below.refl _ _).drew, h4.later (Below.refl _ _).drew, h5⟩
/-- Tags of Run: the machine's box 1, its own boxes and what calls leave 4. -/
def tagR (n : Nat) : Nat → Nat := fun x => if x < n then 0 else if x = n + 4 then 1 else 4
theorem tagR_lo {n x : Nat} (h : x < n) : tagR n x = 0 := by simp [tagR, h]
theorem tagR_mb (n : Nat) : tagR n (n + 4) = 1 := by simp [tagR]
theorem tagR_hi {n x : Nat} (h : n ≤ x) (h4 : x ≠ n + 4) : tagR n x = 4 := by simp [tagR, h4]; omega
theorem rmac_start {X : QW} {fuel : Int} {cv hv : Value} {w W : World} {P : Nat → Prop} (hC : IsClasses P w cv X.classes) (hH : IsHeap P w hv X.heap) (hb : Below w.heap.size w W) (hbox : W.heap[w.heap.size + 4]? = some (.cells #[cv, hv, .int .i64 X.epoch, .int .i64 fuel, .int .i64 0, .int .i64 0, .int .i64 0, .int .i64 0, .slice none 0 0, .slice none 0 0] 68 (0, 0))) : RMac ⟨X, fuel, cv⟩ (tagR w.heap.size) W (w.heap.size + 4) ⟨X.heap, 0, 0, []⟩ 0 0 hv (.slice none 0 0) (.slice none 0 0) := by
  have hs := hb.size
  refine ⟨hbox, tagR_mb _, ((bound_classes hC).later goodC hb).mono goodC fun b hb => ⟨by omega, tagR_lo hb⟩, ((bound_heap hH).later goodO hb).mono goodO fun b hb => ⟨by omega, tagR_lo hb⟩,⟨rfl, Or.inl ⟨rfl, rfl⟩⟩, fun g hg => (by cases hg), ⟨rfl, Or.inl ⟨rfl, rfl⟩⟩, fun g hg => (by cases hg)⟩

set_option maxHeartbeats 8000000 in
theorem rrun_any {P Q : Nat → Prop} (X : QW) (hX : rightE X = 0) (s : QV) (name : ByteArray) (args : List QV) (fuel : Int) (cv hv av : Value) (w : World) (hC : IsClasses P w cv X.classes) (hH : IsHeap P w hv X.heap) (hA : IsVals Q w av args) (hn : name.size ≤ 140737488351232) :
    Calls Try.prog 9 #[WV cv hv X.epoch, ClV s name av, .int .i64 fuel] w fun e w' => RuPost X fuel cv w (plainE X s name args fuel) (sitesE X s name args fuel) e w' := by
  obtain ⟨ac, cc, rfl, -, -, hby, -⟩ := id hC
  obtain ⟨ah, ch, rfl, -, -, hbyh, -⟩ := id hH
  obtain ⟨aa, ca, rfl, -⟩ := id hA
  have hR0 := (wtR_new w (.slice ac X.classes.length cc) (.slice ah X.heap.length ch) X.epoch s name (.slice aa args.length ca)).later (bel1 _ (.cells #[.slice ac X.classes.length cc, .slice ah X.heap.length ch, .int .i64 X.epoch, .int .i64 fuel, .int .i64 0, .int .i64 0, .int .i64 0, .int .i64 0, .slice none 0 0, .slice none 0 0] 68))
  have hB0 : Below w.heap.size w (((((w.alloc (.cells #[.slice ac X.classes.length cc, .slice ah X.heap.length ch, .int .i64 X.epoch] 25)).alloc (.cells #[.int .i64 s.k, .int .i64 s.n, .string name, .slice aa args.length ca] 30)).alloc (.cells #[.slice none 0 0, .slice none 0 0, .int .i64 0] 25)).alloc (.cells #[.int .i64 0, .int .i64 0, .int .i64 0, .int .i64 0] 34)).alloc (.cells #[.slice ac X.classes.length cc, .slice ah X.heap.length ch, .int .i64 X.epoch, .int .i64 fuel, .int .i64 0, .int .i64 0, .int .i64 0, .int .i64 0, .slice none 0 0, .slice none 0 0] 68)) := nstep (nstep (bel2 _ _ _) (bel2 _ _ _)) (bel1 _ _)
  have hbx0 : (((((w.alloc (.cells #[.slice ac X.classes.length cc, .slice ah X.heap.length ch, .int .i64 X.epoch] 25)).alloc (.cells #[.int .i64 s.k, .int .i64 s.n, .string name, .slice aa args.length ca] 30)).alloc (.cells #[.slice none 0 0, .slice none 0 0, .int .i64 0] 25)).alloc (.cells #[.int .i64 0, .int .i64 0, .int .i64 0, .int .i64 0] 34)).alloc (.cells #[.slice ac X.classes.length cc, .slice ah X.heap.length ch, .int .i64 X.epoch, .int .i64 fuel, .int .i64 0, .int .i64 0, .int .i64 0, .int .i64 0, .slice none 0 0, .slice none 0 0] 68)).heap[w.heap.size + 4]? = some (.cells #[.slice ac X.classes.length cc, .slice ah X.heap.length ch, .int .i64 X.epoch, .int .i64 fuel, .int .i64 0, .int .i64 0, .int .i64 0, .int .i64 0, .slice none 0 0, .slice none 0 0] 68 (0, 0)) := by
    have := heap_alloc_new ((((w.alloc (.cells #[.slice ac X.classes.length cc, .slice ah X.heap.length ch, .int .i64 X.epoch] 25)).alloc (.cells #[.int .i64 s.k, .int .i64 s.n, .string name, .slice aa args.length ca] 30)).alloc (.cells #[.slice none 0 0, .slice none 0 0, .int .i64 0] 25)).alloc (.cells #[.int .i64 0, .int .i64 0, .int .i64 0, .int .i64 0] 34)) (.cells #[.slice ac X.classes.length cc, .slice ah X.heap.length ch, .int .i64 X.epoch, .int .i64 fuel, .int .i64 0, .int .i64 0, .int .i64 0, .int .i64 0, .slice none 0 0, .slice none 0 0] 68)
    simpa using this
  go_enter Try.func9, Try.ntmps9
  go_upto_region 2 with (fail)
  simp only [Nat.add_assoc, Nat.reduceAdd] at *
  generalize (((((w.alloc (.cells #[.slice ac X.classes.length cc, .slice ah X.heap.length ch, .int .i64 X.epoch] 25)).alloc (.cells #[.int .i64 s.k, .int .i64 s.n, .string name, .slice aa args.length ca] 30)).alloc (.cells #[.slice none 0 0, .slice none 0 0, .int .i64 0] 25)).alloc (.cells #[.int .i64 0, .int .i64 0, .int .i64 0, .int .i64 0] 34)).alloc (.cells #[.slice ac X.classes.length cc, .slice ah X.heap.length ch, .int .i64 X.epoch, .int .i64 fuel, .int .i64 0, .int .i64 0, .int .i64 0, .int .i64 0, .slice none 0 0, .slice none 0 0] 68)) = W at *
  obtain ⟨n0, n1, n2, m0, m1, m2, m3⟩ := hR0.pn.al
  go_wp2_with fail
  refine (rwrongCall_any X s name args fuel _ _ _ W ⟨_, _, _, rfl⟩ (hH.later goodO hB0) (hA.later goodV hB0) hn).mono ?_
  rintro e w1 ⟨rfl, hb1⟩
  have hR1 := hR0.later hb1
  have hB1 := nstep hB0 hb1
  have hM1 := (rmac_start hC hH hB0 hbx0).later hb1
  clear n0 n1 n2 m0 m1 m2 m3 hR0 hB0 hbx0 hb1
  have t0 : ∀ i, i < 4 → tagR w.heap.size (w.heap.size + i) = 4 := fun i hi => tagR_hi (by omega) (by omega)
  by_cases hw : wrongCallE X s name args fuel = 0
  · have HPl : Hid (plainE X s name args fuel = if (refRun X s name args fuel).2.2 ≠ 0 then ⟨X.heap, nilV, (refRun X s name args fuel).2.2, (refRun X s name args fuel).1.sends⟩ else ⟨(refRun X s name args fuel).1.heap, (refRun X s name args fuel).2.1, 0, (refRun X s name args fuel).1.sends⟩) := by
      show _ = _
      obtain ⟨q1, q2, q3⟩ := ref_rel X s name args fuel
      unfold plainE
      rw [if_neg (by simpa using hw), q1, q2, q3]
    have HSt : Hid (sitesE X s name args fuel = (refRun X s name args fuel).1.st) := by show _ = _; unfold sitesE; rw [if_neg (by simpa using hw)]
    obtain ⟨hfu, hws, hwa⟩ := wrongCall_is hw
    have hRx : Rx ⟨X, fuel, .slice ac X.classes.length cc⟩ := ⟨hX, hfu⟩
    have HMi : Hid (MIn (Rp.E ⟨X, fuel, .slice ac X.classes.length cc⟩) ⟨X.heap, 0, 0, []⟩) := by
      have he := right_heap hX
      exact ⟨he, ⟨Int.le_refl _, hfu.1⟩,⟨Int.le_refl _, by show (0 : Int) ≤ 300; omega⟩⟩
    have HX := hid (And.intro hRx (And.intro hws hwa))
    rw [hw]
    clear hw hws hwa hfu
    go_upto_region 5 with (fail)
    have hSl : ∀ w', Below w1.heap.size w1 w' → w'.cell? ⟨w.heap.size, 0, none⟩ = some (.slice ac X.classes.length cc) ∧ w'.cell? ⟨w.heap.size, 1, none⟩ = some (.slice ah X.heap.length ch) ∧ w'.cell? ⟨w.heap.size, 2, none⟩ = some (.int .i64 X.epoch) ∧ w'.cell? ⟨w.heap.size + 1, 0, none⟩ = some (.int .i64 s.k) ∧ w'.cell? ⟨w.heap.size + 1, 1, none⟩ = some (.int .i64 s.n) ∧ w'.cell? ⟨w.heap.size + 1, 2, none⟩ = some (.string name) := fun w' hb => by
      have h := hR1.later hb
      exact ⟨h.w0, h.w1, h.w2, h.c0, h.c1, h.c2⟩
    have hS0 := hSl _ (Below.refl _ w1).drew
    refine wp_region_late (S := fun w' => w'.cell? ⟨w.heap.size, 0, none⟩ = some (.slice ac X.classes.length cc) ∧ w'.cell? ⟨w.heap.size, 1, none⟩ = some (.slice ah X.heap.length ch) ∧ w'.cell? ⟨w.heap.size, 2, none⟩ = some (.int .i64 X.epoch) ∧ w'.cell? ⟨w.heap.size + 1, 0, none⟩ = some (.int .i64 s.k) ∧ w'.cell? ⟨w.heap.size + 1, 1, none⟩ = some (.int .i64 s.n) ∧ w'.cell? ⟨w.heap.size + 1, 2, none⟩ = some (.string name)) [] (by kernel_rfl) ?_
    refine wpAnyM_take (i := 0) (oi := ⟨some 29, .load 25 (.tmp 3), 25, "ref.go:169", #[], none⟩) (v := WV (.slice ac X.classes.length cc) (.slice ah X.heap.length ch) X.epoch) (by kernel_rfl) (by kernel_rfl) rfl (by kernel_rfl) (by kernel_rfl) (by kernel_rfl) (fun _ _ _ h => h) (Or.inl ⟨by rfl, ?_⟩) (hS0) ?_
    · intro w hSw
      obtain ⟨q0, q1, q2, q3, q4, q5⟩ := hSw
      go_simp
    try simp only [Act.put, List.setIfInBounds_toArray, List.set_cons_zero, List.set_cons_succ]
    refine wpAnyM_take (i := 1) (oi := ⟨some 30, .fieldAddr 25 (.tmp 3) 1, 0, "ref.go:169", #[], none⟩) (v := .pointer (some ⟨w.heap.size, 1, none⟩)) (by kernel_rfl) (by kernel_rfl) rfl (by kernel_rfl) (by kernel_rfl) (by kernel_rfl) (fun _ _ _ h => h) (Or.inl ⟨by rfl, ?_⟩) (hS0) ?_
    · intro w hSw
      obtain ⟨q0, q1, q2, q3, q4, q5⟩ := hSw
      go_simp
    try simp only [Act.put, List.setIfInBounds_toArray, List.set_cons_zero, List.set_cons_succ]
    refine wpAnyM_take (i := 2) (oi := ⟨some 31, .load 23 (.tmp 30), 23, "ref.go:169", #[⟨1,.data⟩], none⟩) (v := .slice ah X.heap.length ch) (by kernel_rfl) (by kernel_rfl) rfl (by kernel_rfl) (by kernel_rfl) (by kernel_rfl) (fun _ _ _ h => h) (Or.inl ⟨by rfl, ?_⟩) (hS0) ?_
    · intro w hSw
      obtain ⟨q0, q1, q2, q3, q4, q5⟩ := hSw
      go_simp
    try simp only [Act.put, List.setIfInBounds_toArray, List.set_cons_zero, List.set_cons_succ]
    refine wpAnyM_take (i := 3) (oi := ⟨some 32, .fieldAddr 30 (.tmp 4) 0, 0, "ref.go:169", #[], none⟩) (v := .pointer (some ⟨w.heap.size + 1, 0, none⟩)) (by kernel_rfl) (by kernel_rfl) rfl (by kernel_rfl) (by kernel_rfl) (by kernel_rfl) (fun _ _ _ h => h) (Or.inl ⟨by rfl, ?_⟩) (hS0) ?_
    · intro w hSw
      obtain ⟨q0, q1, q2, q3, q4, q5⟩ := hSw
      go_simp
    try simp only [Act.put, List.setIfInBounds_toArray, List.set_cons_zero, List.set_cons_succ]
    refine wpAnyM_take (i := 4) (oi := ⟨some 33, .load 27 (.tmp 32), 27, "ref.go:169", #[⟨3,.data⟩], none⟩) (v := VV s) (by kernel_rfl) (by kernel_rfl) rfl (by kernel_rfl) (by kernel_rfl) (by kernel_rfl) (fun _ _ _ h => h) (Or.inl ⟨by rfl, ?_⟩) (hS0) ?_
    · intro w hSw
      obtain ⟨q0, q1, q2, q3, q4, q5⟩ := hSw
      go_simp
    try simp only [Act.put, List.setIfInBounds_toArray, List.set_cons_zero, List.set_cons_succ]
    refine wpAnyM_take (i := 6) (oi := ⟨some 35, .fieldAddr 30 (.tmp 4) 1, 0, "ref.go:169", #[], none⟩) (v := .pointer (some ⟨w.heap.size + 1, 2, none⟩)) (by kernel_rfl) (by kernel_rfl) rfl (by kernel_rfl) (by kernel_rfl) (by kernel_rfl) (fun _ _ _ h => h) (Or.inl ⟨by rfl, ?_⟩) (hS0) ?_
    · intro w hSw
      obtain ⟨q0, q1, q2, q3, q4, q5⟩ := hSw
      go_simp
    try simp only [Act.put, List.setIfInBounds_toArray, List.set_cons_zero, List.set_cons_succ]
    refine wpAnyM_take (i := 7) (oi := ⟨some 36, .load 9 (.tmp 35), 9, "ref.go:169", #[⟨6,.data⟩], none⟩) (v := .string name) (by kernel_rfl) (by kernel_rfl) rfl (by kernel_rfl) (by kernel_rfl) (by kernel_rfl) (fun _ _ _ h => h) (Or.inl ⟨by rfl, ?_⟩) (hS0) ?_
    · intro w hSw
      obtain ⟨q0, q1, q2, q3, q4, q5⟩ := hSw
      go_simp
    try simp only [Act.put, List.setIfInBounds_toArray, List.set_cons_zero, List.set_cons_succ]
    refine wpAnyM_ready (rs := [5]) (by kernel_rfl) (by simp) ?_
    intro i hi
    simp only [List.mem_cons, List.not_mem_nil, or_false] at hi
    subst hi
    refine stepM (o := ⟨some 34, .call ⟨.value (.func 23), #[.tmp 31, .tmp 33], #[23, 27]⟩, 3, "ref.go:169", #[⟨2,.data⟩,⟨4,.data⟩], none⟩) rfl (fun K' hK => ?_)
    refine step_call rfl 23 (.func 23) #[.tmp 31, .tmp 33] _ rfl #[] rfl #[.slice ah X.heap.length ch, VV s] (by simp [Act.eval, Act.put]) (cf23 _ _) ?_
    refine (show Calls Try.prog 23 #[.slice ah X.heap.length ch, VV s] w1.drew _ from (rclass_any X.heap _ s w1.drew (hH.later goodO (nstep hB1 (Below.refl _ w1).drew))).mono ?_)
    rintro e w2 ⟨rfl, hb2⟩
    refine ⟨_, rfl, ?_⟩
    have hb12 : Below w1.heap.size w1 w2 := nstep (Below.refl _ w1).drew hb2
    refine hK _ _ (fun _ => ?_) ?_
    · exact hSl _ hb12
    clear hK K'
    try simp only [Act.put, List.setIfInBounds_toArray, List.set_cons_zero, List.set_cons_succ]
    refine wpAnyM_ready (rs := [8]) (by kernel_rfl) (by simp) ?_
    intro i hi
    simp only [List.mem_cons, List.not_mem_nil, or_false] at hi
    subst hi
    refine stepM (o := ⟨some 37, .call ⟨.value (.func 22), #[.tmp 29, .tmp 34, .tmp 36], #[25, 3, 9]⟩, 69, "ref.go:169", #[⟨0,.data⟩,⟨5,.data⟩,⟨7,.data⟩,⟨5,.chain⟩], none⟩) rfl (fun K' hK => ?_)
    refine step_call rfl 22 (.func 22) #[.tmp 29, .tmp 34, .tmp 36] _ rfl #[] rfl #[WV (.slice ac X.classes.length cc) (.slice ah X.heap.length ch) X.epoch, .int .i64 (classV X.heap s), .string name] (by simp [Act.eval, Act.put]) (cf22 _ _) ?_
    refine (show Calls Try.prog 22 #[WV (.slice ac X.classes.length cc) (.slice ah X.heap.length ch) X.epoch, .int .i64 (classV X.heap s), .string name] w2 _ from (rfind_any X (classV X.heap s) name _ _ w2 (hC.later goodC (nstep hB1 hb12)) (hH.later goodO (nstep hB1 hb12))).mono ?_)
    rintro e w3 ⟨rfl, hb3⟩
    refine ⟨_, rfl, ?_⟩
    have hb13 : Below w1.heap.size w1 w3 := nstep hb12 hb3
    obtain ⟨fc, fj, hf⟩ : ∃ fc fj, findE X.classes (classV X.heap s) name = (fc, fj) := ⟨_, _, rfl⟩
    rw [hf]
    refine hK _ _ (fun _ => ?_) ?_
    · exact hSl _ hb13
    clear hK K'
    try simp only [Act.put, List.setIfInBounds_toArray, List.set_cons_zero, List.set_cons_succ]
    refine wpAnyM_take (i := 9) (oi := ⟨some 28, .move (.tmp 37), 69, "ref.go:169", #[⟨8,.data⟩], none⟩) (v := .tuple #[.int .i64 fc, .int .i64 fj]) (by kernel_rfl) (by kernel_rfl) rfl (by kernel_rfl) (by kernel_rfl) (by kernel_rfl) (fun _ _ _ h => h) (Or.inl ⟨by rfl, ?_⟩) (hSl _ hb13) ?_
    · intro w hSw
      obtain ⟨q0, q1, q2, q3, q4, q5⟩ := hSw
      go_simp
    try simp only [Act.put, List.setIfInBounds_toArray, List.set_cons_zero, List.set_cons_succ]
    refine wpAnyM_take (i := 10) (oi := ⟨some 38, .extract (.tmp 28) 0, 3, "ref.go:169", #[⟨9,.data⟩], none⟩) (v := .int .i64 fc) (by kernel_rfl) (by kernel_rfl) rfl (by kernel_rfl) (by kernel_rfl) (by kernel_rfl) (fun _ _ _ h => h) (Or.inl ⟨by rfl, ?_⟩) (hSl _ hb13) ?_
    · intro w hSw
      obtain ⟨q0, q1, q2, q3, q4, q5⟩ := hSw
      go_simp
    try simp only [Act.put, List.setIfInBounds_toArray, List.set_cons_zero, List.set_cons_succ]
    refine wpAnyM_take (i := 11) (oi := ⟨some 39, .extract (.tmp 28) 1, 3, "ref.go:169", #[⟨9,.data⟩,⟨12, .gcOnly .lateStores⟩], none⟩) (v := .int .i64 fj) (by kernel_rfl) (by kernel_rfl) rfl (by kernel_rfl) (by kernel_rfl) (by kernel_rfl) (fun _ _ _ h => h) (Or.inl ⟨by rfl, ?_⟩) (hSl _ hb13) ?_
    · intro w hSw
      obtain ⟨q0, q1, q2, q3, q4, q5⟩ := hSw
      go_simp
    try simp only [Act.put, List.setIfInBounds_toArray, List.set_cons_zero, List.set_cons_succ]
    refine wpAnyM_take (i := 12) (oi := ⟨some 11, .assign (.tmp 38), 3, "ref.go:169", #[⟨10,.data⟩,⟨8,.chain⟩,⟨0,.phase⟩,⟨1,.phase⟩,⟨2,.phase⟩,⟨3,.phase⟩,⟨4,.phase⟩,⟨5,.phase⟩,⟨6,.phase⟩,⟨7,.phase⟩,⟨8,.phase⟩,⟨9,.phase⟩,⟨10,.phase⟩,⟨11, .textOnly .lateStores⟩], none⟩) (v := .int .i64 fc) (by kernel_rfl) (by kernel_rfl) rfl (by kernel_rfl) (by kernel_rfl) (by kernel_rfl) (fun _ _ _ h => h) (Or.inl ⟨by rfl, ?_⟩) (hSl _ hb13) ?_
    · intro w hSw
      obtain ⟨q0, q1, q2, q3, q4, q5⟩ := hSw
      go_simp
    try simp only [Act.put, List.setIfInBounds_toArray, List.set_cons_zero, List.set_cons_succ]
    refine wpAnyM_take (i := 13) (oi := ⟨some 12, .assign (.tmp 39), 3, "ref.go:169", #[⟨11,.data⟩,⟨12,.chain⟩,⟨0,.phase⟩,⟨1,.phase⟩,⟨2,.phase⟩,⟨3,.phase⟩,⟨4,.phase⟩,⟨5,.phase⟩,⟨6,.phase⟩,⟨7,.phase⟩,⟨8,.phase⟩,⟨9,.phase⟩,⟨10,.phase⟩,⟨11,.phase⟩,⟨12,.phase⟩], none⟩) (v := .int .i64 fj) (by kernel_rfl) (by kernel_rfl) rfl (by kernel_rfl) (by kernel_rfl) (by kernel_rfl) (fun _ _ _ h => h) (Or.inl ⟨by rfl, ?_⟩) (hSl _ hb13) ?_
    · intro w hSw
      obtain ⟨q0, q1, q2, q3, q4, q5⟩ := hSw
      go_simp
    try simp only [Act.put, List.setIfInBounds_toArray, List.set_cons_zero, List.set_cons_succ]
    refine wpAnyM_done (by kernel_rfl) ?_ _
    try simp only [Act.put, List.setIfInBounds_toArray, List.set_cons_zero, List.set_cons_succ]

    replace hR1 := hR1.later hb13
    replace hM1 := hM1.later hb13
    replace hB1 := nstep hB1 hb13
    have HRu : Hid (refRun X s name args fuel = entE (Rp.E ⟨X, fuel, .slice ac X.classes.length cc⟩) 20 ⟨X.heap, 0, 0, []⟩ fc fj s args) := by show _ = _; unfold refRun; rw [hf]
    have hfm : 0 ≤ fj → ∃ mt, methAt X.classes fc fj = some mt := fun h => by have := find_meth (xs := X.classes) (k := classV X.heap s) (name := name) (by rw [hf]; exact h); rw [hf] at this; exact this
    have HFn : Hid (¬ 0 ≤ fj → refRun X s name args fuel = (⟨X.heap, 0, 0, []⟩, nilV, 10)) := fun h => by
      unfold refRun
      have h2 : ¬ 0 ≤ (findE (Rp.X ⟨X, fuel, .slice ac X.classes.length cc⟩).classes (classV X.heap s) (QI.mk 0 0 0 0 name).name).2 := by show ¬ 0 ≤ (findE X.classes (classV X.heap s) name).2; rw [hf]; exact h
      exact ent_none (p := ⟨X, fuel, .slice ac X.classes.length cc⟩) (x := QI.mk 0 0 0 0 name) (d := 20) h2
    have HA := hid (hA.later goodV hB1)
    clear hb12 hb13 hb2 hb3 hSl hS0 hf
    by_cases hj : 0 ≤ fj
    · obtain ⟨mt, hmt⟩ := hfm hj
      have hj' : ¬ (fj < 0) := by omega
      have HMt := hid hmt
      clear hfm HFn hmt hj
      obtain ⟨r, hr⟩ : ∃ r, refRun X s name args fuel = r := ⟨_, rfl⟩
      rw [hr] at HPl HSt HRu
      have hAF : IsVals (Fx (tagR w.heap.size) w3) w3 (.slice aa args.length ca) args := ((bound_vals hA).later goodV hB1).mono goodV fun b hb => ⟨by have := hB1.size; omega, tagR_lo hb⟩
      obtain ⟨n0, n1, n2, m0, m1, m2, m3⟩ := hR1.pn.al
      go_wp2_with fail
      refine (show Calls Try.prog 24 #[.pointer (some ⟨w.heap.size + 4, 0, none⟩), .int .i64 fc, .int .i64 fj, VV s, .slice aa args.length ca] w3 _ from (rent_all HX.out.1 20 (Nat.le_refl _) 5 (tagR w.heap.size) w3 (w.heap.size + 4) ⟨X.heap, 0, 0, []⟩ _ _ _ fc fj s args _ mt (Nat.le_refl _) hM1 HMi.out (by unfold Few1; simp) HX.out.2.1 HX.out.2.2 hAF HMt.out).mono ?_)
      rw [← HRu.out]
      rintro e w5 ⟨rfl, ⟨T5, hv5, sv5, ov5, hE5, hM5⟩, hK5⟩
      dsimp only
      have hR5 := hR1.kp hK5 (fun i hi => by rw [t0 i hi]; unfold All; omega)
      have hB5 : Below w.heap.size w w5 := hB1.trans (hK5.below (fun b hb => by rw [tagR_lo hb]; unfold All; omega) hB1.size)
      have hz := hR1.sz
      have t52 : T5 (w.heap.size + 2) = 4 := by rw [hE5 _ (by omega)]; exact t0 2 (by omega)
      have t53 : T5 (w.heap.size + 3) = 4 := by rw [hE5 _ (by omega)]; exact t0 3 (by omega)
      have hCw := (bound_classes hC).later goodC (nstep hB5 (bel1 w5 (.cells #[.int .i64 r.2.1.k, .int .i64 r.2.1.n] 27)))
      have hHw := (bound_heap hH).later goodO (nstep hB5 (bel1 w5 (.cells #[.int .i64 r.2.1.k, .int .i64 r.2.1.n] 27)))
      have y0 : (w5.alloc (.cells #[.int .i64 r.2.1.k, .int .i64 r.2.1.n] 27)).cell? ⟨w5.heap.size, 0, none⟩ = some (.int .i64 r.2.1.k) := cell_new _ _ _ _ rfl 0
      have y1 : (w5.alloc (.cells #[.int .i64 r.2.1.k, .int .i64 r.2.1.n] 27)).cell? ⟨w5.heap.size, 1, none⟩ = some (.int .i64 r.2.1.n) := cell_new _ _ _ _ rfl 1
      replace hR5 := hR5.later (bel1 w5 (.cells #[.int .i64 r.2.1.k, .int .i64 r.2.1.n] 27))
      replace hM5 := hM5.later (bel1 w5 (.cells #[.int .i64 r.2.1.k, .int .i64 r.2.1.n] 27))
      replace hB5 := nstep hB5 (bel1 w5 (.cells #[.int .i64 r.2.1.k, .int .i64 r.2.1.n] 27))
      have hvl : w.heap.size + 4 < w5.heap.size := Nat.lt_of_lt_of_le (blk_lt hM1.box) hK5.size
      clear n0 n1 n2 m0 m1 m2 m3 hK5 hE5 hR1 hM1 hAF
      go_upto_region 9 with (fail)
      generalize (w5.alloc (.cells #[.int .i64 r.2.1.k, .int .i64 r.2.1.n] 27)) = V at *
      generalize w5.heap.size = vb at *
      have c7 := hM5.c7
      obtain ⟨a5, c5, rfl, -⟩ := id hM5.heap
      by_cases h0 : r.2.2 = 0
      · rw [if_neg (by omega)] at HPl
        have HQ := hid fun u0 u1 u2 v0 v1 v2 v3 => RuPost.fin (P := Fx T5 V) (r := ⟨r.1.heap, r.2.1, 0, r.1.sends⟩) hB5 hM5.cls hM5.heap (fun h => by have := h.2; omega) (fun h => by have := h.2; omega) hM5 HSt.out.symm t52 t53 u0 u1 u2 v0 v1 v2 v3
        rw [h0] at c7
        obtain ⟨-, -, -, -, -, -, -, a0, a1, a2, af, b0, b1, b2, b3, bf, -⟩ := id hR5
        have hSl : ∀ w', Below V.heap.size V w' → w'.cell? ⟨w.heap.size + 4, 0, none⟩ = some (.slice ac X.classes.length cc) ∧ w'.cell? ⟨w.heap.size + 4, 1, none⟩ = some (.slice a5 r.1.heap.length c5) ∧ w'.cell? ⟨w.heap.size + 4, 2, none⟩ = some (.int .i64 X.epoch) ∧ w'.cell? ⟨vb, 0, none⟩ = some (.int .i64 r.2.1.k) ∧ w'.cell? ⟨vb, 1, none⟩ = some (.int .i64 r.2.1.n) ∧ w'.cell? ⟨w.heap.size + 4, 4, none⟩ = some (.int .i64 r.1.sends) := fun w' hb => by
          have h := hM5.later hb
          exact ⟨h.c0, h.c1, h.c2, cell_later hb y0, cell_later hb y1, h.c4⟩
        have hS0 := hSl _ (Below.refl _ V).drew
        clear h0
        go_upto_region 11 with (fail)
        refine wp_region_late (S := fun _ => True) [] (by kernel_rfl) ?_
        refine wpAnyM_take (i := 10) (oi := ⟨some 79, .move (.tmp 9), 37, "ref.go:177", #[⟨12, .gcOnly .lateStores⟩], none⟩) (v := .pointer (some ⟨w.heap.size + 4, 0, none⟩)) (by kernel_rfl) (by kernel_rfl) rfl (by kernel_rfl) (by kernel_rfl) (by kernel_rfl) (fun _ _ _ h => h) (Or.inl ⟨by rfl, ?_⟩) (trivial) ?_
        · intro w hSw
          obtain _h := hSw
          go_simp
        try simp only [Act.put, List.setIfInBounds_toArray, List.set_cons_zero, List.set_cons_succ]
        refine wpAnyM_true (S := fun w' => w'.cell? ⟨w.heap.size + 4, 0, none⟩ = some (.slice ac X.classes.length cc) ∧ w'.cell? ⟨w.heap.size + 4, 1, none⟩ = some (.slice a5 r.1.heap.length c5) ∧ w'.cell? ⟨w.heap.size + 4, 2, none⟩ = some (.int .i64 X.epoch) ∧ w'.cell? ⟨vb, 0, none⟩ = some (.int .i64 r.2.1.k) ∧ w'.cell? ⟨vb, 1, none⟩ = some (.int .i64 r.2.1.n) ∧ w'.cell? ⟨w.heap.size + 4, 4, none⟩ = some (.int .i64 r.1.sends)) (late := [12, 13]) _ _ _ _ ?_
        refine wpAnyM_take (i := 0) (oi := ⟨some 69, .move (.tmp 9), 37, "ref.go:177", #[], none⟩) (v := .pointer (some ⟨w.heap.size + 4, 0, none⟩)) (by kernel_rfl) (by kernel_rfl) rfl (by kernel_rfl) (by kernel_rfl) (by kernel_rfl) (fun _ _ _ h => h) (Or.inl ⟨by rfl, ?_⟩) (hS0) ?_
        · intro w hSw
          obtain ⟨q0, q1, q2, q3, q4, q5⟩ := hSw
          go_simp
        try simp only [Act.put, List.setIfInBounds_toArray, List.set_cons_zero, List.set_cons_succ]
        refine wpAnyM_take (i := 1) (oi := ⟨some 70, .nilCheck (.tmp 69), 0, "ref.go:177", #[⟨0,.data⟩], none⟩) (v := .pointer (some ⟨w.heap.size + 4, 0, none⟩)) (by kernel_rfl) (by kernel_rfl) rfl (by kernel_rfl) (by kernel_rfl) (by kernel_rfl) (fun _ _ _ h => h) (Or.inl ⟨by rfl, ?_⟩) (hS0) ?_
        · intro w hSw
          obtain ⟨q0, q1, q2, q3, q4, q5⟩ := hSw
          go_simp
        try simp only [Act.put, List.setIfInBounds_toArray, List.set_cons_zero, List.set_cons_succ]
        refine wpAnyM_take (i := 2) (oi := ⟨some 71, .fieldAddr 68 (.tmp 70) 0, 0, "ref.go:177", #[⟨1,.data⟩], none⟩) (v := .pointer (some ⟨w.heap.size + 4, 0, none⟩)) (by kernel_rfl) (by kernel_rfl) rfl (by kernel_rfl) (by kernel_rfl) (by kernel_rfl) (fun _ _ _ h => h) (Or.inl ⟨by rfl, ?_⟩) (hS0) ?_
        · intro w hSw
          obtain ⟨q0, q1, q2, q3, q4, q5⟩ := hSw
          go_simp
        try simp only [Act.put, List.setIfInBounds_toArray, List.set_cons_zero, List.set_cons_succ]
        refine wpAnyM_take (i := 3) (oi := ⟨some 72, .load 25 (.tmp 71), 25, "ref.go:177", #[⟨2,.data⟩], none⟩) (v := WV (.slice ac X.classes.length cc) (.slice a5 r.1.heap.length c5) X.epoch) (by kernel_rfl) (by kernel_rfl) rfl (by kernel_rfl) (by kernel_rfl) (by kernel_rfl) (fun _ _ _ h => h) (Or.inl ⟨by rfl, ?_⟩) (hS0) ?_
        · intro w hSw
          obtain ⟨q0, q1, q2, q3, q4, q5⟩ := hSw
          go_simp
        try simp only [Act.put, List.setIfInBounds_toArray, List.set_cons_zero, List.set_cons_succ]
        refine wpAnyM_take (i := 4) (oi := ⟨some 73, .load 27 (.tmp 13), 27, "ref.go:177", #[⟨11, .gcOnly .lateStores⟩], none⟩) (v := VV r.2.1) (by kernel_rfl) (by kernel_rfl) rfl (by kernel_rfl) (by kernel_rfl) (by kernel_rfl) (fun _ _ _ h => h) (Or.inl ⟨by rfl, ?_⟩) (hS0) ?_
        · intro w hSw
          obtain ⟨q0, q1, q2, q3, q4, q5⟩ := hSw
          go_simp
        try simp only [Act.put, List.setIfInBounds_toArray, List.set_cons_zero, List.set_cons_succ]
        refine wpAnyM_take (i := 5) (oi := ⟨some 74, .move (.tmp 9), 37, "ref.go:177", #[⟨11, .gcOnly .lateStores⟩], none⟩) (v := .pointer (some ⟨w.heap.size + 4, 0, none⟩)) (by kernel_rfl) (by kernel_rfl) rfl (by kernel_rfl) (by kernel_rfl) (by kernel_rfl) (fun _ _ _ h => h) (Or.inl ⟨by rfl, ?_⟩) (hS0) ?_
        · intro w hSw
          obtain ⟨q0, q1, q2, q3, q4, q5⟩ := hSw
          go_simp
        try simp only [Act.put, List.setIfInBounds_toArray, List.set_cons_zero, List.set_cons_succ]
        refine wpAnyM_take (i := 6) (oi := ⟨some 75, .nilCheck (.tmp 74), 0, "ref.go:177", #[⟨5,.data⟩,⟨11, .gcOnly .lateStores⟩], none⟩) (v := .pointer (some ⟨w.heap.size + 4, 0, none⟩)) (by kernel_rfl) (by kernel_rfl) rfl (by kernel_rfl) (by kernel_rfl) (by kernel_rfl) (fun _ _ _ h => h) (Or.inl ⟨by rfl, ?_⟩) (hS0) ?_
        · intro w hSw
          obtain ⟨q0, q1, q2, q3, q4, q5⟩ := hSw
          go_simp
        try simp only [Act.put, List.setIfInBounds_toArray, List.set_cons_zero, List.set_cons_succ]
        refine wpAnyM_take (i := 7) (oi := ⟨some 76, .fieldAddr 68 (.tmp 75) 2, 0, "ref.go:177", #[⟨6,.data⟩,⟨11, .gcOnly .lateStores⟩], none⟩) (v := .pointer (some ⟨w.heap.size + 4, 4, none⟩)) (by kernel_rfl) (by kernel_rfl) rfl (by kernel_rfl) (by kernel_rfl) (by kernel_rfl) (fun _ _ _ h => h) (Or.inl ⟨by rfl, ?_⟩) (hS0) ?_
        · intro w hSw
          obtain ⟨q0, q1, q2, q3, q4, q5⟩ := hSw
          go_simp
        try simp only [Act.put, List.setIfInBounds_toArray, List.set_cons_zero, List.set_cons_succ]
        refine wpAnyM_take (i := 8) (oi := ⟨some 77, .load 3 (.tmp 76), 3, "ref.go:177", #[⟨7,.data⟩,⟨11, .gcOnly .lateStores⟩], none⟩) (v := .int .i64 r.1.sends) (by kernel_rfl) (by kernel_rfl) rfl (by kernel_rfl) (by kernel_rfl) (by kernel_rfl) (fun _ _ _ h => h) (Or.inl ⟨by rfl, ?_⟩) (hS0) ?_
        · intro w hSw
          obtain ⟨q0, q1, q2, q3, q4, q5⟩ := hSw
          go_simp
        try simp only [Act.put, List.setIfInBounds_toArray, List.set_cons_zero, List.set_cons_succ]
        refine wpAnyM_take (i := 9) (oi := ⟨some 78, .build 34 #[(0, .tmp 73), (2, .tmp 77)], 34, "ref.go:177", #[⟨4,.data⟩,⟨8,.data⟩,⟨11, .gcOnly .lateStores⟩], none⟩) (v := .agg #[.int .i64 r.2.1.k, .int .i64 r.2.1.n, .int .i64 0, .int .i64 r.1.sends]) (by kernel_rfl) (by kernel_rfl) rfl (by kernel_rfl) (by kernel_rfl) (by kernel_rfl) (fun _ _ _ h => h) (Or.inl ⟨by rfl, ?_⟩) (hS0) ?_
        · intro w hSw
          obtain ⟨q0, q1, q2, q3, q4, q5⟩ := hSw
          go_simp
        try simp only [Act.put, List.setIfInBounds_toArray, List.set_cons_zero, List.set_cons_succ]
        obtain ⟨z0, z1, z2, z3, z4, z5⟩ := hSl _ (Below.refl _ V).drew
        refine wpAnyM_ready (rs := [11]) (by kernel_rfl) (by simp) ?_
        intro i hi
        simp only [List.mem_cons, List.not_mem_nil, or_false] at hi
        subst hi
        refine stepM (o := ⟨none, .store 25 (.tmp 6) (.tmp 72), 0, "ref.go:177", #[⟨3,.data⟩,⟨0,.phase⟩,⟨1,.phase⟩,⟨2,.phase⟩,⟨3,.phase⟩,⟨4, .textOnly .lateStores⟩,⟨5, .textOnly .lateStores⟩,⟨6, .textOnly .lateStores⟩,⟨7, .textOnly .lateStores⟩,⟨8, .textOnly .lateStores⟩,⟨9, .textOnly .lateStores⟩,⟨10, .textOnly .lateStores⟩], none⟩) rfl (fun K' hK => ?_)
        go_simp
        refine hK _ _ (fun _ => ?_) ?_
        · exact ⟨far3 z0 (by omega), far3 z1 (by omega), far3 z2 (by omega), far3 z3 (by omega), far3 z4 (by omega), far3 z5 (by omega)⟩
        clear hK K'
        try simp only [Act.put, List.setIfInBounds_toArray, List.set_cons_zero, List.set_cons_succ]
        refine wpAnyM_ready (rs := [12]) (by kernel_rfl) (by simp) ?_
        intro i hi
        simp only [List.mem_cons, List.not_mem_nil, or_false] at hi
        subst hi
        refine stepM (o := ⟨none, .store 34 (.tmp 7) (.tmp 78), 0, "ref.go:177", #[⟨9,.data⟩,⟨11,.chain⟩,⟨0,.phase⟩,⟨1,.phase⟩,⟨2,.phase⟩,⟨3,.phase⟩,⟨4,.phase⟩,⟨5,.phase⟩,⟨6,.phase⟩,⟨7,.phase⟩,⟨8,.phase⟩,⟨9,.phase⟩,⟨10, .textOnly .lateStores⟩,⟨11,.phase⟩], none⟩) rfl (fun K' hK => ?_)
        go_simp
        refine hK _ _ (fun h => absurd h (by decide)) ?_
        clear hK K'
        try simp only [Act.put, List.setIfInBounds_toArray, List.set_cons_zero, List.set_cons_succ]
        refine wpAnyM_only (S' := fun _ => True) (late' := []) (by kernel_rfl) ?_
        refine wpAnyM_take (i := 13) (oi := ⟨some 8, .assign (.tmp 79), 37, "ref.go:177", #[⟨10,.data⟩,⟨12,.chain⟩,⟨0,.phase⟩,⟨1,.phase⟩,⟨2,.phase⟩,⟨3,.phase⟩,⟨4,.phase⟩,⟨5,.phase⟩,⟨6,.phase⟩,⟨7,.phase⟩,⟨8,.phase⟩,⟨9,.phase⟩,⟨10,.phase⟩,⟨11,.phase⟩,⟨12,.phase⟩], none⟩) (v := .pointer (some ⟨w.heap.size + 4, 0, none⟩)) (by kernel_rfl) (by kernel_rfl) rfl (by kernel_rfl) (by kernel_rfl) (by kernel_rfl) (fun _ _ _ h => h) (Or.inl ⟨by rfl, ?_⟩) (trivial) ?_
        · intro w hSw
          obtain _h := hSw
          go_simp
        try simp only [Act.put, List.setIfInBounds_toArray, List.set_cons_zero, List.set_cons_succ]
        refine wpAnyM_done (by kernel_rfl) ?_ _
        try simp only [Act.put, List.setIfInBounds_toArray, List.set_cons_zero, List.set_cons_succ]

        go_wp2
        rw [HPl.out]
        refine bodyPost_ret (v := .tuple #[WV (.slice ac X.classes.length cc) (.slice a5 r.1.heap.length c5) X.epoch, RnV ⟨r.1.heap, r.2.1, 0, r.1.sends⟩, .pointer (some ⟨w.heap.size + 4, 0, none⟩)]) ?_ rfl (HQ.out _ _ _ _ _ _ _).drew
        simp [results, Try.results9, go_sem, a0, a1, a2, b0, b1, b2, b3]
      · rw [if_pos h0] at HPl
        have HQ := hid fun u0 u1 u2 v0 v1 v2 v3 => RuPost.fin (P := fun b => b < w.heap.size) (r := ⟨X.heap, nilV, r.2.2, r.1.sends⟩) hB5 hCw hHw (by omega) (by omega) hM5 HSt.out.symm t52 t53 u0 u1 u2 v0 v1 v2 v3
        have h0' : (r.2.2 == 0) = false := by simpa using h0
        obtain ⟨-, -, -, -, -, -, -, a0, a1, a2, af, b0, b1, b2, b3, bf, -⟩ := id hR5
        have hSl : ∀ w', Below V.heap.size V w' → w'.cell? ⟨w.heap.size, 0, none⟩ = some (.slice ac X.classes.length cc) ∧ w'.cell? ⟨w.heap.size, 1, none⟩ = some (.slice ah X.heap.length ch) ∧ w'.cell? ⟨w.heap.size, 2, none⟩ = some (.int .i64 X.epoch) ∧ w'.cell? ⟨w.heap.size + 4, 7, none⟩ = some (.int .i64 r.2.2) ∧ w'.cell? ⟨w.heap.size + 4, 4, none⟩ = some (.int .i64 r.1.sends) := fun w' hb => by
          have h := hM5.later hb
          have h' := hR5.later hb
          exact ⟨h'.w0, h'.w1, h'.w2, h.c7, h.c4⟩
        have hS0 := hSl _ (Below.refl _ V).drew
        clear h0
        go_upto_region 10 with (fail)
        refine wp_region_late (S := fun _ => True) [] (by kernel_rfl) ?_
        refine wpAnyM_take (i := 10) (oi := ⟨some 68, .move (.tmp 9), 37, "ref.go:175", #[⟨12, .gcOnly .lateStores⟩], none⟩) (v := .pointer (some ⟨w.heap.size + 4, 0, none⟩)) (by kernel_rfl) (by kernel_rfl) rfl (by kernel_rfl) (by kernel_rfl) (by kernel_rfl) (fun _ _ _ h => h) (Or.inl ⟨by rfl, ?_⟩) (trivial) ?_
        · intro w hSw
          obtain _h := hSw
          go_simp
        try simp only [Act.put, List.setIfInBounds_toArray, List.set_cons_zero, List.set_cons_succ]
        refine wpAnyM_true (S := fun w' => w'.cell? ⟨w.heap.size, 0, none⟩ = some (.slice ac X.classes.length cc) ∧ w'.cell? ⟨w.heap.size, 1, none⟩ = some (.slice ah X.heap.length ch) ∧ w'.cell? ⟨w.heap.size, 2, none⟩ = some (.int .i64 X.epoch) ∧ w'.cell? ⟨w.heap.size + 4, 7, none⟩ = some (.int .i64 r.2.2) ∧ w'.cell? ⟨w.heap.size + 4, 4, none⟩ = some (.int .i64 r.1.sends)) (late := [12, 13]) _ _ _ _ ?_
        refine wpAnyM_take (i := 0) (oi := ⟨some 58, .load 25 (.tmp 3), 25, "ref.go:175", #[], none⟩) (v := WV (.slice ac X.classes.length cc) (.slice ah X.heap.length ch) X.epoch) (by kernel_rfl) (by kernel_rfl) rfl (by kernel_rfl) (by kernel_rfl) (by kernel_rfl) (fun _ _ _ h => h) (Or.inl ⟨by rfl, ?_⟩) (hS0) ?_
        · intro w hSw
          obtain ⟨q0, q1, q2, q3, q4⟩ := hSw
          go_simp
        try simp only [Act.put, List.setIfInBounds_toArray, List.set_cons_zero, List.set_cons_succ]
        refine wpAnyM_take (i := 1) (oi := ⟨some 59, .move (.tmp 9), 37, "ref.go:175", #[⟨11, .gcOnly .lateStores⟩], none⟩) (v := .pointer (some ⟨w.heap.size + 4, 0, none⟩)) (by kernel_rfl) (by kernel_rfl) rfl (by kernel_rfl) (by kernel_rfl) (by kernel_rfl) (fun _ _ _ h => h) (Or.inl ⟨by rfl, ?_⟩) (hS0) ?_
        · intro w hSw
          obtain ⟨q0, q1, q2, q3, q4⟩ := hSw
          go_simp
        try simp only [Act.put, List.setIfInBounds_toArray, List.set_cons_zero, List.set_cons_succ]
        refine wpAnyM_take (i := 2) (oi := ⟨some 60, .nilCheck (.tmp 59), 0, "ref.go:175", #[⟨1,.data⟩,⟨11, .gcOnly .lateStores⟩], none⟩) (v := .pointer (some ⟨w.heap.size + 4, 0, none⟩)) (by kernel_rfl) (by kernel_rfl) rfl (by kernel_rfl) (by kernel_rfl) (by kernel_rfl) (fun _ _ _ h => h) (Or.inl ⟨by rfl, ?_⟩) (hS0) ?_
        · intro w hSw
          obtain ⟨q0, q1, q2, q3, q4⟩ := hSw
          go_simp
        try simp only [Act.put, List.setIfInBounds_toArray, List.set_cons_zero, List.set_cons_succ]
        refine wpAnyM_take (i := 3) (oi := ⟨some 61, .fieldAddr 68 (.tmp 60) 5, 0, "ref.go:175", #[⟨2,.data⟩,⟨11, .gcOnly .lateStores⟩], none⟩) (v := .pointer (some ⟨w.heap.size + 4, 7, none⟩)) (by kernel_rfl) (by kernel_rfl) rfl (by kernel_rfl) (by kernel_rfl) (by kernel_rfl) (fun _ _ _ h => h) (Or.inl ⟨by rfl, ?_⟩) (hS0) ?_
        · intro w hSw
          obtain ⟨q0, q1, q2, q3, q4⟩ := hSw
          go_simp
        try simp only [Act.put, List.setIfInBounds_toArray, List.set_cons_zero, List.set_cons_succ]
        refine wpAnyM_take (i := 4) (oi := ⟨some 62, .load 31 (.tmp 61), 31, "ref.go:175", #[⟨3,.data⟩,⟨11, .gcOnly .lateStores⟩], none⟩) (v := .int .i64 r.2.2) (by kernel_rfl) (by kernel_rfl) rfl (by kernel_rfl) (by kernel_rfl) (by kernel_rfl) (fun _ _ _ h => h) (Or.inl ⟨by rfl, ?_⟩) (hS0) ?_
        · intro w hSw
          obtain ⟨q0, q1, q2, q3, q4⟩ := hSw
          go_simp
        try simp only [Act.put, List.setIfInBounds_toArray, List.set_cons_zero, List.set_cons_succ]
        refine wpAnyM_take (i := 5) (oi := ⟨some 63, .move (.tmp 9), 37, "ref.go:175", #[⟨11, .gcOnly .lateStores⟩], none⟩) (v := .pointer (some ⟨w.heap.size + 4, 0, none⟩)) (by kernel_rfl) (by kernel_rfl) rfl (by kernel_rfl) (by kernel_rfl) (by kernel_rfl) (fun _ _ _ h => h) (Or.inl ⟨by rfl, ?_⟩) (hS0) ?_
        · intro w hSw
          obtain ⟨q0, q1, q2, q3, q4⟩ := hSw
          go_simp
        try simp only [Act.put, List.setIfInBounds_toArray, List.set_cons_zero, List.set_cons_succ]
        refine wpAnyM_take (i := 6) (oi := ⟨some 64, .nilCheck (.tmp 63), 0, "ref.go:175", #[⟨5,.data⟩,⟨11, .gcOnly .lateStores⟩], none⟩) (v := .pointer (some ⟨w.heap.size + 4, 0, none⟩)) (by kernel_rfl) (by kernel_rfl) rfl (by kernel_rfl) (by kernel_rfl) (by kernel_rfl) (fun _ _ _ h => h) (Or.inl ⟨by rfl, ?_⟩) (hS0) ?_
        · intro w hSw
          obtain ⟨q0, q1, q2, q3, q4⟩ := hSw
          go_simp
        try simp only [Act.put, List.setIfInBounds_toArray, List.set_cons_zero, List.set_cons_succ]
        refine wpAnyM_take (i := 7) (oi := ⟨some 65, .fieldAddr 68 (.tmp 64) 2, 0, "ref.go:175", #[⟨6,.data⟩,⟨11, .gcOnly .lateStores⟩], none⟩) (v := .pointer (some ⟨w.heap.size + 4, 4, none⟩)) (by kernel_rfl) (by kernel_rfl) rfl (by kernel_rfl) (by kernel_rfl) (by kernel_rfl) (fun _ _ _ h => h) (Or.inl ⟨by rfl, ?_⟩) (hS0) ?_
        · intro w hSw
          obtain ⟨q0, q1, q2, q3, q4⟩ := hSw
          go_simp
        try simp only [Act.put, List.setIfInBounds_toArray, List.set_cons_zero, List.set_cons_succ]
        refine wpAnyM_take (i := 8) (oi := ⟨some 66, .load 3 (.tmp 65), 3, "ref.go:175", #[⟨7,.data⟩,⟨11, .gcOnly .lateStores⟩], none⟩) (v := .int .i64 r.1.sends) (by kernel_rfl) (by kernel_rfl) rfl (by kernel_rfl) (by kernel_rfl) (by kernel_rfl) (fun _ _ _ h => h) (Or.inl ⟨by rfl, ?_⟩) (hS0) ?_
        · intro w hSw
          obtain ⟨q0, q1, q2, q3, q4⟩ := hSw
          go_simp
        try simp only [Act.put, List.setIfInBounds_toArray, List.set_cons_zero, List.set_cons_succ]
        refine wpAnyM_take (i := 9) (oi := ⟨some 67, .build 34 #[(1, .tmp 62), (2, .tmp 66)], 34, "ref.go:175", #[⟨4,.data⟩,⟨8,.data⟩,⟨11, .gcOnly .lateStores⟩], none⟩) (v := .agg #[.int .i64 0, .int .i64 0, .int .i64 r.2.2, .int .i64 r.1.sends]) (by kernel_rfl) (by kernel_rfl) rfl (by kernel_rfl) (by kernel_rfl) (by kernel_rfl) (fun _ _ _ h => h) (Or.inl ⟨by rfl, ?_⟩) (hS0) ?_
        · intro w hSw
          obtain ⟨q0, q1, q2, q3, q4⟩ := hSw
          go_simp
        try simp only [Act.put, List.setIfInBounds_toArray, List.set_cons_zero, List.set_cons_succ]
        obtain ⟨z0, z1, z2, z3, z4⟩ := hSl _ (Below.refl _ V).drew
        refine wpAnyM_ready (rs := [11]) (by kernel_rfl) (by simp) ?_
        intro i hi
        simp only [List.mem_cons, List.not_mem_nil, or_false] at hi
        subst hi
        refine stepM (o := ⟨none, .store 25 (.tmp 6) (.tmp 58), 0, "ref.go:175", #[⟨0,.data⟩,⟨0,.phase⟩,⟨1, .textOnly .lateStores⟩,⟨2, .textOnly .lateStores⟩,⟨3, .textOnly .lateStores⟩,⟨4, .textOnly .lateStores⟩,⟨5, .textOnly .lateStores⟩,⟨6, .textOnly .lateStores⟩,⟨7, .textOnly .lateStores⟩,⟨8, .textOnly .lateStores⟩,⟨9, .textOnly .lateStores⟩,⟨10, .textOnly .lateStores⟩], none⟩) rfl (fun K' hK => ?_)
        go_simp
        refine hK _ _ (fun _ => ?_) ?_
        · exact ⟨far3 z0 (by omega), far3 z1 (by omega), far3 z2 (by omega), far3 z3 (by omega), far3 z4 (by omega)⟩
        clear hK K'
        try simp only [Act.put, List.setIfInBounds_toArray, List.set_cons_zero, List.set_cons_succ]
        refine wpAnyM_ready (rs := [12]) (by kernel_rfl) (by simp) ?_
        intro i hi
        simp only [List.mem_cons, List.not_mem_nil, or_false] at hi
        subst hi
        refine stepM (o := ⟨none, .store 34 (.tmp 7) (.tmp 67), 0, "ref.go:175", #[⟨9,.data⟩,⟨11,.chain⟩,⟨0,.phase⟩,⟨1,.phase⟩,⟨2,.phase⟩,⟨3,.phase⟩,⟨4,.phase⟩,⟨5,.phase⟩,⟨6,.phase⟩,⟨7,.phase⟩,⟨8,.phase⟩,⟨9,.phase⟩,⟨10, .textOnly .lateStores⟩,⟨11,.phase⟩], none⟩) rfl (fun K' hK => ?_)
        go_simp
        refine hK _ _ (fun h => absurd h (by decide)) ?_
        clear hK K'
        try simp only [Act.put, List.setIfInBounds_toArray, List.set_cons_zero, List.set_cons_succ]
        refine wpAnyM_only (S' := fun _ => True) (late' := []) (by kernel_rfl) ?_
        refine wpAnyM_take (i := 13) (oi := ⟨some 8, .assign (.tmp 68), 37, "ref.go:175", #[⟨10,.data⟩,⟨12,.chain⟩,⟨0,.phase⟩,⟨1,.phase⟩,⟨2,.phase⟩,⟨3,.phase⟩,⟨4,.phase⟩,⟨5,.phase⟩,⟨6,.phase⟩,⟨7,.phase⟩,⟨8,.phase⟩,⟨9,.phase⟩,⟨10,.phase⟩,⟨11,.phase⟩,⟨12,.phase⟩], none⟩) (v := .pointer (some ⟨w.heap.size + 4, 0, none⟩)) (by kernel_rfl) (by kernel_rfl) rfl (by kernel_rfl) (by kernel_rfl) (by kernel_rfl) (fun _ _ _ h => h) (Or.inl ⟨by rfl, ?_⟩) (trivial) ?_
        · intro w hSw
          obtain _h := hSw
          go_simp
        try simp only [Act.put, List.setIfInBounds_toArray, List.set_cons_zero, List.set_cons_succ]
        refine wpAnyM_done (by kernel_rfl) ?_ _
        try simp only [Act.put, List.setIfInBounds_toArray, List.set_cons_zero, List.set_cons_succ]

        go_wp2
        rw [HPl.out]
        refine bodyPost_ret (v := .tuple #[WV (.slice ac X.classes.length cc) (.slice ah X.heap.length ch) X.epoch, RnV ⟨X.heap, nilV, r.2.2, r.1.sends⟩, .pointer (some ⟨w.heap.size + 4, 0, none⟩)]) ?_ rfl (HQ.out _ _ _ _ _ _ _).drew
        simp [results, Try.results9, go_sem, a0, a1, a2, b0, b1, b2, b3]
    · have hj' : fj < 0 := by omega
      have HRn := hid (HFn.out hj)
      have HPl' : Hid (plainE X s name args fuel = ⟨X.heap, nilV, 10, 0⟩) := by show _ = _; rw [HPl.out, HRn.out]; simp
      have HSt' : Hid (sitesE X s name args fuel = []) := by show _ = _; rw [HSt.out, HRn.out]
      have HQ := hid fun u0 u1 u2 v0 v1 v2 v3 => RuPost.fin (P := fun b => b < w.heap.size) (r := ⟨X.heap, nilV, 10, 0⟩) hB1 ((bound_classes hC).later goodC hB1) ((bound_heap hH).later goodO hB1) (by omega) (by omega) hM1 rfl (t0 2 (by omega)) (t0 3 (by omega)) u0 u1 u2 v0 v1 v2 v3
      obtain ⟨n0, n1, n2, -, -, -, -, a0, a1, a2, af, b0, b1, b2, b3, bf, -⟩ := id hR1
      clear hfm HFn HPl HSt hj
      go_wp2
      rw [HPl'.out, HSt'.out]
      refine bodyPost_ret (v := .tuple #[WV (.slice ac X.classes.length cc) (.slice ah X.heap.length ch) X.epoch, RnV ⟨X.heap, nilV, 10, 0⟩, .pointer (some ⟨w.heap.size + 4, 0, none⟩)]) ?_ rfl (HQ.out _ _ _ _ _ _ _)
      simp [results, Try.results9, go_sem, a0, a1, a2, b0, b1, b2, b3]
  · have hw' : (wrongCallE X s name args fuel == 0) = false := by simpa using hw
    have hw2 : (wrongCallE X s name args fuel != 0) = true := by simpa using hw
    have HPl : Hid (plainE X s name args fuel = ⟨X.heap, nilV, wrongCallE X s name args fuel, 0⟩) := by show _ = _; unfold plainE; rw [if_pos hw]
    have HSt : Hid (sitesE X s name args fuel = []) := by show _ = _; unfold sitesE; rw [if_pos hw]
    generalize wrongCallE X s name args fuel = we at *
    have HQ := hid fun u0 u1 u2 v0 v1 v2 v3 => RuPost.fin (P := fun b => b < w.heap.size) (r := ⟨X.heap, nilV, we, 0⟩) hB1 ((bound_classes hC).later goodC hB1) ((bound_heap hH).later goodO hB1) (by omega) (by omega) hM1 rfl (t0 2 (by omega)) (t0 3 (by omega)) u0 u1 u2 v0 v1 v2 v3
    obtain ⟨n0, n1, n2, -, -, -, -, a0, a1, a2, af, b0, b1, b2, b3, bf, -⟩ := id hR1
    clear hw
    go_wp2
    rw [HPl.out, HSt.out]
    refine bodyPost_ret (v := .tuple #[WV (.slice ac X.classes.length cc) (.slice ah X.heap.length ch) X.epoch, RnV ⟨X.heap, nilV, we, 0⟩, .pointer (some ⟨w.heap.size + 4, 0, none⟩)]) ?_ rfl (HQ.out _ _ _ _ _ _ _)
    simp [results, Try.results9, go_sem, a0, a1, a2, b0, b1, b2, b3]
end Go.Proofs.Ytfdonemehiamjaa
