/- More fuel is no less. -/
import Derived.Test.YtfdonemehiamjaaZv
namespace Go.Proofs.Ytfdonemehiamjaa
open Go.ChangeShapes Go.WideShapes Go.ChangeAt Go.RowKit
set_option linter.unusedSimpArgs false
set_option linter.unusedVariables false
set_option maxRecDepth 8000

theorem fuel_all {X : QW} {s : QV} {name : ByteArray} {args : List QV} {fuel more : Int} (k1 : ¬ more < 0) (k2 : ¬ 400 < more) (k3 : ¬ fuel < 0) (k4 : ¬ 400 - more < fuel) (h : (plainE X s name args fuel).err = 0) :
    1 ≤ (plainE X s name args fuel).sends ∧ (plainE X s name args fuel).sends ≤ fuel ∧ plainE X s name args (fuel + more) = plainE X s name args fuel ∧ plainE X s name args (plainE X s name args fuel).sends = plainE X s name args fuel ∧ (plainE X s name args ((plainE X s name args fuel).sends - 1)).err = 13 := by
  have h1 := plain_fuel (F := fuel + more) h (by omega) (by omega)
  have h2 := plain_fuel (F := (plainE X s name args fuel).sends) h (by omega) (by omega)
  have h3 := plain_fuel (F := (plainE X s name args fuel).sends - 1) h (by omega) (by omega)
  exact ⟨h1.1, h1.2.1, h1.2.2.1 (by omega), h2.2.2.1 (by omega), h3.2.2.2 (by omega)⟩
/-- Two boxes are not frozen. -/
def Fz2 (B : Nat) (w : World) : Prop := (∀ o, w.frozen? ⟨B, o, none⟩ = false) ∧ ∀ o, w.frozen? ⟨B + 1, o, none⟩ = false
theorem Fz2.later {B : Nat} {w w' : World} (h : Fz2 B w) (hB : B + 2 ≤ w.heap.size) (hb : Below w.heap.size w w') : Fz2 B w' := ⟨fun o => (hb.frozen (p := ⟨B, o, none⟩) (by simp; omega)).trans (h.1 o), fun o => (hb.frozen (p := ⟨B + 1, o, none⟩) (by simp; omega)).trans (h.2 o)⟩
theorem fz2_new (w : World) (c1 c2 : Array Value) (t1 t2 : TypeId) : Fz2 w.heap.size ((w.alloc (.cells c1 t1)).alloc (.cells c2 t2)) :=
  ⟨fun o => ((bel1 _ _).frozen (p := ⟨w.heap.size, o, none⟩) (by simp)).trans (row_free (cur := c1) (t := t1) (blk_new _ _ _ rfl) o), row_free (cur := c2) (t := t2) (blk_new _ _ _ (by simp))⟩
theorem Fz2.set {B : Nat} {w : World} (h : Fz2 B w) (a : Addr) (v : Value) : Fz2 B (w.setCell a v) := ⟨fun o => by simpa using h.1 o, fun o => by simpa using h.2 o⟩
/-- The boxes are written anew. -/
theorem AlB.set {B : Nat} {cv hv : Value} {ep k n er sn : Int} {w : World} (h : AlB B cv hv ep k n er sn w) (cv' hv' : Value) (ep' k' n' er' sn' : Int) : AlB B cv' hv' ep' k' n' er' sn' (((((((w.setCell ⟨B, 0, none⟩ cv').setCell ⟨B, 1, none⟩ hv').setCell ⟨B, 2, none⟩ (.int .i64 ep')).setCell ⟨B + 1, 0, none⟩ (.int .i64 k')).setCell ⟨B + 1, 1, none⟩ (.int .i64 n')).setCell ⟨B + 1, 2, none⟩ (.int .i64 er')).setCell ⟨B + 1, 3, none⟩ (.int .i64 sn')) := by
  obtain ⟨a0, a1, a2, b0, b1, b2, b3⟩ := h
  constructor <;> simp [World.cell?_setCell_same', World.cell?_setCell_other, a0, a1, a2, b0, b1, b2, b3]
theorem AlB.set2 {B : Nat} {cv hv : Value} {ep k n er sn : Int} {w : World} (h : AlB B cv hv ep k n er sn w) (k' n' er' sn' : Int) : AlB B cv hv ep k' n' er' sn' ((((w.setCell ⟨B + 1, 0, none⟩ (.int .i64 k')).setCell ⟨B + 1, 1, none⟩ (.int .i64 n')).setCell ⟨B + 1, 2, none⟩ (.int .i64 er')).setCell ⟨B + 1, 3, none⟩ (.int .i64 sn')) := by
  obtain ⟨a0, a1, a2, b0, b1, b2, b3⟩ := h
  constructor <;> simp [World.cell?_setCell_same', World.cell?_setCell_other, a0, a1, a2, b0, b1, b2, b3]
theorem bel_set7 {w U : World} {B : Nat} {N : Nat} (hb : Below N w U) (hB : N ≤ B) (u0 u1 u2 v0 v1 v2 v3 : Value) : Below N w (((((((U.setCell ⟨B, 0, none⟩ u0).setCell ⟨B, 1, none⟩ u1).setCell ⟨B, 2, none⟩ u2).setCell ⟨B + 1, 0, none⟩ v0).setCell ⟨B + 1, 1, none⟩ v1).setCell ⟨B + 1, 2, none⟩ v2).setCell ⟨B + 1, 3, none⟩ v3) :=
  ((((((hb.setCell (by simp; omega) _).setCell (by simp; omega) _).setCell (by simp; omega) _).setCell (by simp; omega) _).setCell (by simp; omega) _).setCell (by simp; omega) _).setCell (by simp; omega) _
theorem bel_set4 {w U : World} {B : Nat} {N : Nat} (hb : Below N w U) (hB : N ≤ B) (v0 v1 v2 v3 : Value) : Below N w ((((U.setCell ⟨B + 1, 0, none⟩ v0).setCell ⟨B + 1, 1, none⟩ v1).setCell ⟨B + 1, 2, none⟩ v2).setCell ⟨B + 1, 3, none⟩ v3) :=
  (((hb.setCell (by simp; omega) _).setCell (by simp; omega) _).setCell (by simp; omega) _).setCell (by simp; omega) _
theorem keep_set7 {U : World} {B : Nat} {P : Nat → Prop} (h2 : ¬ P B) (h3 : ¬ P (B + 1)) (u0 u1 u2 v0 v1 v2 v3 : Value) : Keeps P U (((((((U.setCell ⟨B, 0, none⟩ u0).setCell ⟨B, 1, none⟩ u1).setCell ⟨B, 2, none⟩ u2).setCell ⟨B + 1, 0, none⟩ v0).setCell ⟨B + 1, 1, none⟩ v1).setCell ⟨B + 1, 2, none⟩ v2).setCell ⟨B + 1, 3, none⟩ v3) :=
  keep_set (keep_set (keep_set (keep_set (keep_set (keep_set (keep_set (Keeps.refl _ _) h2 _) h2 _) h2 _) h3 _) h3 _) h3 _) h3 _

set_option maxHeartbeats 4000000 in
theorem runFuel_any {P Q : Nat → Prop} (X : QW) (s : QV) (name : ByteArray) (args : List QV) (fuel more : Int) (cv hv av : Value) (w : World) (hC : IsClasses P w cv X.classes) (hH : IsHeap P w hv X.heap) (hA : IsVals Q w av args) (hn : name.size ≤ 140737488351232) : Calls Try.prog 4 #[WV cv hv X.epoch, ClV s name av, .int .i64 fuel, .int .i64 more] w fun e w' => e = .returned (.bool true) ∧ Below w.heap.size w w' := by
  have hN := pn_new w cv hv X.epoch s name av
  have hB0 := bel2 w (.cells #[cv, hv, .int .i64 X.epoch] 25) (.cells #[.int .i64 s.k, .int .i64 s.n, .string name, av] 30)
  obtain ⟨ac, cc, rfl, -⟩ := id hC
  obtain ⟨ah, ch, rfl, -⟩ := id hH
  obtain ⟨aa, ca, rfl, -⟩ := id hA
  go_enter Try.func4, Try.ntmps4
  go_wp2_with fail
  generalize ((w.alloc (.cells #[.slice ac X.classes.length cc, .slice ah X.heap.length ch, .int .i64 X.epoch] 25)).alloc (.cells #[.int .i64 s.k, .int .i64 s.n, .string name, .slice aa args.length ca] 30)) = W at *
  refine (alive_any _).mono ?_
  rintro e w1 ⟨rfl, hb1⟩
  replace hN := hN.later hb1
  replace hB0 := nstep hB0 hb1
  clear hb1
  obtain ⟨n0, n1, n2, m0, m1, m2, m3⟩ := hN.al
  go_wp2_with fail
  refine (rright_any X _ _ _ (hC.later goodC hB0) (hH.later goodO hB0)).mono ?_
  rintro e w2 ⟨rfl, hb2⟩
  clear n0 n1 n2 m0 m1 m2 m3
  replace hN := hN.later hb2
  replace hB0 := nstep hB0 hb2
  clear hb2
  obtain ⟨n0, n1, n2, m0, m1, m2, m3⟩ := hN.al
  by_cases hX' : rightE X ≠ 0
  · have hx : (rightE X != 0) = true := by simpa using hX'
    go_wp2
    go_ret
    exact ⟨rfl, hB0⟩
  have hX : rightE X = 0 := Decidable.of_not_not hX'
  clear hX'
  rw [hX]
  by_cases k1 : more < 0
  · go_wp2
    go_ret
    exact ⟨rfl, hB0⟩
  have k1' : decide (more < 0) = false := by simpa using k1
  by_cases k2 : 400 < more
  · go_wp2
    go_ret
    exact ⟨rfl, hB0⟩
  have k2' : decide (400 < more) = false := by simpa using k2
  by_cases k3 : fuel < 0
  · go_wp2
    go_ret
    exact ⟨rfl, hB0⟩
  have k3' : decide (fuel < 0) = false := by simpa using k3
  by_cases k4 : 400 - more < fuel
  · go_wp2
    go_ret
    exact ⟨rfl, hB0⟩
  have k4' : decide (400 - more < fuel) = false := by simpa using k4
  go_wp2_with fail
  clear k1' k2' k3' k4'
  refine (plain_any X hX s name args fuel _ _ _ _ (hC.later goodC hB0) (hH.later goodO hB0) (hA.later goodV hB0) hn).mono ?_
  rintro e w3 ⟨hb3, cv3, hv3, rfl, hC3, hH3⟩
  have HF := hid (fuel_all (X := X) (s := s) (name := name) (args := args) (fuel := fuel) (more := more) (by omega) (by omega) (by omega) (by omega))
  have hsum : fuel + more ≤ 400 := by omega
  have hfu0 : 0 ≤ fuel := by omega
  have hmo0 : 0 ≤ more := by omega
  clear k1 k2 k3 k4
  have hplain := fun (F : Int) (w' : World) hb => plain_any X hX s name args F _ _ _ w' (hC.later goodC hb) (hH.later goodO hb) (hA.later goodV hb) hn
  obtain ⟨r, hr⟩ : ∃ r, plainE X s name args fuel = r := ⟨_, rfl⟩
  rw [hr] at hH3 HF ⊢
  obtain ⟨x3, y3, rfl⟩ : ∃ a c, cv3 = .slice a X.classes.length c := hC3.get
  obtain ⟨x4, y4, rfl⟩ : ∃ a c, hv3 = .slice a r.heap.length c := hH3.get
  clear n0 n1 n2 m0 m1 m2 m3
  have hA4 := alW w3 (.slice x3 X.classes.length y3) (.slice x4 r.heap.length y4) X.epoch r.v.k r.v.n r.err r.sends
  have hb34 := bel2 w3 (.cells #[.slice x3 X.classes.length y3, .slice x4 r.heap.length y4, .int .i64 X.epoch] 25) (.cells #[.int .i64 r.v.k, .int .i64 r.v.n, .int .i64 r.err, .int .i64 r.sends] 34)
  have hb4 := nstep hb3 hb34
  replace hC3 := hC3.later goodC hb34
  replace hH3 := hH3.later goodO hb34
  replace hN := hN.later hb4
  have hBF := nstep hB0 hb4
  clear hb4 hb3 hb34 hB0 hC hH hA hr
  go_upto_region 6 with (fail)
  generalize ((w3.alloc (.cells #[.slice x3 X.classes.length y3, .slice x4 r.heap.length y4, .int .i64 X.epoch] 25)).alloc (.cells #[.int .i64 r.v.k, .int .i64 r.v.n, .int .i64 r.err, .int .i64 r.sends] 34)) = W4 at *
  generalize w3.heap.size = B at *
  obtain ⟨n0, n1, n2, m0, m1, m2, m3⟩ := hN.al
  obtain ⟨a0, a1, a2, b0, b1, b2, b3⟩ := id hA4
  by_cases he' : r.err ≠ 0
  · have hee : (r.err != 0) = true := by simpa using he'
    go_wp2
    go_ret
    exact ⟨rfl, hBF⟩
  have he : r.err = 0 := Decidable.of_not_not he'
  obtain ⟨f1, f2, f3, f4, f5⟩ := HF.out he
  have HF3 := hid f3
  have HF4 := hid f4
  have HF5 := hid f5
  have hee : (r.err != 0) = false := by simp [he]
  clear HF f3 f4 f5 he' he
  go_wp2_with fail
  refine (hplain (fuel + more) _ hBF).mono ?_
  rw [HF3.out]
  rintro e w5 ⟨hb5, cv5, hv5, rfl, hC5, hH5⟩
  obtain ⟨x5, y5, rfl⟩ : ∃ a c, cv5 = .slice a X.classes.length c := hC5.get
  obtain ⟨x6, y6, rfl⟩ : ∃ a c, hv5 = .slice a r.heap.length c := hH5.get
  clear n0 n1 n2 m0 m1 m2 m3 a0 a1 a2 b0 b1 b2 b3 hee
  replace hA4 := hA4.later hb5
  replace hN := hN.later hb5
  replace hC3 := hC3.later goodC hb5
  replace hH3 := hH3.later goodO hb5
  replace hBF := nstep hBF hb5
  clear hb5
  have hA6 := alW w5 (.slice x5 X.classes.length y5) (.slice x6 r.heap.length y6) X.epoch r.v.k r.v.n r.err r.sends
  have h56 := bel2 w5 (.cells #[.slice x5 X.classes.length y5, .slice x6 r.heap.length y6, .int .i64 X.epoch] 25) (.cells #[.int .i64 r.v.k, .int .i64 r.v.n, .int .i64 r.err, .int .i64 r.sends] 34)
  have hz6 := fz2_new w5 #[.slice x5 X.classes.length y5, .slice x6 r.heap.length y6, .int .i64 X.epoch] #[.int .i64 r.v.k, .int .i64 r.v.n, .int .i64 r.err, .int .i64 r.sends] 25 34
  go_upto_region 9 with (fail)
  have hs6 : ((w5.alloc (.cells #[.slice x5 X.classes.length y5, .slice x6 r.heap.length y6, .int .i64 X.epoch] 25)).alloc (.cells #[.int .i64 r.v.k, .int .i64 r.v.n, .int .i64 r.err, .int .i64 r.sends] 34)).heap.size = w5.heap.size + 2 := by simp
  generalize ((w5.alloc (.cells #[.slice x5 X.classes.length y5, .slice x6 r.heap.length y6, .int .i64 X.epoch] 25)).alloc (.cells #[.int .i64 r.v.k, .int .i64 r.v.n, .int .i64 r.err, .int .i64 r.sends] 34)) = W6 at *
  obtain ⟨n0, n1, n2, m0, m1, m2, m3⟩ := (hN.later h56).al
  obtain ⟨a0, a1, a2, b0, b1, b2, b3⟩ := hA4.later h56
  obtain ⟨c0, c1, c2, d0, d1, d2, d3⟩ := id hA6
  have hnr := fun w => neqR r r w
  simp only [eqR_self, Bool.not_true] at hnr
  go_wp2_with fail
  refine (same_any ⟨X.classes, r.heap, X.epoch⟩ _ _ _ _ _ (hC3.later goodC h56) (hH3.later goodO h56) (hC5.later goodC h56) (hH5.later goodO h56)).mono ?_
  rintro e w7 ⟨rfl, hb7⟩
  have h57 := nstep h56 hb7
  have hA7 := hA6.later hb7
  have hz7 := hz6.later (by omega) hb7
  have hs7 : w5.heap.size + 2 ≤ w7.heap.size := by have := hb7.size; omega
  clear n0 n1 n2 m0 m1 m2 m3 a0 a1 a2 b0 b1 b2 b3 c0 c1 c2 d0 d1 d2 d3 hA6 hb7 hC5 hH5 h56 hs6
  obtain ⟨n0, n1, n2, m0, m1, m2, m3⟩ := (hN.later h57).al
  obtain ⟨a0, a1, a2, b0, b1, b2, b3⟩ := hA4.later h57
  go_wp2_with fail
  refine (hplain r.sends _ (nstep hBF h57)).mono ?_
  rw [HF4.out]
  rintro e w8 ⟨hb8, cv8, hv8, rfl, hC8, hH8⟩
  obtain ⟨x7, y7, rfl⟩ : ∃ a c, cv8 = .slice a X.classes.length c := hC8.get
  obtain ⟨x8, y8, rfl⟩ : ∃ a c, hv8 = .slice a r.heap.length c := hH8.get
  clear n0 n1 n2 m0 m1 m2 m3 a0 a1 a2 b0 b1 b2 b3
  obtain ⟨c0, c1, c2, d0, d1, d2, d3⟩ := hA7.later hb8
  have hz8 := hz7.later hs7 hb8
  obtain ⟨z0, z1⟩ := id hz8
  go_upto_region 12 with (fail)
  have hz9 := ((((((hz8.set ⟨w5.heap.size, 0, none⟩ (.slice x7 X.classes.length y7)).set ⟨w5.heap.size, 1, none⟩ (.slice x8 r.heap.length y8)).set ⟨w5.heap.size, 2, none⟩ (.int .i64 X.epoch)).set ⟨w5.heap.size + 1, 0, none⟩ (.int .i64 r.v.k)).set ⟨w5.heap.size + 1, 1, none⟩ (.int .i64 r.v.n)).set ⟨w5.heap.size + 1, 2, none⟩ (.int .i64 r.err)).set ⟨w5.heap.size + 1, 3, none⟩ (.int .i64 r.sends)
  have hs9 : w5.heap.size + 2 ≤ (((((((w8.setCell ⟨w5.heap.size, 0, none⟩ (.slice x7 X.classes.length y7)).setCell ⟨w5.heap.size, 1, none⟩ (.slice x8 r.heap.length y8)).setCell ⟨w5.heap.size, 2, none⟩ (.int .i64 X.epoch)).setCell ⟨w5.heap.size + 1, 0, none⟩ (.int .i64 r.v.k)).setCell ⟨w5.heap.size + 1, 1, none⟩ (.int .i64 r.v.n)).setCell ⟨w5.heap.size + 1, 2, none⟩ (.int .i64 r.err)).setCell ⟨w5.heap.size + 1, 3, none⟩ (.int .i64 r.sends)).heap.size := by have := hb8.size; simp; omega
  clear z0 z1 hz8 hz7
  have h59 := bel_set7 (B := w5.heap.size) (nstep h57 hb8) (Nat.le_refl _) (.slice x7 X.classes.length y7) (.slice x8 r.heap.length y8) (.int .i64 X.epoch) (.int .i64 r.v.k) (.int .i64 r.v.n) (.int .i64 r.err) (.int .i64 r.sends)
  have hkp := keep_set7 (U := w8) (B := w5.heap.size) (P := fun b => w7.heap.size ≤ b) (by omega) (by omega) (.slice x7 X.classes.length y7) (.slice x8 r.heap.length y8) (.int .i64 X.epoch) (.int .i64 r.v.k) (.int .i64 r.v.n) (.int .i64 r.err) (.int .i64 r.sends)
  have hC9 := hC8.keep goodC hkp (fun _ h => h)
  have hH9 := hH8.keep goodO hkp (fun _ h => h)
  have hA9 := (hA7.later hb8).set (.slice x7 X.classes.length y7) (.slice x8 r.heap.length y8) X.epoch r.v.k r.v.n r.err r.sends
  clear c0 c1 c2 d0 d1 d2 d3 hkp hC8 hH8 hA7 hb8 h57
  generalize (((((((w8.setCell ⟨w5.heap.size, 0, none⟩ (.slice x7 X.classes.length y7)).setCell ⟨w5.heap.size, 1, none⟩ (.slice x8 r.heap.length y8)).setCell ⟨w5.heap.size, 2, none⟩ (.int .i64 X.epoch)).setCell ⟨w5.heap.size + 1, 0, none⟩ (.int .i64 r.v.k)).setCell ⟨w5.heap.size + 1, 1, none⟩ (.int .i64 r.v.n)).setCell ⟨w5.heap.size + 1, 2, none⟩ (.int .i64 r.err)).setCell ⟨w5.heap.size + 1, 3, none⟩ (.int .i64 r.sends)) = W9 at *
  obtain ⟨a0, a1, a2, b0, b1, b2, b3⟩ := hA4.later h59
  obtain ⟨c0, c1, c2, d0, d1, d2, d3⟩ := id hA9
  go_wp2_with fail
  refine (same_any ⟨X.classes, r.heap, X.epoch⟩ _ _ _ _ _ (hC3.later goodC h59) (hH3.later goodO h59) hC9 hH9).mono ?_
  rintro e w10 ⟨rfl, hb10⟩
  have h5a := nstep h59 hb10
  have hAa := hA9.later hb10
  have hza := hz9.later hs9 hb10
  have hsa : w5.heap.size + 2 ≤ w10.heap.size := by have := hb10.size; omega
  clear a0 a1 a2 b0 b1 b2 b3 c0 c1 c2 d0 d1 d2 d3 hA9 hb10 hC9 hH9 h59
  obtain ⟨n0, n1, n2, m0, m1, m2, m3⟩ := (hN.later h5a).al
  obtain ⟨a0, a1, a2, b0, b1, b2, b3⟩ := hA4.later h5a
  go_wp2_with fail
  refine (hplain (r.sends - 1) _ (nstep hBF h5a)).mono ?_
  generalize plainE X s name args (r.sends - 1) = q at *
  rintro e w11 ⟨hb11, cv11, hv11, rfl, hC11, hH11⟩
  obtain ⟨x9, y9, rfl⟩ : ∃ a c, cv11 = .slice a X.classes.length c := hC11.get
  obtain ⟨x10, y10, rfl⟩ : ∃ a c, hv11 = .slice a q.heap.length c := hH11.get
  have HBZ := hid (bel_set4 (B := w5.heap.size) (nstep hBF (nstep h5a hb11)) hBF.size (.int .i64 q.v.k) (.int .i64 q.v.n) (.int .i64 q.err) (.int .i64 q.sends))
  obtain ⟨c0, c1, c2, d0, d1, d2, d3⟩ := hAa.later hb11
  clear n0 n1 n2 m0 m1 m2 m3 a0 a1 a2 b0 b1 b2 b3 hC11 hH11
  have hAz := (hAa.later hb11).set2 q.v.k q.v.n q.err q.sends
  obtain ⟨z0, z1⟩ := hza.later hsa hb11
  go_upto_region 15 with (fail)
  generalize ((((w11.setCell ⟨w5.heap.size + 1, 0, none⟩ (.int .i64 q.v.k)).setCell ⟨w5.heap.size + 1, 1, none⟩ (.int .i64 q.v.n)).setCell ⟨w5.heap.size + 1, 2, none⟩ (.int .i64 q.err)).setCell ⟨w5.heap.size + 1, 3, none⟩ (.int .i64 q.sends)) = WZ at *
  clear c0 c1 c2 d0 d1 d2 d3
  obtain ⟨c0, c1, c2, d0, d1, d2, d3⟩ := id hAz
  go_wp2
  go_ret
  exact ⟨ret_b (by simp [HF5.out]), HBZ.out⟩
end Go.Proofs.Ytfdonemehiamjaa
