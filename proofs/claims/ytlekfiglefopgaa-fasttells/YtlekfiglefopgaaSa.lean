/- Leaves: code that sends nothing, and makes nothing. -/
import Derived.Test.YtlekfiglefopgaaTi
import Derived.Test.YtlekfiglefopgaaDc
import Derived.Test.YtlekfiglefopgaaKd
namespace Go.Proofs.Ytlekfiglefopgaa
open Go.ChangeShapes Go.WideShapes Go.ChangeAt Go.RowKit
set_option linter.unusedSimpArgs false
set_option linter.unusedVariables false

/-- Whether an instruction sends, or makes an object. -/
def sendsB (i : QI) : Bool := i.op == 14 || i.op == 13
def leafE (m : QM) : Bool := m.prim == 0 && !m.code.any sendsB
theorem sends1_any (x : QI) (w : World) : Calls Try.prog 50 #[IV x] w fun e w' => e = .returned (.bool (sendsB x)) ∧ Below w.heap.size w w' := by
  by_cases h : x.op = 14
  · have hd : (x.op == 14) = true := by simpa using h
    have HS : Hid (sendsB x = true) := by show _ = _; simp [sendsB, h]
    clear h
    go_enter Try.func50, Try.ntmps50
    go_wp2
    go_ret
    exact ⟨ret_b HS.out.symm, bel1 _ _⟩
  · have hd : (x.op == 14) = false := by simpa using h
    have HS : Hid (sendsB x = (x.op == 13)) := by show _ = _; simp [sendsB, h]
    clear h
    go_enter Try.func50, Try.ntmps50
    go_wp2
    go_ret
    exact ⟨ret_b HS.out.symm, bel1 _ _⟩

set_option maxHeartbeats 1000000 in
theorem indexI_any {P : Nat → Prop} (xs : List QI) (v : Value) (w : World) (hh : IsCode P w v xs) :
    Calls Try.prog 57 #[v, .func (.func 50) #[] #[]] w fun e w' => e = .returned (.int .i64 (findI sendsB xs)) ∧ Below w.heap.size w w' := by
  obtain ⟨ad, cap, rfl, hl, hcap, hby, hrow⟩ := hh
  go_enter Try.func57, Try.ntmps57
  go_wp2
  go_loopg [8] xs.length (fun g c wr => ∃ j : Nat, j + g = xs.length ∧ c = .int .i64 j ∧ Below w.heap.size w wr ∧ ∀ i y, i < j → xs[i]? = some y → sendsB y = false)
  case atStart => exact ⟨0, by omega, rfl, Below.refl _ _, fun i y hi => by omega⟩
  case round =>
    obtain ⟨j, hj, rfl, hbel, hno⟩ := hrel
    have HN : Hid (∀ i y, i < j → xs[i]? = some y → sendsB y = false) := hno
    clear hno
    by_cases hlt : j < xs.length
    · obtain ⟨b, o, rfl, -, hv0, hv1, hv2, hv3, hv4, hsz⟩ := hrow j xs[j] (by simp [hlt])
      have hxj : Hid (xs[j]? = some xs[j]) := by show _ = _; simp [hlt]
      generalize xs[j] = x at *
      simp only [Nat.add_zero] at hv0
      have u0 := cell_later hbel hv0
      have u1 := cell_later hbel hv1
      have u2 := cell_later hbel hv2
      have u3 := cell_later hbel hv3
      have u4 := cell_later hbel hv4
      clear hv0 hv1 hv2 hv3 hv4 hrow
      have hj1 : (j : Int) < (xs.length : Int) := by omega
      have hj0 : (0 : Int) ≤ (j : Int) := by omega
      go_wp2_with fail
      refine (sends1_any x _).mono ?_
      rintro e w1 ⟨rfl, hb⟩
      by_cases hp : sendsB x = true
      · go_wp2
        go_ret
        exact ⟨ret_i (findI_at hxj.out hp HN.out).symm, nstep hbel hb⟩
      · have hp' : sendsB x = false := by simpa using hp
        clear hp
        go_wp2
        go_roundg (gk - 1)
        case measure => omega
        case rel =>
          refine ⟨j + 1, by omega, by go_num, nstep hbel hb, fun i y hi hy => ?_⟩
          by_cases hij : i = j
          · subst hij; rw [hxj.out] at hy; cases hy; exact hp'
          · exact HN.out i y (by omega) hy
    · obtain rfl : j = xs.length := by omega
      go_wp2
      go_ret
      exact ⟨ret_i (findI_none fun i y hy => HN.out i y (lt_of_get hy) hy).symm, hbel⟩
theorem findI_any {α : Type} (p : α → Bool) (xs : List α) : decide (0 ≤ findI p xs) = xs.any p := by
  unfold findI
  cases h : xs.findIdx? p with
  | none =>
    rw [List.findIdx?_eq_none_iff] at h
    have : xs.any p = false := by
      rw [List.any_eq_false]
      intro x hx
      simp [h x hx]
    simp [this]
  | some j =>
    rw [List.findIdx?_eq_some_iff_getElem] at h
    obtain ⟨h1, h2, -⟩ := h
    have : xs.any p = true := by
      rw [List.any_eq_true]
      exact ⟨_, List.getElem_mem h1, h2⟩
    rw [this]
    simp
theorem contains_any {P : Nat → Prop} (xs : List QI) (v : Value) (w : World) (hh : IsCode P w v xs) :
    Calls Try.prog 49 #[v, .func (.func 50) #[] #[]] w fun e w' => e = .returned (.bool (xs.any sendsB)) ∧ Below w.heap.size w w' := by
  go_enter Try.func49, Try.ntmps49
  go_wp2_with fail
  refine (indexI_any xs v _ hh).mono ?_
  rintro e w1 ⟨rfl, hb⟩
  go_wp2
  go_ret
  exact ⟨ret_b (findI_any sendsB xs), hb⟩

theorem leaf_any {P : Nat → Prop} (x : QM) (v : Value) (w : World) (hh : IsCode P w v x.code) : Calls Try.prog 39 #[MV x v] w fun e w' => e = .returned (.bool (leafE x)) ∧ Below w.heap.size w w' := by
  obtain ⟨ad, cap, rfl, -⟩ := id hh
  by_cases h : x.prim = 0
  · have hd : (x.prim == 0) = true := by simpa using h
    have HS : Hid (leafE x = !x.code.any sendsB) := by show _ = _; simp [leafE, h]
    clear h
    go_enter Try.func39, Try.ntmps39
    go_wp2_with fail
    refine (contains_any x.code _ _ (hh.later goodI (bel1 _ _))).mono ?_
    rintro e w1 ⟨rfl, hb⟩
    go_wp2
    go_ret
    exact ⟨ret_b HS.out.symm, nstep1 (Below.refl _ _) hb⟩
  · have hd : (x.prim == 0) = false := by simpa using h
    have HS : Hid (leafE x = false) := by show _ = _; simp [leafE, h]
    clear h
    go_enter Try.func39, Try.ntmps39
    go_wp2
    go_ret
    exact ⟨ret_b HS.out.symm, bel1 _ _⟩

set_option maxHeartbeats 1000000 in
theorem rleaf_any {P : Nat → Prop} (x : QM) (v : Value) (w : World) (hh : IsCode P w v x.code) : Calls Try.prog 34 #[MV x v] w fun e w' => e = .returned (.bool (leafE x)) ∧ Below w.heap.size w w' := by
  obtain ⟨ad, cap, rfl, hl, hcap, hby, hrow⟩ := id hh
  have hp3 : ((w.alloc (.cells #[.string x.name, .int .i64 x.args, .int .i64 x.temps, .int .i64 x.prim, .slice ad x.code.length cap] 44)).cell? ⟨w.heap.size, 3, none⟩) = some (.int .i64 x.prim) := by rw [cell_new _ _ _ _ rfl]; rfl
  have hb0 := bel1 w (.cells #[.string x.name, .int .i64 x.args, .int .i64 x.temps, .int .i64 x.prim, .slice ad x.code.length cap] 44)
  have HX : Hid (∀ b : Bool, b = x.code.any sendsB → leafE x = (x.prim == 0 && !b)) := fun b e => by subst e; rfl
  go_enter Try.func34, Try.ntmps34
  go_wp2
  generalize (w.alloc (.cells #[.string x.name, .int .i64 x.args, .int .i64 x.temps, .int .i64 x.prim, .slice ad x.code.length cap] 44)) = W0 at *
  generalize hxc : x.code = xs at *
  clear hxc hh
  go_loopg [8] xs.length (fun g c wr => ∃ j : Nat, j + g = xs.length ∧ c = .int .i64 j ∧ Below w.heap.size w wr ∧ wr.cell? ⟨w.heap.size, 3, none⟩ = some (.int .i64 x.prim) ∧ ∀ i y, i < j → xs[i]? = some y → sendsB y = false)
  case atStart => exact ⟨0, by omega, rfl, hb0, hp3, fun i y hi => by omega⟩
  case round =>
    obtain ⟨j, hj, rfl, hbel, hp, hno⟩ := hrel
    have HN : Hid (∀ i y, i < j → xs[i]? = some y → sendsB y = false) := hno
    clear hno hp3 hb0
    by_cases hlt : j < xs.length
    · obtain ⟨b, o, rfl, -, hv0, hv1, hv2, hv3, hv4, hsz⟩ := hrow j xs[j] (by simp [hlt])
      have hxj : Hid (xs[j]? = some xs[j]) := by show _ = _; simp [hlt]
      generalize xs[j] = y at *
      simp only [Nat.add_zero] at hv0
      have u0 := cell_later hbel hv0
      have u1 := cell_later hbel hv1
      have u2 := cell_later hbel hv2
      have u3 := cell_later hbel hv3
      have u4 := cell_later hbel hv4
      clear hv0 hv1 hv2 hv3 hv4 hrow
      have hj1 : (j : Int) < (xs.length : Int) := by omega
      have hj0 : (0 : Int) ≤ (j : Int) := by omega
      have hbx := bel1 wr (Obj.cells #[Value.int IntKind.i64 y.op, Value.int IntKind.i64 y.a, Value.int IntKind.i64 y.b, Value.int IntKind.i64 y.c, Value.string y.name] 69)
      have hpx := cell_later hbx hp
      have HY : Hid (sendsB y = true → xs.any sendsB = true) := fun h => by
        rw [List.any_eq_true]; exact ⟨y, List.mem_of_getElem? hxj.out, h⟩
      by_cases h14 : y.op = 14
      · have hd : (y.op == 14) = true := by simpa using h14
        have HS : Hid (sendsB y = true) := by show _ = _; simp [sendsB, h14]
        clear h14
        go_wp2
        go_ret
        exact ⟨ret_b (by rw [HX.out _ rfl, HY.out HS.out]; simp), nstep hbel hbx⟩
      · have hd : (y.op == 14) = false := by simpa using h14
        by_cases h13 : y.op = 13
        · have hd3 : (y.op == 13) = true := by simpa using h13
          have HS : Hid (sendsB y = true) := by show _ = _; simp [sendsB, h13]
          clear h14 h13
          go_wp2
          go_ret
          exact ⟨ret_b (by rw [HX.out _ rfl, HY.out HS.out]; simp), nstep hbel hbx⟩
        · have hd3 : (y.op == 13) = false := by simpa using h13
          have HS : Hid (sendsB y = false) := by show _ = _; simp [sendsB, h13, h14]
          clear h14 h13
          go_wp2
          go_roundg (gk - 1)
          case measure => omega
          case rel =>
            refine ⟨j + 1, by omega, by go_num, nstep hbel hbx, hpx, fun i z hi hz => ?_⟩
            by_cases hij : i = j
            · subst hij; rw [hxj.out] at hz; cases hz; exact HS.out
            · exact HN.out i z (by omega) hz
    · obtain rfl : j = xs.length := by omega
      have HA : Hid (xs.any sendsB = false) := by
        show _ = _
        rw [List.any_eq_false]
        intro z hz
        obtain ⟨i, hi, rfl⟩ := List.mem_iff_getElem.1 hz
        rw [HN.out i xs[i] hi (by simp)]; simp
      go_wp2
      go_ret
      exact ⟨ret_b (by rw [HX.out _ rfl, HA.out]; simp), hbel⟩
end Go.Proofs.Ytlekfiglefopgaa
