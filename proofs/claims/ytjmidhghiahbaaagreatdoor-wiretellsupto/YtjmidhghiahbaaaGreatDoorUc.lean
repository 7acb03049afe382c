/- Package wire: has, wrongMethod. -/
import Derived.Test.YtjmidhghiahbaaaGreatDoorUb
import Derived.Test.YtjmidhghiahbaaaGreatDoorEa
namespace Go.Proofs.YtjmidhghiahbaaaGreatDoor
open Go.ChangeShapes Go.WideShapes Go.ChangeAt Go.RowKit
set_option linter.unusedSimpArgs false
set_option linter.unusedVariables false
set_option maxRecDepth 8000

theorem equal0_any (a b : Option Addr) (c n c' : Nat) (w : World) : Calls Tryz.prog 70 #[.slice a 0 c, .slice b n c'] w fun e w' => e = .returned (.bool (decide (n = 0))) ∧ w' = w := by
  go_enter Tryz.func70, Tryz.ntmps70
  by_cases h : n = 0
  · subst h
    go_wp2
    go_loopg [13] 0 (fun g i wr => i = .int .i64 0 ∧ wr = w)
    case atStart => exact ⟨rfl, rfl⟩
    case round =>
      obtain ⟨rfl, hw⟩ := hrel
      subst hw
      go_wp2
      go_ret
      exact ⟨rfl, rfl⟩
  · have h' : ((0 : Int) != (n : Int)) = true := by simp; omega
    have h2 : decide (n = 0) = false := by simpa using h
    go_wp2
    go_ret
    exact ⟨ret_b h2.symm, rfl⟩
def primT (m p : QM) : Bool := eqN p.name m.name && decide (p.args = m.args) && decide (p.temps = m.temps) && decide (p.prim = m.prim) && decide (m.code.length = 0)
set_option maxHeartbeats 1000000 in
theorem hasIdx_any {P : Nat → Prop} (cap' : Value) (p : QM → Bool) (xs : List QM) (v : Value) (w : World) (hh : IsMeths P w v xs)
    (hF : ∀ (x : QM) (a : Option Addr) (c : Nat) (w' : World), x ∈ xs → Below w.heap.size w w' → Calls Tryz.prog 69 #[MV x (.slice a x.code.length c), cap'] w' fun e w'' => e = .returned (.bool (p x)) ∧ Below w'.heap.size w' w'') :
    Calls Tryz.prog 88 #[v, .func (.func 69) #[] #[cap']] w fun e w' => e = .returned (.int .i64 (findI p xs)) ∧ Below w.heap.size w w' := by
  obtain ⟨ad, cap, rfl, hl, hcap, hby, hrow⟩ := hh
  go_enter Tryz.func88, Tryz.ntmps88
  go_wp2
  go_loopg [8] xs.length (fun g c wr => ∃ j : Nat, j + g = xs.length ∧ c = .int .i64 j ∧ Below w.heap.size w wr ∧ ∀ i y, i < j → xs[i]? = some y → p y = false)
  case atStart => exact ⟨0, by omega, rfl, Below.refl _ _, fun i y hi => by omega⟩
  case round =>
    obtain ⟨j, hj, rfl, hbel, hno⟩ := hrel
    have HN : Hid (∀ i y, i < j → xs[i]? = some y → p y = false) := hno
    clear hno
    by_cases hlt : j < xs.length
    · obtain ⟨b, o, rfl, -, hv0, hv1, hv2, hv3, hsz, sv, hv4, hsl⟩ := hrow j xs[j] (by simp [hlt])
      have hxj : Hid (xs[j]? = some xs[j]) := by show _ = _; simp [hlt]
      generalize xs[j] = x at *
      simp only [Nat.add_zero] at hv0
      have u0 := cell_later hbel hv0
      have u1 := cell_later hbel hv1
      have u2 := cell_later hbel hv2
      have u3 := cell_later hbel hv3
      have u4 := cell_later hbel hv4
      obtain ⟨ad2, cap2, rfl, -, -, -, -⟩ := id hsl
      clear hv0 hv1 hv2 hv3 hv4 hsl hrow
      have hj1 : (j : Int) < (xs.length : Int) := by omega
      have hj0 : (0 : Int) ≤ (j : Int) := by omega
      go_wp2_with fail
      refine (hF x ad2 cap2 _ (List.mem_of_getElem? hxj.out) hbel).mono ?_
      rintro e w1 ⟨rfl, hb⟩
      by_cases hp : p x = true
      · go_wp2
        go_ret
        exact ⟨ret_i (findI_at hxj.out hp HN.out).symm, nstep hbel hb⟩
      · have hp' : p x = false := by simpa using hp
        clear hp
        go_wp2
        go_roundg (gk - 1)
        case measure => omega
        case rel =>
          refine ⟨j + 1, by omega, by go_num, nstep hbel hb, fun i y hi hy => ?_⟩
          by_cases hij : i = j
          · subst hij; rw [hxj.out] at hy; cases hy; exact hp'
          · exact HN.out i y (by omega) hy
    · obtain rfl : j = xs.length := by omega
      go_wp2
      go_ret
      exact ⟨ret_i (findI_none fun i y hy => HN.out i y (lt_of_get hy) hy).symm, hbel⟩

set_option maxHeartbeats 1000000 in
theorem has1_any (m x : QM) (a b : Option Addr) (c c' B : Nat) (w : World) (hx : x.code = []) (q0 : w.cell? ⟨B, 0, none⟩ = some (.string m.name)) (q1 : w.cell? ⟨B, 1, none⟩ = some (.int .i64 m.args)) (q2 : w.cell? ⟨B, 2, none⟩ = some (.int .i64 m.temps)) (q3 : w.cell? ⟨B, 3, none⟩ = some (.int .i64 m.prim)) (q4 : w.cell? ⟨B, 4, none⟩ = some (.slice b m.code.length c')) : Calls Tryz.prog 69 #[MV x (.slice a x.code.length c), .pointer (some ⟨B, 0, none⟩)] w fun e w' => e = .returned (.bool (primT m x)) ∧ Below w.heap.size w w' := by
  rw [hx]
  have HP : Hid (primT m x = (eqN x.name m.name && decide (x.args = m.args) && decide (x.temps = m.temps) && decide (x.prim = m.prim) && decide (m.code.length = 0))) := rfl
  generalize primT m x = R at *
  have hb1 := bel1 w (Obj.cells #[Value.string x.name, Value.int IntKind.i64 x.args, Value.int IntKind.i64 x.temps, Value.int IntKind.i64 x.prim, Value.slice a 0 c] 43)
  replace q0 := cell_later hb1 q0
  replace q1 := cell_later hb1 q1
  replace q2 := cell_later hb1 q2
  replace q3 := cell_later hb1 q3
  replace q4 := cell_later hb1 q4
  go_enter Tryz.func69, Tryz.ntmps69
  cases he : eqN x.name m.name
  · have he' : (x.name.toList == m.name.toList) = false := he
    go_wp2
    go_ret
    exact ⟨ret_b (by rw [HP.out, he]; rfl), hb1⟩
  have he' : (x.name.toList == m.name.toList) = true := he
  by_cases h1 : x.args = m.args
  case neg =>
    have h1' : (x.args == m.args) = false := beq_eq_false_iff_ne.2 h1
    go_wp2
    go_ret
    exact ⟨ret_b (by rw [HP.out, decide_eq_false h1]; simp), hb1⟩
  have h1' : (x.args == m.args) = true := beq_iff_eq.2 h1
  have H1 : Hid (decide (x.args = m.args) = true) := decide_eq_true h1
  clear h1
  by_cases h2 : x.temps = m.temps
  case neg =>
    have h2' : (x.temps == m.temps) = false := beq_eq_false_iff_ne.2 h2
    go_wp2
    go_ret
    exact ⟨ret_b (by rw [HP.out, decide_eq_false h2]; simp), hb1⟩
  have h2' : (x.temps == m.temps) = true := beq_iff_eq.2 h2
  have H2 : Hid (decide (x.temps = m.temps) = true) := decide_eq_true h2
  clear h2
  by_cases h3 : x.prim = m.prim
  case neg =>
    have h3' : (x.prim == m.prim) = false := beq_eq_false_iff_ne.2 h3
    go_wp2
    go_ret
    exact ⟨ret_b (by rw [HP.out, decide_eq_false h3]; simp), hb1⟩
  have h3' : (x.prim == m.prim) = true := beq_iff_eq.2 h3
  have H3 : Hid (decide (x.prim = m.prim) = true) := decide_eq_true h3
  clear h3
  go_wp2_with fail
  refine (equal0_any _ _ _ m.code.length _ _).mono ?_
  rintro e w1 ⟨rfl, hw⟩
  subst hw
  go_wp2
  go_ret
  exact ⟨ret_b (by rw [HP.out, H1.out, H2.out, H3.out, he]; simp), hb1⟩
theorem primT_any {m : QM} : newM.any (primT m) = primB 3 m := by
  unfold newM primB primT
  simp only [newM, List.any_cons, List.any_nil, decide_true, Bool.true_and, Bool.or_false]
  have e1 : decide ((1 : Int) = m.args) = decide (m.args = 1) := by simp [eq_comm]
  have e2 : decide ((0 : Int) = m.temps) = decide (m.temps = 0) := by simp [eq_comm]
  rw [e1, e2]
  cases decide (m.args = 1) <;> cases decide (m.temps = 0) <;> cases decide (m.code.length = 0) <;> simp
theorem newM_code : ∀ x ∈ newM, x.code = [] := by
  intro x hx
  unfold newM at hx
  simp only [List.mem_cons, List.not_mem_nil, or_false] at hx
  rcases hx with rfl | rfl | rfl | rfl | rfl <;> rfl
theorem findI_any {α : Type} {p : α → Bool} {xs : List α} : decide (0 ≤ findI p xs) = xs.any p := by
  rw [Bool.eq_iff_iff, decide_eq_true_eq, List.any_eq_true]
  unfold findI
  constructor
  · intro h
    cases hf : xs.findIdx? p with
    | none => rw [hf] at h; simp at h
    | some j =>
      obtain ⟨hj, hp, -⟩ := List.findIdx?_eq_some_iff_getElem.1 hf
      exact ⟨xs[j], List.getElem_mem hj, hp⟩
  · rintro ⟨x, hx, hp⟩
    cases hf : xs.findIdx? p with
    | none =>
      have := List.findIdx?_eq_none_iff.1 hf x hx
      rw [hp] at this
      cases this
    | some j => simp
set_option maxHeartbeats 1000000 in
theorem hasCon_any {P : Nat → Prop} (cap' : Value) (p : QM → Bool) (xs : List QM) (v : Value) (w : World) (hh : IsMeths P w v xs)
    (hF : ∀ (x : QM) (a : Option Addr) (c : Nat) (w' : World), x ∈ xs → Below w.heap.size w w' → Calls Tryz.prog 69 #[MV x (.slice a x.code.length c), cap'] w' fun e w'' => e = .returned (.bool (p x)) ∧ Below w'.heap.size w' w'') :
    Calls Tryz.prog 68 #[v, .func (.func 69) #[] #[cap']] w fun e w' => e = .returned (.bool (decide (0 ≤ findI p xs))) ∧ Below w.heap.size w w' := by
  go_enter Tryz.func68, Tryz.ntmps68
  go_wp2_with fail
  refine (hasIdx_any cap' p xs v w hh hF).mono ?_
  rintro e w1 ⟨rfl, hb⟩
  go_wp2
  go_ret
  exact ⟨rfl, hb⟩
set_option maxHeartbeats 1000000 in
theorem has_any' {P : Nat → Prop} (m : QM) (v mv : Value) (w : World) (hh : IsMeths P w v newM) (hm : ∃ b c, mv = .slice b m.code.length c) : Calls Tryz.prog 51 #[v, MV m mv] w fun e w' => e = .returned (.bool (primB 3 m)) ∧ Below w.heap.size w w' := by
  obtain ⟨b, c, rfl⟩ := hm
  have hb1 := bel1 w (Obj.cells #[Value.string m.name, Value.int IntKind.i64 m.args, Value.int IntKind.i64 m.temps, Value.int IntKind.i64 m.prim, Value.slice b m.code.length c] 43)
  rw [← primT_any, ← findI_any]
  have hmk := hmf
  go_enter Tryz.func51, Tryz.ntmps51
  go_wp2_with fail
  refine (hasCon_any _ (primT m) newM v _ (hh.later goodM hb1) fun x a c' w' hx hb => has1_any m x a b c' c w.heap.size w' (newM_code x hx) (cell_later hb (by rw [cell_new _ _ _ _ rfl]; rfl)) (cell_later hb (by rw [cell_new _ _ _ _ rfl]; rfl)) (cell_later hb (by rw [cell_new _ _ _ _ rfl]; rfl)) (cell_later hb (by rw [cell_new _ _ _ _ rfl]; rfl)) (cell_later hb (by rw [cell_new _ _ _ _ rfl]; rfl))).mono ?_
  rintro e w1 ⟨rfl, hb⟩
  go_wp2
  go_ret
  exact ⟨rfl, nstep hb1 hb⟩
end Go.Proofs.YtjmidhghiahbaaaGreatDoor
