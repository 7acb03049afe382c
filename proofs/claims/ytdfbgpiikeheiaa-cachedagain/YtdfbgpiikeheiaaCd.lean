/- Looking through rows: has, IndexFunc, numberOf, placeOf. -/
import Derived.Test.YtdfbgpiikeheiaaCc
namespace Go.Proofs.Ytdfbgpiikeheiaa
open Go.ChangeShapes Go.WideShapes Go.ChangeAt Go.RowKit
set_option linter.unusedSimpArgs false
set_option linter.unusedVariables false

/-- Whether c is a number below n. -/
def hasB (n : Nat) (c : Int) : Bool := decide (0 ≤ c ∧ c < n)

set_option maxHeartbeats 400000 in
theorem has_any (n : Nat) (c : Int) (ad : Option Addr) (cap : Nat) (ah : Option Addr) (nh ch : Nat) (ep : Int) (w : World) : Calls Try.prog 94 #[WV (.slice ad n cap) (.slice ah nh ch) ep, .int .i64 c] w fun e w' => e = .returned (.bool (hasB n c)) ∧ Below w.heap.size w w' := by
  by_cases h0 : 0 ≤ c
  · go_enter Try.func94, Try.ntmps94
    go_wp2
    go_ret
    exact ⟨ret_b (by simp [hasB, h0]), bel1 _ _⟩
  · have h0' : c < 0 := by omega
    have hd : decide (0 ≤ c) = false := by simpa using h0
    go_enter Try.func94, Try.ntmps94
    go_wp2
    go_ret
    exact ⟨ret_b (by simp [hasB]; omega), bel1 _ _⟩

/-- The place of the first one of which p tells true, or -1. -/
def findI {α : Type} (p : α → Bool) (xs : List α) : Int := ((xs.findIdx? p).map Int.ofNat).getD (-1)
theorem findI_at {α : Type} {p : α → Bool} {xs : List α} {j : Nat} {x : α} (hx : xs[j]? = some x) (hp : p x = true) (h : ∀ i y, i < j → xs[i]? = some y → p y = false) : findI p xs = (j : Int) := by
  have : xs.findIdx? p = some j := by
    rw [List.findIdx?_eq_some_iff_getElem]
    have hj := lt_of_get hx
    refine ⟨hj, ?_, fun i hi => ?_⟩
    · rw [List.getElem?_eq_getElem hj] at hx; cases hx; exact hp
    · have := h i xs[i] hi (by simp)
      simp [this]
  simp [findI, this]
theorem findI_none {α : Type} {p : α → Bool} {xs : List α} (h : ∀ (i : Nat) y, xs[i]? = some y → p y = false) : findI p xs = -1 := by
  have : xs.findIdx? p = none := by
    rw [List.findIdx?_eq_none_iff]
    intro y hy
    obtain ⟨i, hi, rfl⟩ := List.mem_iff_getElem.1 hy
    exact h i _ (by simp)
  simp [findI, this]

/-- Names are told apart by their bytes. -/
def eqN (a b : ByteArray) : Bool := a.toList == b.toList
def gtN (a b : ByteArray) : Bool := !Op.bytesLess a.toList b.toList && !a.toList == b.toList
/-- A class's value. -/
abbrev CV (x : QC) (mv : Value) : Value := .agg #[.string x.name, .int .i64 x.super, .int .i64 x.slots, mv]

set_option maxHeartbeats 1000000 in
theorem index40_any {P : Nat → Prop} (cap' : Value) (p : QM → Bool) (xs : List QM) (v : Value) (w : World) (hh : IsMeths P w v xs)
    (hF : ∀ (x : QM) (a : Option Addr) (n c : Nat) (w' : World), Below w.heap.size w w' → Calls Try.prog 96 #[MV x (.slice a n c), cap'] w' fun e w'' => e = .returned (.bool (p x)) ∧ Below w'.heap.size w' w'') :
    Calls Try.prog 95 #[v, .func (.func 96) #[] #[cap']] w fun e w' => e = .returned (.int .i64 (findI p xs)) ∧ Below w.heap.size w w' := by
  obtain ⟨ad, cap, rfl, hl, hcap, hby, hrow⟩ := hh
  go_enter Try.func95, Try.ntmps95
  go_wp2
  go_loopg [8] xs.length (fun g c wr => ∃ j : Nat, j + g = xs.length ∧ c = .int .i64 j ∧ Below w.heap.size w wr ∧ ∀ i y, i < j → xs[i]? = some y → p y = false)
  case atStart => exact ⟨0, by omega, rfl, Below.refl _ _, fun i y hi => by omega⟩
  case round =>
    obtain ⟨j, hj, rfl, hbel, hno⟩ := hrel
    have HN : Hid (∀ i y, i < j → xs[i]? = some y → p y = false) := hno
    clear hno
    by_cases hlt : j < xs.length
    · obtain ⟨b, o, rfl, -, hv0, hv1, hv2, hv3, hsz, sv, hv4, hsl⟩ := hrow j xs[j] (by simp [hlt])
      have hxj : Hid (xs[j]? = some xs[j]) := by show _ = _; simp [hlt]
      generalize xs[j] = x at *
      simp only [Nat.add_zero] at hv0
      have u0 := cell_later hbel hv0
      have u1 := cell_later hbel hv1
      have u2 := cell_later hbel hv2
      have u3 := cell_later hbel hv3
      have u4 := cell_later hbel hv4
      obtain ⟨ad2, cap2, rfl, -, -, -, -⟩ := id hsl
      clear hv0 hv1 hv2 hv3 hv4 hsl hrow
      have hj1 : (j : Int) < (xs.length : Int) := by omega
      have hj0 : (0 : Int) ≤ (j : Int) := by omega
      go_wp2_with fail
      refine (hF x ad2 x.code.length cap2 _ hbel).mono ?_
      rintro e w1 ⟨rfl, hb⟩
      by_cases hp : p x = true
      · go_wp2
        go_ret
        exact ⟨ret_i (findI_at hxj.out hp HN.out).symm, nstep hbel hb⟩
      · have hp' : p x = false := by simpa using hp
        clear hp
        go_wp2
        go_roundg (gk - 1)
        case measure => omega
        case rel =>
          refine ⟨j + 1, by omega, by go_num, nstep hbel hb, fun i y hi hy => ?_⟩
          by_cases hij : i = j
          · subst hij; rw [hxj.out] at hy; cases hy; exact hp'
          · exact HN.out i y (by omega) hy
    · obtain rfl : j = xs.length := by omega
      go_wp2
      go_ret
      exact ⟨ret_i (findI_none fun i y hy => HN.out i y (lt_of_get hy) hy).symm, hbel⟩

theorem eqName_any (x : QM) (a : Option Addr) (n c b : Nat) (name : ByteArray) (w : World) (hc : w.cell? ⟨b, 0, none⟩ = some (.string name)) : Calls Try.prog 96 #[MV x (.slice a n c), .pointer (some ⟨b, 0, none⟩)] w fun e w' => e = .returned (.bool (eqN x.name name)) ∧ Below w.heap.size w w' := by
  have k := fun y => cell_later (bel1 w y) hc
  go_enter Try.func96, Try.ntmps96
  go_wp2
  go_ret
  exact ⟨ret_b rfl, bel1 _ _⟩
theorem hmf (fn : Fn) (first cap : Array Value) (w : World) : (Instr.makeFunc fn first cap).run Try.prog w = .ok (.func fn first cap) w := rfl

/-- The number of the method of that name, or -1. -/
def numI (xs : List QM) (name : ByteArray) : Int := findI (fun m => eqN m.name name) xs
theorem numberOf_any {P : Nat → Prop} (xs : List QM) (v : Value) (name : ByteArray) (w : World) (hh : IsMeths P w v xs) : Calls Try.prog 74 #[v, .string name] w fun e w' => e = .returned (.int .i64 (numI xs name)) ∧ Below w.heap.size w w' := by
  have hm := hmf
  go_enter Try.func74, Try.ntmps74
  go_wp2_with fail
  refine (index40_any _ (fun m => eqN m.name name) xs v _ (hh.later goodM (bel1 _ _)) fun x a n c w' hb => eqName_any x a n c _ name w' (cell_later hb (by rw [cell_new _ _ _ _ rfl]; rfl))).mono ?_
  rintro e w1 ⟨rfl, hb⟩
  go_wp2
  go_ret
  exact ⟨rfl, nstep1 (Below.refl _ _) hb⟩
/-- Where a method of a new name must stand. -/
def placeI (xs : List QM) (name : ByteArray) : Int := if findI (fun m => gtN m.name name) xs < 0 then xs.length else findI (fun m => gtN m.name name) xs
end Go.Proofs.Ytdfbgpiikeheiaa
