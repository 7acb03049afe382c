/- Looking through rows: has, IndexFunc, numberOf, placeOf. -/
import Derived.Test.YtjmidhghiahbaaaGreatDoorCc
namespace Go.Proofs.YtjmidhghiahbaaaGreatDoor
open Go.ChangeShapes Go.WideShapes Go.ChangeAt Go.RowKit
set_option linter.unusedSimpArgs false
set_option linter.unusedVariables false

/-- Whether c is a number below n. -/
def hasB (n : Nat) (c : Int) : Bool := decide (0 ≤ c ∧ c < n)

set_option maxHeartbeats 400000 in
theorem has_any (n : Nat) (c : Int) (ad : Option Addr) (cap : Nat) (ah : Option Addr) (nh ch : Nat) (ep : Int) (w : World) : Calls Tryz.prog 67 #[WV (.slice ad n cap) (.slice ah nh ch) ep, .int .i64 c] w fun e w' => e = .returned (.bool (hasB n c)) ∧ Below w.heap.size w w' := by
  by_cases h0 : 0 ≤ c
  · go_enter Tryz.func67, Tryz.ntmps67
    go_wp2
    go_ret
    exact ⟨ret_b (by simp [hasB, h0]), bel1 _ _⟩
  · have h0' : c < 0 := by omega
    have hd : decide (0 ≤ c) = false := by simpa using h0
    go_enter Tryz.func67, Tryz.ntmps67
    go_wp2
    go_ret
    exact ⟨ret_b (by simp [hasB]; omega), bel1 _ _⟩

/-- The place of the first one of which p tells true, or -1. -/
def findI {α : Type} (p : α → Bool) (xs : List α) : Int := ((xs.findIdx? p).map Int.ofNat).getD (-1)
theorem findI_at {α : Type} {p : α → Bool} {xs : List α} {j : Nat} {x : α} (hx : xs[j]? = some x) (hp : p x = true) (h : ∀ i y, i < j → xs[i]? = some y → p y = false) : findI p xs = (j : Int) := by
  have : xs.findIdx? p = some j := by
    rw [List.findIdx?_eq_some_iff_getElem]
    have hj := lt_of_get hx
    refine ⟨hj, ?_, fun i hi => ?_⟩
    · rw [List.getElem?_eq_getElem hj] at hx; cases hx; exact hp
    · have := h i xs[i] hi (by simp)
      simp [this]
  simp [findI, this]
theorem findI_none {α : Type} {p : α → Bool} {xs : List α} (h : ∀ (i : Nat) y, xs[i]? = some y → p y = false) : findI p xs = -1 := by
  have : xs.findIdx? p = none := by
    rw [List.findIdx?_eq_none_iff]
    intro y hy
    obtain ⟨i, hi, rfl⟩ := List.mem_iff_getElem.1 hy
    exact h i _ (by simp)
  simp [findI, this]

/-- Names are told apart by their bytes. -/
def eqN (a b : ByteArray) : Bool := a.toList == b.toList
def gtN (a b : ByteArray) : Bool := !Op.bytesLess a.toList b.toList && !a.toList == b.toList
/-- A class's value. -/
abbrev CV (x : QC) (mv : Value) : Value := .agg #[.string x.name, .int .i64 x.super, .int .i64 x.slots, mv]

theorem hmf (fn : Fn) (first cap : Array Value) (w : World) : (Instr.makeFunc fn first cap).run Tryz.prog w = .ok (.func fn first cap) w := rfl

/-- The number of the method of that name, or -1. -/
def numI (xs : List QM) (name : ByteArray) : Int := findI (fun m => eqN m.name name) xs
/-- Where a method of a new name must stand. -/
def placeI (xs : List QM) (name : ByteArray) : Int := if findI (fun m => gtN m.name name) xs < 0 then xs.length else findI (fun m => gtN m.name name) xs
end Go.Proofs.YtjmidhghiahbaaaGreatDoor
