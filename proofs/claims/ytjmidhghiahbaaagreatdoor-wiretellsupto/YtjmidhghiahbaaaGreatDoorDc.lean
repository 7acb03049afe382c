/- The reference: Find, Rises. -/
import Derived.Test.YtjmidhghiahbaaaGreatDoorDa
namespace Go.Proofs.YtjmidhghiahbaaaGreatDoor
open Go.ChangeShapes Go.WideShapes Go.ChangeAt Go.RowKit
set_option linter.unusedSimpArgs false
set_option linter.unusedVariables false
set_option maxRecDepth 8000

theorem numI_neg {xs : List QM} {name : ByteArray} (h : numI xs name < 0) : numI xs name = -1 := by
  unfold numI findI at h ⊢
  cases hf : xs.findIdx? (fun m => eqN m.name name) with
  | none => simp
  | some i => rw [hf] at h; simp at h; omega
def methsOf (xs : List QC) (k : Int) : List QM := ((clsAt xs k).map QC.methods).getD []
def findL (xs : List QC) (name : ByteArray) : List Int → Int × Int
  | [] => (-1, -1)
  | k :: r => if 0 ≤ numI (methsOf xs k) name then (k, numI (methsOf xs k) name) else findL xs name r
theorem findL_up {xs : List QC} {name : ByteArray} : ∀ (n : Nat) (c : Int), upE (findV name) xs n c (-1, -1) = findL xs name (upsE xs n c)
  | 0, c => rfl
  | n + 1, c => by
    unfold upE upsE
    cases hx : clsAt xs c with
    | none => rfl
    | some x =>
      have hm : methsOf xs c = x.methods := by simp [methsOf, hx]
      obtain ⟨q, rfl, -⟩ := clsAt_some hx
      simp only [findL, hm, findV, Int.toNat_natCast]
      by_cases h : 0 ≤ numI x.methods name
      · have h' : ¬ numI x.methods name < 0 := by omega
        simp [h, h']
      · have h' : numI x.methods name < 0 := by omega
        rw [if_neg h, if_neg h, decide_eq_true h', if_pos rfl, numI_neg h']
        exact findL_up n x.super
theorem findE_L {xs : List QC} (c : Int) (name : ByteArray) : findE xs c name = findL xs name (upsE xs (xs.length + 1) c) := findL_up _ _
theorem findL_none {xs : List QC} {name : ByteArray} : ∀ {l : List Int}, (∀ (i : Nat) k, l[i]? = some k → numI (methsOf xs k) name < 0) → findL xs name l = (-1, -1)
  | [], _ => rfl
  | k :: r, h => by
    have h0 := h 0 k rfl
    unfold findL
    rw [if_neg (by omega)]
    exact findL_none fun i q hq => h (i + 1) q (by simpa using hq)
theorem findL_at {xs : List QC} {name : ByteArray} : ∀ {l : List Int} {j : Nat} {k : Int}, l[j]? = some k → 0 ≤ numI (methsOf xs k) name → (∀ (i : Nat) q, i < j → l[i]? = some q → numI (methsOf xs q) name < 0) → findL xs name l = (k, numI (methsOf xs k) name)
  | a :: r, 0, k, hk, h0, _ => by
    simp at hk
    subst hk
    unfold findL
    rw [if_pos h0]
  | a :: r, j + 1, k, hk, h0, h => by
    have h1 := h 0 a (by omega) rfl
    unfold findL
    rw [if_neg (by omega)]
    exact findL_at (by simpa using hk) h0 fun i q hi hq => h (i + 1) q (by omega) (by simpa using hq)

end Go.Proofs.YtjmidhghiahbaaaGreatDoor
