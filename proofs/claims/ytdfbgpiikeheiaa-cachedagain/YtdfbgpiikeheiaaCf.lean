/- Names; making a class. -/
import Derived.Test.YtdfbgpiikeheiaaCe
import Derived.Deep.RegionLawGrows
namespace Go.Proofs.Ytdfbgpiikeheiaa
open Go.ChangeShapes Go.WideShapes Go.ChangeAt Go.RowKit
set_option linter.unusedSimpArgs false
set_option linter.unusedVariables false

theorem b_true {b : Bool} (h : ¬ b = false) : b = true := by cases b <;> simp_all
theorem b_false {b : Bool} (h : ¬ b = true) : b = false := by cases b <;> simp_all
/-- Whether s may be a name. -/
def okB (s : ByteArray) : Bool := decide (∀ j : Fin s.size, 33 ≤ (s[j.1]'j.2).toNat ∧ (s[j.1]'j.2).toNat ≤ 126)
def nameB (s : ByteArray) : Bool := decide (1 ≤ s.size ∧ s.size ≤ 12) && okB s
theorem okB_no {s : ByteArray} {j : Nat} (hj : j < s.size) (h : ¬ (33 ≤ s[j].toNat ∧ s[j].toNat ≤ 126)) : okB s = false := by
  unfold okB
  simp only [decide_eq_false_iff_not]
  exact fun k => h (k ⟨j, hj⟩)
theorem okB_yes {s : ByteArray} (h : ∀ j (hj : j < s.size), 33 ≤ s[j].toNat ∧ s[j].toNat ≤ 126) : okB s = true := by
  unfold okB
  simp only [decide_eq_true_eq]
  exact fun j => h j.1 j.2

def plainB (c : Int) : Bool := decide (c = 1 ∨ c = 2 ∨ c = 3)
theorem slotsE_range {xs : List QC} (ho : SlotsOk xs) (hl : xs.length * 56 ≤ 140737488351232) (c : Int) : 0 ≤ slotsE xs c ∧ slotsE xs c ≤ 9000000000000000000 := by
  have := slotsE_le ho (xs.length + 1) c 0 (by omega)
  unfold slotsE
  omega

/-- Whether a class of that name is there. -/
def takenB (xs : List QC) (name : ByteArray) : Bool := decide (0 ≤ findI (fun m : QC => eqN m.name name) xs)
/-- Why there can be no such class. -/
def wrongE (xs : List QC) (name : ByteArray) (super slots : Int) : Int :=
  if nameB name = false ∨ takenB xs name = true then 7
  else if hasB xs.length super = false then 6
  else if slots < 0 ∨ 6 - slotsE xs super < slots ∨ plainB super = true then 3
  else if 12 ≤ xs.length then 5 else 0

theorem wV_zero : (Value.agg #[Value.slice none 0 0, Value.slice none 0 0, Value.int IntKind.i64 0]) = WV (.slice none 0 0) (.slice none 0 0) 0 := rfl

theorem blk_new (w : World) (o : Obj) (n : Nat) (hn : w.heap.size = n) : (w.alloc o).heap[n]? = some o := by subst hn; exact heap_alloc_new w o
/-- A class more. -/
def madeX (X : QW) (name : ByteArray) (super slots : Int) : QW := ⟨X.classes ++ [⟨name, super, slots, []⟩], X.heap, X.epoch⟩

end Go.Proofs.Ytdfbgpiikeheiaa
