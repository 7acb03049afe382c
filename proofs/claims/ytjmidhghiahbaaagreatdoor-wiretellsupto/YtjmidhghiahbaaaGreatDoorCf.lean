/- Names; making a class. -/
import Derived.Test.YtjmidhghiahbaaaGreatDoorCe
import Derived.Deep.RegionLawGrows
namespace Go.Proofs.YtjmidhghiahbaaaGreatDoor
open Go.ChangeShapes Go.WideShapes Go.ChangeAt Go.RowKit
set_option linter.unusedSimpArgs false
set_option linter.unusedVariables false

theorem b_true {b : Bool} (h : ¬ b = false) : b = true := by cases b <;> simp_all
theorem b_false {b : Bool} (h : ¬ b = true) : b = false := by cases b <;> simp_all
/-- Whether s may be a name. -/
def okB (s : ByteArray) : Bool := decide (∀ j : Fin s.size, 33 ≤ (s[j.1]'j.2).toNat ∧ (s[j.1]'j.2).toNat ≤ 126)
def nameB (s : ByteArray) : Bool := decide (1 ≤ s.size ∧ s.size ≤ 12) && okB s
theorem okB_no {s : ByteArray} {j : Nat} (hj : j < s.size) (h : ¬ (33 ≤ s[j].toNat ∧ s[j].toNat ≤ 126)) : okB s = false := by
  unfold okB
  simp only [decide_eq_false_iff_not]
  exact fun k => h (k ⟨j, hj⟩)
theorem okB_yes {s : ByteArray} (h : ∀ j (hj : j < s.size), 33 ≤ s[j].toNat ∧ s[j].toNat ≤ 126) : okB s = true := by
  unfold okB
  simp only [decide_eq_true_eq]
  exact fun j => h j.1 j.2

set_option maxHeartbeats 1000000 in
theorem name_any (s : ByteArray) (w : World) (hs : s.size ≤ 140737488351232) : Calls Tryz.prog 31 #[.string s] w fun e w' => e = .returned (.bool (nameB s)) ∧ Below w.heap.size w w' := by
  by_cases h0 : s.size < 1
  · have h0' : (s.size : Int) < 1 := by omega
    have hn : nameB s = false := by simp [nameB]; omega
    rw [hn]
    go_enter Tryz.func31, Tryz.ntmps31
    go_wp2
    go_ret
    exact ⟨rfl, Below.refl _ _⟩
  · have h0' : (1 : Int) ≤ (s.size : Int) := by omega
    by_cases h1 : 12 < s.size
    · have h1' : (12 : Int) < (s.size : Int) := by omega
      have hn : nameB s = false := by simp [nameB]; omega
      rw [hn]
      go_enter Tryz.func31, Tryz.ntmps31
      go_wp2
      go_ret
      exact ⟨rfl, Below.refl _ _⟩
    · have h1' : (s.size : Int) ≤ 12 := by omega
      have HN : Hid (nameB s = okB s) := by show _ = _; unfold nameB; rw [decide_eq_true (by omega)]; rfl
      go_enter Tryz.func31, Tryz.ntmps31
      go_wp2
      go_loopg [14] s.size (fun g c wr => ∃ j : Nat, j + g = s.size ∧ c = .int .i64 j ∧ wr = w ∧ ∀ i (hi : i < s.size), i < j → 33 ≤ s[i].toNat ∧ s[i].toNat ≤ 126)
      case atStart => exact ⟨0, by omega, rfl, rfl, fun i _ hi => by omega⟩
      case round =>
        obtain ⟨j, hj, rfl, rfl, hok⟩ := hrel
        have HO : Hid (∀ i (hi : i < s.size), i < j → 33 ≤ s[i].toNat ∧ s[i].toNat ≤ 126) := hok
        clear hok
        by_cases hlt : j < s.size
        · have hj0 : (0 : Int) ≤ (j : Int) := by omega
          have hj1 : (j : Int) < (s.size : Int) := by omega
          by_cases c1 : s[j].toNat ≤ 32
          · have hn : Hid (okB s = false) := okB_no hlt (by omega)
            have c1' : ((s[j].toNat : Nat) : Int) ≤ 32 := by omega
            go_wp2
            go_ret
            exact ⟨ret_b (by rw [HN.out, hn.out]), Below.refl _ _⟩
          · have c1' : (32 : Int) < ((s[j].toNat : Nat) : Int) := by omega
            by_cases c2 : 126 < s[j].toNat
            · have hn : Hid (okB s = false) := okB_no hlt (by omega)
              have c2' : (126 : Int) < ((s[j].toNat : Nat) : Int) := by omega
              go_wp2
              go_ret
              exact ⟨ret_b (by rw [HN.out, hn.out]), Below.refl _ _⟩
            · have c2' : ((s[j].toNat : Nat) : Int) ≤ 126 := by omega
              have HT : Hid (33 ≤ s[j].toNat ∧ s[j].toNat ≤ 126) := by constructor <;> omega
              clear c1 c2
              go_wp2
              go_roundg (gk - 1)
              case measure => omega
              case rel =>
                refine ⟨j + 1, by omega, by go_num, rfl, fun i hi hij => ?_⟩
                by_cases he : i = j
                · subst he; exact HT.out
                · exact HO.out i hi (by omega)
        · go_wp2
          go_ret
          exact ⟨ret_b (by rw [HN.out, okB_yes fun i hi => HO.out i hi (by omega)]), Below.refl _ _⟩

def plainB (c : Int) : Bool := decide (c = 1 ∨ c = 2 ∨ c = 3)
theorem slotsE_range {xs : List QC} (ho : SlotsOk xs) (hl : xs.length * 56 ≤ 140737488351232) (c : Int) : 0 ≤ slotsE xs c ∧ slotsE xs c ≤ 9000000000000000000 := by
  have := slotsE_le ho (xs.length + 1) c 0 (by omega)
  unfold slotsE
  omega

/-- Whether a class of that name is there. -/
def takenB (xs : List QC) (name : ByteArray) : Bool := decide (0 ≤ findI (fun m : QC => eqN m.name name) xs)
/-- Why there can be no such class. -/
def wrongE (xs : List QC) (name : ByteArray) (super slots : Int) : Int :=
  if nameB name = false ∨ takenB xs name = true then 7
  else if hasB xs.length super = false then 6
  else if slots < 0 ∨ 6 - slotsE xs super < slots ∨ plainB super = true then 3
  else if 12 ≤ xs.length then 5 else 0

theorem wV_zero : (Value.agg #[Value.slice none 0 0, Value.slice none 0 0, Value.int IntKind.i64 0]) = WV (.slice none 0 0) (.slice none 0 0) 0 := rfl

theorem blk_new (w : World) (o : Obj) (n : Nat) (hn : w.heap.size = n) : (w.alloc o).heap[n]? = some o := by subst hn; exact heap_alloc_new w o
/-- A class more. -/
def madeX (X : QW) (name : ByteArray) (super slots : Int) : QW := ⟨X.classes ++ [⟨name, super, slots, []⟩], X.heap, X.epoch⟩

end Go.Proofs.YtjmidhghiahbaaaGreatDoor
