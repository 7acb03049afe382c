/- A right world's text is short. -/
import Derived.Test.YtjmidhghiahbaaaGreatDoorWb
import Derived.Lib.ItoaLen
namespace Go.Proofs.YtjmidhghiahbaaaGreatDoor
open Go.ChangeShapes Go.WideShapes Go.ChangeAt Go.RowKit
set_option linter.unusedSimpArgs false
set_option linter.unusedVariables false
set_option maxRecDepth 8000

theorem name_len {s : ByteArray} (h : nameB s = true) : s.size ≤ 12 := by
  unfold nameB at h
  simp only [Bool.and_eq_true, decide_eq_true_eq] at h
  exact h.1.2
theorem eqN_len {a b : ByteArray} (h : eqN a b = true) : b.size = a.size := by
  have e : a.toList = b.toList := by simpa [eqN] using h
  rw [ByteArray.toList_eq, ByteArray.toList_eq] at e
  have := congrArg List.length e
  simpa using this.symm
def ShortI (x : QI) : Prop := x.name.size ≤ 12
def ShortM (m : QM) : Prop := m.name.size ≤ 12 ∧ ∀ x ∈ m.code, ShortI x
def ShortC (c : QC) : Prop := c.name.size ≤ 12 ∧ ∀ m ∈ c.methods, ShortM m
theorem num_short {S n : Int} {m : QM} {x : QI} (h : numE S n m x = 0) : ShortI x := by
  unfold numE at h
  split at h
  · cases h
  split at h
  · cases h
  split at h
  · cases h
  rename_i h3
  simp only [not_or, Decidable.not_not, Bool.not_eq_false] at h3
  obtain ⟨h4, h5, h6⟩ := h3
  unfold ShortI
  unfold rnB at h4
  split at h4
  · exact name_len h4
  · rw [empty_is h4]; decide
theorem right_short {X : QW} (h : rightE X = 0) : ∀ c ∈ X.classes, ShortC c := by
  obtain ⟨hz, hc, hm, ho⟩ := right_is h
  obtain ⟨z1, z2, z3, z4, z5⟩ := hz
  intro x hx
  obtain ⟨k, hk⟩ := List.getElem?_of_mem hx
  have hkl := lt_of_get hk
  have h1 := hc k x hkl hk
  have h2 := hm k x hkl hk
  have hnm : nameB x.name = true := by
    unfold rcE at h1
    split at h1
    · cases h1
    · rename_i h3; simpa using h3
  unfold rkE at h2
  split at h2
  · cases h2
  split at h2
  · cases h2
  have h9 := firstE_all h2
  refine ⟨name_len hnm, fun m hmm => ?_⟩
  obtain ⟨i, hi⟩ := List.getElem?_of_mem hmm
  have h10 := h9 i m hi
  unfold rmE at h10
  split at h10
  · cases h10
  split at h10
  · rename_i hp
    unfold primB at hp
    rw [List.any_eq_true] at hp
    obtain ⟨p, hpm, hpe⟩ := hp
    simp only [Bool.and_eq_true, decide_eq_true_eq] at hpe
    obtain ⟨⟨⟨⟨⟨-, e1⟩, e2⟩, e3⟩, e4⟩, e5⟩ := hpe
    have hpo : p.name.size ≤ 12 := by
      unfold newM at hpm
      simp only [List.mem_cons, List.not_mem_nil, or_false] at hpm
      rcases hpm with rfl | rfl | rfl | rfl | rfl <;> decide
    refine ⟨by rw [eqN_len e1]; exact hpo, fun y hy => ?_⟩
    have : m.code = [] := List.eq_nil_of_length_eq_zero e5
    rw [this] at hy
    cases hy
  · obtain ⟨c1, c2, -⟩ := check_ok h10
    obtain ⟨-, n1, -, -, -⟩ := wm_ok c1
    exact ⟨name_len n1, fun y hy => num_short (c2 y hy)⟩
theorem numW_len {n : Int} (h : I64 n) : (numW n).length ≤ 22 := by
  unfold numW
  rw [List.length_append]
  have := Lib.itoa_length_le n h.1 h.2
  simp
  omega
theorem wordW_len (s : ByteArray) : (wordW s).length = s.size + 1 := by
  unfold wordW
  rw [List.length_append]
  rfl
theorem manyW_len {α : Type} {enc : α → List UInt8} {k : Nat} : ∀ {xs : List α}, (∀ x ∈ xs, (enc x).length ≤ k) → (manyW enc xs).length ≤ xs.length * k
  | [], _ => by simp [manyW]
  | x :: xs, h => by
    have h1 := h x (by simp)
    have h2 := manyW_len (enc := enc) (k := k) (xs := xs) (fun y hy => h y (by simp [hy]))
    unfold manyW at *
    rw [List.flatMap_cons, List.length_append, List.length_cons, Nat.add_mul]
    omega
theorem listW_len {α : Type} {enc : α → List UInt8} {k n : Nat} {xs : List α} (hn : xs.length ≤ n) (hl : n ≤ 1000) (h : ∀ x ∈ xs, (enc x).length ≤ k) : (listW enc xs).length ≤ 22 + n * k := by
  unfold listW
  rw [List.length_append]
  have h1 := numW_len (n := xs.length) ⟨by omega, by omega⟩
  have h2 := manyW_len h
  have h3 := Nat.mul_le_mul_right k hn
  omega
theorem instrW_len {x : QI} (h : InstrOk x) (hs : ShortI x) : (instrW x).length ≤ 57 := by
  obtain ⟨h1, h2, -⟩ := h
  unfold instrW ShortI at *
  have l1 := numW_len h1
  have l2 := numW_len h2
  rw [List.length_append, List.length_append]
  split
  · rw [wordW_len]; omega
  · simp; omega
theorem methW_len {m : QM} (h : MethOkW m) (hs : ShortM m) : (methW m).length ≤ 3600 := by
  obtain ⟨-, h1, h2, h3, h4, h5⟩ := h
  have l1 := numW_len h1
  have l2 := numW_len h2
  have l3 := numW_len h3
  have l4 := listW_len (enc := instrW) (k := 57) h4 (by omega) (fun x hx => instrW_len (h5 x hx) (hs.2 x hx))
  have l5 := hs.1
  unfold methW
  simp only [List.length_append, wordW_len]
  omega
theorem classW_len {c : QC} (h : ClassOkW c) (hs : ShortC c) : (classW c).length ≤ 30000 := by
  obtain ⟨-, h1, h2, h4, h5⟩ := h
  have l1 := numW_len h1
  have l2 := numW_len h2
  have l4 := listW_len (enc := methW) (k := 3600) h4 (by omega) (fun x hx => methW_len (h5 x hx) (hs.2 x hx))
  have l5 := hs.1
  unfold classW
  simp only [List.length_append, wordW_len]
  omega
theorem objW_len {o : QO} (h : ObjOkW o) : (objW o).length ≤ 400 := by
  obtain ⟨h1, h4, h5⟩ := h
  have l1 := numW_len h1
  have l4 := listW_len (enc := valW) (k := 44) h4 (by omega) (fun x hx => by
    have a := numW_len (h5 x hx).1
    have b := numW_len (h5 x hx).2
    unfold valW
    rw [List.length_append]
    omega)
  unfold objW
  rw [List.length_append]
  omega
theorem worldW_len {X : QW} (h : rightE X = 0) : (worldW X).length ≤ 1000000 := by
  have hs := right_short h
  obtain ⟨h1, ⟨h2, h3⟩, h4, h5⟩ := right_wok h
  have l1 := numW_len h1
  have l2 := listW_len (enc := classW) (k := 30000) h2 (by omega) (fun x hx => classW_len (h3 x hx) (hs x hx))
  have l3 := listW_len (enc := objW) (k := 400) h4 (by omega) (fun x hx => objW_len (h5 x hx))
  unfold worldW
  simp only [List.length_append]
  omega
end Go.Proofs.YtjmidhghiahbaaaGreatDoor
