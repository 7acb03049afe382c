/- Right worlds: a function, and what it says. -/
import Derived.Test.YtjmidhghiahbaaaGreatDoorEc
import Derived.Test.YtjmidhghiahbaaaGreatDoorKi
namespace Go.Proofs.YtjmidhghiahbaaaGreatDoor
open Go.ChangeShapes Go.WideShapes Go.ChangeAt Go.RowKit
set_option linter.unusedSimpArgs false
set_option linter.unusedVariables false
set_option maxRecDepth 8000

/-- What f tells of the first one of a row of which it tells anything. -/
def firstE {α : Type} (f : Nat → α → Int) : Nat → List α → Int
  | _, [] => 0
  | k, x :: r => if f k x ≠ 0 then f k x else firstE f (k + 1) r
theorem firstE_from {α : Type} {f : Nat → α → Int} : ∀ {l : List α} {k j : Nat} {x : α}, l[j]? = some x → f (k + j) x ≠ 0 → (∀ i y, i < j → l[i]? = some y → f (k + i) y = 0) → firstE f k l = f (k + j) x
  | a :: r, k, 0, x, hx, h, _ => by
    simp at hx; subst hx
    simp only [Nat.add_zero] at h ⊢
    unfold firstE; rw [if_pos h]
  | a :: r, k, j + 1, x, hx, h, hn => by
    have h0 := hn 0 a (by omega) rfl
    simp only [Nat.add_zero] at h0
    unfold firstE
    rw [if_neg (by simp [h0]), firstE_from (k := k + 1) (j := j) (x := x) (by simpa using hx) (by rw [show k + 1 + j = k + (j + 1) by omega]; exact h) fun i y hi hy => by rw [show k + 1 + i = k + (i + 1) by omega]; exact hn (i + 1) y (by omega) (by simpa using hy)]
    rw [show k + 1 + j = k + (j + 1) by omega]
theorem firstE_at {α : Type} {f : Nat → α → Int} {l : List α} {j : Nat} {x : α} (hx : l[j]? = some x) (h : f j x ≠ 0) (hn : ∀ i y, i < j → l[i]? = some y → f i y = 0) : firstE f 0 l = f j x := by
  have := firstE_from (f := f) (k := 0) (j := j) hx (by simpa using h) (fun i y hi hy => by simpa using hn i y hi hy)
  simpa using this
theorem firstE_zero_from {α : Type} {f : Nat → α → Int} : ∀ {l : List α} {k : Nat}, (∀ i y, l[i]? = some y → f (k + i) y = 0) → firstE f k l = 0
  | [], _, _ => rfl
  | a :: r, k, h => by
    have h0 := h 0 a rfl
    simp only [Nat.add_zero] at h0
    unfold firstE
    rw [if_neg (by simp [h0])]
    exact firstE_zero_from fun i y hy => by rw [show k + 1 + i = k + (i + 1) by omega]; exact h (i + 1) y (by simpa using hy)
theorem firstE_zero {α : Type} {f : Nat → α → Int} {l : List α} (h : ∀ i y, l[i]? = some y → f i y = 0) : firstE f 0 l = 0 := firstE_zero_from fun i y hy => by simpa using h i y hy
theorem firstE_all_from {α : Type} {f : Nat → α → Int} : ∀ {l : List α} {k : Nat}, firstE f k l = 0 → ∀ i y, l[i]? = some y → f (k + i) y = 0
  | a :: r, k, h, i, y, hy => by
    unfold firstE at h
    split at h
    · rename_i h1; exact absurd h h1
    · rename_i h1
      cases i with
      | zero => simp at hy; subst hy; simpa using h1
      | succ i => rw [show k + (i + 1) = k + 1 + i by omega]; exact firstE_all_from h i y (by simpa using hy)
theorem firstE_all {α : Type} {f : Nat → α → Int} {l : List α} (h : firstE f 0 l = 0) : ∀ i y, l[i]? = some y → f i y = 0 := fun i y hy => by
  have := firstE_all_from h i y hy
  simpa using this

/-- Object, or a class that was made, below n. -/
def belowB (n c : Int) : Bool := decide (c = 0 ∨ 4 ≤ c ∧ c < n)
/-- One ahead has that name. -/
def dupB (xs : List QC) (k : Nat) (name : ByteArray) : Bool := (xs.take k).any fun d => eqN d.name name
theorem dupB_yes {xs : List QC} {k i : Nat} {name : ByteArray} {d : QC} (hi : i < k) (hd : xs[i]? = some d) (h : eqN d.name name = true) : dupB xs k name = true := by
  unfold dupB
  rw [List.any_eq_true]
  exact ⟨d, List.mem_of_getElem? (i := i) (by rw [List.getElem?_take]; simp [hi, hd]), h⟩
theorem dupB_no {xs : List QC} {k : Nat} {name : ByteArray} (h : ∀ i d, i < k → xs[i]? = some d → eqN d.name name = false) : dupB xs k name = false := by
  unfold dupB
  rw [List.any_eq_false]
  intro d hd
  obtain ⟨i, hi⟩ := List.getElem?_of_mem hd
  rw [List.getElem?_take] at hi
  split at hi
  · rename_i hk
    have := h i d hk hi
    simp [this]
  · cases hi
/-- What is wrong with class k, whatever methods it has. -/
def rcE (xs : List QC) (k : Nat) (x : QC) : Int :=
  if nameB x.name = false then 7 else
  match newC[k]? with
  | some y => if eqN x.name y.name = false then 7 else if dupB xs k x.name = true then 7 else if x.super ≠ y.super then 3 else if x.slots < 0 ∨ 0 < x.slots then 3 else 0
  | none => if dupB xs k x.name = true then 7 else if belowB k x.super = false then 3 else if x.slots < 0 ∨ 6 < x.slots then 3 else 0
/-- A primitive of Int that a New world has so. -/
def primB (k : Nat) (m : QM) : Bool := newM.any fun p => decide (k = 3) && eqN p.name m.name && decide (p.prim = m.prim) && decide (m.args = 1) && decide (m.temps = 0) && decide (m.code.length = 0)
def aheadB (ms : List QM) (i : Nat) (m : QM) : Bool := match i with
  | 0 => true
  | i + 1 => match ms[i]? with
    | some p => ltN p.name m.name
    | none => true
def rmE (X : QW) (k : Nat) (ms : List QM) (i : Nat) (m : QM) : Int :=
  if aheadB ms i m = false then 7 else if primB k m = true then 0 else (checkE (slotsW X.classes k) X.classes.length k m).1
def rkE (X : QW) (k : Nat) (x : QC) : Int := if 6 < slotsW X.classes k then 3 else if 8 < x.methods.length then 5 else firstE (rmE X k x.methods) 0 x.methods
def wrongK (k n h : Int) : Int :=
  if k < 0 ∨ 4 < k then 1
  else if k < 3 then (if n = 0 then 0 else 2)
  else if k = 3 then (if n < -1073741824 ∨ 1073741824 < n then 3 else 0)
  else (if n < 0 ∨ h ≤ n then 6 else 0)
def wrongV (h : Int) (v : QV) : Int := wrongK v.k v.n h
def roE (X : QW) (_ : Nat) (o : QO) : Int :=
  if belowB X.classes.length o.cls = false ∨ (o.slots.length : Int) ≠ slotsW X.classes o.cls then 8 else firstE (fun _ v => wrongV X.heap.length v) 0 o.slots
/-- What is wrong with a world. -/
def rightE (X : QW) : Int :=
  if X.classes.length < 4 ∨ 12 < X.classes.length ∨ 60 < X.heap.length then 5
  else if X.epoch < 0 ∨ 1073741824 < X.epoch then 3
  else if firstE (rcE X.classes) 0 X.classes ≠ 0 then firstE (rcE X.classes) 0 X.classes
  else if firstE (rkE X) 0 X.classes ≠ 0 then firstE (rkE X) 0 X.classes
  else firstE (roE X) 0 X.heap

structure SizeOk (X : QW) : Prop where
  few : 4 ≤ X.classes.length
  many : X.classes.length ≤ 12
  heap : X.heap.length ≤ 60
  ep0 : 0 ≤ X.epoch
  ep1 : X.epoch ≤ 1073741824
def ClsOk (X : QW) (j : Nat) : Prop := ∀ i x, i < j → X.classes[i]? = some x → rcE X.classes i x = 0
def MethOk (X : QW) (j : Nat) : Prop := ∀ i x, i < j → X.classes[i]? = some x → rkE X i x = 0
def ObjOk (X : QW) (j : Nat) : Prop := ∀ i x, i < j → X.heap[i]? = some x → roE X i x = 0
theorem right_many {X : QW} (h : X.classes.length < 4 ∨ 12 < X.classes.length ∨ 60 < X.heap.length) : rightE X = 5 := by unfold rightE; rw [if_pos h]
theorem right_epoch {X : QW} (h : ¬ (X.classes.length < 4 ∨ 12 < X.classes.length ∨ 60 < X.heap.length)) (h2 : X.epoch < 0 ∨ 1073741824 < X.epoch) : rightE X = 3 := by unfold rightE; rw [if_neg h, if_pos h2]
theorem right_sized {X : QW} (h : SizeOk X) : rightE X = if firstE (rcE X.classes) 0 X.classes ≠ 0 then firstE (rcE X.classes) 0 X.classes else if firstE (rkE X) 0 X.classes ≠ 0 then firstE (rkE X) 0 X.classes else firstE (roE X) 0 X.heap := by
  obtain ⟨h1, h2, h3, h4, h5⟩ := h
  unfold rightE; rw [if_neg (by omega), if_neg (by omega)]
theorem right_c {X : QW} (h : SizeOk X) {j : Nat} {x : QC} (hx : X.classes[j]? = some x) (hj : ClsOk X j) {v : Int} (e : rcE X.classes j x = v) (hv : v ≠ 0) : rightE X = v := by
  subst e
  have := firstE_at hx hv hj
  rw [right_sized h, if_pos (by rw [this]; exact hv), this]
theorem clsOk_all {X : QW} (h : ClsOk X X.classes.length) : firstE (rcE X.classes) 0 X.classes = 0 := firstE_zero fun i y hy => h i y (lt_of_get hy) hy
theorem right_k {X : QW} (h : SizeOk X) (h1 : ClsOk X X.classes.length) {j : Nat} {x : QC} (hx : X.classes[j]? = some x) (hj : MethOk X j) {v : Int} (e : rkE X j x = v) (hv : v ≠ 0) : rightE X = v := by
  subst e
  have := firstE_at hx hv hj
  rw [right_sized h, if_neg (by rw [clsOk_all h1]; simp), if_pos (by rw [this]; exact hv), this]
theorem methOk_all {X : QW} (h : MethOk X X.classes.length) : firstE (rkE X) 0 X.classes = 0 := firstE_zero fun i y hy => h i y (lt_of_get hy) hy
theorem right_m {X : QW} (h : SizeOk X) (h1 : ClsOk X X.classes.length) {j : Nat} {x : QC} (hx : X.classes[j]? = some x) (hj : MethOk X j) (s : ¬ 6 < slotsW X.classes j) (n : ¬ 8 < x.methods.length) {i : Nat} {m : QM} (hm : x.methods[i]? = some m) (hi : ∀ k y, k < i → x.methods[k]? = some y → rmE X j x.methods k y = 0) {v : Int} (e : rmE X j x.methods i m = v) (hv : v ≠ 0) : rightE X = v := by
  refine right_k h h1 hx hj ?_ hv
  subst e
  unfold rkE
  rw [if_neg s, if_neg n, firstE_at hm hv hi]
theorem right_o {X : QW} (h : SizeOk X) (h1 : ClsOk X X.classes.length) (h2 : MethOk X X.classes.length) {j : Nat} {x : QO} (hx : X.heap[j]? = some x) (hj : ObjOk X j) {v : Int} (e : roE X j x = v) (hv : v ≠ 0) : rightE X = v := by
  subst e
  have := firstE_at hx hv hj
  rw [right_sized h, if_neg (by rw [clsOk_all h1]; simp), if_neg (by rw [methOk_all h2]; simp), this]
theorem right_v {X : QW} (h : SizeOk X) (h1 : ClsOk X X.classes.length) (h2 : MethOk X X.classes.length) {j : Nat} {x : QO} (hx : X.heap[j]? = some x) (hj : ObjOk X j) (f : ¬ (belowB X.classes.length x.cls = false ∨ (x.slots.length : Int) ≠ slotsW X.classes x.cls)) {i : Nat} {y : QV} (hy : x.slots[i]? = some y) (hi : ∀ k z, k < i → x.slots[k]? = some z → wrongV X.heap.length z = 0) (hv : wrongV X.heap.length y ≠ 0) : rightE X = wrongV X.heap.length y := by
  refine right_o h h1 h2 hx hj ?_ hv
  unfold roE
  rw [if_neg f]
  exact firstE_at (f := fun _ v => wrongV X.heap.length v) hy hv hi
theorem right_ok {X : QW} (h : SizeOk X) (h1 : ClsOk X X.classes.length) (h2 : MethOk X X.classes.length) (h3 : ObjOk X X.heap.length) : rightE X = 0 := by
  rw [right_sized h, if_neg (by rw [clsOk_all h1]; simp), if_neg (by rw [methOk_all h2]; simp)]
  exact firstE_zero fun i y hy => h3 i y (lt_of_get hy) hy
/-- What a right world is. -/
theorem right_is {X : QW} (h : rightE X = 0) : SizeOk X ∧ ClsOk X X.classes.length ∧ MethOk X X.classes.length ∧ ObjOk X X.heap.length := by
  unfold rightE at h
  split at h
  · cases h
  rename_i a1
  split at h
  · cases h
  rename_i a2
  split at h
  · rename_i a3; exact absurd h a3
  rename_i a3
  split at h
  · rename_i a4; exact absurd h a4
  rename_i a4
  have b3 := firstE_all (Decidable.of_not_not a3)
  have b4 := firstE_all (Decidable.of_not_not a4)
  have b5 := firstE_all h
  exact ⟨⟨by omega, by omega, by omega, by omega, by omega⟩, fun i x _ hx => b3 i x hx, fun i x _ hx => b4 i x hx, fun i x _ hx => b5 i x hx⟩
theorem rcE_slots {xs : List QC} {k : Nat} {x : QC} (h : rcE xs k x = 0) : 0 ≤ x.slots ∧ x.slots ≤ 6 := by
  unfold rcE at h
  split at h
  · cases h
  split at h <;> (repeat' (split at h)) <;> first | (cases h; done) | omega
theorem ClsOk.slots {X : QW} (h : ClsOk X X.classes.length) : SlotsOk X.classes := fun i x hx => rcE_slots (h i x (lt_of_get hx) hx)
theorem rcE_super {xs : List QC} {k : Nat} {x : QC} (h : rcE xs k x = 0) : x.super < k := by
  unfold rcE at h
  split at h
  · cases h
  split at h
  · rename_i y hy
    have hk := lt_of_get hy
    (repeat' (split at h)) <;> first | (cases h; done) | skip
    rename_i hs _
    have : x.super = y.super := by simpa using hs
    rw [this]
    match k, hk, hy with
    | 0, _, hy => cases hy; decide
    | 1, _, hy => cases hy; decide
    | 2, _, hy => cases hy; decide
    | 3, _, hy => cases hy; decide
  · rename_i hy
    have hk : 4 ≤ k := by
      rcases Nat.lt_or_ge k 4 with h4 | h4
      · have : k < newC.length := h4
        rw [List.getElem?_eq_getElem this] at hy; cases hy
      · exact h4
    (repeat' (split at h)) <;> first | (cases h; done) | skip
    rename_i hs _
    simp only [belowB, Bool.not_eq_false, decide_eq_true_eq] at hs
    omega
end Go.Proofs.YtjmidhghiahbaaaGreatDoor
