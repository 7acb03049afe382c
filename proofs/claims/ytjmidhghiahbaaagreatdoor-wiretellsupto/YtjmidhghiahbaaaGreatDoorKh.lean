/- Package code: Check. -/
import Derived.Test.YtjmidhghiahbaaaGreatDoorKg
namespace Go.Proofs.YtjmidhghiahbaaaGreatDoor
open Go.ChangeShapes Go.WideShapes Go.ChangeAt Go.RowKit
set_option linter.unusedSimpArgs false
set_option linter.unusedVariables false
set_option maxRecDepth 8000

/-- The first instruction of which f tells something wrong. -/
def badE (f : QI → Int) : Nat → List QI → Option (Int × Int)
  | _, [] => none
  | k, x :: r => if f x ≠ 0 then some (f x, (k : Int)) else badE f (k + 1) r
theorem badE_at {f : QI → Int} : ∀ {l : List QI} {k j : Nat} {x : QI}, l[j]? = some x → f x ≠ 0 → (∀ (i : Nat) y, i < j → l[i]? = some y → f y = 0) → badE f k l = some (f x, ((k + j : Nat) : Int))
  | [], k, j, x, h, _, _ => by simp at h
  | z :: r, k, 0, x, h, hx, _ => by
    simp at h
    subst h
    simp [badE, hx]
  | z :: r, k, j + 1, x, h, hx, hp => by
    have h0 : f z = 0 := hp 0 z (by omega) rfl
    unfold badE
    rw [if_neg (by simp [h0]), badE_at (l := r) (k := k + 1) (j := j) (by simpa using h) hx fun i y hi hy => hp (i + 1) y (by omega) (by simpa using hy)]
    congr 3
    omega
theorem badE_none {f : QI → Int} : ∀ {l : List QI} {k : Nat}, (∀ (i : Nat) y, l[i]? = some y → f y = 0) → badE f k l = none
  | [], k, _ => rfl
  | z :: r, k, hp => by
    unfold badE
    rw [if_neg (by simp [hp 0 z rfl])]
    exact badE_none fun i y hy => hp (i + 1) y (by simpa using hy)
theorem badE_all {f : QI → Int} : ∀ {l : List QI} {k : Nat}, badE f k l = none → ∀ x ∈ l, f x = 0
  | [], k, _, x, hx => by simp at hx
  | z :: r, k, h, x, hx => by
    unfold badE at h
    by_cases h0 : f z = 0
    · rw [if_neg (by simp [h0])] at h
      rcases List.mem_cons.1 hx with rfl | hx
      · exact h0
      · exact badE_all h x hx
    · rw [if_pos h0] at h; cases h
/-- What Check tells: S slots, n classes. -/
def checkE (S n c : Int) (m : QM) : Int × Int :=
  if wmE n c m ≠ 0 then (wmE n c m, 0) else match badE (numE S n m) 0 m.code with
    | some f => f
    | none => (heightsE m.code).2
theorem numE_send {S n : Int} {m : QM} {x : QI} (h : numE S n m x = 0) : x.op = 14 → 0 ≤ x.a ∧ x.a ≤ 4 := fun h14 => by
  unfold numE at h
  split at h
  · cases h
  · split at h
    · cases h
    · rename_i hra
      simp [raE, h14, inR] at hra
      exact hra
theorem wmE_args {n c : Int} {m : QM} (h : wmE n c m = 0) : (0 ≤ m.args ∧ m.args ≤ 4) ∧ (0 ≤ m.temps ∧ m.temps ≤ 6) ∧ 1 ≤ m.code.length ∧ m.code.length ≤ 60 ∧ 0 ≤ c ∧ c ≤ n - 1 := by
  unfold wmE at h
  (repeat' split at h) <;> first | (exfalso; omega) | skip
  rename_i h1 h2 h3 h4 h5
  simp [inR] at h1 h3 h5
  omega

set_option maxHeartbeats 2000000 in
theorem wrongMethod_any (X : QW) (c : Int) (m : QM) (ad ah am : Option Addr) (cap ch cm : Nat) (w : World) (hby : X.classes.length * 56 ≤ 140737488351232) (hcb : m.code.length * 48 ≤ 140737488351232) (hmn : m.name.size ≤ 140737488351232) : Calls Tryz.prog 71 #[WV (.slice ad X.classes.length cap) (.slice ah X.heap.length ch) X.epoch, .int .i64 c, MV m (.slice am m.code.length cm)] w fun e w' => e = .returned (.int .i64 (wmE X.classes.length c m)) ∧ Below w.heap.size w w' := by
  have hw4 : IntKind.i64.wrap ((X.classes.length : Int) - 1) = (X.classes.length : Int) - 1 := wrap_of (by omega) (by omega)
  have hb2 := bel2 w (Obj.cells #[Value.slice ad X.classes.length cap, Value.slice ah X.heap.length ch, Value.int IntKind.i64 X.epoch] 25) (Obj.cells #[Value.string m.name, Value.int IntKind.i64 m.args, Value.int IntKind.i64 m.temps, Value.int IntKind.i64 m.prim, Value.slice am m.code.length cm] 43)
  have mb := blk_new (w.alloc (Obj.cells #[Value.slice ad X.classes.length cap, Value.slice ah X.heap.length ch, Value.int IntKind.i64 X.epoch] 25)) (Obj.cells #[Value.string m.name, Value.int IntKind.i64 m.args, Value.int IntKind.i64 m.temps, Value.int IntKind.i64 m.prim, Value.slice am m.code.length cm] 43) (w.heap.size + 1) (by simp)
  have HE : Hid (wmE X.classes.length c m = if inR c 0 (X.classes.length - 1) = false then 6 else if nameB m.name = false then 7 else if inR m.args 0 4 = false ∨ inR m.temps 0 6 = false then 3 else if m.prim ≠ 0 then 1 else if inR m.code.length 1 60 = false then 5 else 0) := rfl
  generalize wmE X.classes.length c m = u at *
  go_enter Tryz.func71, Tryz.ntmps71
  go_wp2_with fail
  refine (within_any _ _ _ _).mono ?_
  rintro e w1 ⟨rfl, hb⟩
  replace hb2 := nstep hb2 hb
  replace mb := box_later' mb hb
  clear hb
  cases h1 : inR c 0 ((X.classes.length : Int) - 1)
  · go_wp2
    go_ret
    exact ⟨ret_i (by rw [HE.out, if_pos h1]), hb2⟩
  · have mc : ∀ q, w1.cell? ⟨w.heap.size + 1, q, none⟩ = (#[Value.string m.name, Value.int IntKind.i64 m.args, Value.int IntKind.i64 m.temps, Value.int IntKind.i64 m.prim, Value.slice am m.code.length cm] : Array Value)[q]? := fun q => by rw [cell_of_row _ _ _ _ _ _ mb]
    go_wp2_with fail
    refine (name_any m.name _ hmn).mono ?_
    rintro e w2 ⟨rfl, hb⟩
    replace hb2 := nstep hb2 hb
    replace mb := box_later' mb hb
    clear hb mc
    cases h2 : nameB m.name
    · go_wp2
      go_ret
      exact ⟨ret_i (by rw [HE.out, if_neg (by rw [h1]; simp), if_pos h2]), hb2⟩
    · have mc : ∀ q, w2.cell? ⟨w.heap.size + 1, q, none⟩ = (#[Value.string m.name, Value.int IntKind.i64 m.args, Value.int IntKind.i64 m.temps, Value.int IntKind.i64 m.prim, Value.slice am m.code.length cm] : Array Value)[q]? := fun q => by rw [cell_of_row _ _ _ _ _ _ mb]
      go_wp2_with fail
      refine (within_any _ _ _ _).mono ?_
      rintro e w3 ⟨rfl, hb⟩
      replace hb2 := nstep hb2 hb
      replace mb := box_later' mb hb
      clear hb mc
      cases h3 : inR m.args 0 4
      · go_wp2
        go_ret
        exact ⟨ret_i (by rw [HE.out, if_neg (by rw [h1]; simp), if_neg (by rw [h2]; simp), if_pos (Or.inl h3)]), hb2⟩
      · have mc : ∀ q, w3.cell? ⟨w.heap.size + 1, q, none⟩ = (#[Value.string m.name, Value.int IntKind.i64 m.args, Value.int IntKind.i64 m.temps, Value.int IntKind.i64 m.prim, Value.slice am m.code.length cm] : Array Value)[q]? := fun q => by rw [cell_of_row _ _ _ _ _ _ mb]
        go_wp2_with fail
        refine (within_any _ _ _ _).mono ?_
        rintro e w4 ⟨rfl, hb⟩
        replace hb2 := nstep hb2 hb
        replace mb := box_later' mb hb
        clear hb mc
        cases h4 : inR m.temps 0 6
        · go_wp2
          go_ret
          exact ⟨ret_i (by rw [HE.out, if_neg (by rw [h1]; simp), if_neg (by rw [h2]; simp), if_pos (Or.inr h4)]), hb2⟩
        · have mc : ∀ q, w4.cell? ⟨w.heap.size + 1, q, none⟩ = (#[Value.string m.name, Value.int IntKind.i64 m.args, Value.int IntKind.i64 m.temps, Value.int IntKind.i64 m.prim, Value.slice am m.code.length cm] : Array Value)[q]? := fun q => by rw [cell_of_row _ _ _ _ _ _ mb]
          have HE2 : Hid (u = if m.prim ≠ 0 then 1 else if inR m.code.length 1 60 = false then 5 else 0) := by
            show _ = _
            rw [HE.out, if_neg (by rw [h1]; simp), if_neg (by rw [h2]; simp), if_neg (by rw [h3, h4]; simp)]
          by_cases h5 : m.prim = 0
          · go_wp2_with fail
            refine (within_any _ _ _ _).mono ?_
            rintro e w5 ⟨rfl, hb⟩
            replace hb2 := nstep hb2 hb
            clear hb mc
            cases h6 : inR (m.code.length : Int) 1 60
            · go_wp2
              go_ret
              exact ⟨ret_i (by rw [HE2.out, if_neg (by simp [h5]), if_pos h6]), hb2⟩
            · go_wp2
              go_ret
              exact ⟨ret_i (by rw [HE2.out, if_neg (by simp [h5]), if_neg (by rw [h6]; simp)]), hb2⟩
          · have h5' : (m.prim != 0) = true := by simpa using h5
            go_wp2
            go_ret
            exact ⟨ret_i (by rw [HE2.out, if_pos h5]), hb2⟩

set_option maxHeartbeats 2000000 in
theorem wrongInstr_any {P : Nat → Prop} (X : QW) (c : Int) (m : QM) (x : QI) (cv hv mv : Value) (w : World) (hh : IsClasses P w cv X.classes) (hH : IsHeap P w hv X.heap) (hM : IsCode P w mv m.code) (ha : 0 ≤ m.args ∧ m.args ≤ 4) (ht : 0 ≤ m.temps ∧ m.temps ≤ 6) (hn : x.name.size ≤ 140737488351232) : Calls Tryz.prog 72 #[WV cv hv X.epoch, .int .i64 c, MV m mv, IV x] w fun e w' => e = .returned (.int .i64 (numE (slotsW X.classes c) X.classes.length m x)) ∧ Below w.heap.size w w' := by
  obtain ⟨ad, cap, rfl⟩ := hh.get
  obtain ⟨ah, ch, rfl⟩ := hH.get
  obtain ⟨am, cm, rfl⟩ := hM.get
  have hb2 := bel3 w (Obj.cells #[Value.slice ad X.classes.length cap, Value.slice ah X.heap.length ch, Value.int IntKind.i64 X.epoch] 25) (Obj.cells #[Value.string m.name, Value.int IntKind.i64 m.args, Value.int IntKind.i64 m.temps, Value.int IntKind.i64 m.prim, Value.slice am m.code.length cm] 43) (Obj.cells #[Value.int IntKind.i64 x.op, Value.int IntKind.i64 x.a, Value.int IntKind.i64 x.b, Value.int IntKind.i64 x.c, Value.string x.name] 62)
  have wb : (((w.alloc (Obj.cells #[Value.slice ad X.classes.length cap, Value.slice ah X.heap.length ch, Value.int IntKind.i64 X.epoch] 25)).alloc (Obj.cells #[Value.string m.name, Value.int IntKind.i64 m.args, Value.int IntKind.i64 m.temps, Value.int IntKind.i64 m.prim, Value.slice am m.code.length cm] 43)).alloc (Obj.cells #[Value.int IntKind.i64 x.op, Value.int IntKind.i64 x.a, Value.int IntKind.i64 x.b, Value.int IntKind.i64 x.c, Value.string x.name] 62)).heap[w.heap.size]? = some (.cells #[Value.slice ad X.classes.length cap, Value.slice ah X.heap.length ch, Value.int IntKind.i64 X.epoch] 25 (0, 0)) := ((bel2 _ _ _).block _ (by simp)).trans (blk_new _ _ _ rfl)
  have mb : (((w.alloc (Obj.cells #[Value.slice ad X.classes.length cap, Value.slice ah X.heap.length ch, Value.int IntKind.i64 X.epoch] 25)).alloc (Obj.cells #[Value.string m.name, Value.int IntKind.i64 m.args, Value.int IntKind.i64 m.temps, Value.int IntKind.i64 m.prim, Value.slice am m.code.length cm] 43)).alloc (Obj.cells #[Value.int IntKind.i64 x.op, Value.int IntKind.i64 x.a, Value.int IntKind.i64 x.b, Value.int IntKind.i64 x.c, Value.string x.name] 62)).heap[w.heap.size + 1]? = some (.cells #[Value.string m.name, Value.int IntKind.i64 m.args, Value.int IntKind.i64 m.temps, Value.int IntKind.i64 m.prim, Value.slice am m.code.length cm] 43 (0, 0)) := ((bel1 _ _).block _ (by simp)).trans (blk_new _ _ _ (by simp))
  have xb : (((w.alloc (Obj.cells #[Value.slice ad X.classes.length cap, Value.slice ah X.heap.length ch, Value.int IntKind.i64 X.epoch] 25)).alloc (Obj.cells #[Value.string m.name, Value.int IntKind.i64 m.args, Value.int IntKind.i64 m.temps, Value.int IntKind.i64 m.prim, Value.slice am m.code.length cm] 43)).alloc (Obj.cells #[Value.int IntKind.i64 x.op, Value.int IntKind.i64 x.a, Value.int IntKind.i64 x.b, Value.int IntKind.i64 x.c, Value.string x.name] 62)).heap[w.heap.size + 1 + 1]? = some (.cells #[Value.int IntKind.i64 x.op, Value.int IntKind.i64 x.a, Value.int IntKind.i64 x.b, Value.int IntKind.i64 x.c, Value.string x.name] 62 (0, 0)) := blk_new _ _ _ (by simp)
  have HE : Hid (numE (slotsW X.classes c) X.classes.length m x = if inR x.op 1 17 = false then 1 else if raE (slotsW X.classes c) X.classes.length m x = false then 3 else if rnB x = false ∨ x.b ≠ 0 ∨ x.c ≠ 0 then 2 else 0) := rfl
  generalize numE (slotsW X.classes c) X.classes.length m x = u at *
  go_enter Tryz.func72, Tryz.ntmps72
  go_wp2_with fail
  refine (within_any _ _ _ _).mono ?_
  rintro e w1 ⟨rfl, hb⟩
  replace hb2 := nstep hb2 hb
  replace mb := box_later' mb hb
  replace wb := box_later' wb hb
  replace xb := box_later' xb hb
  clear hb
  cases h1 : inR x.op 1 17
  · go_wp2
    go_ret
    exact ⟨ret_i (by rw [HE.out, if_pos h1]), hb2⟩
  · have wc : ∀ q, w1.cell? ⟨w.heap.size, q, none⟩ = (#[Value.slice ad X.classes.length cap, Value.slice ah X.heap.length ch, Value.int IntKind.i64 X.epoch] : Array Value)[q]? := fun q => by rw [cell_of_row _ _ _ _ _ _ wb]
    have mc : ∀ q, w1.cell? ⟨w.heap.size + 1, q, none⟩ = (#[Value.string m.name, Value.int IntKind.i64 m.args, Value.int IntKind.i64 m.temps, Value.int IntKind.i64 m.prim, Value.slice am m.code.length cm] : Array Value)[q]? := fun q => by rw [cell_of_row _ _ _ _ _ _ mb]
    have xc : ∀ q, w1.cell? ⟨w.heap.size + 1 + 1, q, none⟩ = (#[Value.int IntKind.i64 x.op, Value.int IntKind.i64 x.a, Value.int IntKind.i64 x.b, Value.int IntKind.i64 x.c, Value.string x.name] : Array Value)[q]? := fun q => by rw [cell_of_row _ _ _ _ _ _ xb]
    go_wp2_with fail
    refine (rightA_any X c m x _ _ _ _ (hh.later goodC hb2) (hH.later goodO hb2) (hM.later goodI hb2) ha ht).mono ?_
    rintro e w2 ⟨rfl, hb⟩
    replace hb2 := nstep hb2 hb
    replace xb := box_later' xb hb
    clear hb wc mc xc
    cases h2 : raE (slotsW X.classes c) X.classes.length m x
    · go_wp2
      go_ret
      exact ⟨ret_i (by rw [HE.out, if_neg (by rw [h1]; simp), if_pos h2]), hb2⟩
    · have xc : ∀ q, w2.cell? ⟨w.heap.size + 1 + 1, q, none⟩ = (#[Value.int IntKind.i64 x.op, Value.int IntKind.i64 x.a, Value.int IntKind.i64 x.b, Value.int IntKind.i64 x.c, Value.string x.name] : Array Value)[q]? := fun q => by rw [cell_of_row _ _ _ _ _ _ xb]
      have HE2 : Hid (u = if rnB x = false ∨ x.b ≠ 0 ∨ x.c ≠ 0 then 2 else 0) := by show _ = _; rw [HE.out, if_neg (by rw [h1]; simp), if_neg (by rw [h2]; simp)]
      go_wp2_with fail
      refine (rightName_any x _ hn).mono ?_
      rintro e w3 ⟨rfl, hb⟩
      replace hb2 := nstep hb2 hb
      replace xb := box_later' xb hb
      clear hb xc
      have xc : ∀ q, w3.cell? ⟨w.heap.size + 1 + 1, q, none⟩ = (#[Value.int IntKind.i64 x.op, Value.int IntKind.i64 x.a, Value.int IntKind.i64 x.b, Value.int IntKind.i64 x.c, Value.string x.name] : Array Value)[q]? := fun q => by rw [cell_of_row _ _ _ _ _ _ xb]
      cases h3 : rnB x
      · go_wp2
        go_ret
        exact ⟨ret_i (by rw [HE2.out, if_pos (Or.inl h3)]), hb2⟩
      · by_cases h4 : x.b = 0
        · by_cases h5 : x.c = 0
          · go_wp2
            go_ret
            exact ⟨ret_i (by rw [HE2.out, if_neg (by rw [h3, h4, h5]; simp)]), hb2⟩
          · have h5' : (x.c != 0) = true := by simpa using h5
            go_wp2
            go_ret
            exact ⟨ret_i (by rw [HE2.out, if_pos (Or.inr (Or.inr h5))]), hb2⟩
        · have h4' : (x.b != 0) = true := by simpa using h4
          go_wp2
          go_ret
          exact ⟨ret_i (by rw [HE2.out, if_pos (Or.inr (Or.inl h4))]), hb2⟩
end Go.Proofs.YtjmidhghiahbaaaGreatDoor
