/- Values and objects as they lie in memory; Class and Slot. -/
import Derived.Test.YtlmejfipgingeaaVa
import Derived.Deep.LoopGhost
namespace Go.Proofs.Ytlmejfipgingeaa
open Go.ChangeShapes Go.WideShapes Go.ChangeAt Go.RowKit
set_option linter.unusedSimpArgs false
set_option linter.unusedVariables false

/-- A value, as data. -/
structure QV where
  k : Int
  n : Int
/-- An object, as data. -/
structure QO where
  cls : Int
  slots : List QV
abbrev QV.v (x : QV) : Value := V2 x.k x.n

/-- At each place of the row, in a block from lo on, lies what E says. -/
def RowAt {α : Type} (lo : Nat) (E : World → Nat → Nat → α → Prop) (sz : Nat) (w : World) (ad : Option Addr) (xs : List α) : Prop :=
  ∀ i x, xs[i]? = some x → ∃ b o, ad = some ⟨b, o, none⟩ ∧ lo ≤ b ∧ E w b (o + i * sz) x
/-- A slice's value over such a row; bytes: of one element. -/
def IsRow {α : Type} (lo : Nat) (E : World → Nat → Nat → α → Prop) (sz bytes : Nat) (w : World) (v : Value) (xs : List α) : Prop :=
  ∃ ad cap, v = .slice ad xs.length cap ∧ xs.length ≤ cap ∧ cap ≤ maxLen ∧ xs.length * bytes ≤ 140737488351232 ∧ RowAt lo E sz w ad xs
def ValAt (w : World) (b o : Nat) (x : QV) : Prop := w.cell? ⟨b, o, none⟩ = some (.int .i64 x.k) ∧ w.cell? ⟨b, o + 1, none⟩ = some (.int .i64 x.n)
def IsVals (lo : Nat) (w : World) (v : Value) (xs : List QV) : Prop := IsRow lo ValAt 2 16 w v xs
def ObjAt (lo : Nat) (w : World) (b o : Nat) (x : QO) : Prop := w.cell? ⟨b, o, none⟩ = some (.int .i64 x.cls) ∧ ∃ v, w.cell? ⟨b, o + 1, none⟩ = some v ∧ IsVals lo w v x.slots
def IsHeap (lo : Nat) (w : World) (v : Value) (hs : List QO) : Prop := IsRow lo (ObjAt lo) 2 32 w v hs

/-- What lies in blocks from lo on lies there still, where those blocks' cells do. -/
theorem IsRow.map {α : Type} {lo lo' : Nat} {E E' : World → Nat → Nat → α → Prop} {sz bytes : Nat} {w w' : World} {v : Value} {xs : List α} (hl : lo' ≤ lo) (hE : ∀ b o x, lo ≤ b → E w b o x → E' w' b o x) (h : IsRow lo E sz bytes w v xs) : IsRow lo' E' sz bytes w' v xs := by
  obtain ⟨ad, cap, h1, h2, h3, h4, h5⟩ := h
  refine ⟨ad, cap, h1, h2, h3, h4, fun i x hx => ?_⟩
  obtain ⟨b, o, e1, e2, e3⟩ := h5 i x hx
  exact ⟨b, o, e1, by omega, hE _ _ _ e2 e3⟩
/-- All cells from block lo on that are there in w are there in w', too. -/
def Keeps (lo : Nat) (w w' : World) : Prop := ∀ b o v, lo ≤ b → w.cell? ⟨b, o, none⟩ = some v → w'.cell? ⟨b, o, none⟩ = some v
theorem Keeps.of_below {lo : Nat} {w w' : World} (hb : Below w.heap.size w w') : Keeps lo w w' := fun b o v _ h => cell_later hb h
theorem Keeps.of_setCell {lo : Nat} {w : World} {a : Addr} (ha : a.block < lo) (u : Value) : Keeps lo w (w.setCell a u) := fun b o v hl h => by
  rw [World.cell?_setCell_other _ _ _ _ (by intro e; subst e; simp at ha; omega)]; exact h
theorem Keeps.trans {lo : Nat} {w w' w'' : World} (h : Keeps lo w w') (k : Keeps lo w' w'') : Keeps lo w w'' := fun b o v hl hc => k b o v hl (h b o v hl hc)
theorem Keeps.mono {lo lo' : Nat} {w w' : World} (h : Keeps lo w w') (hl : lo ≤ lo') : Keeps lo' w w' := fun b o v hb hc => h b o v (by omega) hc
theorem IsVals.keep {lo lo' : Nat} {w w' : World} (hk : Keeps lo w w') (hl : lo' ≤ lo) {v : Value} {xs : List QV} (h : IsVals lo w v xs) : IsVals lo' w' v xs := IsRow.map hl (fun b o x hb h => ⟨hk _ _ _ hb h.1, hk _ _ _ hb h.2⟩) h
theorem IsHeap.keep {lo lo' : Nat} {w w' : World} (hk : Keeps lo w w') (hl : lo' ≤ lo) {v : Value} {hs : List QO} (h : IsHeap lo w v hs) : IsHeap lo' w' v hs :=
  IsRow.map hl (fun b o x hb h => by obtain ⟨h1, v, h2, h3⟩ := h; exact ⟨hk _ _ _ hb h1, v, hk _ _ _ hb h2, h3.keep hk hl⟩) h
theorem IsVals.later {lo : Nat} {w w' : World} (hb : Below w.heap.size w w') {v : Value} {xs : List QV} (h : IsVals lo w v xs) : IsVals lo w' v xs := h.keep (.of_below hb) (Nat.le_refl _)
theorem IsHeap.later {lo : Nat} {w w' : World} (hb : Below w.heap.size w w') {v : Value} {hs : List QO} (h : IsHeap lo w v hs) : IsHeap lo w' v hs := h.keep (.of_below hb) (Nat.le_refl _)
theorem IsVals.mono {lo lo' : Nat} {w : World} {v : Value} {xs : List QV} (h : IsVals lo w v xs) (hl : lo' ≤ lo) : IsVals lo' w v xs := h.keep (fun _ _ _ _ h => h) hl
theorem IsHeap.mono {lo lo' : Nat} {w : World} {v : Value} {hs : List QO} (h : IsHeap lo w v hs) (hl : lo' ≤ lo) : IsHeap lo' w v hs := h.keep (fun _ _ _ _ h => h) hl

/-- The class of a value. -/
def classE (hs : List QO) (k n : Int) : Int :=
  if k = 0 then 1 else if k = 1 ∨ k = 2 then 2 else if k = 3 then 3
  else if inB k n hs.length then ((hs[n.toNat]?).map QO.cls).getD 0 else 0

theorem bel1 (w : World) (a : Obj) : Below w.heap.size w (w.alloc a) := (Below.refl _ _).alloc (Nat.le_refl _) _

theorem classE_in {hs : List QO} {m : Nat} (hm : m < hs.length) : classE hs 4 (m : Int) = hs[m].cls := by
  have : inB 4 (m : Int) hs.length = true := by unfold inB; simp; omega
  simp [classE, this, hm]

set_option maxHeartbeats 400000 in
theorem class_any {lo : Nat} (hs : List QO) (k n : Int) (v : Value) (w : World) (hh : IsHeap lo w v hs) : Calls Try.prog 8 #[v, V2 k n] w fun e w' => e = .returned (.int .i64 (classE hs k n)) ∧ Below w.heap.size w w' := by
  obtain ⟨ad, cap, rfl, hl, hcap, hby, hrow⟩ := hh
  by_cases hi : inB k n hs.length = true
  · have hx : k = 4 ∧ 0 ≤ n ∧ n < hs.length := by unfold inB at hi; simpa using hi
    obtain ⟨rfl, h0, hn⟩ := hx
    obtain ⟨m, rfl⟩ := Int.eq_ofNat_of_zero_le h0
    have hm : m < hs.length := by omega
    obtain ⟨b, o, rfl, -, ho⟩ := hrow m hs[m] (by simp [hm])
    have hc0 := ho.1
    go_enter Try.func8, Try.ntmps8
    go_wp2_with (go_at_call 21; refine (isIn_any _ _ _ _ _ _).mono ?_; rintro e w' ⟨rfl, hb1⟩; obtain ⟨hc, hf⟩ := bcell hb1; have hd := cell_later hb1 (cell_later (bel1 _ _) hc0))
    go_ret
    exact ⟨ret_i (classE_in hm).symm, (bel1 _ _).trans (hb1.mono (by simp))⟩
  · have hj : inB k n hs.length = false := by simpa using hi
    have HI : Hid (¬ inB k n hs.length = true) := hi
    clear hi
    go_enter Try.func8, Try.ntmps8
    go_wp2_with (go_at_call 21; refine (isIn_any _ _ _ _ _ _).mono ?_; rintro e w' ⟨rfl, hb1⟩)
    all_goals go_ret
    all_goals
      refine ⟨ret_i ?_, ?_⟩
      · have hi := HI.out
        go_light
        try simp only [beq_iff_eq, bne_iff_ne, ne_eq, beq_eq_false_iff_ne, bne_eq_false_iff_eq] at *
        unfold classE
        rw [if_neg hi]
        (repeat' split) <;> omega
      · first | exact bel1 _ _ | exact (bel1 _ _).trans (Below.mono (by assumption) (by simp))

set_option maxHeartbeats 400000 in
theorem rclass_any {lo : Nat} (hs : List QO) (k n : Int) (v : Value) (w : World) (hh : IsHeap lo w v hs) : Calls Try.prog 9 #[v, V2 k n] w fun e w' => e = .returned (.int .i64 (classE hs k n)) ∧ Below w.heap.size w w' := by
  obtain ⟨ad, cap, rfl, hl, hcap, hby, hrow⟩ := hh
  by_cases hi : inB k n hs.length = true
  · have hx : k = 4 ∧ 0 ≤ n ∧ n < hs.length := by unfold inB at hi; simpa using hi
    obtain ⟨rfl, h0, hn⟩ := hx
    obtain ⟨m, rfl⟩ := Int.eq_ofNat_of_zero_le h0
    have hm : m < hs.length := by omega
    obtain ⟨b, o, rfl, -, ho⟩ := hrow m hs[m] (by simp [hm])
    have hc0 := fun x => cell_later (bel1 w x) ho.1
    go_enter Try.func9, Try.ntmps9
    go_wp2
    go_ret
    exact ⟨ret_i (classE_in hm).symm, bel1 _ _⟩
  · have hj : ¬ (k = 4 ∧ 0 ≤ n ∧ n < hs.length) := by unfold inB at hi; simpa using hi
    have HI : Hid (¬ inB k n hs.length = true) := hi
    clear hi
    by_cases hk : k < 0 ∨ 3 < k
    · have hcl : Hid ((0 : Int) = classE hs k n) := by
        show _ = _
        have hi := HI.out
        unfold classE
        rw [if_neg hi]
        (repeat' split) <;> omega
      by_cases h4 : k = 4
      · subst h4
        have hn : n < 0 ∨ (hs.length : Int) ≤ n := by omega
        clear hj hk
        rcases hn with hn | hn
        all_goals
          go_enter Try.func9, Try.ntmps9
          go_wp2
        all_goals (go_ret; exact ⟨ret_i hcl.out, bel1 _ _⟩)
      · have h4' : (k == 4) = false := by simpa using h4
        clear hj h4
        rcases hk with hk | hk
        all_goals
          go_enter Try.func9, Try.ntmps9
          go_wp2
        all_goals (go_ret; exact ⟨ret_i hcl.out, bel1 _ _⟩)
    · have h0 : 0 ≤ k := by omega
      clear hj
      obtain ⟨m, rfl⟩ := Int.eq_ofNat_of_zero_le h0
      have hm : m = 0 ∨ m = 1 ∨ m = 2 ∨ m = 3 := by omega
      rcases hm with rfl | rfl | rfl | rfl
      all_goals
        go_enter Try.func9, Try.ntmps9
        go_wp2
        go_ret
        exact ⟨ret_i (by simp [classE]), (bel1 _ _).alloc (by simp) _⟩

end Go.Proofs.Ytlmejfipgingeaa
