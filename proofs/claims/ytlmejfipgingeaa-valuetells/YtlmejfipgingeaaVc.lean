/- Slot, of package value and of its reference. -/
import Derived.Test.YtlmejfipgingeaaVb
namespace Go.Proofs.Ytlmejfipgingeaa
open Go.ChangeShapes Go.WideShapes Go.ChangeAt Go.RowKit
set_option linter.unusedSimpArgs false
set_option linter.unusedVariables false

/-- What an object has there. -/
def slotE (hs : List QO) (k n i : Int) : QV :=
  if inB k n hs.length = true ∧ 0 ≤ i then (((hs[n.toNat]?).bind fun o => o.slots[i.toNat]?).getD ⟨0, 0⟩) else ⟨0, 0⟩

theorem slotE_out {hs : List QO} {k n i : Int} (h : inB k n hs.length = false ∨ i < 0) : slotE hs k n i = ⟨0, 0⟩ := by
  unfold slotE
  rw [if_neg]
  rintro ⟨h1, h2⟩
  rcases h with h | h
  · rw [h] at h1; cases h1
  · omega
theorem slotE_far {hs : List QO} {m : Nat} {i : Int} (hm : m < hs.length) (h : hs[m].slots.length ≤ i) : slotE hs 4 (m : Int) i = ⟨0, 0⟩ := by
  unfold slotE
  split
  · have : hs[m].slots.length ≤ i.toNat := by omega
    simp [hm, this]
  · rfl
theorem slotE_in {hs : List QO} {m j : Nat} (hm : m < hs.length) (hj : j < hs[m].slots.length) : slotE hs 4 (m : Int) (j : Int) = hs[m].slots[j] := by
  have : inB 4 (m : Int) hs.length = true := by unfold inB; simp; omega
  unfold slotE
  rw [if_pos ⟨this, by omega⟩]
  simp [hm, hj]
theorem inB_nat {m n : Nat} (hm : m < n) : inB 4 (m : Int) n = true := by unfold inB; simp; omega

theorem bel2 (w : World) (a b : Obj) : Below w.heap.size w ((w.alloc a).alloc b) := (bel1 _ _).alloc (by simp) _

theorem bel2c {w w' : World} {a b : Obj} (hb : Below ((w.alloc a).alloc b).heap.size ((w.alloc a).alloc b) w') (x y : Value) :
    Below w.heap.size w ((w'.setCell ⟨w.heap.size + 1, 0, none⟩ x).setCell ⟨w.heap.size + 1, 1, none⟩ y) :=
  ((((bel2 _ _ _).trans (hb.mono (by simp; omega))).setCell (by simp) _).setCell (by simp) _)

set_option maxHeartbeats 400000 in
theorem slot_any {lo : Nat} (hs : List QO) (k n i : Int) (v : Value) (w : World) (hh : IsHeap lo w v hs) : Calls Try.prog 10 #[v, V2 k n, .int .i64 i] w fun e w' => e = .returned (slotE hs k n i).v ∧ Below w.heap.size w w' := by
  obtain ⟨ad, cap, rfl, hl, hcap, hby, hrow⟩ := hh
  by_cases hi : inB k n hs.length = false ∨ i < 0
  · have HE : Hid (slotE hs k n i = ⟨0, 0⟩) := slotE_out hi
    rcases hi with hi | hi
    · go_enter Try.func10, Try.ntmps10
      go_wp2_with (go_at_call 21; refine (isIn_any _ _ _ _ _ _).mono ?_; rintro e w' ⟨rfl, hb1⟩; obtain ⟨hc, hf⟩ := bcell hb1)
      rw [HE.out]
      refine bodyPost_ret (v := V2 0 0) (by simp [results, Try.results10, go_sem, hc]) rfl ⟨rfl, bel2c hb1 _ _⟩
    · go_enter Try.func10, Try.ntmps10
      go_wp2_with (go_at_call 21; refine (isIn_any _ _ _ _ _ _).mono ?_; rintro e w' ⟨rfl, hb1⟩; obtain ⟨hc, hf⟩ := bcell hb1)
      all_goals
        rw [HE.out]
        exact bodyPost_ret (v := V2 0 0) (by simp [results, Try.results10, go_sem, hc]) rfl ⟨rfl, bel2c hb1 _ _⟩
  · have hx : k = 4 ∧ 0 ≤ n ∧ n < hs.length := by unfold inB at hi; simp at hi; omega
    obtain ⟨rfl, h0, hn⟩ := hx
    obtain ⟨m, rfl⟩ := Int.eq_ofNat_of_zero_le h0
    have hi0 : 0 ≤ i := by omega
    obtain ⟨j, rfl⟩ := Int.eq_ofNat_of_zero_le hi0
    have hm : m < hs.length := by omega
    obtain ⟨b, o, rfl, -, ho⟩ := hrow m hs[m] (by simp [hm])
    obtain ⟨-, sv, hs1, ad2, cap2, rfl, hl2, hcap2, hby2, hrow2⟩ := ho
    clear hi hrow
    have hin := inB_nat hm
    by_cases hj : j < hs[m].slots.length
    · obtain ⟨b2, o2, rfl, -, hv1, hv2⟩ := hrow2 j hs[m].slots[j] (by simp [hj])
      have HE : Hid (slotE hs 4 (m : Int) (j : Int) = hs[m].slots[j]) := slotE_in hm hj
      clear hrow2
      generalize hs[m].slots[j] = x at *
      generalize hs[m].slots.length = len2 at *
      have t1 := fun a b => cell_later (bel2 w a b) hs1
      have t2 := fun a b => cell_later (bel2 w a b) hv1
      have t3 := fun a b => cell_later (bel2 w a b) hv2
      go_enter Try.func10, Try.ntmps10
      go_wp2_with (go_at_call 21; refine (isIn_any _ _ _ _ _ _).mono ?_; rintro e w' ⟨rfl, hb1⟩; obtain ⟨hc, hf⟩ := bcell hb1; have t1 := cell_later hb1 (t1 _ _); have t2 := cell_later hb1 (t2 _ _); have t3 := cell_later hb1 (t3 _ _))
      rw [HE.out]
      exact bodyPost_ret (v := x.v) (by simp [results, Try.results10, go_sem, hc]) rfl ⟨rfl, bel2c hb1 _ _⟩
    · have HE : Hid (slotE hs 4 (m : Int) (j : Int) = ⟨0, 0⟩) := slotE_far hm (by omega)
      have hj' : (hs[m].slots.length : Int) ≤ (j : Int) := by omega
      clear hrow2
      generalize hs[m].slots.length = len2 at *
      have t1 := fun a b => cell_later (bel2 w a b) hs1
      go_enter Try.func10, Try.ntmps10
      go_wp2_with (go_at_call 21; refine (isIn_any _ _ _ _ _ _).mono ?_; rintro e w' ⟨rfl, hb1⟩; obtain ⟨hc, hf⟩ := bcell hb1; have t1 := cell_later hb1 (t1 _ _))
      rw [HE.out]
      exact bodyPost_ret (v := V2 0 0) (by simp [results, Try.results10, go_sem, hc]) rfl ⟨rfl, bel2c hb1 _ _⟩

set_option maxHeartbeats 600000 in
theorem rslot_any {lo : Nat} (hs : List QO) (k n i : Int) (v : Value) (w : World) (hh : IsHeap lo w v hs) : Calls Try.prog 11 #[v, V2 k n, .int .i64 i] w fun e w' => e = .returned (slotE hs k n i).v ∧ Below w.heap.size w w' := by
  obtain ⟨ad, cap, rfl, hl, hcap, hby, hrow⟩ := hh
  by_cases hi : inB k n hs.length = false
  · have HE : Hid (slotE hs k n i = ⟨0, 0⟩) := slotE_out (Or.inl hi)
    have hj : ¬ (k = 4 ∧ 0 ≤ n ∧ n < hs.length) := by unfold inB at hi; simpa using hi
    clear hi
    by_cases h4 : k = 4
    · subst h4
      have hn : n < 0 ∨ (hs.length : Int) ≤ n := by omega
      clear hj
      rcases hn with hn | hn
      all_goals
        go_enter Try.func11, Try.ntmps11
        go_wp2
        rw [HE.out]
        exact bodyPost_ret (v := V2 0 0) (by simp [results, Try.results11, go_sem]) rfl ⟨rfl, bel2 _ _ _⟩
    · have h4' : (k == 4) = false := by simpa using h4
      clear hj h4
      go_enter Try.func11, Try.ntmps11
      go_wp2
      rw [HE.out]
      exact bodyPost_ret (v := V2 0 0) (by simp [results, Try.results11, go_sem]) rfl ⟨rfl, bel2 _ _ _⟩
  · have hx : k = 4 ∧ 0 ≤ n ∧ n < hs.length := by unfold inB at hi; simp at hi; omega
    obtain ⟨rfl, h0, hn⟩ := hx
    obtain ⟨m, rfl⟩ := Int.eq_ofNat_of_zero_le h0
    have hm : m < hs.length := by omega
    obtain ⟨b, o, rfl, -, ho⟩ := hrow m hs[m] (by simp [hm])
    obtain ⟨-, sv, hs1, ad2, cap2, rfl, hl2, hcap2, hby2, hrow2⟩ := ho
    clear hi hrow
    have HF : Hid (∀ j : Nat, j < hs[m].slots.length → slotE hs 4 (m : Int) (j : Int) = hs[m].slots.getD j ⟨0, 0⟩) := fun j hj => by rw [slotE_in hm hj]; simp [hj]
    have HG : Hid (i < 0 ∨ (hs[m].slots.length : Int) ≤ i → slotE hs 4 (m : Int) i = ⟨0, 0⟩) := fun h => by
      rcases h with h | h
      · exact slotE_out (Or.inr h)
      · exact slotE_far hm h
    generalize hs[m].slots = xs at *
    have t1 := fun a b => cell_later (bel2 w a b) hs1
    unfold maxLen at hcap hcap2
    go_enter Try.func11, Try.ntmps11
    go_wp2
    go_loopg [31] xs.length (fun g c wr => ∃ j : Nat, j + g = xs.length ∧ c = .int .i64 j ∧ Below ((w.alloc (Obj.cells #[Value.int IntKind.i64 4, Value.int IntKind.i64 ↑m] 24)).alloc (Obj.cells #[Value.int IntKind.i64 0, Value.int IntKind.i64 0] 24)).heap.size ((w.alloc (Obj.cells #[Value.int IntKind.i64 4, Value.int IntKind.i64 ↑m] 24)).alloc (Obj.cells #[Value.int IntKind.i64 0, Value.int IntKind.i64 0] 24)) wr ∧ (0 ≤ i → (j : Int) ≤ i))
    case atStart => exact ⟨0, by omega, rfl, Below.refl _ _, fun h => h⟩
    case round =>
      obtain ⟨j, hj, rfl, hbel, hle⟩ := hrel
      obtain ⟨hc, hf⟩ := bcell hbel
      have hz : w.heap.size + 1 < wr.heap.size := by have := hbel.size; simp at this; omega
      have hB : Below w.heap.size w wr := (bel2 _ _ _).trans (hbel.mono (by simp; omega))
      by_cases hlt : j < xs.length
      · obtain ⟨b2, o2, rfl, -, hv1, hv2⟩ := hrow2 j xs[j] (by simp [hlt])
        have u1 := cell_later hB hv1
        have u2 := cell_later hB hv2
        have HX : Hid (xs.getD j ⟨0, 0⟩ = xs[j]) := by show _ = _; simp [hlt]
        generalize xs[j] = x at *
        by_cases hij : (j : Int) = i
        · subst hij
          clear hle
          go_wp2
          rw [HF.out j hlt, HX.out]
          refine bodyPost_ret (v := x.v) (by simp [results, Try.results11, go_sem, hc, hz]) rfl ⟨rfl, ?_⟩
          exact (((hB.setCell (by simp) _).setCell (by simp) _).alloc (by simp; omega) _)
        · have hne : ((j : Int) == i) = false := by simpa using hij
          have HL : Hid (0 ≤ i → (j : Int) ≤ i) := hle
          clear hle
          go_wp2
          go_roundg (gk - 1)
          case measure => omega
          case rel => exact ⟨j + 1, by omega, by go_num, hbel.alloc (by simp; omega) _, fun h => by have := HL.out h; omega⟩
      · have HL : Hid (0 ≤ i → (j : Int) ≤ i) := hle
        clear hle
        go_wp2
        have hfar : i < 0 ∨ (xs.length : Int) ≤ i := by
          by_cases h : 0 ≤ i
          · have := HL.out h; omega
          · omega
        rw [HG.out hfar]
        refine bodyPost_ret (v := V2 0 0) (by simp [results, Try.results11, go_sem, hc]) rfl ⟨rfl, ?_⟩
        exact ((hB.setCell (by simp) _).setCell (by simp) _)

end Go.Proofs.Ytlmejfipgingeaa
