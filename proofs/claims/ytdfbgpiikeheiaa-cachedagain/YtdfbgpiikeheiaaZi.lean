/- A slot that is set; sites; where a frame begins; what is made. -/
import Derived.Test.YtdfbgpiikeheiaaZh
import Derived.Test.YtdfbgpiikeheiaaZo
namespace Go.Proofs.Ytdfbgpiikeheiaa
open Go.ChangeShapes Go.WideShapes Go.ChangeAt Go.RowKit
set_option linter.unusedSimpArgs false
set_option linter.unusedVariables false
set_option maxRecDepth 8000

section
variable {σ : Type} {p : Mp σ} {T T' : Nat → Nat} {w w' : World} {mb : Nat} {m m' : Mc σ} {calls calls' : Int} {hv : Value} {g : Nat} {s : Nat → Nat} {K fb : Nat} {f : Fr} {cv av tv sv kv : Value}
/-- Only the slots of one object are others. -/
theorem HeapSt.slots {xs : List QO} (h : HeapSt T w hv g s xs) {i : Nat} {x : QO} (hx : xs[i]? = some x) {vs : List QV} (k : Kp (fun t => t = 1) (fun b => if b = s i then 1 else 0) w w') (hn : w'.heap[s i]? = some (.cells (vcells vs).toArray 27 (0, 0))) (hl : vs.length = x.slots.length) : HeapSt T w' hv g s (xs.set i ⟨x.cls, vs⟩) := by
  have hi := lt_of_get hx
  obtain ⟨e1, e2, e3, e4, e5, e6⟩ := h.obj i x hx
  have hk : ∀ b, b < w.heap.size → b ≠ s i → w'.heap[b]? = w.heap[b]? := fun b hb hne => k.blk b hb (by simp [hne])
  have hc : ∀ o u, w.cell? ⟨g, o, none⟩ = some u → w'.cell? ⟨g, o, none⟩ = some u := fun o u hu => by
    unfold World.cell? at hu ⊢
    rw [hk g h.there (Ne.symm e5)]; exact hu
  refine ⟨by simpa using h.form, by simpa using h.len, Nat.lt_of_lt_of_le h.there k.size, h.tg, fun j y hy => ?_, fun a b ha hb => h.inj a b (by simpa using ha) (by simpa using hb)⟩
  by_cases hj : j = i
  · subst hj
    rw [List.getElem?_set_self hi] at hy
    cases hy
    exact ⟨hc _ _ e1, by rw [hl]; exact hc _ _ e2, hn, e4, e5, by rw [hl]; exact e6⟩
  · rw [List.getElem?_set_ne (by omega)] at hy
    obtain ⟨d1, d2, d3, d4, d5, d6⟩ := h.obj j y hy
    exact ⟨hc _ _ d1, hc _ _ d2, by rw [hk _ (blk_lt d3) fun e => hj (h.inj j i (lt_of_get hy) hi e)]; exact d3, d4, d5, d6⟩

set_option maxHeartbeats 1000000 in
theorem setSlot_any (h : MacAt p T w mb m calls hv g s) (v : QV) (n : Int) (x : QV) : Calls Try.prog 113 #[.pointer (some ⟨mb, 0, none⟩), VV v, .int .i64 n, VV x] w fun e w' => e = .returned (.tuple #[]) ∧ (∃ T', Ext T T' w ∧ MacAt p T' w' mb { m with heap := setSlotE m.heap v n x } calls hv g s) ∧ Kp (fun t => t = 2) T w w' := by
  have hlt := blk_lt h.box
  have hb2 := bel2 w (.cells #[.int .i64 v.k, .int .i64 v.n] 27) (.cells #[.int .i64 x.k, .int .i64 x.n] 27)
  have hM := (h.tagged0 4).later hb2
  have hX := tagged_ext T w 4
  have hT4 : ∀ b, w.heap.size ≤ b → tagged T w 4 b = 4 := fun b hb => tagged_new hb
  have b0 : ((w.alloc (.cells #[.int .i64 v.k, .int .i64 v.n] 27)).alloc (.cells #[.int .i64 x.k, .int .i64 x.n] 27)).cell? ⟨w.heap.size, 0, none⟩ = some (.int .i64 v.k) := cell_later (bel1 _ _) (cell_new _ _ _ _ rfl 0)
  have b1 : ((w.alloc (.cells #[.int .i64 v.k, .int .i64 v.n] 27)).alloc (.cells #[.int .i64 x.k, .int .i64 x.n] 27)).cell? ⟨w.heap.size, 1, none⟩ = some (.int .i64 v.n) := cell_later (bel1 _ _) (cell_new _ _ _ _ rfl 1)
  have x0 : ((w.alloc (.cells #[.int .i64 v.k, .int .i64 v.n] 27)).alloc (.cells #[.int .i64 x.k, .int .i64 x.n] 27)).cell? ⟨w.heap.size + 1, 0, none⟩ = some (.int .i64 x.k) := cell_new _ _ _ _ (by simp) 0
  have x1 : ((w.alloc (.cells #[.int .i64 v.k, .int .i64 v.n] 27)).alloc (.cells #[.int .i64 x.k, .int .i64 x.n] 27)).cell? ⟨w.heap.size + 1, 1, none⟩ = some (.int .i64 x.n) := cell_new _ _ _ _ (by simp) 1
  clear h
  generalize tagged T w 4 = T1 at *
  go_enter Try.func113, Try.ntmps113
  go_upto_region 1 with (fail)
  generalize ((w.alloc (.cells #[.int .i64 v.k, .int .i64 v.n] 27)).alloc (.cells #[.int .i64 x.k, .int .i64 x.n] 27)) = W at *
  have c1 := hM.c1
  obtain ⟨cap, rfl, hc1, hc2⟩ := hM.heap.form
  unfold maxLen at hc2
  have KW : Hid (Kp (fun t => t = 2) T w W) := Kp.of_below hb2
  have HM := hid hM
  cases hi : isInB m.heap.length v with
  | false =>
    have HN : Hid (setSlotE m.heap v n x = m.heap) := by show _ = _; unfold setSlotE; rw [isIn_not hi]
    have HD : Hid ((∃ T', Ext T T' w ∧ MacAt p T' W.drew mb { m with heap := setSlotE m.heap v n x } calls (.slice (some ⟨g, 0, none⟩) m.heap.length cap) g s) ∧ Kp (fun t => t = 2) T w W.drew) := ⟨⟨T1, hX, by rw [HN.out]; exact hM.later (Below.refl _ _).drew⟩, KW.out.drew⟩
    clear hM hb2
    unfold isInB at hi
    simp only [decide_eq_false_iff_not] at hi
    by_cases hk : v.k = 4
    · have hk' : (v.k == 4) = true := by simpa using hk
      by_cases hn : v.n < 0
      · have hn' : decide (0 ≤ v.n) = false := by simpa using hn
        clear hi
        go_region
        go_wp2
        exact bodyPost_end (v := .tuple #[]) (by simp [results, Try.results113, go_sem]) rfl ⟨rfl, HD.out⟩
      · have hn' : decide (0 ≤ v.n) = true := by simpa using hn
        have hl : decide (v.n < (m.heap.length : Int)) = false := by simp; omega
        clear hi
        go_region
        go_wp2
        exact bodyPost_end (v := .tuple #[]) (by simp [results, Try.results113, go_sem]) rfl ⟨rfl, HD.out⟩
    · have hk' : (v.k == 4) = false := by simpa using hk
      clear hi
      go_region
      go_wp2
      exact bodyPost_end (v := .tuple #[]) (by simp [results, Try.results113, go_sem]) rfl ⟨rfl, HD.out⟩
  | true =>
    obtain ⟨j, o, hj, hjl, hjo, hob⟩ := isIn_at hi
    have hk : v.k = 4 := by unfold isInB at hi; simp only [decide_eq_true_eq] at hi; exact hi.1
    have hk' : (v.k == 4) = true := by simpa using hk
    have HN : Hid (setSlotE m.heap v n x = m.heap.set j ⟨o.cls, setEntryE o.slots n x⟩) := by show _ = _; unfold setSlotE; rw [hob]; simp [hj]
    obtain ⟨e1, e2, e3, e4, e5, e6⟩ := hM.heap.obj j o hjo
    have HJ := hid hjo
    rw [hj] at b1
    have hj1 : (j : Int) < (m.heap.length : Int) := by omega
    have hj0 : (0 : Int) ≤ (j : Int) := by omega
    have n1 : ¬ mb = s j := fun e => by have := hM.tag; rw [e, e4] at this; omega
    have n2 : ¬ w.heap.size = s j := fun e => by have := hT4 w.heap.size (Nat.le_refl _); rw [e, e4] at this; omega
    have n3 : ¬ w.heap.size + 1 = s j := fun e => by have := hT4 (w.heap.size + 1) (by omega); rw [e, e4] at this; omega
    have n4 : ¬ g = s j := Ne.symm e5
    have HE3 : Hid (W.drew.drew.heap[s j]? = some (.cells (vcells o.slots).toArray 27 (0, 0))) := e3
    have hS0 : W.drew.drew.cell? ⟨mb, 1, none⟩ = some (.slice (some ⟨g, 0, none⟩) m.heap.length cap) ∧ W.drew.drew.cell? ⟨w.heap.size, 1, none⟩ = some (.int .i64 (j : Int)) ∧ W.drew.drew.cell? ⟨w.heap.size + 1, 0, none⟩ = some (.int .i64 x.k) ∧ W.drew.drew.cell? ⟨w.heap.size + 1, 1, none⟩ = some (.int .i64 x.n) ∧ W.drew.drew.cell? ⟨g, j * 2 + 1, none⟩ = some (.slice (some ⟨s j, 0, none⟩) o.slots.length o.slots.length) := ⟨c1, b1, x0, x1, e2⟩
    have HT := hid e4
    clear hi hj hob hb2 hk e1 e3 e4 e5 e6 hM hjo
    go_region
    go_wp2
    clear b0 b1 x0 x1 c1 e2
    have hent : Calls Try.prog 112 #[.slice (some ⟨s j, 0, none⟩) o.slots.length o.slots.length, .int .i64 n, VV x] W.drew.drew _ := setEntry_any o.slots (s j) n x _ HE3.out
    go_region_held3 (fun w' => w'.cell? ⟨mb, 1, none⟩ = some (.slice (some ⟨g, 0, none⟩) m.heap.length cap) ∧ w'.cell? ⟨w.heap.size, 1, none⟩ = some (.int .i64 (j : Int)) ∧ w'.cell? ⟨w.heap.size + 1, 0, none⟩ = some (.int .i64 x.k) ∧ w'.cell? ⟨w.heap.size + 1, 1, none⟩ = some (.int .i64 x.n) ∧ w'.cell? ⟨g, j * 2 + 1, none⟩ = some (.slice (some ⟨s j, 0, none⟩) o.slots.length o.slots.length))
      (first | with_reducible exact hS0 | with_reducible exact hS1)
      (first | (go_at_call 112; refine hent.mono ?_; rintro e w1 ⟨rfl, hw1, hz1, hka⟩; have k1 := hka (fun t => t = 1) (fun b => if b = s j then 1 else 0) (by simp); have hS1 := And.intro (k1.cell hS0.1 (by simp [n1])) (And.intro (k1.cell hS0.2.1 (by simp [n2])) (And.intro (k1.cell hS0.2.2.1 (by simp [n3])) (And.intro (k1.cell hS0.2.2.2.1 (by simp [n3])) (k1.cell hS0.2.2.2.2 (by simp [n4])))))))
    go_wp2
    have kT := hka (fun t => t = 2) T1 HT.out
    refine bodyPost_end (v := .tuple #[]) (by simp [results, Try.results113, go_sem]) rfl ⟨rfl, ⟨T1, hX, ?_⟩, ?_⟩
    · have hm := HM.out.later (w' := W.drew.drew) ((Below.refl _ _).drew).drew
      refine ⟨kT.held hm.box (by rw [hm.tag]; omega), hm.tag, ?_, hm.cls.fx goodC (.refl _ _) kT (by omega)⟩
      rw [HN.out]
      exact hm.heap.slots HJ.out k1 hw1 (setEntry_len _ _ _)
    · exact KW.out.trans hX (((Kp.refl _ _ _).drew.drew).trans (.refl _ _) kT)
end
end Go.Proofs.Ytdfbgpiikeheiaa
