/- The machine in memory; what it counts; jumps; a slot that is set. -/
import Derived.Test.YtdfbgpiikeheiaaZd
import Derived.Test.YtdfbgpiikeheiaaYf
namespace Go.Proofs.Ytdfbgpiikeheiaa
open Go.ChangeShapes Go.WideShapes Go.ChangeAt Go.RowKit
set_option linter.unusedSimpArgs false
set_option linter.unusedVariables false
set_option maxRecDepth 8000

/-- What stays as it is while a machine runs. -/
structure Mp (σ : Type) where
  E : Env σ
  cv : Value
  ep : Int
  lv : Value
  qv : Value
section
variable {σ : Type}
abbrev MB (p : Mp σ) (m : Mc σ) (calls : Int) (hv : Value) : Obj := .cells #[p.cv, hv, .int .i64 p.ep, .int .i64 p.E.fuel, .int .i64 m.sends, .int .i64 calls, .int .i64 m.turns, p.lv, p.qv] 109 (0, 0)
/-- A machine at block mb. -/
structure MacAt (p : Mp σ) (T : Nat → Nat) (w : World) (mb : Nat) (m : Mc σ) (calls : Int) (hv : Value) (g : Nat) (s : Nat → Nat) : Prop where
  box : w.heap[mb]? = some (MB p m calls hv)
  tag : T mb = 1
  heap : HeapSt T w hv g s m.heap
  cls : IsClasses (Fx T w) w p.cv p.E.classes
variable {p : Mp σ} {T T' : Nat → Nat} {w w' : World} {mb : Nat} {m m' : Mc σ} {calls calls' : Int} {hv : Value} {g : Nat} {s : Nat → Nat}
theorem MacAt.keep {S : Nat → Prop} (h : MacAt p T w mb m calls hv g s) (e : Ext T T' w) (k : Kp S T w w') (h0 : ¬ S 0) (h1 : ¬ S 1) (h2 : ¬ S 2) : MacAt p T' w' mb m calls hv g s :=
  ⟨k.held h.box (by rw [h.tag]; exact h1), by rw [e _ (blk_lt h.box)]; exact h.tag, h.heap.keep e k h2, h.cls.fx goodC e k h0⟩
theorem MacAt.later (h : MacAt p T w mb m calls hv g s) (hb : Below w.heap.size w w') : MacAt p T w' mb m calls hv g s := h.keep (S := fun _ => False) (.refl _ _) (.of_below hb) id id id
/-- Only the box is turned: its numbers. -/
theorem MacAt.turn (h : MacAt p T w mb m calls hv g s) (k : Kp (fun t => t = 1) T w w') (hb : w'.heap[mb]? = some (MB p m' calls' hv)) (e : m'.heap = m.heap) : MacAt p T w' mb m' calls' hv g s :=
  ⟨hb, h.tag, by rw [e]; exact h.heap.keep (.refl _ _) k (by omega), h.cls.fx goodC (.refl _ _) k (by omega)⟩
theorem MacAt.c0 (h : MacAt p T w mb m calls hv g s) : w.cell? ⟨mb, 0, none⟩ = some p.cv := by rw [cell_of_row _ _ _ _ _ _ h.box]; rfl
theorem MacAt.c1 (h : MacAt p T w mb m calls hv g s) : w.cell? ⟨mb, 1, none⟩ = some hv := by rw [cell_of_row _ _ _ _ _ _ h.box]; rfl
theorem MacAt.c2 (h : MacAt p T w mb m calls hv g s) : w.cell? ⟨mb, 2, none⟩ = some (.int .i64 p.ep) := by rw [cell_of_row _ _ _ _ _ _ h.box]; rfl
theorem MacAt.c3 (h : MacAt p T w mb m calls hv g s) : w.cell? ⟨mb, 3, none⟩ = some (.int .i64 p.E.fuel) := by rw [cell_of_row _ _ _ _ _ _ h.box]; rfl
theorem MacAt.c4 (h : MacAt p T w mb m calls hv g s) : w.cell? ⟨mb, 4, none⟩ = some (.int .i64 m.sends) := by rw [cell_of_row _ _ _ _ _ _ h.box]; rfl
theorem MacAt.c5 (h : MacAt p T w mb m calls hv g s) : w.cell? ⟨mb, 5, none⟩ = some (.int .i64 calls) := by rw [cell_of_row _ _ _ _ _ _ h.box]; rfl
theorem MacAt.c6 (h : MacAt p T w mb m calls hv g s) : w.cell? ⟨mb, 6, none⟩ = some (.int .i64 m.turns) := by rw [cell_of_row _ _ _ _ _ _ h.box]; rfl
theorem MacAt.c7 (h : MacAt p T w mb m calls hv g s) : w.cell? ⟨mb, 7, none⟩ = some p.lv := by rw [cell_of_row _ _ _ _ _ _ h.box]; rfl
theorem MacAt.c8 (h : MacAt p T w mb m calls hv g s) : w.cell? ⟨mb, 8, none⟩ = some p.qv := by rw [cell_of_row _ _ _ _ _ _ h.box]; rfl
theorem mb_set4 (h : w.heap[mb]? = some (MB p m calls hv)) (n : Int) : (w.setCell ⟨mb, 4, none⟩ (.int .i64 n)).heap[mb]? = some (MB p { m with sends := n } calls hv) := by rw [setCell_same h]; rfl
theorem mb_set5 (h : w.heap[mb]? = some (MB p m calls hv)) (n : Int) : (w.setCell ⟨mb, 5, none⟩ (.int .i64 n)).heap[mb]? = some (MB p m n hv) := by rw [setCell_same h]; rfl
theorem mb_set6 (h : w.heap[mb]? = some (MB p m calls hv)) (n : Int) : (w.setCell ⟨mb, 6, none⟩ (.int .i64 n)).heap[mb]? = some (MB p { m with turns := n } calls hv) := by rw [setCell_same h]; rfl
theorem mb_set1 (h : w.heap[mb]? = some (MB p m calls hv)) (xs : List QO) (hv' : Value) : (w.setCell ⟨mb, 1, none⟩ hv').heap[mb]? = some (MB p { m with heap := xs } calls hv') := by rw [setCell_same h]; rfl

set_option maxHeartbeats 1000000 in
theorem countSend_any (h : MacAt p T w mb m calls hv g s) (h0 : 0 ≤ m.sends) (h1 : p.E.fuel ≤ 9000000000000000000) : Calls Try.prog 98 #[.pointer (some ⟨mb, 0, none⟩)] w fun e w' => e = .returned (.int .i64 (if p.E.fuel ≤ m.sends then 13 else 0)) ∧ MacAt p T w' mb (if p.E.fuel ≤ m.sends then m else { m with sends := m.sends + 1 }) calls hv g s ∧ Kp (fun t => t = 1) T w w' := by
  have c3 := h.c3
  have c4 := h.c4
  have cf := row_free h.box
  have H := hid h
  clear h
  by_cases hf : p.E.fuel ≤ m.sends
  · rw [if_pos hf, if_pos hf]
    have hd : decide (p.E.fuel ≤ m.sends) = true := by simpa using hf
    go_enter Try.func98, Try.ntmps98
    go_wp2
    go_region
    go_wp2
    go_ret
    exact ⟨rfl, H.out.later (Below.refl _ _).drew, (Kp.refl _ _ _).drew⟩
  · rw [if_neg hf, if_neg hf]
    have hd : decide (p.E.fuel ≤ m.sends) = false := by simpa using hf
    have hw : IntKind.i64.wrap (m.sends + 1) = m.sends + 1 := wrap_of (by omega) (by omega)
    go_enter Try.func98, Try.ntmps98
    go_wp2
    go_region
    go_wp2
    go_ret
    have k : Kp (fun t => t = 1) T w (w.setCell ⟨mb, 4, none⟩ (.int .i64 (m.sends + 1))).drew := ((Kp.refl _ _ _).set (fun _ => H.out.tag) _ _).drew
    exact ⟨rfl, H.out.turn k (mb_set4 H.out.box _) rfl, k⟩

set_option maxHeartbeats 1000000 in
theorem countCall_any (d : Nat) (h : MacAt p T w mb m calls hv g s) (h0 : 0 ≤ m.sends) (h1 : p.E.fuel ≤ 9000000000000000000) (hc : calls = 20 - (d : Int)) (hd : d ≤ 20) : Calls Try.prog 82 #[.pointer (some ⟨mb, 0, none⟩)] w fun e w' => e = .returned (.int .i64 (countE p.E d m).2) ∧ MacAt p T w' mb (countE p.E d m).1 calls hv g s ∧ Kp (fun t => t = 1) T w w' := by
  have c3 := h.c3
  have c4 := h.c4
  have c5 := h.c5
  have cf := row_free h.box
  have H := hid h
  clear h
  by_cases hf : p.E.fuel ≤ m.sends
  · have HE : Hid (countE p.E d m = (m, 13)) := by show _ = _; unfold countE; rw [if_pos hf]
    have hd : decide (p.E.fuel ≤ m.sends) = true := by simpa using hf
    go_enter Try.func82, Try.ntmps82
    go_wp2
    go_region
    go_wp2
    go_ret
    rw [HE.out]
    exact ⟨rfl, H.out.later (Below.refl _ _).drew, (Kp.refl _ _ _).drew⟩
  · have hd1 : decide (p.E.fuel ≤ m.sends) = false := by simpa using hf
    by_cases hz : d = 0
    · have HE : Hid (countE p.E d m = (m, 14)) := by show _ = _; unfold countE; rw [if_neg hf, if_pos hz]
      have hd2 : decide (20 ≤ calls) = true := by simp; omega
      clear hc hz
      go_enter Try.func82, Try.ntmps82
      go_wp2
      go_region
      go_wp2
      go_ret
      rw [HE.out]
      exact ⟨rfl, H.out.later (Below.refl _ _).drew, (Kp.refl _ _ _).drew⟩
    · have HE : Hid (countE p.E d m = ({ m with sends := m.sends + 1 }, 0)) := by show _ = _; unfold countE; rw [if_neg hf, if_neg hz]
      have hd2 : decide (20 ≤ calls) = false := by simp; omega
      have hw : IntKind.i64.wrap (m.sends + 1) = m.sends + 1 := wrap_of (by omega) (by omega)
      clear hc hz
      go_enter Try.func82, Try.ntmps82
      go_wp2
      go_region
      go_wp2
      go_ret
      rw [HE.out]
      have k : Kp (fun t => t = 1) T w (w.setCell ⟨mb, 4, none⟩ (.int .i64 (m.sends + 1))).drew := ((Kp.refl _ _ _).set (fun _ => H.out.tag) _ _).drew
      exact ⟨rfl, H.out.turn k (mb_set4 H.out.box _) rfl, k⟩

set_option maxHeartbeats 1000000 in
theorem mhas_any (h : MacAt p T w mb m calls hv g s) (c n : Int) : Calls Try.prog 80 #[.pointer (some ⟨mb, 0, none⟩), .int .i64 c, .int .i64 n] w fun e w' => e = .returned (.bool (methAt p.E.classes c n).isSome) ∧ Below w.heap.size w w' := by
  have c0 := h.c0
  obtain ⟨a, cap, hcv, hl, hcap, -, hrow⟩ := h.cls
  rw [hcv] at c0
  unfold maxLen at hcap
  clear h
  by_cases h0 : c < 0
  · have HE : Hid ((methAt p.E.classes c n).isSome = false) := by show _ = _; unfold methAt clsAt; rw [if_neg (by omega)]; rfl
    have hd : decide (0 ≤ c) = false := by simpa using h0
    go_enter Try.func80, Try.ntmps80
    go_wp2
    go_ret
    exact ⟨ret_b HE.out.symm, Below.refl _ _⟩
  · obtain ⟨k, rfl⟩ : ∃ k : Nat, c = k := ⟨c.toNat, by omega⟩
    have hd : decide (0 ≤ (k : Int)) = true := by simp
    by_cases hk : k < p.E.classes.length
    · have hk1 : (k : Int) < (p.E.classes.length : Int) := by omega
      have hx : p.E.classes[k]? = some p.E.classes[k] := by simp [hk]
      have HM : Hid (methAt p.E.classes (k : Int) n = if 0 ≤ n then p.E.classes[k].methods[n.toNat]? else none) := by show _ = _; unfold methAt clsAt; simp [hk]
      generalize p.E.classes[k] = x at *
      by_cases hn : n < 0
      · have HE : Hid ((methAt p.E.classes (k : Int) n).isSome = false) := by show _ = _; rw [HM.out, if_neg (by omega)]; rfl
        have hn' : decide (0 ≤ n) = false := by simpa using hn
        go_enter Try.func80, Try.ntmps80
        go_wp2
        go_ret
        exact ⟨ret_b HE.out.symm, Below.refl _ _⟩
      · obtain ⟨j, rfl⟩ : ∃ j : Nat, n = j := ⟨n.toNat, by omega⟩
        have hn' : decide (0 ≤ (j : Int)) = true := by simp
        obtain ⟨b, o, rfl, -, e0, e1, e2, e3, mv, e4, hm⟩ := hrow k x hx
        obtain ⟨a2, cap2, rfl, -, -, -, -⟩ := hm
        have HE : Hid ((methAt p.E.classes (k : Int) (j : Int)).isSome = decide (j < x.methods.length)) := by
          show _ = _
          rw [HM.out, if_pos (by omega)]
          by_cases hj : j < x.methods.length <;> simp [hj]
        clear hrow hx HM
        by_cases hj : j < x.methods.length
        · have hj1 : (j : Int) < (x.methods.length : Int) := by omega
          go_enter Try.func80, Try.ntmps80
          go_wp2
          go_ret
          exact ⟨ret_b (by rw [HE.out]; simp [hj]), Below.refl _ _⟩
        · have hj1 : (x.methods.length : Int) ≤ (j : Int) := by omega
          go_enter Try.func80, Try.ntmps80
          go_wp2
          go_ret
          exact ⟨ret_b (by rw [HE.out]; simp [hj]), Below.refl _ _⟩
    · have HE : Hid ((methAt p.E.classes (k : Int) n).isSome = false) := by show _ = _; unfold methAt clsAt; simp [hk]
      have hk1 : (p.E.classes.length : Int) ≤ (k : Int) := by omega
      go_enter Try.func80, Try.ntmps80
      go_wp2
      go_ret
      exact ⟨ret_b HE.out.symm, Below.refl _ _⟩
end
end Go.Proofs.Ytdfbgpiikeheiaa
