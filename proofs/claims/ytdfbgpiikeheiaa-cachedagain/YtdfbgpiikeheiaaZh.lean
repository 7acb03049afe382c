/- Primitives; jumps; slots that are set; sites. -/
import Derived.Test.YtdfbgpiikeheiaaZf
import Derived.Test.YtdfbgpiikeheiaaZg
namespace Go.Proofs.Ytdfbgpiikeheiaa
open Go.ChangeShapes Go.WideShapes Go.ChangeAt Go.RowKit
set_option linter.unusedSimpArgs false
set_option linter.unusedVariables false
set_option maxRecDepth 8000

section
variable {σ : Type} {p : Mp σ} {T T' : Nat → Nat} {w w' : World} {mb : Nat} {m m' : Mc σ} {calls calls' : Int} {hv : Value} {g : Nat} {s : Nat → Nat} {K fb : Nat} {f : Fr} {cv av tv sv kv : Value}
theorem fb_set12 (h : w.heap[fb]? = some (FB f cv av tv sv kv)) (n : Int) : (w.setCell ⟨fb, 12, none⟩ (.int .i64 n)).heap[fb]? = some (FB { f with pc := n } cv av tv sv kv) := by
  rw [setCell_same h]; rfl
theorem FrAt.pcAt (h : FrAt T K w fb f cv av tv sv kv) (k : Kp (fun t => t = K) T w w') (n : Int) (hb : w'.heap[fb]? = some (FB { f with pc := n } cv av tv sv kv)) : FrAt T K w' fb { f with pc := n } cv av tv sv kv :=
  h.turn k hb rfl rfl rfl rfl h.stack h.stag h.few

set_option maxHeartbeats 2000000 in
theorem jump_any (h : MacAt p T w mb m calls hv g s) (hF : FrAt T K w fb f cv av tv sv kv) (a b : Int) (ht : 0 ≤ m.turns ∧ m.turns ≤ 300) : Calls Try.prog 116 #[.pointer (some ⟨mb, 0, none⟩), .pointer (some ⟨fb, 0, none⟩), .int .i64 a, .int .i64 b] w fun e w' => e = .returned (.int .i64 (jumpE m f a b).2.2) ∧ MacAt p T w' mb (jumpE m f a b).1 calls hv g s ∧ FrAt T K w' fb (jumpE m f a b).2.1 cv av tv sv kv ∧ Kp (fun t => t = 1 ∨ t = K) T w w' := by
  have hp := hF.pos
  have c6 := h.c6
  have cf := row_free h.box
  have ff := row_free hF.box
  have d12 : w.cell? ⟨fb, 12, none⟩ = some (.int .i64 f.pc) := by rw [cell_of_row _ _ _ _ _ _ hF.box]; rfl
  have hne : ¬ mb = fb := fun e => by have := h.tag; rw [e, hF.tag] at this; omega
  have hne' : ¬ fb = mb := fun e => hne e.symm
  have H := hid h
  have HF := hid hF
  have kM : ∀ w' : World, Kp (fun t => t = 1) T w w' → FrAt T K w' fb f cv av tv sv kv := fun w' k => hF.keep (.refl _ _) k (by omega) (by omega) (by omega) (by omega)
  clear h hF
  by_cases hb : b ≤ a
  · have hb' : decide (b ≤ a) = true := by simpa using hb
    have hw : IntKind.i64.wrap (m.turns + 1) = m.turns + 1 := wrap_of (by omega) (by omega)
    have k1 : Kp (fun t => t = 1) T w (w.setCell ⟨mb, 6, none⟩ (.int .i64 (m.turns + 1))) := (Kp.refl _ _ _).set (fun _ => H.out.tag) _ _
    have m1 := H.out.turn (m' := { m with turns := m.turns + 1 }) (calls' := calls) k1 (mb_set6 H.out.box _) rfl
    have f1 := kM _ k1
    by_cases h3 : 300 < m.turns + 1
    · have HE : Hid (jumpE m f a b = ({ m with turns := m.turns + 1 }, f, 16)) := by show _ = _; unfold jumpE; simp only [hb, if_true]; rw [if_pos h3]
      have h3' : decide (300 < m.turns + 1) = true := by simpa using h3
      have K1 := hid k1
      have M1 := hid m1
      have F1 := hid f1
      clear k1 m1 f1 kM
      go_enter Try.func116, Try.ntmps116
      go_wp2
      go_ret
      rw [HE.out]
      exact ⟨rfl, M1.out, F1.out, K1.out.mono fun t h => Or.inl h⟩
    · have HE : Hid (jumpE m f a b = ({ m with turns := m.turns + 1 }, { f with pc := b }, 0)) := by show _ = _; unfold jumpE; simp only [hb, if_true]; rw [if_neg h3]
      have h3' : decide (300 < m.turns + 1) = false := by simpa using h3
      have k2 : Kp (fun t => t = K) T (w.setCell ⟨mb, 6, none⟩ (.int .i64 (m.turns + 1))) ((w.setCell ⟨mb, 6, none⟩ (.int .i64 (m.turns + 1))).setCell ⟨fb, 12, none⟩ (.int .i64 b)) := (Kp.refl _ _ _).set (fun _ => HF.out.tag) _ _
      have F2 := hid (f1.pcAt k2 b (fb_set12 f1.box b))
      have M2 := hid (m1.keep (.refl _ _) k2 (by omega) (by omega) (by omega))
      have K2 := hid ((k1.mono (S' := fun t => t = 1 ∨ t = K) fun t h => Or.inl h).trans (.refl _ _) (k2.mono fun t h => Or.inr h))
      clear k1 m1 f1 kM k2
      go_enter Try.func116, Try.ntmps116
      go_wp2
      go_ret
      rw [HE.out]
      exact ⟨rfl, M2.out, F2.out, K2.out⟩
  · have hb' : decide (b ≤ a) = false := by simpa using hb
    have HE : Hid (jumpE m f a b = (m, { f with pc := b }, 0)) := by show _ = _; unfold jumpE; simp only [hb, if_false]; rw [if_neg (by omega)]
    have h3' : decide (300 < m.turns) = false := by simp; omega
    have k2 : Kp (fun t => t = K) T w (w.setCell ⟨fb, 12, none⟩ (.int .i64 b)) := (Kp.refl _ _ _).set (fun _ => HF.out.tag) _ _
    have F2 := hid (HF.out.pcAt k2 b (fb_set12 HF.out.box b))
    have M2 := hid (H.out.keep (.refl _ _) k2 (by omega) (by omega) (by omega))
    have K2 := hid (k2.mono (S' := fun t => t = 1 ∨ t = K) fun t h => Or.inr h)
    clear kM k2
    go_enter Try.func116, Try.ntmps116
    go_wp2
    go_ret
    rw [HE.out]
    exact ⟨rfl, M2.out, F2.out, K2.out⟩

/-- What primitive's walk holds. -/
structure PvR (w : World) (a : QV) (w' : World) : Prop where
  a0 : w'.cell? ⟨w.heap.size, 0, none⟩ = some (.int .i64 a.k)
  a1 : w'.cell? ⟨w.heap.size, 1, none⟩ = some (.int .i64 a.n)
  r0 : w'.cell? ⟨w.heap.size + 1, 0, none⟩ = some (.int .i64 0)
  r1 : w'.cell? ⟨w.heap.size + 1, 1, none⟩ = some (.int .i64 0)
  rf : ∀ o, w'.frozen? ⟨w.heap.size + 1, o, none⟩ = false
  sz : w.heap.size + 2 ≤ w'.heap.size
theorem PvR.later {w : World} {a : QV} {w' w'' : World} (h : PvR w a w') (hb : ∀ b, w.heap.size ≤ b → b < w'.heap.size → b < w.heap.size + 2 → w''.heap[b]? = w'.heap[b]?) (hz : w'.heap.size ≤ w''.heap.size) : PvR w a w'' := by
  have hc : ∀ b o v, w.heap.size ≤ b → b < w.heap.size + 2 → w'.cell? ⟨b, o, none⟩ = some v → w''.cell? ⟨b, o, none⟩ = some v := fun b o v h1 h2 hv => by
    have hl := World.block_lt_of_cell? w' ⟨b, o, none⟩ hv
    unfold World.cell? at hv ⊢
    rw [hb b h1 hl h2]; exact hv
  refine ⟨hc _ _ _ (Nat.le_refl _) (by omega) h.a0, hc _ _ _ (Nat.le_refl _) (by omega) h.a1, hc _ _ _ (by omega) (by omega) h.r0, hc _ _ _ (by omega) (by omega) h.r1, fun o => ?_, Nat.le_trans h.sz hz⟩
  have := h.rf o
  have hsz := h.sz
  unfold World.frozen? at this ⊢
  simp only at this ⊢
  rw [hb (w.heap.size + 1) (by omega) (by omega) (by omega)]; exact this
theorem pvR_new (w : World) (a : QV) : PvR w a ((w.alloc (.cells #[.int .i64 a.k, .int .i64 a.n] 27)).alloc (.cells #[.int .i64 0, .int .i64 0] 27)) := by
  refine ⟨cell_later (bel1 _ _) (cell_new _ _ _ _ rfl 0), cell_later (bel1 _ _) (cell_new _ _ _ _ rfl 1), cell_new _ _ _ _ (by simp) 0, cell_new _ _ _ _ (by simp) 1, fun o => row_free (cur := #[.int .i64 0, .int .i64 0]) (t := 27) ?_ o, by simp⟩
  have := heap_alloc_new (w.alloc (.cells #[.int .i64 a.k, .int .i64 a.n] 27)) (.cells #[.int .i64 0, .int .i64 0] 27)
  simpa using this
def primitiveE (E : Env σ) (m : Mc σ) (pr : Int) (self : QV) (args : List QV) : Mc σ × QV × Int := if E.fuel ≤ m.sends then (m, nilV, 13) else ({ m with sends := m.sends + 1 }, primV pr self (entryE args 0))
theorem MacAt.tagged0 (h : MacAt p T w mb m calls hv g s) (t : Nat) : MacAt p (tagged T w t) w mb m calls hv g s := h.keep (S := fun _ => False) (tagged_ext T w t) (Kp.refl _ _ _) id id id
theorem FrAt.tagged0 (h : FrAt T K w fb f cv av tv sv kv) (t : Nat) : FrAt (tagged T w t) K w fb f cv av tv sv kv := h.keep (S := fun _ => False) (tagged_ext T w t) (Kp.refl _ _ _) id id id id
theorem fx_tagged {α : Type} {E : Lay α} {sz bytes : Nat} {v : Value} {xs : List α} (h : IsRow E sz bytes (Fx T w) w v xs) (G : Good E sz) (t : Nat) : IsRow E sz bytes (Fx (tagged T w t) w) w v xs := h.fx G (tagged_ext T w t) (Kp.refl (fun _ => False) T w) id
set_option maxHeartbeats 400000 in
theorem primitive_any (h : MacAt p T w mb m calls hv g s) (h0 : 0 ≤ m.sends) (h1 : p.E.fuel ≤ 9000000000000000000) (pr : Int) (self : QV) (args : List QV) (av : Value) (ha : IsVals (Fx T w) w av args) (hs : self.k = 3 → -1073741824 ≤ self.n ∧ self.n ≤ 1073741824) (hb : (entryE args 0).k = 3 → -1073741824 ≤ (entryE args 0).n ∧ (entryE args 0).n ≤ 1073741824) :
    Calls Try.prog 81 #[.pointer (some ⟨mb, 0, none⟩), .int .i64 pr, VV self, av] w fun e w' => e = .returned (.tuple #[VV (primitiveE p.E m pr self args).2.1, .int .i64 (primitiveE p.E m pr self args).2.2]) ∧ (∃ T', Ext T T' w ∧ MacAt p T' w' mb (primitiveE p.E m pr self args).1 calls hv g s) ∧ Kp (fun t => t = 1) T w w' := by
  have hlt := blk_lt h.box
  have hR := pvR_new w self
  have hb2 := bel2 w (.cells #[.int .i64 self.k, .int .i64 self.n] 27) (.cells #[.int .i64 0, .int .i64 0] 27)
  have hM := (h.tagged0 4).later hb2
  have hA := (fx_tagged ha goodV 4).fx goodV (.refl _ w) (Kp.of_below (S := fun _ => False) hb2) id
  have hX := tagged_ext T w 4
  have hT4 : ∀ b, w.heap.size ≤ b → tagged T w 4 b = 4 := fun b hb => tagged_new hb
  obtain ⟨a, cap, rfl, -⟩ := id ha
  clear ha h
  generalize tagged T w 4 = T1 at *
  go_enter Try.func81, Try.ntmps81
  go_upto_region 1 with (fail)
  generalize ((w.alloc (.cells #[.int .i64 self.k, .int .i64 self.n] 27)).alloc (.cells #[.int .i64 0, .int .i64 0] 27)) = W at *
  go_wp2_with fail
  refine (countSend_any hM h0 h1).mono ?_
  rintro e w1 ⟨rfl, hM1, hK1⟩
  have hA1 := hA.fx goodV (.refl _ _) hK1 (by omega)
  have hR1 : PvR w self w1 := hR.later (fun b hb1 hb2 hb3 => hK1.blk b hb2 (by rw [hT4 b hb1]; omega)) hK1.size
  have KW : Hid (Kp (fun t => t = 1) T w w1) := hid (((Kp.of_below hb2).trans hX hK1))
  clear hK1 hA hR hM hb2
  by_cases hf : p.E.fuel ≤ m.sends
  · have HE : Hid (primitiveE p.E m pr self args = (m, nilV, 13)) := by show _ = _; unfold primitiveE; rw [if_pos hf]
    rw [if_pos hf] at hM1 ⊢
    obtain ⟨a0, a1, r0, r1, rf, sz⟩ := hR1
    go_wp2
    refine bodyPost_ret (v := .tuple #[VV nilV, .int .i64 13]) ?_ rfl ⟨by rw [HE.out], ?_, ?_⟩
    · simp [results, Try.results81, go_sem, r0, r1]
    · rw [HE.out]
      exact ⟨T1, hX, hM1.keep (.refl _ _) (((Kp.refl (fun t => t = 4) _ _).set (fun _ => hT4 _ (by omega)) _ _).set (fun _ => hT4 _ (by omega)) _ _) (by omega) (by omega) (by omega)⟩
    · exact (KW.out.set (fun h => absurd h (by omega)) _ _).set (fun h => absurd h (by omega)) _ _
  · have HE : Hid (primitiveE p.E m pr self args = ({ m with sends := m.sends + 1 }, primV pr self (entryE args 0))) := by show _ = _; unfold primitiveE; rw [if_neg hf]
    rw [if_neg hf] at hM1 ⊢
    have hq := hR1.later (w'' := w1.drew) (fun b _ _ _ => rfl) (Nat.le_refl _)
    have hA2 := hA1.later goodV (Below.refl _ w1).drew
    have hM2 := hM1.later (Below.refl _ w1).drew
    have hS0 : w1.drew.cell? ⟨w.heap.size, 0, none⟩ = some (.int .i64 self.k) ∧ w1.drew.cell? ⟨w.heap.size, 1, none⟩ = some (.int .i64 self.n) := ⟨hq.a0, hq.a1⟩
    have KW2 := hid KW.out.drew
    have HQ := hid hq
    have HM2 := hid hM2
    have HS := hid hs
    have HBB := hid hb
    clear hA1 hR1 hM1 KW hq hM2 hs hb
    have hlt1 : w.heap.size ≠ w.heap.size + 1 := by omega
    go_wp2
    obtain ⟨u, hu⟩ : ∃ u, u = entryE args 0 := ⟨_, rfl⟩
    rw [← hu] at HBB HE
    have hent : Calls Try.prog 100 #[.slice a args.length cap, .int .i64 0] w1.drew fun e w' => e = .returned (VV u) ∧ Below w1.drew.heap.size w1.drew w' := by rw [hu]; exact entry_any args _ 0 _ hA2
    clear hu
    obtain ⟨v1, e1, hr⟩ : ∃ v1 e1, primV pr self u = (v1, e1) := ⟨_, _, rfl⟩
    have hprim : ∀ w, Calls Try.prog 99 #[.int .i64 pr, VV self, VV u] w fun e w' => e = .returned (.tuple #[VV v1, .int .i64 e1]) ∧ Below w.heap.size w w' := fun w => by have := prim_any pr self u w HS.out HBB.out; rw [hr] at this; exact this
    rw [hr] at HE
    clear hr HS HBB
    have tokA : True := trivial
    go_region_held3 (fun w' => w'.cell? ⟨w.heap.size, 0, none⟩ = some (.int .i64 self.k) ∧ w'.cell? ⟨w.heap.size, 1, none⟩ = some (.int .i64 self.n))
      (first | with_reducible exact hS0 | with_reducible exact hS1 | with_reducible exact hS2 | exact ⟨(World.cell?_setCell_far _ _ _ _ (by simp)).trans ((World.cell?_setCell_far _ _ _ _ (by simp)).trans hS2.1), (World.cell?_setCell_far _ _ _ _ (by simp)).trans ((World.cell?_setCell_far _ _ _ _ (by simp)).trans hS2.2)⟩)
      (first
        | (have _t := tokA; go_at_call 100; refine hent.mono ?_; rintro e w2 ⟨rfl, hb2⟩; have hS1 := And.intro (cell_later hb2 hS0.1) (cell_later hb2 hS0.2); clear tokA; have tokB : True := trivial)
        | (have _t := tokB; go_at_call 99; refine (hprim _).mono ?_; rintro e w3 ⟨rfl, hb3⟩; have hb13 := nstep hb2 hb3; have hq3 := HQ.out.later (fun b _ hl _ => hb13.block b hl) hb13.size; obtain ⟨a0, a1, r0, r1, rf, sz⟩ := hq3; have hS2 := And.intro a0 a1; clear tokB))
    go_wp2
    refine bodyPost_ret (v := .tuple #[VV v1, .int .i64 e1]) ?_ rfl ⟨by rw [HE.out], ?_, ?_⟩
    · simp [results, Try.results81, go_sem, r0, r1]
    · rw [HE.out]
      exact ⟨T1, hX, (HM2.out.later hb13).keep (.refl _ _) (((Kp.refl (fun t => t = 4) _ _).set (fun _ => hT4 _ (by omega)) _ _).set (fun _ => hT4 _ (by omega)) _ _) (by omega) (by omega) (by omega)⟩
    · exact ((KW2.out.on hb13).set (fun h => absurd h (by omega)) _ _).set (fun h => absurd h (by omega)) _ _
end
end Go.Proofs.Ytdfbgpiikeheiaa
