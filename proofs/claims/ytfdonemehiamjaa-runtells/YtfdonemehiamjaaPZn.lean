/- A step. -/
import Derived.Test.YtfdonemehiamjaaPZm
namespace Go.Proofs.Ytfdonemehiamjaa
open Go.ChangeShapes Go.WideShapes Go.ChangeAt Go.RowKit
set_option linter.unusedSimpArgs false
set_option linter.unusedVariables false
set_option maxRecDepth 8000

section
variable {σ : Type} {p : Mp σ} {L : (Nat → Nat) → World → σ → Nat → Prop} {q : Value} {T T' : Nat → Nat} {w w' : World} {mb : Nat} {m m' : Mc σ} {hv : Value} {g : Nat} {s : Nat → Nat} {K fb : Nat} {f : Fr} {cv av tv sv kv : Value}
theorem jump_st (m : Mc σ) (f : Fr) (a b : Int) : (jumpE m f a b).1.st = m.st := by
  unfold jumpE
  by_cases h : b ≤ a
  · simp only [h, if_true]; split <;> rfl
  · simp only [h, if_false]; split <;> rfl
theorem else_st (m : Mc σ) (f : Fr) (a b : Int) : (elseE m f a b).1.st = m.st := by
  unfold elseE
  split
  · rfl
  · split
    · exact jump_st _ _ _ _
    · rfl
theorem make_st (E : Env σ) (m : Mc σ) (f : Fr) (c : Int) : (makeE E m f c).1.st = m.st := by
  unfold makeE; split <;> rfl
/-- A step by way of another function that turns neither what is remembered nor the sends. -/
theorem stPost_of (hC : Cx p L q) {T1 : Nat → Nat} {V : World} {calls : Int} {r : Mc σ × Fr × Int} {S : Nat → Prop} {e : Ending} (hr : r.1.st = m.st ∧ r.1.sends = m.sends) (hE : Ext T T1 w) (hK : Kp (All K) T w V) (hL : L T1 V m.st (leftE p.E m)) (he : e = .returned (.int .i64 r.2.2)) {T2 : Nat → Nat} (hE2 : Ext T1 T2 V) (hM : ∃ hv g s, MacAt p T2 w' mb r.1 calls hv g s) (hF : r.2.2 = 0 → ∃ cv av tv sv kv, FrAt T2 K w' fb r.2.1 cv av tv sv kv) (k : Kp S T1 V w') (hS : ∀ t, S t → All K t) (h0 : ¬ S 0) (h3 : ¬ S 3) : StPost p L T w mb calls K fb r e w' := by
  have hL2 := hC.keep hL hE2 k h0 h3
  refine ⟨he, ⟨T2, hE.trans hK.size hE2, hM, ?_, hF⟩, hK.trans hE (k.mono hS)⟩
  rw [hr.1]
  have : leftE p.E r.1 = leftE p.E m := by unfold leftE; rw [hr.2]
  split
  · rw [this]; exact hL2
  · exact hC.mono hL2 (Nat.zero_le _)
set_option maxHeartbeats 1000000 in
theorem fastStep_plain (hF : FrAt T K w fb f cv av tv sv kv) (hf : f.fast = false) (x : QI) (mv : Value) : Calls Try.prog 78 #[mv, .pointer (some ⟨fb, 0, none⟩), IV x] w fun e w' => e = .returned (.int .i64 1) ∧ Below w.heap.size w w' := by
  have hb1 := bel1 w (.cells #[.int .i64 x.op, .int .i64 x.a, .int .i64 x.b, .int .i64 x.c, .string x.name] 81)
  have h1 := hF.later hb1
  have c13 : (w.alloc (.cells #[.int .i64 x.op, .int .i64 x.a, .int .i64 x.b, .int .i64 x.c, .string x.name] 81)).cell? ⟨fb, 13, none⟩ = some (.bool f.fast) := by rw [cell_of_row _ _ _ _ _ _ h1.box]; rfl
  rw [hf] at c13
  clear h1 hF
  go_enter Try.func78, Try.ntmps78
  go_upto_region 1 with (fail)
  generalize (w.alloc (.cells #[.int .i64 x.op, .int .i64 x.a, .int .i64 x.b, .int .i64 x.c, .string x.name] 81)) = W at *
  go_wp2
  go_ret
  exact ⟨rfl, hb1⟩
theorem fb_same9 {f' : Fr} (e1 : f'.cls = f.cls) (e2 : f'.meth = f.meth) (e3 : f'.self = f.self) (e4 : f'.pc = f.pc) (e5 : f'.fast = f.fast) (h : w.heap[fb]? = some (FB f cv av tv sv kv)) : w.heap[fb]? = some (FB f' cv av tv sv kv) := by rw [h]; unfold FB; rw [e1, e2, e3, e4, e5]
/-- The temporaries are set. -/
theorem FrAt.setTemp {tb : Nat} {n : Int} {v : QV} (h : FrAt T K w fb f cv av (.slice (some ⟨tb, 0, none⟩) f.temps.length f.temps.length) sv kv) (hT : T tb = K + 1) (hw : w'.heap[tb]? = some (.cells (vcells (setEntryE f.temps n v)).toArray 27 (0, 0))) (k : Kp (fun t => t = K + 1) T w w') : FrAt T K w' fb { f with temps := setEntryE f.temps n v } cv av (.slice (some ⟨tb, 0, none⟩) f.temps.length f.temps.length) sv kv := by
  have hp := h.pos
  obtain ⟨tb', e, d2, d3, d4⟩ := h.temps
  refine ⟨fb_same9 rfl rfl rfl rfl rfl (k.held h.box (by rw [h.tag]; omega)), h.tag, h.args.fx goodV (.refl _ _) k (by omega), ⟨tb, by show _ = Value.slice _ (setEntryE f.temps n v).length (setEntryE f.temps n v).length; rw [setEntry_len], hw, hT, by show (setEntryE f.temps n v).length ≤ 40; rw [setEntry_len]; exact d4⟩, h.stack.keep fun g hg => k.blk g (h.stack.lt g hg).2 (by rw [h.stag g hg]; omega), h.stag, h.few, h.code.fx goodI (.refl _ _) k (by omega), h.meth.fx goodI (.refl _ _) k (by omega), hp⟩

/-- What a step does that pushes nothing by itself. -/
def noneE (ent : Ent σ) (E : Env σ) (d : Nat) (m : Mc σ) (f : Fr) (a : Int) (x : QI) : Mc σ × Fr × Int :=
    if x.op = 9 then (m, f.pop, 0)
    else if x.op = 10 then (m, f.push f.top, 0)
    else if x.op = 11 then (m, { f.pop with temps := setEntryE f.temps x.a f.top }, 0)
    else if x.op = 12 then ({ m with heap := setSlotE m.heap f.self x.a f.top }, f.pop, 0)
    else if x.op = 13 then makeE E m f x.a
    else if x.op = 14 then sendE ent E m f a x
    else if x.op = 15 then jumpE m f a x.a
    else if x.op = 16 then elseE m f a x.a
    else fastE E d m f x
set_option maxHeartbeats 8000000 in
theorem step_any (hC : Cx p L q) {d : Nat} (hEn : EnterOk p L d) (h : MacAt p T w mb m (20 - (d : Int)) hv g s) (hF : FrAt T K w fb f cv av tv sv kv) (hL : L T w m.st (leftE p.E m)) (hI : MIn p.E m) (hFo : FOk p.E.classes m.heap.length f) (hst : f.stack.length ≤ 12) (hfa : f.fast = false) (a : Int) (x : QI) :
    Calls Try.prog 66 #[.pointer (some ⟨mb, 0, none⟩), .pointer (some ⟨fb, 0, none⟩), .int .i64 a, IV x] w fun e w' => StPost p L T w mb (20 - (d : Int)) K fb (mstepE (entE p.E d) p.E d m f a x) e w' := by
  have hp := hF.pos
  have hX := tagged_ext T w 4
  have hT4 : ∀ b, w.heap.size ≤ b → tagged T w 4 b = 4 := fun b hb => tagged_new hb
  have hb1 := bel1 w (.cells #[.int .i64 x.op, .int .i64 x.a, .int .i64 x.b, .int .i64 x.c, .string x.name] 81)
  have hM0 := (h.tagged0 4).later hb1
  have hF0 := (hF.tagged0 4).later hb1
  have hL0 := hC.keep (hC.keep hL hX (Kp.refl (fun _ => False) _ _) id id) (.refl _ _) (Kp.of_below (S := fun _ => False) hb1) id id
  have hR0 := sdR_new w x 81
  have hroom : f.stack.length < 1000000000 := by omega
  clear h hF hL
  generalize tagged T w 4 = T1 at *
  go_enter Try.func66, Try.ntmps66
  go_upto_region 1 with (fail)
  generalize (w.alloc (.cells #[.int .i64 x.op, .int .i64 x.a, .int .i64 x.b, .int .i64 x.c, .string x.name] 81)) = W at *
  obtain ⟨x0, x1, x2, x3, x4⟩ := id hR0
  have hpu := pushed_any hM0 hF0 x
  go_wp2_with fail
  refine hpu.mono ?_
  rintro e w1 ⟨rfl, hbw⟩
  clear hpu x0 x1 x2 x3 x4
  have hbV : ∀ u : QV, Below W.heap.size W (w1.alloc (.cells #[.int .i64 u.k, .int .i64 u.n] 27)) := fun u => nstep hbw (bel1 _ _)
  cases hpu : pushedE m.heap f x with
  | some u =>
    have HM : Hid (mstepE (entE p.E d) p.E d m f a x = (m, f.push u, 0)) := by show _ = _; unfold mstepE; rw [hpu]
    clear hpu
    have HB := hid (hbV u)
    have HF0 := hid hF0
    have HM0 := hid hM0
    have HL0 := hid hL0
    have HB1 := hid hb1
    have hF1 := hF0.later (hbV u)
    clear hF0 hM0 hL0 hR0 hb1 hbV
    go_wp2_with fail
    refine (push_any hF1 u hroom).mono ?_
    rintro e w2 ⟨rfl, ⟨T2, sv2, hX2, hF2⟩, hK2⟩
    have Q : Hid (StPost p L T w mb (20 - (d : Int)) K fb (m, f.push u, 0) (.returned (.int .i64 0)) w2) := stPost_of hC ⟨rfl, rfl⟩ hX (Kp.of_below (nstep HB1.out HB.out)) (hC.keep HL0.out (.refl _ _) (Kp.of_below (S := fun _ => False) HB.out) id id) rfl hX2 ⟨_, _, _, (HM0.out.later HB.out).keep hX2 hK2 (by omega) (by omega) (by omega)⟩ (fun _ => ⟨_, _, _, _, _, hF2⟩) hK2 (fun t h => by unfold All; omega) (by omega) (by omega)
    clear hF1 hF2 hK2 hX2
    go_wp2
    go_ret
    rw [HM.out]
    exact Q.out
  | none =>
    have HM : Hid (mstepE (entE p.E d) p.E d m f a x = noneE (entE p.E d) p.E d m f a x) := by show _ = _; unfold mstepE noneE; rw [hpu]
    clear hpu
    have hbv := hbV nilV
    have hM1 := hM0.later hbv
    have hF1 := hF0.later hbv
    have hL1 := hC.keep hL0 (.refl _ _) (Kp.of_below (S := fun _ => False) hbv) id id
    have hR1 : SdR w x (w1.alloc (.cells #[.int .i64 0, .int .i64 0] 27)) := hR0.kp (T := T1) (S := fun _ => False) (Kp.of_below hbv) id
    have HKV : Hid (Kp (All K) T w (w1.alloc (.cells #[.int .i64 0, .int .i64 0] 27))) := Kp.of_below (nstep hb1 hbv)
    have hz4 : T1 w.heap.size = 4 := hT4 _ (Nat.le_refl _)
    have hXV : Hid (∀ {T3 : Nat → Nat} {V' w2 : World}, Ext T1 T3 w2 → Kp (fun t => t = K) T1 V' w2 → Ext T1 T3 V') := fun h k b hb => h b (Nat.lt_of_lt_of_le hb k.size)
    clear hM0 hF0 hL0 hR0 hbV hbv
    go_upto_region 5 with (fail)
    generalize (w1.alloc (.cells #[.int .i64 0, .int .i64 0] 27)) = V at *
    obtain ⟨x0, x1, x2, x3, x4⟩ := id hR1
    have hVz : w.heap.size < V.heap.size := World.block_lt_of_cell? V ⟨w.heap.size, 0, none⟩ x0
    clear hbw
    by_cases h9 : x.op = 9
    · have HN : Hid (mstepE (entE p.E d) p.E d m f a x = (m, f.pop, 0)) := by show _ = _; rw [HM.out]; unfold noneE; rw [if_pos h9]
      have h9' : (x.op == 9) = true := by simpa using h9
      clear HM h9
      go_wp2_with fail
      refine (pop_any hF1).mono ?_
      rintro e w2 ⟨rfl, ⟨sv2, hF2⟩, hK2⟩
      have Q : Hid (StPost p L T w mb (20 - (d : Int)) K fb (m, f.pop, 0) (.returned (.int .i64 0)) w2) := stPost_of hC ⟨rfl, rfl⟩ hX HKV.out hL1 rfl (.refl _ _) ⟨_, _, _, hM1.keep (.refl _ _) hK2 (by omega) (by omega) (by omega)⟩ (fun _ => ⟨_, _, _, _, _, hF2⟩) hK2 (fun t h => by unfold All; omega) (by omega) (by omega)
      clear hF1 hF2 hK2 hM1 hL1 hR1 x0 x1 x2 x3 x4
      go_wp2
      go_ret
      rw [HN.out]
      exact Q.out
    have h9' : (x.op == 9) = false := by simpa using h9
    by_cases h10 : x.op = 10
    · have HN : Hid (mstepE (entE p.E d) p.E d m f a x = (m, f.push f.top, 0)) := by show _ = _; rw [HM.out]; unfold noneE; rw [if_neg h9]; rw [if_pos h10]
      have h10' : (x.op == 10) = true := by simpa using h10
      clear HM h9 h10
      go_wp2_with fail
      refine (below_any hF1 0 ⟨by omega, by omega⟩).mono ?_
      rintro e w2 ⟨rfl, hb2⟩
      have HT : Hid (f.top = belowE f.stack 0) := rfl
      rw [← HT.out]
      have hF2 := hF1.later hb2
      clear x0 x1 x2 x3 x4
      go_wp2_with fail
      refine (push_any hF2 f.top hroom).mono ?_
      rintro e w3 ⟨rfl, ⟨T3, sv3, hX3, hF3⟩, hK3⟩
      have Q : Hid (StPost p L T w mb (20 - (d : Int)) K fb (m, f.push f.top, 0) (.returned (.int .i64 0)) w3) := stPost_of hC ⟨rfl, rfl⟩ hX (HKV.out.on hb2) (hC.keep hL1 (.refl _ _) (Kp.of_below (S := fun _ => False) hb2) id id) rfl hX3 ⟨_, _, _, (hM1.later hb2).keep hX3 hK3 (by omega) (by omega) (by omega)⟩ (fun _ => ⟨_, _, _, _, _, hF3⟩) hK3 (fun t h => by unfold All; omega) (by omega) (by omega)
      clear hF1 hF2 hF3 hK3 hX3 hM1 hL1 hR1 hb2
      go_wp2
      go_ret
      rw [HN.out]
      exact Q.out
    have h10' : (x.op == 10) = false := by simpa using h10
    by_cases h11 : x.op = 11
    · have HN : Hid (mstepE (entE p.E d) p.E d m f a x = (m, { f.pop with temps := setEntryE f.temps x.a f.top }, 0)) := by show _ = _; rw [HM.out]; unfold noneE; rw [if_neg h9]; rw [if_neg h10]; rw [if_pos h11]
      have h11' : (x.op == 11) = true := by simpa using h11
      clear HM h9 h10 h11
      obtain ⟨tb, rfl, ht2, ht3, ht4⟩ := hF1.temps
      go_wp2
      have hFd := hF1.later (Below.refl _ V).drew
      have hS0 : V.drew.cell? ⟨fb, 9, none⟩ = some (.slice (some ⟨tb, 0, none⟩) f.temps.length f.temps.length) ∧ V.drew.cell? ⟨w.heap.size, 1, none⟩ = some (.int .i64 x.a) := ⟨hFd.c.2.2.2, x1⟩
      have tokA : True := trivial
      go_region_held3 (fun w' => w'.cell? ⟨fb, 9, none⟩ = some (.slice (some ⟨tb, 0, none⟩) f.temps.length f.temps.length) ∧ w'.cell? ⟨w.heap.size, 1, none⟩ = some (.int .i64 x.a))
        (first | with_reducible exact hS0 | with_reducible exact hS1 | with_reducible exact hS2)
        (first
          | (have _t := tokA; go_at_call 65; refine (pop_any hFd).mono ?_; rintro e w2 ⟨rfl, ⟨sv2, hF2⟩, hK2⟩; have hS1 := And.intro hF2.c.2.2.2 (hK2.cell hS0.2 (by rw [hz4]; omega)); have hT2 : w2.heap[tb]? = some (.cells (vcells f.temps).toArray 27 (0, 0)) := (hK2.held (box_later' ht2 (Below.refl _ V).drew) (by rw [ht3]; omega)); clear tokA; have tokB : True := trivial)
          | (have _t := tokB; go_at_call 72; refine (setEntry_any f.temps tb x.a f.top _ hT2).mono ?_; rintro e w3 ⟨rfl, hw3, hz3, hka⟩; have hk3 := hka (fun t => t = K + 1) T1 ht3; have hS2 := And.intro (hk3.cell hS1.1 (by rw [hF2.tag]; omega)) (hk3.cell hS1.2 (by rw [hz4]; omega)); clear tokB))
      have hF3 := hF2.setTemp ht3 hw3 hk3
      have Q : Hid (StPost p L T w mb (20 - (d : Int)) K fb (m, { f.pop with temps := setEntryE f.temps x.a f.top }, 0) (.returned (.int .i64 0)) w3) := stPost_of hC ⟨rfl, rfl⟩ hX HKV.out.drew (hC.keep hL1 (.refl _ _) (Kp.refl (fun _ => False) _ _).drew id id) rfl (.refl _ _) ⟨_, _, _, ((hM1.later (Below.refl _ V).drew).keep (.refl _ _) hK2 (by omega) (by omega) (by omega)).keep (.refl _ _) hk3 (by omega) (by omega) (by omega)⟩ (fun _ => ⟨_, _, _, _, _, hF3⟩) (S := fun t => t = K ∨ t = K + 1) ((hK2.mono fun t h => Or.inl h).trans (.refl _ _) (hk3.mono fun t h => Or.inr h)) (fun t h => by unfold All; omega) (by omega) (by omega)
      clear hF1 hF2 hF3 hFd hK2 hk3 hM1 hL1 hR1 x0 x1 x2 x3 x4 hw3 hka hT2 ht2 hS0 hS1 hS2
      go_wp2
      go_ret
      rw [HN.out]
      exact Q.out
    have h11' : (x.op == 11) = false := by simpa using h11
    by_cases h12 : x.op = 12
    · have HN : Hid (mstepE (entE p.E d) p.E d m f a x = ({ m with heap := setSlotE m.heap f.self x.a f.top }, f.pop, 0)) := by show _ = _; rw [HM.out]; unfold noneE; rw [if_neg h9]; rw [if_neg h10]; rw [if_neg h11]; rw [if_pos h12]
      have h12' : (x.op == 12) = true := by simpa using h12
      clear HM h9 h10 h11 h12
      go_wp2
      have hFd := hF1.later (Below.refl _ V).drew
      have hMd := hM1.later (Below.refl _ V).drew
      have hS0 : V.drew.cell? ⟨fb, 6, none⟩ = some (.int .i64 f.self.k) ∧ V.drew.cell? ⟨fb, 7, none⟩ = some (.int .i64 f.self.n) ∧ V.drew.cell? ⟨w.heap.size, 1, none⟩ = some (.int .i64 x.a) := ⟨hFd.c.1, hFd.c.2.1, x1⟩
      have tokA : True := trivial
      go_region_held3 (fun w' => w'.cell? ⟨fb, 6, none⟩ = some (.int .i64 f.self.k) ∧ w'.cell? ⟨fb, 7, none⟩ = some (.int .i64 f.self.n) ∧ w'.cell? ⟨w.heap.size, 1, none⟩ = some (.int .i64 x.a))
        (first | with_reducible exact hS0 | with_reducible exact hS1 | with_reducible exact hS2)
        (first
          | (have _t := tokA; go_at_call 65; refine (pop_any hFd).mono ?_; rintro e w2 ⟨rfl, ⟨sv2, hF2⟩, hK2⟩; have hS1 : w2.cell? ⟨fb, 6, none⟩ = some (.int .i64 f.self.k) ∧ w2.cell? ⟨fb, 7, none⟩ = some (.int .i64 f.self.n) ∧ w2.cell? ⟨w.heap.size, 1, none⟩ = some (.int .i64 x.a) := ⟨hF2.c.1, hF2.c.2.1, hK2.cell hS0.2.2 (by rw [hz4]; omega)⟩; have hM2 := hMd.keep (.refl _ _) hK2 (by omega) (by omega) (by omega); clear tokA; have tokB : True := trivial)
          | (have _t := tokB; go_at_call 73; refine (setSlot_any hM2 f.self x.a f.top).mono ?_; rintro e w3 ⟨rfl, ⟨T3, hX3, hM3⟩, hK3⟩; have hF3 := hF2.keep hX3 hK3 (by omega) (by omega) (by omega) (by omega); have hS2 : w3.cell? ⟨fb, 6, none⟩ = some (.int .i64 f.self.k) ∧ w3.cell? ⟨fb, 7, none⟩ = some (.int .i64 f.self.n) ∧ w3.cell? ⟨w.heap.size, 1, none⟩ = some (.int .i64 x.a) := ⟨hF3.c.1, hF3.c.2.1, hK3.cell hS1.2.2 (by rw [hz4]; omega)⟩; clear tokB))
      have Q : Hid (StPost p L T w mb (20 - (d : Int)) K fb ({ m with heap := setSlotE m.heap f.self x.a f.top }, f.pop, 0) (.returned (.int .i64 0)) w3) := stPost_of hC ⟨rfl, rfl⟩ hX HKV.out.drew (hC.keep hL1 (.refl _ _) (Kp.refl (fun _ => False) _ _).drew id id) rfl (hXV.out hX3 hK2) ⟨_, _, _, hM3⟩ (fun _ => ⟨_, _, _, _, _, hF3⟩) (S := fun t => t = K ∨ t = 2) ((hK2.mono fun t h => Or.inl h).trans (.refl _ _) (hK3.mono fun t h => Or.inr h)) (fun t h => by unfold All; omega) (by omega) (by omega)
      clear hF1 hF2 hF3 hFd hMd hM2 hM3 hK2 hK3 hX3 hM1 hL1 hR1 x0 x1 x2 x3 x4 hS0 hS1 hS2
      go_wp2
      go_ret
      rw [HN.out]
      exact Q.out
    have h12' : (x.op == 12) = false := by simpa using h12
    by_cases h13 : x.op = 13
    · have HN : Hid (mstepE (entE p.E d) p.E d m f a x = makeE p.E m f x.a) := by show _ = _; rw [HM.out]; unfold noneE; rw [if_neg h9]; rw [if_neg h10]; rw [if_neg h11]; rw [if_neg h12]; rw [if_pos h13]
      have h13' : (x.op == 13) = true := by simpa using h13
      clear HM h9 h10 h11 h12 h13
      have hmk := makeObject_any hM1 hF1 x.a (hC.ok.slots x.a) hroom
      have hsd : (makeE p.E m f x.a).1.st = m.st ∧ (makeE p.E m f x.a).1.sends = m.sends := ⟨make_st _ _ _ _, make_sends _ _ _ _⟩
      generalize makeE p.E m f x.a = r at *
      go_wp2_with fail
      refine hmk.mono ?_
      rintro e w2 ⟨rfl, ⟨T2, hX2, hM2, hF2⟩, hK2⟩
      have Q : Hid (StPost p L T w mb (20 - (d : Int)) K fb r (.returned (.int .i64 r.2.2)) w2) := stPost_of hC hsd hX HKV.out hL1 rfl hX2 hM2 (fun h => (hF2 h).elim fun sv' h' => ⟨_, _, _, sv', _, h'⟩) hK2 (fun t h => by unfold All; omega) (by omega) (by omega)
      clear hF1 hF2 hK2 hX2 hM1 hM2 hL1 hR1 x0 x1 x2 x3 x4 hmk hsd
      go_wp2
      go_ret
      rw [HN.out]
      exact Q.out
    have h13' : (x.op == 13) = false := by simpa using h13
    by_cases h14 : x.op = 14
    · have HN : Hid (mstepE (entE p.E d) p.E d m f a x = sendE (entE p.E d) p.E m f a x) := by show _ = _; rw [HM.out]; unfold noneE; rw [if_neg h9]; rw [if_neg h10]; rw [if_neg h11]; rw [if_neg h12]; rw [if_neg h13]; rw [if_pos h14]
      have h14' : (x.op == 14) = true := by simpa using h14
      clear HM h9 h10 h11 h12 h13 h14
      have hsn := send_any hC hEn hM1 hF1 hL1 hI hFo hst a x
      generalize sendE (entE p.E d) p.E m f a x = r at *
      go_wp2_with fail
      refine hsn.mono ?_
      rintro e w2 ⟨rfl, ⟨T2, hX2, hM2, hL2, hF2⟩, hK2⟩
      have Q : Hid (StPost p L T w mb (20 - (d : Int)) K fb r (.returned (.int .i64 r.2.2)) w2) := ⟨rfl, ⟨T2, hX.trans HKV.out.size hX2, hM2, hL2, hF2⟩, HKV.out.trans hX hK2⟩
      clear hF1 hF2 hK2 hX2 hM1 hM2 hL1 hL2 hR1 x0 x1 x2 x3 x4 hsn
      go_wp2
      go_ret
      rw [HN.out]
      exact Q.out
    have h14' : (x.op == 14) = false := by simpa using h14
    by_cases h15 : x.op = 15
    · have HN : Hid (mstepE (entE p.E d) p.E d m f a x = jumpE m f a x.a) := by show _ = _; rw [HM.out]; unfold noneE; rw [if_neg h9]; rw [if_neg h10]; rw [if_neg h11]; rw [if_neg h12]; rw [if_neg h13]; rw [if_neg h14]; rw [if_pos h15]
      have h15' : (x.op == 15) = true := by simpa using h15
      clear HM h9 h10 h11 h12 h13 h14 h15
      have hjm := jump_any hM1 hF1 a x.a hI.turns
      have hsd : (jumpE m f a x.a).1.st = m.st ∧ (jumpE m f a x.a).1.sends = m.sends := ⟨jump_st _ _ _ _, jump_sends _ _ _ _⟩
      generalize jumpE m f a x.a = r at *
      go_wp2_with fail
      refine hjm.mono ?_
      rintro e w2 ⟨rfl, hM2, hF2, hK2⟩
      have Q : Hid (StPost p L T w mb (20 - (d : Int)) K fb r (.returned (.int .i64 r.2.2)) w2) := stPost_of hC hsd hX HKV.out hL1 rfl (.refl _ _) ⟨_, _, _, hM2⟩ (fun _ => ⟨_, _, _, _, _, hF2⟩) hK2 (fun t h => by unfold All; omega) (by omega) (by omega)
      clear hF1 hF2 hK2 hM1 hM2 hL1 hR1 x0 x1 x2 x3 x4 hjm hsd
      go_wp2
      go_ret
      rw [HN.out]
      exact Q.out
    have h15' : (x.op == 15) = false := by simpa using h15
    by_cases h16 : x.op = 16
    · have HN : Hid (mstepE (entE p.E d) p.E d m f a x = elseE m f a x.a) := by show _ = _; rw [HM.out]; unfold noneE; rw [if_neg h9]; rw [if_neg h10]; rw [if_neg h11]; rw [if_neg h12]; rw [if_neg h13]; rw [if_neg h14]; rw [if_neg h15]; rw [if_pos h16]
      have h16' : (x.op == 16) = true := by simpa using h16
      clear HM h9 h10 h11 h12 h13 h14 h15 h16
      have hjm := orElse_any hM1 hF1 a x.a hI.turns
      have hsd : (elseE m f a x.a).1.st = m.st ∧ (elseE m f a x.a).1.sends = m.sends := ⟨else_st _ _ _ _, else_sends _ _ _ _⟩
      generalize elseE m f a x.a = r at *
      go_wp2_with fail
      refine hjm.mono ?_
      rintro e w2 ⟨rfl, hM2, hF2, hK2⟩
      have Q : Hid (StPost p L T w mb (20 - (d : Int)) K fb r (.returned (.int .i64 r.2.2)) w2) := stPost_of hC hsd hX HKV.out hL1 rfl (.refl _ _) ⟨_, _, _, hM2⟩ (fun h => (hF2 h).elim fun sv' h' => ⟨_, _, _, sv', _, h'⟩) hK2 (fun t h => by unfold All; omega) (by omega) (by omega)
      clear hF1 hF2 hK2 hM1 hM2 hL1 hR1 x0 x1 x2 x3 x4 hjm hsd
      go_wp2
      go_ret
      rw [HN.out]
      exact Q.out
    have h16' : (x.op == 16) = false := by simpa using h16
    have HN : Hid (mstepE (entE p.E d) p.E d m f a x = (m, f, 1)) := by show _ = _; rw [HM.out]; unfold noneE; rw [if_neg h9]; rw [if_neg h10]; rw [if_neg h11]; rw [if_neg h12]; rw [if_neg h13]; rw [if_neg h14]; rw [if_neg h15]; rw [if_neg h16]; unfold fastE; rw [if_pos hfa]
    clear HM h9 h10 h11 h12 h13 h14 h15 h16
    go_wp2_with fail
    refine (fastStep_plain hF1 hfa x _).mono ?_
    rintro e w2 ⟨rfl, hb2⟩
    have Q : Hid (StPost p L T w mb (20 - (d : Int)) K fb (m, f, 1) (.returned (.int .i64 1)) w2) := stPost_of hC (S := fun _ => False) ⟨rfl, rfl⟩ hX HKV.out hL1 rfl (.refl _ _) ⟨_, _, _, hM1.later hb2⟩ (fun h => absurd h (by simp)) (Kp.of_below hb2) (fun t h => h.elim) id id
    clear hF1 hb2 hM1 hL1 hR1 x0 x1 x2 x3 x4
    go_wp2
    go_ret
    rw [HN.out]
    exact Q.out
end
end Go.Proofs.Ytfdonemehiamjaa
