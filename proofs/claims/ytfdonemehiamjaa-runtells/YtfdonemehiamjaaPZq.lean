/- Methods that are entered. -/
import Derived.Test.YtfdonemehiamjaaPZp
namespace Go.Proofs.Ytfdonemehiamjaa
open Go.ChangeShapes Go.WideShapes Go.ChangeAt Go.RowKit
set_option linter.unusedSimpArgs false
set_option linter.unusedVariables false
set_option maxRecDepth 8000

section
variable {σ : Type}
theorem count_t (E : Env σ) (d : Nat) (m : Mc σ) : (countE E d m).1.turns = m.turns := count_turns E d m
theorem enter_t (E : Env σ) (d : Nat) {body : Mc σ → Fr → Mc σ × QV × Int} (hb : ∀ m f, m.turns ≤ 300 → f.fast = false → (body m f).2.2 = 0 → (body m f).1.turns ≤ 300) (hq : ∀ c n, E.quick c n = none) : EntT (enterE E d body) := by
  intro m c n s a h h0
  unfold enterE at h0 ⊢
  cases hm : methAt E.classes c n with
  | none => exact h
  | some mt =>
    rw [hm] at h0
    simp only at h0 ⊢
    split
    · exact h
    · rename_i k
      rw [if_neg k] at h0
      split
      · split <;> exact h
      · rename_i k2
        rw [if_neg k2] at h0
        split
        · exact h
        · rename_i k3
          rw [if_neg k3] at h0
          refine hb _ _ (by rw [count_t]; exact h) ?_ h0
          unfold frameE; rw [hq]
theorem fin_t {E : Env σ} {ent : Ent σ} (he : EntT ent) (d : Nat) (hfl : ∀ (m : Mc σ) (f : Fr) (a : Int) (x : QI), f.fast = false → (mstepE ent E d m f a x).2.1.fast = false) : ∀ (g : Nat) (m : Mc σ) (f : Fr), m.turns ≤ 300 → f.fast = false → (finE ent E d g m f).2.2 = 0 → (finE ent E d g m f).1.turns ≤ 300
  | 0, m, f, h, _, _ => h
  | g + 1, m, f, h, hf, h0 => by
    unfold finE at h0 ⊢
    generalize (if f.pc < 0 then none else f.code[f.pc.toNat]?) = q at h0 ⊢
    cases q with
    | none => exact h
    | some x =>
      simp only at h0 ⊢
      split
      · exact h
      · rename_i k
        rw [if_neg k] at h0
        split
        · rename_i k2; rw [if_pos k2] at h0; exact absurd h0 k2
        · rename_i k2
          rw [if_neg k2] at h0
          exact fin_t he d hfl g _ _ (step_t he d h (f := { f with pc := f.pc + 1 }) hf (Decidable.of_not_not k2)) (hfl m { f with pc := f.pc + 1 } f.pc x hf) h0
theorem jump_fl (m : Mc σ) (f : Fr) (a b : Int) : (jumpE m f a b).2.1.fast = f.fast := by
  unfold jumpE
  by_cases h : b ≤ a
  · simp only [h, if_true]; split <;> rfl
  · simp only [h, if_false]; split <;> rfl
theorem step_fl (ent : Ent σ) (E : Env σ) (d : Nat) (m : Mc σ) (f : Fr) (a : Int) (x : QI) (hf : f.fast = false) : (mstepE ent E d m f a x).2.1.fast = false := by
  unfold mstepE
  split
  · exact hf
  · split
    · exact hf
    · split
      · exact hf
      · split
        · exact hf
        · split
          · exact hf
          · split
            · unfold makeE; split <;> exact hf
            · split
              · unfold sendE; simp only; split <;> exact hf
              · split
                · rw [jump_fl]; exact hf
                · split
                  · unfold elseE
                    split
                    · exact hf
                    · split
                      · rw [jump_fl]; exact hf
                      · exact hf
                  · unfold fastE
                    rw [if_pos hf]; exact hf
theorem ent_t (E : Env σ) (hq : ∀ c n, E.quick c n = none) : ∀ d : Nat, EntT (entE E d)
  | 0 => enter_t E 0 (fun m f h _ h0 => h) hq
  | d + 1 => enter_t E (d + 1) (fun m f h hf h0 => fin_t (ent_t E hq d) d (fun m f a x => step_fl (entE E d) E d m f a x) _ m f h hf h0) hq

variable {p : Mp σ} {L : (Nat → Nat) → World → σ → Nat → Prop} {q : Value} {T T' : Nat → Nat} {w w' : World} {mb : Nat} {m m' : Mc σ} {hv : Value} {g : Nat} {s : Nat → Nat} {K fb : Nat} {f : Fr} {cv av tv sv kv : Value}
set_option maxHeartbeats 1000000 in
theorem none_any (c n : Int) (w : World) : Calls Try.prog 21 #[.int .i64 c, .int .i64 n] w fun e w' => e = .returned (.tuple #[FaV 0 ⟨#[]⟩ 0 0 (.slice none 0 0), .bool false]) ∧ Below w.heap.size w w' := by
  go_enter Try.func21, Try.ntmps21
  go_wp2
  refine bodyPost_ret (v := .tuple #[FaV 0 ⟨#[]⟩ 0 0 (.slice none 0 0), .bool false]) ?_ rfl ⟨rfl, bel1 _ _⟩
  simp [results, Try.results21, go_sem]
theorem meth_at {xs : List QC} {c n : Int} {mt : QM} (h : methAt xs c n = some mt) : ∃ (kc kn : Nat) (x : QC), c = (kc : Int) ∧ n = (kn : Int) ∧ xs[kc]? = some x ∧ x.methods[kn]? = some mt := by
  unfold methAt at h
  cases hc : clsAt xs c with
  | none => rw [hc] at h; cases h
  | some x =>
    rw [hc] at h
    obtain ⟨k, rfl, hk⟩ := clsAt_some hc
    simp only [Option.bind_some] at h
    split at h
    · exact ⟨k, n.toNat, x, rfl, by omega, hk, h⟩
    · cases h
/-- What enter's walk holds of its two boxes. -/
structure EnR (w : World) (sf : QV) (w' : World) : Prop where
  s0 : w'.cell? ⟨w.heap.size, 0, none⟩ = some (.int .i64 sf.k)
  s1 : w'.cell? ⟨w.heap.size, 1, none⟩ = some (.int .i64 sf.n)
  r0 : w'.cell? ⟨w.heap.size + 1, 0, none⟩ = some (.int .i64 0)
  r1 : w'.cell? ⟨w.heap.size + 1, 1, none⟩ = some (.int .i64 0)
  rf : ∀ o, w'.frozen? ⟨w.heap.size + 1, o, none⟩ = false
  sz : w.heap.size + 2 ≤ w'.heap.size
theorem EnR.kp {w : World} {self : QV} {w' w'' : World} {S : Nat → Prop} {T : Nat → Nat} (h : EnR w self w') (k : Kp S T w' w'') (h1 : ¬ S (T w.heap.size)) (h2 : ¬ S (T (w.heap.size + 1))) : EnR w self w'' :=
  ⟨k.cell h.s0 h1, k.cell h.s1 h1, k.cell h.r0 h2, k.cell h.r1 h2, fun o => kp_frozen k (by have := h.sz; omega) h2 (h.rf o), Nat.le_trans h.sz k.size⟩
theorem enR_new (w : World) (self : QV) : EnR w self ((w.alloc (.cells #[.int .i64 self.k, .int .i64 self.n] 27)).alloc (.cells #[.int .i64 0, .int .i64 0] 27)) := by
  obtain ⟨a0, a1, r0, r1, rf, sz⟩ := pvR_new w self
  exact ⟨a0, a1, r0, r1, rf, sz⟩
theorem EnPost.fin {calls : Int} {T1 : Nat → Nat} {U : World} {r : Mc σ × QV × Int} (hC : Cx p L q) (hE : Ext T T1 w) (hM : MacAt p T1 U mb r.1 calls hv g s) (hL : L T1 U r.1.st (if r.2.2 = 0 then leftE p.E r.1 else 0)) (hK : Kp (All K) T w U) (h4 : T1 (w.heap.size + 1) = 4) (u0 u1 : Value) : EnPost p L T w mb calls K r (.returned (.tuple #[VV r.2.1, .int .i64 r.2.2])) ((U.setCell ⟨w.heap.size + 1, 0, none⟩ u0).setCell ⟨w.heap.size + 1, 1, none⟩ u1) := by
  have k : Kp (fun t => t = 4) T1 U ((U.setCell ⟨w.heap.size + 1, 0, none⟩ u0).setCell ⟨w.heap.size + 1, 1, none⟩ u1) := ((Kp.refl (fun t => t = 4) _ _).set (fun _ => h4) _ _).set (fun _ => h4) _ _
  exact ⟨rfl, ⟨T1, hE, ⟨_, _, _, hM.keep (.refl _ _) k (by omega) (by omega) (by omega)⟩, hC.keep hL (.refl _ _) k (by omega) (by omega)⟩, (hK.set (fun h => absurd h (by omega)) _ _).set (fun h => absurd h (by omega)) _ _⟩

def bodyE (E : Env σ) : Nat → Mc σ → Fr → Mc σ × QV × Int
  | 0 => fun m _ => (m, nilV, 14)
  | d + 1 => fun m f => finE (entE E d) E d (gasE f) m f
theorem entE_eq (E : Env σ) (d : Nat) : entE E d = enterE E d (bodyE E d) := by cases d <;> rfl
theorem FrNew.later (h : FrNew T K w fb f cv av) (hb : Below w.heap.size w w') : FrNew T K w' fb f cv av := ⟨box_later' h.box hb, h.tag, h.args.fx goodV (.refl _ _) (Kp.of_below (S := fun _ => False) hb) id, h.meth.fx goodI (.refl _ _) (Kp.of_below (S := fun _ => False) hb) id, h.pos, h.stack⟩
set_option maxHeartbeats 8000000 in
theorem enter_any (hC : Cx p L q) (d : Nat) (hd : d ≤ 20) (hIh : ∀ d', d = d' + 1 → EnterOk p L d') : EnterOk p L d := by
  intro K T w mb m hv g s c n self args av hK5 h hL hI hSe hAr hA
  have hX := tagged_ext T w 4
  have hT4 : ∀ b, w.heap.size ≤ b → tagged T w 4 b = 4 := fun b hb => tagged_new hb
  have hb1 := bel2 w (.cells #[.int .i64 self.k, .int .i64 self.n] 27) (.cells #[.int .i64 0, .int .i64 0] 27)
  have hM0 := (h.tagged0 4).later hb1
  have hA0 := (fx_tagged hA goodV 4).fx goodV (.refl _ w) (Kp.of_below (S := fun _ => False) hb1) id
  have hL0 := hC.keep (hC.keep hL hX (Kp.refl (fun _ => False) _ _) id id) (.refl _ _) (Kp.of_below (S := fun _ => False) hb1) id id
  have hR0 := enR_new w self
  have HKW : Hid (Kp (All K) T w ((w.alloc (.cells #[.int .i64 self.k, .int .i64 self.n] 27)).alloc (.cells #[.int .i64 0, .int .i64 0] 27))) := Kp.of_below hb1
  obtain ⟨aa, ca, rfl, -⟩ := id hA
  have hlm := blk_lt h.box
  clear h hA hL
  generalize tagged T w 4 = T1 at *
  have t0 : T1 w.heap.size = 4 := hT4 _ (Nat.le_refl _)
  have t1 : T1 (w.heap.size + 1) = 4 := hT4 _ (by omega)
  go_enter Try.func42, Try.ntmps42
  go_upto_region 1 with (fail)
  generalize ((w.alloc (.cells #[.int .i64 self.k, .int .i64 self.n] 27)).alloc (.cells #[.int .i64 0, .int .i64 0] 27)) = W at *
  have hhas := mhas_any hM0 c n
  have HEN : Hid (entE p.E d m c n self args = enterE p.E d (bodyE p.E d) m c n self args) := by show _ = _; rw [entE_eq]
  go_wp2_with fail
  refine hhas.mono ?_
  rintro e w1 ⟨rfl, hbw⟩
  have hM1 := hM0.later hbw
  have hA1 := hA0.fx goodV (.refl _ _) (Kp.of_below (S := fun _ => False) hbw) id
  have hL1 := hC.keep hL0 (.refl _ _) (Kp.of_below (S := fun _ => False) hbw) id id
  have hR1 := hR0.kp (T := T1) (S := fun _ => False) (Kp.of_below hbw) id id
  have HK1 := hid (HKW.out.on hbw)
  clear hhas hM0 hA0 hL0 hR0 hbw hb1
  obtain ⟨s0, s1, r0, r1, rf, sz⟩ := id hR1
  cases hma : methAt p.E.classes c n with
  | none =>
    have HE : Hid (entE p.E d m c n self args = (m, nilV, 10)) := by show _ = _; rw [HEN.out]; unfold enterE; rw [hma]
    clear hma HEN
    have Q := fun u0 u1 => EnPost.fin (r := (m, nilV, 10)) hC hX hM1 (by rw [if_neg (by simp)]; exact hC.mono hL1 (Nat.zero_le _)) HK1.out t1 u0 u1
    have HQ := hid Q
    clear Q hM1 hL1 hA1 hR1
    go_wp2
    rw [HE.out]
    refine bodyPost_ret (v := .tuple #[VV nilV, .int .i64 10]) ?_ rfl (HQ.out _ _)
    simp [results, Try.results42, go_sem, r0, r1]
  | some mt =>
    obtain ⟨kc, kn, xc, rfl, rfl, hxc, hxm⟩ := meth_at hma
    obtain ⟨ac, cc, hcv, hcl, hcc, -, hrow⟩ := hM1.cls
    obtain ⟨bc, oc, hac, -, e0, e1, e2, e3, mv, e4, hmv⟩ := hrow kc xc hxc
    obtain ⟨am, cm, rfl, hml, hcm, -, hrowm⟩ := hmv
    obtain ⟨bm, om, rfl, hbm, f0, f1, f2, f3, f4, cv, f5, hcode⟩ := hrowm kn mt hxm
    obtain ⟨ak, ck, rfl, -⟩ := id hcode
    have m0 := hM1.c0
    rw [hcv, hac] at m0
    simp only [Nat.add_zero] at e0 f0
    unfold maxLen at hcc hcm
    have l1 := lt_of_get hxc
    have l2 := lt_of_get hxm
    have c1 : (kc : Int) < (p.E.classes.length : Int) := by omega
    have c2 : (kn : Int) < (xc.methods.length : Int) := by omega
    have c3 : (0 : Int) ≤ (kc : Int) := by omega
    have c4 : (0 : Int) ≤ (kn : Int) := by omega
    clear hrow hrowm hcv hac hxc hxm
    have hbV := bel1 w1 (.cells #[.string mt.name, .int .i64 mt.args, .int .i64 mt.temps, .int .i64 mt.prim, .slice ak mt.code.length ck] 54)
    have hM2 := hM1.later hbV
    have hA2 := hA1.fx goodV (.refl _ _) (Kp.of_below (S := fun _ => False) hbV) id
    have hCo2 := hcode.fx goodI (.refl _ _) (Kp.of_below (S := fun _ => False) hbV) id
    have hL2 := hC.keep hL1 (.refl _ _) (Kp.of_below (S := fun _ => False) hbV) id id
    have hR2 := hR1.kp (T := T1) (S := fun _ => False) (Kp.of_below hbV) id id
    have b0 := cell_new w1 #[.string mt.name, .int .i64 mt.args, .int .i64 mt.temps, .int .i64 mt.prim, .slice ak mt.code.length ck] 54 _ rfl 0
    have b1 := cell_new w1 #[.string mt.name, .int .i64 mt.args, .int .i64 mt.temps, .int .i64 mt.prim, .slice ak mt.code.length ck] 54 _ rfl 1
    have b2 := cell_new w1 #[.string mt.name, .int .i64 mt.args, .int .i64 mt.temps, .int .i64 mt.prim, .slice ak mt.code.length ck] 54 _ rfl 2
    have b3 := cell_new w1 #[.string mt.name, .int .i64 mt.args, .int .i64 mt.temps, .int .i64 mt.prim, .slice ak mt.code.length ck] 54 _ rfl 3
    have b4 := cell_new w1 #[.string mt.name, .int .i64 mt.args, .int .i64 mt.temps, .int .i64 mt.prim, .slice ak mt.code.length ck] 54 _ rfl 4
    have HK2 := hid (HK1.out.on hbV)
    have tm : T1 w1.heap.size = 4 := hT4 _ (by omega)
    have hMz : w1.heap.size < (w1.alloc (.cells #[.string mt.name, .int .i64 mt.args, .int .i64 mt.temps, .int .i64 mt.prim, .slice ak mt.code.length ck] 54)).heap.size := by simp
    go_upto_region 4 with (fail)
    clear hM1 hA1 hL1 hR1 s0 s1 r0 r1 rf sz e0 e1 e2 e3 e4 f0 f1 f2 f3 f4 f5 m0 hcode hbV HK1
    generalize (w1.alloc (.cells #[.string mt.name, .int .i64 mt.args, .int .i64 mt.temps, .int .i64 mt.prim, .slice ak mt.code.length ck] 54)) = V at *
    simp only [List.getElem?_toArray, List.getElem?_cons_zero, List.getElem?_cons_succ] at b0 b1 b2 b3 b4
    generalize w1.heap.size = MBk at *
    obtain ⟨s0, s1, r0, r1, rf, sz⟩ := id hR2
    have HN : Hid (entE p.E d m kc kn self args = if mt.args ≠ args.length then (m, nilV, 8) else if mt.prim ≠ 0 then primitiveE p.E m mt.prim self args else if (countE p.E d m).2 ≠ 0 then (m, nilV, (countE p.E d m).2) else bodyE p.E d (countE p.E d m).1 (frameE p.E kc kn mt self args)) := by
      show _ = _
      rw [HEN.out]
      unfold enterE primitiveE
      rw [hma]
    have HMA := hid hma
    clear hma HEN
    by_cases hag : mt.args = (args.length : Int)
    · have hag' : (mt.args != (args.length : Int)) = false := by simpa using hag
      rw [if_neg (by simpa using hag)] at HN
      have HAG := hid hag
      clear hag
      by_cases hpr : mt.prim = 0
      · have hpr' : (mt.prim != 0) = false := by simpa using hpr
        rw [if_neg (by simpa using hpr)] at HN
        have HPR := hid hpr
        clear hpr
        have hcc := countCall_any d hM2 hI.sends.1 (by have := hC.fuel; omega) rfl hd
        obtain ⟨m3, e3, hce⟩ : ∃ m3 e3, countE p.E d m = (m3, e3) := ⟨_, _, rfl⟩
        rw [hce] at hcc HN
        go_wp2_with fail
        refine hcc.mono ?_
        rintro e w3 ⟨rfl, hM3, hK3⟩
        have hR3 := hR2.kp hK3 (by rw [t0]; omega) (by rw [t1]; omega)
        have hL3 := hC.keep hL2 (.refl _ _) hK3 (by omega) (by omega)
        have hA3 := hA2.fx goodV (.refl _ _) hK3 (by omega)
        have hCo3 := hCo2.fx goodI (.refl _ _) hK3 (by omega)
        have d0 := hK3.cell b0 (by rw [tm]; omega)
        have d1 := hK3.cell b1 (by rw [tm]; omega)
        have d2 := hK3.cell b2 (by rw [tm]; omega)
        have d3 := hK3.cell b3 (by rw [tm]; omega)
        have d4 := hK3.cell b4 (by rw [tm]; omega)
        have HK3 := hid (HK2.out.trans hX (hK3.mono (S' := All K) fun t h => Or.inl h))
        have hMz3 : MBk < w3.heap.size := Nat.lt_of_lt_of_le hMz hK3.size
        clear hcc hM2 hA2 hL2 hR2 s0 s1 r0 r1 rf sz b0 b1 b2 b3 b4 hK3 hCo2
        obtain ⟨s0, s1, r0, r1, rf, sz⟩ := id hR3
        by_cases her : e3 = 0
        · subst her
          have her' : ((0 : Int) != 0) = false := by simp
          rw [if_neg (by simp)] at HN
          obtain ⟨hd0, hm3, hfu⟩ : d ≠ 0 ∧ m3 = { m with sends := m.sends + 1 } ∧ ¬ p.E.fuel ≤ m.sends := by
            unfold countE at hce
            split at hce
            · cases hce
            · rename_i k
              split at hce
              · cases hce
              · rename_i k2; exact ⟨k2, (congrArg Prod.fst hce).symm, k⟩
          obtain ⟨d', rfl⟩ : ∃ d', d = d' + 1 := ⟨d - 1, by omega⟩
          clear hd0 hce
          have hFrame : frameE p.E kc kn mt self args = ⟨kc, mt, self, args, roomsE mt.temps, [], mt.code, 0, false⟩ := by unfold frameE; rw [hC.quick]
          have hPl := hC.pl kc kn mt self args HMA.out HPR.out HAG.out
          rw [hFrame] at HN hPl
          clear hFrame
          have HN2 : Hid (entE p.E (d' + 1) m kc kn self args = finE (entE p.E d') p.E d' (gasE ⟨kc, mt, self, args, roomsE mt.temps, [], mt.code, 0, false⟩) m3 ⟨kc, mt, self, args, roomsE mt.temps, [], mt.code, 0, false⟩) := HN.out
          clear HN
          have hI3 : MIn p.E m3 := by
            rw [hm3]
            exact ⟨hI.heap, ⟨by have := hI.sends; simp only; omega, by simp only; omega⟩, hI.turns⟩
          have hFo3 : FOk p.E.classes m3.heap.length ⟨kc, mt, self, args, roomsE mt.temps, [], mt.code, 0, false⟩ := by
            rw [hm3]
            exact ⟨hSe, hAr, rooms_ok _ _, (fun v hv => by cases hv), hC.ok.meths _ _ _ HMA.out, hC.ok.meths _ _ _ HMA.out⟩
          have hL3' : L T1 w3 m3.st (leftE p.E m3) := by
            rw [hm3]
            exact hC.mono hL3 (by unfold leftE; simp only; omega)
          clear hL3 hm3 hfu
          have HMN : Hid (MBk < w3.heap.size) := hMz3
          have q8 := hM3.c8
          rw [hC.qv] at q8
          have hbF := bel1 w3 (FB ⟨kc, mt, self, args, [], [], [], 0, false⟩ (.slice ak mt.code.length ck) (.slice aa args.length ca) (.slice none 0 0) (.slice none 0 0) (.slice none 0 0))
          have hX4 : Ext T1 (tag1 T1 w3.heap.size K) w3 := tag1_ext (Nat.le_refl _)
          have hkF : Kp (fun _ => False) T1 w3 _ := Kp.of_below hbF
          have hM4 := hM3.keep hX4 hkF id id id
          have hL4 := hC.keep hL3' hX4 hkF id id
          have hR4 := hR3.kp (T := T1) hkF id id
          have hNew : FrNew (tag1 T1 w3.heap.size K) K (w3.alloc (FB ⟨kc, mt, self, args, [], [], [], 0, false⟩ (.slice ak mt.code.length ck) (.slice aa args.length ca) (.slice none 0 0) (.slice none 0 0) (.slice none 0 0))) w3.heap.size ⟨kc, mt, self, args, [], [], [], 0, false⟩ (.slice ak mt.code.length ck) (.slice aa args.length ca) :=
            ⟨heap_alloc_new w3 _, tag1_self _ _ _, hA3.fx goodV hX4 hkF id, hCo3.fx goodI hX4 hkF id, hK5, rfl⟩
          have HK4 := hid (HK3.out.on hbF)
          have t04 : tag1 T1 w3.heap.size K w.heap.size = 4 := by rw [hX4 _ (by omega)]; exact t0
          have t14 : tag1 T1 w3.heap.size K (w.heap.size + 1) = 4 := by rw [hX4 _ (by omega)]; exact t1
          have HE4 : Hid (Ext T (tag1 T1 w3.heap.size K) w) := hX.trans HK3.out.size hX4
          have q84 := hM4.c8
          rw [hC.qv] at q84
          go_upto_region 12 with (fail)
          generalize tag1 T1 w3.heap.size K = T4 at *
          generalize (w3.alloc (FB ⟨kc, mt, self, args, [], [], [], 0, false⟩ (.slice ak mt.code.length ck) (.slice aa args.length ca) (.slice none 0 0) (.slice none 0 0) (.slice none 0 0))) = V4 at *
          clear d0 d1 d2 d3 d4 s0 s1 r0 r1 rf sz q8 hM3 hL3' hR3 hA3 hCo3 hbF hkF hX4
          go_wp2_with fail
          refine (none_any kc kn V4).mono ?_
          rintro e w5 ⟨rfl, hb5⟩
          have hk5 : Kp (fun _ => False) T4 V4 w5 := Kp.of_below hb5
          have hM5 := hM4.later hb5
          have hL5 := hC.keep hL4 (.refl _ _) hk5 id id
          have hR5 := hR4.kp hk5 id id
          have hNew5 := hNew.later hb5
          have HK5 := hid (HK4.out.on hb5)
          clear hM4 hL4 hR4 hNew q84 hk5
          go_wp2_with fail
          refine (begin_plain hNew5 rfl (.slice none 0 0) 0 ⟨#[]⟩ 0 0).mono ?_
          rintro e w6 ⟨rfl, T6, tv, sv, kv, hX6, hF6, hK6⟩
          have hM6 := hM5.keep hX6 hK6 (by omega) (by omega) (by omega)
          have hL6 := hC.keep hL5 hX6 hK6 (by omega) (by omega)
          have hR6 := hR5.kp hK6 (by rw [t04]; omega) (by rw [t14]; omega)
          have hsz5 := hR5.sz
          have t06 : T6 w.heap.size = 4 := by rw [hX6 _ (by omega)]; exact t04
          have t16 : T6 (w.heap.size + 1) = 4 := by rw [hX6 _ (by omega)]; exact t14
          have HE6 := hid (HE4.out.trans HK5.out.size hX6)
          have HK6 := hid (HK5.out.trans HE4.out (hK6.mono (S' := All K) fun t h => by unfold All; omega))
          clear hM5 hL5 hR5 hNew5 hX6 hK6
          have m5 := hM6.c5
          have mf := row_free hM6.box
          have hcw : IntKind.i64.wrap (20 - ((d' + 1 : Nat) : Int) + 1) = 20 - (d' : Int) := by rw [wrap_of (by omega) (by omega)]; omega
          have hcw2 : IntKind.i64.wrap (20 - (d' : Int) - 1) = 20 - ((d' + 1 : Nat) : Int) := by rw [wrap_of (by omega) (by omega)]; omega
          obtain ⟨cA, hcA⟩ : ∃ cA : Int, cA = 20 - ((d' + 1 : Nat) : Int) := ⟨_, rfl⟩
          obtain ⟨cB, hcB⟩ : ∃ cB : Int, cB = 20 - (d' : Int) := ⟨_, rfl⟩
          rw [← hcA] at m5 hcw hcw2
          rw [← hcB] at hcw hcw2
          have HCA := hid hcA
          have HCB := hid hcB
          clear hcA hcB
          have k7 : Kp (fun t => t = 1) T6 w6 (w6.setCell ⟨mb, 5, none⟩ (.int .i64 cB)) := (Kp.refl _ _ _).set (fun _ => hM6.tag) _ _
          have hM7 : MacAt p T6 (w6.setCell ⟨mb, 5, none⟩ (.int .i64 cB)) mb m3 (20 - (d' : Int)) hv g s := hM6.turn (m' := m3) k7 (by rw [mb_set5 hM6.box, HCB.out]) rfl
          have hF7 := hF6.keep (.refl _ _) k7 (by omega) (by omega) (by omega) (by omega)
          have hL7 := hC.keep hL6 (.refl _ _) k7 (by omega) (by omega)
          have hR7 := hR6.kp k7 (by rw [t06]; omega) (by rw [t16]; omega)
          have HK7 := hid (HK6.out.trans HE6.out (k7.mono (S' := All K) fun t h => Or.inl h))
          have hfin := finish_any hC (hIh d' rfl) (ent_t p.E hC.quick d') hM7 hF7 hL7 hI3 hFo3 hPl
          generalize finE (entE p.E d') p.E d' (gasE ⟨kc, mt, self, args, roomsE mt.temps, [], mt.code, 0, false⟩) m3 ⟨kc, mt, self, args, roomsE mt.temps, [], mt.code, 0, false⟩ = R at *
          go_wp2_with fail
          refine (hfin).mono ?_
          rintro e w8 ⟨rfl, ⟨T8, hX8, ⟨hv8, g8, s8, hM8⟩, hL8⟩, hK8⟩
          obtain ⟨rm, v, er⟩ := R
          simp only at hM8 hL8
          have hR8 := hR7.kp hK8 (by rw [t06]; unfold All; omega) (by rw [t16]; unfold All; omega)
          have hsz7 := hR7.sz
          have t18 : T8 (w.heap.size + 1) = 4 := by rw [hX8 _ (by omega)]; exact t16
          have t08 : T8 w.heap.size = 4 := by rw [hX8 _ (by omega)]; exact t06
          have HE8 := hid (HE6.out.trans HK7.out.size hX8)
          have HK8 := hid (HK7.out.trans HE6.out hK8)
          have m58 := hM8.c5
          rw [← HCB.out] at m58
          have mf8 := row_free hM8.box
          have hlm8 : mb < w8.heap.size := blk_lt hM8.box
          have hn8 : ¬ mb = w8.heap.size := by omega
          have hn8' : ¬ w8.heap.size = mb := by omega
          have HM8 := hid hM8
          have HL8 := hid hL8
          clear hfin hM7 hF7 hL7 hR7 hM6 hF6 hL6 hR6 k7 m5 mf hX8 hK8 hM8 hL8 hI3 hFo3 hPl
          have kS : Kp (fun t => t = 1) T8 w8 (w8.setCell ⟨mb, 5, none⟩ (.int .i64 cA)) := (Kp.refl _ _ _).set (fun _ => HM8.out.tag) _ _
          have hMS : MacAt p T8 (w8.setCell ⟨mb, 5, none⟩ (.int .i64 cA)) mb rm (20 - ((d' + 1 : Nat) : Int)) hv8 g8 s8 := HM8.out.turn (m' := rm) kS (by rw [mb_set5 HM8.out.box, HCA.out]) rfl
          have hbU : Below (w8.setCell ⟨mb, 5, none⟩ (.int .i64 cA)).heap.size (w8.setCell ⟨mb, 5, none⟩ (.int .i64 cA)) ((w8.setCell ⟨mb, 5, none⟩ (.int .i64 cA)).alloc (.cells #[.int .i64 v.k, .int .i64 v.n] 27)) := bel1 _ _
          have kU := kS.on hbU
          have hMU := hMS.later hbU
          have hLU := hC.keep HL8.out (.refl _ _) kU (by omega) (by omega)
          have hRU := hR8.kp kU (by rw [t08]; omega) (by rw [t18]; omega)
          have v0 : ((w8.setCell ⟨mb, 5, none⟩ (.int .i64 cA)).alloc (.cells #[.int .i64 v.k, .int .i64 v.n] 27)).cell? ⟨w8.heap.size, 0, none⟩ = some (.int .i64 v.k) := cell_new _ _ _ _ (by simp) 0
          have v1 : ((w8.setCell ⟨mb, 5, none⟩ (.int .i64 cA)).alloc (.cells #[.int .i64 v.k, .int .i64 v.n] 27)).cell? ⟨w8.heap.size, 1, none⟩ = some (.int .i64 v.n) := cell_new _ _ _ _ (by simp) 1
          have HQ := hid fun u0 u1 => EnPost.fin (r := (rm, v, er)) hC HE8.out hMU hLU (HK8.out.trans HE8.out (kU.mono fun t h => Or.inl h)) t18 u0 u1
          clear hMU hLU kU kS hMS hbU
          go_upto_region 16 with (fail)
          generalize ((w8.setCell ⟨mb, 5, none⟩ (.int .i64 cA)).alloc (.cells #[.int .i64 v.k, .int .i64 v.n] 27)) = U at *
          obtain ⟨s0, s1, r0, r1, rf, sz⟩ := id hRU
          have hnz : ¬ w.heap.size + 1 = w8.heap.size := by have := hR8.sz; omega
          have hnz' : ¬ w8.heap.size = w.heap.size + 1 := by have := hR8.sz; omega
          go_wp2
          rw [HN2.out]
          refine bodyPost_ret (v := .tuple #[VV v, .int .i64 er]) ?_ rfl (HQ.out _ _)
          simp [results, Try.results42, go_sem, r0, r1]
        · have her' : (e3 != 0) = true := by simpa using her
          rw [if_pos her] at HN
          have hm3 : m3 = m := by
            have : (countE p.E d m).2 ≠ 0 := by rw [hce]; exact her
            unfold countE at hce this
            split at hce
            · exact (congrArg Prod.fst hce).symm
            · rename_i k; rw [if_neg k] at this
              split at hce
              · exact (congrArg Prod.fst hce).symm
              · rename_i k2; rw [if_neg k2] at this; exact absurd rfl this
          subst hm3
          have HQ := hid fun u0 u1 => EnPost.fin (r := (m3, nilV, e3)) hC hX hM3 (by rw [if_neg her]; exact hC.mono hL3 (Nat.zero_le _)) HK3.out t1 u0 u1
          clear hM3 hL3 hA3 hR3 hce
          go_wp2
          rw [HN.out]
          refine bodyPost_ret (v := .tuple #[VV nilV, .int .i64 e3]) ?_ rfl (HQ.out _ _)
          simp [results, Try.results42, go_sem, r0, r1]
      · have hpr' : (mt.prim != 0) = true := by simpa using hpr
        rw [if_pos (by simpa using hpr)] at HN
        clear hpr
        have hbd : ∀ v : QV, wrongV m.heap.length v = 0 → v.k = 3 → -1073741824 ≤ v.n ∧ v.n ≤ 1073741824 := fun v hv h3 => by
          unfold wrongV wrongK at hv
          rw [h3] at hv
          simp at hv
          omega
        have hpi := primitive_any hM2 hI.sends.1 (by have := hC.fuel; omega) mt.prim self args _ hA2 (hbd _ hSe) (hbd _ (hAr.entry 0))
        have hsd : (primitiveE p.E m mt.prim self args).1.st = m.st ∧ ((primitiveE p.E m mt.prim self args).2.2 = 0 → leftE p.E (primitiveE p.E m mt.prim self args).1 ≤ (p.E.fuel - m.sends).toNat) := by
          unfold primitiveE
          split
          · exact ⟨rfl, fun h => by cases h⟩
          · exact ⟨rfl, fun _ => by unfold leftE; simp only; omega⟩
        generalize primitiveE p.E m mt.prim self args = r at *
        go_wp2_with fail
        refine hpi.mono ?_
        rintro e w3 ⟨rfl, ⟨T3, hX3, hM3⟩, hK3⟩
        have hR3 := hR2.kp hK3 (by rw [t0]; omega) (by rw [t1]; omega)
        have hL3 := hC.keep hL2 hX3 hK3 (by omega) (by omega)
        have t3 : T3 (w.heap.size + 1) = 4 := by rw [hX3 _ (by omega)]; exact t1
        have hle : (if r.2.2 = 0 then leftE p.E r.1 else 0) ≤ (p.E.fuel - m.sends).toNat := by
          by_cases h0 : r.2.2 = 0
          · rw [if_pos h0]; exact hsd.2 h0
          · rw [if_neg h0]; exact Nat.zero_le _
        have HQ := hid fun u0 u1 => EnPost.fin (r := r) hC (hX.trans HK2.out.size hX3) hM3 (by rw [hsd.1]; exact hC.mono hL3 hle) (HK2.out.trans hX (hK3.mono fun t h => Or.inl h)) t3 u0 u1
        clear hpi hM2 hA2 hL2 hR2 s0 s1 r0 r1 rf sz b0 b1 b2 b3 b4 hK3 hM3 hL3
        obtain ⟨s0, s1, r0, r1, rf, sz⟩ := id hR3
        go_wp2
        rw [HN.out]
        refine bodyPost_ret (v := .tuple #[VV r.2.1, .int .i64 r.2.2]) ?_ rfl (HQ.out _ _)
        simp [results, Try.results42, go_sem, r0, r1]
    · have hag' : (mt.args != (args.length : Int)) = true := by simpa using hag
      rw [if_pos (by simpa using hag)] at HN
      clear hag
      have HQ := hid fun u0 u1 => EnPost.fin (r := (m, nilV, 8)) hC hX hM2 (by rw [if_neg (by simp)]; exact hC.mono hL2 (Nat.zero_le _)) HK2.out t1 u0 u1
      clear hM2 hA2 hL2 hR2
      go_wp2
      rw [HN.out]
      refine bodyPost_ret (v := .tuple #[VV nilV, .int .i64 8]) ?_ rfl (HQ.out _ _)
      simp [results, Try.results42, go_sem, r0, r1]
theorem enter_all (hC : Cx p L q) : ∀ d, d ≤ 20 → EnterOk p L d
  | 0, hd => enter_any hC 0 hd (fun d' h => by omega)
  | d + 1, hd => enter_any hC (d + 1) hd (fun d' h => by
      have : d' = d := by omega
      subst this
      exact enter_all hC d' (by omega))
end
end Go.Proofs.Ytfdonemehiamjaa
