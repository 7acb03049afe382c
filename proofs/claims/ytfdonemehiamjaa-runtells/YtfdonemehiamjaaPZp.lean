/- What comes of a frame. -/
import Derived.Test.YtfdonemehiamjaaPZn
namespace Go.Proofs.Ytfdonemehiamjaa
open Go.ChangeShapes Go.WideShapes Go.ChangeAt Go.RowKit
set_option linter.unusedSimpArgs false
set_option linter.unusedVariables false
set_option maxRecDepth 8000

section
variable {σ : Type}
def EntT (ent : Ent σ) : Prop := ∀ m c n s a, m.turns ≤ 300 → (ent m c n s a).2.2 = 0 → (ent m c n s a).1.turns ≤ 300
theorem jump_t {m : Mc σ} {f : Fr} {a b : Int} (h0 : (jumpE m f a b).2.2 = 0) : (jumpE m f a b).1.turns ≤ 300 := by
  unfold jumpE at h0 ⊢
  by_cases h : b ≤ a
  · simp only [h, if_true] at h0 ⊢
    split
    · rename_i k; rw [if_pos k] at h0; cases h0
    · rename_i k; simp only at k ⊢; omega
  · simp only [h, if_false] at h0 ⊢
    split
    · rename_i k; rw [if_pos k] at h0; cases h0
    · rename_i k; simp only at k ⊢; omega
theorem else_t {m : Mc σ} (hm : m.turns ≤ 300) {f : Fr} {a b : Int} (h0 : (elseE m f a b).2.2 = 0) : (elseE m f a b).1.turns ≤ 300 := by
  unfold elseE at h0 ⊢
  split
  · exact hm
  · rename_i k
    rw [if_neg k] at h0
    split
    · rename_i k2; rw [if_pos k2] at h0; exact jump_t h0
    · exact hm
theorem make_t (E : Env σ) (m : Mc σ) (f : Fr) (c : Int) : (makeE E m f c).1.turns = m.turns := by unfold makeE; split <;> rfl
theorem step_t {E : Env σ} {ent : Ent σ} (he : EntT ent) (d : Nat) {m : Mc σ} (h : m.turns ≤ 300) {f : Fr} (hf : f.fast = false) {a : Int} {x : QI} (h0 : (mstepE ent E d m f a x).2.2 = 0) : (mstepE ent E d m f a x).1.turns ≤ 300 := by
  cases hpu : pushedE m.heap f x with
  | some u => unfold mstepE; rw [hpu]; exact h
  | none =>
    have e : mstepE ent E d m f a x = noneE ent E d m f a x := by unfold mstepE noneE; rw [hpu]
    rw [e] at h0 ⊢
    unfold noneE at h0 ⊢
    by_cases h9 : x.op = 9
    · rw [if_pos h9]; exact h
    rw [if_neg h9] at h0 ⊢
    by_cases h10 : x.op = 10
    · rw [if_pos h10]; exact h
    rw [if_neg h10] at h0 ⊢
    by_cases h11 : x.op = 11
    · rw [if_pos h11]; exact h
    rw [if_neg h11] at h0 ⊢
    by_cases h12 : x.op = 12
    · rw [if_pos h12]; exact h
    rw [if_neg h12] at h0 ⊢
    by_cases h13 : x.op = 13
    · rw [if_pos h13, make_t]; exact h
    rw [if_neg h13] at h0 ⊢
    by_cases h14 : x.op = 14
    · rw [if_pos h14] at h0 ⊢
      unfold sendE at h0 ⊢
      simp only at h0 ⊢
      split
      · rename_i k; rw [if_pos k] at h0; exact absurd h0 k
      · rename_i k; exact he _ _ _ _ _ h (Decidable.of_not_not k)
    rw [if_neg h14] at h0 ⊢
    by_cases h15 : x.op = 15
    · rw [if_pos h15] at h0 ⊢; exact jump_t h0
    rw [if_neg h15] at h0 ⊢
    by_cases h16 : x.op = 16
    · rw [if_pos h16] at h0 ⊢; exact else_t h h0
    rw [if_neg h16] at h0 ⊢
    unfold fastE at h0 ⊢
    rw [if_pos hf]; exact h
variable {p : Mp σ} {L : (Nat → Nat) → World → σ → Nat → Prop} {q : Value} {T T' : Nat → Nat} {w w' : World} {mb : Nat} {m m' : Mc σ} {hv : Value} {g : Nat} {s : Nat → Nat} {K fb : Nat} {f : Fr} {cv av tv sv kv : Value}
/-- What finish's rounds hold: so many more steps at the most. -/
structure FnR (p : Mp σ) (L : (Nat → Nat) → World → σ → Nat → Prop) (d : Nat) (T : Nat → Nat) (w : World) (mb K fb : Nat) (R : Mc σ × QV × Int) (gk : Nat) (T1 : Nat → Nat) (m : Mc σ) (f : Fr) (wr : World) : Prop where
  ext : Ext T T1 w
  kp : Kp (All K) T w wr
  mac : ∃ hv g s, MacAt p T1 wr mb m (20 - (d : Int)) hv g s
  fr : ∃ cv av tv sv kv, FrAt T1 K wr fb f cv av tv sv kv
  lk : L T1 wr m.st (leftE p.E m)
  min : MIn p.E m
  fo : FOk p.E.classes m.heap.length f
  pl : PlOk f
  mu : muE m f ≤ gk
  val : finE (entE p.E d) p.E d gk m f = R
  r0 : wr.cell? ⟨w.heap.size, 0, none⟩ = some (.int .i64 0)
  r1 : wr.cell? ⟨w.heap.size, 1, none⟩ = some (.int .i64 0)
  rf : ∀ o, wr.frozen? ⟨w.heap.size, o, none⟩ = false
  r4 : T1 w.heap.size = 4
  sz : w.heap.size < wr.heap.size
theorem kp_frozen {S : Nat → Prop} {b o : Nat} (k : Kp S T w w') (hb : b < w.heap.size) (hs : ¬ S (T b)) (h : w.frozen? ⟨b, o, none⟩ = false) : w'.frozen? ⟨b, o, none⟩ = false := by
  unfold World.frozen? at h ⊢
  simp only at h ⊢
  rw [k.blk b hb hs]; exact h
set_option maxHeartbeats 4000000 in
theorem finish_any (hC : Cx p L q) {d : Nat} (hEn : EnterOk p L d) (hEt : EntT (entE p.E d)) (h : MacAt p T w mb m (20 - (d : Int)) hv g s) (hF : FrAt T K w fb f cv av tv sv kv) (hL : L T w m.st (leftE p.E m)) (hI : MIn p.E m) (hFo : FOk p.E.classes m.heap.length f) (hPl : PlOk f) :
    Calls Try.prog 57 #[.pointer (some ⟨mb, 0, none⟩), .pointer (some ⟨fb, 0, none⟩)] w fun e w' => EnPost p L T w mb (20 - (d : Int)) K (finE (entE p.E d) p.E d (gasE f) m f) e w' := by
  have hp := hF.pos
  have hb1 := bel1 w (.cells #[.int .i64 0, .int .i64 0] 27)
  have hRel : FnR p L d T w mb K fb (finE (entE p.E d) p.E d (gasE f) m f) (gasE f) (tagged T w 4) m f (w.alloc (.cells #[.int .i64 0, .int .i64 0] 27)) :=
    ⟨tagged_ext T w 4, Kp.of_below hb1, ⟨_, _, _, (h.tagged0 4).later hb1⟩,⟨_, _, _, _, _, (hF.tagged0 4).later hb1⟩, hC.keep (hC.keep hL (tagged_ext T w 4) (Kp.refl (fun _ => False) _ _) id id) (.refl _ _) (Kp.of_below (S := fun _ => False) hb1) id id, hI, hFo, hPl, mu_gas hI.turns.1, rfl, cell_new _ _ _ _ rfl 0, cell_new _ _ _ _ rfl 1, row_free (heap_alloc_new w (.cells #[.int .i64 0, .int .i64 0] 27)), tagged_new (Nat.le_refl _), by simp⟩
  clear h hF hL hb1 hFo hPl hI
  generalize finE (entE p.E d) p.E d (gasE f) m f = R at *
  generalize gasE f = G at *
  go_enter Try.func57, Try.ntmps57
  go_wp2
  go_loopg [] G (fun gk wr => ∃ T1 m f, FnR p L d T w mb K fb R gk T1 m f wr)
  case atStart => exact ⟨_, _, _, hRel⟩
  case round =>
    clear hRel
    obtain ⟨T1, m, f, hR⟩ := hrel
    obtain ⟨k, x, hx⟩ := hR.pl.nx
    obtain ⟨hv, g, s, hM⟩ := hR.mac
    obtain ⟨cv, av, tv, sv, kv, hFr⟩ := hR.fr
    have hpc := hx.pc
    have hkl := hx.lt
    have hmu := hR.mu
    obtain ⟨G', hG⟩ : ∃ G', gk = G' + 1 := ⟨gk - 1, by
      have : 0 < muE m f := by unfold muE; rw [hpc]; simp; omega
      omega⟩
    have HV : Hid (R = if x.op = 17 then (m, f.top, 0) else if (mstepE (entE p.E d) p.E d m { f with pc := f.pc + 1 } f.pc x).2.2 ≠ 0 then ((mstepE (entE p.E d) p.E d m { f with pc := f.pc + 1 } f.pc x).1, nilV, (mstepE (entE p.E d) p.E d m { f with pc := f.pc + 1 } f.pc x).2.2) else finE (entE p.E d) p.E d G' (mstepE (entE p.E d) p.E d m { f with pc := f.pc + 1 } f.pc x).1 (mstepE (entE p.E d) p.E d m { f with pc := f.pc + 1 } f.pc x).2.1) := by
      show _ = _
      rw [← hR.val, hG]
      conv => lhs; unfold finE
      rw [hpc, if_neg (by omega)]
      simp only [Int.toNat_natCast, hx.here]
    have hc12 : wr.cell? ⟨fb, 12, none⟩ = some (.int .i64 (k : Int)) := by rw [cell_of_row _ _ _ _ _ _ hFr.box, ← hpc]; rfl
    have hc11 : wr.cell? ⟨fb, 11, none⟩ = some kv := by rw [cell_of_row _ _ _ _ _ _ hFr.box]; rfl
    have hcf := row_free hFr.box
    obtain ⟨ac, cc, hkv, hcl, hcc, -, hrow⟩ := hFr.code
    rw [hkv] at hc11
    unfold maxLen at hcc
    obtain ⟨bc, oc, hac, -, i0, i1, i2, i3, i4, -⟩ := hrow k x hx.here
    rw [hac] at hc11
    simp only [Nat.add_zero] at i0
    have hk0 : (0 : Int) ≤ (k : Int) := by omega
    have hk1 : (k : Int) < (f.code.length : Int) := by omega
    have hkw : IntKind.i64.wrap ((k : Int) + 1) = (k : Int) + 1 := wrap_of (by omega) (by omega)
    have hlf : fb < wr.heap.size := blk_lt hFr.box
    have hnf : ¬ fb = wr.heap.size := by omega
    have hnf' : ¬ wr.heap.size = fb := by omega
    have HX := hid hx
    have HR := hid hR
    have HM := hid hM
    have HF := hid hFr
    have HPC := hid hpc
    have HGK := hid hG
    clear hx hR hM hFr hpc hmu hrow hkv hac hG
    rw [HPC.out] at HV
    go_wp2
    go_region
    by_cases h17 : x.op = 17
    · have h17' : (x.op == 17) = true := by simpa using h17
      rw [if_pos h17] at HV
      clear h17
      have hbV : Below wr.heap.size wr (wr.alloc (.cells #[.int .i64 x.op, .int .i64 x.a, .int .i64 x.b, .int .i64 x.c, .string x.name] 81)).drew := (bel1 _ _).drew
      have hF1 := HF.out.later hbV
      go_wp2_with fail
      refine (pop_any hF1).mono ?_
      rintro e w2 ⟨rfl, -, hK2⟩
      have hrs := HR.out.sz
      have hz : w.heap.size < (wr.alloc (.cells #[.int .i64 x.op, .int .i64 x.a, .int .i64 x.b, .int .i64 x.c, .string x.name] 81)).drew.heap.size := Nat.lt_of_lt_of_le hrs hbV.size
      have q0 := hK2.cell (cell_later hbV HR.out.r0) (by rw [HR.out.r4]; omega)
      have q1 := hK2.cell (cell_later hbV HR.out.r1) (by rw [HR.out.r4]; omega)
      have qf : ∀ o, w2.frozen? ⟨w.heap.size, o, none⟩ = false := fun o => kp_frozen hK2 hz (by rw [HR.out.r4]; omega) ((hbV.frozen (p := ⟨w.heap.size, o, none⟩) hrs).trans (HR.out.rf o))
      have HM2 := hid ((HM.out.later hbV).keep (.refl _ _) hK2 (by omega) (by omega) (by omega))
      have HL2 := hid (hC.keep (hC.keep HR.out.lk (.refl _ _) (Kp.of_below (S := fun _ => False) hbV) id id) (.refl _ _) hK2 (by omega) (by omega))
      have HK2 := hid ((HR.out.kp.on hbV).trans HR.out.ext (hK2.mono (S' := All K) fun t h => by unfold All; omega))
      clear hF1 hK2 hbV hc12 hc11 hcf i0 i1 i2 i3 i4
      go_wp2
      rw [HV.out]
      refine bodyPost_ret (v := .tuple #[VV f.top, .int .i64 0]) ?_ rfl ⟨rfl, ⟨T1, HR.out.ext, ⟨_, _, _, HM2.out.keep (.refl _ _) (((Kp.refl (fun t => t = 4) _ _).set (fun _ => HR.out.r4) _ _).set (fun _ => HR.out.r4) _ _) (by omega) (by omega) (by omega)⟩, ?_⟩, (HK2.out.set (fun h => absurd h (Nat.lt_irrefl _)) _ _).set (fun h => absurd h (Nat.lt_irrefl _)) _ _⟩
      · simp [results, Try.results57, go_sem, q0, q1]
      · rw [if_pos rfl]
        exact hC.keep HL2.out (.refl _ _) (((Kp.refl (fun t => t = 4) _ _).set (fun _ => HR.out.r4) _ _).set (fun _ => HR.out.r4) _ _) (by omega) (by omega)
    · have h17' : (x.op == 17) = false := by simpa using h17
      rw [if_neg h17] at HV
      have H17 := hid h17
      clear h17
      have hk2 : Kp (fun t => t = K) T1 wr (wr.setCell ⟨fb, 12, none⟩ (.int .i64 ((k : Int) + 1))) := (Kp.refl _ _ _).set (fun _ => HF.out.tag) _ _
      have hbV : Below (wr.setCell ⟨fb, 12, none⟩ (.int .i64 ((k : Int) + 1))).heap.size (wr.setCell ⟨fb, 12, none⟩ (.int .i64 ((k : Int) + 1))) ((wr.setCell ⟨fb, 12, none⟩ (.int .i64 ((k : Int) + 1))).alloc (.cells #[.int .i64 x.op, .int .i64 x.a, .int .i64 x.b, .int .i64 x.c, .string x.name] 81)).drew := (bel1 _ _).drew
      have hz0 : (wr.setCell ⟨fb, 12, none⟩ (.int .i64 ((k : Int) + 1))).heap.size = wr.heap.size := by simp
      have hkV : Kp (fun t => t = K) T1 wr ((wr.setCell ⟨fb, 12, none⟩ (.int .i64 ((k : Int) + 1))).alloc (.cells #[.int .i64 x.op, .int .i64 x.a, .int .i64 x.b, .int .i64 x.c, .string x.name] 81)).drew := hk2.on hbV
      have hF1 := (HF.out.pcAt hk2 ((k : Int) + 1) (fb_set12 HF.out.box _)).later hbV
      have hM1 := HM.out.keep (.refl _ _) hkV (by omega) (by omega) (by omega)
      have hL1 := hC.keep HR.out.lk (.refl _ _) hkV (by omega) (by omega)
      have hFo1 : FOk p.E.classes m.heap.length { f with pc := (k : Int) + 1 } := ⟨HR.out.fo.self, HR.out.fo.args, HR.out.fo.temps, HR.out.fo.stack, HR.out.fo.code, HR.out.fo.plain⟩
      have hstep := step_any hC hEn hM1 hF1 hL1 HR.out.min hFo1 HX.out.few HR.out.pl.fast (k : Int) x
      have hmem : x ∈ f.code := List.mem_of_getElem? HX.out.here
      have hcod := HR.out.fo.code x hmem
      have P1 := hid (step_ok hC.ok (ent_ok hC.ok d) d HR.out.min.heap hFo1 (k : Int) hcod.1 hcod.2)
      have P2 := hid (step_le (ent_le p.E d) d HR.out.min.sends.2 { f with pc := (k : Int) + 1 } (k : Int) x)
      have P3 := hid (step_turns (ent_turns p.E d) p.E d m { f with pc := (k : Int) + 1 } (k : Int) x)
      have P4 : Hid ((mstepE (entE p.E d) p.E d m { f with pc := (k : Int) + 1 } (k : Int) x).2.2 = 0 → (mstepE (entE p.E d) p.E d m { f with pc := (k : Int) + 1 } (k : Int) x).1.turns ≤ 300) := fun h0 => step_t hEt d HR.out.min.turns.2 (f := { f with pc := (k : Int) + 1 }) HR.out.pl.fast h0
      have P5 : Hid ((mstepE (entE p.E d) p.E d m { f with pc := (k : Int) + 1 } (k : Int) x).2.2 = 0 → PlOk (mstepE (entE p.E d) p.E d m { f with pc := (k : Int) + 1 } (k : Int) x).2.1) := fun h0 => by
        have := pl_step (ent := entE p.E d) (E := p.E) (d := d) (m := m) HR.out.pl HX.out H17.out (by rw [HPC.out]; exact h0)
        rw [HPC.out] at this
        exact this
      have P6 : Hid ((mstepE (entE p.E d) p.E d m { f with pc := (k : Int) + 1 } (k : Int) x).2.2 = 0 → muE (mstepE (entE p.E d) p.E d m { f with pc := (k : Int) + 1 } (k : Int) x).1 (mstepE (entE p.E d) p.E d m { f with pc := (k : Int) + 1 } (k : Int) x).2.1 < muE m f) := fun h0 => by
        have := mu_step (ent_turns p.E d) (E := p.E) (d := d) (x := x) HR.out.min.turns.1 (f := f) (by rw [HPC.out]; omega) (by rw [HPC.out]; simpa using hkl) (by rw [HPC.out]; exact h0)
        rw [HPC.out] at this
        exact this
      clear hF1 hM1 hL1 hFo1 hcod
      generalize mstepE (entE p.E d) p.E d m { f with pc := (k : Int) + 1 } (k : Int) x = r at *
      go_wp2_with fail
      refine hstep.mono ?_
      rintro e w3 ⟨rfl, ⟨T3, hX3, ⟨hv3, g3, s3, hM3⟩, hL3, hF3⟩, hK3⟩
      have hrs := HR.out.sz
      have hz1 : w.heap.size < ((wr.setCell ⟨fb, 12, none⟩ (.int .i64 ((k : Int) + 1))).alloc (.cells #[.int .i64 x.op, .int .i64 x.a, .int .i64 x.b, .int .i64 x.c, .string x.name] 81)).drew.heap.size := Nat.lt_of_lt_of_le hrs hkV.size
      have q0 := hK3.cell (hkV.cell HR.out.r0 (by rw [HR.out.r4]; omega)) (by rw [HR.out.r4]; unfold All; omega)
      have q1 := hK3.cell (hkV.cell HR.out.r1 (by rw [HR.out.r4]; omega)) (by rw [HR.out.r4]; unfold All; omega)
      have qf : ∀ o, w3.frozen? ⟨w.heap.size, o, none⟩ = false := fun o => kp_frozen hK3 hz1 (by rw [HR.out.r4]; unfold All; omega) (kp_frozen hkV hrs (by rw [HR.out.r4]; omega) (HR.out.rf o))
      have HE3 := hid (HR.out.ext.trans HR.out.kp.size (fun b hb => hX3 b (Nat.lt_of_lt_of_le hb hkV.size)))
      have HK3 := hid ((HR.out.kp.trans HR.out.ext (hkV.mono (S' := All K) fun t h => by unfold All; omega)).trans HR.out.ext hK3)
      have HT3 : Hid (T3 w.heap.size = 4) := by show _ = _; rw [hX3 _ hz1]; exact HR.out.r4
      have HZ3 : Hid (w.heap.size < w3.heap.size) := Nat.lt_of_lt_of_le hz1 hK3.size
      have HM3 := hid hM3
      have HL3 := hid hL3
      have HF3 := hid hF3
      clear hstep hX3 hM3 hL3 hF3 hK3 hc12 hc11 hcf i0 i1 i2 i3 i4 hk2 hbV hkV hz1
      by_cases he : r.2.2 = 0
      · have he' : (r.2.2 != 0) = false := by simpa using he
        have HE0 := hid he
        rw [if_neg (by simpa using he)] at HV
        go_wp2
        go_roundg G'
        case measure => have := HGK.out; omega
        case rel =>
          have hL4 := HL3.out
          rw [if_pos HE0.out] at hL4
          have hst := P1.out
          refine ⟨T3, r.1, r.2.1, HE3.out, HK3.out, ⟨_, _, _, HM3.out⟩, HF3.out HE0.out, hL4, ⟨hst.1.heap, ⟨by have := P2.out; have := HR.out.min.sends; omega, P2.out.1⟩,⟨by have := P3.out; have := HR.out.min.turns; omega, P4.out HE0.out⟩⟩, hst.2 HE0.out, P5.out HE0.out, ?_, HV.out.symm, q0, q1, qf, HT3.out, HZ3.out⟩
          have h1 := P6.out HE0.out
          have h2 := HR.out.mu
          have h3 := HGK.out
          omega
      · have he' : (r.2.2 != 0) = true := by simpa using he
        have HE0 := hid he
        rw [if_pos he] at HV
        clear he
        go_wp2
        rw [HV.out]
        refine bodyPost_ret (v := .tuple #[VV nilV, .int .i64 r.2.2]) ?_ rfl ⟨rfl, ⟨T3, HE3.out, ⟨_, _, _, HM3.out.keep (.refl _ _) (((Kp.refl (fun t => t = 4) _ _).set (fun _ => HT3.out) _ _).set (fun _ => HT3.out) _ _) (by omega) (by omega) (by omega)⟩, ?_⟩, (HK3.out.set (fun h => absurd h (Nat.lt_irrefl _)) _ _).set (fun h => absurd h (Nat.lt_irrefl _)) _ _⟩
        · simp [results, Try.results57, go_sem, q0, q1]
        · have hL4 := HL3.out
          rw [if_neg HE0.out] at hL4 ⊢
          exact hC.keep hL4 (.refl _ _) (((Kp.refl (fun t => t = 4) _ _).set (fun _ => HT3.out) _ _).set (fun _ => HT3.out) _ _) (by omega) (by omega)
end
end Go.Proofs.Ytfdonemehiamjaa
