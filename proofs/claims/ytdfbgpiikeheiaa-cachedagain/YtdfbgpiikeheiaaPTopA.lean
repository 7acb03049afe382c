/- Several texts in one. -/
import Derived.Test.YtdfbgpiikeheiaaZe
import Derived.Test.YtdfbgpiikeheiaaZi
import Derived.Test.YtdfbgpiikeheiaaZj
import Derived.Test.YtdfbgpiikeheiaaZk
import Derived.Test.YtdfbgpiikeheiaaZl
import Derived.Test.YtdfbgpiikeheiaaYf
/- What a run leans on; sends. -/
namespace Go.Proofs.Ytdfbgpiikeheiaa
open Go.ChangeShapes Go.WideShapes Go.ChangeAt Go.RowKit
set_option linter.unusedSimpArgs false
set_option linter.unusedVariables false
set_option maxRecDepth 8000

section
variable {σ : Type}
/-- What is asked of whoever looks, and of the code. -/
structure Cx (p : Mp σ) (L : (Nat → Nat) → World → σ → Nat → Prop) (LF : Nat) (lc : Array Value) (QF : Nat) (qc : Array Value) : Prop where
  lv : p.lv = .func (.func LF) #[] lc
  qv : p.qv = .func (.func QF) #[] qc
  lcf : ∀ (args : Array Value) (w : World), (callFunc LF args).run Try.prog w = .ok (.enter LF args) w
  qcf : ∀ (args : Array Value) (w : World), (callFunc QF args).run Try.prog w = .ok (.enter QF args) w
  ok : EOk p.E
  fuel : p.E.fuel ≤ 1000000
  keep : ∀ {T T' : Nat → Nat} {w w' : World} {st : σ} {n : Nat} {S : Nat → Prop}, L T w st n → Ext T T' w → Kp S T w w' → ¬ S 0 → ¬ S 3 → L T' w' st n
  mono : ∀ {T : Nat → Nat} {w : World} {st : σ} {n n' : Nat}, L T w st n → n' ≤ n → L T w st n'
  look : ∀ (T : Nat → Nat) (w : World) (st : σ) (s : QS) (c : Int) (name : ByteArray) (n : Nat), L T w st (n + 1) → Calls Try.prog LF (#[SV s, .int .i64 c, .string name] ++ lc) w fun e w' => e = .returned (.tuple #[.int .i64 (p.E.look st s c name).2.1, .int .i64 (p.E.look st s c name).2.2]) ∧ (∃ T', Ext T T' w ∧ L T' w' (p.E.look st s c name).1 n) ∧ Kp (fun t => t = 3) T w w'
  quick : ∀ (T : Nat → Nat) (w : World) (st : σ) (c k : Int) (mt : QM) (n : Nat), L T w st n → methAt p.E.classes c k = some mt → Calls Try.prog QF (#[.int .i64 c, .int .i64 k] ++ qc) w fun e w' => (∃ fc fn fe ft av nv cv, e = .returned (.tuple #[FaV fc fn fe ft (.slice av nv cv), .bool (p.E.quick c k).isSome]) ∧ ∀ q, p.E.quick c k = some q → ft = q.2 ∧ IsCode (Fx T w') w' (.slice av nv cv) q.1) ∧ Below w.heap.size w w'
  few : ∀ c k mt, methAt p.E.classes c k = some mt → mt.code.length ≤ 500 ∧ ∀ q, p.E.quick c k = some q → q.1.length ≤ 500 ∧ ∀ x ∈ q.1, x.op = 18 → 0 ≤ x.b ∧ x.b ≤ 1000
/-- How often it may be asked still. -/
def leftE (E : Env σ) (m : Mc σ) : Nat := (E.fuel - m.sends + 1).toNat
abbrev All (K : Nat) : Nat → Prop := fun t => t = 1 ∨ t = 2 ∨ t = 3 ∨ K ≤ t
/-- What enter leaves. -/
def EnPost (p : Mp σ) (L : (Nat → Nat) → World → σ → Nat → Prop) (T : Nat → Nat) (w : World) (mb : Nat) (calls : Int) (K : Nat) (r : Mc σ × QV × Int) (e : Ending) (w' : World) : Prop :=
  e = .returned (.tuple #[VV r.2.1, .int .i64 r.2.2]) ∧ (∃ T', Ext T T' w ∧ (∃ hv g s, MacAt p T' w' mb r.1 calls hv g s) ∧ L T' w' r.1.st (if r.2.2 = 0 then leftE p.E r.1 else 0)) ∧ Kp (All K) T w w'
/-- What a step leaves. -/
def StPost (p : Mp σ) (L : (Nat → Nat) → World → σ → Nat → Prop) (T : Nat → Nat) (w : World) (mb : Nat) (calls : Int) (K fb : Nat) (r : Mc σ × Fr × Int) (e : Ending) (w' : World) : Prop :=
  e = .returned (.int .i64 r.2.2) ∧ (∃ T', Ext T T' w ∧ (∃ hv g s, MacAt p T' w' mb r.1 calls hv g s) ∧ L T' w' r.1.st (if r.2.2 = 0 then leftE p.E r.1 else 0) ∧ (r.2.2 = 0 → ∃ cv av tv sv kv, FrAt T' K w' fb r.2.1 cv av tv sv kv)) ∧ Kp (All K) T w w'
/-- What holds of a machine that runs. -/
structure MIn (E : Env σ) (m : Mc σ) : Prop where
  heap : HOk E.classes m.heap
  sends : 0 ≤ m.sends ∧ m.sends ≤ E.fuel
  turns : 0 ≤ m.turns ∧ m.turns ≤ 300
/-- Enter does what it should, where so many more calls may be within each other. -/
def EnterOk (p : Mp σ) (L : (Nat → Nat) → World → σ → Nat → Prop) (d : Nat) : Prop :=
  ∀ (K : Nat) (T : Nat → Nat) (w : World) (mb : Nat) (m : Mc σ) (hv : Value) (g : Nat) (s : Nat → Nat) (c n : Int) (self : QV) (args : List QV) (av : Value), 5 ≤ K → MacAt p T w mb m (20 - (d : Int)) hv g s → L T w m.st (p.E.fuel - m.sends).toNat → MIn p.E m → wrongV m.heap.length self = 0 → VsOk m.heap.length args → IsVals (Fx T w) w av args →
    Calls Try.prog 63 #[.pointer (some ⟨mb, 0, none⟩), .int .i64 c, .int .i64 n, VV self, av] w fun e w' => EnPost p L T w mb (20 - (d : Int)) K (entE p.E d m c n self args) e w'

variable {p : Mp σ} {L : (Nat → Nat) → World → σ → Nat → Prop} {LF QF : Nat} {lc qc : Array Value} {T T' : Nat → Nat} {w w' : World} {mb : Nat} {m m' : Mc σ} {hv : Value} {g : Nat} {s : Nat → Nat} {K fb : Nat} {f : Fr} {cv av tv sv kv : Value}
structure SdR (w : World) (x : QI) (w' : World) : Prop where
  x0 : w'.cell? ⟨w.heap.size, 0, none⟩ = some (.int .i64 x.op)
  x1 : w'.cell? ⟨w.heap.size, 1, none⟩ = some (.int .i64 x.a)
  x2 : w'.cell? ⟨w.heap.size, 2, none⟩ = some (.int .i64 x.b)
  x3 : w'.cell? ⟨w.heap.size, 3, none⟩ = some (.int .i64 x.c)
  x4 : w'.cell? ⟨w.heap.size, 4, none⟩ = some (.string x.name)
theorem sdR_new (w : World) (x : QI) (t : TypeId) : SdR w x (w.alloc (.cells #[.int .i64 x.op, .int .i64 x.a, .int .i64 x.b, .int .i64 x.c, .string x.name] t)) := ⟨cell_new _ _ _ _ rfl 0, cell_new _ _ _ _ rfl 1, cell_new _ _ _ _ rfl 2, cell_new _ _ _ _ rfl 3, cell_new _ _ _ _ rfl 4⟩
theorem SdR.kp {w : World} {x : QI} {w' w'' : World} {T : Nat → Nat} {S : Nat → Prop} (h : SdR w x w') (k : Kp S T w' w'') (hs : ¬ S (T w.heap.size)) : SdR w x w'' := ⟨k.cell h.x0 hs, k.cell h.x1 hs, k.cell h.x2 hs, k.cell h.x3 hs, k.cell h.x4 hs⟩

theorem nine {a1 a2 a3 a4 a5 a6 a7 a8 a9 : Addr} {v1 v2 v3 v4 v5 v6 v7 v8 v9 : Value} {w w' : World} (h : w.cell? a1 = some v1 ∧ w.cell? a2 = some v2 ∧ w.cell? a3 = some v3 ∧ w.cell? a4 = some v4 ∧ w.cell? a5 = some v5 ∧ w.cell? a6 = some v6 ∧ w.cell? a7 = some v7 ∧ w.cell? a8 = some v8 ∧ w.cell? a9 = some v9) (hb : Below w.heap.size w w') : w'.cell? a1 = some v1 ∧ w'.cell? a2 = some v2 ∧ w'.cell? a3 = some v3 ∧ w'.cell? a4 = some v4 ∧ w'.cell? a5 = some v5 ∧ w'.cell? a6 = some v6 ∧ w'.cell? a7 = some v7 ∧ w'.cell? a8 = some v8 ∧ w'.cell? a9 = some v9 := by
  obtain ⟨h1, h2, h3, h4, h5, h6, h7, h8, h9⟩ := h
  exact ⟨cell_later hb h1, cell_later hb h2, cell_later hb h3, cell_later hb h4, cell_later hb h5, cell_later hb h6, cell_later hb h7, cell_later hb h8, cell_later hb h9⟩
theorem nineK {T : Nat → Nat} {S : Nat → Prop} {b1 b2 b3 o1 o2 : Nat} {v1 v2 v3 v4 v5 v6 v7 v8 v9 : Value} {w w' : World} (h : w.cell? ⟨b1, o1, none⟩ = some v1 ∧ w.cell? ⟨b1, o2, none⟩ = some v2 ∧ w.cell? ⟨b2, 0, none⟩ = some v3 ∧ w.cell? ⟨b2, 1, none⟩ = some v4 ∧ w.cell? ⟨b2, 2, none⟩ = some v5 ∧ w.cell? ⟨b2, 3, none⟩ = some v6 ∧ w.cell? ⟨b2, 4, none⟩ = some v7 ∧ w.cell? ⟨b3, 0, none⟩ = some v8 ∧ w.cell? ⟨b3, 1, none⟩ = some v9) (k : Kp S T w w') (h1 : ¬ S (T b1)) (h2 : ¬ S (T b2)) (h3 : ¬ S (T b3)) : w'.cell? ⟨b1, o1, none⟩ = some v1 ∧ w'.cell? ⟨b1, o2, none⟩ = some v2 ∧ w'.cell? ⟨b2, 0, none⟩ = some v3 ∧ w'.cell? ⟨b2, 1, none⟩ = some v4 ∧ w'.cell? ⟨b2, 2, none⟩ = some v5 ∧ w'.cell? ⟨b2, 3, none⟩ = some v6 ∧ w'.cell? ⟨b2, 4, none⟩ = some v7 ∧ w'.cell? ⟨b3, 0, none⟩ = some v8 ∧ w'.cell? ⟨b3, 1, none⟩ = some v9 := by
  obtain ⟨e1, e2, e3, e4, e5, e6, e7, e8, e9⟩ := h
  exact ⟨k.cell e1 h1, k.cell e2 h1, k.cell e3 h2, k.cell e4 h2, k.cell e5 h2, k.cell e6 h2, k.cell e7 h2, k.cell e8 h3, k.cell e9 h3⟩
theorem MacAt.st {calls : Int} (h : MacAt p T w mb m calls hv g s) (st : σ) : MacAt p T w mb { m with st := st } calls hv g s := ⟨h.box, h.tag, h.heap, h.cls⟩
set_option maxHeartbeats 4000000 in
theorem send_any (hC : Cx p L LF lc QF qc) {d : Nat} (hEn : EnterOk p L d) (h : MacAt p T w mb m (20 - (d : Int)) hv g s) (hF : FrAt T K w fb f cv av tv sv kv) (hL : L T w m.st (leftE p.E m)) (hI : MIn p.E m) (hFo : FOk p.E.classes m.heap.length f) (hst : f.stack.length ≤ 1000000) (a : Int) (x : QI) :
    Calls Try.prog 115 #[.pointer (some ⟨mb, 0, none⟩), .pointer (some ⟨fb, 0, none⟩), .int .i64 a, IV x] w fun e w' => StPost p L T w mb (20 - (d : Int)) K fb (sendE (entE p.E d) p.E m f a x) e w' := by
  have hp := hF.pos
  have hlm := blk_lt h.box
  have hlf := blk_lt hF.box
  have hX := tagged_ext T w 4
  have hT4 : ∀ b, w.heap.size ≤ b → tagged T w 4 b = 4 := fun b hb => tagged_new hb
  have hb1 := bel1 w (.cells #[.int .i64 x.op, .int .i64 x.a, .int .i64 x.b, .int .i64 x.c, .string x.name] 59)
  have hM0 := (h.tagged0 4).later hb1
  have hF0 := (hF.tagged0 4).later hb1
  have hL0 := hC.keep (hC.keep hL hX (Kp.refl (fun _ => False) _ _) id id) (.refl _ _) (Kp.of_below (S := fun _ => False) hb1) id id
  have hR0 := sdR_new w x 59
  clear h hF hL
  generalize tagged T w 4 = T1 at *
  obtain ⟨k, hk⟩ : ∃ k, k = fromE f.stack x.a := ⟨_, rfl⟩
  have HS : Hid (sendE (entE p.E d) p.E m f a x = (let l := p.E.look m.st (f.site a x) (classV m.heap (belowE (f.stack.take k) 0)) x.name; let r := entE p.E d { m with st := l.1 } l.2.1 l.2.2 (belowE (f.stack.take k) 0) (f.stack.drop k); if r.2.2 ≠ 0 then (r.1, f, r.2.2) else (r.1, { f with stack := (f.stack.take k).dropLast ++ [r.2.1] }, 0))) := by show _ = _; unfold sendE; rw [← hk]
  have HSelf : Hid (wrongV m.heap.length (belowE (f.stack.take k) 0) = 0) := VsOk.entry (hFo.stack.sub fun v hv => List.mem_of_mem_take hv) _
  have HArgs : Hid (VsOk m.heap.length (f.stack.drop k)) := hFo.stack.sub fun v hv => List.mem_of_mem_drop hv
  have HTop : Hid (Fr.top { f with stack := f.stack.take k } = belowE (f.stack.take k) 0) := rfl
  have HPop : Hid (Fr.pop { f with stack := f.stack.take k } = { f with stack := (f.stack.take k).dropLast }) := rfl
  have HSite : Hid (∀ l, Fr.site { f with stack := l } a x = f.site a x) := fun _ => rfl
  have HLen : Hid ((f.stack.take k).dropLast.length ≤ 1000000) := by show _ ≤ _; simp; omega
  have hPA := popArgs_any hF0 x.a k hk
  have hTL : (f.stack.take k).length ≤ 1000000 := by simp; omega
  clear hk
  go_enter Try.func115, Try.ntmps115
  go_upto_region 1 with (fail)
  generalize (w.alloc (.cells #[.int .i64 x.op, .int .i64 x.a, .int .i64 x.b, .int .i64 x.c, .string x.name] 59)) = W at *
  obtain ⟨x0, x1, x2, x3, x4⟩ := id hR0
  go_wp2_with fail
  refine hPA.mono ?_
  rintro e w1 ⟨aa, ca, T2, sv1, rfl, hX1, hF1, hA1, hK1⟩
  clear hPA
  generalize f.stack.drop k = args at *
  have hz4 : T1 w.heap.size = 4 := hT4 _ (Nat.le_refl _)
  have hM1 := hM0.keep hX1 hK1 (by omega) (by omega) (by omega)
  have hL1 := hC.keep hL0 hX1 hK1 (by omega) (by omega)
  have hR1 := hR0.kp hK1 (by rw [hz4]; omega)
  clear x0 x1 x2 x3 x4
  go_wp2_with fail
  refine (pop_any hF1).mono ?_
  rintro e w2 ⟨rfl, ⟨sv2, hF2⟩, hK2⟩
  have hM2 := hM1.keep (.refl _ _) hK2 (by omega) (by omega) (by omega)
  have hL2 := hC.keep hL1 (.refl _ _) hK2 (by omega) (by omega)
  have hA2 := hA1.fx goodV (.refl _ _) hK2 (by omega)
  have hWz : w.heap.size < W.heap.size := World.block_lt_of_cell? W ⟨w.heap.size, 0, none⟩ hR0.x0
  have hz5 : T2 w.heap.size = 4 := by rw [hX1 _ hWz]; exact hz4
  have hR2 := hR1.kp hK2 (by rw [hz5]; omega)
  rw [HTop.out]
  rw [HPop.out] at hF2
  generalize belowE (f.stack.take k) 0 = self at *
  generalize (f.stack.take k).dropLast = rest at *
  have hbV : Below w2.heap.size w2 (w2.alloc (.cells #[.int .i64 self.k, .int .i64 self.n] 27)).drew := (bel1 _ _).drew
  have hX3 := tagged_ext T2 w2 4
  have hT5 : ∀ b, w2.heap.size ≤ b → tagged T2 w2 4 b = 4 := fun b hb => tagged_new hb
  have hM3 := (hM2.tagged0 4).later hbV
  have hF3 := (hF2.tagged0 4).later hbV
  have hL3 := hC.keep (hC.keep hL2 hX3 (Kp.refl (fun _ => False) _ _) id id) (.refl _ _) (Kp.of_below (S := fun _ => False) hbV) id id
  have hA3 := (fx_tagged hA2 goodV 4).fx goodV (.refl _ w2) (Kp.of_below (S := fun _ => False) hbV) id
  have hR3 : SdR w x (w2.alloc (.cells #[.int .i64 self.k, .int .i64 self.n] 27)).drew := hR2.kp (T := T2) (S := fun _ => False) (Kp.of_below hbV) id
  have s0 : (w2.alloc (.cells #[.int .i64 self.k, .int .i64 self.n] 27)).drew.cell? ⟨w2.heap.size, 0, none⟩ = some (.int .i64 self.k) := cell_new w2 #[.int .i64 self.k, .int .i64 self.n] 27 _ rfl 0
  have s1 : (w2.alloc (.cells #[.int .i64 self.k, .int .i64 self.n] 27)).drew.cell? ⟨w2.heap.size, 1, none⟩ = some (.int .i64 self.n) := cell_new w2 #[.int .i64 self.k, .int .i64 self.n] 27 _ rfl 1
  have hz6 : tagged T2 w2 4 w.heap.size = 4 := by rw [hX3 _ (Nat.lt_of_lt_of_le hWz (Nat.le_trans hK1.size hK2.size))]; exact hz5
  have hz7 : tagged T2 w2 4 w2.heap.size = 4 := hT5 _ (Nat.le_refl _)
  have HE3 : Hid (Ext T (tagged T2 w2 4) w) := ((hX.trans hb1.size hX1).trans (Nat.le_trans hb1.size (Nat.le_trans hK1.size hK2.size)) hX3)
  have HK3 : Hid (Kp (All K) T w (w2.alloc (.cells #[.int .i64 self.k, .int .i64 self.n] 27)).drew) := ((((Kp.of_below (S := All K) hb1).trans hX (hK1.mono fun t h => Or.inr (Or.inr (Or.inr (by omega))))).trans (hX.trans hb1.size hX1) (hK2.mono fun t h => Or.inr (Or.inr (Or.inr (by omega))))).on hbV)
  clear hM2 hF2 hL2 hA2 hR2 hM1 hF1 hL1 hA1 hR1 hM0 hF0 hL0 hR0 hK1 hK2 hX1 hb1 hz4 hz5
  go_wp2
  generalize tagged T2 w2 4 = T3 at *
  generalize (w2.alloc (.cells #[.int .i64 self.k, .int .i64 self.n] 27)) = V at *
  have m7 := hM3.c7
  have m1 := hM3.c1
  rw [hC.lv] at m7
  obtain ⟨ch, rfl, hc1, hc2⟩ := hM3.heap.form
  obtain ⟨x0, x1, x2, x3, x4⟩ := id hR3
  have hsite : Calls Try.prog 123 #[.pointer (some ⟨fb, 0, none⟩), .int .i64 a, IV x] V.drew fun e w' => e = .returned (SV (f.site a x)) ∧ Below V.drew.heap.size V.drew w' := by
    have := site_any hF3 a x
    rw [HSite.out] at this
    exact this
  have hcls : ∀ w' : World, Below V.drew.heap.size V.drew w' → Calls Try.prog 62 #[.slice (some ⟨g, 0, none⟩) m.heap.length ch, VV self] w' fun e w'' => e = .returned (.int .i64 (classV m.heap self)) ∧ Below w'.heap.size w' w'' := fun w' hb => vclass_any m.heap _ self w' ((hM3.heap.heap).later goodO hb)
  have hlook : ∀ w' : World, Below V.drew.heap.size V.drew w' → Calls Try.prog LF (#[SV (f.site a x), .int .i64 (classV m.heap self), .string x.name] ++ lc) w' _ := fun w' hb => hC.look T3 w' m.st (f.site a x) (classV m.heap self) x.name (p.E.fuel - m.sends).toNat (hC.keep (hC.mono hL3 (by unfold leftE; have := hI.sends; omega)) (.refl _ _) (Kp.of_below (S := fun _ => False) hb) id id)
  obtain ⟨c0, hc0⟩ : ∃ c0, c0 = classV m.heap self := ⟨_, rfl⟩
  obtain ⟨st0, hst0⟩ : ∃ st0, st0 = f.site a x := ⟨_, rfl⟩
  rw [← hc0] at hlook HS hcls
  rw [← hst0] at hlook HS hsite
  have HST := hid hst0
  clear hc0 hst0
  have hS0 : V.drew.cell? ⟨mb, 7, none⟩ = some (.func (.func LF) #[] lc) ∧ V.drew.cell? ⟨mb, 1, none⟩ = some (.slice (some ⟨g, 0, none⟩) m.heap.length ch) ∧ V.drew.cell? ⟨w.heap.size, 0, none⟩ = some (.int .i64 x.op) ∧ V.drew.cell? ⟨w.heap.size, 1, none⟩ = some (.int .i64 x.a) ∧ V.drew.cell? ⟨w.heap.size, 2, none⟩ = some (.int .i64 x.b) ∧ V.drew.cell? ⟨w.heap.size, 3, none⟩ = some (.int .i64 x.c) ∧ V.drew.cell? ⟨w.heap.size, 4, none⟩ = some (.string x.name) ∧ V.drew.cell? ⟨w2.heap.size, 0, none⟩ = some (.int .i64 self.k) ∧ V.drew.cell? ⟨w2.heap.size, 1, none⟩ = some (.int .i64 self.n) := ⟨m7, m1, x0, x1, x2, x3, x4, s0, s1⟩
  have htm : ¬ (T3 mb = 3) := by rw [hM3.tag]; omega
  have htx : ¬ (T3 w.heap.size = 3) := by rw [hz6]; omega
  have hts : ¬ (T3 w2.heap.size = 3) := by rw [hz7]; omega
  have hcf := hC.lcf
  have tokA : True := trivial
  go_region_held3 (fun w' => w'.cell? ⟨mb, 7, none⟩ = some (.func (.func LF) #[] lc) ∧ w'.cell? ⟨mb, 1, none⟩ = some (.slice (some ⟨g, 0, none⟩) m.heap.length ch) ∧ w'.cell? ⟨w.heap.size, 0, none⟩ = some (.int .i64 x.op) ∧ w'.cell? ⟨w.heap.size, 1, none⟩ = some (.int .i64 x.a) ∧ w'.cell? ⟨w.heap.size, 2, none⟩ = some (.int .i64 x.b) ∧ w'.cell? ⟨w.heap.size, 3, none⟩ = some (.int .i64 x.c) ∧ w'.cell? ⟨w.heap.size, 4, none⟩ = some (.string x.name) ∧ w'.cell? ⟨w2.heap.size, 0, none⟩ = some (.int .i64 self.k) ∧ w'.cell? ⟨w2.heap.size, 1, none⟩ = some (.int .i64 self.n))
    (first | with_reducible exact hS0 | with_reducible exact hS1 | with_reducible exact hS2 | with_reducible exact hS3)
    (first
      | (have _t := tokA; go_at_call 123; refine hsite.mono ?_; rintro e w3 ⟨rfl, hb3⟩; have hS1 := nine hS0 hb3; clear tokA; have tokB : True := trivial)
      | (have _t := tokB; go_at_call 62; refine (hcls _ hb3).mono ?_; rintro e w4 ⟨rfl, hb4⟩; have hS2 := nine hS1 hb4; have hb34 := nstep hb3 hb4; clear tokB; have tokC : True := trivial)
      | (have _t := tokC; refine (hlook _ hb34).mono ?_; rintro e w5 ⟨rfl, ⟨T5, hX5, hL5⟩, hK5⟩; have hS3 := nineK (nine hS0 hb34) hK5 htm htx hts; clear tokC))
  have hM5 := ((hM3.later hb34).keep hX5 hK5 (by omega) (by omega) (by omega)).st (p.E.look m.st st0 c0 x.name).1
  have hF5 := (hF3.later hb34).keep hX5 hK5 (by omega) (by omega) (by omega) (by omega)
  have hA5 := (hA3.fx goodV (.refl _ _) (Kp.of_below (S := fun _ => False) hb34) id).fx goodV hX5 hK5 (by omega)
  have HE5 := hid (HE3.out.trans (Nat.le_trans HK3.out.size hb34.size) hX5)
  have HK5 := hid ((HK3.out.on hb34).trans HE3.out (hK5.mono (S' := All K) fun t h => Or.inr (Or.inr (Or.inl h))))
  obtain ⟨-, -, -, -, -, -, -, s0', s1'⟩ := hS3
  clear hS0 hS1 hS2 m7 m1 x0 x1 x2 x3 x4 s0 s1 hsite hcls hlook hM3 hF3 hL3 hA3 hR3 hb3 hb4 hb34 hX5 hK5
  generalize p.E.look m.st st0 c0 x.name = l at *
  have hI5 : MIn p.E { m with st := l.1 } := ⟨hI.heap, hI.sends, hI.turns⟩
  have hent := hEn (K + 3) T5 w5 mb _ _ _ _ l.2.1 l.2.2 self args _ (by omega) hM5 hL5 hI5 HSelf.out HArgs.out hA5
  generalize entE p.E d { m with st := l.1 } l.2.1 l.2.2 self args = r at *
  go_wp2_with fail
  refine hent.mono ?_
  rintro e w6 ⟨rfl, ⟨T6, hX6, ⟨hv6, g6, s6, hM6⟩, hL6⟩, hK6⟩
  have hF6 := hF5.keep hX6 hK6 (by unfold All; omega) (by unfold All; omega) (by unfold All; omega) (by unfold All; omega)
  have HE6 := hid (HE5.out.trans HK5.out.size hX6)
  have HK6 := hid (HK5.out.trans HE5.out (hK6.mono (S' := All K) fun t h => by unfold All at *; omega))
  obtain ⟨r1, v, er⟩ := r
  simp only at HS hM6 hL6
  clear hent hM5 hF5 hA5 hL5 hX6 hK6
  by_cases her : er = 0
  · subst her
    rw [if_neg (by simp)] at HS
    rw [if_pos rfl] at hL6
    have hbz : Below w6.heap.size w6 (w6.alloc (.cells #[.int .i64 v.k, .int .i64 v.n] 27)) := bel1 _ _
    have hM7 := hM6.later hbz
    have hF7 := hF6.later hbz
    have hL7 := hC.keep hL6 (.refl _ _) (Kp.of_below (S := fun _ => False) hbz) id id
    have HK7 := hid (HK6.out.on hbz)
    clear hM6 hF6 hL6
    go_wp2_with fail
    refine (push_any hF7 v (by show rest.length < _; have := HLen.out; omega)).mono ?_
    rintro e w8 ⟨rfl, ⟨T8, sv8, hX8, hF8⟩, hK8⟩
    have hM8 := hM7.keep hX8 hK8 (by omega) (by omega) (by omega)
    have hL8 := hC.keep hL7 hX8 hK8 (by omega) (by omega)
    have Q : Hid (StPost p L T w mb (20 - (d : Int)) K fb (r1, { f with stack := rest ++ [v] }, 0) (.returned (.int .i64 0)) w8) :=
      ⟨rfl, ⟨T8, HE6.out.trans HK7.out.size hX8, ⟨_, _, _, hM8⟩, by rw [if_pos rfl]; exact hL8, fun _ => ⟨_, _, _, _, _, hF8⟩⟩, HK7.out.trans HE6.out (hK8.mono fun t h => by unfold All; omega)⟩
    clear hM7 hF7 hL7 hM8 hL8 hF8 hX8 hK8
    go_wp2
    go_ret
    rw [HS.out]
    exact Q.out
  · rw [if_pos her] at HS
    rw [if_neg her] at hL6
    have her' : (er != 0) = true := by simpa using her
    have Q : Hid (StPost p L T w mb (20 - (d : Int)) K fb (r1, f, er) (.returned (.int .i64 er)) (w6.alloc (.cells #[.int .i64 v.k, .int .i64 v.n] 27))) :=
      ⟨rfl, ⟨T6, HE6.out, ⟨_, _, _, hM6.later (bel1 _ _)⟩, by rw [if_neg her]; exact hC.keep hL6 (.refl _ _) (Kp.of_below (S := fun _ => False) (bel1 _ _)) id id, fun h => absurd h her⟩, HK6.out.on (bel1 _ _)⟩
    clear hM6 hF6 hL6
    go_wp2
    go_ret
    rw [HS.out]
    exact Q.out
end
end Go.Proofs.Ytdfbgpiikeheiaa

/- Fast code is left. -/
namespace Go.Proofs.Ytdfbgpiikeheiaa
open Go.ChangeShapes Go.WideShapes Go.ChangeAt Go.RowKit
set_option linter.unusedSimpArgs false
set_option linter.unusedVariables false
set_option maxRecDepth 8000

/-- 'copy(own, l)', whatever their lengths: behind it the row of own begins with as many cells of l as fit. -/
theorem run_copy_min {P : Program} (w : World) (dT sT ty elem : TypeId) (sz g dl dCap : Nat) (sp : Option Addr) (sl sCap n : Nat) (cur : Array Value) (t : TypeId) (cs : List Value)
    (hu : P.underlying dT = some (.slice elem)) (hs : (P.info? elem).map (·.size) = some sz) (hg : w.heap[g]? = some (.cells cur t (0, 0))) (hmn : Nat.min sl dl = n) (hn : cs.length = n * sz)
    (hsrc : ∀ j v, cs[j]? = some v → ∃ a, sp = some a ∧ w.cell? (a.add j) = some v) (hcur : cur.size = dl * sz) (h1 : ∀ v ∈ cs, v.oneCell' = true) :
    (Builtin.copy_ #[dT, sT] ty #[.slice (some ⟨g, 0, none⟩) dl dCap, .slice sp sl sCap]).run P w = .ok (goInt n) (w.setRow g (cs ++ cur.toList.drop cs.length).toArray) := by
  cases hq : P.info? elem with
  | none => simp [hq] at hs
  | some i =>
    have hi : i.size = sz := by simpa [hq] using hs
    have hle : cs.length ≤ cur.size := by rw [hn, hcur]; exact Nat.mul_le_mul_right _ (by rw [← hmn]; exact Nat.min_le_right _ _)
    have hst := run_storeCells_at P g 0 t cs 0 cur w hg (by simp; omega) h1
    have hfc : (Builtin.firstCells sz n (.slice sp sl sCap)).run P w = .ok cs.toArray w := by
      cases sp with
      | some a => exact run_firstCells_some w sz n a sl sCap cs hn (fun j v hv => by obtain ⟨a', e, h⟩ := hsrc j v hv; cases e; exact h)
      | none =>
        have : cs = [] := by
          cases cs with
          | nil => rfl
          | cons c r => obtain ⟨a', e, _⟩ := hsrc 0 c rfl; cases e
        rw [this]
        exact run_firstCells_none w sz n sl sCap
    have e : (cur.toList.take (0 + 0) ++ cs ++ cur.toList.drop (0 + 0 + cs.length)).toArray = (cs ++ cur.toList.drop cs.length).toArray := by simp
    rw [e] at hst
    simp [Builtin.copy_, run_underlying hu, Builtin.lenOf, sizeOf, typeInfo, hq, hi, hmn, hfc, hst]
theorem leave_temps (n : Int) (l : List QV) : vcells ((roomsE n).zipIdx.map fun p => (l[p.2]?).getD nilV) = (vcells (l.take (Nat.min l.length (roomsE n).length))) ++ (vcells (roomsE n)).drop (vcells (l.take (Nat.min l.length (roomsE n).length))).length := by
  unfold roomsE
  generalize (min (max n 0) 40).toNat = k
  rw [List.length_replicate, vcells_len, List.length_take, vcells_drop, ← vcells_append]
  congr 1
  apply List.ext_getElem?
  intro j
  simp only [List.getElem?_map, List.getElem?_zipIdx, List.getElem?_append, List.length_take, List.getElem?_take, List.getElem?_drop, List.getElem?_replicate, Nat.zero_add]
  have hmin : Nat.min l.length k = min l.length k := rfl
  rw [hmin]
  by_cases hj : j < k
  · simp only [hj, if_true, Option.map_some]
    by_cases hl : j < l.length
    · rw [if_pos (by omega), if_pos (by omega)]
      simp [hl]
    · rw [if_neg (by omega), if_pos (by omega), List.getElem?_eq_none (by omega)]
      rfl
  · simp only [hj, if_false, Option.map_none]
    rw [if_neg (by omega), if_neg (by omega)]
section
variable {T T' : Nat → Nat} {K : Nat} {w w' : World} {fb : Nat} {f : Fr} {cv av tv sv kv : Value}
theorem fb_leave (h : w.heap[fb]? = some (FB f cv av tv sv kv)) (tv' : Value) (a : Int) : ((((w.setCell ⟨fb, 11, none⟩ cv).setCell ⟨fb, 9, none⟩ tv').setCell ⟨fb, 12, none⟩ (.int .i64 a)).setCell ⟨fb, 13, none⟩ (.bool false)).heap[fb]? = some (FB (f.leave a) cv av tv' sv cv) := by
  rw [setCell_same (setCell_same (setCell_same (setCell_same h _) _) _) _]; rfl
set_option maxHeartbeats 2000000 in
theorem leaveFast_any (h : FrAt T K w fb f cv av tv sv kv) (a : Int) : Calls Try.prog 124 #[.pointer (some ⟨fb, 0, none⟩), .int .i64 a] w fun e w' => e = .returned (.tuple #[]) ∧ (∃ T' tv', Ext T T' w ∧ FrAt T' K w' fb (f.leave a) cv av tv' sv cv) ∧ Kp (fun t => t = K) T w w' := by
  have hlt := blk_lt h.box
  have hp := h.pos
  have H := hid h
  have c3 : w.cell? ⟨fb, 3, none⟩ = some (.int .i64 f.meth.temps) := by rw [cell_of_row _ _ _ _ _ _ h.box]; rfl
  obtain ⟨tb, htv, ht2, ht3, ht4⟩ := h.temps
  subst htv
  obtain ⟨ac, cc, hcv, -⟩ := id h.meth
  subst hcv
  clear h
  go_enter Try.func124, Try.ntmps124
  go_wp2_with fail
  refine (rooms_any f.meth.temps _).mono ?_
  rintro e w1 ⟨nb, rfl, hnb, hgt, hb1⟩
  have hx1 := box_later' H.out.box hb1
  have d9 : w1.cell? ⟨fb, 9, none⟩ = some (.slice (some ⟨tb, 0, none⟩) f.temps.length f.temps.length) := by rw [cell_of_row _ _ _ _ _ _ hx1]; rfl
  have htl : tb < w.heap.size := blk_lt ht2
  have ht1 := box_later' ht2 hb1
  have hcopy := run_copy_min (P := Try.prog) w1 28 28 3 27 2 nb (roomsE f.meth.temps).length (roomsE f.meth.temps).length (some ⟨tb, 0, none⟩) f.temps.length f.temps.length _ _ 27 (vcells (f.temps.take (Nat.min f.temps.length (roomsE f.meth.temps).length))) Try.underlying28 (by kernel_rfl) hnb rfl (by rw [vcells_len, List.length_take]; congr 1; exact Nat.min_eq_left (Nat.min_le_left _ _)) (fun j v hv => ⟨⟨tb, 0, none⟩, rfl, by
    rw [← vcells_take, List.getElem?_take] at hv
    split at hv
    · rw [show (⟨tb, 0, none⟩ : Addr).add j = ⟨tb, j, none⟩ by simp [Addr.add]; intro h; omega, cell_of_row _ _ _ _ _ _ ht1]
      simpa using hv
    · cases hv⟩) (by simp [vcells_len]) (vcells_one _)
  rw [List.toList_toArray, ← leave_temps] at hcopy
  have hne : nb ≠ fb := by omega
  obtain ⟨w2, n2, hcp, hn2, hx2, hk2⟩ : ∃ (w2 : World) (n2 : Nat), (Builtin.copy_ #[28, 28] 3 #[.slice (some ⟨nb, 0, none⟩) (roomsE f.meth.temps).length (roomsE f.meth.temps).length, .slice (some ⟨tb, 0, none⟩) f.temps.length f.temps.length]).run Try.prog w1 = .ok (goInt n2) w2 ∧ w2.heap[nb]? = some (.cells (vcells (f.leave a).temps).toArray 27 (0, 0)) ∧ (∀ b, b ≠ nb → w2.heap[b]? = w1.heap[b]?) ∧ Below w.heap.size w w2 :=
    ⟨_, _, hcopy, setRow_heap w1 nb _ _ 27 (0, 0) hnb, fun b hb => setRow_other w1 nb b _ hb, below_setRow hb1 hgt _⟩
  clear hcopy
  have hbx : w2.heap[fb]? = some (FB f (.slice ac f.meth.code.length cc) av (.slice (some ⟨tb, 0, none⟩) f.temps.length f.temps.length) sv kv) := (hx2 fb hne.symm).trans hx1
  have e5 : w2.cell? ⟨fb, 5, none⟩ = some (.slice ac f.meth.code.length cc) := by rw [cell_of_row _ _ _ _ _ _ hbx]; rfl
  have e9 : w2.cell? ⟨fb, 9, none⟩ = some (.slice (some ⟨tb, 0, none⟩) f.temps.length f.temps.length) := by rw [cell_of_row _ _ _ _ _ _ hbx]; rfl
  have e11 : w2.cell? ⟨fb, 11, none⟩ = some kv := by rw [cell_of_row _ _ _ _ _ _ hbx]; rfl
  have e12 : w2.cell? ⟨fb, 12, none⟩ = some (.int .i64 f.pc) := by rw [cell_of_row _ _ _ _ _ _ hbx]; rfl
  have e13 : w2.cell? ⟨fb, 13, none⟩ = some (.bool f.fast) := by rw [cell_of_row _ _ _ _ _ _ hbx]; rfl
  have ef := row_free hbx
  have HL : Hid ((roomsE f.meth.temps).length = (f.leave a).temps.length) := by show _ = _; simp [Fr.leave]
  have HN2 := hid hn2
  have HX2 := hid hx2
  have HB := hid hbx
  have HB1 := hid hb1
  have HK2 := hid hk2
  have HGT := hid hgt
  clear ht2 c3 ht1 hnb hx1 hn2 hx2 hbx hb1 hk2 hgt ht4
  generalize (roomsE f.meth.temps).length = rl at *
  go_wp2
  have hrl := HL.out
  subst hrl
  have h := H.out
  have e : Ext T (tag1 T nb (K + 1)) w := tag1_ext HGT.out
  have k : Kp (fun t => t = K) T w ((((w2.setCell ⟨fb, 11, none⟩ (.slice ac f.meth.code.length cc)).setCell ⟨fb, 9, none⟩ (.slice (some ⟨nb, 0, none⟩) (f.leave a).temps.length (f.leave a).temps.length)).setCell ⟨fb, 12, none⟩ (.int .i64 a)).setCell ⟨fb, 13, none⟩ (.bool false)) := (((((Kp.of_below HK2.out).set (fun _ => h.tag) _ _).set (fun _ => h.tag) _ _).set (fun _ => h.tag) _ _).set (fun _ => h.tag) _ _)
  have hnb : ((((w2.setCell ⟨fb, 11, none⟩ (.slice ac f.meth.code.length cc)).setCell ⟨fb, 9, none⟩ (.slice (some ⟨nb, 0, none⟩) (f.leave a).temps.length (f.leave a).temps.length)).setCell ⟨fb, 12, none⟩ (.int .i64 a)).setCell ⟨fb, 13, none⟩ (.bool false)).heap[nb]? = some (.cells (vcells (f.leave a).temps).toArray 27 (0, 0)) := by
    rw [setCell_else hne, setCell_else hne, setCell_else hne, setCell_else hne]
    exact HN2.out
  refine bodyPost_end (v := .tuple #[]) (by simp [results, Try.results124, go_sem]) rfl ⟨rfl, ⟨tag1 T nb (K + 1), _, e, ⟨fb_leave HB.out _ a, by rw [e _ hlt]; exact h.tag, h.args.fx goodV e k (by omega), ⟨nb, rfl, hnb, tag1_self _ _ _, ?_⟩, h.stack.keep fun g hg => k.blk g (h.stack.lt g hg).2 (by rw [h.stag g hg]; omega), fun g hg => by rw [e _ (h.stack.lt g hg).2]; exact h.stag g hg, h.few, h.meth.fx goodI e k (by omega), h.meth.fx goodI e k (by omega), hp⟩⟩, k⟩
  show (f.leave a).temps.length ≤ 40
  have := roomsE_len f.meth.temps
  simpa [Fr.leave] using this
end
end Go.Proofs.Ytdfbgpiikeheiaa

/- What fast code alone has. -/
namespace Go.Proofs.Ytdfbgpiikeheiaa
open Go.ChangeShapes Go.WideShapes Go.ChangeAt Go.RowKit
set_option linter.unusedSimpArgs false
set_option linter.unusedVariables false
set_option maxRecDepth 8000

section
variable {σ : Type} {p : Mp σ} {L : (Nat → Nat) → World → σ → Nat → Prop} {LF QF : Nat} {lc qc : Array Value} {T T' : Nat → Nat} {w w' : World} {mb : Nat} {m m' : Mc σ} {hv : Value} {g : Nat} {s : Nat → Nat} {K fb : Nat} {f : Fr} {cv av tv sv kv : Value}
/-- A step by way of another function that turns neither what is remembered nor the sends. -/
theorem stPost_le (hC : Cx p L LF lc QF qc) {T1 : Nat → Nat} {V : World} {calls : Int} {r : Mc σ × Fr × Int} {S : Nat → Prop} {e : Ending} (hr : r.1.st = m.st ∧ m.sends ≤ r.1.sends) (hE : Ext T T1 w) (hK : Kp (All K) T w V) (hL : L T1 V m.st (leftE p.E m)) (he : e = .returned (.int .i64 r.2.2)) {T2 : Nat → Nat} (hE2 : Ext T1 T2 V) (hM : ∃ hv g s, MacAt p T2 w' mb r.1 calls hv g s) (hF : r.2.2 = 0 → ∃ cv av tv sv kv, FrAt T2 K w' fb r.2.1 cv av tv sv kv) (k : Kp S T1 V w') (hS : ∀ t, S t → All K t) (h0 : ¬ S 0) (h3 : ¬ S 3) : StPost p L T w mb calls K fb r e w' := by
  have hL2 := hC.keep hL hE2 k h0 h3
  refine ⟨he, ⟨T2, hE.trans hK.size hE2, hM, ?_, hF⟩, hK.trans hE (k.mono hS)⟩
  rw [hr.1]
  have : leftE p.E r.1 ≤ leftE p.E m := by unfold leftE; omega
  split
  · exact hC.mono hL2 this
  · exact hC.mono hL2 (Nat.zero_le _)
theorem three_l {b1 b2 o1 o2 o3 : Nat} {v1 v2 v3 : Value} {w w' : World} (h : w.cell? ⟨b1, o1, none⟩ = some v1 ∧ w.cell? ⟨b2, o2, none⟩ = some v2 ∧ w.cell? ⟨b2, o3, none⟩ = some v3) (hb : Below w.heap.size w w') : w'.cell? ⟨b1, o1, none⟩ = some v1 ∧ w'.cell? ⟨b2, o2, none⟩ = some v2 ∧ w'.cell? ⟨b2, o3, none⟩ = some v3 := ⟨cell_later hb h.1, cell_later hb h.2.1, cell_later hb h.2.2⟩
theorem four_l {b1 b2 b3 o1 o2 o3 o4 : Nat} {v1 v2 v3 v4 : Value} {w w' : World} (h : w.cell? ⟨b1, o1, none⟩ = some v1 ∧ w.cell? ⟨b2, o2, none⟩ = some v2 ∧ w.cell? ⟨b3, o3, none⟩ = some v3 ∧ w.cell? ⟨b3, o4, none⟩ = some v4) (hb : Below w.heap.size w w') : w'.cell? ⟨b1, o1, none⟩ = some v1 ∧ w'.cell? ⟨b2, o2, none⟩ = some v2 ∧ w'.cell? ⟨b3, o3, none⟩ = some v3 ∧ w'.cell? ⟨b3, o4, none⟩ = some v4 := ⟨cell_later hb h.1, cell_later hb h.2.1, cell_later hb h.2.2.1, cell_later hb h.2.2.2⟩
set_option maxHeartbeats 8000000 in
theorem fastStep_any (hC : Cx p L LF lc QF qc) {d : Nat} (hd : d ≤ 20) (h : MacAt p T w mb m (20 - (d : Int)) hv g s) (hF : FrAt T K w fb f cv av tv sv kv) (hL : L T w m.st (leftE p.E m)) (hI : MIn p.E m) (hst : f.stack.length ≤ 1000000) (x : QI) (hxb : f.fast = true → x.op = 18 → 0 ≤ x.b ∧ x.b ≤ 1000) :
    Calls Try.prog 118 #[.pointer (some ⟨mb, 0, none⟩), .pointer (some ⟨fb, 0, none⟩), IV x] w fun e w' => StPost p L T w mb (20 - (d : Int)) K fb (fastE p.E d m f x) e w' := by
  have hp := hF.pos
  have hX := tagged_ext T w 4
  have hT4 : ∀ b, w.heap.size ≤ b → tagged T w 4 b = 4 := fun b hb => tagged_new hb
  have hb1 := bel1 w (.cells #[.int .i64 x.op, .int .i64 x.a, .int .i64 x.b, .int .i64 x.c, .string x.name] 59)
  have hM1 := (h.tagged0 4).later hb1
  have hF1 := (hF.tagged0 4).later hb1
  have hL1 := hC.keep (hC.keep hL hX (Kp.refl (fun _ => False) _ _) id id) (.refl _ _) (Kp.of_below (S := fun _ => False) hb1) id id
  have hR1 := sdR_new w x 59
  have hroom : f.stack.length < 1000000000 := by omega
  have HKV : Hid (Kp (All K) T w (w.alloc (.cells #[.int .i64 x.op, .int .i64 x.a, .int .i64 x.b, .int .i64 x.c, .string x.name] 59))) := Kp.of_below hb1
  have hz4 : tagged T w 4 w.heap.size = 4 := hT4 _ (Nat.le_refl _)
  clear h hF hL hb1 hT4
  generalize tagged T w 4 = T1 at *
  have c13 : (w.alloc (.cells #[.int .i64 x.op, .int .i64 x.a, .int .i64 x.b, .int .i64 x.c, .string x.name] 59)).cell? ⟨fb, 13, none⟩ = some (.bool f.fast) := by rw [cell_of_row _ _ _ _ _ _ hF1.box]; rfl
  go_enter Try.func118, Try.ntmps118
  go_upto_region 1 with (fail)
  generalize (w.alloc (.cells #[.int .i64 x.op, .int .i64 x.a, .int .i64 x.b, .int .i64 x.c, .string x.name] 59)) = V at *
  obtain ⟨x0, x1, x2, x3, x4⟩ := id hR1
  have hVz : w.heap.size < V.heap.size := World.block_lt_of_cell? V ⟨w.heap.size, 0, none⟩ x0
  cases hfa : f.fast with
  | false =>
    have HN : Hid (fastE p.E d m f x = (m, f, 1)) := by show _ = _; unfold fastE; rw [if_pos hfa]
    rw [hfa] at c13
    have Q : Hid (StPost p L T w mb (20 - (d : Int)) K fb (m, f, 1) (.returned (.int .i64 1)) V) := stPost_le hC ⟨rfl, Int.le_refl _⟩ hX HKV.out hL1 rfl (.refl _ _) ⟨_, _, _, hM1⟩ (fun h => by cases h) (Kp.refl (fun _ => False) _ _) (fun _ h => h.elim) id id
    clear hM1 hF1 hL1 hR1
    go_wp2
    go_ret
    rw [HN.out]
    exact Q.out
  | true =>
    rw [hfa] at c13
    have hxb' := hxb hfa
    have HFE : Hid (fastE p.E d m f x = if x.op = 18 then (m, if classV m.heap (belowE f.stack x.b) = x.a then f else f.leave x.c, 0) else if x.op = 19 then (m, f.push (slotV m.heap (entryE f.temps x.a) x.b), 0) else if x.op = 20 then ({ m with heap := setSlotE m.heap (entryE f.temps x.a) x.b f.top }, f.pop, 0) else if x.op = 21 then ((countE p.E d m).1, f, (countE p.E d m).2) else (m, f, 1)) := by show _ = _; unfold fastE; rw [if_neg (by simp [hfa])]
    clear hfa hxb
    obtain ⟨ch, rfl, hc1, hc2⟩ := hM1.heap.form
    have m1 := hM1.c1
    go_upto_region 3 with (fail)
    by_cases h18 : x.op = 18
    · have h18' : (x.op == 18) = true := by simpa using h18
      rw [if_pos h18] at HFE
      obtain ⟨hx0, hx1⟩ := hxb' h18
      clear h18 hxb'
      go_upto_region 6 with (fail)
      have hS0 : V.drew.cell? ⟨mb, 1, none⟩ = some (.slice (some ⟨g, 0, none⟩) m.heap.length ch) ∧ V.drew.cell? ⟨w.heap.size, 1, none⟩ = some (.int .i64 x.a) ∧ V.drew.cell? ⟨w.heap.size, 2, none⟩ = some (.int .i64 x.b) := ⟨m1, x1, x2⟩
      have hMd := hM1.later (Below.refl _ V).drew
      have hFd := hF1.later (Below.refl _ V).drew
      have tokA : True := trivial
      go_region_held3 (fun w' => w'.cell? ⟨mb, 1, none⟩ = some (.slice (some ⟨g, 0, none⟩) m.heap.length ch) ∧ w'.cell? ⟨w.heap.size, 1, none⟩ = some (.int .i64 x.a) ∧ w'.cell? ⟨w.heap.size, 2, none⟩ = some (.int .i64 x.b))
        (first | with_reducible exact hS0 | with_reducible exact hS1 | with_reducible exact hS2)
        (first
          | (have _t := tokA; go_at_call 109; refine (below_any hFd x.b ⟨hx0, by omega⟩).mono ?_; rintro e w3 ⟨rfl, hb3⟩; have hS1 := three_l hS0 hb3; clear tokA; have tokB : True := trivial)
          | (have _t := tokB; go_at_call 62; refine (vclass_any m.heap _ (belowE f.stack x.b) _ (((hMd.later hb3).heap).heap)).mono ?_; rintro e w4 ⟨rfl, hb4⟩; have hS2 := three_l hS1 hb4; clear tokB))
      have hb34 := nstep (Below.refl _ V).drew (nstep hb3 hb4)
      have x3' := cell_later hb34 x3
      have HM4 := hid (hM1.later hb34)
      have hF4 := hF1.later hb34
      have HL4 := hid (hC.keep hL1 (.refl _ _) (Kp.of_below (S := fun _ => False) hb34) id id)
      have HK4 := hid (HKV.out.on hb34)
      by_cases hcl : classV m.heap (belowE f.stack x.b) = x.a
      · have hcl' : (classV m.heap (belowE f.stack x.b) != x.a) = false := by simpa using hcl
        rw [if_pos hcl] at HFE
        have Q : Hid (StPost p L T w mb (20 - (d : Int)) K fb (m, f, 0) (.returned (.int .i64 0)) w4) := stPost_le hC ⟨rfl, Int.le_refl _⟩ hX HK4.out HL4.out rfl (.refl _ _) ⟨_, _, _, HM4.out⟩ (fun _ => ⟨_, _, _, _, _, hF4⟩) (Kp.refl (fun _ => False) _ _) (fun _ h => h.elim) id id
        clear hM1 hF1 hL1 hR1 hMd hFd hF4 hS0 hS1 hS2 m1 x0 x1 x2 x3 x4 c13 hcl
        go_wp2
        go_ret
        rw [HFE.out]
        exact Q.out
      · have hcl' : (classV m.heap (belowE f.stack x.b) != x.a) = true := by simpa using hcl
        rw [if_neg hcl] at HFE
        clear hM1 hF1 hL1 hR1 hMd hFd hS0 hS1 hS2 m1 x0 x1 x2 x3 x4 c13 hcl
        go_wp2_with fail
        refine (leaveFast_any hF4 x.c).mono ?_
        rintro e w5 ⟨rfl, ⟨T5, tv5, hX5, hF5⟩, hK5⟩
        have Q : Hid (StPost p L T w mb (20 - (d : Int)) K fb (m, f.leave x.c, 0) (.returned (.int .i64 0)) w5) := stPost_le hC ⟨rfl, Int.le_refl _⟩ hX HK4.out HL4.out rfl hX5 ⟨_, _, _, HM4.out.keep hX5 hK5 (by omega) (by omega) (by omega)⟩ (fun _ => ⟨_, _, _, _, _, hF5⟩) hK5 (fun t h => by unfold All; omega) (by omega) (by omega)
        clear hF4 hF5 hK5 hX5
        go_wp2
        go_ret
        rw [HFE.out]
        exact Q.out
    have h18' : (x.op == 18) = false := by simpa using h18
    rw [if_neg h18] at HFE
    clear h18 hxb'
    by_cases h19 : x.op = 19
    · have h19' : (x.op == 19) = true := by simpa using h19
      rw [if_pos h19] at HFE
      clear h19
      have htv := hF1.tempsV
      obtain ⟨tb, rfl, ht2, ht3, ht4⟩ := hF1.temps
      go_upto_region 9 with (fail)
      have hMd := hM1.later (Below.refl _ V).drew
      have hFd := hF1.later (Below.refl _ V).drew
      have hS0 : V.drew.cell? ⟨mb, 1, none⟩ = some (.slice (some ⟨g, 0, none⟩) m.heap.length ch) ∧ V.drew.cell? ⟨fb, 9, none⟩ = some (.slice (some ⟨tb, 0, none⟩) f.temps.length f.temps.length) ∧ V.drew.cell? ⟨w.heap.size, 1, none⟩ = some (.int .i64 x.a) ∧ V.drew.cell? ⟨w.heap.size, 2, none⟩ = some (.int .i64 x.b) := ⟨m1, hFd.c.2.2.2, x1, x2⟩
      have tokA : True := trivial
      go_region_held3 (fun w' => w'.cell? ⟨mb, 1, none⟩ = some (.slice (some ⟨g, 0, none⟩) m.heap.length ch) ∧ w'.cell? ⟨fb, 9, none⟩ = some (.slice (some ⟨tb, 0, none⟩) f.temps.length f.temps.length) ∧ w'.cell? ⟨w.heap.size, 1, none⟩ = some (.int .i64 x.a) ∧ w'.cell? ⟨w.heap.size, 2, none⟩ = some (.int .i64 x.b))
        (first | with_reducible exact hS0 | with_reducible exact hS1 | with_reducible exact hS2 | with_reducible exact hS3)
        (first
          | (have _t := tokA; go_at_call 100; refine (entry_any f.temps _ x.a _ (htv.later goodV (Below.refl _ V).drew)).mono ?_; rintro e w3 ⟨rfl, hb3⟩; have hS1 := four_l hS0 hb3; clear tokA; have tokB : True := trivial)
          | (have _t := tokB; go_at_call 119; refine (vslot_any m.heap _ (entryE f.temps x.a) x.b _ (((hMd.later hb3).heap).heap)).mono ?_; rintro e w4 ⟨rfl, hb4⟩; have hS2 := four_l hS1 hb4; have hF4 := (hFd.later hb3).later hb4; clear tokB; have tokC : True := trivial)
          | (have _t := tokC; go_at_call 111; refine (push_any hF4 (slotV m.heap (entryE f.temps x.a) x.b) hroom).mono ?_; rintro e w5 ⟨rfl, ⟨T5, sv5, hX5, hF5⟩, hK5⟩; have hMk := ((hMd.later hb3).later hb4).keep hX5 hK5 (by omega) (by omega) (by omega); have hz5 : T1 w.heap.size = 4 := hz4; have hS3 : w5.cell? ⟨mb, 1, none⟩ = some (.slice (some ⟨g, 0, none⟩) m.heap.length ch) ∧ w5.cell? ⟨fb, 9, none⟩ = some (.slice (some ⟨tb, 0, none⟩) f.temps.length f.temps.length) ∧ w5.cell? ⟨w.heap.size, 1, none⟩ = some (.int .i64 x.a) ∧ w5.cell? ⟨w.heap.size, 2, none⟩ = some (.int .i64 x.b) := ⟨hMk.c1, hF5.c.2.2.2, hK5.cell hS2.2.2.1 (by rw [hz4]; omega), hK5.cell hS2.2.2.2 (by rw [hz4]; omega)⟩; clear tokC))
      have hb34 := nstep (Below.refl _ V).drew (nstep hb3 hb4)
      have Q : Hid (StPost p L T w mb (20 - (d : Int)) K fb (m, f.push (slotV m.heap (entryE f.temps x.a) x.b), 0) (.returned (.int .i64 0)) w5) := stPost_le hC ⟨rfl, Int.le_refl _⟩ hX (HKV.out.on hb34) (hC.keep hL1 (.refl _ _) (Kp.of_below (S := fun _ => False) hb34) id id) rfl hX5 ⟨_, _, _, hMk⟩ (fun _ => ⟨_, _, _, _, _, hF5⟩) hK5 (fun t h => by unfold All; omega) (by omega) (by omega)
      clear hM1 hF1 hL1 hR1 hMd hFd hF4 hF5 hS0 hS1 hS2 hS3 m1 x0 x1 x2 x3 x4 c13 hMk htv ht2 hK5 hX5
      go_wp2
      go_ret
      rw [HFE.out]
      exact Q.out
    have h19' : (x.op == 19) = false := by simpa using h19
    rw [if_neg h19] at HFE
    clear h19
    by_cases h20 : x.op = 20
    · have h20' : (x.op == 20) = true := by simpa using h20
      rw [if_pos h20] at HFE
      clear h20
      have htv := hF1.tempsV
      obtain ⟨tb, rfl, ht2, ht3, ht4⟩ := hF1.temps
      go_upto_region 11 with (fail)
      have hMd := hM1.later (Below.refl _ V).drew
      have hFd := hF1.later (Below.refl _ V).drew
      have hS0 : V.drew.cell? ⟨fb, 9, none⟩ = some (.slice (some ⟨tb, 0, none⟩) f.temps.length f.temps.length) ∧ V.drew.cell? ⟨w.heap.size, 1, none⟩ = some (.int .i64 x.a) ∧ V.drew.cell? ⟨w.heap.size, 2, none⟩ = some (.int .i64 x.b) := ⟨hFd.c.2.2.2, x1, x2⟩
      have tokA : True := trivial
      go_region_held3 (fun w' => w'.cell? ⟨fb, 9, none⟩ = some (.slice (some ⟨tb, 0, none⟩) f.temps.length f.temps.length) ∧ w'.cell? ⟨w.heap.size, 1, none⟩ = some (.int .i64 x.a) ∧ w'.cell? ⟨w.heap.size, 2, none⟩ = some (.int .i64 x.b))
        (first | with_reducible exact hS0 | with_reducible exact hS1 | with_reducible exact hS2 | with_reducible exact hS3)
        (first
          | (have _t := tokA; go_at_call 100; refine (entry_any f.temps _ x.a _ (htv.later goodV (Below.refl _ V).drew)).mono ?_; rintro e w3 ⟨rfl, hb3⟩; have hS1 := three_l hS0 hb3; have hF3 := hFd.later hb3; have hM3 := hMd.later hb3; clear tokA; have tokB : True := trivial)
          | (have _t := tokB; go_at_call 102; refine (pop_any hF3).mono ?_; rintro e w4 ⟨rfl, ⟨sv4, hF4⟩, hK4⟩; have hM4 := hM3.keep (.refl _ _) hK4 (by omega) (by omega) (by omega); have hS2 : w4.cell? ⟨fb, 9, none⟩ = some (.slice (some ⟨tb, 0, none⟩) f.temps.length f.temps.length) ∧ w4.cell? ⟨w.heap.size, 1, none⟩ = some (.int .i64 x.a) ∧ w4.cell? ⟨w.heap.size, 2, none⟩ = some (.int .i64 x.b) := ⟨hF4.c.2.2.2, hK4.cell hS1.2.1 (by rw [hz4]; omega), hK4.cell hS1.2.2 (by rw [hz4]; omega)⟩; clear tokB; have tokC : True := trivial)
          | (have _t := tokC; go_at_call 113; refine (setSlot_any hM4 (entryE f.temps x.a) x.b f.top).mono ?_; rintro e w5 ⟨rfl, ⟨T5, hX5, hM5⟩, hK5⟩; have hF5 := hF4.keep hX5 hK5 (by omega) (by omega) (by omega) (by omega); have hS3 : w5.cell? ⟨fb, 9, none⟩ = some (.slice (some ⟨tb, 0, none⟩) f.temps.length f.temps.length) ∧ w5.cell? ⟨w.heap.size, 1, none⟩ = some (.int .i64 x.a) ∧ w5.cell? ⟨w.heap.size, 2, none⟩ = some (.int .i64 x.b) := ⟨hF5.c.2.2.2, hK5.cell hS2.2.1 (by rw [hz4]; omega), hK5.cell hS2.2.2 (by rw [hz4]; omega)⟩; clear tokC))
      have hb3' := nstep (Below.refl _ V).drew hb3
      have HX5 : Hid (Ext T1 T5 w3) := fun b hb => hX5 b (Nat.lt_of_lt_of_le hb hK4.size)
      have Q : Hid (StPost p L T w mb (20 - (d : Int)) K fb ({ m with heap := setSlotE m.heap (entryE f.temps x.a) x.b f.top }, f.pop, 0) (.returned (.int .i64 0)) w5) := stPost_le hC ⟨rfl, Int.le_refl _⟩ hX (HKV.out.on hb3') (hC.keep hL1 (.refl _ _) (Kp.of_below (S := fun _ => False) hb3') id id) rfl HX5.out ⟨_, _, _, hM5⟩ (fun _ => ⟨_, _, _, _, _, hF5⟩) (S := fun t => t = K ∨ t = 2) ((hK4.mono fun t h => Or.inl h).trans (.refl _ _) (hK5.mono fun t h => Or.inr h)) (fun t h => by unfold All; omega) (by omega) (by omega)
      clear hM1 hF1 hL1 hR1 hMd hFd hF4 hF5 hF3 hM3 hM4 hM5 hS0 hS1 hS2 hS3 m1 x0 x1 x2 x3 x4 c13 htv ht2 hK5 hK4 hX5
      go_wp2
      go_ret
      rw [HFE.out]
      exact Q.out
    have h20' : (x.op == 20) = false := by simpa using h20
    rw [if_neg h20] at HFE
    clear h20
    by_cases h21 : x.op = 21
    · have h21' : (x.op == 21) = true := by simpa using h21
      rw [if_pos h21] at HFE
      clear h21
      have hcc := countCall_any d hM1 hI.sends.1 (by have := hC.fuel; omega) rfl hd
      have hcs : (countE p.E d m).1.st = m.st ∧ m.sends ≤ (countE p.E d m).1.sends := by
        unfold countE
        split
        · exact ⟨rfl, by simp⟩
        · split
          · exact ⟨rfl, by simp⟩
          · exact ⟨rfl, by simp; omega⟩
      generalize countE p.E d m = r at *
      go_wp2_with fail
      refine hcc.mono ?_
      rintro e w3 ⟨rfl, hM3, hK3⟩
      have Q : Hid (StPost p L T w mb (20 - (d : Int)) K fb (r.1, f, r.2) (.returned (.int .i64 r.2)) w3) := stPost_le hC hcs hX HKV.out hL1 rfl (.refl _ _) ⟨_, _, _, hM3⟩ (fun _ => ⟨_, _, _, _, _, hF1.keep (.refl _ _) hK3 (by omega) (by omega) (by omega) (by omega)⟩) hK3 (fun t h => by unfold All; omega) (by omega) (by omega)
      clear hM1 hF1 hL1 hR1 m1 x0 x1 x2 x3 x4 c13 hM3 hK3 hcc
      go_wp2
      go_ret
      rw [HFE.out]
      exact Q.out
    · have h21' : (x.op == 21) = false := by simpa using h21
      rw [if_neg h21] at HFE
      clear h21
      have Q : Hid (StPost p L T w mb (20 - (d : Int)) K fb (m, f, 1) (.returned (.int .i64 1)) V) := stPost_le hC ⟨rfl, Int.le_refl _⟩ hX HKV.out hL1 rfl (.refl _ _) ⟨_, _, _, hM1⟩ (fun h => by cases h) (Kp.refl (fun _ => False) _ _) (fun _ h => h.elim) id id
      clear hM1 hF1 hL1 hR1
      go_wp2
      go_ret
      rw [HFE.out]
      exact Q.out
end
end Go.Proofs.Ytdfbgpiikeheiaa

/- A step. -/
namespace Go.Proofs.Ytdfbgpiikeheiaa
open Go.ChangeShapes Go.WideShapes Go.ChangeAt Go.RowKit
set_option linter.unusedSimpArgs false
set_option linter.unusedVariables false
set_option maxRecDepth 8000

section
variable {σ : Type} {p : Mp σ} {L : (Nat → Nat) → World → σ → Nat → Prop} {LF QF : Nat} {lc qc : Array Value} {T T' : Nat → Nat} {w w' : World} {mb : Nat} {m m' : Mc σ} {hv : Value} {g : Nat} {s : Nat → Nat} {K fb : Nat} {f : Fr} {cv av tv sv kv : Value}
theorem jump_st (m : Mc σ) (f : Fr) (a b : Int) : (jumpE m f a b).1.st = m.st := by
  unfold jumpE
  by_cases h : b ≤ a
  · simp only [h, if_true]; split <;> rfl
  · simp only [h, if_false]; split <;> rfl
theorem else_st (m : Mc σ) (f : Fr) (a b : Int) : (elseE m f a b).1.st = m.st := by
  unfold elseE
  split
  · rfl
  · split
    · exact jump_st _ _ _ _
    · rfl
theorem make_st (E : Env σ) (m : Mc σ) (f : Fr) (c : Int) : (makeE E m f c).1.st = m.st := by
  unfold makeE; split <;> rfl
theorem stPost_of (hC : Cx p L LF lc QF qc) {T1 : Nat → Nat} {V : World} {calls : Int} {r : Mc σ × Fr × Int} {S : Nat → Prop} {e : Ending} (hr : r.1.st = m.st ∧ r.1.sends = m.sends) (hE : Ext T T1 w) (hK : Kp (All K) T w V) (hL : L T1 V m.st (leftE p.E m)) (he : e = .returned (.int .i64 r.2.2)) {T2 : Nat → Nat} (hE2 : Ext T1 T2 V) (hM : ∃ hv g s, MacAt p T2 w' mb r.1 calls hv g s) (hF : r.2.2 = 0 → ∃ cv av tv sv kv, FrAt T2 K w' fb r.2.1 cv av tv sv kv) (k : Kp S T1 V w') (hS : ∀ t, S t → All K t) (h0 : ¬ S 0) (h3 : ¬ S 3) : StPost p L T w mb calls K fb r e w' := stPost_le hC ⟨hr.1, by rw [hr.2]; exact Int.le_refl _⟩ hE hK hL he hE2 hM hF k hS h0 h3
theorem StPost.under {T1 : Nat → Nat} {V : World} {calls : Int} {r : Mc σ × Fr × Int} {e : Ending} (h : StPost p L T1 V mb calls K fb r e w') (hE : Ext T T1 w) (hK : Kp (All K) T w V) : StPost p L T w mb calls K fb r e w' := by
  obtain ⟨h1, ⟨T2, h2, h3⟩, h4⟩ := h
  exact ⟨h1, ⟨T2, hE.trans hK.size h2, h3⟩, hK.trans hE h4⟩
theorem fb_same9 {f' : Fr} (e1 : f'.cls = f.cls) (e2 : f'.meth = f.meth) (e3 : f'.self = f.self) (e4 : f'.pc = f.pc) (e5 : f'.fast = f.fast) (h : w.heap[fb]? = some (FB f cv av tv sv kv)) : w.heap[fb]? = some (FB f' cv av tv sv kv) := by rw [h]; unfold FB; rw [e1, e2, e3, e4, e5]
/-- The temporaries are set. -/
theorem FrAt.setTemp {tb : Nat} {n : Int} {v : QV} (h : FrAt T K w fb f cv av (.slice (some ⟨tb, 0, none⟩) f.temps.length f.temps.length) sv kv) (hT : T tb = K + 1) (hw : w'.heap[tb]? = some (.cells (vcells (setEntryE f.temps n v)).toArray 27 (0, 0))) (k : Kp (fun t => t = K + 1) T w w') : FrAt T K w' fb { f with temps := setEntryE f.temps n v } cv av (.slice (some ⟨tb, 0, none⟩) f.temps.length f.temps.length) sv kv := by
  have hp := h.pos
  obtain ⟨tb', e, d2, d3, d4⟩ := h.temps
  refine ⟨fb_same9 rfl rfl rfl rfl rfl (k.held h.box (by rw [h.tag]; omega)), h.tag, h.args.fx goodV (.refl _ _) k (by omega), ⟨tb, by show _ = Value.slice _ (setEntryE f.temps n v).length (setEntryE f.temps n v).length; rw [setEntry_len], hw, hT, by show (setEntryE f.temps n v).length ≤ 40; rw [setEntry_len]; exact d4⟩, h.stack.keep fun g hg => k.blk g (h.stack.lt g hg).2 (by rw [h.stag g hg]; omega), h.stag, h.few, h.code.fx goodI (.refl _ _) k (by omega), h.meth.fx goodI (.refl _ _) k (by omega), hp⟩

/-- What a step does that pushes nothing by itself. -/
def noneE (ent : Ent σ) (E : Env σ) (d : Nat) (m : Mc σ) (f : Fr) (a : Int) (x : QI) : Mc σ × Fr × Int :=
    if x.op = 9 then (m, f.pop, 0)
    else if x.op = 10 then (m, f.push f.top, 0)
    else if x.op = 11 then (m, { f.pop with temps := setEntryE f.temps x.a f.top }, 0)
    else if x.op = 12 then ({ m with heap := setSlotE m.heap f.self x.a f.top }, f.pop, 0)
    else if x.op = 13 then makeE E m f x.a
    else if x.op = 14 then sendE ent E m f a x
    else if x.op = 15 then jumpE m f a x.a
    else if x.op = 16 then elseE m f a x.a
    else fastE E d m f x
set_option maxHeartbeats 8000000 in
theorem step_any (hC : Cx p L LF lc QF qc) {d : Nat} (hEn : EnterOk p L d) (h : MacAt p T w mb m (20 - (d : Int)) hv g s) (hF : FrAt T K w fb f cv av tv sv kv) (hL : L T w m.st (leftE p.E m)) (hI : MIn p.E m) (hFo : FOk p.E.classes m.heap.length f) (hst : f.stack.length ≤ 1000000) (hd : d ≤ 20) (a : Int) (x : QI) (hxb : f.fast = true → x.op = 18 → 0 ≤ x.b ∧ x.b ≤ 1000) :
    Calls Try.prog 103 #[.pointer (some ⟨mb, 0, none⟩), .pointer (some ⟨fb, 0, none⟩), .int .i64 a, IV x] w fun e w' => StPost p L T w mb (20 - (d : Int)) K fb (mstepE (entE p.E d) p.E d m f a x) e w' := by
  have hp := hF.pos
  have hX := tagged_ext T w 4
  have hT4 : ∀ b, w.heap.size ≤ b → tagged T w 4 b = 4 := fun b hb => tagged_new hb
  have hb1 := bel1 w (.cells #[.int .i64 x.op, .int .i64 x.a, .int .i64 x.b, .int .i64 x.c, .string x.name] 59)
  have hM0 := (h.tagged0 4).later hb1
  have hF0 := (hF.tagged0 4).later hb1
  have hL0 := hC.keep (hC.keep hL hX (Kp.refl (fun _ => False) _ _) id id) (.refl _ _) (Kp.of_below (S := fun _ => False) hb1) id id
  have hR0 := sdR_new w x 59
  have hroom : f.stack.length < 1000000000 := by omega
  clear h hF hL
  generalize tagged T w 4 = T1 at *
  go_enter Try.func103, Try.ntmps103
  go_upto_region 1 with (fail)
  generalize (w.alloc (.cells #[.int .i64 x.op, .int .i64 x.a, .int .i64 x.b, .int .i64 x.c, .string x.name] 59)) = W at *
  obtain ⟨x0, x1, x2, x3, x4⟩ := id hR0
  have hpu := pushed_any hM0 hF0 x
  go_wp2_with fail
  refine hpu.mono ?_
  rintro e w1 ⟨rfl, hbw⟩
  clear hpu x0 x1 x2 x3 x4
  have hbV : ∀ u : QV, Below W.heap.size W (w1.alloc (.cells #[.int .i64 u.k, .int .i64 u.n] 27)) := fun u => nstep hbw (bel1 _ _)
  cases hpu : pushedE m.heap f x with
  | some u =>
    have HM : Hid (mstepE (entE p.E d) p.E d m f a x = (m, f.push u, 0)) := by show _ = _; unfold mstepE; rw [hpu]
    clear hpu
    have HB := hid (hbV u)
    have HF0 := hid hF0
    have HM0 := hid hM0
    have HL0 := hid hL0
    have HB1 := hid hb1
    have hF1 := hF0.later (hbV u)
    clear hF0 hM0 hL0 hR0 hb1 hbV
    go_wp2_with fail
    refine (push_any hF1 u hroom).mono ?_
    rintro e w2 ⟨rfl, ⟨T2, sv2, hX2, hF2⟩, hK2⟩
    have Q : Hid (StPost p L T w mb (20 - (d : Int)) K fb (m, f.push u, 0) (.returned (.int .i64 0)) w2) := stPost_of hC ⟨rfl, rfl⟩ hX (Kp.of_below (nstep HB1.out HB.out)) (hC.keep HL0.out (.refl _ _) (Kp.of_below (S := fun _ => False) HB.out) id id) rfl hX2 ⟨_, _, _, (HM0.out.later HB.out).keep hX2 hK2 (by omega) (by omega) (by omega)⟩ (fun _ => ⟨_, _, _, _, _, hF2⟩) hK2 (fun t h => by unfold All; omega) (by omega) (by omega)
    clear hF1 hF2 hK2 hX2
    go_wp2
    go_ret
    rw [HM.out]
    exact Q.out
  | none =>
    have HM : Hid (mstepE (entE p.E d) p.E d m f a x = noneE (entE p.E d) p.E d m f a x) := by show _ = _; unfold mstepE noneE; rw [hpu]
    clear hpu
    have hbv := hbV nilV
    have hM1 := hM0.later hbv
    have hF1 := hF0.later hbv
    have hL1 := hC.keep hL0 (.refl _ _) (Kp.of_below (S := fun _ => False) hbv) id id
    have hR1 : SdR w x (w1.alloc (.cells #[.int .i64 0, .int .i64 0] 27)) := hR0.kp (T := T1) (S := fun _ => False) (Kp.of_below hbv) id
    have HKV : Hid (Kp (All K) T w (w1.alloc (.cells #[.int .i64 0, .int .i64 0] 27))) := Kp.of_below (nstep hb1 hbv)
    have hz4 : T1 w.heap.size = 4 := hT4 _ (Nat.le_refl _)
    have hXV : Hid (∀ {T3 : Nat → Nat} {V' w2 : World}, Ext T1 T3 w2 → Kp (fun t => t = K) T1 V' w2 → Ext T1 T3 V') := fun h k b hb => h b (Nat.lt_of_lt_of_le hb k.size)
    clear hM0 hF0 hL0 hR0 hbV hbv
    go_upto_region 5 with (fail)
    generalize (w1.alloc (.cells #[.int .i64 0, .int .i64 0] 27)) = V at *
    obtain ⟨x0, x1, x2, x3, x4⟩ := id hR1
    have hVz : w.heap.size < V.heap.size := World.block_lt_of_cell? V ⟨w.heap.size, 0, none⟩ x0
    clear hbw
    by_cases h9 : x.op = 9
    · have HN : Hid (mstepE (entE p.E d) p.E d m f a x = (m, f.pop, 0)) := by show _ = _; rw [HM.out]; unfold noneE; rw [if_pos h9]
      have h9' : (x.op == 9) = true := by simpa using h9
      clear HM h9
      go_wp2_with fail
      refine (pop_any hF1).mono ?_
      rintro e w2 ⟨rfl, ⟨sv2, hF2⟩, hK2⟩
      have Q : Hid (StPost p L T w mb (20 - (d : Int)) K fb (m, f.pop, 0) (.returned (.int .i64 0)) w2) := stPost_of hC ⟨rfl, rfl⟩ hX HKV.out hL1 rfl (.refl _ _) ⟨_, _, _, hM1.keep (.refl _ _) hK2 (by omega) (by omega) (by omega)⟩ (fun _ => ⟨_, _, _, _, _, hF2⟩) hK2 (fun t h => by unfold All; omega) (by omega) (by omega)
      clear hF1 hF2 hK2 hM1 hL1 hR1 x0 x1 x2 x3 x4
      go_wp2
      go_ret
      rw [HN.out]
      exact Q.out
    have h9' : (x.op == 9) = false := by simpa using h9
    by_cases h10 : x.op = 10
    · have HN : Hid (mstepE (entE p.E d) p.E d m f a x = (m, f.push f.top, 0)) := by show _ = _; rw [HM.out]; unfold noneE; rw [if_neg h9]; rw [if_pos h10]
      have h10' : (x.op == 10) = true := by simpa using h10
      clear HM h9 h10
      go_wp2_with fail
      refine (below_any hF1 0 ⟨by omega, by omega⟩).mono ?_
      rintro e w2 ⟨rfl, hb2⟩
      have HT : Hid (f.top = belowE f.stack 0) := rfl
      rw [← HT.out]
      have hF2 := hF1.later hb2
      clear x0 x1 x2 x3 x4
      go_wp2_with fail
      refine (push_any hF2 f.top hroom).mono ?_
      rintro e w3 ⟨rfl, ⟨T3, sv3, hX3, hF3⟩, hK3⟩
      have Q : Hid (StPost p L T w mb (20 - (d : Int)) K fb (m, f.push f.top, 0) (.returned (.int .i64 0)) w3) := stPost_of hC ⟨rfl, rfl⟩ hX (HKV.out.on hb2) (hC.keep hL1 (.refl _ _) (Kp.of_below (S := fun _ => False) hb2) id id) rfl hX3 ⟨_, _, _, (hM1.later hb2).keep hX3 hK3 (by omega) (by omega) (by omega)⟩ (fun _ => ⟨_, _, _, _, _, hF3⟩) hK3 (fun t h => by unfold All; omega) (by omega) (by omega)
      clear hF1 hF2 hF3 hK3 hX3 hM1 hL1 hR1 hb2
      go_wp2
      go_ret
      rw [HN.out]
      exact Q.out
    have h10' : (x.op == 10) = false := by simpa using h10
    by_cases h11 : x.op = 11
    · have HN : Hid (mstepE (entE p.E d) p.E d m f a x = (m, { f.pop with temps := setEntryE f.temps x.a f.top }, 0)) := by show _ = _; rw [HM.out]; unfold noneE; rw [if_neg h9]; rw [if_neg h10]; rw [if_pos h11]
      have h11' : (x.op == 11) = true := by simpa using h11
      clear HM h9 h10 h11
      obtain ⟨tb, rfl, ht2, ht3, ht4⟩ := hF1.temps
      go_wp2
      have hFd := hF1.later (Below.refl _ V).drew
      have hS0 : V.drew.cell? ⟨fb, 9, none⟩ = some (.slice (some ⟨tb, 0, none⟩) f.temps.length f.temps.length) ∧ V.drew.cell? ⟨w.heap.size, 1, none⟩ = some (.int .i64 x.a) := ⟨hFd.c.2.2.2, x1⟩
      have tokA : True := trivial
      go_region_held3 (fun w' => w'.cell? ⟨fb, 9, none⟩ = some (.slice (some ⟨tb, 0, none⟩) f.temps.length f.temps.length) ∧ w'.cell? ⟨w.heap.size, 1, none⟩ = some (.int .i64 x.a))
        (first | with_reducible exact hS0 | with_reducible exact hS1 | with_reducible exact hS2)
        (first
          | (have _t := tokA; go_at_call 102; refine (pop_any hFd).mono ?_; rintro e w2 ⟨rfl, ⟨sv2, hF2⟩, hK2⟩; have hS1 := And.intro hF2.c.2.2.2 (hK2.cell hS0.2 (by rw [hz4]; omega)); have hT2 : w2.heap[tb]? = some (.cells (vcells f.temps).toArray 27 (0, 0)) := (hK2.held (box_later' ht2 (Below.refl _ V).drew) (by rw [ht3]; omega)); clear tokA; have tokB : True := trivial)
          | (have _t := tokB; go_at_call 112; refine (setEntry_any f.temps tb x.a f.top _ hT2).mono ?_; rintro e w3 ⟨rfl, hw3, hz3, hka⟩; have hk3 := hka (fun t => t = K + 1) T1 ht3; have hS2 := And.intro (hk3.cell hS1.1 (by rw [hF2.tag]; omega)) (hk3.cell hS1.2 (by rw [hz4]; omega)); clear tokB))
      have hF3 := hF2.setTemp ht3 hw3 hk3
      have Q : Hid (StPost p L T w mb (20 - (d : Int)) K fb (m, { f.pop with temps := setEntryE f.temps x.a f.top }, 0) (.returned (.int .i64 0)) w3) := stPost_of hC ⟨rfl, rfl⟩ hX HKV.out.drew (hC.keep hL1 (.refl _ _) (Kp.refl (fun _ => False) _ _).drew id id) rfl (.refl _ _) ⟨_, _, _, ((hM1.later (Below.refl _ V).drew).keep (.refl _ _) hK2 (by omega) (by omega) (by omega)).keep (.refl _ _) hk3 (by omega) (by omega) (by omega)⟩ (fun _ => ⟨_, _, _, _, _, hF3⟩) (S := fun t => t = K ∨ t = K + 1) ((hK2.mono fun t h => Or.inl h).trans (.refl _ _) (hk3.mono fun t h => Or.inr h)) (fun t h => by unfold All; omega) (by omega) (by omega)
      clear hF1 hF2 hF3 hFd hK2 hk3 hM1 hL1 hR1 x0 x1 x2 x3 x4 hw3 hka hT2 ht2 hS0 hS1 hS2
      go_wp2
      go_ret
      rw [HN.out]
      exact Q.out
    have h11' : (x.op == 11) = false := by simpa using h11
    by_cases h12 : x.op = 12
    · have HN : Hid (mstepE (entE p.E d) p.E d m f a x = ({ m with heap := setSlotE m.heap f.self x.a f.top }, f.pop, 0)) := by show _ = _; rw [HM.out]; unfold noneE; rw [if_neg h9]; rw [if_neg h10]; rw [if_neg h11]; rw [if_pos h12]
      have h12' : (x.op == 12) = true := by simpa using h12
      clear HM h9 h10 h11 h12
      go_wp2
      have hFd := hF1.later (Below.refl _ V).drew
      have hMd := hM1.later (Below.refl _ V).drew
      have hS0 : V.drew.cell? ⟨fb, 6, none⟩ = some (.int .i64 f.self.k) ∧ V.drew.cell? ⟨fb, 7, none⟩ = some (.int .i64 f.self.n) ∧ V.drew.cell? ⟨w.heap.size, 1, none⟩ = some (.int .i64 x.a) := ⟨hFd.c.1, hFd.c.2.1, x1⟩
      have tokA : True := trivial
      go_region_held3 (fun w' => w'.cell? ⟨fb, 6, none⟩ = some (.int .i64 f.self.k) ∧ w'.cell? ⟨fb, 7, none⟩ = some (.int .i64 f.self.n) ∧ w'.cell? ⟨w.heap.size, 1, none⟩ = some (.int .i64 x.a))
        (first | with_reducible exact hS0 | with_reducible exact hS1 | with_reducible exact hS2)
        (first
          | (have _t := tokA; go_at_call 102; refine (pop_any hFd).mono ?_; rintro e w2 ⟨rfl, ⟨sv2, hF2⟩, hK2⟩; have hS1 : w2.cell? ⟨fb, 6, none⟩ = some (.int .i64 f.self.k) ∧ w2.cell? ⟨fb, 7, none⟩ = some (.int .i64 f.self.n) ∧ w2.cell? ⟨w.heap.size, 1, none⟩ = some (.int .i64 x.a) := ⟨hF2.c.1, hF2.c.2.1, hK2.cell hS0.2.2 (by rw [hz4]; omega)⟩; have hM2 := hMd.keep (.refl _ _) hK2 (by omega) (by omega) (by omega); clear tokA; have tokB : True := trivial)
          | (have _t := tokB; go_at_call 113; refine (setSlot_any hM2 f.self x.a f.top).mono ?_; rintro e w3 ⟨rfl, ⟨T3, hX3, hM3⟩, hK3⟩; have hF3 := hF2.keep hX3 hK3 (by omega) (by omega) (by omega) (by omega); have hS2 : w3.cell? ⟨fb, 6, none⟩ = some (.int .i64 f.self.k) ∧ w3.cell? ⟨fb, 7, none⟩ = some (.int .i64 f.self.n) ∧ w3.cell? ⟨w.heap.size, 1, none⟩ = some (.int .i64 x.a) := ⟨hF3.c.1, hF3.c.2.1, hK3.cell hS1.2.2 (by rw [hz4]; omega)⟩; clear tokB))
      have Q : Hid (StPost p L T w mb (20 - (d : Int)) K fb ({ m with heap := setSlotE m.heap f.self x.a f.top }, f.pop, 0) (.returned (.int .i64 0)) w3) := stPost_of hC ⟨rfl, rfl⟩ hX HKV.out.drew (hC.keep hL1 (.refl _ _) (Kp.refl (fun _ => False) _ _).drew id id) rfl (hXV.out hX3 hK2) ⟨_, _, _, hM3⟩ (fun _ => ⟨_, _, _, _, _, hF3⟩) (S := fun t => t = K ∨ t = 2) ((hK2.mono fun t h => Or.inl h).trans (.refl _ _) (hK3.mono fun t h => Or.inr h)) (fun t h => by unfold All; omega) (by omega) (by omega)
      clear hF1 hF2 hF3 hFd hMd hM2 hM3 hK2 hK3 hX3 hM1 hL1 hR1 x0 x1 x2 x3 x4 hS0 hS1 hS2
      go_wp2
      go_ret
      rw [HN.out]
      exact Q.out
    have h12' : (x.op == 12) = false := by simpa using h12
    by_cases h13 : x.op = 13
    · have HN : Hid (mstepE (entE p.E d) p.E d m f a x = makeE p.E m f x.a) := by show _ = _; rw [HM.out]; unfold noneE; rw [if_neg h9]; rw [if_neg h10]; rw [if_neg h11]; rw [if_neg h12]; rw [if_pos h13]
      have h13' : (x.op == 13) = true := by simpa using h13
      clear HM h9 h10 h11 h12 h13
      have hmk := makeObject_any hM1 hF1 x.a (hC.ok.slots x.a) hroom
      have hsd : (makeE p.E m f x.a).1.st = m.st ∧ (makeE p.E m f x.a).1.sends = m.sends := ⟨make_st _ _ _ _, make_sends _ _ _ _⟩
      generalize makeE p.E m f x.a = r at *
      go_wp2_with fail
      refine hmk.mono ?_
      rintro e w2 ⟨rfl, ⟨T2, hX2, hM2, hF2⟩, hK2⟩
      have Q : Hid (StPost p L T w mb (20 - (d : Int)) K fb r (.returned (.int .i64 r.2.2)) w2) := stPost_of hC hsd hX HKV.out hL1 rfl hX2 hM2 (fun h => (hF2 h).elim fun sv' h' => ⟨_, _, _, sv', _, h'⟩) hK2 (fun t h => by unfold All; omega) (by omega) (by omega)
      clear hF1 hF2 hK2 hX2 hM1 hM2 hL1 hR1 x0 x1 x2 x3 x4 hmk hsd
      go_wp2
      go_ret
      rw [HN.out]
      exact Q.out
    have h13' : (x.op == 13) = false := by simpa using h13
    by_cases h14 : x.op = 14
    · have HN : Hid (mstepE (entE p.E d) p.E d m f a x = sendE (entE p.E d) p.E m f a x) := by show _ = _; rw [HM.out]; unfold noneE; rw [if_neg h9]; rw [if_neg h10]; rw [if_neg h11]; rw [if_neg h12]; rw [if_neg h13]; rw [if_pos h14]
      have h14' : (x.op == 14) = true := by simpa using h14
      clear HM h9 h10 h11 h12 h13 h14
      have hsn := send_any hC hEn hM1 hF1 hL1 hI hFo hst a x
      generalize sendE (entE p.E d) p.E m f a x = r at *
      go_wp2_with fail
      refine hsn.mono ?_
      rintro e w2 ⟨rfl, ⟨T2, hX2, hM2, hL2, hF2⟩, hK2⟩
      have Q : Hid (StPost p L T w mb (20 - (d : Int)) K fb r (.returned (.int .i64 r.2.2)) w2) := ⟨rfl, ⟨T2, hX.trans HKV.out.size hX2, hM2, hL2, hF2⟩, HKV.out.trans hX hK2⟩
      clear hF1 hF2 hK2 hX2 hM1 hM2 hL1 hL2 hR1 x0 x1 x2 x3 x4 hsn
      go_wp2
      go_ret
      rw [HN.out]
      exact Q.out
    have h14' : (x.op == 14) = false := by simpa using h14
    by_cases h15 : x.op = 15
    · have HN : Hid (mstepE (entE p.E d) p.E d m f a x = jumpE m f a x.a) := by show _ = _; rw [HM.out]; unfold noneE; rw [if_neg h9]; rw [if_neg h10]; rw [if_neg h11]; rw [if_neg h12]; rw [if_neg h13]; rw [if_neg h14]; rw [if_pos h15]
      have h15' : (x.op == 15) = true := by simpa using h15
      clear HM h9 h10 h11 h12 h13 h14 h15
      have hjm := jump_any hM1 hF1 a x.a hI.turns
      have hsd : (jumpE m f a x.a).1.st = m.st ∧ (jumpE m f a x.a).1.sends = m.sends := ⟨jump_st _ _ _ _, jump_sends _ _ _ _⟩
      generalize jumpE m f a x.a = r at *
      go_wp2_with fail
      refine hjm.mono ?_
      rintro e w2 ⟨rfl, hM2, hF2, hK2⟩
      have Q : Hid (StPost p L T w mb (20 - (d : Int)) K fb r (.returned (.int .i64 r.2.2)) w2) := stPost_of hC hsd hX HKV.out hL1 rfl (.refl _ _) ⟨_, _, _, hM2⟩ (fun _ => ⟨_, _, _, _, _, hF2⟩) hK2 (fun t h => by unfold All; omega) (by omega) (by omega)
      clear hF1 hF2 hK2 hM1 hM2 hL1 hR1 x0 x1 x2 x3 x4 hjm hsd
      go_wp2
      go_ret
      rw [HN.out]
      exact Q.out
    have h15' : (x.op == 15) = false := by simpa using h15
    by_cases h16 : x.op = 16
    · have HN : Hid (mstepE (entE p.E d) p.E d m f a x = elseE m f a x.a) := by show _ = _; rw [HM.out]; unfold noneE; rw [if_neg h9]; rw [if_neg h10]; rw [if_neg h11]; rw [if_neg h12]; rw [if_neg h13]; rw [if_neg h14]; rw [if_neg h15]; rw [if_pos h16]
      have h16' : (x.op == 16) = true := by simpa using h16
      clear HM h9 h10 h11 h12 h13 h14 h15 h16
      have hjm := orElse_any hM1 hF1 a x.a hI.turns
      have hsd : (elseE m f a x.a).1.st = m.st ∧ (elseE m f a x.a).1.sends = m.sends := ⟨else_st _ _ _ _, else_sends _ _ _ _⟩
      generalize elseE m f a x.a = r at *
      go_wp2_with fail
      refine hjm.mono ?_
      rintro e w2 ⟨rfl, hM2, hF2, hK2⟩
      have Q : Hid (StPost p L T w mb (20 - (d : Int)) K fb r (.returned (.int .i64 r.2.2)) w2) := stPost_of hC hsd hX HKV.out hL1 rfl (.refl _ _) ⟨_, _, _, hM2⟩ (fun h => (hF2 h).elim fun sv' h' => ⟨_, _, _, sv', _, h'⟩) hK2 (fun t h => by unfold All; omega) (by omega) (by omega)
      clear hF1 hF2 hK2 hM1 hM2 hL1 hR1 x0 x1 x2 x3 x4 hjm hsd
      go_wp2
      go_ret
      rw [HN.out]
      exact Q.out
    have h16' : (x.op == 16) = false := by simpa using h16
    have HN : Hid (mstepE (entE p.E d) p.E d m f a x = fastE p.E d m f x) := by show _ = _; rw [HM.out]; unfold noneE; rw [if_neg h9]; rw [if_neg h10]; rw [if_neg h11]; rw [if_neg h12]; rw [if_neg h13]; rw [if_neg h14]; rw [if_neg h15]; rw [if_neg h16]
    clear HM h9 h10 h11 h12 h13 h14 h15 h16
    have hfs := fastStep_any hC hd hM1 hF1 hL1 hI hst x hxb
    clear hxb
    generalize fastE p.E d m f x = r at *
    go_wp2_with fail
    refine hfs.mono ?_
    rintro e w2 hP
    have Q := hid (hP.under hX HKV.out)
    obtain ⟨rfl, -⟩ := hP
    clear hF1 hM1 hL1 hR1 x0 x1 x2 x3 x4 hfs
    go_wp2
    go_ret
    rw [HN.out]
    exact Q.out
end
end Go.Proofs.Ytdfbgpiikeheiaa

/- A stack grows by one at a step, at the most. -/
namespace Go.Proofs.Ytdfbgpiikeheiaa
open Go.ChangeShapes Go.WideShapes Go.ChangeAt Go.RowKit
set_option linter.unusedSimpArgs false
set_option linter.unusedVariables false

section
variable {σ : Type}
theorem jump_stack (m : Mc σ) (f : Fr) (a b : Int) : (jumpE m f a b).2.1.stack = f.stack := by
  unfold jumpE
  simp only
  split <;> split <;> rfl
theorem step_stack (ent : Ent σ) (E : Env σ) (d : Nat) (m : Mc σ) (f : Fr) (a : Int) (x : QI) : (mstepE ent E d m f a x).2.1.stack.length ≤ f.stack.length + 1 := by
  unfold mstepE
  split
  · simp [Fr.push]
  · split
    · simp [Fr.pop]; omega
    · split
      · simp [Fr.push]
      · split
        · simp [Fr.pop]; omega
        · split
          · simp [Fr.pop]; omega
          · split
            · unfold makeE; split
              · simp
              · simp [Fr.push]
            · split
              · unfold sendE
                simp only
                split
                · simp
                · simp; omega
              · split
                · rw [jump_stack]; omega
                · split
                  · unfold elseE
                    split
                    · simp [Fr.pop]; omega
                    · split
                      · rw [jump_stack]; simp [Fr.pop]; omega
                      · simp
                  · unfold fastE
                    split
                    · simp
                    · split
                      · simp only
                        split
                        · simp
                        · simp [Fr.leave]
                      · split
                        · simp [Fr.push]
                        · split
                          · simp [Fr.pop]; omega
                          · split <;> simp
/-- What is on the stack, and what may come: it never grows. -/
theorem step_room {ent : Ent σ} (ht : EntTurns ent) {E : Env σ} {d : Nat} {m : Mc σ} {f : Fr} (hm : 0 ≤ m.turns) (h0 : 0 ≤ f.pc) (hl : f.pc.toNat < f.code.length) {x : QI} (he : (mstepE ent E d m { f with pc := f.pc + 1 } f.pc x).2.2 = 0) {R : Nat} (hR : f.stack.length + muE m f ≤ R) : (mstepE ent E d m { f with pc := f.pc + 1 } f.pc x).2.1.stack.length + muE (mstepE ent E d m { f with pc := f.pc + 1 } f.pc x).1 (mstepE ent E d m { f with pc := f.pc + 1 } f.pc x).2.1 ≤ R := by
  have h1 := step_stack ent E d m { f with pc := f.pc + 1 } f.pc x
  have h2 := mu_step ht (E := E) (d := d) hm h0 hl (x := x) he
  have e : ({ f with pc := f.pc + 1 } : Fr).stack = f.stack := rfl
  rw [e] at h1
  omega
def EntT (ent : Ent σ) : Prop := ∀ m c n s a, m.turns ≤ 300 → (ent m c n s a).2.2 = 0 → (ent m c n s a).1.turns ≤ 300
theorem jump_t {m : Mc σ} {f : Fr} {a b : Int} (h0 : (jumpE m f a b).2.2 = 0) : (jumpE m f a b).1.turns ≤ 300 := by
  unfold jumpE at h0 ⊢
  by_cases h : b ≤ a
  · simp only [h, if_true] at h0 ⊢
    split
    · rename_i k; rw [if_pos k] at h0; cases h0
    · rename_i k; simp only at k ⊢; omega
  · simp only [h, if_false] at h0 ⊢
    split
    · rename_i k; rw [if_pos k] at h0; cases h0
    · rename_i k; simp only at k ⊢; omega
theorem else_t {m : Mc σ} (hm : m.turns ≤ 300) {f : Fr} {a b : Int} (h0 : (elseE m f a b).2.2 = 0) : (elseE m f a b).1.turns ≤ 300 := by
  unfold elseE at h0 ⊢
  split
  · exact hm
  · rename_i k
    rw [if_neg k] at h0
    split
    · rename_i k2; rw [if_pos k2] at h0; exact jump_t h0
    · exact hm
theorem make_t (E : Env σ) (m : Mc σ) (f : Fr) (c : Int) : (makeE E m f c).1.turns = m.turns := by unfold makeE; split <;> rfl
theorem step_t {E : Env σ} {ent : Ent σ} (he : EntT ent) (d : Nat) {m : Mc σ} (h : m.turns ≤ 300) {f : Fr} {a : Int} {x : QI} (h0 : (mstepE ent E d m f a x).2.2 = 0) : (mstepE ent E d m f a x).1.turns ≤ 300 := by
  cases hpu : pushedE m.heap f x with
  | some u => unfold mstepE; rw [hpu]; exact h
  | none =>
    unfold mstepE at h0 ⊢
    rw [hpu] at h0 ⊢
    simp only at h0 ⊢
    by_cases h9 : x.op = 9
    · rw [if_pos h9]; exact h
    rw [if_neg h9] at h0 ⊢
    by_cases h10 : x.op = 10
    · rw [if_pos h10]; exact h
    rw [if_neg h10] at h0 ⊢
    by_cases h11 : x.op = 11
    · rw [if_pos h11]; exact h
    rw [if_neg h11] at h0 ⊢
    by_cases h12 : x.op = 12
    · rw [if_pos h12]; exact h
    rw [if_neg h12] at h0 ⊢
    by_cases h13 : x.op = 13
    · rw [if_pos h13, make_t]; exact h
    rw [if_neg h13] at h0 ⊢
    by_cases h14 : x.op = 14
    · rw [if_pos h14] at h0 ⊢
      unfold sendE at h0 ⊢
      simp only at h0 ⊢
      split
      · rename_i k; rw [if_pos k] at h0; exact absurd h0 k
      · rename_i k; exact he _ _ _ _ _ h (Decidable.of_not_not k)
    rw [if_neg h14] at h0 ⊢
    by_cases h15 : x.op = 15
    · rw [if_pos h15] at h0 ⊢; exact jump_t h0
    rw [if_neg h15] at h0 ⊢
    by_cases h16 : x.op = 16
    · rw [if_pos h16] at h0 ⊢; exact else_t h h0
    rw [if_neg h16] at h0 ⊢
    unfold fastE
    split
    · exact h
    · split
      · exact h
      · split
        · exact h
        · split
          · exact h
          · split
            · show (countE E d m).1.turns ≤ 300
              unfold countE
              split
              · exact h
              · split <;> exact h
            · exact h
theorem fin_t {E : Env σ} {ent : Ent σ} (he : EntT ent) (d : Nat) : ∀ (g : Nat) (m : Mc σ) (f : Fr), m.turns ≤ 300 → (finE ent E d g m f).2.2 = 0 → (finE ent E d g m f).1.turns ≤ 300
  | 0, m, f, h, h0 => by cases h0
  | g + 1, m, f, h, h0 => by
    unfold finE at h0 ⊢
    generalize (if f.pc < 0 then none else f.code[f.pc.toNat]?) = q at h0 ⊢
    cases q with
    | none => cases h0
    | some x =>
      simp only at h0 ⊢
      by_cases h17 : x.op = 17
      · rw [if_pos h17]; exact h
      · rw [if_neg h17] at h0 ⊢
        by_cases he0 : (mstepE ent E d m { f with pc := f.pc + 1 } f.pc x).2.2 = 0
        · rw [if_neg (by simpa using he0)] at h0 ⊢
          exact fin_t he d g _ _ (step_t he d h he0) h0
        · rw [if_pos he0] at h0
          exact absurd h0 he0
theorem enter_t {E : Env σ} (d : Nat) {body : Mc σ → Fr → Mc σ × QV × Int} (hb : ∀ m f, m.turns ≤ 300 → (body m f).2.2 = 0 → (body m f).1.turns ≤ 300) : EntT (enterE E d body) := fun m c n s a h h0 => by
  unfold enterE at h0 ⊢
  generalize methAt E.classes c n = q at h0 ⊢
  cases q with
  | none => cases h0
  | some mt =>
    simp only at h0 ⊢
    split at h0
    · cases h0
    · rename_i h1
      rw [if_neg h1]
      split at h0
      · rename_i h2
        rw [if_pos h2]
        split
        · exact h
        · exact h
      · rename_i h2
        rw [if_neg h2]
        have hc : (countE E d m).1.turns = m.turns := by
          unfold countE
          split
          · rfl
          · split <;> rfl
        split at h0
        · rename_i h3; exact absurd h0 h3
        · rename_i h3
          rw [if_neg h3]
          exact hb _ _ (by rw [hc]; exact h) h0
theorem ent_t (E : Env σ) : ∀ d, EntT (entE E d)
  | 0 => enter_t 0 fun m f h h0 => by cases h0
  | d + 1 => enter_t (d + 1) fun m f h h0 => fin_t (ent_t E d) d _ m f h h0
/-- Fast code whose guards look no deeper than may be. -/
def GdOk (f : Fr) : Prop := f.fast = true → ∀ x ∈ f.code, x.op = 18 → 0 ≤ x.b ∧ x.b ≤ 1000
theorem step_gd {ent : Ent σ} {E : Env σ} {d : Nat} {m : Mc σ} {f : Fr} (h : GdOk f) (a : Int) (x : QI) : GdOk (mstepE ent E d m f a x).2.1 := by
  have jmp : ∀ g : Fr, GdOk g → ∀ b, GdOk (jumpE m g a b).2.1 := fun g hg b => by
    unfold jumpE
    simp only
    split <;> split <;> exact hg
  unfold mstepE
  split
  · exact h
  · split
    · exact h
    · split
      · exact h
      · split
        · exact h
        · split
          · exact h
          · split
            · unfold makeE; split <;> exact h
            · split
              · unfold sendE
                simp only
                split <;> exact h
              · split
                · exact jmp f h _
                · split
                  · unfold elseE
                    split
                    · exact h
                    · split
                      · exact jmp f.pop h _
                      · exact h
                  · unfold fastE
                    split
                    · exact h
                    · split
                      · simp only
                        split
                        · exact h
                        · exact fun h => by cases h
                      · split
                        · exact h
                        · split
                          · exact h
                          · split <;> exact h
end
end Go.Proofs.Ytdfbgpiikeheiaa

/- A frame, to its end. -/
namespace Go.Proofs.Ytdfbgpiikeheiaa
open Go.ChangeShapes Go.WideShapes Go.ChangeAt Go.RowKit
set_option linter.unusedSimpArgs false
set_option linter.unusedVariables false
set_option maxRecDepth 8000

section
variable {σ : Type}
variable {p : Mp σ} {L : (Nat → Nat) → World → σ → Nat → Prop} {LF QF : Nat} {lc qc : Array Value} {T T' : Nat → Nat} {w w' : World} {mb : Nat} {m m' : Mc σ} {hv : Value} {g : Nat} {s : Nat → Nat} {K fb : Nat} {f : Fr} {cv av tv sv kv : Value}
/-- What finish's rounds hold: so many more steps at the most. -/
structure FnR (p : Mp σ) (L : (Nat → Nat) → World → σ → Nat → Prop) (d : Nat) (T : Nat → Nat) (w : World) (mb K fb : Nat) (R : Mc σ × QV × Int) (gk : Nat) (T1 : Nat → Nat) (m : Mc σ) (f : Fr) (wr : World) : Prop where
  ext : Ext T T1 w
  kp : Kp (All K) T w wr
  mac : ∃ hv g s, MacAt p T1 wr mb m (20 - (d : Int)) hv g s
  fr : ∃ cv av tv sv kv, FrAt T1 K wr fb f cv av tv sv kv
  lk : L T1 wr m.st (leftE p.E m)
  min : MIn p.E m
  fo : FOk p.E.classes m.heap.length f
  gd : GdOk f
  room : f.stack.length + muE m f ≤ 1000000
  mu : muE m f ≤ gk
  val : finE (entE p.E d) p.E d gk m f = R
  r0 : wr.cell? ⟨w.heap.size, 0, none⟩ = some (.int .i64 0)
  r1 : wr.cell? ⟨w.heap.size, 1, none⟩ = some (.int .i64 0)
  rf : ∀ o, wr.frozen? ⟨w.heap.size, o, none⟩ = false
  r4 : T1 w.heap.size = 4
  sz : w.heap.size < wr.heap.size
theorem kp_frozen {S : Nat → Prop} {b o : Nat} (k : Kp S T w w') (hb : b < w.heap.size) (hs : ¬ S (T b)) (h : w.frozen? ⟨b, o, none⟩ = false) : w'.frozen? ⟨b, o, none⟩ = false := by
  unfold World.frozen? at h ⊢
  simp only at h ⊢
  rw [k.blk b hb hs]; exact h
theorem FnR.ended (hC : Cx p L LF lc QF qc) {d gk : Nat} {T1 : Nat → Nat} {wr : World} {R : Mc σ × QV × Int} (h : FnR p L d T w mb K fb R gk T1 m f wr) (u0 u1 : Value) : EnPost p L T w mb (20 - (d : Int)) K (m, nilV, 9) (.returned (.tuple #[VV nilV, .int .i64 9])) ((wr.setCell ⟨w.heap.size, 0, none⟩ u0).setCell ⟨w.heap.size, 1, none⟩ u1).drew := by
  obtain ⟨hv, g, s, hM⟩ := h.mac
  have k : Kp (fun t => t = 4) T1 wr ((wr.setCell ⟨w.heap.size, 0, none⟩ u0).setCell ⟨w.heap.size, 1, none⟩ u1).drew := (((Kp.refl (fun t => t = 4) _ _).set (fun _ => h.r4) _ _).set (fun _ => h.r4) _ _).drew
  refine ⟨rfl, ⟨T1, h.ext, ⟨_, _, _, hM.keep (.refl _ _) k (by omega) (by omega) (by omega)⟩, ?_⟩, ((h.kp.set (fun h => absurd h (Nat.lt_irrefl _)) _ _).set (fun h => absurd h (Nat.lt_irrefl _)) _ _).drew⟩
  rw [if_neg (by simp)]
  exact hC.mono (hC.keep h.lk (.refl _ _) k (by omega) (by omega)) (Nat.zero_le _)
set_option maxHeartbeats 4000000 in
theorem finish_any (hC : Cx p L LF lc QF qc) {d : Nat} (hd : d ≤ 20) (hEn : EnterOk p L d) (h : MacAt p T w mb m (20 - (d : Int)) hv g s) (hF : FrAt T K w fb f cv av tv sv kv) (hL : L T w m.st (leftE p.E m)) (hI : MIn p.E m) (hFo : FOk p.E.classes m.heap.length f) (hGd : GdOk f) (hRm : f.stack.length + muE m f ≤ 1000000) :
    Calls Try.prog 84 #[.pointer (some ⟨mb, 0, none⟩), .pointer (some ⟨fb, 0, none⟩)] w fun e w' => EnPost p L T w mb (20 - (d : Int)) K (finE (entE p.E d) p.E d (gasE f) m f) e w' := by
  have hp := hF.pos
  have hb1 := bel1 w (.cells #[.int .i64 0, .int .i64 0] 27)
  have hRel : FnR p L d T w mb K fb (finE (entE p.E d) p.E d (gasE f) m f) (gasE f) (tagged T w 4) m f (w.alloc (.cells #[.int .i64 0, .int .i64 0] 27)) :=
    ⟨tagged_ext T w 4, Kp.of_below hb1, ⟨_, _, _, (h.tagged0 4).later hb1⟩, ⟨_, _, _, _, _, (hF.tagged0 4).later hb1⟩, hC.keep (hC.keep hL (tagged_ext T w 4) (Kp.refl (fun _ => False) _ _) id id) (.refl _ _) (Kp.of_below (S := fun _ => False) hb1) id id, hI, hFo, hGd, hRm, mu_gas hI.turns.1, rfl, cell_new _ _ _ _ rfl 0, cell_new _ _ _ _ rfl 1, row_free (heap_alloc_new w (.cells #[.int .i64 0, .int .i64 0] 27)), tagged_new (Nat.le_refl _), by simp⟩
  clear h hF hL hb1 hFo hGd hRm hI
  generalize finE (entE p.E d) p.E d (gasE f) m f = R at *
  generalize gasE f = G at *
  go_enter Try.func84, Try.ntmps84
  go_wp2
  go_loopg [] G (fun gk wr => ∃ T1 m f, FnR p L d T w mb K fb R gk T1 m f wr)
  case atStart => exact ⟨_, _, _, hRel⟩
  case round =>
    clear hRel
    obtain ⟨T1, m, f, hR⟩ := hrel
    obtain ⟨hv, g, s, hM⟩ := hR.mac
    obtain ⟨cv, av, tv, sv, kv, hFr⟩ := hR.fr
    have hmu := hR.mu
    by_cases hin : f.pc < 0 ∨ f.code.length ≤ f.pc.toNat
    · have HV : Hid (R = (m, nilV, 9)) := by
        show _ = _
        rw [← hR.val]
        cases gk with
        | zero => rfl
        | succ G' =>
          unfold finE
          rcases hin with hn | hn
          · rw [if_pos hn]
          · have : (if f.pc < 0 then none else f.code[f.pc.toNat]?) = none := by
              split
              · rfl
              · exact List.getElem?_eq_none hn
            rw [this]
      have hc12 : wr.cell? ⟨fb, 12, none⟩ = some (.int .i64 f.pc) := by rw [cell_of_row _ _ _ _ _ _ hFr.box]; rfl
      have hc11 : wr.cell? ⟨fb, 11, none⟩ = some kv := by rw [cell_of_row _ _ _ _ _ _ hFr.box]; rfl
      obtain ⟨ac, cc, hkv, hcl, hcc, -, hrow⟩ := hFr.code
      rw [hkv] at hc11
      have q0 := hR.r0
      have q1 := hR.r1
      have qf := hR.rf
      have HR := hid hR
      have HM := hid hM
      clear hR hM hFr hmu hrow hkv
      by_cases hn : f.pc < 0
      · have hn' : decide (0 ≤ f.pc) = false := by simpa using hn
        have hn2 : ¬ 0 ≤ f.pc := by omega
        clear hin hn
        go_wp2
        go_region
        go_wp2
        rw [HV.out]
        refine bodyPost_ret (v := .tuple #[VV nilV, .int .i64 9]) ?_ rfl (HR.out.ended hC _ _)
        simp [results, Try.results84, go_sem, q0, q1]
      · have hn' : decide (0 ≤ f.pc) = true := by simpa using hn
        have hn2 : 0 ≤ f.pc := by omega
        have hge : ¬ f.pc < (f.code.length : Int) := by omega
        have hge' : decide (f.pc < (f.code.length : Int)) = false := by simpa using hge
        clear hin hn
        go_wp2
        go_region
        go_wp2
        rw [HV.out]
        refine bodyPost_ret (v := .tuple #[VV nilV, .int .i64 9]) ?_ rfl (HR.out.ended hC _ _)
        simp [results, Try.results84, go_sem, q0, q1]
    obtain ⟨k, hpc⟩ : ∃ k : Nat, f.pc = (k : Int) := ⟨f.pc.toNat, by omega⟩
    have hkl : k < f.code.length := by rw [hpc] at hin; simp at hin; omega
    obtain ⟨x, hxh⟩ : ∃ x, f.code[k]? = some x := ⟨_, List.getElem?_eq_getElem hkl⟩
    clear hin
    obtain ⟨G', hG⟩ : ∃ G', gk = G' + 1 := ⟨gk - 1, by
      have : 0 < muE m f := by unfold muE; rw [hpc]; simp; omega
      omega⟩
    have HV : Hid (R = if x.op = 17 then (m, f.top, 0) else if (mstepE (entE p.E d) p.E d m { f with pc := f.pc + 1 } f.pc x).2.2 ≠ 0 then ((mstepE (entE p.E d) p.E d m { f with pc := f.pc + 1 } f.pc x).1, nilV, (mstepE (entE p.E d) p.E d m { f with pc := f.pc + 1 } f.pc x).2.2) else finE (entE p.E d) p.E d G' (mstepE (entE p.E d) p.E d m { f with pc := f.pc + 1 } f.pc x).1 (mstepE (entE p.E d) p.E d m { f with pc := f.pc + 1 } f.pc x).2.1) := by
      show _ = _
      rw [← hR.val, hG]
      conv => lhs; unfold finE
      rw [hpc, if_neg (by omega)]
      simp only [Int.toNat_natCast, hxh]
    have hc12 : wr.cell? ⟨fb, 12, none⟩ = some (.int .i64 (k : Int)) := by rw [cell_of_row _ _ _ _ _ _ hFr.box, ← hpc]; rfl
    have hc11 : wr.cell? ⟨fb, 11, none⟩ = some kv := by rw [cell_of_row _ _ _ _ _ _ hFr.box]; rfl
    have hcf := row_free hFr.box
    obtain ⟨ac, cc, hkv, hcl, hcc, -, hrow⟩ := hFr.code
    rw [hkv] at hc11
    unfold maxLen at hcc
    obtain ⟨bc, oc, hac, -, i0, i1, i2, i3, i4, -⟩ := hrow k x hxh
    rw [hac] at hc11
    simp only [Nat.add_zero] at i0
    have hk0 : (0 : Int) ≤ (k : Int) := by omega
    have hk1 : (k : Int) < (f.code.length : Int) := by omega
    have hkw : IntKind.i64.wrap ((k : Int) + 1) = (k : Int) + 1 := wrap_of (by omega) (by omega)
    have hlf : fb < wr.heap.size := blk_lt hFr.box
    have hnf : ¬ fb = wr.heap.size := by omega
    have hnf' : ¬ wr.heap.size = fb := by omega
    have HX := hid hxh
    have HR := hid hR
    have HM := hid hM
    have HF := hid hFr
    have HPC := hid hpc
    have HGK := hid hG
    clear hxh hR hM hFr hpc hmu hrow hkv hac hG
    rw [HPC.out] at HV
    go_wp2
    go_region
    by_cases h17 : x.op = 17
    · have h17' : (x.op == 17) = true := by simpa using h17
      rw [if_pos h17] at HV
      clear h17
      have hbV : Below wr.heap.size wr (wr.alloc (.cells #[.int .i64 x.op, .int .i64 x.a, .int .i64 x.b, .int .i64 x.c, .string x.name] 59)).drew := (bel1 _ _).drew
      have hF1 := HF.out.later hbV
      go_wp2_with fail
      refine (pop_any hF1).mono ?_
      rintro e w2 ⟨rfl, -, hK2⟩
      have hrs := HR.out.sz
      have hz : w.heap.size < (wr.alloc (.cells #[.int .i64 x.op, .int .i64 x.a, .int .i64 x.b, .int .i64 x.c, .string x.name] 59)).drew.heap.size := Nat.lt_of_lt_of_le hrs hbV.size
      have q0 := hK2.cell (cell_later hbV HR.out.r0) (by rw [HR.out.r4]; omega)
      have q1 := hK2.cell (cell_later hbV HR.out.r1) (by rw [HR.out.r4]; omega)
      have qf : ∀ o, w2.frozen? ⟨w.heap.size, o, none⟩ = false := fun o => kp_frozen hK2 hz (by rw [HR.out.r4]; omega) ((hbV.frozen (p := ⟨w.heap.size, o, none⟩) hrs).trans (HR.out.rf o))
      have HM2 := hid ((HM.out.later hbV).keep (.refl _ _) hK2 (by omega) (by omega) (by omega))
      have HL2 := hid (hC.keep (hC.keep HR.out.lk (.refl _ _) (Kp.of_below (S := fun _ => False) hbV) id id) (.refl _ _) hK2 (by omega) (by omega))
      have HK2 := hid ((HR.out.kp.on hbV).trans HR.out.ext (hK2.mono (S' := All K) fun t h => by unfold All; omega))
      clear hF1 hK2 hbV hc12 hc11 hcf i0 i1 i2 i3 i4
      go_wp2
      rw [HV.out]
      refine bodyPost_ret (v := .tuple #[VV f.top, .int .i64 0]) ?_ rfl ⟨rfl, ⟨T1, HR.out.ext, ⟨_, _, _, HM2.out.keep (.refl _ _) (((Kp.refl (fun t => t = 4) _ _).set (fun _ => HR.out.r4) _ _).set (fun _ => HR.out.r4) _ _) (by omega) (by omega) (by omega)⟩, ?_⟩, (HK2.out.set (fun h => absurd h (Nat.lt_irrefl _)) _ _).set (fun h => absurd h (Nat.lt_irrefl _)) _ _⟩
      · simp [results, Try.results84, go_sem, q0, q1]
      · rw [if_pos rfl]
        exact hC.keep HL2.out (.refl _ _) (((Kp.refl (fun t => t = 4) _ _).set (fun _ => HR.out.r4) _ _).set (fun _ => HR.out.r4) _ _) (by omega) (by omega)
    · have h17' : (x.op == 17) = false := by simpa using h17
      rw [if_neg h17] at HV
      have H17 := hid h17
      clear h17
      have hk2 : Kp (fun t => t = K) T1 wr (wr.setCell ⟨fb, 12, none⟩ (.int .i64 ((k : Int) + 1))) := (Kp.refl _ _ _).set (fun _ => HF.out.tag) _ _
      have hbV : Below (wr.setCell ⟨fb, 12, none⟩ (.int .i64 ((k : Int) + 1))).heap.size (wr.setCell ⟨fb, 12, none⟩ (.int .i64 ((k : Int) + 1))) ((wr.setCell ⟨fb, 12, none⟩ (.int .i64 ((k : Int) + 1))).alloc (.cells #[.int .i64 x.op, .int .i64 x.a, .int .i64 x.b, .int .i64 x.c, .string x.name] 59)).drew := (bel1 _ _).drew
      have hz0 : (wr.setCell ⟨fb, 12, none⟩ (.int .i64 ((k : Int) + 1))).heap.size = wr.heap.size := by simp
      have hkV : Kp (fun t => t = K) T1 wr ((wr.setCell ⟨fb, 12, none⟩ (.int .i64 ((k : Int) + 1))).alloc (.cells #[.int .i64 x.op, .int .i64 x.a, .int .i64 x.b, .int .i64 x.c, .string x.name] 59)).drew := hk2.on hbV
      have hF1 := (HF.out.pcAt hk2 ((k : Int) + 1) (fb_set12 HF.out.box _)).later hbV
      have hM1 := HM.out.keep (.refl _ _) hkV (by omega) (by omega) (by omega)
      have hL1 := hC.keep HR.out.lk (.refl _ _) hkV (by omega) (by omega)
      have hFo1 : FOk p.E.classes m.heap.length { f with pc := (k : Int) + 1 } := ⟨HR.out.fo.self, HR.out.fo.args, HR.out.fo.temps, HR.out.fo.stack, HR.out.fo.code, HR.out.fo.plain⟩
      have hstep := step_any hC hEn hM1 hF1 hL1 HR.out.min hFo1 (by have := HR.out.room; show f.stack.length ≤ _; omega) hd (k : Int) x (fun hf h18 => HR.out.gd hf x (List.mem_of_getElem? HX.out) h18)
      have hmem : x ∈ f.code := List.mem_of_getElem? HX.out
      have hcod := HR.out.fo.code x hmem
      have P1 := hid (step_ok hC.ok (ent_ok hC.ok d) d HR.out.min.heap hFo1 (k : Int) hcod.1 hcod.2)
      have P2 := hid (step_le (ent_le p.E d) d HR.out.min.sends.2 { f with pc := (k : Int) + 1 } (k : Int) x)
      have P3 := hid (step_turns (ent_turns p.E d) p.E d m { f with pc := (k : Int) + 1 } (k : Int) x)
      have P4 : Hid ((mstepE (entE p.E d) p.E d m { f with pc := (k : Int) + 1 } (k : Int) x).2.2 = 0 → (mstepE (entE p.E d) p.E d m { f with pc := (k : Int) + 1 } (k : Int) x).1.turns ≤ 300) := fun h0 => step_t (ent_t p.E d) d HR.out.min.turns.2 (f := { f with pc := (k : Int) + 1 }) h0
      have P5 : Hid (GdOk (mstepE (entE p.E d) p.E d m { f with pc := (k : Int) + 1 } (k : Int) x).2.1) := step_gd (f := { f with pc := (k : Int) + 1 }) HR.out.gd (k : Int) x
      have P7 : Hid ((mstepE (entE p.E d) p.E d m { f with pc := (k : Int) + 1 } (k : Int) x).2.2 = 0 → (mstepE (entE p.E d) p.E d m { f with pc := (k : Int) + 1 } (k : Int) x).2.1.stack.length + muE (mstepE (entE p.E d) p.E d m { f with pc := (k : Int) + 1 } (k : Int) x).1 (mstepE (entE p.E d) p.E d m { f with pc := (k : Int) + 1 } (k : Int) x).2.1 ≤ 1000000) := fun h0 => by
        have := step_room (ent_turns p.E d) (E := p.E) (d := d) (x := x) HR.out.min.turns.1 (f := f) (by rw [HPC.out]; omega) (by rw [HPC.out]; simpa using hkl) (by rw [HPC.out]; exact h0) HR.out.room
        rw [HPC.out] at this
        exact this
      have P6 : Hid ((mstepE (entE p.E d) p.E d m { f with pc := (k : Int) + 1 } (k : Int) x).2.2 = 0 → muE (mstepE (entE p.E d) p.E d m { f with pc := (k : Int) + 1 } (k : Int) x).1 (mstepE (entE p.E d) p.E d m { f with pc := (k : Int) + 1 } (k : Int) x).2.1 < muE m f) := fun h0 => by
        have := mu_step (ent_turns p.E d) (E := p.E) (d := d) (x := x) HR.out.min.turns.1 (f := f) (by rw [HPC.out]; omega) (by rw [HPC.out]; simpa using hkl) (by rw [HPC.out]; exact h0)
        rw [HPC.out] at this
        exact this
      clear hF1 hM1 hL1 hFo1 hcod
      generalize mstepE (entE p.E d) p.E d m { f with pc := (k : Int) + 1 } (k : Int) x = r at *
      go_wp2_with fail
      refine hstep.mono ?_
      rintro e w3 ⟨rfl, ⟨T3, hX3, ⟨hv3, g3, s3, hM3⟩, hL3, hF3⟩, hK3⟩
      have hrs := HR.out.sz
      have hz1 : w.heap.size < ((wr.setCell ⟨fb, 12, none⟩ (.int .i64 ((k : Int) + 1))).alloc (.cells #[.int .i64 x.op, .int .i64 x.a, .int .i64 x.b, .int .i64 x.c, .string x.name] 59)).drew.heap.size := Nat.lt_of_lt_of_le hrs hkV.size
      have q0 := hK3.cell (hkV.cell HR.out.r0 (by rw [HR.out.r4]; omega)) (by rw [HR.out.r4]; unfold All; omega)
      have q1 := hK3.cell (hkV.cell HR.out.r1 (by rw [HR.out.r4]; omega)) (by rw [HR.out.r4]; unfold All; omega)
      have qf : ∀ o, w3.frozen? ⟨w.heap.size, o, none⟩ = false := fun o => kp_frozen hK3 hz1 (by rw [HR.out.r4]; unfold All; omega) (kp_frozen hkV hrs (by rw [HR.out.r4]; omega) (HR.out.rf o))
      have HE3 := hid (HR.out.ext.trans HR.out.kp.size (fun b hb => hX3 b (Nat.lt_of_lt_of_le hb hkV.size)))
      have HK3 := hid ((HR.out.kp.trans HR.out.ext (hkV.mono (S' := All K) fun t h => by unfold All; omega)).trans HR.out.ext hK3)
      have HT3 : Hid (T3 w.heap.size = 4) := by show _ = _; rw [hX3 _ hz1]; exact HR.out.r4
      have HZ3 : Hid (w.heap.size < w3.heap.size) := Nat.lt_of_lt_of_le hz1 hK3.size
      have HM3 := hid hM3
      have HL3 := hid hL3
      have HF3 := hid hF3
      clear hstep hX3 hM3 hL3 hF3 hK3 hc12 hc11 hcf i0 i1 i2 i3 i4 hk2 hbV hkV hz1
      by_cases he : r.2.2 = 0
      · have he' : (r.2.2 != 0) = false := by simpa using he
        have HE0 := hid he
        rw [if_neg (by simpa using he)] at HV
        go_wp2
        go_roundg G'
        case measure => have := HGK.out; omega
        case rel =>
          have hL4 := HL3.out
          rw [if_pos HE0.out] at hL4
          have hst := P1.out
          refine ⟨T3, r.1, r.2.1, HE3.out, HK3.out, ⟨_, _, _, HM3.out⟩, HF3.out HE0.out, hL4, ⟨hst.1.heap, ⟨by have := P2.out; have := HR.out.min.sends; omega, P2.out.1⟩, ⟨by have := P3.out; have := HR.out.min.turns; omega, P4.out HE0.out⟩⟩, hst.2 HE0.out, P5.out, P7.out HE0.out, ?_, HV.out.symm, q0, q1, qf, HT3.out, HZ3.out⟩
          have h1 := P6.out HE0.out
          have h2 := HR.out.mu
          have h3 := HGK.out
          omega
      · have he' : (r.2.2 != 0) = true := by simpa using he
        have HE0 := hid he
        rw [if_pos he] at HV
        clear he
        go_wp2
        rw [HV.out]
        refine bodyPost_ret (v := .tuple #[VV nilV, .int .i64 r.2.2]) ?_ rfl ⟨rfl, ⟨T3, HE3.out, ⟨_, _, _, HM3.out.keep (.refl _ _) (((Kp.refl (fun t => t = 4) _ _).set (fun _ => HT3.out) _ _).set (fun _ => HT3.out) _ _) (by omega) (by omega) (by omega)⟩, ?_⟩, (HK3.out.set (fun h => absurd h (Nat.lt_irrefl _)) _ _).set (fun h => absurd h (Nat.lt_irrefl _)) _ _⟩
        · simp [results, Try.results84, go_sem, q0, q1]
        · have hL4 := HL3.out
          rw [if_neg HE0.out] at hL4 ⊢
          exact hC.keep hL4 (.refl _ _) (((Kp.refl (fun t => t = 4) _ _).set (fun _ => HT3.out) _ _).set (fun _ => HT3.out) _ _) (by omega) (by omega)
end
end Go.Proofs.Ytdfbgpiikeheiaa

/- A call, whoever looks and tells fast code: as plain functions. -/
namespace Go.Proofs.Ytdfbgpiikeheiaa
open Go.ChangeShapes Go.WideShapes Go.ChangeAt Go.RowKit
set_option linter.unusedSimpArgs false
set_option linter.unusedVariables false

section
variable {σ : Type}
def firstR (E : Env σ) (X : QW) (st0 : σ) (s : QV) (name : ByteArray) (args : List QV) : Mc σ × QV × Int :=
  entE E 20 ⟨X.heap, 0, 0, st0⟩ (findE X.classes (classV X.heap s) name).1 (findE X.classes (classV X.heap s) name).2 s args
def ranE (X : QW) (r : Mc σ × QV × Int) : Ran := if r.2.2 ≠ 0 then ⟨X.heap, nilV, r.2.2, r.1.sends⟩ else ⟨r.1.heap, r.2.1, 0, r.1.sends⟩
/-- What comes of a call, and what is remembered then. -/
def withE (E : Env σ) (X : QW) (st0 : σ) (s : QV) (name : ByteArray) (args : List QV) (fuel : Int) : Ran × σ :=
  if wrongCallE X s name args fuel ≠ 0 then (⟨X.heap, nilV, wrongCallE X s name args fuel, 0⟩, st0) else (ranE X (firstR E X st0 s name args), (firstR E X st0 s name args).1.st)
end
theorem with_plain (X : QW) (s : QV) (name : ByteArray) (args : List QV) (fuel : Int) : (withE (plainEnv X fuel) X () s name args fuel).1 = plainE X s name args fuel := by
  unfold withE plainE
  split <;> rfl
theorem meth_at {xs : List QC} {c n : Int} {mt : QM} (h : methAt xs c n = some mt) : ∃ (kc kn : Nat) (x : QC), c = (kc : Int) ∧ n = (kn : Int) ∧ xs[kc]? = some x ∧ x.methods[kn]? = some mt := by
  unfold methAt at h
  cases hc : clsAt xs c with
  | none => rw [hc] at h; cases h
  | some x =>
    rw [hc] at h
    obtain ⟨k, rfl, hk⟩ := clsAt_some hc
    simp only [Option.bind_some] at h
    split at h
    · exact ⟨k, n.toNat, x, rfl, by omega, hk, h⟩
    · cases h
end Go.Proofs.Ytdfbgpiikeheiaa

/- Methods that are entered. -/
namespace Go.Proofs.Ytdfbgpiikeheiaa
open Go.ChangeShapes Go.WideShapes Go.ChangeAt Go.RowKit
set_option linter.unusedSimpArgs false
set_option linter.unusedVariables false
set_option maxRecDepth 8000

section
variable {σ : Type}
variable {p : Mp σ} {L : (Nat → Nat) → World → σ → Nat → Prop} {LF QF : Nat} {lc qc : Array Value} {T T' : Nat → Nat} {w w' : World} {mb : Nat} {m m' : Mc σ} {hv : Value} {g : Nat} {s : Nat → Nat} {K fb : Nat} {f : Fr} {cv av tv sv kv : Value}
set_option maxHeartbeats 1000000 in
theorem none_any (c n : Int) (w : World) : Calls Try.prog 27 #[.int .i64 c, .int .i64 n] w fun e w' => e = .returned (.tuple #[FaV 0 ⟨#[]⟩ 0 0 (.slice none 0 0), .bool false]) ∧ Below w.heap.size w w' := by
  go_enter Try.func27, Try.ntmps27
  go_wp2
  refine bodyPost_ret (v := .tuple #[FaV 0 ⟨#[]⟩ 0 0 (.slice none 0 0), .bool false]) ?_ rfl ⟨rfl, bel1 _ _⟩
  simp [results, Try.results27, go_sem]
/-- What enter's walk holds of its two boxes. -/
structure EnR (w : World) (sf : QV) (w' : World) : Prop where
  s0 : w'.cell? ⟨w.heap.size, 0, none⟩ = some (.int .i64 sf.k)
  s1 : w'.cell? ⟨w.heap.size, 1, none⟩ = some (.int .i64 sf.n)
  r0 : w'.cell? ⟨w.heap.size + 1, 0, none⟩ = some (.int .i64 0)
  r1 : w'.cell? ⟨w.heap.size + 1, 1, none⟩ = some (.int .i64 0)
  rf : ∀ o, w'.frozen? ⟨w.heap.size + 1, o, none⟩ = false
  sz : w.heap.size + 2 ≤ w'.heap.size
theorem EnR.kp {w : World} {self : QV} {w' w'' : World} {S : Nat → Prop} {T : Nat → Nat} (h : EnR w self w') (k : Kp S T w' w'') (h1 : ¬ S (T w.heap.size)) (h2 : ¬ S (T (w.heap.size + 1))) : EnR w self w'' :=
  ⟨k.cell h.s0 h1, k.cell h.s1 h1, k.cell h.r0 h2, k.cell h.r1 h2, fun o => kp_frozen k (by have := h.sz; omega) h2 (h.rf o), Nat.le_trans h.sz k.size⟩
theorem enR_new (w : World) (self : QV) : EnR w self ((w.alloc (.cells #[.int .i64 self.k, .int .i64 self.n] 27)).alloc (.cells #[.int .i64 0, .int .i64 0] 27)) := by
  obtain ⟨a0, a1, r0, r1, rf, sz⟩ := pvR_new w self
  exact ⟨a0, a1, r0, r1, rf, sz⟩
theorem EnPost.fin {calls : Int} {T1 : Nat → Nat} {U : World} {r : Mc σ × QV × Int} (hC : Cx p L LF lc QF qc) (hE : Ext T T1 w) (hM : MacAt p T1 U mb r.1 calls hv g s) (hL : L T1 U r.1.st (if r.2.2 = 0 then leftE p.E r.1 else 0)) (hK : Kp (All K) T w U) (h4 : T1 (w.heap.size + 1) = 4) (u0 u1 : Value) : EnPost p L T w mb calls K r (.returned (.tuple #[VV r.2.1, .int .i64 r.2.2])) ((U.setCell ⟨w.heap.size + 1, 0, none⟩ u0).setCell ⟨w.heap.size + 1, 1, none⟩ u1) := by
  have k : Kp (fun t => t = 4) T1 U ((U.setCell ⟨w.heap.size + 1, 0, none⟩ u0).setCell ⟨w.heap.size + 1, 1, none⟩ u1) := ((Kp.refl (fun t => t = 4) _ _).set (fun _ => h4) _ _).set (fun _ => h4) _ _
  exact ⟨rfl, ⟨T1, hE, ⟨_, _, _, hM.keep (.refl _ _) k (by omega) (by omega) (by omega)⟩, hC.keep hL (.refl _ _) k (by omega) (by omega)⟩, (hK.set (fun h => absurd h (by omega)) _ _).set (fun h => absurd h (by omega)) _ _⟩

def bodyE (E : Env σ) : Nat → Mc σ → Fr → Mc σ × QV × Int
  | 0 => fun m _ => (m, nilV, 14)
  | d + 1 => fun m f => finE (entE E d) E d (gasE f) m f
theorem entE_eq (E : Env σ) (d : Nat) : entE E d = enterE E d (bodyE E d) := by cases d <;> rfl
theorem FrNew.later (h : FrNew T K w fb f cv av) (hb : Below w.heap.size w w') : FrNew T K w' fb f cv av := ⟨box_later' h.box hb, h.tag, h.args.fx goodV (.refl _ _) (Kp.of_below (S := fun _ => False) hb) id, h.meth.fx goodI (.refl _ _) (Kp.of_below (S := fun _ => False) hb) id, h.pos, h.stack⟩
theorem begin_any {c k : Int} {mt : QM} {self : QV} {args : List QV} (h : FrNew T K w fb ⟨c, mt, self, args, [], [], [], 0, false⟩ cv av) (E : Env σ) (fc : Int) (fn : ByteArray) (fe ft : Int) (kq : Value) (hq : ∀ q, E.quick c k = some q → ft = q.2 ∧ IsCode (Fx T w) w kq q.1) : Calls Try.prog 83 #[.pointer (some ⟨fb, 0, none⟩), FaV fc fn fe ft kq, .bool (E.quick c k).isSome] w fun e w' => e = .returned (.tuple #[]) ∧ ∃ T' tv sv kv, Ext T T' w ∧ FrAt T' K w' fb (frameE E c k mt self args) cv av tv sv kv ∧ Kp (fun t => t = K) T w w' := by
  unfold frameE
  cases hk : E.quick c k with
  | none => exact begin_plain h rfl kq fc fn fe ft
  | some q =>
    obtain ⟨rfl, hc⟩ := hq q hk
    exact begin_fast h kq fc fn fe q.2 q.1 hc
theorem frame_is (E : Env σ) (c k : Int) (mt : QM) (self : QV) (args : List QV) : (frameE E c k mt self args).cls = c ∧ (frameE E c k mt self args).meth = mt ∧ (frameE E c k mt self args).self = self ∧ (frameE E c k mt self args).args = args ∧ (frameE E c k mt self args).stack = [] := by
  unfold frameE
  split <;> exact ⟨rfl, rfl, rfl, rfl, rfl⟩
theorem frame_ok (hC : Cx p L LF lc QF qc) {h : Int} {c k : Int} {mt : QM} (hm : methAt p.E.classes c k = some mt) {self : QV} {args : List QV} (hs : wrongV h self = 0) (ha : VsOk h args) : FOk p.E.classes h (frameE p.E c k mt self args) ∧ GdOk (frameE p.E c k mt self args) ∧ gasE (frameE p.E c k mt self args) ≤ 1000000 := by
  obtain ⟨f1, f2⟩ := hC.few c k mt hm
  unfold frameE
  cases hk : p.E.quick c k with
  | none => exact ⟨⟨hs, ha, rooms_ok _ _, (fun v hv => by cases hv), hC.ok.meths _ _ _ hm, hC.ok.meths _ _ _ hm⟩, (fun h => by cases h), by unfold gasE; simp only; omega⟩
  | some q =>
    obtain ⟨g1, g2⟩ := f2 q hk
    exact ⟨⟨hs, ha, rooms_ok _ _, (fun v hv => by cases hv), hC.ok.fast _ _ _ hk, hC.ok.meths _ _ _ hm⟩, fun _ => g2, by unfold gasE; simp only; omega⟩
set_option maxHeartbeats 8000000 in
theorem enter_any (hC : Cx p L LF lc QF qc) (d : Nat) (hd : d ≤ 20) (hIh : ∀ d', d = d' + 1 → EnterOk p L d') : EnterOk p L d := by
  intro K T w mb m hv g s c n self args av hK5 h hL hI hSe hAr hA
  have hX := tagged_ext T w 4
  have hT4 : ∀ b, w.heap.size ≤ b → tagged T w 4 b = 4 := fun b hb => tagged_new hb
  have hb1 := bel2 w (.cells #[.int .i64 self.k, .int .i64 self.n] 27) (.cells #[.int .i64 0, .int .i64 0] 27)
  have hM0 := (h.tagged0 4).later hb1
  have hA0 := (fx_tagged hA goodV 4).fx goodV (.refl _ w) (Kp.of_below (S := fun _ => False) hb1) id
  have hL0 := hC.keep (hC.keep hL hX (Kp.refl (fun _ => False) _ _) id id) (.refl _ _) (Kp.of_below (S := fun _ => False) hb1) id id
  have hR0 := enR_new w self
  have HKW : Hid (Kp (All K) T w ((w.alloc (.cells #[.int .i64 self.k, .int .i64 self.n] 27)).alloc (.cells #[.int .i64 0, .int .i64 0] 27))) := Kp.of_below hb1
  obtain ⟨aa, ca, rfl, -⟩ := id hA
  have hlm := blk_lt h.box
  clear h hA hL
  generalize tagged T w 4 = T1 at *
  have t0 : T1 w.heap.size = 4 := hT4 _ (Nat.le_refl _)
  have t1 : T1 (w.heap.size + 1) = 4 := hT4 _ (by omega)
  go_enter Try.func63, Try.ntmps63
  go_upto_region 1 with (fail)
  generalize ((w.alloc (.cells #[.int .i64 self.k, .int .i64 self.n] 27)).alloc (.cells #[.int .i64 0, .int .i64 0] 27)) = W at *
  have hhas := mhas_any hM0 c n
  have HEN : Hid (entE p.E d m c n self args = enterE p.E d (bodyE p.E d) m c n self args) := by show _ = _; rw [entE_eq]
  go_wp2_with fail
  refine hhas.mono ?_
  rintro e w1 ⟨rfl, hbw⟩
  have hM1 := hM0.later hbw
  have hA1 := hA0.fx goodV (.refl _ _) (Kp.of_below (S := fun _ => False) hbw) id
  have hL1 := hC.keep hL0 (.refl _ _) (Kp.of_below (S := fun _ => False) hbw) id id
  have hR1 := hR0.kp (T := T1) (S := fun _ => False) (Kp.of_below hbw) id id
  have HK1 := hid (HKW.out.on hbw)
  clear hhas hM0 hA0 hL0 hR0 hbw hb1
  obtain ⟨s0, s1, r0, r1, rf, sz⟩ := id hR1
  cases hma : methAt p.E.classes c n with
  | none =>
    have HE : Hid (entE p.E d m c n self args = (m, nilV, 10)) := by show _ = _; rw [HEN.out]; unfold enterE; rw [hma]
    clear hma HEN
    have Q := fun u0 u1 => EnPost.fin (r := (m, nilV, 10)) hC hX hM1 (by rw [if_neg (by simp)]; exact hC.mono hL1 (Nat.zero_le _)) HK1.out t1 u0 u1
    have HQ := hid Q
    clear Q hM1 hL1 hA1 hR1
    go_wp2
    rw [HE.out]
    refine bodyPost_ret (v := .tuple #[VV nilV, .int .i64 10]) ?_ rfl (HQ.out _ _)
    simp [results, Try.results63, go_sem, r0, r1]
  | some mt =>
    obtain ⟨kc, kn, xc, rfl, rfl, hxc, hxm⟩ := meth_at hma
    obtain ⟨ac, cc, hcv, hcl, hcc, -, hrow⟩ := hM1.cls
    obtain ⟨bc, oc, hac, -, e0, e1, e2, e3, mv, e4, hmv⟩ := hrow kc xc hxc
    obtain ⟨am, cm, rfl, hml, hcm, -, hrowm⟩ := hmv
    obtain ⟨bm, om, rfl, hbm, f0, f1, f2, f3, f4, cv, f5, hcode⟩ := hrowm kn mt hxm
    obtain ⟨ak, ck, rfl, -⟩ := id hcode
    have m0 := hM1.c0
    rw [hcv, hac] at m0
    simp only [Nat.add_zero] at e0 f0
    unfold maxLen at hcc hcm
    have l1 := lt_of_get hxc
    have l2 := lt_of_get hxm
    have c1 : (kc : Int) < (p.E.classes.length : Int) := by omega
    have c2 : (kn : Int) < (xc.methods.length : Int) := by omega
    have c3 : (0 : Int) ≤ (kc : Int) := by omega
    have c4 : (0 : Int) ≤ (kn : Int) := by omega
    clear hrow hrowm hcv hac hxc hxm
    have hbV := bel1 w1 (.cells #[.string mt.name, .int .i64 mt.args, .int .i64 mt.temps, .int .i64 mt.prim, .slice ak mt.code.length ck] 55)
    have hM2 := hM1.later hbV
    have hA2 := hA1.fx goodV (.refl _ _) (Kp.of_below (S := fun _ => False) hbV) id
    have hCo2 := hcode.fx goodI (.refl _ _) (Kp.of_below (S := fun _ => False) hbV) id
    have hL2 := hC.keep hL1 (.refl _ _) (Kp.of_below (S := fun _ => False) hbV) id id
    have hR2 := hR1.kp (T := T1) (S := fun _ => False) (Kp.of_below hbV) id id
    have b0 := cell_new w1 #[.string mt.name, .int .i64 mt.args, .int .i64 mt.temps, .int .i64 mt.prim, .slice ak mt.code.length ck] 55 _ rfl 0
    have b1 := cell_new w1 #[.string mt.name, .int .i64 mt.args, .int .i64 mt.temps, .int .i64 mt.prim, .slice ak mt.code.length ck] 55 _ rfl 1
    have b2 := cell_new w1 #[.string mt.name, .int .i64 mt.args, .int .i64 mt.temps, .int .i64 mt.prim, .slice ak mt.code.length ck] 55 _ rfl 2
    have b3 := cell_new w1 #[.string mt.name, .int .i64 mt.args, .int .i64 mt.temps, .int .i64 mt.prim, .slice ak mt.code.length ck] 55 _ rfl 3
    have b4 := cell_new w1 #[.string mt.name, .int .i64 mt.args, .int .i64 mt.temps, .int .i64 mt.prim, .slice ak mt.code.length ck] 55 _ rfl 4
    have HK2 := hid (HK1.out.on hbV)
    have tm : T1 w1.heap.size = 4 := hT4 _ (by omega)
    have hMz : w1.heap.size < (w1.alloc (.cells #[.string mt.name, .int .i64 mt.args, .int .i64 mt.temps, .int .i64 mt.prim, .slice ak mt.code.length ck] 55)).heap.size := by simp
    go_upto_region 4 with (fail)
    clear hM1 hA1 hL1 hR1 s0 s1 r0 r1 rf sz e0 e1 e2 e3 e4 f0 f1 f2 f3 f4 f5 m0 hcode hbV HK1
    generalize (w1.alloc (.cells #[.string mt.name, .int .i64 mt.args, .int .i64 mt.temps, .int .i64 mt.prim, .slice ak mt.code.length ck] 55)) = V at *
    simp only [List.getElem?_toArray, List.getElem?_cons_zero, List.getElem?_cons_succ] at b0 b1 b2 b3 b4
    generalize w1.heap.size = MBk at *
    obtain ⟨s0, s1, r0, r1, rf, sz⟩ := id hR2
    have HN : Hid (entE p.E d m kc kn self args = if mt.args ≠ args.length then (m, nilV, 8) else if mt.prim ≠ 0 then primitiveE p.E m mt.prim self args else if (countE p.E d m).2 ≠ 0 then (m, nilV, (countE p.E d m).2) else bodyE p.E d (countE p.E d m).1 (frameE p.E kc kn mt self args)) := by
      show _ = _
      rw [HEN.out]
      unfold enterE primitiveE
      rw [hma]
    have HMA := hid hma
    clear hma HEN
    by_cases hag : mt.args = (args.length : Int)
    · have hag' : (mt.args != (args.length : Int)) = false := by simpa using hag
      rw [if_neg (by simpa using hag)] at HN
      have HAG := hid hag
      clear hag
      by_cases hpr : mt.prim = 0
      · have hpr' : (mt.prim != 0) = false := by simpa using hpr
        rw [if_neg (by simpa using hpr)] at HN
        have HPR := hid hpr
        clear hpr
        have hcc := countCall_any d hM2 hI.sends.1 (by have := hC.fuel; omega) rfl hd
        obtain ⟨m3, e3, hce⟩ : ∃ m3 e3, countE p.E d m = (m3, e3) := ⟨_, _, rfl⟩
        rw [hce] at hcc HN
        go_wp2_with fail
        refine hcc.mono ?_
        rintro e w3 ⟨rfl, hM3, hK3⟩
        have hR3 := hR2.kp hK3 (by rw [t0]; omega) (by rw [t1]; omega)
        have hL3 := hC.keep hL2 (.refl _ _) hK3 (by omega) (by omega)
        have hA3 := hA2.fx goodV (.refl _ _) hK3 (by omega)
        have hCo3 := hCo2.fx goodI (.refl _ _) hK3 (by omega)
        have d0 := hK3.cell b0 (by rw [tm]; omega)
        have d1 := hK3.cell b1 (by rw [tm]; omega)
        have d2 := hK3.cell b2 (by rw [tm]; omega)
        have d3 := hK3.cell b3 (by rw [tm]; omega)
        have d4 := hK3.cell b4 (by rw [tm]; omega)
        have HK3 := hid (HK2.out.trans hX (hK3.mono (S' := All K) fun t h => Or.inl h))
        have hMz3 : MBk < w3.heap.size := Nat.lt_of_lt_of_le hMz hK3.size
        clear hcc hM2 hA2 hL2 hR2 s0 s1 r0 r1 rf sz b0 b1 b2 b3 b4 hK3 hCo2
        obtain ⟨s0, s1, r0, r1, rf, sz⟩ := id hR3
        by_cases her : e3 = 0
        · subst her
          have her' : ((0 : Int) != 0) = false := by simp
          rw [if_neg (by simp)] at HN
          obtain ⟨hd0, hm3, hfu⟩ : d ≠ 0 ∧ m3 = { m with sends := m.sends + 1 } ∧ ¬ p.E.fuel ≤ m.sends := by
            unfold countE at hce
            split at hce
            · cases hce
            · rename_i k
              split at hce
              · cases hce
              · rename_i k2; exact ⟨k2, (congrArg Prod.fst hce).symm, k⟩
          obtain ⟨d', rfl⟩ : ∃ d', d = d' + 1 := ⟨d - 1, by omega⟩
          clear hd0 hce
          obtain ⟨hFo, hGd, hGas⟩ := frame_ok hC HMA.out hSe hAr
          have hStk := (frame_is p.E kc kn mt self args).2.2.2.2
          have HN2 : Hid (entE p.E (d' + 1) m kc kn self args = finE (entE p.E d') p.E d' (gasE (frameE p.E kc kn mt self args)) m3 (frameE p.E kc kn mt self args)) := HN.out
          clear HN
          have hI3 : MIn p.E m3 := by
            rw [hm3]
            exact ⟨hI.heap, ⟨by have := hI.sends; simp only; omega, by simp only; omega⟩, hI.turns⟩
          have hFo3 : FOk p.E.classes m3.heap.length (frameE p.E kc kn mt self args) := by
            rw [hm3]
            exact hFo
          have hRm3 : (frameE p.E kc kn mt self args).stack.length + muE m3 (frameE p.E kc kn mt self args) ≤ 1000000 := by
            have := mu_gas (f := frameE p.E kc kn mt self args) hI3.turns.1
            rw [hStk]
            simp only [List.length_nil]
            omega
          clear hFo hGas hStk
          have hL3' : L T1 w3 m3.st (leftE p.E m3) := by
            rw [hm3]
            exact hC.mono hL3 (by unfold leftE; simp only; omega)
          clear hL3 hm3 hfu
          have HMN : Hid (MBk < w3.heap.size) := hMz3
          have q8 := hM3.c8
          rw [hC.qv] at q8
          have hbF := bel1 w3 (FB ⟨kc, mt, self, args, [], [], [], 0, false⟩ (.slice ak mt.code.length ck) (.slice aa args.length ca) (.slice none 0 0) (.slice none 0 0) (.slice none 0 0))
          have hX4 : Ext T1 (tag1 T1 w3.heap.size K) w3 := tag1_ext (Nat.le_refl _)
          have hkF : Kp (fun _ => False) T1 w3 _ := Kp.of_below hbF
          have hM4 := hM3.keep hX4 hkF id id id
          have hL4 := hC.keep hL3' hX4 hkF id id
          have hR4 := hR3.kp (T := T1) hkF id id
          have hNew : FrNew (tag1 T1 w3.heap.size K) K (w3.alloc (FB ⟨kc, mt, self, args, [], [], [], 0, false⟩ (.slice ak mt.code.length ck) (.slice aa args.length ca) (.slice none 0 0) (.slice none 0 0) (.slice none 0 0))) w3.heap.size ⟨kc, mt, self, args, [], [], [], 0, false⟩ (.slice ak mt.code.length ck) (.slice aa args.length ca) :=
            ⟨heap_alloc_new w3 _, tag1_self _ _ _, hA3.fx goodV hX4 hkF id, hCo3.fx goodI hX4 hkF id, hK5, rfl⟩
          have HK4 := hid (HK3.out.on hbF)
          have t04 : tag1 T1 w3.heap.size K w.heap.size = 4 := by rw [hX4 _ (by omega)]; exact t0
          have t14 : tag1 T1 w3.heap.size K (w.heap.size + 1) = 4 := by rw [hX4 _ (by omega)]; exact t1
          have HE4 : Hid (Ext T (tag1 T1 w3.heap.size K) w) := hX.trans HK3.out.size hX4
          have q84 := hM4.c8
          rw [hC.qv] at q84
          have hcf := hC.qcf
          go_upto_region 12 with (fail)
          generalize tag1 T1 w3.heap.size K = T4 at *
          generalize (w3.alloc (FB ⟨kc, mt, self, args, [], [], [], 0, false⟩ (.slice ak mt.code.length ck) (.slice aa args.length ca) (.slice none 0 0) (.slice none 0 0) (.slice none 0 0))) = V4 at *
          clear d0 d1 d2 d3 d4 s0 s1 r0 r1 rf sz q8 hM3 hL3' hR3 hA3 hCo3 hbF hkF hX4
          go_wp2_with fail
          refine (hC.quick T4 V4 _ kc kn mt _ hL4 HMA.out).mono ?_
          rintro e w5 ⟨⟨fc, fn, fe, ft, aq, nq, cq, rfl, hq5⟩, hb5⟩
          have hk5 : Kp (fun _ => False) T4 V4 w5 := Kp.of_below hb5
          have hM5 := hM4.later hb5
          have hL5 := hC.keep hL4 (.refl _ _) hk5 id id
          have hR5 := hR4.kp hk5 id id
          have hNew5 := hNew.later hb5
          have HK5 := hid (HK4.out.on hb5)
          clear hM4 hL4 hR4 hNew q84 hk5
          go_wp2_with fail
          refine (begin_any hNew5 p.E fc fn fe ft _ hq5).mono ?_
          rintro e w6 ⟨rfl, T6, tv, sv, kv, hX6, hF6, hK6⟩
          have hM6 := hM5.keep hX6 hK6 (by omega) (by omega) (by omega)
          have hL6 := hC.keep hL5 hX6 hK6 (by omega) (by omega)
          have hR6 := hR5.kp hK6 (by rw [t04]; omega) (by rw [t14]; omega)
          have hsz5 := hR5.sz
          have t06 : T6 w.heap.size = 4 := by rw [hX6 _ (by omega)]; exact t04
          have t16 : T6 (w.heap.size + 1) = 4 := by rw [hX6 _ (by omega)]; exact t14
          have HE6 := hid (HE4.out.trans HK5.out.size hX6)
          have HK6 := hid (HK5.out.trans HE4.out (hK6.mono (S' := All K) fun t h => by unfold All; omega))
          clear hM5 hL5 hR5 hNew5 hX6 hK6
          have m5 := hM6.c5
          have mf := row_free hM6.box
          have hcw : IntKind.i64.wrap (20 - ((d' + 1 : Nat) : Int) + 1) = 20 - (d' : Int) := by rw [wrap_of (by omega) (by omega)]; omega
          have hcw2 : IntKind.i64.wrap (20 - (d' : Int) - 1) = 20 - ((d' + 1 : Nat) : Int) := by rw [wrap_of (by omega) (by omega)]; omega
          obtain ⟨cA, hcA⟩ : ∃ cA : Int, cA = 20 - ((d' + 1 : Nat) : Int) := ⟨_, rfl⟩
          obtain ⟨cB, hcB⟩ : ∃ cB : Int, cB = 20 - (d' : Int) := ⟨_, rfl⟩
          rw [← hcA] at m5 hcw hcw2
          rw [← hcB] at hcw hcw2
          have HCA := hid hcA
          have HCB := hid hcB
          clear hcA hcB
          have k7 : Kp (fun t => t = 1) T6 w6 (w6.setCell ⟨mb, 5, none⟩ (.int .i64 cB)) := (Kp.refl _ _ _).set (fun _ => hM6.tag) _ _
          have hM7 : MacAt p T6 (w6.setCell ⟨mb, 5, none⟩ (.int .i64 cB)) mb m3 (20 - (d' : Int)) hv g s := hM6.turn (m' := m3) k7 (by rw [mb_set5 hM6.box, HCB.out]) rfl
          have hF7 := hF6.keep (.refl _ _) k7 (by omega) (by omega) (by omega) (by omega)
          have hL7 := hC.keep hL6 (.refl _ _) k7 (by omega) (by omega)
          have hR7 := hR6.kp k7 (by rw [t06]; omega) (by rw [t16]; omega)
          have HK7 := hid (HK6.out.trans HE6.out (k7.mono (S' := All K) fun t h => Or.inl h))
          have hfin := finish_any hC (by omega) (hIh d' rfl) hM7 hF7 hL7 hI3 hFo3 hGd hRm3
          generalize finE (entE p.E d') p.E d' (gasE (frameE p.E kc kn mt self args)) m3 (frameE p.E kc kn mt self args) = R at *
          go_wp2_with fail
          refine (hfin).mono ?_
          rintro e w8 ⟨rfl, ⟨T8, hX8, ⟨hv8, g8, s8, hM8⟩, hL8⟩, hK8⟩
          obtain ⟨rm, v, er⟩ := R
          simp only at hM8 hL8
          have hR8 := hR7.kp hK8 (by rw [t06]; unfold All; omega) (by rw [t16]; unfold All; omega)
          have hsz7 := hR7.sz
          have t18 : T8 (w.heap.size + 1) = 4 := by rw [hX8 _ (by omega)]; exact t16
          have t08 : T8 w.heap.size = 4 := by rw [hX8 _ (by omega)]; exact t06
          have HE8 := hid (HE6.out.trans HK7.out.size hX8)
          have HK8 := hid (HK7.out.trans HE6.out hK8)
          have m58 := hM8.c5
          rw [← HCB.out] at m58
          have mf8 := row_free hM8.box
          have hlm8 : mb < w8.heap.size := blk_lt hM8.box
          have hn8 : ¬ mb = w8.heap.size := by omega
          have hn8' : ¬ w8.heap.size = mb := by omega
          have HM8 := hid hM8
          have HL8 := hid hL8
          clear hfin hM7 hF7 hL7 hR7 hM6 hF6 hL6 hR6 k7 m5 mf hX8 hK8 hM8 hL8 hI3 hFo3 hGd hRm3 hcf
          have kS : Kp (fun t => t = 1) T8 w8 (w8.setCell ⟨mb, 5, none⟩ (.int .i64 cA)) := (Kp.refl _ _ _).set (fun _ => HM8.out.tag) _ _
          have hMS : MacAt p T8 (w8.setCell ⟨mb, 5, none⟩ (.int .i64 cA)) mb rm (20 - ((d' + 1 : Nat) : Int)) hv8 g8 s8 := HM8.out.turn (m' := rm) kS (by rw [mb_set5 HM8.out.box, HCA.out]) rfl
          have hbU : Below (w8.setCell ⟨mb, 5, none⟩ (.int .i64 cA)).heap.size (w8.setCell ⟨mb, 5, none⟩ (.int .i64 cA)) ((w8.setCell ⟨mb, 5, none⟩ (.int .i64 cA)).alloc (.cells #[.int .i64 v.k, .int .i64 v.n] 27)) := bel1 _ _
          have kU := kS.on hbU
          have hMU := hMS.later hbU
          have hLU := hC.keep HL8.out (.refl _ _) kU (by omega) (by omega)
          have hRU := hR8.kp kU (by rw [t08]; omega) (by rw [t18]; omega)
          have v0 : ((w8.setCell ⟨mb, 5, none⟩ (.int .i64 cA)).alloc (.cells #[.int .i64 v.k, .int .i64 v.n] 27)).cell? ⟨w8.heap.size, 0, none⟩ = some (.int .i64 v.k) := cell_new _ _ _ _ (by simp) 0
          have v1 : ((w8.setCell ⟨mb, 5, none⟩ (.int .i64 cA)).alloc (.cells #[.int .i64 v.k, .int .i64 v.n] 27)).cell? ⟨w8.heap.size, 1, none⟩ = some (.int .i64 v.n) := cell_new _ _ _ _ (by simp) 1
          have HQ := hid fun u0 u1 => EnPost.fin (r := (rm, v, er)) hC HE8.out hMU hLU (HK8.out.trans HE8.out (kU.mono fun t h => Or.inl h)) t18 u0 u1
          clear hMU hLU kU kS hMS hbU
          go_upto_region 16 with (fail)
          generalize ((w8.setCell ⟨mb, 5, none⟩ (.int .i64 cA)).alloc (.cells #[.int .i64 v.k, .int .i64 v.n] 27)) = U at *
          obtain ⟨s0, s1, r0, r1, rf, sz⟩ := id hRU
          have hnz : ¬ w.heap.size + 1 = w8.heap.size := by have := hR8.sz; omega
          have hnz' : ¬ w8.heap.size = w.heap.size + 1 := by have := hR8.sz; omega
          go_wp2
          rw [HN2.out]
          refine bodyPost_ret (v := .tuple #[VV v, .int .i64 er]) ?_ rfl (HQ.out _ _)
          simp [results, Try.results63, go_sem, r0, r1]
        · have her' : (e3 != 0) = true := by simpa using her
          rw [if_pos her] at HN
          have hm3 : m3 = m := by
            have : (countE p.E d m).2 ≠ 0 := by rw [hce]; exact her
            unfold countE at hce this
            split at hce
            · exact (congrArg Prod.fst hce).symm
            · rename_i k; rw [if_neg k] at this
              split at hce
              · exact (congrArg Prod.fst hce).symm
              · rename_i k2; rw [if_neg k2] at this; exact absurd rfl this
          subst hm3
          have HQ := hid fun u0 u1 => EnPost.fin (r := (m3, nilV, e3)) hC hX hM3 (by rw [if_neg her]; exact hC.mono hL3 (Nat.zero_le _)) HK3.out t1 u0 u1
          clear hM3 hL3 hA3 hR3 hce
          go_wp2
          rw [HN.out]
          refine bodyPost_ret (v := .tuple #[VV nilV, .int .i64 e3]) ?_ rfl (HQ.out _ _)
          simp [results, Try.results63, go_sem, r0, r1]
      · have hpr' : (mt.prim != 0) = true := by simpa using hpr
        rw [if_pos (by simpa using hpr)] at HN
        clear hpr
        have hbd : ∀ v : QV, wrongV m.heap.length v = 0 → v.k = 3 → -1073741824 ≤ v.n ∧ v.n ≤ 1073741824 := fun v hv h3 => by
          unfold wrongV wrongK at hv
          rw [h3] at hv
          simp at hv
          omega
        have hpi := primitive_any hM2 hI.sends.1 (by have := hC.fuel; omega) mt.prim self args _ hA2 (hbd _ hSe) (hbd _ (hAr.entry 0))
        have hsd : (primitiveE p.E m mt.prim self args).1.st = m.st ∧ ((primitiveE p.E m mt.prim self args).2.2 = 0 → leftE p.E (primitiveE p.E m mt.prim self args).1 ≤ (p.E.fuel - m.sends).toNat) := by
          unfold primitiveE
          split
          · exact ⟨rfl, fun h => by cases h⟩
          · exact ⟨rfl, fun _ => by unfold leftE; simp only; omega⟩
        generalize primitiveE p.E m mt.prim self args = r at *
        go_wp2_with fail
        refine hpi.mono ?_
        rintro e w3 ⟨rfl, ⟨T3, hX3, hM3⟩, hK3⟩
        have hR3 := hR2.kp hK3 (by rw [t0]; omega) (by rw [t1]; omega)
        have hL3 := hC.keep hL2 hX3 hK3 (by omega) (by omega)
        have t3 : T3 (w.heap.size + 1) = 4 := by rw [hX3 _ (by omega)]; exact t1
        have hle : (if r.2.2 = 0 then leftE p.E r.1 else 0) ≤ (p.E.fuel - m.sends).toNat := by
          by_cases h0 : r.2.2 = 0
          · rw [if_pos h0]; exact hsd.2 h0
          · rw [if_neg h0]; exact Nat.zero_le _
        have HQ := hid fun u0 u1 => EnPost.fin (r := r) hC (hX.trans HK2.out.size hX3) hM3 (by rw [hsd.1]; exact hC.mono hL3 hle) (HK2.out.trans hX (hK3.mono fun t h => Or.inl h)) t3 u0 u1
        clear hpi hM2 hA2 hL2 hR2 s0 s1 r0 r1 rf sz b0 b1 b2 b3 b4 hK3 hM3 hL3
        obtain ⟨s0, s1, r0, r1, rf, sz⟩ := id hR3
        go_wp2
        rw [HN.out]
        refine bodyPost_ret (v := .tuple #[VV r.2.1, .int .i64 r.2.2]) ?_ rfl (HQ.out _ _)
        simp [results, Try.results63, go_sem, r0, r1]
    · have hag' : (mt.args != (args.length : Int)) = true := by simpa using hag
      rw [if_pos (by simpa using hag)] at HN
      clear hag
      have HQ := hid fun u0 u1 => EnPost.fin (r := (m, nilV, 8)) hC hX hM2 (by rw [if_neg (by simp)]; exact hC.mono hL2 (Nat.zero_le _)) HK2.out t1 u0 u1
      clear hM2 hA2 hL2 hR2
      go_wp2
      rw [HN.out]
      refine bodyPost_ret (v := .tuple #[VV nilV, .int .i64 8]) ?_ rfl (HQ.out _ _)
      simp [results, Try.results63, go_sem, r0, r1]
theorem enter_all (hC : Cx p L LF lc QF qc) : ∀ d, d ≤ 20 → EnterOk p L d
  | 0, hd => enter_any hC 0 hd (fun d' h => by omega)
  | d + 1, hd => enter_any hC (d + 1) hd (fun d' h => by
      have : d' = d := by omega
      subst this
      exact enter_all hC d' (by omega))
end
end Go.Proofs.Ytdfbgpiikeheiaa

/- What is wrong with a call; whoever looks; the first call. -/
namespace Go.Proofs.Ytdfbgpiikeheiaa
open Go.ChangeShapes Go.WideShapes Go.ChangeAt Go.RowKit
set_option linter.unusedSimpArgs false
set_option linter.unusedVariables false
set_option maxRecDepth 8000

set_option maxHeartbeats 1000000 in
theorem name_any (s : ByteArray) (w : World) (hs : s.size ≤ 140737488351232) : Calls Try.prog 57 #[.string s] w fun e w' => e = .returned (.bool (nameB s)) ∧ Below w.heap.size w w' := by
  by_cases h0 : s.size < 1
  · have h0' : (s.size : Int) < 1 := by omega
    have hn : nameB s = false := by simp [nameB]; omega
    rw [hn]
    go_enter Try.func57, Try.ntmps57
    go_wp2
    go_ret
    exact ⟨rfl, Below.refl _ _⟩
  · have h0' : (1 : Int) ≤ (s.size : Int) := by omega
    by_cases h1 : 12 < s.size
    · have h1' : (12 : Int) < (s.size : Int) := by omega
      have hn : nameB s = false := by simp [nameB]; omega
      rw [hn]
      go_enter Try.func57, Try.ntmps57
      go_wp2
      go_ret
      exact ⟨rfl, Below.refl _ _⟩
    · have h1' : (s.size : Int) ≤ 12 := by omega
      have HN : Hid (nameB s = okB s) := by show _ = _; unfold nameB; rw [decide_eq_true (by omega)]; rfl
      go_enter Try.func57, Try.ntmps57
      go_wp2
      go_loopg [14] s.size (fun g c wr => ∃ j : Nat, j + g = s.size ∧ c = .int .i64 j ∧ wr = w ∧ ∀ i (hi : i < s.size), i < j → 33 ≤ s[i].toNat ∧ s[i].toNat ≤ 126)
      case atStart => exact ⟨0, by omega, rfl, rfl, fun i _ hi => by omega⟩
      case round =>
        obtain ⟨j, hj, rfl, rfl, hok⟩ := hrel
        have HO : Hid (∀ i (hi : i < s.size), i < j → 33 ≤ s[i].toNat ∧ s[i].toNat ≤ 126) := hok
        clear hok
        by_cases hlt : j < s.size
        · have hj0 : (0 : Int) ≤ (j : Int) := by omega
          have hj1 : (j : Int) < (s.size : Int) := by omega
          by_cases c1 : s[j].toNat ≤ 32
          · have hn : Hid (okB s = false) := okB_no hlt (by omega)
            have c1' : ((s[j].toNat : Nat) : Int) ≤ 32 := by omega
            go_wp2
            go_ret
            exact ⟨ret_b (by rw [HN.out, hn.out]), Below.refl _ _⟩
          · have c1' : (32 : Int) < ((s[j].toNat : Nat) : Int) := by omega
            by_cases c2 : 126 < s[j].toNat
            · have hn : Hid (okB s = false) := okB_no hlt (by omega)
              have c2' : (126 : Int) < ((s[j].toNat : Nat) : Int) := by omega
              go_wp2
              go_ret
              exact ⟨ret_b (by rw [HN.out, hn.out]), Below.refl _ _⟩
            · have c2' : ((s[j].toNat : Nat) : Int) ≤ 126 := by omega
              have HT : Hid (33 ≤ s[j].toNat ∧ s[j].toNat ≤ 126) := by constructor <;> omega
              clear c1 c2
              go_wp2
              go_roundg (gk - 1)
              case measure => omega
              case rel =>
                refine ⟨j + 1, by omega, by go_num, rfl, fun i hi hij => ?_⟩
                by_cases he : i = j
                · subst he; exact HT.out
                · exact HO.out i hi (by omega)
        · go_wp2
          go_ret
          exact ⟨ret_b (by rw [HN.out, okB_yes fun i hi => HO.out i hi (by omega)]), Below.refl _ _⟩


/-- What is there lies in blocks that are there. -/
theorem bound_row {α : Type} {E : Lay α} {sz bytes : Nat} {P : Nat → Prop} {w : World} {v : Value} {xs : List α} (h : IsRow E sz bytes P w v xs) (hE : ∀ f x, E P w f x → E (fun b => b < w.heap.size) w f x ∧ ∃ u, f 0 = some u) : IsRow E sz bytes (fun b => b < w.heap.size) w v xs := by
  obtain ⟨ad, cap, h1, h2, h3, h4, h5⟩ := h
  refine ⟨ad, cap, h1, h2, h3, h4, fun i x hx => ?_⟩
  obtain ⟨b, o, e1, e2, e3⟩ := h5 i x hx
  obtain ⟨k1, u, k2⟩ := hE _ _ e3
  exact ⟨b, o, e1, World.block_lt_of_cell? w _ k2, k1⟩
theorem bound_code {P : Nat → Prop} {w : World} {v : Value} {xs : List QI} (h : IsCode P w v xs) : IsCode (fun b => b < w.heap.size) w v xs := bound_row h fun f x hx => ⟨hx, _, hx.1⟩
theorem bound_vals {P : Nat → Prop} {w : World} {v : Value} {xs : List QV} (h : IsVals P w v xs) : IsVals (fun b => b < w.heap.size) w v xs := bound_row h fun f x hx => ⟨hx, _, hx.1⟩
theorem bound_meths {P : Nat → Prop} {w : World} {v : Value} {xs : List QM} (h : IsMeths P w v xs) : IsMeths (fun b => b < w.heap.size) w v xs := bound_row h fun f x hx => by
  obtain ⟨h0, h1, h2, h3, h4, c, h5, h6⟩ := hx
  exact ⟨⟨h0, h1, h2, h3, h4, c, h5, bound_code h6⟩, _, h0⟩
theorem bound_classes {P : Nat → Prop} {w : World} {v : Value} {xs : List QC} (h : IsClasses P w v xs) : IsClasses (fun b => b < w.heap.size) w v xs := bound_row h fun f x hx => by
  obtain ⟨h0, h1, h2, h3, c, h5, h6⟩ := hx
  exact ⟨⟨h0, h1, h2, h3, c, h5, bound_meths h6⟩, _, h0⟩
theorem bound_heap {P : Nat → Prop} {w : World} {v : Value} {xs : List QO} (h : IsHeap P w v xs) : IsHeap (fun b => b < w.heap.size) w v xs := bound_row h fun f x hx => by
  obtain ⟨h0, c, h5, h6⟩ := hx
  exact ⟨⟨h0, c, h5, bound_vals h6⟩, _, h0⟩

/-- A call's value. -/
abbrev ClV (s : QV) (name : ByteArray) (av : Value) : Value := .agg #[.int .i64 s.k, .int .i64 s.n, .string name, av]
theorem firstE_nought {α : Type} {f : Nat → α → Int} : ∀ {l : List α} {k : Nat}, (∀ i y, l[i]? = some y → f (k + i) y = 0) → firstE f k l = 0
  | [], _, _ => rfl
  | x :: r, k, h => by
    unfold firstE
    rw [if_neg (by have := h 0 x rfl; simpa using this)]
    exact firstE_nought fun i y hy => by have := h (i + 1) y (by simpa using hy); rw [show k + 1 + i = k + (i + 1) by omega]; exact this
structure WcR (w : World) (cv hv : Value) (ep : Int) (s : QV) (name : ByteArray) (av : Value) (w' : World) : Prop where
  bel : Below w.heap.size w w'
  w0 : w'.cell? ⟨w.heap.size, 0, none⟩ = some cv
  w1 : w'.cell? ⟨w.heap.size, 1, none⟩ = some hv
  w2 : w'.cell? ⟨w.heap.size, 2, none⟩ = some (.int .i64 ep)
  c0 : w'.cell? ⟨w.heap.size + 1, 0, none⟩ = some (.int .i64 s.k)
  c1 : w'.cell? ⟨w.heap.size + 1, 1, none⟩ = some (.int .i64 s.n)
  c2 : w'.cell? ⟨w.heap.size + 1, 2, none⟩ = some (.string name)
  c3 : w'.cell? ⟨w.heap.size + 1, 3, none⟩ = some av
theorem WcR.later {w : World} {cv hv : Value} {ep : Int} {s : QV} {name : ByteArray} {av : Value} {w' w'' : World} (h : WcR w cv hv ep s name av w') (hb : Below w'.heap.size w' w'') : WcR w cv hv ep s name av w'' :=
  ⟨nstep h.bel hb, cell_later hb h.w0, cell_later hb h.w1, cell_later hb h.w2, cell_later hb h.c0, cell_later hb h.c1, cell_later hb h.c2, cell_later hb h.c3⟩
theorem wcR_new (w : World) (cv hv : Value) (ep : Int) (s : QV) (name : ByteArray) (av : Value) : WcR w cv hv ep s name av ((w.alloc (.cells #[cv, hv, .int .i64 ep] 25)).alloc (.cells #[.int .i64 s.k, .int .i64 s.n, .string name, av] 30)) :=
  ⟨bel2 _ _ _, cell_later (bel1 _ _) (cell_new _ _ _ _ rfl 0), cell_later (bel1 _ _) (cell_new _ _ _ _ rfl 1), cell_later (bel1 _ _) (cell_new _ _ _ _ rfl 2), cell_new _ _ _ _ (by simp) 0, cell_new _ _ _ _ (by simp) 1, cell_new _ _ _ _ (by simp) 2, cell_new _ _ _ _ (by simp) 3⟩
set_option maxHeartbeats 2000000 in
theorem wrong_any {P Q : Nat → Prop} (X : QW) (s : QV) (name : ByteArray) (args : List QV) (fuel : Int) (cv hv av : Value) (w : World) (hcv : ∃ a n c, cv = .slice a n c) (hH : IsHeap P w hv X.heap) (hA : IsVals Q w av args) (hn : name.size ≤ 140737488351232) : Calls Try.prog 38 #[WV cv hv X.epoch, ClV s name av, .int .i64 fuel] w fun e w' => e = .returned (.int .i64 (wrongCallE X s name args fuel)) ∧ Below w.heap.size w w' := by
  have hR := wcR_new w cv hv X.epoch s name av
  obtain ⟨ah, ch, rfl, -⟩ := id hH
  obtain ⟨aa, ca, rfl, hal, hac, -, hrow⟩ := id hA
  obtain ⟨ac, nc, cc, rfl⟩ := hcv
  unfold maxLen at hac
  go_enter Try.func38, Try.ntmps38
  go_upto_region 1 with (fail)
  generalize ((w.alloc (.cells #[.slice ac nc cc, .slice ah X.heap.length ch, .int .i64 X.epoch] 25)).alloc (.cells #[.int .i64 s.k, .int .i64 s.n, .string name, .slice aa args.length ca] 30)) = W at *
  obtain ⟨-, w0, w1, w2, c0, c1, c2, c3⟩ := id hR
  go_wp2_with fail
  refine (name_any name _ hn).mono ?_
  rintro e w1' ⟨rfl, hb1⟩
  have hR1 := hR.later hb1
  clear w0 w1 w2 c0 c1 c2 c3 hR hb1
  obtain ⟨-, w0, w1, w2, c0, c1, c2, c3⟩ := id hR1
  cases hnb : nameB name with
  | false =>
    have HE : Hid (wrongCallE X s name args fuel = 7) := by show _ = _; unfold wrongCallE; rw [if_pos hnb]
    go_wp2
    go_ret
    exact ⟨ret_i HE.out.symm, hR1.bel⟩
  | true =>
    by_cases h4 : 4 < args.length
    · have HE : Hid (wrongCallE X s name args fuel = 5) := by show _ = _; unfold wrongCallE; rw [if_neg (by rw [hnb]; simp), if_pos h4]
      have h4' : (4 : Int) < (args.length : Int) := by omega
      go_wp2
      go_ret
      exact ⟨ret_i HE.out.symm, hR1.bel⟩
    have h4' : ¬ ((4 : Int) < (args.length : Int)) := by omega
    by_cases hf : fuel < 0
    · have HE : Hid (wrongCallE X s name args fuel = 3) := by show _ = _; unfold wrongCallE; rw [if_neg (by rw [hnb]; simp), if_neg h4, if_pos (Or.inl hf)]
      have hf' : decide (fuel < 0) = true := by simpa using hf
      go_wp2
      go_ret
      exact ⟨ret_i HE.out.symm, hR1.bel⟩
    have hf' : decide (fuel < 0) = false := by simpa using hf
    by_cases hg : 400 < fuel
    · have HE : Hid (wrongCallE X s name args fuel = 3) := by show _ = _; unfold wrongCallE; rw [if_neg (by rw [hnb]; simp), if_neg h4, if_pos (Or.inr hg)]
      have hg' : decide (400 < fuel) = true := by simpa using hg
      go_wp2
      go_ret
      exact ⟨ret_i HE.out.symm, hR1.bel⟩
    have hg' : decide (400 < fuel) = false := by simpa using hg
    have HE : Hid (wrongCallE X s name args fuel = if wrongV X.heap.length s ≠ 0 then wrongV X.heap.length s else firstE (fun _ v => wrongV X.heap.length v) 0 args) := by show _ = _; unfold wrongCallE; rw [if_neg (by rw [hnb]; simp), if_neg h4, if_neg (by omega)]
    clear hnb hf hg
    have hvw := fun w => vwrong_any s (X.heap.length : Int) w
    generalize wrongV X.heap.length s = ws at *
    go_wp2_with fail
    refine (hvw _).mono ?_
    rintro e w2' ⟨rfl, hb2⟩
    have hR2 := hR1.later hb2
    clear w0 w1 w2 c0 c1 c2 c3 hR1 hb2 hvw
    obtain ⟨-, w0, w1, w2, c0, c1, c2, c3⟩ := id hR2
    by_cases hws : ws = 0
    · have hws' : (ws != 0) = false := by simpa using hws
      rw [if_neg (by simpa using hws)] at HE
      clear hws
      go_wp2
      clear w0 w1 w2 c0 c1 c2 c3
      go_loopg [40] args.length (fun gk c wr => ∃ j : Nat, j + gk = args.length ∧ c = .int .i64 j ∧ WcR w (.slice ac nc cc) (.slice ah X.heap.length ch) X.epoch s name (.slice aa args.length ca) wr ∧ ∀ i y, i < j → args[i]? = some y → wrongV X.heap.length y = 0)
      case atStart => exact ⟨0, by omega, rfl, hR2, fun i y hi => by omega⟩
      case round =>
        clear hR2
        obtain ⟨j, hj, rfl, hRr, hok⟩ := hrel
        have HO := hid hok
        clear hok
        obtain ⟨-, w0, w1, w2, c0, c1, c2, c3⟩ := id hRr
        by_cases hlt : j < args.length
        · have hx : args[j]? = some args[j] := by simp [hlt]
          have HX := hid hx
          generalize args[j] = y at *
          obtain ⟨b, o, rfl, -, v0, v1⟩ := hrow j y hx
          simp only [Nat.add_zero] at v0
          have u0 := cell_later hRr.bel v0
          have u1 := cell_later hRr.bel v1
          clear v0 v1 hrow hx
          have hj1 : (j : Int) < (args.length : Int) := by omega
          have hj0 : (0 : Int) ≤ (j : Int) := by omega
          have hvw := fun w => vwrong_any y (X.heap.length : Int) w
          obtain ⟨wy, hwy⟩ : ∃ wy, wy = wrongV X.heap.length y := ⟨_, rfl⟩
          rw [← hwy] at hvw
          have HWY := hid hwy
          clear hwy
          have hRa := hRr.later (bel1 wr (.cells #[.int .i64 y.k, .int .i64 y.n] 27))
          have y0 : (wr.alloc (.cells #[.int .i64 y.k, .int .i64 y.n] 27)).cell? ⟨wr.heap.size, 0, none⟩ = some (.int .i64 y.k) := cell_new _ _ _ _ rfl 0
          have y1 : (wr.alloc (.cells #[.int .i64 y.k, .int .i64 y.n] 27)).cell? ⟨wr.heap.size, 1, none⟩ = some (.int .i64 y.n) := cell_new _ _ _ _ rfl 1
          go_upto_region 13 with (fail)
          clear w0 w1 w2 c0 c1 c2 c3 u0 u1 hRr
          generalize (wr.alloc (.cells #[.int .i64 y.k, .int .i64 y.n] 27)) = V at *
          obtain ⟨-, w0, w1, w2, c0, c1, c2, c3⟩ := id hRa
          go_wp2_with fail
          refine (hvw _).mono ?_
          rintro e w5 ⟨rfl, hb5⟩
          have hR5 := hRa.later hb5
          clear w0 w1 w2 c0 c1 c2 c3 hRa hb5 hvw y0 y1
          by_cases hz : wy = 0
          · have hz' : (wy != 0) = false := by simpa using hz
            go_wp2
            go_roundg (gk - 1)
            case measure => omega
            case rel =>
              refine ⟨j + 1, by omega, by go_num, hR5, fun i y' hi hy => ?_⟩
              by_cases hij : i = j
              · subst hij; rw [HX.out] at hy; cases hy; rw [← HWY.out]; exact hz
              · exact HO.out i y' (by omega) hy
          · have hz' : (wy != 0) = true := by simpa using hz
            go_wp2
            go_ret
            refine ⟨ret_i ?_, hR5.bel⟩
            have := firstE_from (f := fun _ v => wrongV X.heap.length v) (k := 0) HX.out (by rw [← HWY.out]; exact hz) (fun i y' hi hy => HO.out i y' hi hy)
            rw [HE.out, this, HWY.out]
        · obtain rfl : j = args.length := by omega
          go_wp2
          go_ret
          refine ⟨ret_i ?_, hRr.bel⟩
          rw [HE.out, firstE_nought fun i y hy => HO.out i y (lt_of_get hy) hy]
    · have hws' : (ws != 0) = true := by simpa using hws
      rw [if_pos hws] at HE
      go_wp2
      go_ret
      exact ⟨ret_i HE.out.symm, hR2.bel⟩

end Go.Proofs.Ytdfbgpiikeheiaa

/- Plain runs. -/
namespace Go.Proofs.Ytdfbgpiikeheiaa
open Go.ChangeShapes Go.WideShapes Go.ChangeAt Go.RowKit
set_option linter.unusedSimpArgs false
set_option linter.unusedVariables false
set_option maxRecDepth 8000

/-- The world in which is looked for each name anew, in block b. -/
structure LkP (X : QW) (b : Nat) (cv hv : Value) (T : Nat → Nat) (w : World) (st : Unit) (n : Nat) : Prop where
  tag : T b = 0
  lt : b < w.heap.size
  w0 : w.cell? ⟨b, 0, none⟩ = some cv
  w1 : w.cell? ⟨b, 1, none⟩ = some hv
  w2 : w.cell? ⟨b, 2, none⟩ = some (.int .i64 X.epoch)
  cls : IsClasses (Fx T w) w cv X.classes
  heap : IsHeap (Fx T w) w hv X.heap
theorem LkP.keep {X : QW} {b : Nat} {cv hv : Value} {T T' : Nat → Nat} {w w' : World} {st : Unit} {n : Nat} {S : Nat → Prop} (h : LkP X b cv hv T w st n) (e : Ext T T' w) (k : Kp S T w w') (h0 : ¬ S 0) : LkP X b cv hv T' w' st n :=
  ⟨by rw [e _ h.lt]; exact h.tag, Nat.lt_of_lt_of_le h.lt k.size, k.cell h.w0 (by rw [h.tag]; exact h0), k.cell h.w1 (by rw [h.tag]; exact h0), k.cell h.w2 (by rw [h.tag]; exact h0), h.cls.fx goodC e k h0, h.heap.fx goodO e k h0⟩
set_option maxHeartbeats 1000000 in
theorem finder1_any {X : QW} {b : Nat} {cv hv : Value} {T : Nat → Nat} {w : World} {n : Nat} (h : LkP X b cv hv T w () n) (s : QS) (c : Int) (name : ByteArray) : Calls Try.prog 61 #[SV s, .int .i64 c, .string name, .pointer (some ⟨b, 0, none⟩)] w fun e w' => e = .returned (.tuple #[.int .i64 (findE X.classes c name).1, .int .i64 (findE X.classes c name).2]) ∧ Below w.heap.size w w' := by
  have hb1 := bel1 w (.cells #[.int .i64 s.cls, .string s.name, .int .i64 s.at'] 42)
  have h1 := h.keep (T' := T) (.refl _ _) (Kp.of_below (S := fun _ => False) hb1) id
  have hf := fun w' (hb : Below (w.alloc (.cells #[.int .i64 s.cls, .string s.name, .int .i64 s.at'] 42)).heap.size (w.alloc (.cells #[.int .i64 s.cls, .string s.name, .int .i64 s.at'] 42)) w') => find_any X c name cv hv w' ((h1.cls.mono (Q := fun _ => True) goodC fun _ _ => trivial).later goodC hb) ((h1.heap.mono (Q := fun _ => True) goodO fun _ _ => trivial).later goodO hb)
  obtain ⟨-, -, w0, w1, w2, hc, hh⟩ := id h1
  obtain ⟨ac, cc, rfl, -⟩ := id hc
  obtain ⟨ah, ch, rfl, -⟩ := id hh
  clear h h1 hc hh
  obtain ⟨r1, r2, hr⟩ : ∃ r1 r2, findE X.classes c name = (r1, r2) := ⟨_, _, rfl⟩
  rw [hr] at hf ⊢
  clear hr
  go_enter Try.func61, Try.ntmps61
  go_upto_region 1 with (fail)
  generalize (w.alloc (.cells #[.int .i64 s.cls, .string s.name, .int .i64 s.at'] 42)) = W at *
  go_wp2_with fail
  refine (hf _ (Below.refl _ _)).mono ?_
  rintro e w2' ⟨rfl, hb2⟩
  have HB := hid (nstep hb1 hb2)
  clear w0 w1 w2 hf hb2
  go_wp2
  refine bodyPost_ret (v := .tuple #[.int .i64 r1, .int .i64 r2]) ?_ rfl ⟨rfl, HB.out⟩
  simp [results, Try.results61, go_sem]

section
variable {σ : Type} {p : Mp σ} {L : (Nat → Nat) → World → σ → Nat → Prop} {LF QF : Nat} {lc qc : Array Value} {T : Nat → Nat} {w : World} {mb : Nat} {m : Mc σ} {hv : Value} {g : Nat} {s : Nat → Nat} {K : Nat}
structure FsR (w : World) (mb : Nat) (v0 v1 : Value) (ep : Int) (s : QV) (name : ByteArray) (av : Value) (w' : World) : Prop where
  bel : Below w.heap.size w w'
  m0 : w'.cell? ⟨mb, 0, none⟩ = some v0
  m1 : w'.cell? ⟨mb, 1, none⟩ = some v1
  m2 : w'.cell? ⟨mb, 2, none⟩ = some (.int .i64 ep)
  c0 : w'.cell? ⟨w.heap.size, 0, none⟩ = some (.int .i64 s.k)
  c1 : w'.cell? ⟨w.heap.size, 1, none⟩ = some (.int .i64 s.n)
  c2 : w'.cell? ⟨w.heap.size, 2, none⟩ = some (.string name)
  c3 : w'.cell? ⟨w.heap.size, 3, none⟩ = some av
  r0 : w'.cell? ⟨w.heap.size + 1, 0, none⟩ = some (.int .i64 0)
  r1 : w'.cell? ⟨w.heap.size + 1, 1, none⟩ = some (.int .i64 0)
  rf : ∀ o, w'.frozen? ⟨w.heap.size + 1, o, none⟩ = false
  sz : w.heap.size + 2 ≤ w'.heap.size
theorem FsR.later {w : World} {mb : Nat} {v0 v1 : Value} {ep : Int} {s : QV} {name : ByteArray} {av : Value} {w' w'' : World} (h : FsR w mb v0 v1 ep s name av w') (hb : Below w'.heap.size w' w'') : FsR w mb v0 v1 ep s name av w'' :=
  ⟨nstep h.bel hb, cell_later hb h.m0, cell_later hb h.m1, cell_later hb h.m2, cell_later hb h.c0, cell_later hb h.c1, cell_later hb h.c2, cell_later hb h.c3, cell_later hb h.r0, cell_later hb h.r1, fun o => (hb.frozen (p := ⟨w.heap.size + 1, o, none⟩) (by have := h.sz; simp only; omega)).trans (h.rf o), Nat.le_trans h.sz hb.size⟩
theorem FsR.al {w : World} {mb : Nat} {v0 v1 : Value} {ep : Int} {s : QV} {name : ByteArray} {av : Value} {w' : World} (h : FsR w mb v0 v1 ep s name av w') : w'.cell? ⟨mb, 0, none⟩ = some v0 ∧ w'.cell? ⟨mb, 1, none⟩ = some v1 ∧ w'.cell? ⟨mb, 2, none⟩ = some (.int .i64 ep) ∧ w'.cell? ⟨w.heap.size, 0, none⟩ = some (.int .i64 s.k) ∧ w'.cell? ⟨w.heap.size, 1, none⟩ = some (.int .i64 s.n) ∧ w'.cell? ⟨w.heap.size, 2, none⟩ = some (.string name) := ⟨h.m0, h.m1, h.m2, h.c0, h.c1, h.c2⟩
set_option maxHeartbeats 4000000 in
theorem first_any (hC : Cx p L LF lc QF qc) (h : MacAt p T w mb m 0 hv g s) (hL : L T w m.st (p.E.fuel - m.sends).toNat) (hI : MIn p.E m) (sf : QV) (name : ByteArray) (args : List QV) (av : Value) (hSe : wrongV m.heap.length sf = 0) (hAr : VsOk m.heap.length args) (hA : IsVals (Fx T w) w av args) (hK5 : 5 ≤ K) :
    Calls Try.prog 41 #[.pointer (some ⟨mb, 0, none⟩), ClV sf name av] w fun e w' => EnPost p L T w mb 0 K (entE p.E 20 m (findE p.E.classes (classV m.heap sf) name).1 (findE p.E.classes (classV m.heap sf) name).2 sf args) e w' := by
  have hX := tagged_ext T w 4
  have hT4 : ∀ b, w.heap.size ≤ b → tagged T w 4 b = 4 := fun b hb => tagged_new hb
  have hb1 : Below w.heap.size w ((w.alloc (.cells #[.int .i64 sf.k, .int .i64 sf.n, .string name, av] 30)).alloc (.cells #[.int .i64 0, .int .i64 0] 27)).drew := (bel2 w _ _).drew
  have hM0 := (h.tagged0 4).later hb1
  have hA0 := (fx_tagged hA goodV 4).fx goodV (.refl _ w) (Kp.of_below (S := fun _ => False) hb1) id
  have hL0 := hC.keep (hC.keep hL hX (Kp.refl (fun _ => False) _ _) id id) (.refl _ _) (Kp.of_below (S := fun _ => False) hb1) id id
  have hFs : FsR w mb p.cv hv p.ep sf name av ((w.alloc (.cells #[.int .i64 sf.k, .int .i64 sf.n, .string name, av] 30)).alloc (.cells #[.int .i64 0, .int .i64 0] 27)).drew := by
    refine ⟨hb1, hM0.c0, hM0.c1, hM0.c2, cell_later (bel1 _ _).drew (cell_new w #[.int .i64 sf.k, .int .i64 sf.n, .string name, av] 30 _ rfl 0), cell_later (bel1 _ _).drew (cell_new w #[.int .i64 sf.k, .int .i64 sf.n, .string name, av] 30 _ rfl 1), cell_later (bel1 _ _).drew (cell_new w #[.int .i64 sf.k, .int .i64 sf.n, .string name, av] 30 _ rfl 2), cell_later (bel1 _ _).drew (cell_new w #[.int .i64 sf.k, .int .i64 sf.n, .string name, av] 30 _ rfl 3), cell_new _ _ _ _ (by simp) 0, cell_new _ _ _ _ (by simp) 1, fun o => row_free (cur := #[.int .i64 0, .int .i64 0]) (t := 27) ?_ o, by simp⟩
    rw [drew_heap]
    have := heap_alloc_new (w.alloc (.cells #[.int .i64 sf.k, .int .i64 sf.n, .string name, av] 30)) (.cells #[.int .i64 0, .int .i64 0] 27)
    simpa using this
  have hlm := blk_lt h.box
  obtain ⟨aa, ca, rfl, -⟩ := id hA
  clear h hA hL
  generalize tagged T w 4 = T1 at *
  have t1 : T1 (w.heap.size + 1) = 4 := hT4 _ (by omega)
  go_enter Try.func41, Try.ntmps41
  go_upto_region 1 with (fail)
  generalize ((w.alloc (.cells #[.int .i64 sf.k, .int .i64 sf.n, .string name, .slice aa args.length ca] 30)).alloc (.cells #[.int .i64 0, .int .i64 0] 27)) = W at *
  have hcl := hM0.cls.mono (Q := fun _ => True) goodC fun _ _ => trivial
  have hhp := hM0.heap.heap.mono (Q := fun _ => True) goodO fun _ _ => trivial
  obtain ⟨ch, rfl, -⟩ := hM0.heap.form
  obtain ⟨ac, cc, hcv, -⟩ := id hcl
  have hcls : ∀ w' : World, Below W.drew.heap.size W.drew w' → Calls Try.prog 62 #[.slice (some ⟨g, 0, none⟩) m.heap.length ch, VV sf] w' fun e w'' => e = .returned (.int .i64 (classV m.heap sf)) ∧ Below w'.heap.size w' w'' := fun w' hb => vclass_any m.heap _ sf w' (hhp.later goodO hb)
  have hfin : ∀ w' : World, Below W.drew.heap.size W.drew w' → Calls Try.prog 53 #[WV p.cv (.slice (some ⟨g, 0, none⟩) m.heap.length ch) p.ep, .int .i64 (classV m.heap sf), .string name] w' fun e w'' => e = .returned (.tuple #[.int .i64 (findE p.E.classes (classV m.heap sf) name).1, .int .i64 (findE p.E.classes (classV m.heap sf) name).2]) ∧ Below w'.heap.size w' w'' := fun w' hb => find_any ⟨p.E.classes, m.heap, p.ep⟩ (classV m.heap sf) name p.cv _ w' (hcl.later goodC hb) (hhp.later goodO hb)
  have HM0 := hid hM0
  rw [hcv] at hfin hFs
  clear hcv hcl hhp hM0
  obtain ⟨c0, hc0⟩ : ∃ c0, c0 = classV m.heap sf := ⟨_, rfl⟩
  rw [← hc0] at hcls hfin
  obtain ⟨r1, r2, hr⟩ : ∃ r1 r2, findE p.E.classes c0 name = (r1, r2) := ⟨_, _, rfl⟩
  rw [hr] at hfin
  have HRO : Hid (entE p.E 20 m (findE p.E.classes (classV m.heap sf) name).1 (findE p.E.classes (classV m.heap sf) name).2 sf args = entE p.E 20 m r1 r2 sf args) := by show _ = _; rw [← hc0, hr]
  clear hc0 hr
  have hS0 := hFs.al
  have tokA : True := trivial
  go_region_held3 (fun w' => w'.cell? ⟨mb, 0, none⟩ = some (.slice ac p.E.classes.length cc) ∧ w'.cell? ⟨mb, 1, none⟩ = some (.slice (some ⟨g, 0, none⟩) m.heap.length ch) ∧ w'.cell? ⟨mb, 2, none⟩ = some (.int .i64 p.ep) ∧ w'.cell? ⟨w.heap.size, 0, none⟩ = some (.int .i64 sf.k) ∧ w'.cell? ⟨w.heap.size, 1, none⟩ = some (.int .i64 sf.n) ∧ w'.cell? ⟨w.heap.size, 2, none⟩ = some (.string name))
    (first | with_reducible exact hS0 | with_reducible exact hS1 | with_reducible exact hS2)
    (first
      | (have _t := tokA; go_at_call 62; refine (hcls _ (Below.refl _ _)).mono ?_; rintro e w3 ⟨rfl, hb3⟩; have hF3 := hFs.later hb3; have hS1 := hF3.al; clear tokA; have tokB : True := trivial)
      | (have _t := tokB; go_at_call 53; refine (hfin _ hb3).mono ?_; rintro e w4 ⟨rfl, hb4⟩; have hF4 := hF3.later hb4; have hS2 := hF4.al; have hb34 := nstep hb3 hb4; clear tokB))
  have hM4 := HM0.out.later hb34
  have hA4 := hA0.fx goodV (.refl _ _) (Kp.of_below (S := fun _ => False) hb34) id
  have hL4 := hC.keep hL0 (.refl _ _) (Kp.of_below (S := fun _ => False) hb34) id id
  have hent := enter_all hC 20 (Nat.le_refl _) K T1 w4 mb m _ _ _ r1 r2 sf args _ hK5 hM4 hL4 hI hSe hAr hA4
  have HKW := hid (Kp.of_below (S := All K) (T := T) hF4.bel)
  obtain ⟨-, m0, m1, m2, c0', c1, c2, c3, r0, r1', rf, sz⟩ := id hF4
  have H4 := hid hF4
  clear hS0 hS1 hS2 hcls hfin hF3 hF4 hFs hb3 hb4 hb34 hM4 hA4 hL4
  obtain ⟨R, hR⟩ : ∃ R, entE p.E 20 m r1 r2 sf args = R := ⟨_, rfl⟩
  rw [hR] at hent HRO
  clear hR
  go_wp2_with fail
  refine hent.mono ?_
  rintro e w6 ⟨rfl, ⟨T6, hX6, ⟨hv6, g6, s6, hM6⟩, hL6⟩, hK6⟩
  have q0 := hK6.cell r0 (by rw [t1]; unfold All; omega)
  have q1 := hK6.cell r1' (by rw [t1]; unfold All; omega)
  have qf : ∀ o, w6.frozen? ⟨w.heap.size + 1, o, none⟩ = false := fun o => kp_frozen hK6 (by omega) (by rw [t1]; unfold All; omega) (rf o)
  have t6 : T6 (w.heap.size + 1) = 4 := by rw [hX6 _ (by omega)]; exact t1
  have HQ := hid fun u0 u1 => EnPost.fin (r := R) hC (hX.trans HKW.out.size hX6) (show MacAt p T6 w6 mb R.1 0 hv6 g6 s6 from hM6) hL6 (HKW.out.trans hX hK6) t6 u0 u1
  clear hent hM6 hL6 hK6 hX6 m0 m1 m2 c0' c1 c2 c3 r0 r1' rf
  obtain ⟨rm, v, er⟩ := R
  go_wp2
  rw [HRO.out]
  refine bodyPost_ret (v := .tuple #[VV v, .int .i64 er]) ?_ rfl (HQ.out _ _)
  simp [results, Try.results41, go_sem, q0, q1]
end

/-- What comes of a run, as a value. -/
abbrev RnV (r : Ran) : Value := .agg #[.int .i64 r.v.k, .int .i64 r.v.n, .int .i64 r.err, .int .i64 r.sends]
/-- What a run leaves, whoever looks: what is old is as it was, but for what is remembered. -/
def WiPost {σ : Type} (L : (Nat → Nat) → World → σ → Nat → Prop) (T0 : Nat → Nat) (w : World) (X : QW) (r : Ran × σ) (e : Ending) (w' : World) : Prop :=
  Kp (fun t => t = 3) T0 w w' ∧ ∃ T', Ext T0 T' w ∧ L T' w' r.2 0 ∧ ∃ cv hv, e = .returned (.tuple #[WV cv hv X.epoch, RnV r.1]) ∧ IsClasses (fun b => w.heap.size ≤ b ∧ T' b ≠ 3) w' cv X.classes ∧ IsHeap (fun b => w.heap.size ≤ b ∧ T' b ≠ 3) w' hv r.1.heap
/-- What With's walk holds of its boxes. -/
structure WtR (w : World) (cv hv : Value) (ep : Int) (s : QV) (name : ByteArray) (av : Value) (w' : World) : Prop where
  w0 : w'.cell? ⟨w.heap.size, 0, none⟩ = some cv
  w1 : w'.cell? ⟨w.heap.size, 1, none⟩ = some hv
  w2 : w'.cell? ⟨w.heap.size, 2, none⟩ = some (.int .i64 ep)
  c0 : w'.cell? ⟨w.heap.size + 1, 0, none⟩ = some (.int .i64 s.k)
  c1 : w'.cell? ⟨w.heap.size + 1, 1, none⟩ = some (.int .i64 s.n)
  c2 : w'.cell? ⟨w.heap.size + 1, 2, none⟩ = some (.string name)
  c3 : w'.cell? ⟨w.heap.size + 1, 3, none⟩ = some av
  a0 : w'.cell? ⟨w.heap.size + 2, 0, none⟩ = some (.slice none 0 0)
  a1 : w'.cell? ⟨w.heap.size + 2, 1, none⟩ = some (.slice none 0 0)
  a2 : w'.cell? ⟨w.heap.size + 2, 2, none⟩ = some (.int .i64 0)
  af : ∀ o, w'.frozen? ⟨w.heap.size + 2, o, none⟩ = false
  b0 : w'.cell? ⟨w.heap.size + 3, 0, none⟩ = some (.int .i64 0)
  b1 : w'.cell? ⟨w.heap.size + 3, 1, none⟩ = some (.int .i64 0)
  b2 : w'.cell? ⟨w.heap.size + 3, 2, none⟩ = some (.int .i64 0)
  b3 : w'.cell? ⟨w.heap.size + 3, 3, none⟩ = some (.int .i64 0)
  bf : ∀ o, w'.frozen? ⟨w.heap.size + 3, o, none⟩ = false
  sz : w.heap.size + 4 ≤ w'.heap.size
theorem WtR.kp {w : World} {cv hv : Value} {ep : Int} {s : QV} {name : ByteArray} {av : Value} {w' w'' : World} {S : Nat → Prop} {T : Nat → Nat} (h : WtR w cv hv ep s name av w') (k : Kp S T w' w'') (hs : ∀ i, i < 4 → ¬ S (T (w.heap.size + i))) : WtR w cv hv ep s name av w'' :=
  have hz := h.sz
  ⟨k.cell h.w0 (hs 0 (by omega)), k.cell h.w1 (hs 0 (by omega)), k.cell h.w2 (hs 0 (by omega)), k.cell h.c0 (hs 1 (by omega)), k.cell h.c1 (hs 1 (by omega)), k.cell h.c2 (hs 1 (by omega)), k.cell h.c3 (hs 1 (by omega)), k.cell h.a0 (hs 2 (by omega)), k.cell h.a1 (hs 2 (by omega)), k.cell h.a2 (hs 2 (by omega)), fun o => kp_frozen k (by omega) (hs 2 (by omega)) (h.af o), k.cell h.b0 (hs 3 (by omega)), k.cell h.b1 (hs 3 (by omega)), k.cell h.b2 (hs 3 (by omega)), k.cell h.b3 (hs 3 (by omega)), fun o => kp_frozen k (by omega) (hs 3 (by omega)) (h.bf o), Nat.le_trans hz k.size⟩
theorem WtR.later {w : World} {cv hv : Value} {ep : Int} {s : QV} {name : ByteArray} {av : Value} {w' w'' : World} (h : WtR w cv hv ep s name av w') (hb : Below w'.heap.size w' w'') : WtR w cv hv ep s name av w'' := h.kp (T := fun _ => 0) (Kp.of_below (S := fun _ => False) hb) fun _ _ => id
theorem wtR_new (w : World) (cv hv : Value) (ep : Int) (s : QV) (name : ByteArray) (av : Value) : WtR w cv hv ep s name av ((((w.alloc (.cells #[cv, hv, .int .i64 ep] 25)).alloc (.cells #[.int .i64 s.k, .int .i64 s.n, .string name, av] 30)).alloc (.cells #[.slice none 0 0, .slice none 0 0, .int .i64 0] 25)).alloc (.cells #[.int .i64 0, .int .i64 0, .int .i64 0, .int .i64 0] 35)) := by
  obtain ⟨-, w0, w1, w2, c0, c1, c2, c3⟩ := wcR_new w cv hv ep s name av
  have q := bel2 ((w.alloc (.cells #[cv, hv, .int .i64 ep] 25)).alloc (.cells #[.int .i64 s.k, .int .i64 s.n, .string name, av] 30)) (.cells #[.slice none 0 0, .slice none 0 0, .int .i64 0] 25) (.cells #[.int .i64 0, .int .i64 0, .int .i64 0, .int .i64 0] 35)
  have e2 : ((w.alloc (.cells #[cv, hv, .int .i64 ep] 25)).alloc (.cells #[.int .i64 s.k, .int .i64 s.n, .string name, av] 30)).heap.size = w.heap.size + 2 := by simp
  have e3 : (((w.alloc (.cells #[cv, hv, .int .i64 ep] 25)).alloc (.cells #[.int .i64 s.k, .int .i64 s.n, .string name, av] 30)).alloc (.cells #[.slice none 0 0, .slice none 0 0, .int .i64 0] 25)).heap.size = w.heap.size + 3 := by simp
  refine ⟨cell_later q w0, cell_later q w1, cell_later q w2, cell_later q c0, cell_later q c1, cell_later q c2, cell_later q c3, cell_later (bel1 _ _) (cell_new _ _ _ _ e2 0), cell_later (bel1 _ _) (cell_new _ _ _ _ e2 1), cell_later (bel1 _ _) (cell_new _ _ _ _ e2 2), fun o => ((bel1 _ _).frozen (p := ⟨w.heap.size + 2, o, none⟩) (by rw [e3]; simp)).trans (row_free (cur := #[.slice none 0 0, .slice none 0 0, .int .i64 0]) (t := 25) (blk_new _ _ _ e2) o), cell_new _ _ _ _ e3 0, cell_new _ _ _ _ e3 1, cell_new _ _ _ _ e3 2, cell_new _ _ _ _ e3 3, row_free (cur := #[.int .i64 0, .int .i64 0, .int .i64 0, .int .i64 0]) (t := 35) (blk_new _ _ _ e3), by simp⟩
end Go.Proofs.Ytdfbgpiikeheiaa

/- With, and Plain. -/
namespace Go.Proofs.Ytdfbgpiikeheiaa
open Go.ChangeShapes Go.WideShapes Go.ChangeAt Go.RowKit
set_option linter.unusedSimpArgs false
set_option linter.unusedVariables false
set_option maxRecDepth 8000

theorem OwnC.rowIn {w : World} {B : Nat} {xs : List QC} {s : Nat → Nat} (h : OwnC w B xs s xs.length) (hby : xs.length * 56 ≤ 140737488351232) : IsClasses (fun b => B ≤ b ∧ b < s xs.length) w (.slice (some ⟨B, 0, none⟩) xs.length xs.length) xs := by
  have hB := h.2.1
  have h0n := h.mono 0 xs.length (by omega) (Nat.le_refl _)
  refine ⟨_, _, rfl, Nat.le_refl _, by unfold maxLen; omega, hby, fun i x hx => ⟨B, 0, rfl, ⟨Nat.le_refl _, by omega⟩, ?_⟩⟩
  have hi := lt_of_get hx
  have hn := h.mono (i + 1) xs.length (by omega) (Nat.le_refl _)
  have hk := h.2.2.2.2 i x hi hx
  have hm := h.mono 0 i (by omega) (by omega)
  obtain ⟨g, hg, hlo, hM⟩ := hk.meths
  obtain ⟨h0, h1, h2, h3, -⟩ := hk
  simp only [Nat.zero_add]
  exact ⟨h0, h1, h2, h3, _, hg, hM.mono goodM fun b hb => ⟨by have := hb.1; omega, by have := hb.2; omega⟩⟩
/-- A copy of a world: the classes lie below the objects. -/
theorem ownX_any {P : Nat → Prop} (X : QW) (cv hv : Value) (w : World) (h1 : IsClasses P w cv X.classes) (h2 : IsHeap P w hv X.heap) : Calls Try.prog 39 #[WV cv hv X.epoch] w fun e w' => ∃ g gh sh, e = .returned (WV (.slice (some ⟨g, 0, none⟩) X.classes.length X.classes.length) (.slice (some ⟨gh, 0, none⟩) X.heap.length X.heap.length) X.epoch) ∧ IsClasses (fun b => w.heap.size ≤ b ∧ b < gh) w' (.slice (some ⟨g, 0, none⟩) X.classes.length X.classes.length) X.classes ∧ HRow w' gh sh X.heap X.heap.length ∧ w.heap.size ≤ gh ∧ Below w.heap.size w w' := by
  obtain ⟨a1, c1, e1, -, -, b1, -⟩ := id h1
  refine (own_any X cv hv w h1 h2).mono ?_
  rintro e w' ⟨g, gh, s, rfl, hO, ⟨sh, hR⟩, hs, hg, hb⟩
  have hB := hO.2.1
  have h0n := hO.mono 0 X.classes.length (by omega) (Nat.le_refl _)
  exact ⟨g, gh, sh, rfl, (hO.rowIn b1).mono goodC fun b hb => ⟨by have := hb.1; omega, by have := hb.2; omega⟩, hR, by omega, hb⟩
theorem HRow.isHeap {w : World} {g : Nat} {s : Nat → Nat} {xs : List QO} (h : HRow w g s xs xs.length) (hby : xs.length * 32 ≤ 140737488351232) : IsHeap (fun b => g ≤ b) w (.slice (some ⟨g, 0, none⟩) xs.length xs.length) xs := by
  have hT : ∀ b, g ≤ b → b < w.heap.size → (fun b => if g ≤ b then 2 else 0) b = 2 := fun b hb _ => by simp [hb]
  refine (h.heap hby hT).heap.mono goodO fun b hb => ?_
  have := hb.2
  simp only at this
  split at this
  · assumption
  · cases this
section
variable {σ : Type} {L : (Nat → Nat) → World → σ → Nat → Prop} {LF QF : Nat} {lc qc : Array Value}
/-- What is remembered stays so, whatever else is changed. -/
structure Lok (L : (Nat → Nat) → World → σ → Nat → Prop) : Prop where
  keep : ∀ {T T' : Nat → Nat} {w w' : World} {st : σ} {n : Nat} {S : Nat → Prop}, L T w st n → Ext T T' w → Kp S T w w' → ¬ S 0 → ¬ S 3 → L T' w' st n
  mono : ∀ {T : Nat → Nat} {w : World} {st : σ} {n n' : Nat}, L T w st n → n' ≤ n → L T w st n'
theorem WiPost.fin (hCx : Lok L) {w U : World} {X : QW} {r : Ran × σ} {cv hv : Value} {P : Nat → Prop} {T0 T1 : Nat → Nat} {n : Nat} (hk : Kp (fun t => t = 3) T0 w U) (hE : Ext T0 T1 w) (hL : L T1 U r.2 n) (t2 : T1 (w.heap.size + 2) = 4) (t3 : T1 (w.heap.size + 3) = 4) (hC : IsClasses P U cv X.classes) (hH : IsHeap P U hv r.1.heap) (h2 : ¬ P (w.heap.size + 2)) (h3 : ¬ P (w.heap.size + 3)) (hP : ∀ x, P x → w.heap.size ≤ x ∧ T1 x ≠ 3) (u0 u1 u2 v0 v1 v2 v3 : Value) :
    WiPost L T0 w X r (.returned (.tuple #[WV cv hv X.epoch, RnV r.1])) (((((((U.setCell ⟨w.heap.size + 2, 0, none⟩ u0).setCell ⟨w.heap.size + 2, 1, none⟩ u1).setCell ⟨w.heap.size + 2, 2, none⟩ u2).setCell ⟨w.heap.size + 3, 0, none⟩ v0).setCell ⟨w.heap.size + 3, 1, none⟩ v1).setCell ⟨w.heap.size + 3, 2, none⟩ v2).setCell ⟨w.heap.size + 3, 3, none⟩ v3) := by
  have k : Keeps P U (((((((U.setCell ⟨w.heap.size + 2, 0, none⟩ u0).setCell ⟨w.heap.size + 2, 1, none⟩ u1).setCell ⟨w.heap.size + 2, 2, none⟩ u2).setCell ⟨w.heap.size + 3, 0, none⟩ v0).setCell ⟨w.heap.size + 3, 1, none⟩ v1).setCell ⟨w.heap.size + 3, 2, none⟩ v2).setCell ⟨w.heap.size + 3, 3, none⟩ v3) := keep_set (keep_set (keep_set (keep_set (keep_set (keep_set (keep_set (Keeps.refl _ _) h2 _) h2 _) h2 _) h3 _) h3 _) h3 _) h3 _
  have hn2 : ¬ w.heap.size + 2 < w.heap.size := by omega
  have hn3 : ¬ w.heap.size + 3 < w.heap.size := by omega
  have k4 : Kp (fun t => t = 4) T1 U (((((((U.setCell ⟨w.heap.size + 2, 0, none⟩ u0).setCell ⟨w.heap.size + 2, 1, none⟩ u1).setCell ⟨w.heap.size + 2, 2, none⟩ u2).setCell ⟨w.heap.size + 3, 0, none⟩ v0).setCell ⟨w.heap.size + 3, 1, none⟩ v1).setCell ⟨w.heap.size + 3, 2, none⟩ v2).setCell ⟨w.heap.size + 3, 3, none⟩ v3) := (((((((Kp.refl _ _ _).set (fun _ => t2) _ _).set (fun _ => t2) _ _).set (fun _ => t2) _ _).set (fun _ => t3) _ _).set (fun _ => t3) _ _).set (fun _ => t3) _ _).set (fun _ => t3) _ _
  refine ⟨((((((hk.set (fun h => absurd h hn2) _ _).set (fun h => absurd h hn2) _ _).set (fun h => absurd h hn2) _ _).set (fun h => absurd h hn3) _ _).set (fun h => absurd h hn3) _ _).set (fun h => absurd h hn3) _ _).set (fun h => absurd h hn3) _ _, T1, hE, hCx.mono (hCx.keep hL (.refl _ _) k4 (by omega) (by omega)) (Nat.zero_le _), cv, hv, rfl, hC.keep goodC k hP, hH.keep goodO k hP⟩
theorem WiPost.drew (hCx : Lok L) {w w' : World} {X : QW} {r : Ran × σ} {T0 : Nat → Nat} {e : Ending} (h : WiPost L T0 w X r e w') : WiPost L T0 w X r e w'.drew := by
  obtain ⟨hb, T', hE, hL, cv, hv, rfl, h1, h2⟩ := h
  exact ⟨hb.drew, T', hE, hCx.keep hL (.refl _ _) (Kp.refl (fun _ => False) _ _).drew id id, cv, hv, rfl, h1.later goodC (Below.refl _ _).drew, h2.later goodO (Below.refl _ _).drew⟩
end
theorem run_equalIn_fnil (d : Nat) (t : TypeId) (k : Nat) (c : Array Value) (w : World) {a b v} (h : Try.prog.underlying t = some (.func a b v)) : (Op.equalIn (d + 1) t (.func (.func k) #[] c) .nilFunc).run Try.prog w = .ok false w := by
  simp [Op.equalIn, run_underlying h]
theorem eqlF62 (k : Nat) (c : Array Value) (w : World) : (binOp .eql 86 (.func (.func k) #[] c) .nilFunc).run Try.prog w = .ok (.bool false) w := by
  simp only [binOp]
  have : (Op.equal 86 (.func (.func k) #[] c) .nilFunc).run Try.prog w = .ok false w := run_equalIn_fnil 9999 86 k c w Try.underlying86
  simp [this]
theorem eqlF85 (k : Nat) (c : Array Value) (w : World) : (binOp .eql 104 (.func (.func k) #[] c) .nilFunc).run Try.prog w = .ok (.bool false) w := by
  simp only [binOp]
  have : (Op.equal 104 (.func (.func k) #[] c) .nilFunc).run Try.prog w = .ok false w := run_equalIn_fnil 9999 104 k c w Try.underlying104
  simp [this]
/-- Tags when a machine is made: the boxes of With 4, classes 0, objects 2, the machine 1. -/
def tagW (T0 : Nat → Nat) (n gh mb : Nat) : Nat → Nat := fun x => if x < n then T0 x else if x < n + 4 then 4 else if x < gh then 0 else if x < mb then 2 else 1
/-- What the last statement of a run that failed holds. -/
structure EeR (w : World) (mb : Nat) (v0 v1 : Value) (ep n : Int) (w' : World) : Prop where
  w0 : w'.cell? ⟨w.heap.size, 0, none⟩ = some v0
  w1 : w'.cell? ⟨w.heap.size, 1, none⟩ = some v1
  w2 : w'.cell? ⟨w.heap.size, 2, none⟩ = some (.int .i64 ep)
  m4 : w'.cell? ⟨mb, 4, none⟩ = some (.int .i64 n)
  lt : w.heap.size + 4 ≤ mb
theorem EeR.later {w : World} {mb : Nat} {v0 v1 : Value} {ep n : Int} {w' w'' : World} (h : EeR w mb v0 v1 ep n w') (hb : Below w'.heap.size w' w'') : EeR w mb v0 v1 ep n w'' := ⟨cell_later hb h.w0, cell_later hb h.w1, cell_later hb h.w2, cell_later hb h.m4, h.lt⟩
theorem EeR.set {w : World} {mb : Nat} {v0 v1 : Value} {ep n : Int} {w' : World} (h : EeR w mb v0 v1 ep n w') {b : Nat} (hb : b = w.heap.size + 2 ∨ b = w.heap.size + 3) (o : Nat) (u : Value) : EeR w mb v0 v1 ep n (w'.setCell ⟨b, o, none⟩ u) :=
  have hl := h.lt
  ⟨(World.cell?_setCell_far _ _ _ _ (by simp; omega)).trans h.w0, (World.cell?_setCell_far _ _ _ _ (by simp; omega)).trans h.w1, (World.cell?_setCell_far _ _ _ _ (by simp; omega)).trans h.w2, (World.cell?_setCell_far _ _ _ _ (by simp; omega)).trans h.m4, hl⟩
theorem EeR.al {w : World} {mb : Nat} {v0 v1 : Value} {ep n : Int} {w' : World} (h : EeR w mb v0 v1 ep n w') : w'.cell? ⟨w.heap.size, 0, none⟩ = some v0 ∧ w'.cell? ⟨w.heap.size, 1, none⟩ = some v1 ∧ w'.cell? ⟨w.heap.size, 2, none⟩ = some (.int .i64 ep) ∧ w'.cell? ⟨mb, 4, none⟩ = some (.int .i64 n) := ⟨h.w0, h.w1, h.w2, h.m4⟩
set_option maxHeartbeats 8000000 in
theorem with_any {σ : Type} {L : (Nat → Nat) → World → σ → Nat → Prop} {LF QF : Nat} {lc qc : Array Value} {T0 : Nat → Nat} (X : QW) (hX : rightE X = 0) (E : Env σ) (st0 : σ) (hEc : E.classes = X.classes) (s : QV) (name : ByteArray) (args : List QV) (cv hv av : Value) (w : World) (hTo : ∀ x, x < w.heap.size → T0 x = 0 ∨ T0 x = 3) (hC : IsClasses (Fx T0 w) w cv X.classes) (hH : IsHeap (Fx T0 w) w hv X.heap) (hA : IsVals (Fx T0 w) w av args) (hn : name.size ≤ 140737488351232) (hLo : Lok L) (hL : L T0 w st0 (min E.fuel.toNat 400)) (hCx : 0 ≤ E.fuel → E.fuel ≤ 400 → ∀ cv', Cx (⟨E, cv', X.epoch, .func (.func LF) #[] lc, .func (.func QF) #[] qc⟩ : Mp σ) L LF lc QF qc) :
    Calls Try.prog 12 #[WV cv hv X.epoch, ClV s name av, .int .i64 E.fuel, .func (.func LF) #[] lc, .func (.func QF) #[] qc] w fun e w' => WiPost L T0 w X (withE E X st0 s name args E.fuel) e w' := by
  obtain ⟨fuel, hfuel⟩ : ∃ fuel, E.fuel = fuel := ⟨_, rfl⟩
  rw [hfuel] at hL ⊢
  have HFU := hid hfuel
  clear hfuel
  have hR := wtR_new w cv hv X.epoch s name av
  have hbW : Below w.heap.size w ((((w.alloc (.cells #[cv, hv, .int .i64 X.epoch] 25)).alloc (.cells #[.int .i64 s.k, .int .i64 s.n, .string name, av] 30)).alloc (.cells #[.slice none 0 0, .slice none 0 0, .int .i64 0] 25)).alloc (.cells #[.int .i64 0, .int .i64 0, .int .i64 0, .int .i64 0] 35)) := nstep (bel2 _ _ _) (bel2 _ _ _)
  obtain ⟨ac, cc, hcv, -, -, hby, -⟩ := id hC
  obtain ⟨ah, ch, hhv, -, -, hbyh, -⟩ := id hH
  obtain ⟨aa, ca, hav, -⟩ := id hA
  subst hcv hhv hav
  go_enter Try.func12, Try.ntmps12
  go_upto_region 1 with (fail)
  generalize ((((w.alloc (.cells #[.slice ac X.classes.length cc, .slice ah X.heap.length ch, .int .i64 X.epoch] 25)).alloc (.cells #[.int .i64 s.k, .int .i64 s.n, .string name, .slice aa args.length ca] 30)).alloc (.cells #[.slice none 0 0, .slice none 0 0, .int .i64 0] 25)).alloc (.cells #[.int .i64 0, .int .i64 0, .int .i64 0, .int .i64 0] 35)) = W at *
  obtain ⟨w0, w1, w2, c0, c1, c2, c3, -⟩ := id hR
  have hwr := wrong_any X s name args fuel (.slice ac X.classes.length cc) _ _ W ⟨_, _, _, rfl⟩ (hH.later goodO hbW) (hA.later goodV hbW) hn
  have HPE : Hid (withE E X st0 s name args fuel = if wrongCallE X s name args fuel ≠ 0 then (⟨X.heap, nilV, wrongCallE X s name args fuel, 0⟩, st0) else (ranE X (firstR E X st0 s name args), (firstR E X st0 s name args).1.st)) := rfl
  have HWI : Hid (wrongCallE X s name args fuel = 0 → (0 ≤ fuel ∧ fuel ≤ 400) ∧ wrongV X.heap.length s = 0 ∧ VsOk X.heap.length args) := wrongCall_is
  obtain ⟨ws, hws⟩ : ∃ ws, wrongCallE X s name args fuel = ws := ⟨_, rfl⟩
  rw [hws] at hwr HPE HWI
  clear hws
  go_wp2_with fail
  refine hwr.mono ?_
  rintro e w1' ⟨rfl, hbv⟩
  have hR1 := hR.later hbv
  have HB1 := hid (nstep hbW hbv)
  clear w0 w1 w2 c0 c1 c2 c3 hwr hR
  have hown := fun w' (k : Kp (fun t => t = 3) T0 w w') => ownX_any X _ _ w' (hC.fx goodC (.refl _ _) k (by omega)) (hH.fx goodO (.refl _ _) k (by omega))
  obtain ⟨w0, w1, w2, c0, c1, c2, c3, -⟩ := id hR1
  by_cases hz : ws = 0
  · have hz' : (ws != 0) = false := by simpa using hz
    rw [if_neg (by simpa using hz)] at HPE
    obtain ⟨hfu, hsl, hvs⟩ := HWI.out hz
    clear HWI hz
    have hq1 := eqlF62
    have hq2 := eqlF85
    have hsf : ∀ (w : World) (a : Addr) (k : Nat) (c : Array Value), (store a (.func (.func k) #[] c)).run Try.prog w = stored Try.prog w a (.func (.func k) #[] c) .plain := fun w a k c => run_store Try.prog w a _ _ rfl
    go_wp2_with fail
    refine (hown _ (Kp.of_below HB1.out)).mono ?_
    rintro e w2' ⟨g, gh, sh, rfl, hCo, hHo, hgh, hbo⟩
    have hR2 := hR1.later hbo
    have hsz := hR1.sz
    have HB2 := hid (nstep HB1.out hbo)
    clear w0 w1 w2 c0 c1 c2 c3 hR1
    have hbM := bel1 w2' (MB (⟨E, .slice (some ⟨g, 0, none⟩) X.classes.length X.classes.length, X.epoch, .func (.func LF) #[] lc, .func (.func QF) #[] qc⟩ : Mp σ) (⟨X.heap, 0, 0, st0⟩ : Mc σ) 0 (.slice (some ⟨gh, 0, none⟩) X.heap.length X.heap.length))
    have hbw3 := nstep HB2.out hbM
    have hgl : gh < w2'.heap.size := by obtain ⟨cur, h1, -⟩ := hHo.row; exact blk_lt h1
    have hs2 := hbo.size
    have TO : ∀ x, x < w.heap.size → tagW T0 w.heap.size gh w2'.heap.size x = T0 x := fun x hx => by unfold tagW; rw [if_pos hx]
    have T4 : ∀ i, i < 4 → tagW T0 w.heap.size gh w2'.heap.size (w.heap.size + i) = 4 := fun i hi => by unfold tagW; rw [if_neg (by omega), if_pos (by omega)]
    have Tc : ∀ x, w1'.heap.size ≤ x → x < gh → tagW T0 w.heap.size gh w2'.heap.size x = 0 := fun x h1 h2 => by unfold tagW; rw [if_neg (by omega), if_neg (by omega), if_pos h2]
    have Th : ∀ x, gh ≤ x → x < w2'.heap.size → tagW T0 w.heap.size gh w2'.heap.size x = 2 := fun x h1 h2 => by unfold tagW; rw [if_neg (by omega), if_neg (by omega), if_neg (by omega), if_pos h2]
    have Tm : tagW T0 w.heap.size gh w2'.heap.size w2'.heap.size = 1 := by unfold tagW; rw [if_neg (by omega), if_neg (by omega), if_neg (by omega), if_neg (by omega)]
    generalize tagW T0 w.heap.size gh w2'.heap.size = Tg at *
    have hM3 : MacAt (⟨E, .slice (some ⟨g, 0, none⟩) X.classes.length X.classes.length, X.epoch, .func (.func LF) #[] lc, .func (.func QF) #[] qc⟩ : Mp σ) Tg (w2'.alloc (MB (⟨E, .slice (some ⟨g, 0, none⟩) X.classes.length X.classes.length, X.epoch, .func (.func LF) #[] lc, .func (.func QF) #[] qc⟩ : Mp σ) (⟨X.heap, 0, 0, st0⟩ : Mc σ) 0 (.slice (some ⟨gh, 0, none⟩) X.heap.length X.heap.length))) w2'.heap.size ⟨X.heap, 0, 0, st0⟩ 0 (.slice (some ⟨gh, 0, none⟩) X.heap.length X.heap.length) gh sh :=
      ⟨heap_alloc_new w2' _, Tm, (hHo.heap hbyh Th).keep (.refl _ _) (Kp.of_below (S := fun _ => False) hbM) id, by rw [hEc]; exact hCo.keep goodC (Keeps.of_below hbM) fun x hx => ⟨by have := hx.2; simp; omega, Tc x hx.1 hx.2⟩⟩
    have hXt : Ext T0 Tg w := fun x hx => TO x hx
    have hkT : Kp (fun _ => False) T0 w (w2'.alloc (MB (⟨E, .slice (some ⟨g, 0, none⟩) X.classes.length X.classes.length, X.epoch, .func (.func LF) #[] lc, .func (.func QF) #[] qc⟩ : Mp σ) (⟨X.heap, 0, 0, st0⟩ : Mc σ) 0 (.slice (some ⟨gh, 0, none⟩) X.heap.length X.heap.length))) := Kp.of_below hbw3
    have hLk : L Tg (w2'.alloc (MB (⟨E, .slice (some ⟨g, 0, none⟩) X.classes.length X.classes.length, X.epoch, .func (.func LF) #[] lc, .func (.func QF) #[] qc⟩ : Mp σ) (⟨X.heap, 0, 0, st0⟩ : Mc σ) 0 (.slice (some ⟨gh, 0, none⟩) X.heap.length X.heap.length))) st0 (E.fuel - 0).toNat := by
      rw [HFU.out, Int.sub_zero]
      rw [Nat.min_eq_left (by omega)] at hL
      exact hLo.keep hL hXt hkT id id
    have hA3 := hA.fx goodV hXt hkT id
    have hMi : MIn (⟨E, .slice (some ⟨g, 0, none⟩) X.classes.length X.classes.length, X.epoch, .func (.func LF) #[] lc, .func (.func QF) #[] qc⟩ : Mp σ).E (⟨X.heap, 0, 0, st0⟩ : Mc σ) := ⟨by show HOk E.classes X.heap; rw [hEc]; exact right_heap hX, ⟨by simp, by show (0 : Int) ≤ E.fuel; rw [HFU.out]; exact hfu.1⟩, by simp⟩
    have hfst := first_any (hCx (by rw [HFU.out]; exact hfu.1) (by rw [HFU.out]; exact hfu.2) (.slice (some ⟨g, 0, none⟩) X.classes.length X.classes.length)) hM3 hLk hMi s name args _ hsl hvs hA3 (K := 5) (Nat.le_refl _)
    have hR3 := hR2.later hbM
    have HBW3 := hid hbw3
    have HCo3 : Hid (IsClasses (fun x => w1'.heap.size ≤ x ∧ x < gh) (w2'.alloc (MB (⟨E, .slice (some ⟨g, 0, none⟩) X.classes.length X.classes.length, X.epoch, .func (.func LF) #[] lc, .func (.func QF) #[] qc⟩ : Mp σ) (⟨X.heap, 0, 0, st0⟩ : Mc σ) 0 (.slice (some ⟨gh, 0, none⟩) X.heap.length X.heap.length))) (.slice (some ⟨g, 0, none⟩) X.classes.length X.classes.length) X.classes) := hCo.later goodC hbM
    clear hM3 hLk hA3 hMi hCo hHo hR2 hbM hbo hL
    have HRE : Hid (firstR E X st0 s name args = entE (⟨E, .slice (some ⟨g, 0, none⟩) X.classes.length X.classes.length, X.epoch, .func (.func LF) #[] lc, .func (.func QF) #[] qc⟩ : Mp σ).E 20 ⟨X.heap, 0, 0, st0⟩ (findE (⟨E, .slice (some ⟨g, 0, none⟩) X.classes.length X.classes.length, X.epoch, .func (.func LF) #[] lc, .func (.func QF) #[] qc⟩ : Mp σ).E.classes (classV X.heap s) name).1 (findE (⟨E, .slice (some ⟨g, 0, none⟩) X.classes.length X.classes.length, X.epoch, .func (.func LF) #[] lc, .func (.func QF) #[] qc⟩ : Mp σ).E.classes (classV X.heap s) name).2 s args) := by
      show firstR E X st0 s name args = entE E 20 ⟨X.heap, 0, 0, st0⟩ (findE E.classes (classV X.heap s) name).1 (findE E.classes (classV X.heap s) name).2 s args
      rw [hEc]; rfl
    rw [← HRE.out] at hfst
    clear HRE
    obtain ⟨R, hRn⟩ : ∃ R, firstR E X st0 s name args = R := ⟨_, rfl⟩
    rw [hRn] at hfst HPE
    clear hRn
    obtain ⟨rm, v, er⟩ := R
    unfold ranE at HPE
    simp only at HPE
    obtain ⟨V3, hV3⟩ : ∃ V3, V3 = w2'.alloc (MB (⟨E, .slice (some ⟨g, 0, none⟩) X.classes.length X.classes.length, X.epoch, .func (.func LF) #[] lc, .func (.func QF) #[] qc⟩ : Mp σ) (⟨X.heap, 0, 0, st0⟩ : Mc σ) 0 (.slice (some ⟨gh, 0, none⟩) X.heap.length X.heap.length)) := ⟨_, rfl⟩
    rw [← hV3] at hfst hR3 HBW3 HCo3
    have hV3' : (w2'.alloc (.cells #[.slice (some ⟨g, 0, none⟩) X.classes.length X.classes.length, .slice (some ⟨gh, 0, none⟩) X.heap.length X.heap.length, .int .i64 X.epoch, .int .i64 fuel, .int .i64 0, .int .i64 0, .int .i64 0, .func (.func LF) #[] lc, .func (.func QF) #[] qc] 109)) = V3 := by rw [hV3, ← HFU.out]
    have hz3 : w2'.heap.size < V3.heap.size := by rw [hV3]; simp
    clear hV3
    go_upto_region 9 with (fail)
    try rw [hV3']
    clear hV3'
    obtain ⟨w0, w1, w2, c0, c1, c2, c3, -⟩ := id hR3
    have HMB : Hid (w2'.heap.size < V3.heap.size) := hz3
    clear hz3 hq1 hq2 hsf
    generalize w2'.heap.size = mb at *
    go_wp2_with fail
    refine hfst.mono ?_
    rintro e w4 ⟨rfl, ⟨T4', hX4, ⟨hv4, g4, s4, hM4⟩, hL4⟩, hK4⟩
    simp only at hM4 hL4
    have hR4 := hR3.kp hK4 (fun i hi => by rw [T4 i hi]; unfold All; omega)
    have HB4 : Hid (Kp (fun t => t = 3) T0 w w4) := ⟨hK4.os.trans HBW3.out.os, hK4.tape.trans HBW3.out.tape, hK4.output.trans HBW3.out.output, Nat.le_trans HBW3.out.size hK4.size, fun x hx hs => (hK4.blk x (Nat.lt_of_lt_of_le hx HBW3.out.size) (by rw [TO x hx]; have := hTo x hx; unfold All; omega)).trans (HBW3.out.block x hx)⟩
    have HX4 : Hid (Ext T0 T4' w) := hXt.trans HBW3.out.size hX4
    have HL4 := hid hL4
    have t42 : T4' (w.heap.size + 2) = 4 := by rw [hX4 _ (by have := hR3.sz; omega)]; exact T4 2 (by omega)
    have t43 : T4' (w.heap.size + 3) = 4 := by rw [hX4 _ (by have := hR3.sz; omega)]; exact T4 3 (by omega)
    have hlm4 : mb < w4.heap.size := blk_lt hM4.box
    have hmw : w.heap.size + 4 ≤ mb := by omega
    have HCo4 : Hid (IsClasses (fun x => (T4' x = 0 ∨ T4' x = 2) ∧ w.heap.size ≤ x) w4 (.slice (some ⟨g, 0, none⟩) X.classes.length X.classes.length) X.classes) := HCo3.out.keep goodC (Keeps.of_block fun x hx hl => hK4.blk x hl (by rw [Tc x hx.1 hx.2]; unfold All; omega)) fun x hx => ⟨Or.inl (by rw [hX4 x (by have := HMB.out; have := hx.2; omega), Tc x hx.1 hx.2]), by have := hx.1; omega⟩
    have TZ : Hid (∀ x, x < w.heap.size → T4' x = 0 ∨ T4' x = 3) := fun x hx => by rw [hX4 x (Nat.lt_of_lt_of_le hx HBW3.out.size), TO x hx]; exact hTo x hx
    clear hfst w0 w1 w2 c0 c1 c2 c3 hR3 hX4 hK4 HCo3 TO T4 Tc Th Tm hL4 hXt hkT
    have hbv4 := bel1 w4 (.cells #[.int .i64 v.k, .int .i64 v.n] 27)
    have hM5 := hM4.later hbv4
    have HCo5 := hid (HCo4.out.later goodC hbv4)
    have hR5 := hR4.later hbv4
    have HB5 := hid (HB4.out.on hbv4)
    have HL5 := hid (hLo.keep HL4.out (.refl _ _) (Kp.of_below (S := fun _ => False) hbv4) id id)
    have v0 : (w4.alloc (.cells #[.int .i64 v.k, .int .i64 v.n] 27)).cell? ⟨w4.heap.size, 0, none⟩ = some (.int .i64 v.k) := cell_new _ _ _ _ rfl 0
    have v1 : (w4.alloc (.cells #[.int .i64 v.k, .int .i64 v.n] 27)).cell? ⟨w4.heap.size, 1, none⟩ = some (.int .i64 v.n) := cell_new _ _ _ _ rfl 1
    have hsz4 := hR4.sz
    go_upto_region 10 with (fail)
    clear hM4 hR4 hbv4
    generalize hv4z : w4.heap.size = vb at *
    generalize (w4.alloc (.cells #[.int .i64 v.k, .int .i64 v.n] 27)) = V5 at *
    by_cases he : er = 0
    · have he' : (er != 0) = false := by simpa using he
      rw [if_neg (by simpa using he)] at HPE
      clear he
      obtain ⟨cap4, hv4e, -⟩ := hM5.heap.form
      have m0 : V5.cell? ⟨mb, 0, none⟩ = some (.slice (some ⟨g, 0, none⟩) X.classes.length X.classes.length) := hM5.c0
      have m1 := hM5.c1
      have m2 : V5.cell? ⟨mb, 2, none⟩ = some (.int .i64 X.epoch) := hM5.c2
      have m4 := hM5.c4
      rw [hv4e] at m1
      have HQ := hid fun u0 u1 u2 v0 v1 v2 v3 => WiPost.fin hLo (r := (⟨rm.heap, v, 0, rm.sends⟩, rm.st)) (P := fun x => (T4' x = 0 ∨ T4' x = 2) ∧ w.heap.size ≤ x) HB5.out HX4.out HL5.out t42 t43 HCo5.out (hM5.heap.heap.mono goodO fun x hx => ⟨Or.inr hx.2, Nat.le_of_not_lt fun hl => by have := TZ.out x hl; rw [hx.2] at this; omega⟩) (fun h => by have := h.1; rw [t42] at this; omega) (fun h => by have := h.1; rw [t43] at this; omega) (fun x hx => ⟨hx.2, by have := hx.1; omega⟩) u0 u1 u2 v0 v1 v2 v3
      rw [hv4e] at HQ
      obtain ⟨w0, w1, w2, c0, c1, c2, c3, a0, a1, a2, af, b0, b1, b2, b3, bf, -⟩ := id hR5
      have n1 : ¬ mb = w.heap.size + 2 := by omega
      have n2 : ¬ mb = w.heap.size + 3 := by omega
      have n3 : ¬ w.heap.size + 2 = mb := by omega
      have n4 : ¬ w.heap.size + 3 = mb := by omega
      have n5 : ¬ vb = w.heap.size + 2 := by omega
      have n6 : ¬ vb = w.heap.size + 3 := by omega
      have n7 : ¬ w.heap.size + 2 = vb := by omega
      have n8 : ¬ w.heap.size + 3 = vb := by omega
      clear hM5 hR5 hv4e
      simp only [Nat.add_assoc, Nat.reduceAdd] at *
      go_wp2
      go_region
      all_goals (
        go_wp2
        rw [HPE.out]
        refine bodyPost_ret (v := .tuple #[WV (.slice (some ⟨g, 0, none⟩) X.classes.length X.classes.length) (.slice (some ⟨g4, 0, none⟩) rm.heap.length cap4) X.epoch, RnV ⟨rm.heap, v, 0, rm.sends⟩]) ?_ rfl ((HQ.out _ _ _ _ _ _ _).drew hLo)
        simp [results, Try.results12, go_sem, a0, a1, a2, b0, b1, b2, b3])
    · have he' : (er != 0) = true := by simpa using he
      rw [if_pos (by simpa using he)] at HPE
      clear he
      have m4 := hM5.c4
      have hownD := hown V5.drew HB5.out.drew
      have hS0 : EeR w mb (.slice ac X.classes.length cc) (.slice ah X.heap.length ch) X.epoch rm.sends V5.drew := ⟨hR5.w0, hR5.w1, hR5.w2, m4, by omega⟩
      have hRd := hR5.later (Below.refl _ V5).drew
      have HB6 := hid HB5.out.drew
      have HX6 : Hid (Ext T0 (tagged T4' V5.drew 4) w) := HX4.out.trans HB6.out.size (tagged_ext T4' V5.drew 4)
      have HL6 : Hid (L (tagged T4' V5.drew 4) V5.drew rm.st _) := hLo.keep HL5.out (fun x hx => tagged_ext T4' V5.drew 4 x hx) (Kp.refl (fun _ => False) _ _).drew id id
      have t62 : tagged T4' V5.drew 4 (w.heap.size + 2) = 4 := by rw [tagged_ext T4' V5.drew 4 _ (by have := hRd.sz; omega)]; exact t42
      have t63 : tagged T4' V5.drew 4 (w.heap.size + 3) = 4 := by rw [tagged_ext T4' V5.drew 4 _ (by have := hRd.sz; omega)]; exact t43
      have hV5z : w.heap.size + 4 ≤ V5.drew.heap.size := hRd.sz
      clear hM5 hR5 m4
      simp only [Nat.add_assoc, Nat.reduceAdd] at *
      go_wp2
      go_region_held3 (fun w' => w'.cell? ⟨w.heap.size, 0, none⟩ = some (.slice ac X.classes.length cc) ∧ w'.cell? ⟨w.heap.size, 1, none⟩ = some (.slice ah X.heap.length ch) ∧ w'.cell? ⟨w.heap.size, 2, none⟩ = some (.int .i64 X.epoch) ∧ w'.cell? ⟨mb, 4, none⟩ = some (.int .i64 rm.sends))
        (first | with_reducible exact hS0.al | with_reducible exact hY.al | with_reducible exact (((hY.set (Or.inl rfl) _ _).set (Or.inl rfl) _ _).set (Or.inl rfl) _ _).al | with_reducible exact (((((((hY.set (Or.inl rfl) _ _).set (Or.inl rfl) _ _).set (Or.inl rfl) _ _).set (Or.inr rfl) _ _).set (Or.inr rfl) _ _).set (Or.inr rfl) _ _).set (Or.inr rfl) _ _).al | with_reducible exact ((((hY.set (Or.inr rfl) _ _).set (Or.inr rfl) _ _).set (Or.inr rfl) _ _).set (Or.inr rfl) _ _).al)
        (first | (go_at_call 39; refine hownD.mono ?_; rintro e w6 ⟨g', gh', sh', rfl, hCo, hHo, hgh', hbo⟩; have hY := hS0.later hbo; have HQ := hid (fun u0 u1 u2 v0 v1 v2 v3 => WiPost.fin hLo (r := (⟨X.heap, nilV, er, rm.sends⟩, rm.st)) (P := fun b => V5.drew.heap.size ≤ b) (HB6.out.on hbo) HX6.out (hLo.keep HL6.out (.refl _ _) (Kp.of_below (S := fun _ => False) hbo) id id) t62 t63 (hCo.mono goodC fun b h => h.1) ((hHo.isHeap hbyh).mono goodO fun b h => Nat.le_trans hgh' h) (by omega) (by omega) (fun x hx => ⟨by omega, by rw [tagged_new hx]; omega⟩) u0 u1 u2 v0 v1 v2 v3); obtain ⟨-, -, -, -, -, -, -, a0, a1, a2, af, b0, b1, b2, b3, bf, -⟩ := id (hRd.later hbo); clear hCo hHo))
      all_goals (
        go_wp2
        rw [HPE.out]
        refine bodyPost_ret (v := .tuple #[WV (.slice (some ⟨g', 0, none⟩) X.classes.length X.classes.length) (.slice (some ⟨gh', 0, none⟩) X.heap.length X.heap.length) X.epoch, RnV ⟨X.heap, nilV, er, rm.sends⟩]) ?_ rfl (HQ.out _ _ _ _ _ _ _)
        simp [results, Try.results12, go_sem, a0, a1, a2, b0, b1, b2, b3])
  · have hz' : (ws != 0) = true := by simpa using hz
    rw [if_pos (by simpa using hz)] at HPE
    clear HWI hz
    go_wp2_with fail
    refine (hown _ (Kp.of_below HB1.out)).mono ?_
    rintro e w2' ⟨g, gh, sh, rfl, hCo, hHo, hgh, hbo⟩
    have hR2 := hR1.later hbo
    have hsz := hR1.sz
    have HQ := hid fun u0 u1 u2 v0 v1 v2 v3 => WiPost.fin hLo (r := (⟨X.heap, nilV, ws, 0⟩, st0)) (P := fun b => w1'.heap.size ≤ b) (Kp.of_below (nstep HB1.out hbo)) (tagged_ext T0 w 4) (hLo.keep hL (tagged_ext T0 w 4) (Kp.of_below (S := fun _ => False) (nstep HB1.out hbo)) id id) (tagged_new (by omega)) (tagged_new (by omega)) (hCo.mono goodC fun b h => h.1) ((hHo.isHeap hbyh).mono goodO fun b h => by omega) (by omega) (by omega) (fun x hx => ⟨by omega, by rw [tagged_new (by omega)]; omega⟩) u0 u1 u2 v0 v1 v2 v3
    clear w0 w1 w2 c0 c1 c2 c3 hCo hHo hown
    obtain ⟨w0, w1, w2, c0, c1, c2, c3, a0, a1, a2, af, b0, b1, b2, b3, bf, -⟩ := id hR2
    go_wp2
    rw [HPE.out]
    refine bodyPost_ret (v := .tuple #[WV (.slice (some ⟨g, 0, none⟩) X.classes.length X.classes.length) (.slice (some ⟨gh, 0, none⟩) X.heap.length X.heap.length) X.epoch, RnV ⟨X.heap, nilV, ws, 0⟩]) ?_ rfl (HQ.out _ _ _ _ _ _ _)
    simp [results, Try.results12, go_sem, a0, a1, a2, b0, b1, b2, b3]


end Go.Proofs.Ytdfbgpiikeheiaa

