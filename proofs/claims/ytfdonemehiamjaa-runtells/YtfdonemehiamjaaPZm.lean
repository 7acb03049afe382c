/- What a run leans on; sends. -/
import Derived.Test.YtfdonemehiamjaaPZe
import Derived.Test.YtfdonemehiamjaaPZi
import Derived.Test.YtfdonemehiamjaaPZj
import Derived.Test.YtfdonemehiamjaaPZk
import Derived.Test.YtfdonemehiamjaaPZl
namespace Go.Proofs.Ytfdonemehiamjaa
open Go.ChangeShapes Go.WideShapes Go.ChangeAt Go.RowKit
set_option linter.unusedSimpArgs false
set_option linter.unusedVariables false
set_option maxRecDepth 8000

section
variable {σ : Type}
/-- What is asked of whoever looks, and of the code. -/
structure Cx (p : Mp σ) (L : (Nat → Nat) → World → σ → Nat → Prop) (q : Value) : Prop where
  lv : p.lv = .func (.func 34) #[] #[q]
  qv : p.qv = .func (.func 21) #[] #[]
  quick : ∀ c n, p.E.quick c n = none
  ok : EOk p.E
  fuel : p.E.fuel ≤ 1000000
  keep : ∀ {T T' : Nat → Nat} {w w' : World} {st : σ} {n : Nat} {S : Nat → Prop}, L T w st n → Ext T T' w → Kp S T w w' → ¬ S 0 → ¬ S 3 → L T' w' st n
  mono : ∀ {T : Nat → Nat} {w : World} {st : σ} {n n' : Nat}, L T w st n → n' ≤ n → L T w st n'
  look : ∀ (T : Nat → Nat) (w : World) (st : σ) (s : QS) (c : Int) (name : ByteArray) (n : Nat), L T w st (n + 1) → Calls Try.prog 34 #[SV s, .int .i64 c, .string name, q] w fun e w' => e = .returned (.tuple #[.int .i64 (p.E.look st s c name).2.1, .int .i64 (p.E.look st s c name).2.2]) ∧ (∃ T', Ext T T' w ∧ L T' w' (p.E.look st s c name).1 n) ∧ Kp (fun t => t = 3) T w w'
  pl : ∀ c n mt s a, methAt p.E.classes c n = some mt → mt.prim = 0 → mt.args = (a.length : Int) → PlOk (frameE p.E c n mt s a)
/-- How often it may be asked still. -/
def leftE (E : Env σ) (m : Mc σ) : Nat := (E.fuel - m.sends + 1).toNat
abbrev All (K : Nat) : Nat → Prop := fun t => t = 1 ∨ t = 2 ∨ t = 3 ∨ K ≤ t
/-- What enter leaves. -/
def EnPost (p : Mp σ) (L : (Nat → Nat) → World → σ → Nat → Prop) (T : Nat → Nat) (w : World) (mb : Nat) (calls : Int) (K : Nat) (r : Mc σ × QV × Int) (e : Ending) (w' : World) : Prop :=
  e = .returned (.tuple #[VV r.2.1, .int .i64 r.2.2]) ∧ (∃ T', Ext T T' w ∧ (∃ hv g s, MacAt p T' w' mb r.1 calls hv g s) ∧ L T' w' r.1.st (if r.2.2 = 0 then leftE p.E r.1 else 0)) ∧ Kp (All K) T w w'
/-- What a step leaves. -/
def StPost (p : Mp σ) (L : (Nat → Nat) → World → σ → Nat → Prop) (T : Nat → Nat) (w : World) (mb : Nat) (calls : Int) (K fb : Nat) (r : Mc σ × Fr × Int) (e : Ending) (w' : World) : Prop :=
  e = .returned (.int .i64 r.2.2) ∧ (∃ T', Ext T T' w ∧ (∃ hv g s, MacAt p T' w' mb r.1 calls hv g s) ∧ L T' w' r.1.st (if r.2.2 = 0 then leftE p.E r.1 else 0) ∧ (r.2.2 = 0 → ∃ cv av tv sv kv, FrAt T' K w' fb r.2.1 cv av tv sv kv)) ∧ Kp (All K) T w w'
/-- What holds of a machine that runs. -/
structure MIn (E : Env σ) (m : Mc σ) : Prop where
  heap : HOk E.classes m.heap
  sends : 0 ≤ m.sends ∧ m.sends ≤ E.fuel
  turns : 0 ≤ m.turns ∧ m.turns ≤ 300
/-- Enter does what it should, where so many more calls may be within each other. -/
def EnterOk (p : Mp σ) (L : (Nat → Nat) → World → σ → Nat → Prop) (d : Nat) : Prop :=
  ∀ (K : Nat) (T : Nat → Nat) (w : World) (mb : Nat) (m : Mc σ) (hv : Value) (g : Nat) (s : Nat → Nat) (c n : Int) (self : QV) (args : List QV) (av : Value), 5 ≤ K → MacAt p T w mb m (20 - (d : Int)) hv g s → L T w m.st (p.E.fuel - m.sends).toNat → MIn p.E m → wrongV m.heap.length self = 0 → VsOk m.heap.length args → IsVals (Fx T w) w av args →
    Calls Try.prog 42 #[.pointer (some ⟨mb, 0, none⟩), .int .i64 c, .int .i64 n, VV self, av] w fun e w' => EnPost p L T w mb (20 - (d : Int)) K (entE p.E d m c n self args) e w'

variable {p : Mp σ} {L : (Nat → Nat) → World → σ → Nat → Prop} {q : Value} {T T' : Nat → Nat} {w w' : World} {mb : Nat} {m m' : Mc σ} {hv : Value} {g : Nat} {s : Nat → Nat} {K fb : Nat} {f : Fr} {cv av tv sv kv : Value}
structure SdR (w : World) (x : QI) (w' : World) : Prop where
  x0 : w'.cell? ⟨w.heap.size, 0, none⟩ = some (.int .i64 x.op)
  x1 : w'.cell? ⟨w.heap.size, 1, none⟩ = some (.int .i64 x.a)
  x2 : w'.cell? ⟨w.heap.size, 2, none⟩ = some (.int .i64 x.b)
  x3 : w'.cell? ⟨w.heap.size, 3, none⟩ = some (.int .i64 x.c)
  x4 : w'.cell? ⟨w.heap.size, 4, none⟩ = some (.string x.name)
theorem sdR_new (w : World) (x : QI) (t : TypeId) : SdR w x (w.alloc (.cells #[.int .i64 x.op, .int .i64 x.a, .int .i64 x.b, .int .i64 x.c, .string x.name] t)) := ⟨cell_new _ _ _ _ rfl 0, cell_new _ _ _ _ rfl 1, cell_new _ _ _ _ rfl 2, cell_new _ _ _ _ rfl 3, cell_new _ _ _ _ rfl 4⟩
theorem SdR.kp {w : World} {x : QI} {w' w'' : World} {T : Nat → Nat} {S : Nat → Prop} (h : SdR w x w') (k : Kp S T w' w'') (hs : ¬ S (T w.heap.size)) : SdR w x w'' := ⟨k.cell h.x0 hs, k.cell h.x1 hs, k.cell h.x2 hs, k.cell h.x3 hs, k.cell h.x4 hs⟩

theorem nine {a1 a2 a3 a4 a5 a6 a7 a8 a9 : Addr} {v1 v2 v3 v4 v5 v6 v7 v8 v9 : Value} {w w' : World} (h : w.cell? a1 = some v1 ∧ w.cell? a2 = some v2 ∧ w.cell? a3 = some v3 ∧ w.cell? a4 = some v4 ∧ w.cell? a5 = some v5 ∧ w.cell? a6 = some v6 ∧ w.cell? a7 = some v7 ∧ w.cell? a8 = some v8 ∧ w.cell? a9 = some v9) (hb : Below w.heap.size w w') : w'.cell? a1 = some v1 ∧ w'.cell? a2 = some v2 ∧ w'.cell? a3 = some v3 ∧ w'.cell? a4 = some v4 ∧ w'.cell? a5 = some v5 ∧ w'.cell? a6 = some v6 ∧ w'.cell? a7 = some v7 ∧ w'.cell? a8 = some v8 ∧ w'.cell? a9 = some v9 := by
  obtain ⟨h1, h2, h3, h4, h5, h6, h7, h8, h9⟩ := h
  exact ⟨cell_later hb h1, cell_later hb h2, cell_later hb h3, cell_later hb h4, cell_later hb h5, cell_later hb h6, cell_later hb h7, cell_later hb h8, cell_later hb h9⟩
theorem nineK {T : Nat → Nat} {S : Nat → Prop} {b1 b2 b3 o1 o2 : Nat} {v1 v2 v3 v4 v5 v6 v7 v8 v9 : Value} {w w' : World} (h : w.cell? ⟨b1, o1, none⟩ = some v1 ∧ w.cell? ⟨b1, o2, none⟩ = some v2 ∧ w.cell? ⟨b2, 0, none⟩ = some v3 ∧ w.cell? ⟨b2, 1, none⟩ = some v4 ∧ w.cell? ⟨b2, 2, none⟩ = some v5 ∧ w.cell? ⟨b2, 3, none⟩ = some v6 ∧ w.cell? ⟨b2, 4, none⟩ = some v7 ∧ w.cell? ⟨b3, 0, none⟩ = some v8 ∧ w.cell? ⟨b3, 1, none⟩ = some v9) (k : Kp S T w w') (h1 : ¬ S (T b1)) (h2 : ¬ S (T b2)) (h3 : ¬ S (T b3)) : w'.cell? ⟨b1, o1, none⟩ = some v1 ∧ w'.cell? ⟨b1, o2, none⟩ = some v2 ∧ w'.cell? ⟨b2, 0, none⟩ = some v3 ∧ w'.cell? ⟨b2, 1, none⟩ = some v4 ∧ w'.cell? ⟨b2, 2, none⟩ = some v5 ∧ w'.cell? ⟨b2, 3, none⟩ = some v6 ∧ w'.cell? ⟨b2, 4, none⟩ = some v7 ∧ w'.cell? ⟨b3, 0, none⟩ = some v8 ∧ w'.cell? ⟨b3, 1, none⟩ = some v9 := by
  obtain ⟨e1, e2, e3, e4, e5, e6, e7, e8, e9⟩ := h
  exact ⟨k.cell e1 h1, k.cell e2 h1, k.cell e3 h2, k.cell e4 h2, k.cell e5 h2, k.cell e6 h2, k.cell e7 h2, k.cell e8 h3, k.cell e9 h3⟩
theorem MacAt.st {calls : Int} (h : MacAt p T w mb m calls hv g s) (st : σ) : MacAt p T w mb { m with st := st } calls hv g s := ⟨h.box, h.tag, h.heap, h.cls⟩
set_option maxHeartbeats 4000000 in
theorem send_any (hC : Cx p L q) {d : Nat} (hEn : EnterOk p L d) (h : MacAt p T w mb m (20 - (d : Int)) hv g s) (hF : FrAt T K w fb f cv av tv sv kv) (hL : L T w m.st (leftE p.E m)) (hI : MIn p.E m) (hFo : FOk p.E.classes m.heap.length f) (hst : f.stack.length ≤ 12) (a : Int) (x : QI) :
    Calls Try.prog 75 #[.pointer (some ⟨mb, 0, none⟩), .pointer (some ⟨fb, 0, none⟩), .int .i64 a, IV x] w fun e w' => StPost p L T w mb (20 - (d : Int)) K fb (sendE (entE p.E d) p.E m f a x) e w' := by
  have hp := hF.pos
  have hlm := blk_lt h.box
  have hlf := blk_lt hF.box
  have hX := tagged_ext T w 4
  have hT4 : ∀ b, w.heap.size ≤ b → tagged T w 4 b = 4 := fun b hb => tagged_new hb
  have hb1 := bel1 w (.cells #[.int .i64 x.op, .int .i64 x.a, .int .i64 x.b, .int .i64 x.c, .string x.name] 81)
  have hM0 := (h.tagged0 4).later hb1
  have hF0 := (hF.tagged0 4).later hb1
  have hL0 := hC.keep (hC.keep hL hX (Kp.refl (fun _ => False) _ _) id id) (.refl _ _) (Kp.of_below (S := fun _ => False) hb1) id id
  have hR0 := sdR_new w x 81
  clear h hF hL
  generalize tagged T w 4 = T1 at *
  obtain ⟨k, hk⟩ : ∃ k, k = fromE f.stack x.a := ⟨_, rfl⟩
  have HS : Hid (sendE (entE p.E d) p.E m f a x = (let l := p.E.look m.st (f.site a x) (classV m.heap (belowE (f.stack.take k) 0)) x.name; let r := entE p.E d { m with st := l.1 } l.2.1 l.2.2 (belowE (f.stack.take k) 0) (f.stack.drop k); if r.2.2 ≠ 0 then (r.1, f, r.2.2) else (r.1, { f with stack := (f.stack.take k).dropLast ++ [r.2.1] }, 0))) := by show _ = _; unfold sendE; rw [← hk]
  have HSelf : Hid (wrongV m.heap.length (belowE (f.stack.take k) 0) = 0) := VsOk.entry (hFo.stack.sub fun v hv => List.mem_of_mem_take hv) _
  have HArgs : Hid (VsOk m.heap.length (f.stack.drop k)) := hFo.stack.sub fun v hv => List.mem_of_mem_drop hv
  have HTop : Hid (Fr.top { f with stack := f.stack.take k } = belowE (f.stack.take k) 0) := rfl
  have HPop : Hid (Fr.pop { f with stack := f.stack.take k } = { f with stack := (f.stack.take k).dropLast }) := rfl
  have HSite : Hid (∀ l, Fr.site { f with stack := l } a x = f.site a x) := fun _ => rfl
  have HLen : Hid ((f.stack.take k).dropLast.length ≤ 12) := by show _ ≤ _; simp; omega
  have hPA := popArgs_any hF0 x.a k hk
  have hTL : (f.stack.take k).length ≤ 12 := by simp; omega
  clear hk
  go_enter Try.func75, Try.ntmps75
  go_upto_region 1 with (fail)
  generalize (w.alloc (.cells #[.int .i64 x.op, .int .i64 x.a, .int .i64 x.b, .int .i64 x.c, .string x.name] 81)) = W at *
  obtain ⟨x0, x1, x2, x3, x4⟩ := id hR0
  go_wp2_with fail
  refine hPA.mono ?_
  rintro e w1 ⟨aa, ca, T2, sv1, rfl, hX1, hF1, hA1, hK1⟩
  clear hPA
  generalize f.stack.drop k = args at *
  have hz4 : T1 w.heap.size = 4 := hT4 _ (Nat.le_refl _)
  have hM1 := hM0.keep hX1 hK1 (by omega) (by omega) (by omega)
  have hL1 := hC.keep hL0 hX1 hK1 (by omega) (by omega)
  have hR1 := hR0.kp hK1 (by rw [hz4]; omega)
  clear x0 x1 x2 x3 x4
  go_wp2_with fail
  refine (pop_any hF1).mono ?_
  rintro e w2 ⟨rfl, ⟨sv2, hF2⟩, hK2⟩
  have hM2 := hM1.keep (.refl _ _) hK2 (by omega) (by omega) (by omega)
  have hL2 := hC.keep hL1 (.refl _ _) hK2 (by omega) (by omega)
  have hA2 := hA1.fx goodV (.refl _ _) hK2 (by omega)
  have hWz : w.heap.size < W.heap.size := World.block_lt_of_cell? W ⟨w.heap.size, 0, none⟩ hR0.x0
  have hz5 : T2 w.heap.size = 4 := by rw [hX1 _ hWz]; exact hz4
  have hR2 := hR1.kp hK2 (by rw [hz5]; omega)
  rw [HTop.out]
  rw [HPop.out] at hF2
  generalize belowE (f.stack.take k) 0 = self at *
  generalize (f.stack.take k).dropLast = rest at *
  have hbV : Below w2.heap.size w2 (w2.alloc (.cells #[.int .i64 self.k, .int .i64 self.n] 27)).drew := (bel1 _ _).drew
  have hX3 := tagged_ext T2 w2 4
  have hT5 : ∀ b, w2.heap.size ≤ b → tagged T2 w2 4 b = 4 := fun b hb => tagged_new hb
  have hM3 := (hM2.tagged0 4).later hbV
  have hF3 := (hF2.tagged0 4).later hbV
  have hL3 := hC.keep (hC.keep hL2 hX3 (Kp.refl (fun _ => False) _ _) id id) (.refl _ _) (Kp.of_below (S := fun _ => False) hbV) id id
  have hA3 := (fx_tagged hA2 goodV 4).fx goodV (.refl _ w2) (Kp.of_below (S := fun _ => False) hbV) id
  have hR3 : SdR w x (w2.alloc (.cells #[.int .i64 self.k, .int .i64 self.n] 27)).drew := hR2.kp (T := T2) (S := fun _ => False) (Kp.of_below hbV) id
  have s0 : (w2.alloc (.cells #[.int .i64 self.k, .int .i64 self.n] 27)).drew.cell? ⟨w2.heap.size, 0, none⟩ = some (.int .i64 self.k) := cell_new w2 #[.int .i64 self.k, .int .i64 self.n] 27 _ rfl 0
  have s1 : (w2.alloc (.cells #[.int .i64 self.k, .int .i64 self.n] 27)).drew.cell? ⟨w2.heap.size, 1, none⟩ = some (.int .i64 self.n) := cell_new w2 #[.int .i64 self.k, .int .i64 self.n] 27 _ rfl 1
  have hz6 : tagged T2 w2 4 w.heap.size = 4 := by rw [hX3 _ (Nat.lt_of_lt_of_le hWz (Nat.le_trans hK1.size hK2.size))]; exact hz5
  have hz7 : tagged T2 w2 4 w2.heap.size = 4 := hT5 _ (Nat.le_refl _)
  have HE3 : Hid (Ext T (tagged T2 w2 4) w) := ((hX.trans hb1.size hX1).trans (Nat.le_trans hb1.size (Nat.le_trans hK1.size hK2.size)) hX3)
  have HK3 : Hid (Kp (All K) T w (w2.alloc (.cells #[.int .i64 self.k, .int .i64 self.n] 27)).drew) := ((((Kp.of_below (S := All K) hb1).trans hX (hK1.mono fun t h => Or.inr (Or.inr (Or.inr (by omega))))).trans (hX.trans hb1.size hX1) (hK2.mono fun t h => Or.inr (Or.inr (Or.inr (by omega))))).on hbV)
  clear hM2 hF2 hL2 hA2 hR2 hM1 hF1 hL1 hA1 hR1 hM0 hF0 hL0 hR0 hK1 hK2 hX1 hb1 hz4 hz5
  go_wp2
  generalize tagged T2 w2 4 = T3 at *
  generalize (w2.alloc (.cells #[.int .i64 self.k, .int .i64 self.n] 27)) = V at *
  have m7 := hM3.c7
  have m1 := hM3.c1
  rw [hC.lv] at m7
  obtain ⟨ch, rfl, hc1, hc2⟩ := hM3.heap.form
  obtain ⟨x0, x1, x2, x3, x4⟩ := id hR3
  have hsite : Calls Try.prog 83 #[.pointer (some ⟨fb, 0, none⟩), .int .i64 a, IV x] V.drew fun e w' => e = .returned (SV (f.site a x)) ∧ Below V.drew.heap.size V.drew w' := by
    have := site_any hF3 a x
    rw [HSite.out] at this
    exact this
  have hcls : ∀ w' : World, Below V.drew.heap.size V.drew w' → Calls Try.prog 41 #[.slice (some ⟨g, 0, none⟩) m.heap.length ch, VV self] w' fun e w'' => e = .returned (.int .i64 (classV m.heap self)) ∧ Below w'.heap.size w' w'' := fun w' hb => vclass_any m.heap _ self w' ((hM3.heap.heap).later goodO hb)
  have hlook : ∀ w' : World, Below V.drew.heap.size V.drew w' → Calls Try.prog 34 #[SV (f.site a x), .int .i64 (classV m.heap self), .string x.name, q] w' _ := fun w' hb => hC.look T3 w' m.st (f.site a x) (classV m.heap self) x.name (p.E.fuel - m.sends).toNat (hC.keep (hC.mono hL3 (by unfold leftE; have := hI.sends; omega)) (.refl _ _) (Kp.of_below (S := fun _ => False) hb) id id)
  obtain ⟨c0, hc0⟩ : ∃ c0, c0 = classV m.heap self := ⟨_, rfl⟩
  obtain ⟨st0, hst0⟩ : ∃ st0, st0 = f.site a x := ⟨_, rfl⟩
  rw [← hc0] at hlook HS hcls
  rw [← hst0] at hlook HS hsite
  have HST := hid hst0
  clear hc0 hst0
  have hS0 : V.drew.cell? ⟨mb, 7, none⟩ = some (.func (.func 34) #[] #[q]) ∧ V.drew.cell? ⟨mb, 1, none⟩ = some (.slice (some ⟨g, 0, none⟩) m.heap.length ch) ∧ V.drew.cell? ⟨w.heap.size, 0, none⟩ = some (.int .i64 x.op) ∧ V.drew.cell? ⟨w.heap.size, 1, none⟩ = some (.int .i64 x.a) ∧ V.drew.cell? ⟨w.heap.size, 2, none⟩ = some (.int .i64 x.b) ∧ V.drew.cell? ⟨w.heap.size, 3, none⟩ = some (.int .i64 x.c) ∧ V.drew.cell? ⟨w.heap.size, 4, none⟩ = some (.string x.name) ∧ V.drew.cell? ⟨w2.heap.size, 0, none⟩ = some (.int .i64 self.k) ∧ V.drew.cell? ⟨w2.heap.size, 1, none⟩ = some (.int .i64 self.n) := ⟨m7, m1, x0, x1, x2, x3, x4, s0, s1⟩
  have htm : ¬ (T3 mb = 3) := by rw [hM3.tag]; omega
  have htx : ¬ (T3 w.heap.size = 3) := by rw [hz6]; omega
  have hts : ¬ (T3 w2.heap.size = 3) := by rw [hz7]; omega
  have tokA : True := trivial
  go_region_held3 (fun w' => w'.cell? ⟨mb, 7, none⟩ = some (.func (.func 34) #[] #[q]) ∧ w'.cell? ⟨mb, 1, none⟩ = some (.slice (some ⟨g, 0, none⟩) m.heap.length ch) ∧ w'.cell? ⟨w.heap.size, 0, none⟩ = some (.int .i64 x.op) ∧ w'.cell? ⟨w.heap.size, 1, none⟩ = some (.int .i64 x.a) ∧ w'.cell? ⟨w.heap.size, 2, none⟩ = some (.int .i64 x.b) ∧ w'.cell? ⟨w.heap.size, 3, none⟩ = some (.int .i64 x.c) ∧ w'.cell? ⟨w.heap.size, 4, none⟩ = some (.string x.name) ∧ w'.cell? ⟨w2.heap.size, 0, none⟩ = some (.int .i64 self.k) ∧ w'.cell? ⟨w2.heap.size, 1, none⟩ = some (.int .i64 self.n))
    (first | with_reducible exact hS0 | with_reducible exact hS1 | with_reducible exact hS2 | with_reducible exact hS3)
    (first
      | (have _t := tokA; go_at_call 83; refine hsite.mono ?_; rintro e w3 ⟨rfl, hb3⟩; have hS1 := nine hS0 hb3; clear tokA; have tokB : True := trivial)
      | (have _t := tokB; go_at_call 41; refine (hcls _ hb3).mono ?_; rintro e w4 ⟨rfl, hb4⟩; have hS2 := nine hS1 hb4; have hb34 := nstep hb3 hb4; clear tokB; have tokC : True := trivial)
      | (have _t := tokC; go_at_call 34; refine (hlook _ hb34).mono ?_; rintro e w5 ⟨rfl, ⟨T5, hX5, hL5⟩, hK5⟩; have hS3 := nineK (nine hS0 hb34) hK5 htm htx hts; clear tokC))
  have hM5 := ((hM3.later hb34).keep hX5 hK5 (by omega) (by omega) (by omega)).st (p.E.look m.st st0 c0 x.name).1
  have hF5 := (hF3.later hb34).keep hX5 hK5 (by omega) (by omega) (by omega) (by omega)
  have hA5 := (hA3.fx goodV (.refl _ _) (Kp.of_below (S := fun _ => False) hb34) id).fx goodV hX5 hK5 (by omega)
  have HE5 := hid (HE3.out.trans (Nat.le_trans HK3.out.size hb34.size) hX5)
  have HK5 := hid ((HK3.out.on hb34).trans HE3.out (hK5.mono (S' := All K) fun t h => Or.inr (Or.inr (Or.inl h))))
  obtain ⟨-, -, -, -, -, -, -, s0', s1'⟩ := hS3
  clear hS0 hS1 hS2 m7 m1 x0 x1 x2 x3 x4 s0 s1 hsite hcls hlook hM3 hF3 hL3 hA3 hR3 hb3 hb4 hb34 hX5 hK5
  generalize p.E.look m.st st0 c0 x.name = l at *
  have hI5 : MIn p.E { m with st := l.1 } := ⟨hI.heap, hI.sends, hI.turns⟩
  have hent := hEn (K + 3) T5 w5 mb _ _ _ _ l.2.1 l.2.2 self args _ (by omega) hM5 hL5 hI5 HSelf.out HArgs.out hA5
  generalize entE p.E d { m with st := l.1 } l.2.1 l.2.2 self args = r at *
  go_wp2_with fail
  refine hent.mono ?_
  rintro e w6 ⟨rfl, ⟨T6, hX6, ⟨hv6, g6, s6, hM6⟩, hL6⟩, hK6⟩
  have hF6 := hF5.keep hX6 hK6 (by unfold All; omega) (by unfold All; omega) (by unfold All; omega) (by unfold All; omega)
  have HE6 := hid (HE5.out.trans HK5.out.size hX6)
  have HK6 := hid (HK5.out.trans HE5.out (hK6.mono (S' := All K) fun t h => by unfold All at *; omega))
  obtain ⟨r1, v, er⟩ := r
  simp only at HS hM6 hL6
  clear hent hM5 hF5 hA5 hL5 hX6 hK6
  by_cases her : er = 0
  · subst her
    rw [if_neg (by simp)] at HS
    rw [if_pos rfl] at hL6
    have hbz : Below w6.heap.size w6 (w6.alloc (.cells #[.int .i64 v.k, .int .i64 v.n] 27)) := bel1 _ _
    have hM7 := hM6.later hbz
    have hF7 := hF6.later hbz
    have hL7 := hC.keep hL6 (.refl _ _) (Kp.of_below (S := fun _ => False) hbz) id id
    have HK7 := hid (HK6.out.on hbz)
    clear hM6 hF6 hL6
    go_wp2_with fail
    refine (push_any hF7 v (by show rest.length < _; have := HLen.out; omega)).mono ?_
    rintro e w8 ⟨rfl, ⟨T8, sv8, hX8, hF8⟩, hK8⟩
    have hM8 := hM7.keep hX8 hK8 (by omega) (by omega) (by omega)
    have hL8 := hC.keep hL7 hX8 hK8 (by omega) (by omega)
    have Q : Hid (StPost p L T w mb (20 - (d : Int)) K fb (r1, { f with stack := rest ++ [v] }, 0) (.returned (.int .i64 0)) w8) :=
      ⟨rfl, ⟨T8, HE6.out.trans HK7.out.size hX8, ⟨_, _, _, hM8⟩, by rw [if_pos rfl]; exact hL8, fun _ => ⟨_, _, _, _, _, hF8⟩⟩, HK7.out.trans HE6.out (hK8.mono fun t h => by unfold All; omega)⟩
    clear hM7 hF7 hL7 hM8 hL8 hF8 hX8 hK8
    go_wp2
    go_ret
    rw [HS.out]
    exact Q.out
  · rw [if_pos her] at HS
    rw [if_neg her] at hL6
    have her' : (er != 0) = true := by simpa using her
    have Q : Hid (StPost p L T w mb (20 - (d : Int)) K fb (r1, f, er) (.returned (.int .i64 er)) (w6.alloc (.cells #[.int .i64 v.k, .int .i64 v.n] 27))) :=
      ⟨rfl, ⟨T6, HE6.out, ⟨_, _, _, hM6.later (bel1 _ _)⟩, by rw [if_neg her]; exact hC.keep hL6 (.refl _ _) (Kp.of_below (S := fun _ => False) (bel1 _ _)) id id, fun h => absurd h her⟩, HK6.out.on (bel1 _ _)⟩
    clear hM6 hF6 hL6
    go_wp2
    go_ret
    rw [HS.out]
    exact Q.out
end
end Go.Proofs.Ytfdonemehiamjaa
