/- Plain runs. -/
import Derived.Test.YtfdonemehiamjaaPZr
namespace Go.Proofs.Ytfdonemehiamjaa
open Go.ChangeShapes Go.WideShapes Go.ChangeAt Go.RowKit
set_option linter.unusedSimpArgs false
set_option linter.unusedVariables false
set_option maxRecDepth 8000

/-- The world in which is looked for each name anew, in block b. -/
structure LkP (X : QW) (b : Nat) (cv hv : Value) (T : Nat → Nat) (w : World) (st : Unit) (n : Nat) : Prop where
  tag : T b = 0
  lt : b < w.heap.size
  w0 : w.cell? ⟨b, 0, none⟩ = some cv
  w1 : w.cell? ⟨b, 1, none⟩ = some hv
  w2 : w.cell? ⟨b, 2, none⟩ = some (.int .i64 X.epoch)
  cls : IsClasses (Fx T w) w cv X.classes
  heap : IsHeap (Fx T w) w hv X.heap
theorem LkP.keep {X : QW} {b : Nat} {cv hv : Value} {T T' : Nat → Nat} {w w' : World} {st : Unit} {n : Nat} {S : Nat → Prop} (h : LkP X b cv hv T w st n) (e : Ext T T' w) (k : Kp S T w w') (h0 : ¬ S 0) : LkP X b cv hv T' w' st n :=
  ⟨by rw [e _ h.lt]; exact h.tag, Nat.lt_of_lt_of_le h.lt k.size, k.cell h.w0 (by rw [h.tag]; exact h0), k.cell h.w1 (by rw [h.tag]; exact h0), k.cell h.w2 (by rw [h.tag]; exact h0), h.cls.fx goodC e k h0, h.heap.fx goodO e k h0⟩
set_option maxHeartbeats 1000000 in
theorem finder1_any {X : QW} {b : Nat} {cv hv : Value} {T : Nat → Nat} {w : World} {n : Nat} (h : LkP X b cv hv T w () n) (s : QS) (c : Int) (name : ByteArray) : Calls Try.prog 34 #[SV s, .int .i64 c, .string name, .pointer (some ⟨b, 0, none⟩)] w fun e w' => e = .returned (.tuple #[.int .i64 (findE X.classes c name).1, .int .i64 (findE X.classes c name).2]) ∧ Below w.heap.size w w' := by
  have hb1 := bel1 w (.cells #[.int .i64 s.cls, .string s.name, .int .i64 s.at'] 92)
  have h1 := h.keep (T' := T) (.refl _ _) (Kp.of_below (S := fun _ => False) hb1) id
  have hf := fun w' (hb : Below (w.alloc (.cells #[.int .i64 s.cls, .string s.name, .int .i64 s.at'] 92)).heap.size (w.alloc (.cells #[.int .i64 s.cls, .string s.name, .int .i64 s.at'] 92)) w') => find_any X c name cv hv w' ((h1.cls.mono (Q := fun _ => True) goodC fun _ _ => trivial).later goodC hb) ((h1.heap.mono (Q := fun _ => True) goodO fun _ _ => trivial).later goodO hb)
  obtain ⟨-, -, w0, w1, w2, hc, hh⟩ := id h1
  obtain ⟨ac, cc, rfl, -⟩ := id hc
  obtain ⟨ah, ch, rfl, -⟩ := id hh
  clear h h1 hc hh
  obtain ⟨r1, r2, hr⟩ : ∃ r1 r2, findE X.classes c name = (r1, r2) := ⟨_, _, rfl⟩
  rw [hr] at hf ⊢
  clear hr
  go_enter Try.func34, Try.ntmps34
  go_upto_region 1 with (fail)
  generalize (w.alloc (.cells #[.int .i64 s.cls, .string s.name, .int .i64 s.at'] 92)) = W at *
  go_wp2_with fail
  refine (hf _ (Below.refl _ _)).mono ?_
  rintro e w2' ⟨rfl, hb2⟩
  have HB := hid (nstep hb1 hb2)
  clear w0 w1 w2 hf hb2
  go_wp2
  refine bodyPost_ret (v := .tuple #[.int .i64 r1, .int .i64 r2]) ?_ rfl ⟨rfl, HB.out⟩
  simp [results, Try.results34, go_sem]

def plainMp (X : QW) (fuel : Int) (cv : Value) (b : Nat) : Mp Unit := ⟨plainEnv X fuel, cv, X.epoch, .func (.func 34) #[] #[.pointer (some ⟨b, 0, none⟩)], .func (.func 21) #[] #[]⟩
theorem plain_cx {X : QW} (hX : rightE X = 0) {fuel : Int} (hf : fuel ≤ 400) (cv : Value) (b : Nat) (c0 h0 : Value) : Cx (plainMp X fuel cv b) (LkP X b c0 h0) (.pointer (some ⟨b, 0, none⟩)) where
  lv := rfl
  qv := rfl
  quick _ _ := rfl
  ok := plain_ok hX fuel _
  fuel := by show fuel ≤ _; omega
  keep h e k h0 _ := h.keep e k h0
  mono h _ := ⟨h.tag, h.lt, h.w0, h.w1, h.w2, h.cls, h.heap⟩
  look T w st s c name n h := by
    refine (finder1_any h s c name).mono ?_
    rintro e w' ⟨rfl, hb⟩
    refine ⟨rfl, ⟨T, .refl _ _, ?_⟩, Kp.of_below hb⟩
    have := h.keep (T' := T) (.refl _ _) (Kp.of_below (S := fun _ => False) hb) id
    exact ⟨this.tag, this.lt, this.w0, this.w1, this.w2, this.cls, this.heap⟩
  pl c n mt s a hm hp ha := right_pl hX hm hp ha s rfl

section
variable {σ : Type} {p : Mp σ} {L : (Nat → Nat) → World → σ → Nat → Prop} {q : Value} {T : Nat → Nat} {w : World} {mb : Nat} {m : Mc σ} {hv : Value} {g : Nat} {s : Nat → Nat} {K : Nat}
structure FsR (w : World) (mb : Nat) (v0 v1 : Value) (ep : Int) (s : QV) (name : ByteArray) (av : Value) (w' : World) : Prop where
  bel : Below w.heap.size w w'
  m0 : w'.cell? ⟨mb, 0, none⟩ = some v0
  m1 : w'.cell? ⟨mb, 1, none⟩ = some v1
  m2 : w'.cell? ⟨mb, 2, none⟩ = some (.int .i64 ep)
  c0 : w'.cell? ⟨w.heap.size, 0, none⟩ = some (.int .i64 s.k)
  c1 : w'.cell? ⟨w.heap.size, 1, none⟩ = some (.int .i64 s.n)
  c2 : w'.cell? ⟨w.heap.size, 2, none⟩ = some (.string name)
  c3 : w'.cell? ⟨w.heap.size, 3, none⟩ = some av
  r0 : w'.cell? ⟨w.heap.size + 1, 0, none⟩ = some (.int .i64 0)
  r1 : w'.cell? ⟨w.heap.size + 1, 1, none⟩ = some (.int .i64 0)
  rf : ∀ o, w'.frozen? ⟨w.heap.size + 1, o, none⟩ = false
  sz : w.heap.size + 2 ≤ w'.heap.size
theorem FsR.later {w : World} {mb : Nat} {v0 v1 : Value} {ep : Int} {s : QV} {name : ByteArray} {av : Value} {w' w'' : World} (h : FsR w mb v0 v1 ep s name av w') (hb : Below w'.heap.size w' w'') : FsR w mb v0 v1 ep s name av w'' :=
  ⟨nstep h.bel hb, cell_later hb h.m0, cell_later hb h.m1, cell_later hb h.m2, cell_later hb h.c0, cell_later hb h.c1, cell_later hb h.c2, cell_later hb h.c3, cell_later hb h.r0, cell_later hb h.r1, fun o => (hb.frozen (p := ⟨w.heap.size + 1, o, none⟩) (by have := h.sz; simp only; omega)).trans (h.rf o), Nat.le_trans h.sz hb.size⟩
theorem FsR.al {w : World} {mb : Nat} {v0 v1 : Value} {ep : Int} {s : QV} {name : ByteArray} {av : Value} {w' : World} (h : FsR w mb v0 v1 ep s name av w') : w'.cell? ⟨mb, 0, none⟩ = some v0 ∧ w'.cell? ⟨mb, 1, none⟩ = some v1 ∧ w'.cell? ⟨mb, 2, none⟩ = some (.int .i64 ep) ∧ w'.cell? ⟨w.heap.size, 0, none⟩ = some (.int .i64 s.k) ∧ w'.cell? ⟨w.heap.size, 1, none⟩ = some (.int .i64 s.n) ∧ w'.cell? ⟨w.heap.size, 2, none⟩ = some (.string name) := ⟨h.m0, h.m1, h.m2, h.c0, h.c1, h.c2⟩
set_option maxHeartbeats 4000000 in
theorem first_any (hC : Cx p L q) (h : MacAt p T w mb m 0 hv g s) (hL : L T w m.st (p.E.fuel - m.sends).toNat) (hI : MIn p.E m) (sf : QV) (name : ByteArray) (args : List QV) (av : Value) (hSe : wrongV m.heap.length sf = 0) (hAr : VsOk m.heap.length args) (hA : IsVals (Fx T w) w av args) (hK5 : 5 ≤ K) :
    Calls Try.prog 33 #[.pointer (some ⟨mb, 0, none⟩), ClV sf name av] w fun e w' => EnPost p L T w mb 0 K (entE p.E 20 m (findE p.E.classes (classV m.heap sf) name).1 (findE p.E.classes (classV m.heap sf) name).2 sf args) e w' := by
  have hX := tagged_ext T w 4
  have hT4 : ∀ b, w.heap.size ≤ b → tagged T w 4 b = 4 := fun b hb => tagged_new hb
  have hb1 : Below w.heap.size w ((w.alloc (.cells #[.int .i64 sf.k, .int .i64 sf.n, .string name, av] 30)).alloc (.cells #[.int .i64 0, .int .i64 0] 27)).drew := (bel2 w _ _).drew
  have hM0 := (h.tagged0 4).later hb1
  have hA0 := (fx_tagged hA goodV 4).fx goodV (.refl _ w) (Kp.of_below (S := fun _ => False) hb1) id
  have hL0 := hC.keep (hC.keep hL hX (Kp.refl (fun _ => False) _ _) id id) (.refl _ _) (Kp.of_below (S := fun _ => False) hb1) id id
  have hFs : FsR w mb p.cv hv p.ep sf name av ((w.alloc (.cells #[.int .i64 sf.k, .int .i64 sf.n, .string name, av] 30)).alloc (.cells #[.int .i64 0, .int .i64 0] 27)).drew := by
    refine ⟨hb1, hM0.c0, hM0.c1, hM0.c2, cell_later (bel1 _ _).drew (cell_new w #[.int .i64 sf.k, .int .i64 sf.n, .string name, av] 30 _ rfl 0), cell_later (bel1 _ _).drew (cell_new w #[.int .i64 sf.k, .int .i64 sf.n, .string name, av] 30 _ rfl 1), cell_later (bel1 _ _).drew (cell_new w #[.int .i64 sf.k, .int .i64 sf.n, .string name, av] 30 _ rfl 2), cell_later (bel1 _ _).drew (cell_new w #[.int .i64 sf.k, .int .i64 sf.n, .string name, av] 30 _ rfl 3), cell_new _ _ _ _ (by simp) 0, cell_new _ _ _ _ (by simp) 1, fun o => row_free (cur := #[.int .i64 0, .int .i64 0]) (t := 27) ?_ o, by simp⟩
    rw [drew_heap]
    have := heap_alloc_new (w.alloc (.cells #[.int .i64 sf.k, .int .i64 sf.n, .string name, av] 30)) (.cells #[.int .i64 0, .int .i64 0] 27)
    simpa using this
  have hlm := blk_lt h.box
  obtain ⟨aa, ca, rfl, -⟩ := id hA
  clear h hA hL
  generalize tagged T w 4 = T1 at *
  have t1 : T1 (w.heap.size + 1) = 4 := hT4 _ (by omega)
  go_enter Try.func33, Try.ntmps33
  go_upto_region 1 with (fail)
  generalize ((w.alloc (.cells #[.int .i64 sf.k, .int .i64 sf.n, .string name, .slice aa args.length ca] 30)).alloc (.cells #[.int .i64 0, .int .i64 0] 27)) = W at *
  have hcl := hM0.cls.mono (Q := fun _ => True) goodC fun _ _ => trivial
  have hhp := hM0.heap.heap.mono (Q := fun _ => True) goodO fun _ _ => trivial
  obtain ⟨ch, rfl, -⟩ := hM0.heap.form
  obtain ⟨ac, cc, hcv, -⟩ := id hcl
  have hcls : ∀ w' : World, Below W.drew.heap.size W.drew w' → Calls Try.prog 41 #[.slice (some ⟨g, 0, none⟩) m.heap.length ch, VV sf] w' fun e w'' => e = .returned (.int .i64 (classV m.heap sf)) ∧ Below w'.heap.size w' w'' := fun w' hb => vclass_any m.heap _ sf w' (hhp.later goodO hb)
  have hfin : ∀ w' : World, Below W.drew.heap.size W.drew w' → Calls Try.prog 35 #[WV p.cv (.slice (some ⟨g, 0, none⟩) m.heap.length ch) p.ep, .int .i64 (classV m.heap sf), .string name] w' fun e w'' => e = .returned (.tuple #[.int .i64 (findE p.E.classes (classV m.heap sf) name).1, .int .i64 (findE p.E.classes (classV m.heap sf) name).2]) ∧ Below w'.heap.size w' w'' := fun w' hb => find_any ⟨p.E.classes, m.heap, p.ep⟩ (classV m.heap sf) name p.cv _ w' (hcl.later goodC hb) (hhp.later goodO hb)
  have HM0 := hid hM0
  rw [hcv] at hfin hFs
  clear hcv hcl hhp hM0
  obtain ⟨c0, hc0⟩ : ∃ c0, c0 = classV m.heap sf := ⟨_, rfl⟩
  rw [← hc0] at hcls hfin
  obtain ⟨r1, r2, hr⟩ : ∃ r1 r2, findE p.E.classes c0 name = (r1, r2) := ⟨_, _, rfl⟩
  rw [hr] at hfin
  have HRO : Hid (entE p.E 20 m (findE p.E.classes (classV m.heap sf) name).1 (findE p.E.classes (classV m.heap sf) name).2 sf args = entE p.E 20 m r1 r2 sf args) := by show _ = _; rw [← hc0, hr]
  clear hc0 hr
  have hS0 := hFs.al
  have tokA : True := trivial
  go_region_held3 (fun w' => w'.cell? ⟨mb, 0, none⟩ = some (.slice ac p.E.classes.length cc) ∧ w'.cell? ⟨mb, 1, none⟩ = some (.slice (some ⟨g, 0, none⟩) m.heap.length ch) ∧ w'.cell? ⟨mb, 2, none⟩ = some (.int .i64 p.ep) ∧ w'.cell? ⟨w.heap.size, 0, none⟩ = some (.int .i64 sf.k) ∧ w'.cell? ⟨w.heap.size, 1, none⟩ = some (.int .i64 sf.n) ∧ w'.cell? ⟨w.heap.size, 2, none⟩ = some (.string name))
    (first | with_reducible exact hS0 | with_reducible exact hS1 | with_reducible exact hS2)
    (first
      | (have _t := tokA; go_at_call 41; refine (hcls _ (Below.refl _ _)).mono ?_; rintro e w3 ⟨rfl, hb3⟩; have hF3 := hFs.later hb3; have hS1 := hF3.al; clear tokA; have tokB : True := trivial)
      | (have _t := tokB; go_at_call 35; refine (hfin _ hb3).mono ?_; rintro e w4 ⟨rfl, hb4⟩; have hF4 := hF3.later hb4; have hS2 := hF4.al; have hb34 := nstep hb3 hb4; clear tokB))
  have hM4 := HM0.out.later hb34
  have hA4 := hA0.fx goodV (.refl _ _) (Kp.of_below (S := fun _ => False) hb34) id
  have hL4 := hC.keep hL0 (.refl _ _) (Kp.of_below (S := fun _ => False) hb34) id id
  have hent := enter_all hC 20 (Nat.le_refl _) K T1 w4 mb m _ _ _ r1 r2 sf args _ hK5 hM4 hL4 hI hSe hAr hA4
  have HKW := hid (Kp.of_below (S := All K) (T := T) hF4.bel)
  obtain ⟨-, m0, m1, m2, c0', c1, c2, c3, r0, r1', rf, sz⟩ := id hF4
  have H4 := hid hF4
  clear hS0 hS1 hS2 hcls hfin hF3 hF4 hFs hb3 hb4 hb34 hM4 hA4 hL4
  obtain ⟨R, hR⟩ : ∃ R, entE p.E 20 m r1 r2 sf args = R := ⟨_, rfl⟩
  rw [hR] at hent HRO
  clear hR
  go_wp2_with fail
  refine hent.mono ?_
  rintro e w6 ⟨rfl, ⟨T6, hX6, ⟨hv6, g6, s6, hM6⟩, hL6⟩, hK6⟩
  have q0 := hK6.cell r0 (by rw [t1]; unfold All; omega)
  have q1 := hK6.cell r1' (by rw [t1]; unfold All; omega)
  have qf : ∀ o, w6.frozen? ⟨w.heap.size + 1, o, none⟩ = false := fun o => kp_frozen hK6 (by omega) (by rw [t1]; unfold All; omega) (rf o)
  have t6 : T6 (w.heap.size + 1) = 4 := by rw [hX6 _ (by omega)]; exact t1
  have HQ := hid fun u0 u1 => EnPost.fin (r := R) hC (hX.trans HKW.out.size hX6) (show MacAt p T6 w6 mb R.1 0 hv6 g6 s6 from hM6) hL6 (HKW.out.trans hX hK6) t6 u0 u1
  clear hent hM6 hL6 hK6 hX6 m0 m1 m2 c0' c1 c2 c3 r0 r1' rf
  obtain ⟨rm, v, er⟩ := R
  go_wp2
  rw [HRO.out]
  refine bodyPost_ret (v := .tuple #[VV v, .int .i64 er]) ?_ rfl (HQ.out _ _)
  simp [results, Try.results33, go_sem, q0, q1]
end

/-- What comes of a run, as a value. -/
abbrev RnV (r : Ran) : Value := .agg #[.int .i64 r.v.k, .int .i64 r.v.n, .int .i64 r.err, .int .i64 r.sends]
/-- What a plain run leaves. -/
def PlPost (w : World) (X : QW) (r : Ran) (e : Ending) (w' : World) : Prop :=
  Below w.heap.size w w' ∧ ∃ cv hv, e = .returned (.tuple #[WV cv hv X.epoch, RnV r]) ∧ IsClasses (fun b => w.heap.size ≤ b) w' cv X.classes ∧ IsHeap (fun b => w.heap.size ≤ b) w' hv r.heap
/-- What With's walk holds of its boxes. -/
structure WtR (w : World) (cv hv : Value) (ep : Int) (s : QV) (name : ByteArray) (av : Value) (w' : World) : Prop where
  w0 : w'.cell? ⟨w.heap.size, 0, none⟩ = some cv
  w1 : w'.cell? ⟨w.heap.size, 1, none⟩ = some hv
  w2 : w'.cell? ⟨w.heap.size, 2, none⟩ = some (.int .i64 ep)
  c0 : w'.cell? ⟨w.heap.size + 1, 0, none⟩ = some (.int .i64 s.k)
  c1 : w'.cell? ⟨w.heap.size + 1, 1, none⟩ = some (.int .i64 s.n)
  c2 : w'.cell? ⟨w.heap.size + 1, 2, none⟩ = some (.string name)
  c3 : w'.cell? ⟨w.heap.size + 1, 3, none⟩ = some av
  a0 : w'.cell? ⟨w.heap.size + 2, 0, none⟩ = some (.slice none 0 0)
  a1 : w'.cell? ⟨w.heap.size + 2, 1, none⟩ = some (.slice none 0 0)
  a2 : w'.cell? ⟨w.heap.size + 2, 2, none⟩ = some (.int .i64 0)
  af : ∀ o, w'.frozen? ⟨w.heap.size + 2, o, none⟩ = false
  b0 : w'.cell? ⟨w.heap.size + 3, 0, none⟩ = some (.int .i64 0)
  b1 : w'.cell? ⟨w.heap.size + 3, 1, none⟩ = some (.int .i64 0)
  b2 : w'.cell? ⟨w.heap.size + 3, 2, none⟩ = some (.int .i64 0)
  b3 : w'.cell? ⟨w.heap.size + 3, 3, none⟩ = some (.int .i64 0)
  bf : ∀ o, w'.frozen? ⟨w.heap.size + 3, o, none⟩ = false
  sz : w.heap.size + 4 ≤ w'.heap.size
theorem WtR.kp {w : World} {cv hv : Value} {ep : Int} {s : QV} {name : ByteArray} {av : Value} {w' w'' : World} {S : Nat → Prop} {T : Nat → Nat} (h : WtR w cv hv ep s name av w') (k : Kp S T w' w'') (hs : ∀ i, i < 4 → ¬ S (T (w.heap.size + i))) : WtR w cv hv ep s name av w'' :=
  have hz := h.sz
  ⟨k.cell h.w0 (hs 0 (by omega)), k.cell h.w1 (hs 0 (by omega)), k.cell h.w2 (hs 0 (by omega)), k.cell h.c0 (hs 1 (by omega)), k.cell h.c1 (hs 1 (by omega)), k.cell h.c2 (hs 1 (by omega)), k.cell h.c3 (hs 1 (by omega)), k.cell h.a0 (hs 2 (by omega)), k.cell h.a1 (hs 2 (by omega)), k.cell h.a2 (hs 2 (by omega)), fun o => kp_frozen k (by omega) (hs 2 (by omega)) (h.af o), k.cell h.b0 (hs 3 (by omega)), k.cell h.b1 (hs 3 (by omega)), k.cell h.b2 (hs 3 (by omega)), k.cell h.b3 (hs 3 (by omega)), fun o => kp_frozen k (by omega) (hs 3 (by omega)) (h.bf o), Nat.le_trans hz k.size⟩
theorem WtR.later {w : World} {cv hv : Value} {ep : Int} {s : QV} {name : ByteArray} {av : Value} {w' w'' : World} (h : WtR w cv hv ep s name av w') (hb : Below w'.heap.size w' w'') : WtR w cv hv ep s name av w'' := h.kp (T := fun _ => 0) (Kp.of_below (S := fun _ => False) hb) fun _ _ => id
theorem wtR_new (w : World) (cv hv : Value) (ep : Int) (s : QV) (name : ByteArray) (av : Value) : WtR w cv hv ep s name av ((((w.alloc (.cells #[cv, hv, .int .i64 ep] 25)).alloc (.cells #[.int .i64 s.k, .int .i64 s.n, .string name, av] 30)).alloc (.cells #[.slice none 0 0, .slice none 0 0, .int .i64 0] 25)).alloc (.cells #[.int .i64 0, .int .i64 0, .int .i64 0, .int .i64 0] 34)) := by
  obtain ⟨-, w0, w1, w2, c0, c1, c2, c3⟩ := wcR_new w cv hv ep s name av
  have q := bel2 ((w.alloc (.cells #[cv, hv, .int .i64 ep] 25)).alloc (.cells #[.int .i64 s.k, .int .i64 s.n, .string name, av] 30)) (.cells #[.slice none 0 0, .slice none 0 0, .int .i64 0] 25) (.cells #[.int .i64 0, .int .i64 0, .int .i64 0, .int .i64 0] 34)
  have e2 : ((w.alloc (.cells #[cv, hv, .int .i64 ep] 25)).alloc (.cells #[.int .i64 s.k, .int .i64 s.n, .string name, av] 30)).heap.size = w.heap.size + 2 := by simp
  have e3 : (((w.alloc (.cells #[cv, hv, .int .i64 ep] 25)).alloc (.cells #[.int .i64 s.k, .int .i64 s.n, .string name, av] 30)).alloc (.cells #[.slice none 0 0, .slice none 0 0, .int .i64 0] 25)).heap.size = w.heap.size + 3 := by simp
  refine ⟨cell_later q w0, cell_later q w1, cell_later q w2, cell_later q c0, cell_later q c1, cell_later q c2, cell_later q c3, cell_later (bel1 _ _) (cell_new _ _ _ _ e2 0), cell_later (bel1 _ _) (cell_new _ _ _ _ e2 1), cell_later (bel1 _ _) (cell_new _ _ _ _ e2 2), fun o => ((bel1 _ _).frozen (p := ⟨w.heap.size + 2, o, none⟩) (by rw [e3]; simp)).trans (row_free (cur := #[.slice none 0 0, .slice none 0 0, .int .i64 0]) (t := 25) (blk_new _ _ _ e2) o), cell_new _ _ _ _ e3 0, cell_new _ _ _ _ e3 1, cell_new _ _ _ _ e3 2, cell_new _ _ _ _ e3 3, row_free (cur := #[.int .i64 0, .int .i64 0, .int .i64 0, .int .i64 0]) (t := 34) (blk_new _ _ _ e3), by simp⟩
end Go.Proofs.Ytfdonemehiamjaa
