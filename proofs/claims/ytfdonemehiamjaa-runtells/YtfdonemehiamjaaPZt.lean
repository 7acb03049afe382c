/- With, and Plain. -/
import Derived.Test.YtfdonemehiamjaaPZs
namespace Go.Proofs.Ytfdonemehiamjaa
open Go.ChangeShapes Go.WideShapes Go.ChangeAt Go.RowKit
set_option linter.unusedSimpArgs false
set_option linter.unusedVariables false
set_option maxRecDepth 8000

theorem OwnC.rowIn {w : World} {B : Nat} {xs : List QC} {s : Nat → Nat} (h : OwnC w B xs s xs.length) (hby : xs.length * 56 ≤ 140737488351232) : IsClasses (fun b => B ≤ b ∧ b < s xs.length) w (.slice (some ⟨B, 0, none⟩) xs.length xs.length) xs := by
  have hB := h.2.1
  have h0n := h.mono 0 xs.length (by omega) (Nat.le_refl _)
  refine ⟨_, _, rfl, Nat.le_refl _, by unfold maxLen; omega, hby, fun i x hx => ⟨B, 0, rfl, ⟨Nat.le_refl _, by omega⟩, ?_⟩⟩
  have hi := lt_of_get hx
  have hn := h.mono (i + 1) xs.length (by omega) (Nat.le_refl _)
  have hk := h.2.2.2.2 i x hi hx
  have hm := h.mono 0 i (by omega) (by omega)
  obtain ⟨g, hg, hlo, hM⟩ := hk.meths
  obtain ⟨h0, h1, h2, h3, -⟩ := hk
  simp only [Nat.zero_add]
  exact ⟨h0, h1, h2, h3, _, hg, hM.mono goodM fun b hb => ⟨by have := hb.1; omega, by have := hb.2; omega⟩⟩
/-- A copy of a world: the classes lie below the objects. -/
theorem ownX_any {P : Nat → Prop} (X : QW) (cv hv : Value) (w : World) (h1 : IsClasses P w cv X.classes) (h2 : IsHeap P w hv X.heap) : Calls Try.prog 32 #[WV cv hv X.epoch] w fun e w' => ∃ g gh sh, e = .returned (WV (.slice (some ⟨g, 0, none⟩) X.classes.length X.classes.length) (.slice (some ⟨gh, 0, none⟩) X.heap.length X.heap.length) X.epoch) ∧ IsClasses (fun b => w.heap.size ≤ b ∧ b < gh) w' (.slice (some ⟨g, 0, none⟩) X.classes.length X.classes.length) X.classes ∧ HRow w' gh sh X.heap X.heap.length ∧ w.heap.size ≤ gh ∧ Below w.heap.size w w' := by
  obtain ⟨a1, c1, e1, -, -, b1, -⟩ := id h1
  refine (own_any X cv hv w h1 h2).mono ?_
  rintro e w' ⟨g, gh, s, rfl, hO, ⟨sh, hR⟩, hs, hg, hb⟩
  have hB := hO.2.1
  have h0n := hO.mono 0 X.classes.length (by omega) (Nat.le_refl _)
  exact ⟨g, gh, sh, rfl, (hO.rowIn b1).mono goodC fun b hb => ⟨by have := hb.1; omega, by have := hb.2; omega⟩, hR, by omega, hb⟩
theorem HRow.isHeap {w : World} {g : Nat} {s : Nat → Nat} {xs : List QO} (h : HRow w g s xs xs.length) (hby : xs.length * 32 ≤ 140737488351232) : IsHeap (fun b => g ≤ b) w (.slice (some ⟨g, 0, none⟩) xs.length xs.length) xs := by
  have hT : ∀ b, g ≤ b → b < w.heap.size → (fun b => if g ≤ b then 2 else 0) b = 2 := fun b hb _ => by simp [hb]
  refine (h.heap hby hT).heap.mono goodO fun b hb => ?_
  have := hb.2
  simp only at this
  split at this
  · assumption
  · cases this
/-- The result's boxes are written. -/
theorem PlPost.fin {w U : World} {X : QW} {r : Ran} {cv hv : Value} {P : Nat → Prop} (hb : Below w.heap.size w U) (hC : IsClasses P U cv X.classes) (hH : IsHeap P U hv r.heap) (h2 : ¬ P (w.heap.size + 2)) (h3 : ¬ P (w.heap.size + 3)) (hP : ∀ x, P x → w.heap.size ≤ x) (u0 u1 u2 v0 v1 v2 v3 : Value) :
    PlPost w X r (.returned (.tuple #[WV cv hv X.epoch, RnV r])) (((((((U.setCell ⟨w.heap.size + 2, 0, none⟩ u0).setCell ⟨w.heap.size + 2, 1, none⟩ u1).setCell ⟨w.heap.size + 2, 2, none⟩ u2).setCell ⟨w.heap.size + 3, 0, none⟩ v0).setCell ⟨w.heap.size + 3, 1, none⟩ v1).setCell ⟨w.heap.size + 3, 2, none⟩ v2).setCell ⟨w.heap.size + 3, 3, none⟩ v3) := by
  have k : Keeps P U (((((((U.setCell ⟨w.heap.size + 2, 0, none⟩ u0).setCell ⟨w.heap.size + 2, 1, none⟩ u1).setCell ⟨w.heap.size + 2, 2, none⟩ u2).setCell ⟨w.heap.size + 3, 0, none⟩ v0).setCell ⟨w.heap.size + 3, 1, none⟩ v1).setCell ⟨w.heap.size + 3, 2, none⟩ v2).setCell ⟨w.heap.size + 3, 3, none⟩ v3) := keep_set (keep_set (keep_set (keep_set (keep_set (keep_set (keep_set (Keeps.refl _ _) h2 _) h2 _) h2 _) h3 _) h3 _) h3 _) h3 _
  refine ⟨((((((hb.setCell (by simp) _).setCell (by simp) _).setCell (by simp) _).setCell (by simp) _).setCell (by simp) _).setCell (by simp) _).setCell (by simp) _, cv, hv, rfl, hC.keep goodC k hP, hH.keep goodO k hP⟩

theorem run_equalIn_fnil (d : Nat) (t : TypeId) (k : Nat) (c : Array Value) (w : World) {a b v} (h : Try.prog.underlying t = some (.func a b v)) : (Op.equalIn (d + 1) t (.func (.func k) #[] c) .nilFunc).run Try.prog w = .ok false w := by
  simp [Op.equalIn, run_underlying h]
theorem eqlF62 (k : Nat) (c : Array Value) (w : World) : (binOp .eql 62 (.func (.func k) #[] c) .nilFunc).run Try.prog w = .ok (.bool false) w := by
  simp only [binOp]
  have : (Op.equal 62 (.func (.func k) #[] c) .nilFunc).run Try.prog w = .ok false w := run_equalIn_fnil 9999 62 k c w Try.underlying62
  simp [this]
theorem eqlF85 (k : Nat) (c : Array Value) (w : World) : (binOp .eql 85 (.func (.func k) #[] c) .nilFunc).run Try.prog w = .ok (.bool false) w := by
  simp only [binOp]
  have : (Op.equal 85 (.func (.func k) #[] c) .nilFunc).run Try.prog w = .ok false w := run_equalIn_fnil 9999 85 k c w Try.underlying85
  simp [this]
/-- Tags when a machine is made: the boxes of With 4, classes 0, objects 2, the machine 1. -/
def tagW (n gh mb : Nat) : Nat → Nat := fun x => if x < n then 0 else if x < n + 4 then 4 else if x < gh then 0 else if x < mb then 2 else 1
theorem PlPost.drew {w w' : World} {X : QW} {r : Ran} {e : Ending} (h : PlPost w X r e w') : PlPost w X r e w'.drew := by
  obtain ⟨hb, cv, hv, rfl, h1, h2⟩ := h
  exact ⟨hb.drew, cv, hv, rfl, h1.later goodC (Below.refl _ _).drew, h2.later goodO (Below.refl _ _).drew⟩
/-- What the last statement of a run that failed holds. -/
structure EeR (w : World) (mb : Nat) (v0 v1 : Value) (ep n : Int) (w' : World) : Prop where
  w0 : w'.cell? ⟨w.heap.size, 0, none⟩ = some v0
  w1 : w'.cell? ⟨w.heap.size, 1, none⟩ = some v1
  w2 : w'.cell? ⟨w.heap.size, 2, none⟩ = some (.int .i64 ep)
  m4 : w'.cell? ⟨mb, 4, none⟩ = some (.int .i64 n)
  lt : w.heap.size + 4 ≤ mb
theorem EeR.later {w : World} {mb : Nat} {v0 v1 : Value} {ep n : Int} {w' w'' : World} (h : EeR w mb v0 v1 ep n w') (hb : Below w'.heap.size w' w'') : EeR w mb v0 v1 ep n w'' := ⟨cell_later hb h.w0, cell_later hb h.w1, cell_later hb h.w2, cell_later hb h.m4, h.lt⟩
theorem EeR.set {w : World} {mb : Nat} {v0 v1 : Value} {ep n : Int} {w' : World} (h : EeR w mb v0 v1 ep n w') {b : Nat} (hb : b = w.heap.size + 2 ∨ b = w.heap.size + 3) (o : Nat) (u : Value) : EeR w mb v0 v1 ep n (w'.setCell ⟨b, o, none⟩ u) :=
  have hl := h.lt
  ⟨(World.cell?_setCell_far _ _ _ _ (by simp; omega)).trans h.w0, (World.cell?_setCell_far _ _ _ _ (by simp; omega)).trans h.w1, (World.cell?_setCell_far _ _ _ _ (by simp; omega)).trans h.w2, (World.cell?_setCell_far _ _ _ _ (by simp; omega)).trans h.m4, hl⟩
theorem EeR.al {w : World} {mb : Nat} {v0 v1 : Value} {ep n : Int} {w' : World} (h : EeR w mb v0 v1 ep n w') : w'.cell? ⟨w.heap.size, 0, none⟩ = some v0 ∧ w'.cell? ⟨w.heap.size, 1, none⟩ = some v1 ∧ w'.cell? ⟨w.heap.size, 2, none⟩ = some (.int .i64 ep) ∧ w'.cell? ⟨mb, 4, none⟩ = some (.int .i64 n) := ⟨h.w0, h.w1, h.w2, h.m4⟩
set_option maxHeartbeats 8000000 in
theorem with_any {P Q : Nat → Prop} (X : QW) (hX : rightE X = 0) (s : QV) (name : ByteArray) (args : List QV) (fuel : Int) (cv hv av : Value) (w : World) (hC : IsClasses P w cv X.classes) (hH : IsHeap P w hv X.heap) (hA : IsVals Q w av args) (hn : name.size ≤ 140737488351232) (b : Nat) (hbl : b < w.heap.size) (hb0 : w.cell? ⟨b, 0, none⟩ = some cv) (hb1 : w.cell? ⟨b, 1, none⟩ = some hv) (hb2 : w.cell? ⟨b, 2, none⟩ = some (.int .i64 X.epoch)) :
    Calls Try.prog 19 #[WV cv hv X.epoch, ClV s name av, .int .i64 fuel, .func (.func 34) #[] #[.pointer (some ⟨b, 0, none⟩)], .func (.func 21) #[] #[]] w fun e w' => PlPost w X (plainE X s name args fuel) e w' := by
  have hR := wtR_new w cv hv X.epoch s name av
  have hbW : Below w.heap.size w ((((w.alloc (.cells #[cv, hv, .int .i64 X.epoch] 25)).alloc (.cells #[.int .i64 s.k, .int .i64 s.n, .string name, av] 30)).alloc (.cells #[.slice none 0 0, .slice none 0 0, .int .i64 0] 25)).alloc (.cells #[.int .i64 0, .int .i64 0, .int .i64 0, .int .i64 0] 34)) := nstep (bel2 _ _ _) (bel2 _ _ _)
  obtain ⟨ac, cc, hcv, -, -, hby, -⟩ := id hC
  obtain ⟨ah, ch, hhv, -, -, hbyh, -⟩ := id hH
  obtain ⟨aa, ca, hav, -⟩ := id hA
  subst hcv hhv hav
  go_enter Try.func19, Try.ntmps19
  go_upto_region 1 with (fail)
  generalize ((((w.alloc (.cells #[.slice ac X.classes.length cc, .slice ah X.heap.length ch, .int .i64 X.epoch] 25)).alloc (.cells #[.int .i64 s.k, .int .i64 s.n, .string name, .slice aa args.length ca] 30)).alloc (.cells #[.slice none 0 0, .slice none 0 0, .int .i64 0] 25)).alloc (.cells #[.int .i64 0, .int .i64 0, .int .i64 0, .int .i64 0] 34)) = W at *
  obtain ⟨w0, w1, w2, c0, c1, c2, c3, -⟩ := id hR
  have hwr := wrong_any X s name args fuel (.slice ac X.classes.length cc) _ _ W ⟨_, _, _, rfl⟩ (hH.later goodO hbW) (hA.later goodV hbW) hn
  have HPE : Hid (plainE X s name args fuel = if wrongCallE X s name args fuel ≠ 0 then ⟨X.heap, nilV, wrongCallE X s name args fuel, 0⟩ else if (runE X s name args fuel).2.2 ≠ 0 then ⟨X.heap, nilV, (runE X s name args fuel).2.2, (runE X s name args fuel).1.sends⟩ else ⟨(runE X s name args fuel).1.heap, (runE X s name args fuel).2.1, 0, (runE X s name args fuel).1.sends⟩) := rfl
  have HWI : Hid (wrongCallE X s name args fuel = 0 → (0 ≤ fuel ∧ fuel ≤ 400) ∧ wrongV X.heap.length s = 0 ∧ VsOk X.heap.length args) := wrongCall_is
  obtain ⟨ws, hws⟩ : ∃ ws, wrongCallE X s name args fuel = ws := ⟨_, rfl⟩
  rw [hws] at hwr HPE HWI
  clear hws
  go_wp2_with fail
  refine hwr.mono ?_
  rintro e w1' ⟨rfl, hbv⟩
  have hR1 := hR.later hbv
  have HB1 := hid (nstep hbW hbv)
  clear w0 w1 w2 c0 c1 c2 c3 hwr hR
  have hown := fun w' (hb : Below w.heap.size w w') => ownX_any X _ _ w' (hC.later goodC hb) (hH.later goodO hb)
  obtain ⟨w0, w1, w2, c0, c1, c2, c3, -⟩ := id hR1
  by_cases hz : ws = 0
  · have hz' : (ws != 0) = false := by simpa using hz
    rw [if_neg (by simpa using hz)] at HPE
    obtain ⟨hfu, hsl, hvs⟩ := HWI.out hz
    clear HWI hz
    have hq1 := eqlF62
    have hq2 := eqlF85
    have hsf : ∀ (w : World) (a : Addr) (k : Nat) (c : Array Value), (store a (.func (.func k) #[] c)).run Try.prog w = stored Try.prog w a (.func (.func k) #[] c) .plain := fun w a k c => run_store Try.prog w a _ _ rfl
    go_wp2_with fail
    refine (hown _ HB1.out).mono ?_
    rintro e w2' ⟨g, gh, sh, rfl, hCo, hHo, hgh, hbo⟩
    have hR2 := hR1.later hbo
    have hsz := hR1.sz
    have HB2 := hid (nstep HB1.out hbo)
    clear w0 w1 w2 c0 c1 c2 c3 hR1
    have hbM := bel1 w2' (MB (plainMp X fuel (.slice (some ⟨g, 0, none⟩) X.classes.length X.classes.length) b) (⟨X.heap, 0, 0, ()⟩ : Mc Unit) 0 (.slice (some ⟨gh, 0, none⟩) X.heap.length X.heap.length))
    have hbw3 := nstep HB2.out hbM
    have hgl : gh < w2'.heap.size := by obtain ⟨cur, h1, -⟩ := hHo.row; exact blk_lt h1
    have hs2 := hbo.size
    have T0 : ∀ x, x < w.heap.size → tagW w.heap.size gh w2'.heap.size x = 0 := fun x hx => by unfold tagW; rw [if_pos hx]
    have T4 : ∀ i, i < 4 → tagW w.heap.size gh w2'.heap.size (w.heap.size + i) = 4 := fun i hi => by unfold tagW; rw [if_neg (by omega), if_pos (by omega)]
    have Tc : ∀ x, w1'.heap.size ≤ x → x < gh → tagW w.heap.size gh w2'.heap.size x = 0 := fun x h1 h2 => by unfold tagW; rw [if_neg (by omega), if_neg (by omega), if_pos h2]
    have Th : ∀ x, gh ≤ x → x < w2'.heap.size → tagW w.heap.size gh w2'.heap.size x = 2 := fun x h1 h2 => by unfold tagW; rw [if_neg (by omega), if_neg (by omega), if_neg (by omega), if_pos h2]
    have Tm : tagW w.heap.size gh w2'.heap.size w2'.heap.size = 1 := by unfold tagW; rw [if_neg (by omega), if_neg (by omega), if_neg (by omega), if_neg (by omega)]
    generalize tagW w.heap.size gh w2'.heap.size = Tg at *
    have hM3 : MacAt (plainMp X fuel (.slice (some ⟨g, 0, none⟩) X.classes.length X.classes.length) b) Tg (w2'.alloc (MB (plainMp X fuel (.slice (some ⟨g, 0, none⟩) X.classes.length X.classes.length) b) (⟨X.heap, 0, 0, ()⟩ : Mc Unit) 0 (.slice (some ⟨gh, 0, none⟩) X.heap.length X.heap.length))) w2'.heap.size ⟨X.heap, 0, 0, ()⟩ 0 (.slice (some ⟨gh, 0, none⟩) X.heap.length X.heap.length) gh sh :=
      ⟨heap_alloc_new w2' _, Tm, (hHo.heap hbyh Th).keep (.refl _ _) (Kp.of_below (S := fun _ => False) hbM) id, hCo.keep goodC (Keeps.of_below hbM) fun x hx => ⟨by have := hx.2; simp; omega, Tc x hx.1 hx.2⟩⟩
    have hLk : LkP X b (.slice ac X.classes.length cc) (.slice ah X.heap.length ch) Tg (w2'.alloc (MB (plainMp X fuel (.slice (some ⟨g, 0, none⟩) X.classes.length X.classes.length) b) (⟨X.heap, 0, 0, ()⟩ : Mc Unit) 0 (.slice (some ⟨gh, 0, none⟩) X.heap.length X.heap.length))) () (fuel - 0).toNat :=
      ⟨T0 b hbl, Nat.lt_of_lt_of_le hbl hbw3.size, cell_later hbw3 hb0, cell_later hbw3 hb1, cell_later hbw3 hb2, (bound_classes hC).keep goodC (Keeps.of_below hbw3) fun x hx => ⟨Nat.lt_of_lt_of_le hx hbw3.size, T0 x hx⟩, (bound_heap hH).keep goodO (Keeps.of_below hbw3) fun x hx => ⟨Nat.lt_of_lt_of_le hx hbw3.size, T0 x hx⟩⟩
    have hA3 : IsVals (Fx Tg (w2'.alloc (MB (plainMp X fuel (.slice (some ⟨g, 0, none⟩) X.classes.length X.classes.length) b) (⟨X.heap, 0, 0, ()⟩ : Mc Unit) 0 (.slice (some ⟨gh, 0, none⟩) X.heap.length X.heap.length)))) (w2'.alloc (MB (plainMp X fuel (.slice (some ⟨g, 0, none⟩) X.classes.length X.classes.length) b) (⟨X.heap, 0, 0, ()⟩ : Mc Unit) 0 (.slice (some ⟨gh, 0, none⟩) X.heap.length X.heap.length))) (.slice aa args.length ca) args := (bound_vals hA).keep goodV (Keeps.of_below hbw3) fun x hx => ⟨Nat.lt_of_lt_of_le hx hbw3.size, T0 x hx⟩
    have hMi : MIn (plainMp X fuel (.slice (some ⟨g, 0, none⟩) X.classes.length X.classes.length) b).E (⟨X.heap, 0, 0, ()⟩ : Mc Unit) := ⟨right_heap hX, ⟨by simp, hfu.1⟩, by simp⟩
    have hfst := first_any (plain_cx hX hfu.2 (.slice (some ⟨g, 0, none⟩) X.classes.length X.classes.length) b (.slice ac X.classes.length cc) (.slice ah X.heap.length ch)) hM3 hLk hMi s name args _ hsl hvs hA3 (K := 5) (Nat.le_refl _)
    have hR3 := hR2.later hbM
    have HBW3 := hid hbw3
    have HCo3 : Hid (IsClasses (fun x => w1'.heap.size ≤ x ∧ x < gh) (w2'.alloc (MB (plainMp X fuel (.slice (some ⟨g, 0, none⟩) X.classes.length X.classes.length) b) (⟨X.heap, 0, 0, ()⟩ : Mc Unit) 0 (.slice (some ⟨gh, 0, none⟩) X.heap.length X.heap.length))) (.slice (some ⟨g, 0, none⟩) X.classes.length X.classes.length) X.classes) := hCo.later goodC hbM
    clear hM3 hLk hA3 hMi hCo hHo hR2 hbM hbo hb0 hb1 hb2
    have HRE : Hid (runE X s name args fuel = entE (plainMp X fuel (.slice (some ⟨g, 0, none⟩) X.classes.length X.classes.length) b).E 20 ⟨X.heap, 0, 0, ()⟩ (findE (plainMp X fuel (.slice (some ⟨g, 0, none⟩) X.classes.length X.classes.length) b).E.classes (classV X.heap s) name).1 (findE (plainMp X fuel (.slice (some ⟨g, 0, none⟩) X.classes.length X.classes.length) b).E.classes (classV X.heap s) name).2 s args) := rfl
    rw [← HRE.out] at hfst
    clear HRE
    obtain ⟨R, hRn⟩ : ∃ R, runE X s name args fuel = R := ⟨_, rfl⟩
    rw [hRn] at hfst HPE
    clear hRn
    obtain ⟨rm, v, er⟩ := R
    simp only at HPE
    obtain ⟨V3, hV3⟩ : ∃ V3, V3 = w2'.alloc (MB (plainMp X fuel (.slice (some ⟨g, 0, none⟩) X.classes.length X.classes.length) b) (⟨X.heap, 0, 0, ()⟩ : Mc Unit) 0 (.slice (some ⟨gh, 0, none⟩) X.heap.length X.heap.length)) := ⟨_, rfl⟩
    rw [← hV3] at hfst hR3 HBW3 HCo3
    have hV3' : (w2'.alloc (.cells #[.slice (some ⟨g, 0, none⟩) X.classes.length X.classes.length, .slice (some ⟨gh, 0, none⟩) X.heap.length X.heap.length, .int .i64 X.epoch, .int .i64 fuel, .int .i64 0, .int .i64 0, .int .i64 0, .func (.func 34) #[] #[.pointer (some ⟨b, 0, none⟩)], .func (.func 21) #[] #[]] 88)) = V3 := by rw [hV3]; rfl
    have hz3 : w2'.heap.size < V3.heap.size := by rw [hV3]; simp
    clear hV3
    go_upto_region 9 with (fail)
    try rw [hV3']
    clear hV3'
    obtain ⟨w0, w1, w2, c0, c1, c2, c3, -⟩ := id hR3
    have HMB : Hid (w2'.heap.size < V3.heap.size) := hz3
    clear hz3 hq1 hq2 hsf
    generalize w2'.heap.size = mb at *
    go_wp2_with fail
    refine hfst.mono ?_
    rintro e w4 ⟨rfl, ⟨T4', hX4, ⟨hv4, g4, s4, hM4⟩, -⟩, hK4⟩
    simp only at hM4
    have hR4 := hR3.kp hK4 (fun i hi => by rw [T4 i hi]; unfold All; omega)
    have HB4 := hid (HBW3.out.trans (hK4.below (lo := w.heap.size) (fun x hx => by rw [T0 x hx]; unfold All; omega) HBW3.out.size))
    have t42 : T4' (w.heap.size + 2) = 4 := by rw [hX4 _ (by have := hR3.sz; omega)]; exact T4 2 (by omega)
    have t43 : T4' (w.heap.size + 3) = 4 := by rw [hX4 _ (by have := hR3.sz; omega)]; exact T4 3 (by omega)
    have hlm4 : mb < w4.heap.size := blk_lt hM4.box
    have hmw : w.heap.size + 4 ≤ mb := by omega
    have HCo4 : Hid (IsClasses (fun x => T4' x ≠ 4 ∧ w.heap.size ≤ x) w4 (.slice (some ⟨g, 0, none⟩) X.classes.length X.classes.length) X.classes) := HCo3.out.keep goodC (Keeps.of_block fun x hx hl => hK4.blk x hl (by rw [Tc x hx.1 hx.2]; unfold All; omega)) fun x hx => ⟨by rw [hX4 x (by have := HMB.out; have := hx.2; omega), Tc x hx.1 hx.2]; omega, by have := hx.1; omega⟩
    have TZ : Hid (∀ x, x < w.heap.size → T4' x = 0) := fun x hx => by rw [hX4 x (Nat.lt_of_lt_of_le hx HBW3.out.size)]; exact T0 x hx
    clear hfst w0 w1 w2 c0 c1 c2 c3 hR3 hX4 hK4 HCo3 T0 T4 Tc Th Tm
    have hbv4 := bel1 w4 (.cells #[.int .i64 v.k, .int .i64 v.n] 27)
    have hM5 := hM4.later hbv4
    have HCo5 := hid (HCo4.out.later goodC hbv4)
    have hR5 := hR4.later hbv4
    have HB5 := hid (nstep HB4.out hbv4)
    have v0 : (w4.alloc (.cells #[.int .i64 v.k, .int .i64 v.n] 27)).cell? ⟨w4.heap.size, 0, none⟩ = some (.int .i64 v.k) := cell_new _ _ _ _ rfl 0
    have v1 : (w4.alloc (.cells #[.int .i64 v.k, .int .i64 v.n] 27)).cell? ⟨w4.heap.size, 1, none⟩ = some (.int .i64 v.n) := cell_new _ _ _ _ rfl 1
    have hsz4 := hR4.sz
    go_upto_region 10 with (fail)
    clear hM4 hR4 hbv4
    generalize hv4z : w4.heap.size = vb at *
    generalize (w4.alloc (.cells #[.int .i64 v.k, .int .i64 v.n] 27)) = V5 at *
    by_cases he : er = 0
    · have he' : (er != 0) = false := by simpa using he
      rw [if_neg (by simpa using he)] at HPE
      clear he
      obtain ⟨cap4, hv4e, -⟩ := hM5.heap.form
      have m0 : V5.cell? ⟨mb, 0, none⟩ = some (.slice (some ⟨g, 0, none⟩) X.classes.length X.classes.length) := hM5.c0
      have m1 := hM5.c1
      have m2 : V5.cell? ⟨mb, 2, none⟩ = some (.int .i64 X.epoch) := hM5.c2
      have m4 := hM5.c4
      rw [hv4e] at m1
      have HQ := hid fun u0 u1 u2 v0 v1 v2 v3 => PlPost.fin (r := ⟨rm.heap, v, 0, rm.sends⟩) (P := fun x => T4' x ≠ 4 ∧ w.heap.size ≤ x) HB5.out HCo5.out (hM5.heap.heap.mono goodO fun x hx => ⟨by rw [hx.2]; omega, Nat.le_of_not_lt fun hl => by have := TZ.out x hl; rw [hx.2] at this; omega⟩) (fun h => h.1 t42) (fun h => h.1 t43) (fun x hx => hx.2) u0 u1 u2 v0 v1 v2 v3
      rw [hv4e] at HQ
      obtain ⟨w0, w1, w2, c0, c1, c2, c3, a0, a1, a2, af, b0, b1, b2, b3, bf, -⟩ := id hR5
      have n1 : ¬ mb = w.heap.size + 2 := by omega
      have n2 : ¬ mb = w.heap.size + 3 := by omega
      have n3 : ¬ w.heap.size + 2 = mb := by omega
      have n4 : ¬ w.heap.size + 3 = mb := by omega
      have n5 : ¬ vb = w.heap.size + 2 := by omega
      have n6 : ¬ vb = w.heap.size + 3 := by omega
      have n7 : ¬ w.heap.size + 2 = vb := by omega
      have n8 : ¬ w.heap.size + 3 = vb := by omega
      clear hM5 hR5 hv4e
      simp only [Nat.add_assoc, Nat.reduceAdd] at *
      go_wp2
      go_region
      all_goals (
        go_wp2
        rw [HPE.out]
        refine bodyPost_ret (v := .tuple #[WV (.slice (some ⟨g, 0, none⟩) X.classes.length X.classes.length) (.slice (some ⟨g4, 0, none⟩) rm.heap.length cap4) X.epoch, RnV ⟨rm.heap, v, 0, rm.sends⟩]) ?_ rfl (HQ.out _ _ _ _ _ _ _).drew
        simp [results, Try.results19, go_sem, a0, a1, a2, b0, b1, b2, b3])
    · have he' : (er != 0) = true := by simpa using he
      rw [if_pos (by simpa using he)] at HPE
      clear he
      have m4 := hM5.c4
      have hownD := hown V5.drew HB5.out.drew
      have hS0 : EeR w mb (.slice ac X.classes.length cc) (.slice ah X.heap.length ch) X.epoch rm.sends V5.drew := ⟨hR5.w0, hR5.w1, hR5.w2, m4, by omega⟩
      have hRd := hR5.later (Below.refl _ V5).drew
      have HB6 := hid HB5.out.drew
      have hV5z : w.heap.size + 4 ≤ V5.drew.heap.size := hRd.sz
      clear hM5 hR5 m4
      simp only [Nat.add_assoc, Nat.reduceAdd] at *
      go_wp2
      go_region_held3 (fun w' => w'.cell? ⟨w.heap.size, 0, none⟩ = some (.slice ac X.classes.length cc) ∧ w'.cell? ⟨w.heap.size, 1, none⟩ = some (.slice ah X.heap.length ch) ∧ w'.cell? ⟨w.heap.size, 2, none⟩ = some (.int .i64 X.epoch) ∧ w'.cell? ⟨mb, 4, none⟩ = some (.int .i64 rm.sends))
        (first | with_reducible exact hS0.al | with_reducible exact hY.al | with_reducible exact (((hY.set (Or.inl rfl) _ _).set (Or.inl rfl) _ _).set (Or.inl rfl) _ _).al | with_reducible exact (((((((hY.set (Or.inl rfl) _ _).set (Or.inl rfl) _ _).set (Or.inl rfl) _ _).set (Or.inr rfl) _ _).set (Or.inr rfl) _ _).set (Or.inr rfl) _ _).set (Or.inr rfl) _ _).al | with_reducible exact ((((hY.set (Or.inr rfl) _ _).set (Or.inr rfl) _ _).set (Or.inr rfl) _ _).set (Or.inr rfl) _ _).al)
        (first | (go_at_call 32; refine hownD.mono ?_; rintro e w6 ⟨g', gh', sh', rfl, hCo, hHo, hgh', hbo⟩; have hY := hS0.later hbo; have HQ := hid (fun u0 u1 u2 v0 v1 v2 v3 => PlPost.fin (r := ⟨X.heap, nilV, er, rm.sends⟩) (P := fun b => V5.drew.heap.size ≤ b) (nstep HB6.out hbo) (hCo.mono goodC fun b h => h.1) ((hHo.isHeap hbyh).mono goodO fun b h => Nat.le_trans hgh' h) (by omega) (by omega) (fun x hx => by omega) u0 u1 u2 v0 v1 v2 v3); obtain ⟨-, -, -, -, -, -, -, a0, a1, a2, af, b0, b1, b2, b3, bf, -⟩ := id (hRd.later hbo); clear hCo hHo))
      all_goals (
        go_wp2
        rw [HPE.out]
        refine bodyPost_ret (v := .tuple #[WV (.slice (some ⟨g', 0, none⟩) X.classes.length X.classes.length) (.slice (some ⟨gh', 0, none⟩) X.heap.length X.heap.length) X.epoch, RnV ⟨X.heap, nilV, er, rm.sends⟩]) ?_ rfl (HQ.out _ _ _ _ _ _ _)
        simp [results, Try.results19, go_sem, a0, a1, a2, b0, b1, b2, b3])
  · have hz' : (ws != 0) = true := by simpa using hz
    rw [if_pos (by simpa using hz)] at HPE
    clear HWI hz
    go_wp2_with fail
    refine (hown _ HB1.out).mono ?_
    rintro e w2' ⟨g, gh, sh, rfl, hCo, hHo, hgh, hbo⟩
    have hR2 := hR1.later hbo
    have hsz := hR1.sz
    have HQ := hid fun u0 u1 u2 v0 v1 v2 v3 => PlPost.fin (r := ⟨X.heap, nilV, ws, 0⟩) (P := fun b => w1'.heap.size ≤ b) (nstep HB1.out hbo) (hCo.mono goodC fun b h => h.1) ((hHo.isHeap hbyh).mono goodO fun b h => by omega) (by omega) (by omega) (fun x hx => by omega) u0 u1 u2 v0 v1 v2 v3
    clear w0 w1 w2 c0 c1 c2 c3 hCo hHo hown
    obtain ⟨w0, w1, w2, c0, c1, c2, c3, a0, a1, a2, af, b0, b1, b2, b3, bf, -⟩ := id hR2
    go_wp2
    rw [HPE.out]
    refine bodyPost_ret (v := .tuple #[WV (.slice (some ⟨g, 0, none⟩) X.classes.length X.classes.length) (.slice (some ⟨gh, 0, none⟩) X.heap.length X.heap.length) X.epoch, RnV ⟨X.heap, nilV, ws, 0⟩]) ?_ rfl (HQ.out _ _ _ _ _ _ _)
    simp [results, Try.results19, go_sem, a0, a1, a2, b0, b1, b2, b3]

set_option maxHeartbeats 1000000 in
theorem finder_any (cv hv : Value) (ep : Int) (w : World) (h1 : ∃ a n c, cv = .slice a n c) (h2 : ∃ a n c, hv = .slice a n c) : Calls Try.prog 20 #[WV cv hv ep] w fun e w' => e = .returned (.func (.func 34) #[] #[.pointer (some ⟨w.heap.size, 0, none⟩)]) ∧ w'.cell? ⟨w.heap.size, 0, none⟩ = some cv ∧ w'.cell? ⟨w.heap.size, 1, none⟩ = some hv ∧ w'.cell? ⟨w.heap.size, 2, none⟩ = some (.int .i64 ep) ∧ w.heap.size < w'.heap.size ∧ Below w.heap.size w w' := by
  obtain ⟨a, n, c, rfl⟩ := h1
  obtain ⟨a2, n2, c2, rfl⟩ := h2
  go_enter Try.func20, Try.ntmps20
  go_wp2
  go_ret
  exact ⟨rfl, cell_new _ _ _ _ rfl 0, cell_new _ _ _ _ rfl 1, cell_new _ _ _ _ rfl 2, by simp, bel1 _ _⟩
/-- What Plain's one statement holds. -/
structure PnR (w : World) (cv hv : Value) (ep : Int) (s : QV) (name : ByteArray) (av : Value) (w' : World) : Prop where
  w0 : w'.cell? ⟨w.heap.size, 0, none⟩ = some cv
  w1 : w'.cell? ⟨w.heap.size, 1, none⟩ = some hv
  w2 : w'.cell? ⟨w.heap.size, 2, none⟩ = some (.int .i64 ep)
  c0 : w'.cell? ⟨w.heap.size + 1, 0, none⟩ = some (.int .i64 s.k)
  c1 : w'.cell? ⟨w.heap.size + 1, 1, none⟩ = some (.int .i64 s.n)
  c2 : w'.cell? ⟨w.heap.size + 1, 2, none⟩ = some (.string name)
  c3 : w'.cell? ⟨w.heap.size + 1, 3, none⟩ = some av
theorem PnR.set {w : World} {cv hv : Value} {ep : Int} {s : QV} {name : ByteArray} {av : Value} {w' : World} (h : PnR w cv hv ep s name av w') {b : Nat} (hb : b = w.heap.size + 2 ∨ b = w.heap.size + 3) (o : Nat) (u : Value) : PnR w cv hv ep s name av (w'.setCell ⟨b, o, none⟩ u) :=
  ⟨(World.cell?_setCell_far _ _ _ _ (by simp; omega)).trans h.w0, (World.cell?_setCell_far _ _ _ _ (by simp; omega)).trans h.w1, (World.cell?_setCell_far _ _ _ _ (by simp; omega)).trans h.w2, (World.cell?_setCell_far _ _ _ _ (by simp; omega)).trans h.c0, (World.cell?_setCell_far _ _ _ _ (by simp; omega)).trans h.c1, (World.cell?_setCell_far _ _ _ _ (by simp; omega)).trans h.c2, (World.cell?_setCell_far _ _ _ _ (by simp; omega)).trans h.c3⟩
theorem PnR.al {w : World} {cv hv : Value} {ep : Int} {s : QV} {name : ByteArray} {av : Value} {w' : World} (h : PnR w cv hv ep s name av w') : w'.cell? ⟨w.heap.size, 0, none⟩ = some cv ∧ w'.cell? ⟨w.heap.size, 1, none⟩ = some hv ∧ w'.cell? ⟨w.heap.size, 2, none⟩ = some (.int .i64 ep) ∧ w'.cell? ⟨w.heap.size + 1, 0, none⟩ = some (.int .i64 s.k) ∧ w'.cell? ⟨w.heap.size + 1, 1, none⟩ = some (.int .i64 s.n) ∧ w'.cell? ⟨w.heap.size + 1, 2, none⟩ = some (.string name) ∧ w'.cell? ⟨w.heap.size + 1, 3, none⟩ = some av := ⟨h.w0, h.w1, h.w2, h.c0, h.c1, h.c2, h.c3⟩
theorem WtR.pn {w : World} {cv hv : Value} {ep : Int} {s : QV} {name : ByteArray} {av : Value} {w' : World} (h : WtR w cv hv ep s name av w') : PnR w cv hv ep s name av w' := ⟨h.w0, h.w1, h.w2, h.c0, h.c1, h.c2, h.c3⟩
set_option maxHeartbeats 4000000 in
theorem plain_any {P Q : Nat → Prop} (X : QW) (hX : rightE X = 0) (s : QV) (name : ByteArray) (args : List QV) (fuel : Int) (cv hv av : Value) (w : World) (hC : IsClasses P w cv X.classes) (hH : IsHeap P w hv X.heap) (hA : IsVals Q w av args) (hn : name.size ≤ 140737488351232) :
    Calls Try.prog 8 #[WV cv hv X.epoch, ClV s name av, .int .i64 fuel] w fun e w' => PlPost w X (plainE X s name args fuel) e w' := by
  have hR := (wtR_new w cv hv X.epoch s name av).later (Below.refl _ _).drew
  have hbW : Below w.heap.size w ((((w.alloc (.cells #[cv, hv, .int .i64 X.epoch] 25)).alloc (.cells #[.int .i64 s.k, .int .i64 s.n, .string name, av] 30)).alloc (.cells #[.slice none 0 0, .slice none 0 0, .int .i64 0] 25)).alloc (.cells #[.int .i64 0, .int .i64 0, .int .i64 0, .int .i64 0] 34)).drew := (nstep (bel2 _ _ _) (bel2 _ _ _)).drew
  obtain ⟨ac, cc, rfl, -, -, hby, -⟩ := id hC
  obtain ⟨ah, ch, rfl, -, -, hbyh, -⟩ := id hH
  obtain ⟨aa, ca, rfl, -⟩ := id hA
  go_enter Try.func8, Try.ntmps8
  go_upto_region 1 with (fail)
  generalize ((((w.alloc (.cells #[.slice ac X.classes.length cc, .slice ah X.heap.length ch, .int .i64 X.epoch] 25)).alloc (.cells #[.int .i64 s.k, .int .i64 s.n, .string name, .slice aa args.length ca] 30)).alloc (.cells #[.slice none 0 0, .slice none 0 0, .int .i64 0] 25)).alloc (.cells #[.int .i64 0, .int .i64 0, .int .i64 0, .int .i64 0] 34)) = W at *
  have hS0 := hR.pn
  have hfd := finder_any (.slice ac X.classes.length cc) (.slice ah X.heap.length ch) X.epoch W.drew ⟨_, _, _, rfl⟩ ⟨_, _, _, rfl⟩
  have hwi := fun (w' : World) (hb : Below w.heap.size w w') (b : Nat) (h1 : b < w'.heap.size) h2 h3 h4 => with_any X hX s name args fuel _ _ _ w' (hC.later goodC hb) (hH.later goodO hb) (hA.later goodV hb) hn b h1 h2 h3 h4
  obtain ⟨r, hr⟩ : ∃ r, plainE X s name args fuel = r := ⟨_, rfl⟩
  rw [hr] at hwi
  have HRR := hid hr
  clear hC hH hA hr
  simp only [Nat.add_assoc, Nat.reduceAdd] at *
  have tokA : True := trivial
  go_region_held3 (fun w' => w'.cell? ⟨w.heap.size, 0, none⟩ = some (.slice ac X.classes.length cc) ∧ w'.cell? ⟨w.heap.size, 1, none⟩ = some (.slice ah X.heap.length ch) ∧ w'.cell? ⟨w.heap.size, 2, none⟩ = some (.int .i64 X.epoch) ∧ w'.cell? ⟨w.heap.size + 1, 0, none⟩ = some (.int .i64 s.k) ∧ w'.cell? ⟨w.heap.size + 1, 1, none⟩ = some (.int .i64 s.n) ∧ w'.cell? ⟨w.heap.size + 1, 2, none⟩ = some (.string name) ∧ w'.cell? ⟨w.heap.size + 1, 3, none⟩ = some (.slice aa args.length ca))
    (first | with_reducible exact hS0.al | with_reducible exact hS1.al | with_reducible exact hS2.al | with_reducible exact (((hS2.set (Or.inl rfl) _ _).set (Or.inl rfl) _ _).set (Or.inl rfl) _ _).al | with_reducible exact (((((((hS2.set (Or.inl rfl) _ _).set (Or.inl rfl) _ _).set (Or.inl rfl) _ _).set (Or.inr rfl) _ _).set (Or.inr rfl) _ _).set (Or.inr rfl) _ _).set (Or.inr rfl) _ _).al | with_reducible exact ((((hS2.set (Or.inr rfl) _ _).set (Or.inr rfl) _ _).set (Or.inr rfl) _ _).set (Or.inr rfl) _ _).al)
    (first
      | (have _t := tokA; go_at_call 20; refine hfd.mono ?_; rintro e w2 ⟨rfl, f0, f1, f2, fz, hb2⟩; have hR2 := hR.later hb2; have hS1 := hR2.pn; have hbw2 := nstep hbW hb2; clear tokA; have tokB : True := trivial)
      | (have _t := tokB; go_at_call 19; refine (hwi _ hbw2 _ fz f0 f1 f2).mono ?_; rintro e w3 ⟨hb3, cv3, hv3, rfl, hC3, hH3⟩; have hR3 := hR2.later hb3; have hS2 := hR3.pn; have HQ := hid (fun u0 u1 u2 v0 v1 v2 v3 => PlPost.fin (r := r) (X := X) (P := fun b => w2.heap.size ≤ b) (nstep hbw2 hb3) hC3 hH3 (by have := hR2.sz; omega) (by have := hR2.sz; omega) (fun x hx => by have := hR2.sz; omega) u0 u1 u2 v0 v1 v2 v3); obtain ⟨a3, k3, rfl, -⟩ := id hC3; obtain ⟨a4, k4, rfl, -⟩ := id hH3; obtain ⟨-, -, -, -, -, -, -, a0, a1, a2, af, b0, b1, b2, b3, bf, -⟩ := id hR3; clear hC3 hH3))
  all_goals (
    go_wp2
    rw [HRR.out]
    refine bodyPost_ret (v := .tuple #[WV (.slice a3 X.classes.length k3) (.slice a4 r.heap.length k4) X.epoch, RnV r]) ?_ rfl (HQ.out _ _ _ _ _ _ _)
    simp [results, Try.results8, go_sem, a0, a1, a2, b0, b1, b2, b3])
end Go.Proofs.Ytfdonemehiamjaa
