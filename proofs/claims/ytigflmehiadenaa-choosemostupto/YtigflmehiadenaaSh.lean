/- The closed fact of chapter 9. -/
import Derived.Test.YtigflmehiadenaaSe
import Derived.Test.YtigflmehiadenaaGd
import Derived.Test.YtigflmehiadenaaEb
namespace Go.Proofs.Ytigflmehiadenaa
open Go.ChangeShapes Go.WideShapes Go.ChangeAt Go.RowKit
set_option linter.unusedSimpArgs false
set_option linter.unusedVariables false
set_option maxRecDepth 8000

theorem row_in {α : Type} {E : Lay α} {sz bytes : Nat} (G : Good E sz) (hE : ∀ {P : Nat → Prop} {w : World} {f : Nat → Option Value} {x : α}, E P w f x → E (In w) w f x) {P : Nat → Prop} {w : World} {v : Value} {xs : List α} (h : IsRow E sz bytes P w v xs) : IsRow E sz bytes (In w) w v xs := by
  obtain ⟨ad, cap, h1, h2, h3, h4, h5⟩ := h
  refine ⟨ad, cap, h1, h2, h3, h4, fun i x hx => ?_⟩
  obtain ⟨b, o, e1, -, e3⟩ := h5 i x hx
  obtain ⟨u, hu, -⟩ := G.there e3 0 G.pos
  exact ⟨b, o, e1, World.block_lt_of_cell? w _ hu, hE e3⟩
theorem meths_in {P : Nat → Prop} {w : World} {v : Value} {xs : List QM} (h : IsMeths P w v xs) : IsMeths (In w) w v xs :=
  row_in goodM (fun ⟨h0, h1, h2, h3, h4, v, h5, h6⟩ => ⟨h0, h1, h2, h3, h4, v, h5, (code_in h6).mono goodI fun _ h => h.2⟩) h
theorem classes_in {P : Nat → Prop} {w : World} {v : Value} {xs : List QC} (h : IsClasses P w v xs) : IsClasses (In w) w v xs :=
  row_in goodC (fun ⟨h0, h1, h2, h3, v, h5, h6⟩ => ⟨h0, h1, h2, h3, v, h5, meths_in h6⟩) h
theorem vals_in {P : Nat → Prop} {w : World} {v : Value} {xs : List QV} (h : IsVals P w v xs) : IsVals (In w) w v xs := row_in goodV (fun h => h) h
theorem heap_in {P : Nat → Prop} {w : World} {v : Value} {xs : List QO} (h : IsHeap P w v xs) : IsHeap (In w) w v xs :=
  row_in goodO (fun ⟨h0, v, h5, h6⟩ => ⟨h0, v, h5, vals_in h6⟩) h

def a9G : QM := ⟨⟨#[103]⟩, 0, 0, 0, [⟨1, 0, 0, 0, ⟨#[]⟩⟩, ⟨17, 0, 0, 0, ⟨#[]⟩⟩]⟩
def a9M : QM := ⟨⟨#[109]⟩, 0, 0, 0, [⟨1, 0, 0, 0, ⟨#[]⟩⟩, ⟨14, 0, 0, 0, ⟨#[103]⟩⟩, ⟨17, 0, 0, 0, ⟨#[]⟩⟩]⟩
def a9X (ms : List QM) (ep : Int) : QW := ⟨newC ++ [⟨⟨#[65]⟩, 0, 0, ms⟩], [], ep⟩
theorem a9_e1 : wrongE newX.classes ⟨#[65]⟩ 0 0 = 0 := by kernel_rfl
theorem slotsOk_all {xs : List QC} (h : xs.all (fun x => decide (0 ≤ x.slots) && decide (x.slots ≤ 6)) = true) : SlotsOk xs := fun i x hx => by
  have := List.all_eq_true.1 h x (List.mem_of_getElem? hx)
  simpa using this
theorem a9_o0 : SlotsOk newX.classes := slotsOk_all (by kernel_rfl)
theorem a9_i2 : instX (a9X [] 0) 4 ⟨⟨#[65]⟩, 0, 0, []⟩ a9G = a9X [a9G] 1 := by kernel_rfl
theorem a9_i3 : instX (a9X [a9G] 1) 4 ⟨⟨#[65]⟩, 0, 0, [a9G]⟩ a9M = a9X [a9G, a9M] 2 := by kernel_rfl
abbrev a9S : QS := ⟨4, ⟨#[109]⟩, 1⟩
abbrev a9T : List QT := [⟨a9S, [⟨4, 2⟩]⟩]
theorem a9_s1 : sitesE (a9X [a9G, a9M] 2) a9T 4 1 = [-1, 4, -1] := by kernel_rfl
theorem a9_s2 : siteE (a9X [a9G, a9M] 2) a9T a9S ⟨#[103]⟩ 0 = 4 := by kernel_rfl
theorem a9_s3 : siteE (a9X [a9G, a9M] 2) [] a9S ⟨#[103]⟩ 0 = -1 := by kernel_rfl
theorem a9_l1 : leafE a9G = true := by kernel_rfl
theorem a9_l2 : leafE a9M = false := by kernel_rfl

def risesB : List QM → Bool
  | [] => true
  | [_] => true
  | a :: b :: r => ltN a.name b.name && risesB (b :: r)
theorem risesB_is : ∀ {xs : List QM}, risesB xs = true → RisesM xs
  | [], _ => fun i x y hx _ => by simp at hx
  | [a], _ => fun i x y hx hy => by simp at hy
  | a :: b :: r, h => fun i x y hx hy => by
    unfold risesB at h
    simp only [Bool.and_eq_true] at h
    cases i with
    | zero => simp at hx hy; subst hx hy; exact h.1
    | succ i => exact risesB_is h.2 i x y (by simpa using hx) (by simpa using hy)
theorem risesC_all {xs : List QC} (h : xs.all (fun x => risesB x.methods) = true) : RisesC xs := fun i x hx => risesB_is (List.all_eq_true.1 h x (List.mem_of_getElem? hx))
theorem a9_r1 : RisesC (a9X [] 0).classes := risesC_all (by kernel_rfl)
theorem a9_r2 : RisesC (a9X [a9G] 1).classes := risesC_all (by kernel_rfl)

theorem rmake9 {P : Nat → Prop} (cv hv : Value) (w : World) (hh : IsClasses P w cv newX.classes) (hH : IsHeap P w hv []) : Calls Try.prog 29 #[WV cv hv 0, .string ⟨#[65]⟩, .int .i64 0, .int .i64 0] w fun e w' => ∃ a k, e = .returned (.tuple #[WV (.slice a 5 k) hv 0, .int .i64 4, .int .i64 0]) ∧ IsClasses (In w') w' (.slice a 5 k) (a9X [] 0).classes ∧ IsHeap (In w') w' hv [] ∧ Below w.heap.size w w' := by
  refine (rmake_any newX ⟨#[65]⟩ 0 0 cv hv w (by decide) hh hH a9_o0).mono ?_
  rintro e w' ⟨⟨h, -⟩ | ⟨h, cv', rfl, hC⟩, hb⟩
  · exact absurd a9_e1 h
  · obtain ⟨a, k, rfl⟩ := hC.get
    exact ⟨a, k, rfl, classes_in hC, heap_in (hH.later goodO hb), hb⟩
theorem rinst9 {P : Nat → Prop} (X Y : QW) (x : QC) (m : QM) (cv hv mv : Value) (w : World) (ep : Int) (hep : X.epoch = ep) (ep' : Int) (hep' : Y.epoch = ep') (hx : X.classes[4]? = some x) (hno : ¬ (numI x.methods m.name < 0 ∧ 8 ≤ x.methods.length)) (hY : instX X 4 x m = Y) (hl : Y.classes.length = 5) (hn : m.name.size ≤ 140737488351232) (hR : RisesC X.classes) (hXh : X.heap = [])
    (hh : IsClasses P w cv X.classes) (hH : IsHeap P w hv []) (hM : IsCode P w mv m.code) : Calls Try.prog 30 #[WV cv hv ep, .int .i64 4, MV m mv] w fun e w' => ∃ a k, e = .returned (.tuple #[WV (.slice a 5 k) hv ep', .int .i64 0]) ∧ IsClasses (fun b => P b ∨ w.heap.size ≤ b) w' (.slice a 5 k) Y.classes ∧ Below w.heap.size w w' := by
  subst hep hep'
  refine (rinstall_any X 4 m cv hv mv w hh (by rw [hXh]; exact hH) hM hn hR).mono ?_
  rintro e w' ⟨⟨h, -⟩ | ⟨k, x', hk, hx', h⟩, hb⟩
  · have := lt_of_get hx
    simp [hasB] at h
    omega
  · obtain rfl : k = 4 := by omega
    rw [hx] at hx'; cases hx'
    rcases h with ⟨h1, h2, -⟩ | ⟨-, cv', rfl, hC⟩
    · exact absurd ⟨h1, h2⟩ hno
    · rw [hY] at hC
      obtain ⟨a, k', rfl⟩ := hC.get
      rw [hl] at hC ⊢
      refine ⟨a, k', ?_, hC, hb⟩
      rw [← hY]; rfl
theorem row9 {α : Type} {E : Lay α} {sz bytes : Nat} (G : Good E sz) {P : Nat → Prop} (w : World) (cs : List Value) (t : TypeId) (xs : List α) (h : ∀ w', Cells E sz P w' cs xs) (hP : P w.heap.size) (hs : xs.length * bytes ≤ 140737488351232) (hm : xs.length ≤ maxLen) : IsRow E sz bytes P (w.alloc (.cells cs.toArray t)) (.slice (some ⟨w.heap.size, 0, none⟩) xs.length xs.length) xs :=
  Cells.row (h _) G hP (heap_alloc_new w _) (by rw [List.take_of_length_le (by simp [(h w).1])]) (Nat.le_refl _) hm hs
def a9Gc : List Value := [.int .i64 1, .int .i64 0, .int .i64 0, .int .i64 0, .string ⟨#[]⟩, .int .i64 17, .int .i64 0, .int .i64 0, .int .i64 0, .string ⟨#[]⟩]
def a9Mc : List Value := [.int .i64 1, .int .i64 0, .int .i64 0, .int .i64 0, .string ⟨#[]⟩, .int .i64 14, .int .i64 0, .int .i64 0, .int .i64 0, .string ⟨#[103]⟩, .int .i64 17, .int .i64 0, .int .i64 0, .int .i64 0, .string ⟨#[]⟩]
theorem one_instr {P : Nat → Prop} {w : World} (x : QI) (h : x.name.size ≤ 140737488351232) : Cells InstrC 5 P w [.int .i64 x.op, .int .i64 x.a, .int .i64 x.b, .int .i64 x.c, .string x.name] [x] :=
  Cells.one goodI rfl ⟨rfl, rfl, rfl, rfl, rfl, h⟩
theorem a9G_cells {P : Nat → Prop} (w : World) : Cells InstrC 5 P w a9Gc a9G.code :=
  (one_instr (w := w) ⟨1, 0, 0, 0, ⟨#[]⟩⟩ (by decide)).append goodI (one_instr ⟨17, 0, 0, 0, ⟨#[]⟩⟩ (by decide))
theorem a9M_cells {P : Nat → Prop} (w : World) : Cells InstrC 5 P w a9Mc a9M.code :=
  ((one_instr (w := w) ⟨1, 0, 0, 0, ⟨#[]⟩⟩ (by decide)).append goodI (one_instr ⟨14, 0, 0, 0, ⟨#[103]⟩⟩ (by decide))).append goodI (one_instr ⟨17, 0, 0, 0, ⟨#[]⟩⟩ (by decide))
theorem sites9 {P P2 : Nat → Prop} (cv hv tv : Value) (w : World) (hC : IsClasses P w cv (a9X [a9G, a9M] 2).classes) (hH : IsHeap P w hv []) (hT : IsTallies P2 w tv a9T) :
    Calls Try.prog 9 #[WV cv hv 2, tv, .int .i64 4, .int .i64 1] w fun e w' => ∃ g o cap, e = .returned (.slice (some ⟨g, o, none⟩) 3 cap) ∧ w'.cell? ⟨g, o, none⟩ = some (.int .i64 (-1)) ∧ w'.cell? ⟨g, o + 1, none⟩ = some (.int .i64 4) ∧ Below w.heap.size w w' := by
  refine (sites_any (a9X [a9G, a9M] 2) a9T 4 1 cv hv tv w hC hH hT).mono ?_
  rintro e w' ⟨a, cap, rfl, hI, hb⟩
  rw [a9_s1] at hI ⊢
  obtain ⟨a', cap', e', -, -, -, hrow⟩ := hI
  simp only [Value.slice.injEq] at e'
  obtain ⟨rfl, -, -⟩ := e'
  obtain ⟨g, o, rfl, -, y0⟩ := hrow 0 (-1) rfl
  obtain ⟨g', o', e', -, y1⟩ := hrow 1 4 rfl
  cases e'
  exact ⟨g, o, cap, rfl, y0, y1, hb⟩
theorem site9a {P P2 : Nat → Prop} (cv hv tv : Value) (w : World) (hC : IsClasses P w cv (a9X [a9G, a9M] 2).classes) (hH : IsHeap P w hv []) (hT : IsTallies P2 w tv a9T) :
    Calls Try.prog 11 #[WV cv hv 2, tv, SV a9S, .string ⟨#[103]⟩, .int .i64 0] w fun e w' => e = .returned (.int .i64 4) ∧ Below w.heap.size w w' := by
  have := site_any (a9X [a9G, a9M] 2) a9T a9S ⟨#[103]⟩ 0 cv hv tv w hC hH hT
  rw [a9_s2] at this
  exact this
theorem site9b {P : Nat → Prop} (cv hv : Value) (w : World) (hC : IsClasses P w cv (a9X [a9G, a9M] 2).classes) (hH : IsHeap P w hv []) :
    Calls Try.prog 11 #[WV cv hv 2, .slice none 0 0, SV a9S, .string ⟨#[103]⟩, .int .i64 0] w fun e w' => e = .returned (.int .i64 (-1)) ∧ Below w.heap.size w w' := by
  have := site_any (P2 := P) (a9X [a9G, a9M] 2) [] a9S ⟨#[103]⟩ 0 cv hv (.slice none 0 0) w hC hH row_none
  rw [a9_s3] at this
  exact this
theorem leaf9 {P : Nat → Prop} (m : QM) (b : Bool) (hb : leafE m = b) (v : Value) (w : World) (hh : IsCode P w v m.code) : Calls Try.prog 7 #[MV m v] w fun e w' => e = .returned (.bool b) ∧ Below w.heap.size w w' := by
  subst hb; exact leaf_any m v w hh
theorem bxl {w w' : World} {B : Nat} {o : Obj} (h : w.heap[B]? = some o) (hb : Below w.heap.size w w') : w'.heap[B]? = some o := by rw [hb.block _ (blk_lt h)]; exact h
theorem box3 {w : World} {B : Nat} {x y z : Value} {t : TypeId} (h : w.heap[B]? = some (.cells #[x, y, z] t (0, 0))) : (w.cell? ⟨B, 0, none⟩ = some x ∧ w.cell? ⟨B, 1, none⟩ = some y ∧ w.cell? ⟨B, 2, none⟩ = some z) ∧ (∀ o, w.frozen? ⟨B, o, none⟩ = false) := by
  refine ⟨⟨?_, ?_, ?_⟩, fun o => by unfold World.frozen?; simp [h]⟩ <;> rw [cell_of_row _ _ _ _ _ _ h] <;> rfl
theorem box3_set {w : World} {B : Nat} {x y z u v r : Value} {t : TypeId} (h : w.heap[B]? = some (.cells #[x, y, z] t (0, 0))) : (((w.setCell ⟨B, 0, none⟩ u).setCell ⟨B, 1, none⟩ v).setCell ⟨B, 2, none⟩ r).heap[B]? = some (.cells #[u, v, r] t (0, 0)) := by
  rw [setCell_same (setCell_same (setCell_same h _) _) _]; rfl
/-- The world's box, and what is in it. -/
structure A9 (w : World) (B : Nat) (cv hv : Value) (X : QW) (w' : World) : Prop where
  box : w'.heap[B]? = some (.cells #[cv, hv, .int .i64 X.epoch] 25 (0, 0))
  C : IsClasses (fun b => b ≠ B) w' cv X.classes
  H : IsHeap (fun b => b ≠ B) w' hv []
  bel : Below w.heap.size w w'
theorem A9.later {w : World} {B : Nat} {cv hv : Value} {X : QW} {w' w'' : World} (h : A9 w B cv hv X w') (hb : Below w'.heap.size w' w'') : A9 w B cv hv X w'' :=
  ⟨bxl h.box hb, h.C.later goodC hb, h.H.later goodO hb, nstep h.bel hb⟩
theorem A9.set {w : World} {B : Nat} {cv hv cv' : Value} {X Y : QW} {w1 w' : World} (h : A9 w B cv hv X w1) (hb : Below w1.heap.size w1 w') (hC : IsClasses (fun b => b ≠ B ∨ w1.heap.size ≤ b) w' cv' Y.classes) (hB : w.heap.size ≤ B) : A9 w B cv' hv Y (((w'.setCell ⟨B, 0, none⟩ cv').setCell ⟨B, 1, none⟩ hv).setCell ⟨B, 2, none⟩ (.int .i64 Y.epoch)) := by
  have hk : Keeps (fun b => b ≠ B) w' (((w'.setCell ⟨B, 0, none⟩ cv').setCell ⟨B, 1, none⟩ hv).setCell ⟨B, 2, none⟩ (.int .i64 Y.epoch)) :=
    keep_set (keep_set (keep_set (Keeps.refl _ _) (by simp) _) (by simp) _) (by simp) _
  have hlt := blk_lt h.box
  refine ⟨box3_set (bxl h.box hb), (hC.mono (Q := fun b => b ≠ B) goodC fun b hb => ?_).keep goodC hk fun _ h => h, (h.H.later goodO hb).keep goodO hk fun _ h => h, below_set3 (nstep h.bel hb) hB _ _ _⟩
  rcases hb with h | h
  · exact h
  · omega

theorem a9T_row (w : World) : IsTallies (fun _ => True) ((w.alloc (.cells #[.int .i64 4, .int .i64 2] 48)).alloc (.cells #[.int .i64 4, .string ⟨#[109]⟩, .int .i64 1, .slice (some ⟨w.heap.size, 0, none⟩) 1 1] 46)) (.slice (some ⟨w.heap.size + 1, 0, none⟩) 1 1) a9T := by
  have hl : IsLines (fun _ => True) (w.alloc (.cells #[.int .i64 4, .int .i64 2] 48)) (.slice (some ⟨w.heap.size, 0, none⟩) 1 1) [⟨4, 2⟩] :=
    row9 goodL w [.int .i64 4, .int .i64 2] 48 [⟨4, 2⟩] (fun w' => Cells.one goodL rfl ⟨rfl, rfl⟩) trivial (by decide) (by decide)
  have h1 := hl.later goodL (bel1 _ (.cells #[.int .i64 4, .string ⟨#[109]⟩, .int .i64 1, .slice (some ⟨w.heap.size, 0, none⟩) 1 1] 46))
  have hc : Cells TallyC 4 (fun _ => True) ((w.alloc (.cells #[.int .i64 4, .int .i64 2] 48)).alloc (.cells #[.int .i64 4, .string ⟨#[109]⟩, .int .i64 1, .slice (some ⟨w.heap.size, 0, none⟩) 1 1] 46)) [.int .i64 4, .string ⟨#[109]⟩, .int .i64 1, .slice (some ⟨w.heap.size, 0, none⟩) 1 1] a9T := Cells.one goodT rfl ⟨rfl, rfl, rfl, _, rfl, h1⟩
  have hg := heap_alloc_new (w.alloc (.cells #[.int .i64 4, .int .i64 2] 48)) (.cells #[.int .i64 4, .string ⟨#[109]⟩, .int .i64 1, .slice (some ⟨w.heap.size, 0, none⟩) 1 1] 46)
  have hz : (w.alloc (.cells #[.int .i64 4, .int .i64 2] 48)).heap.size = w.heap.size + 1 := by simp
  rw [hz] at hg
  exact Cells.row (cap := 1) hc goodT trivial hg rfl (Nat.le_refl _) (by decide) (by decide)

set_option maxHeartbeats 4000000 in
theorem alive9 (w : World) : Calls Try.prog 13 #[] w fun e w' => e = .returned (.bool true) ∧ Below w.heap.size w w' := by
  go_enter Try.func13, Try.ntmps13
  go_wp2_with fail
  refine (rnew_any _).mono ?_
  rintro e w1 ⟨cv, hv, rfl, hC, hH, hB⟩
  obtain ⟨x1, y1, rfl⟩ := hC.get
  obtain ⟨x2, y2, rfl⟩ := hH.get
  go_wp2_with fail
  refine (rmake9 _ _ _ hC hH).mono ?_
  rintro e w2 ⟨a1, k1, rfl, hC1, hH1, hb⟩
  replace hB := nstep hB hb
  clear hb hC hH
  have hA0 : A9 w w2.heap.size (.slice a1 5 k1) (.slice x2 0 y2) (a9X [] 0) (w2.alloc (.cells #[.slice a1 5 k1, .slice x2 0 y2, .int .i64 0] 25)) :=
    ⟨heap_alloc_new _ _, (hC1.later goodC (bel1 _ _)).mono goodC fun b h => by have h' : b < w2.heap.size := h; omega, (hH1.later goodO (bel1 _ _)).mono goodO fun b h => by have h' : b < w2.heap.size := h; omega, nstep hB (bel1 _ _)⟩
  have hz : w.heap.size ≤ w2.heap.size := hB.size
  clear hB hC1 hH1
  go_upto_region 2 with (fail)
  generalize (w2.alloc (.cells #[.slice a1 5 k1, .slice x2 0 y2, .int .i64 0] 25)) = W3 at *
  generalize w2.heap.size = B at *
  obtain ⟨⟨q0, q1, q2⟩, qf⟩ := box3 hA0.box
  have hlt := blk_lt hA0.box
  have hG : IsCode (fun b => b ≠ B) (W3.alloc (.cells #[.int .i64 1, .int .i64 0, .int .i64 0, .int .i64 0, .string ⟨#[]⟩, .int .i64 17, .int .i64 0, .int .i64 0, .int .i64 0, .string ⟨#[]⟩] 52)) (.slice (some ⟨W3.heap.size, 0, none⟩) 2 2) a9G.code :=
    row9 goodI W3 a9Gc 52 a9G.code (fun w' => a9G_cells w') (by omega) (by decide) (by decide)
  have hb3 := bel1 W3 (.cells #[.int .i64 1, .int .i64 0, .int .i64 0, .int .i64 0, .string ⟨#[]⟩, .int .i64 17, .int .i64 0, .int .i64 0, .int .i64 0, .string ⟨#[]⟩] 52)
  replace hA0 := hA0.later hb3
  go_wp2_with fail
  clear q0 q1 q2 qf
  refine (rinst9 (a9X [] 0) (a9X [a9G] 1) ⟨⟨#[65]⟩, 0, 0, []⟩ a9G _ _ _ _ 0 rfl 1 rfl rfl (by simp) a9_i2 rfl (by decide) a9_r1 rfl hA0.C hA0.H hG).mono ?_
  rintro e w4 ⟨a2, k2, rfl, hC2, hb4⟩
  have hA1 : A9 w B (.slice a2 5 k2) (.slice x2 0 y2) (a9X [a9G] 1) (((w4.setCell ⟨B, 0, none⟩ (.slice a2 5 k2)).setCell ⟨B, 1, none⟩ (.slice x2 0 y2)).setCell ⟨B, 2, none⟩ (.int .i64 1)) := hA0.set (Y := a9X [a9G] 1) hb4 hC2 hz
  obtain ⟨⟨q0, q1, q2⟩, qf⟩ := box3 (bxl hA0.box hb4)
  clear hC2 hG hA0 hb4 hb3 hlt
  go_upto_region 3 with (fail)
  generalize (((w4.setCell ⟨B, 0, none⟩ (.slice a2 5 k2)).setCell ⟨B, 1, none⟩ (.slice x2 0 y2)).setCell ⟨B, 2, none⟩ (.int .i64 1)) = W5 at *
  clear q0 q1 q2 qf
  obtain ⟨⟨q0, q1, q2⟩, qf⟩ := box3 hA1.box
  have hlt := blk_lt hA1.box
  have hG : IsCode (fun b => b ≠ B) (W5.alloc (.cells #[.int .i64 1, .int .i64 0, .int .i64 0, .int .i64 0, .string ⟨#[]⟩, .int .i64 14, .int .i64 0, .int .i64 0, .int .i64 0, .string ⟨#[103]⟩, .int .i64 17, .int .i64 0, .int .i64 0, .int .i64 0, .string ⟨#[]⟩] 52)) (.slice (some ⟨W5.heap.size, 0, none⟩) 3 3) a9M.code :=
    row9 goodI W5 a9Mc 52 a9M.code (fun w' => a9M_cells w') (by omega) (by decide) (by decide)
  have hb5 := bel1 W5 (.cells #[.int .i64 1, .int .i64 0, .int .i64 0, .int .i64 0, .string ⟨#[]⟩, .int .i64 14, .int .i64 0, .int .i64 0, .int .i64 0, .string ⟨#[103]⟩, .int .i64 17, .int .i64 0, .int .i64 0, .int .i64 0, .string ⟨#[]⟩] 52)
  replace hA1 := hA1.later hb5
  go_wp2_with fail
  clear q0 q1 q2 qf
  refine (rinst9 (a9X [a9G] 1) (a9X [a9G, a9M] 2) ⟨⟨#[65]⟩, 0, 0, [a9G]⟩ a9M _ _ _ _ 1 rfl 2 rfl rfl (by simp) a9_i3 rfl (by decide) a9_r2 rfl hA1.C hA1.H hG).mono ?_
  rintro e w6 ⟨a3, k3, rfl, hC3, hb6⟩
  have hA2 : A9 w B (.slice a3 5 k3) (.slice x2 0 y2) (a9X [a9G, a9M] 2) (((w6.setCell ⟨B, 0, none⟩ (.slice a3 5 k3)).setCell ⟨B, 1, none⟩ (.slice x2 0 y2)).setCell ⟨B, 2, none⟩ (.int .i64 2)) := hA1.set (Y := a9X [a9G, a9M] 2) hb6 hC3 hz
  obtain ⟨⟨q0, q1, q2⟩, qf⟩ := box3 (bxl hA1.box hb6)
  clear hC3 hG hA1 hb5 hb6 hlt
  go_upto_region 4 with (fail)
  generalize (((w6.setCell ⟨B, 0, none⟩ (.slice a3 5 k3)).setCell ⟨B, 1, none⟩ (.slice x2 0 y2)).setCell ⟨B, 2, none⟩ (.int .i64 2)) = W7 at *
  clear q0 q1 q2 qf
  have hb7 := bel1 W7 (.cells #[.int .i64 4, .string ⟨#[109]⟩, .int .i64 1] 28)
  have hs7 := siteNew W7 a9S 28
  go_upto_region 5 with (fail)
  replace hA2 := hA2.later hb7
  generalize (W7.alloc (.cells #[.int .i64 4, .string ⟨#[109]⟩, .int .i64 1] 28)) = W8 at *
  generalize W7.heap.size = BS at *
  clear hb7
  have s0 : W8.cell? ⟨BS, 0, none⟩ = some (.int .i64 4) := hs7.c0
  have s1 : W8.cell? ⟨BS, 1, none⟩ = some (.string ⟨#[109]⟩) := hs7.c1
  have s2 : W8.cell? ⟨BS, 2, none⟩ = some (.int .i64 1) := hs7.c2
  have hT := a9T_row W8
  have hb9 := bel2 W8 (.cells #[.int .i64 4, .int .i64 2] 48) (.cells #[.int .i64 4, .string ⟨#[109]⟩, .int .i64 1, .slice (some ⟨W8.heap.size, 0, none⟩) 1 1] 46)
  go_upto_region 6 with (fail)
  clear s0 s1 s2
  replace hA2 := hA2.later hb9
  replace hs7 := hs7.later hb9
  generalize ((W8.alloc (.cells #[.int .i64 4, .int .i64 2] 48)).alloc (.cells #[.int .i64 4, .string ⟨#[109]⟩, .int .i64 1, .slice (some ⟨W8.heap.size, 0, none⟩) 1 1] 46)) = W9 at *
  clear hb9
  obtain ⟨⟨q0, q1, q2⟩, -⟩ := box3 hA2.box
  go_wp2_with fail
  clear q0 q1 q2
  refine (sites9 _ _ _ _ hA2.C hA2.H hT).mono ?_
  rintro e w10 ⟨g, o, cap, rfl, y0, y1, hb⟩
  replace hA2 := hA2.later hb
  replace hs7 := hs7.later hb
  replace hT := hT.later goodT hb
  clear hb
  obtain ⟨⟨q0, q1, q2⟩, -⟩ := box3 hA2.box
  have s0 : w10.cell? ⟨BS, 0, none⟩ = some (.int .i64 4) := hs7.c0
  have s1 : w10.cell? ⟨BS, 1, none⟩ = some (.string ⟨#[109]⟩) := hs7.c1
  have s2 : w10.cell? ⟨BS, 2, none⟩ = some (.int .i64 1) := hs7.c2
  go_wp2_with fail
  clear q0 q1 q2 s0 s1 s2 y0 y1
  refine (site9a _ _ _ _ hA2.C hA2.H hT).mono ?_
  rintro e w11 ⟨rfl, hb⟩
  replace hA2 := hA2.later hb
  replace hs7 := hs7.later hb
  clear hb hT
  obtain ⟨⟨q0, q1, q2⟩, -⟩ := box3 hA2.box
  have s0 : w11.cell? ⟨BS, 0, none⟩ = some (.int .i64 4) := hs7.c0
  have s1 : w11.cell? ⟨BS, 1, none⟩ = some (.string ⟨#[109]⟩) := hs7.c1
  have s2 : w11.cell? ⟨BS, 2, none⟩ = some (.int .i64 1) := hs7.c2
  go_wp2_with fail
  clear q0 q1 q2 s0 s1 s2
  refine (site9b _ _ _ hA2.C hA2.H).mono ?_
  rintro e w12 ⟨rfl, hb⟩
  replace hA2 := hA2.later hb
  clear hb hs7
  obtain ⟨⟨q0, q1, q2⟩, -⟩ := box3 hA2.box
  obtain ⟨ad, cap', e', -, -, -, hrow⟩ := id hA2.C
  simp only [Value.slice.injEq] at e'
  obtain ⟨rfl, -, -⟩ := e'
  obtain ⟨b, o', rfl, -, -, -, -, -, mv, q3, hms⟩ := hrow 4 ⟨⟨#[65]⟩, 0, 0, [a9G, a9M]⟩ rfl
  obtain ⟨am, cm, rfl, -, -, -, hrm⟩ := id hms
  obtain ⟨b2, o2, rfl, -, y0, y1, y2, y3, -, mc, y4, hco⟩ := hrm 0 a9G rfl
  obtain ⟨b3, o3, e3, -, z0, z1, z2, z3, -, mc2, z4, hco2⟩ := hrm 1 a9M rfl
  cases e3
  obtain ⟨ac, cc, rfl, -⟩ := id hco
  obtain ⟨ac2, cc2, rfl, -⟩ := id hco2
  clear hrow hrm
  simp only [Nat.zero_mul, Nat.add_zero] at y0 y1 y2 y3 y4 z0
  go_wp2_with fail
  refine (leaf9 a9G true a9_l1 _ _ hco).mono ?_
  rintro e w13 ⟨rfl, hb⟩
  replace q0 := cell_later hb q0
  replace q3 := cell_later hb q3
  replace z0 := cell_later hb z0
  replace z1 := cell_later hb z1
  replace z2 := cell_later hb z2
  replace z3 := cell_later hb z3
  replace z4 := cell_later hb z4
  replace hco2 := hco2.later goodI hb
  replace hA2 := hA2.later hb
  clear hb y0 y1 y2 y3 y4 q1 q2
  go_wp2_with fail
  refine (leaf9 a9M false a9_l2 _ _ hco2).mono ?_
  rintro e w14 ⟨rfl, hb⟩
  go_wp2
  go_ret
  exact ⟨rfl, nstep hA2.bel hb⟩
end Go.Proofs.Ytigflmehiadenaa
