/- The closed fact of chapter 2. -/
import Derived.Test.YtahcmmdlggcfbaaHb
namespace Go.Proofs.Ytahcmmdlggcfbaa
open Go.ChangeShapes Go.WideShapes Go.ChangeAt Go.RowKit
set_option linter.unusedSimpArgs false
set_option linter.unusedVariables false
set_option maxRecDepth 8000

def alm : QM := ⟨⟨#[109]⟩, 1, 0, 0, []⟩
def al1 : QW := makeY newX ⟨#[65]⟩ 0 2
def al2 : QW := makeY al1 ⟨#[66]⟩ 4 1
def al3 : QW := instY al2 4 alm
theorem al_n1 : makeN newX ⟨#[65]⟩ 0 2 = 4 := by kernel_rfl
theorem al_e1 : wrongE newX.classes ⟨#[65]⟩ 0 2 = 0 := by kernel_rfl
theorem al_n2 : makeN al1 ⟨#[66]⟩ 4 1 = 5 := by kernel_rfl
theorem al_e2 : wrongE al1.classes ⟨#[66]⟩ 4 1 = 0 := by kernel_rfl
theorem al_e3 : instE al2 4 alm = 0 := by kernel_rfl
theorem al_f : findE al3.classes 5 ⟨#[109]⟩ = (4, 0) := by kernel_rfl
theorem al_s : slotsE al3.classes 5 = 3 := by kernel_rfl
theorem al_ep : al3.epoch = 1 := by kernel_rfl
theorem al_len : al3.classes.length = 6 := by kernel_rfl
theorem al_nm : nameB ⟨#[43]⟩ = true := by kernel_rfl
theorem slotsOk_all {xs : List QC} (h : xs.all (fun x => decide (0 ≤ x.slots) && decide (x.slots ≤ 6)) = true) : SlotsOk xs := fun i x hx => by
  have := List.all_eq_true.1 h x (List.mem_of_getElem? hx)
  simpa using this
theorem al_o0 : SlotsOk newX.classes := slotsOk_all (by kernel_rfl)
theorem al_o1 : SlotsOk al1.classes := slotsOk_all (by kernel_rfl)
theorem al_o3 : SlotsOk al3.classes := slotsOk_all (by kernel_rfl)
theorem make_c {P : Nat → Prop} (X : QW) (name : ByteArray) (super slots : Int) (cv hv : Value) (w : World) (hn : name.size ≤ 140737488351232) (hh : IsClasses P w cv X.classes) (hH : IsHeap P w hv X.heap) (ho : SlotsOk X.classes) (n e0 : Int) (h1 : makeN X name super slots = n) (h2 : wrongE X.classes name super slots = e0) : Calls Try.prog 20 #[WV cv hv X.epoch, .string name, .int .i64 super, .int .i64 slots] w fun e w' => Gives P w (makeY X name super slots) (fun v => .returned (.tuple #[v, .int .i64 n, .int .i64 e0])) e w' := by
  have := make_all X name super slots cv hv w hn hh hH ho
  rw [h1, h2] at this
  exact this
theorem install_c {P : Nat → Prop} (X : QW) (c : Int) (m : QM) (cv hv mv : Value) (w : World) (hh : IsClasses P w cv X.classes) (hH : IsHeap P w hv X.heap) (hM : IsCode P w mv m.code) (hmn : m.name.size ≤ 140737488351232) (e0 : Int) (h1 : instE X c m = e0) : Calls Try.prog 22 #[WV cv hv X.epoch, .int .i64 c, MV m mv] w fun e w' => Gives P w (instY X c m) (fun v => .returned (.tuple #[v, .int .i64 e0])) e w' := by
  have := install_all X c m cv hv mv w hh hH hM hmn
  rw [h1] at this
  exact this
theorem find_c {P : Nat → Prop} (X : QW) (c : Int) (name : ByteArray) (cv hv : Value) (w : World) (hh : IsClasses P w cv X.classes) (hH : IsHeap P w hv X.heap) (a b : Int) (h1 : findE X.classes c name = (a, b)) : Calls Try.prog 18 #[WV cv hv X.epoch, .int .i64 c, .string name] w fun e w' => e = .returned (.tuple #[.int .i64 a, .int .i64 b]) ∧ Below w.heap.size w w' := by
  have := find_any X c name cv hv w hh hH
  rw [h1] at this
  exact this
theorem slots_c {P : Nat → Prop} (X : QW) (c : Int) (cv hv : Value) (w : World) (hh : IsClasses P w cv X.classes) (hH : IsHeap P w hv X.heap) (ho : SlotsOk X.classes) (S : Int) (h1 : slotsE X.classes c = S) : Calls Try.prog 16 #[WV cv hv X.epoch, .int .i64 c] w fun e w' => e = .returned (.int .i64 S) ∧ Below w.heap.size w w' := by
  have := slots_any X c cv hv w hh hH ho
  rw [h1] at this
  exact this
theorem name_c (s : ByteArray) (w : World) (hs : s.size ≤ 140737488351232) (b : Bool) (h1 : nameB s = b) : Calls Try.prog 14 #[.string s] w fun e w' => e = .returned (.bool b) ∧ Below w.heap.size w w' := by
  have := name_any s w hs
  rw [h1] at this
  exact this
theorem own_c {P : Nat → Prop} (X : QW) (cv hv : Value) (w : World) (hh : IsClasses P w cv X.classes) (hH : IsHeap P w hv X.heap) (n : Nat) (h1 : X.classes.length = n) : Calls Try.prog 13 #[WV cv hv X.epoch] w fun e w' => ∃ a k ah nh kh ep, e = .returned (.agg #[.slice a n k, .slice ah nh kh, .int .i64 ep]) ∧ Below w.heap.size w w' := by
  refine (own_any X cv hv w hh hH).mono ?_
  rintro e w' ⟨g, gh, s, rfl, -, -, -, hb⟩
  exact ⟨_, _, _, _, _, _, by rw [h1], hb⟩
theorem method_c (a n t p : Int) (w : World) : Calls Try.prog 24 #[.agg #[.string ⟨#[]⟩, .int .i64 a, .int .i64 t, .int .i64 p, .slice none 0 0]] w fun e w' => ∃ x k, e = .returned (.agg #[.string ⟨#[]⟩, .int .i64 a, .int .i64 t, .int .i64 p, .slice x 0 k]) ∧ Below w.heap.size w w' := by
  refine (method_any (P := fun _ => True) ⟨⟨#[]⟩, a, t, p, []⟩ (.slice none 0 0) w row_none).mono ?_
  rintro e w' ⟨x, k, rfl, -, hb⟩
  exact ⟨x, k, rfl, hb⟩
theorem find_e {P : Nat → Prop} (X : QW) (ep : Int) (hep : X.epoch = ep) (c : Int) (name : ByteArray) (cv hv : Value) (w : World) (hh : IsClasses P w cv X.classes) (hH : IsHeap P w hv X.heap) (a b : Int) (h1 : findE X.classes c name = (a, b)) : Calls Try.prog 18 #[WV cv hv ep, .int .i64 c, .string name] w fun e w' => e = .returned (.tuple #[.int .i64 a, .int .i64 b]) ∧ Below w.heap.size w w' := by
  subst hep
  exact find_c X c name cv hv w hh hH a b h1
theorem slots_e {P : Nat → Prop} (X : QW) (ep : Int) (hep : X.epoch = ep) (c : Int) (cv hv : Value) (w : World) (hh : IsClasses P w cv X.classes) (hH : IsHeap P w hv X.heap) (ho : SlotsOk X.classes) (S : Int) (h1 : slotsE X.classes c = S) : Calls Try.prog 16 #[WV cv hv ep, .int .i64 c] w fun e w' => e = .returned (.int .i64 S) ∧ Below w.heap.size w w' := by
  subst hep
  exact slots_c X c cv hv w hh hH ho S h1
theorem own_e {P : Nat → Prop} (X : QW) (ep : Int) (hep : X.epoch = ep) (cv hv : Value) (w : World) (hh : IsClasses P w cv X.classes) (hH : IsHeap P w hv X.heap) (n : Nat) (h1 : X.classes.length = n) : Calls Try.prog 13 #[WV cv hv ep] w fun e w' => ∃ a k ah nh kh ep', e = .returned (.agg #[.slice a n k, .slice ah nh kh, .int .i64 ep']) ∧ Below w.heap.size w w' := by
  subst hep
  exact own_c X cv hv w hh hH n h1
theorem inf22 : (Try.prog.info? 22).map (fun i => (i.zero, i.size, i.bytes)) = some (some (.slice none 0 0), 1, 24) := by kernel_rfl
theorem inf3 : (Try.prog.info? 3).map (fun i => (i.zero, i.size, i.bytes)) = some (some (.int .i64 0), 1, 8) := by kernel_rfl
theorem inf9 : (Try.prog.info? 9).map (fun i => (i.zero, i.size, i.bytes)) = some (some (.string ⟨#[]⟩), 1, 16) := by kernel_rfl
theorem field25 (a b c : Value) (w : World) : (Instr.field 25 (.agg #[a, b, c]) 0).run Try.prog w = .ok a w := by
  obtain ⟨i0, hi, hz0, hz1, hz2⟩ := info_parts inf22
  simp [Instr.field, run_underlying Try.underlying25, part, sizeOf, typeInfo, hi, hz1, asAgg]
theorem field28 (a b c d e : Value) (w : World) : (Instr.field 28 (.agg #[a, b, c, d, e]) 1).run Try.prog w = .ok b w := by
  obtain ⟨i0, hi, hz0, hz1, hz2⟩ := info_parts inf3
  obtain ⟨j0, hj, hj0, hj1, hj2⟩ := info_parts inf9
  simp [Instr.field, run_underlying Try.underlying28, part, sizeOf, typeInfo, hi, hz1, hj, hj1, asAgg]
theorem bxl {w w' : World} {B : Nat} {o : Obj} (h : w.heap[B]? = some o) (hb : Below w.heap.size w w') : w'.heap[B]? = some o := by rw [hb.block _ (blk_lt h)]; exact h
/-- The box of the world, and the world in it. -/
structure AvS (w : World) (B : Nat) (a : Option Addr) (k : Nat) (ah : Option Addr) (kh : Nat) (w' : World) : Prop where
  bel : Below w.heap.size w w'
  cls : IsClasses (fun b => b ≠ B) w' (.slice a al3.classes.length k) al3.classes
  heap : IsHeap (fun b => b ≠ B) w' (.slice ah al3.heap.length kh) al3.heap
  b0 : w'.cell? ⟨B, 0, none⟩ = some (.slice a al3.classes.length k)
  b1 : w'.cell? ⟨B, 1, none⟩ = some (.slice ah al3.heap.length kh)
  b2 : w'.cell? ⟨B, 2, none⟩ = some (.int .i64 1)
theorem AvS.later {w : World} {B : Nat} {a : Option Addr} {k : Nat} {ah : Option Addr} {kh : Nat} {w' w1 : World} (h : AvS w B a k ah kh w') (hb : Below w'.heap.size w' w1) : AvS w B a k ah kh w1 :=
  ⟨nstep h.bel hb, h.cls.later goodC hb, h.heap.later goodO hb, cell_later hb h.b0, cell_later hb h.b1, cell_later hb h.b2⟩
theorem avA {w : World} {B : Nat} {a : Option Addr} {k : Nat} {ah : Option Addr} {kh : Nat} {w' : World} (h : AvS w B a k ah kh w') : w'.cell? ⟨B, 0, none⟩ = some (.slice a al3.classes.length k) ∧ w'.cell? ⟨B, 1, none⟩ = some (.slice ah al3.heap.length kh) ∧ w'.cell? ⟨B, 2, none⟩ = some (.int .i64 1) ∧ AvS w B a k ah kh w' := ⟨h.b0, h.b1, h.b2, h⟩
theorem avB {w : World} {B : Nat} {a : Option Addr} {k : Nat} {ah : Option Addr} {kh : Nat} {w' w1 : World} {p q r : Prop} (h : p ∧ q ∧ r ∧ AvS w B a k ah kh w') (hb : Below w'.heap.size w' w1) : w1.cell? ⟨B, 0, none⟩ = some (.slice a al3.classes.length k) ∧ w1.cell? ⟨B, 1, none⟩ = some (.slice ah al3.heap.length kh) ∧ w1.cell? ⟨B, 2, none⟩ = some (.int .i64 1) ∧ AvS w B a k ah kh w1 := avA (h.2.2.2.later hb)
theorem box3 {w : World} {B : Nat} {x y z : Value} {t : TypeId} (h : w.heap[B]? = some (.cells #[x, y, z] t (0, 0))) : (w.cell? ⟨B, 0, none⟩ = some x ∧ w.cell? ⟨B, 1, none⟩ = some y ∧ w.cell? ⟨B, 2, none⟩ = some z) ∧ (∀ o, w.frozen? ⟨B, o, none⟩ = false) := by
  refine ⟨⟨?_, ?_, ?_⟩, fun o => by unfold World.frozen?; simp [h]⟩ <;> rw [cell_of_row _ _ _ _ _ _ h] <;> rfl
theorem box3_set {w : World} {B : Nat} {x y z u v r : Value} {t : TypeId} (h : w.heap[B]? = some (.cells #[x, y, z] t (0, 0))) : (((w.setCell ⟨B, 0, none⟩ u).setCell ⟨B, 1, none⟩ v).setCell ⟨B, 2, none⟩ r).heap[B]? = some (.cells #[u, v, r] t (0, 0)) := by
  rw [setCell_same (setCell_same (setCell_same h _) _) _]; rfl

set_option maxHeartbeats 4000000 in
theorem alive2_any (w : World) : Calls Try.prog 26 #[] w fun e w' => e = .returned (.bool true) ∧ Below w.heap.size w w' := by
  go_enter Try.func26, Try.ntmps26
  go_wp2_with fail
  refine (new_any _).mono ?_
  rintro e w1 ⟨cv, hv, rfl, hC, hH, hB⟩
  obtain ⟨x1, y1, rfl⟩ := hC.get
  obtain ⟨x2, y2, rfl⟩ := hH.get
  go_wp2_with fail
  refine (make_c newX ⟨#[65]⟩ 0 2 _ _ _ (by decide) hC hH al_o0 4 0 al_n1 al_e1).mono ?_
  rintro e w2 ⟨a1, k1, ah1, kh1, rfl, hC1, hH1, hb⟩
  replace hB := nstep hB hb
  clear hb hC hH
  have hz1 : w.heap.size ≤ w2.heap.size := hB.size
  replace hC1 := classes_in hC1
  replace hH1 := heap_in hH1
  obtain ⟨B, hBq⟩ : ∃ B, B = w2.heap.size := ⟨_, rfl⟩
  have hb1 := bel1 w2 (Obj.cells #[Value.slice a1 (makeY newX ⟨#[65]⟩ 0 2).classes.length k1, Value.slice ah1 (makeY newX ⟨#[65]⟩ 0 2).heap.length kh1, Value.int IntKind.i64 (makeY newX ⟨#[65]⟩ 0 2).epoch] 25)
  have bx := blk_new w2 (Obj.cells #[Value.slice a1 (makeY newX ⟨#[65]⟩ 0 2).classes.length k1, Value.slice ah1 (makeY newX ⟨#[65]⟩ 0 2).heap.length kh1, Value.int IntKind.i64 (makeY newX ⟨#[65]⟩ 0 2).epoch] 25) _ rfl
  replace hC1 := hC1.later goodC hb1
  replace hH1 := hH1.later goodO hb1
  replace hB := nstep hB hb1
  go_wp2_with fail
  clear hb1
  have hsz : (w2.alloc (Obj.cells #[Value.slice a1 (makeY newX ⟨#[65]⟩ 0 2).classes.length k1, Value.slice ah1 (makeY newX ⟨#[65]⟩ 0 2).heap.length kh1, Value.int IntKind.i64 (makeY newX ⟨#[65]⟩ 0 2).epoch] 25)).heap.size = w2.heap.size + 1 := by simp
  generalize (w2.alloc (Obj.cells #[Value.slice a1 (makeY newX ⟨#[65]⟩ 0 2).classes.length k1, Value.slice ah1 (makeY newX ⟨#[65]⟩ 0 2).heap.length kh1, Value.int IntKind.i64 (makeY newX ⟨#[65]⟩ 0 2).epoch] 25)) = W3 at *
  generalize hB2 : w2.heap.size = B2 at *
  have HSZ : Hid (W3.heap.size = B2 + 1) := hsz
  have HB2 : Hid (w2.heap.size = B2) := hB2
  clear hsz hBq hB2
  refine (make_c al1 ⟨#[66]⟩ 4 1 _ _ _ (by decide) hC1 hH1 al_o1 5 0 al_n2 al_e2).mono ?_
  rintro e w4 ⟨a2, k2, ah2, kh2, rfl, hC2, hH2, hb⟩
  dsimp only
  replace hB := nstep hB hb
  replace bx := bxl bx hb
  replace hC2 := hC2.mono (Q := fun b => b ≠ B2) goodC fun b hb => by
    rcases hb with h | h
    · have h' : b < w2.heap.size := h
      have := HB2.out; omega
    · have := HSZ.out; omega
  replace hH2 := hH2.mono (Q := fun b => b ≠ B2) goodO fun b hb => by
    rcases hb with h | h
    · have h' : b < w2.heap.size := h
      have := HB2.out; omega
    · have := HSZ.out; omega
  have hz4 : B2 < w4.heap.size := blk_lt bx
  clear hC1 hH1 hb
  obtain ⟨⟨q0, q1, q2⟩, qf⟩ := box3 bx
  go_wp2_with fail
  have hk : Keeps (fun b => b ≠ B2) w4 (((w4.setCell ⟨B2, 0, none⟩ (.slice a2 (makeY al1 ⟨#[66]⟩ 4 1).classes.length k2)).setCell ⟨B2, 1, none⟩ (.slice ah2 (makeY al1 ⟨#[66]⟩ 4 1).heap.length kh2)).setCell ⟨B2, 2, none⟩ (.int .i64 (makeY al1 ⟨#[66]⟩ 4 1).epoch)) :=
    keep_set (keep_set (keep_set (Keeps.refl _ _) (by simp) _) (by simp) _) (by simp) _
  replace hC2 := hC2.keep goodC hk fun _ h => h
  replace hH2 := hH2.keep goodO hk fun _ h => h
  replace hB := below_set3 hB hz1 (.slice a2 (makeY al1 ⟨#[66]⟩ 4 1).classes.length k2) (.slice ah2 (makeY al1 ⟨#[66]⟩ 4 1).heap.length kh2) (.int .i64 (makeY al1 ⟨#[66]⟩ 4 1).epoch)
  replace bx := box3_set (u := .slice a2 (makeY al1 ⟨#[66]⟩ 4 1).classes.length k2) (v := .slice ah2 (makeY al1 ⟨#[66]⟩ 4 1).heap.length kh2) (r := .int .i64 (makeY al1 ⟨#[66]⟩ 4 1).epoch) bx
  have hz5 : w4.heap.size = (((w4.setCell ⟨B2, 0, none⟩ (.slice a2 (makeY al1 ⟨#[66]⟩ 4 1).classes.length k2)).setCell ⟨B2, 1, none⟩ (.slice ah2 (makeY al1 ⟨#[66]⟩ 4 1).heap.length kh2)).setCell ⟨B2, 2, none⟩ (.int .i64 (makeY al1 ⟨#[66]⟩ 4 1).epoch)).heap.size := by rw [size_setCell, size_setCell, size_setCell]
  clear hk q0 q1 q2 qf
  generalize (((w4.setCell ⟨B2, 0, none⟩ (.slice a2 (makeY al1 ⟨#[66]⟩ 4 1).classes.length k2)).setCell ⟨B2, 1, none⟩ (.slice ah2 (makeY al1 ⟨#[66]⟩ 4 1).heap.length kh2)).setCell ⟨B2, 2, none⟩ (.int .i64 (makeY al1 ⟨#[66]⟩ 4 1).epoch)) = W5 at *
  have HZ5 : Hid (B2 < W5.heap.size) := by show _ < _; omega
  clear hz5 hz4
  refine (install_c al2 4 alm _ _ _ _ hC2 hH2 row_none (by decide) 0 al_e3).mono ?_
  rintro e w6 ⟨a3, k3, ah3, kh3, rfl, hC3, hH3, hb⟩
  dsimp only
  replace hB := nstep hB hb
  replace bx := bxl bx hb
  replace hC3 := hC3.mono (Q := fun b => b ≠ B2) goodC fun b hb => by
    rcases hb with h | h
    · exact h
    · have := HZ5.out; omega
  replace hH3 := hH3.mono (Q := fun b => b ≠ B2) goodO fun b hb => by
    rcases hb with h | h
    · exact h
    · have := HZ5.out; omega
  clear hC2 hH2 hb
  obtain ⟨⟨q0, q1, q2⟩, qf⟩ := box3 bx
  have hep : (instY al2 4 alm).epoch = 1 := al_ep
  rw [hep]
  go_wp2_with fail
  have hk : Keeps (fun b => b ≠ B2) w6 (((w6.setCell ⟨B2, 0, none⟩ (.slice a3 (instY al2 4 alm).classes.length k3)).setCell ⟨B2, 1, none⟩ (.slice ah3 (instY al2 4 alm).heap.length kh3)).setCell ⟨B2, 2, none⟩ (.int .i64 1)) :=
    keep_set (keep_set (keep_set (Keeps.refl _ _) (by simp) _) (by simp) _) (by simp) _
  have hS : AvS w B2 a3 k3 ah3 kh3 (((w6.setCell ⟨B2, 0, none⟩ (.slice a3 (instY al2 4 alm).classes.length k3)).setCell ⟨B2, 1, none⟩ (.slice ah3 (instY al2 4 alm).heap.length kh3)).setCell ⟨B2, 2, none⟩ (.int .i64 1)) := by
    obtain ⟨⟨r0, r1, r2⟩, -⟩ := box3 (box3_set (u := .slice a3 (instY al2 4 alm).classes.length k3) (v := .slice ah3 (instY al2 4 alm).heap.length kh3) (r := .int .i64 1) bx)
    exact ⟨below_set3 hB hz1 _ _ _, hC3.keep goodC hk fun _ h => h, hH3.keep goodO hk fun _ h => h, r0, r1, r2⟩
  clear hk q0 q1 q2 qf bx hC3 hH3 hB hep
  generalize (((w6.setCell ⟨B2, 0, none⟩ (.slice a3 (instY al2 4 alm).classes.length k3)).setCell ⟨B2, 1, none⟩ (.slice ah3 (instY al2 4 alm).heap.length kh3)).setCell ⟨B2, 2, none⟩ (.int .i64 1)) = W7 at *
  refine (find_e al3 1 al_ep 5 ⟨#[109]⟩ _ _ _ hS.cls hS.heap 4 0 al_f).mono ?_
  rintro e w8 ⟨rfl, hb⟩
  replace hS := hS.later hb
  clear hb
  have b0 := hS.b0
  have b1 := hS.b1
  have b2 := hS.b2
  have hf1 := field25
  have hf2 := field28
  go_wp2_with fail
  refine (slots_e al3 1 al_ep 5 _ _ _ hS.cls hS.heap al_o3 3 al_s).mono ?_
  rintro e w9 ⟨rfl, hb⟩
  replace hS := hS.later hb
  replace b0 := hS.b0
  replace b1 := hS.b1
  replace b2 := hS.b2
  clear hb
  go_wp2_with fail
  refine (name_c ⟨#[43]⟩ _ (by decide) true al_nm).mono ?_
  rintro e w10 ⟨rfl, hb⟩
  replace hS := hS.later hb
  replace b0 := hS.b0
  replace b1 := hS.b1
  replace b2 := hS.b2
  clear hb
  go_wp2_with fail
  refine (own_e al3 1 al_ep _ _ _ hS.cls hS.heap 6 al_len).mono ?_
  rintro e w11 ⟨a4, k4, ah4, nh4, kh4, ep4, rfl, hb⟩
  replace hS := hS.later hb
  clear hb b0 b1 b2
  go_wp2_with fail
  refine (method_c 3 0 0 0 _).mono ?_
  rintro e w12 ⟨x5, k5, rfl, hb⟩
  replace hS := hS.later hb
  clear hb
  go_wp2
  go_ret
  exact ⟨rfl, hS.bel⟩
end Go.Proofs.Ytahcmmdlggcfbaa
