/- The closed fact of chapter 4; WireCut's walk, WireTurns' walk. -/
import Derived.Test.YtgijdaencfgmpaaDoorWm
import Derived.Test.YtgijdaencfgmpaaDoorEb
import Derived.Test.YtgijdaencfgmpaaDoorDb
import Derived.Laws.BytesArg
namespace Go.Proofs.YtgijdaencfgmpaaDoor
open Go.ChangeShapes Go.WideShapes Go.ChangeAt Go.RowKit
set_option linter.unusedSimpArgs false
set_option linter.unusedVariables false
set_option maxRecDepth 8000

theorem BytesIn.conv {w : World} {v : Value} {l : List UInt8} (h : BytesIn w v l) : (convert 26 9 v).run Tryd.prog w = .ok (SV l) w := by
  obtain ⟨ad, cap, rfl, h2, h3, h4, h5, h6⟩ := h
  cases ad with
  | none =>
    have := h4 rfl
    subst this
    have : l = [] := List.eq_nil_of_length_eq_zero (by omega)
    subst this
    exact run_convert_bytes_nil (P := Tryd.prog) w 26 5 Tryd.underlying26 Tryd.underlying5 0 0 9 Tryd.underlying9
  | some a =>
    exact run_convert_bytes_back (P := Tryd.prog) w 26 9 5 a cap l Tryd.underlying26 Tryd.underlying5 Tryd.underlying9 (fun j hj => by
      obtain ⟨b, o, e, -, hc⟩ := h6 j _ (List.getElem?_eq_getElem hj)
      cases e
      rw [Addr.add_lit, hc])
theorem newX_right : rightE newX = 0 := by kernel_rfl
/-- A world in a box, and a text. -/
structure AlS (B : Nat) (cv hv : Value) (ep : Int) (v : Value) (l : List UInt8) (X : QW) (w : World) : Prop where
  c0 : w.cell? ⟨B, 0, none⟩ = some cv
  c1 : w.cell? ⟨B, 1, none⟩ = some hv
  c2 : w.cell? ⟨B, 2, none⟩ = some (.int .i64 ep)
  txt : BytesIn w v l
  cls : IsClasses (fun _ => True) w cv X.classes
  heap : IsHeap (fun _ => True) w hv X.heap
  vars : Vars w
section
variable {B : Nat} {cv hv : Value} {ep : Int} {v : Value} {l : List UInt8} {X : QW} {w w' : World}
theorem AlS.later (h : AlS B cv hv ep v l X w) (hb : Below w.heap.size w w') : AlS B cv hv ep v l X w' := ⟨cell_later hb h.c0, cell_later hb h.c1, cell_later hb h.c2, h.txt.later hb, h.cls.later goodC hb, h.heap.later goodO hb, h.vars.later hb⟩
theorem AlS.al (h : AlS B cv hv ep v l X w) : w.cell? ⟨B, 0, none⟩ = some cv ∧ w.cell? ⟨B, 1, none⟩ = some hv ∧ w.cell? ⟨B, 2, none⟩ = some (.int .i64 ep) ∧ (convert 26 9 v).run Tryd.prog w = .ok (SV l) w := ⟨h.c0, h.c1, h.c2, h.txt.conv⟩
end
set_option maxHeartbeats 4000000 in
theorem alive_any (w : World) (hV : Vars w) : Calls Tryd.prog 5 #[] w fun e w' => e = .returned (.bool true) ∧ Below w.heap.size w w' := by
  go_enter Tryd.func5, Tryd.ntmps5
  go_wp2_with fail
  refine (rnew_any _).mono ?_
  rintro e w1 ⟨cv1, hv1, rfl, hC1, hH1, hb1⟩
  have hW1 := hV.later hb1
  go_wp2_with fail
  refine (bytes_any newX cv1 hv1 w1 hC1 hH1 newX_right hW1.tab).mono ?_
  rintro e w2 ⟨v2, rfl, hT2, hb2⟩
  have hI2 := hT2.bytes (Nat.le_trans (worldW_len newX_right) (by decide))
  have hW2 := hW1.later hb2
  obtain ⟨a2, k2, rfl, -⟩ := id hI2
  go_wp2_with fail
  have hP := parse_any (worldW newX) _ w2 hI2 hW2
  rw [parse_world (right_wok newX_right) newX_right] at hP
  refine hP.mono ?_
  rintro e w3 ⟨cv3, hv3, rfl, hC3, hH3, hb3⟩
  obtain ⟨a3, k3, rfl⟩ := hC3.get
  obtain ⟨a4, k4, rfl⟩ := hH3.get
  rw [show newX.classes.length = 4 from rfl] at hC3 ⊢
  rw [show newX.heap.length = 0 from rfl] at hH3 ⊢
  rw [show newX.epoch = 0 from rfl]
  have hbel : Below w.heap.size w (w3.alloc (.cells #[.slice a3 4 k3, .slice a4 0 k4, .int .i64 0] 25)) := nstep (nstep (nstep hb1 hb2) hb3) (bel1 _ _)
  have hbx := heap_alloc_new w3 (.cells #[.slice a3 4 k3, .slice a4 0 k4, .int .i64 0] 25)
  have hA : AlS w3.heap.size (.slice a3 4 k3) (.slice a4 0 k4) 0 (.slice a2 (worldW newX).length k2) (worldW newX) newX (w3.alloc (.cells #[.slice a3 4 k3, .slice a4 0 k4, .int .i64 0] 25)) :=
    ⟨by rw [cell_of_row _ _ _ _ _ _ hbx]; rfl, by rw [cell_of_row _ _ _ _ _ _ hbx]; rfl, by rw [cell_of_row _ _ _ _ _ _ hbx]; rfl, (hI2.later hb3).later (bel1 _ _), (hC3.mono goodC fun _ _ => trivial).later goodC (bel1 _ _), (hH3.mono goodO fun _ _ => trivial).later goodO (bel1 _ _), (hW2.later hb3).later (bel1 _ _)⟩
  clear hC1 hH1 hC3 hH3 hb1 hb2 hb3 hW1 hW2 hT2 hI2 hP hbx hV
  go_upto_region 3 with (fail)
  generalize (w3.alloc (.cells #[.slice a3 4 k3, .slice a4 0 k4, .int .i64 0] 25)) = V at *
  generalize w3.heap.size = B at *
  have hTx : ∀ (cv hv : Value) (w : World), IsClasses (fun _ => True) w cv newX.classes → IsHeap (fun _ => True) w hv [] → Vars w → Calls Tryd.prog 11 #[WV cv hv 0] w fun e w' => e = .returned (SV (worldW newX)) ∧ Below w.heap.size w w' := fun (cv hv : Value) (w : World) (h1 : IsClasses (fun _ => True) w cv newX.classes) (h2 : IsHeap (fun _ => True) w hv []) (h3 : Vars w) => text_any newX cv hv w h1 h2 newX_right h3
  have hR1 : ∀ (w : World), AlS B (.slice a3 4 k3) (.slice a4 0 k4) 0 (.slice a2 (worldW newX).length k2) (worldW newX) newX w → Calls Tryd.prog 6 #[WV (.slice a3 4 k3) (.slice a4 0 k4) 0] w fun e w' => e = .returned (.int .i64 (rightE newX)) ∧ Below w.heap.size w w' := fun (w : World) (h : AlS B (.slice a3 4 k3) (.slice a4 0 k4) 0 (.slice a2 (worldW newX).length k2) (worldW newX) newX w) => wright_any newX _ _ w h.cls h.heap
  rw [newX_right] at hR1
  have hR2 : ∀ (w : World), Calls Tryd.prog 6 #[WV (.slice none 0 0) (.slice none 0 0) 0] w fun e w' => e = .returned (.int .i64 (rightE ⟨[], [], 0⟩)) ∧ Below w.heap.size w w' := fun (w : World) => wright_any ⟨[], [], 0⟩ _ _ w (isRow_empty ClassC 4 56 (fun _ => True) w) (isRow_empty ObjC 2 32 (fun _ => True) w)
  rw [show rightE ⟨[], [], 0⟩ = 5 by kernel_rfl] at hR2
  generalize worldW newX = T at *
  have hA0 := hA.later (Below.refl _ V).drew
  have HBV := hid (hbel.drew)
  clear hA hbel
  have tokA : True := trivial
  go_region_held3 (fun w' => w'.cell? ⟨B, 0, none⟩ = some (.slice a3 4 k3) ∧ w'.cell? ⟨B, 1, none⟩ = some (.slice a4 0 k4) ∧ w'.cell? ⟨B, 2, none⟩ = some (.int .i64 0) ∧ (convert 26 9 (.slice a2 T.length k2)).run Tryd.prog w' = .ok (SV T) w')
    (first | with_reducible exact hA0.al | with_reducible exact hA5.al | with_reducible exact hA6.al | with_reducible exact hA7.al | with_reducible exact hA8.al)
    (first
      | (go_at_call 10; refine (rnew_any _).mono ?_; rintro e w5 ⟨cv5, hv5, rfl, hC5, hH5, hb5⟩; have hA5 := hA0.later hb5; have HB5 := hid (nstep HBV.out hb5))
      | (go_at_call 11; refine (hTx cv5 hv5 _ (hC5.mono goodC fun _ _ => trivial) (hH5.mono goodO fun _ _ => trivial) hA5.vars).mono ?_; rintro e w6 ⟨rfl, hb6⟩; have hA6 := hA5.later hb6; have HB6 := hid (nstep HB5.out hb6))
      | (have _t := tokA; go_at_call 6; refine (hR1 _ hA6).mono ?_; rintro e w7 ⟨rfl, hb7⟩; have hA7 := hA6.later hb7; have HB7 := hid (nstep HB6.out hb7); clear tokA; have tokB : True := trivial)
      | (have _t := tokB; go_at_call 6; refine (hR2 _).mono ?_; rintro e w8 ⟨rfl, hb8⟩; have hA8 := hA7.later hb8; have HB8 := hid (nstep HB7.out hb8)))
  clear hA0 hA5 hA6 hA7 hA8
  go_wp2
  go_ret
  exact ⟨rfl, HB8.out⟩

/-- A world's box. -/
structure LwS (w : World) (X : QW) (cv hv : Value) (w' : World) : Prop where
  c0 : w'.cell? ⟨w.heap.size, 0, none⟩ = some cv
  c1 : w'.cell? ⟨w.heap.size, 1, none⟩ = some hv
  c2 : w'.cell? ⟨w.heap.size, 2, none⟩ = some (.int .i64 X.epoch)
  cls : IsClasses (fun _ => True) w' cv X.classes
  heap : IsHeap (fun _ => True) w' hv X.heap
  vars : Vars w'
  bel : Below w.heap.size w w'
theorem LwS.later {w : World} {X : QW} {cv hv : Value} {w' w2 : World} (h : LwS w X cv hv w') (hb : Below w'.heap.size w' w2) : LwS w X cv hv w2 := ⟨cell_later hb h.c0, cell_later hb h.c1, cell_later hb h.c2, h.cls.later goodC hb, h.heap.later goodO hb, h.vars.later hb, nstep h.bel hb⟩
theorem lws_start {P : Nat → Prop} {w : World} {X : QW} {cv hv : Value} (hh : IsClasses P w cv X.classes) (hH : IsHeap P w hv X.heap) (hV : Vars w) : LwS w X cv hv (w.alloc (.cells #[cv, hv, .int .i64 X.epoch] 25)) :=
  ⟨cell_new _ _ _ _ rfl 0, cell_new _ _ _ _ rfl 1, cell_new _ _ _ _ rfl 2, (hh.mono goodC fun _ _ => trivial).later goodC (bel1 _ _), (hH.mono goodO fun _ _ => trivial).later goodO (bel1 _ _), hV.later (bel1 _ _), bel1 _ _⟩
theorem BytesIn.cut {w : World} {ad : Option Addr} {cap : Nat} {l : List UInt8} (h : BytesIn w (.slice ad l.length cap) l) {n : Nat} (hn : n ≤ l.length) : BytesIn w (.slice ad n cap) (l.take n) := by
  obtain ⟨a, c, e, h2, h3, h4, h5, h6⟩ := h
  simp only [Value.slice.injEq] at e
  obtain ⟨rfl, -, rfl⟩ := e
  have hl : (l.take n).length = n := by rw [List.length_take]; omega
  refine ⟨ad, cap, by rw [hl], by omega, h3, h4, by omega, fun i x hx => ?_⟩
  have hi := lt_of_get hx
  rw [List.getElem?_take] at hx
  rw [if_pos (by omega)] at hx
  exact h6 i x hx
set_option maxHeartbeats 2000000 in
theorem cut_any {P : Nat → Prop} (X : QW) (n : Int) (cv hv : Value) (w : World) (hh : IsClasses P w cv X.classes) (hH : IsHeap P w hv X.heap) (hV : Vars w) : Calls Tryd.prog 4 #[WV cv hv X.epoch, .int .i64 n] w fun e w' => e = .returned (.bool true) ∧ Below w.heap.size w w' := by
  obtain ⟨ac, cc, rfl⟩ := hh.get
  obtain ⟨ah, ch, rfl⟩ := hH.get
  have hS := lws_start hh hH hV
  clear hh hH hV
  go_enter Tryd.func4, Tryd.ntmps4
  go_upto_region 1 with (fail)
  generalize (w.alloc (.cells #[.slice ac X.classes.length cc, .slice ah X.heap.length ch, .int .i64 X.epoch] 25)) = W0 at *
  go_wp2_with (go_at_call 5; refine (alive_any _ hS.vars).mono ?_; rintro e w1 ⟨rfl, hb1⟩; refine Hid.out ?_)
  refine Lib.hid ?_
  replace hS := hS.later hb1
  clear hb1
  have c0 := hS.c0
  have c1 := hS.c1
  have c2 := hS.c2
  have hR := wright_any X _ _ w1 hS.cls hS.heap
  by_cases hr : rightE X = 0
  case neg =>
    have hr' : (rightE X != 0) = true := by simpa using hr
    generalize rightE X = r at *
    go_wp2_with (go_at_call 6; refine hR.mono ?_; rintro e w2 ⟨rfl, hb2⟩)
    go_ret
    exact ⟨rfl, (hS.later hb2).bel⟩
  rw [hr] at hR
  go_wp2_with (go_at_call 6; refine hR.mono ?_; rintro e w2 ⟨rfl, hb2⟩; refine Hid.out ?_)
  refine Lib.hid ?_
  replace hS := hS.later hb2
  clear hb2 c0 c1 c2 hR
  have c0 := hS.c0
  have c1 := hS.c1
  have c2 := hS.c2
  have hB := bytes_any X _ _ w2 hS.cls hS.heap hr hS.vars.tab
  go_wp2_with (go_at_call 8; refine hB.mono ?_; rintro e w3 ⟨v3, rfl, hT3, hb3⟩; refine Hid.out ?_)
  refine Lib.hid ?_
  replace hS := hS.later hb3
  have hI := hT3.bytes (Nat.le_trans (worldW_len hr) (by decide))
  obtain ⟨a3, k3, rfl, -⟩ := id hT3
  have hlb := worldW_len hr
  have HC : Hid (∀ k : Nat, k < (worldW X).length → parseE ((worldW X).take k) = (⟨[], [], 0⟩, 2)) := fun k hk => parse_cut (right_wok hr) hk
  have hcap : (worldW X).length ≤ k3 := by obtain ⟨a, c, e, h, -⟩ := id hI; simp only [Value.slice.injEq] at e; obtain ⟨-, -, rfl⟩ := e; exact h
  clear c0 c1 c2 hB hT3 hb3 hr
  generalize worldW X = T at *
  by_cases hn0 : n < 0
  · go_wp2
    go_ret
    exact ⟨rfl, hS.bel⟩
  by_cases hn1 : (T.length : Int) ≤ n
  · go_wp2
    go_ret
    exact ⟨rfl, hS.bel⟩
  obtain ⟨k, rfl⟩ : ∃ k : Nat, n = (k : Int) := ⟨n.toNat, by omega⟩
  have hk : k < T.length := by omega
  have hk0 : decide ((k : Int) < 0) = false := by simp
  have hk1 : decide (T.length ≤ k) = false := by simp; omega
  have hk4 : ¬ (T.length ≤ k) := by omega
  have hk2 : (k : Int) ≤ (k3 : Int) := by omega
  have hk3 : (0 : Int) ≤ (k : Int) := by omega
  have hP := parse_any _ _ w3 (hI.cut (n := k) (by omega)) hS.vars
  rw [HC.out k hk] at hP
  clear hn0 hn1 HC hI hlb hk
  go_wp2_with (go_at_call 7; refine hP.mono ?_; rintro e w4 ⟨cv4, hv4, rfl, hC4, hH4, hb4⟩; refine Hid.out ?_)
  refine Lib.hid ?_
  obtain ⟨a5, k5, rfl⟩ := hC4.get
  obtain ⟨a6, k6, rfl⟩ := hH4.get
  have HB := hid (hS.later hb4).bel
  clear hP hS hC4 hH4 hb4
  go_wp2
  go_ret
  exact ⟨rfl, nstep HB.out (bel1 _ _)⟩
end Go.Proofs.YtgijdaencfgmpaaDoor
