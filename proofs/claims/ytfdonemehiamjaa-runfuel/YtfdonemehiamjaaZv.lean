/- The laws of a plain run: what fails, what stays right, what more fuel does. -/
import Derived.Test.YtfdonemehiamjaaZu
import Derived.Test.YtfdonemehiamjaaDs
namespace Go.Proofs.Ytfdonemehiamjaa
open Go.ChangeShapes Go.WideShapes Go.ChangeAt Go.RowKit
set_option linter.unusedSimpArgs false
set_option linter.unusedVariables false
set_option maxRecDepth 8000

theorem PnR.later {w : World} {cv hv : Value} {ep : Int} {s : QV} {name : ByteArray} {av : Value} {w1 w2 : World} (h : PnR w cv hv ep s name av w1) (hb : Below w1.heap.size w1 w2) : PnR w cv hv ep s name av w2 :=
  ⟨cell_later hb h.w0, cell_later hb h.w1, cell_later hb h.w2, cell_later hb h.c0, cell_later hb h.c1, cell_later hb h.c2, cell_later hb h.c3⟩
structure Bx3 (b : Nat) (u0 u1 u2 : Value) (w : World) : Prop where
  c0 : w.cell? ⟨b, 0, none⟩ = some u0
  c1 : w.cell? ⟨b, 1, none⟩ = some u1
  c2 : w.cell? ⟨b, 2, none⟩ = some u2
theorem Bx3.later {b : Nat} {u0 u1 u2 : Value} {w w' : World} (h : Bx3 b u0 u1 u2 w) (hb : Below w.heap.size w w') : Bx3 b u0 u1 u2 w' := ⟨cell_later hb h.c0, cell_later hb h.c1, cell_later hb h.c2⟩
theorem bx3_new (w : World) (u0 u1 u2 : Value) (t : TypeId) : Bx3 w.heap.size u0 u1 u2 (w.alloc (.cells #[u0, u1, u2] t)) := ⟨by rw [cell_new _ _ _ _ rfl]; rfl, by rw [cell_new _ _ _ _ rfl]; rfl, by rw [cell_new _ _ _ _ rfl]; rfl⟩
theorem pn_new (w : World) (cv hv : Value) (ep : Int) (s : QV) (name : ByteArray) (av : Value) : PnR w cv hv ep s name av ((w.alloc (.cells #[cv, hv, .int .i64 ep] 25)).alloc (.cells #[.int .i64 s.k, .int .i64 s.n, .string name, av] 30)) :=
  ⟨cell_later (bel1 _ _) (by rw [cell_new _ _ _ _ rfl]; rfl), cell_later (bel1 _ _) (by rw [cell_new _ _ _ _ rfl]; rfl), cell_later (bel1 _ _) (by rw [cell_new _ _ _ _ rfl]; rfl), by rw [cell_new _ _ _ _ (by simp)]; rfl, by rw [cell_new _ _ _ _ (by simp)]; rfl, by rw [cell_new _ _ _ _ (by simp)]; rfl, by rw [cell_new _ _ _ _ (by simp)]; rfl⟩

set_option maxHeartbeats 4000000 in
theorem runFails_any {P Q : Nat → Prop} (X : QW) (s : QV) (name : ByteArray) (args : List QV) (fuel : Int) (cv hv av : Value) (w : World) (hC : IsClasses P w cv X.classes) (hH : IsHeap P w hv X.heap) (hA : IsVals Q w av args) (hn : name.size ≤ 140737488351232) : Calls Try.prog 5 #[WV cv hv X.epoch, ClV s name av, .int .i64 fuel] w fun e w' => e = .returned (.bool true) ∧ Below w.heap.size w w' := by
  have hN := pn_new w cv hv X.epoch s name av
  have hB0 := bel2 w (.cells #[cv, hv, .int .i64 X.epoch] 25) (.cells #[.int .i64 s.k, .int .i64 s.n, .string name, av] 30)
  obtain ⟨ac, cc, rfl, -⟩ := id hC
  obtain ⟨ah, ch, rfl, -⟩ := id hH
  obtain ⟨aa, ca, rfl, -⟩ := id hA
  go_enter Try.func5, Try.ntmps5
  go_wp2_with fail
  generalize ((w.alloc (.cells #[.slice ac X.classes.length cc, .slice ah X.heap.length ch, .int .i64 X.epoch] 25)).alloc (.cells #[.int .i64 s.k, .int .i64 s.n, .string name, .slice aa args.length ca] 30)) = W at *
  refine (alive_any _).mono ?_
  rintro e w1 ⟨rfl, hb1⟩
  replace hN := hN.later hb1
  replace hB0 := nstep hB0 hb1
  clear hb1
  obtain ⟨n0, n1, n2, m0, m1, m2, m3⟩ := hN.al
  go_wp2_with fail
  refine (rright_any X _ _ _ (hC.later goodC hB0) (hH.later goodO hB0)).mono ?_
  rintro e w2 ⟨rfl, hb2⟩
  clear n0 n1 n2 m0 m1 m2 m3
  replace hN := hN.later hb2
  replace hB0 := nstep hB0 hb2
  clear hb2
  obtain ⟨n0, n1, n2, m0, m1, m2, m3⟩ := hN.al
  by_cases hX : rightE X = 0
  · rw [hX]
    go_wp2_with fail
    refine (plain_any X hX s name args fuel _ _ _ _ (hC.later goodC hB0) (hH.later goodO hB0) (hA.later goodV hB0) hn).mono ?_
    rintro e w3 ⟨hb3, cv3, hv3, rfl, hC3, hH3⟩
    obtain ⟨r, hr⟩ : ∃ r, plainE X s name args fuel = r := ⟨_, rfl⟩
    have HF := hid (plain_fails (X := X) (s := s) (name := name) (args := args) (fuel := fuel))
    have HR := hid (plain_right hX s name args fuel)
    rw [hr] at hH3 HF HR ⊢
    obtain ⟨x3, y3, rfl⟩ : ∃ a c, cv3 = .slice a X.classes.length c := hC3.get
    obtain ⟨x4, y4, rfl⟩ : ∃ a c, hv3 = .slice a r.heap.length c := hH3.get
    clear n0 n1 n2 m0 m1 m2 m3
    have hA4 := alW w3 (.slice x3 X.classes.length y3) (.slice x4 r.heap.length y4) X.epoch r.v.k r.v.n r.err r.sends
    have hb4 := nstep hb3 (bel2 w3 (.cells #[.slice x3 X.classes.length y3, .slice x4 r.heap.length y4, .int .i64 X.epoch] 25) (.cells #[.int .i64 r.v.k, .int .i64 r.v.n, .int .i64 r.err, .int .i64 r.sends] 34))
    replace hC3 := hC3.later goodC (bel2 w3 (.cells #[.slice x3 X.classes.length y3, .slice x4 r.heap.length y4, .int .i64 X.epoch] 25) (.cells #[.int .i64 r.v.k, .int .i64 r.v.n, .int .i64 r.err, .int .i64 r.sends] 34))
    replace hH3 := hH3.later goodO (bel2 w3 (.cells #[.slice x3 X.classes.length y3, .slice x4 r.heap.length y4, .int .i64 X.epoch] 25) (.cells #[.int .i64 r.v.k, .int .i64 r.v.n, .int .i64 r.err, .int .i64 r.sends] 34))
    replace hN := hN.later hb4
    have HBF := hid (nstep hB0 hb4)
    have hCX := hC.later goodC (nstep hB0 hb4)
    have hHX := hH.later goodO (nstep hB0 hb4)
    clear hb4 hb3 hB0 hC hH hA hr
    go_upto_region 6 with (fail)
    generalize ((w3.alloc (.cells #[.slice x3 X.classes.length y3, .slice x4 r.heap.length y4, .int .i64 X.epoch] 25)).alloc (.cells #[.int .i64 r.v.k, .int .i64 r.v.n, .int .i64 r.err, .int .i64 r.sends] 34)) = W4 at *
    generalize w3.heap.size = B at *
    obtain ⟨n0, n1, n2, m0, m1, m2, m3⟩ := hN.al
    obtain ⟨a0, a1, a2, b0, b1, b2, b3⟩ := id hA4
    obtain ⟨rh, ⟨vk, vn⟩, er, sn⟩ := r
    by_cases he : er = 0
    · have hee : (er == 0) = true := by simp [he]
      have HL : Hid ((X.heap.length : Int) ≤ (rh.length : Int)) := by have := HR.out.2.1; show _ ≤ _; simp only at this; omega
      clear he
      go_wp2
      go_ret
      exact ⟨ret_b (by simpa using HL.out), HBF.out⟩
    · have hee : (er == 0) = false := by simpa using he
      obtain ⟨e1, e2, e3, e4⟩ := HF.out he
      simp only at e1 e2 e3 e4
      subst e1
      obtain ⟨rfl, rfl⟩ : vk = 0 ∧ vn = 0 := by cases e2; exact ⟨rfl, rfl⟩
      clear he e2
      go_wp2_with fail
      refine (same_any X _ _ _ _ _ hC3 hH3 hCX hHX).mono ?_
      rintro e w5 ⟨rfl, hb5⟩
      have hA5 := hA4.later hb5
      clear n0 n1 n2 m0 m1 m2 m3 a0 a1 a2 b0 b1 b2 b3
      obtain ⟨a0, a1, a2, b0, b1, b2, b3⟩ := hA5
      have hqv := fun w => eqlV ⟨0, 0⟩ ⟨0, 0⟩ w
      go_wp2
      go_ret
      exact ⟨rfl, nstep HBF.out hb5⟩
  · have hx : (rightE X != 0) = true := by simpa using hX
    go_wp2
    go_ret
    exact ⟨rfl, hB0⟩

set_option maxHeartbeats 4000000 in
theorem runRight_any {P Q : Nat → Prop} (X : QW) (s : QV) (name : ByteArray) (args : List QV) (fuel : Int) (cv hv av : Value) (w : World) (hC : IsClasses P w cv X.classes) (hH : IsHeap P w hv X.heap) (hA : IsVals Q w av args) (hn : name.size ≤ 140737488351232) : Calls Try.prog 6 #[WV cv hv X.epoch, ClV s name av, .int .i64 fuel] w fun e w' => e = .returned (.bool true) ∧ Below w.heap.size w w' := by
  have hN := pn_new w cv hv X.epoch s name av
  have hB0 := bel2 w (.cells #[cv, hv, .int .i64 X.epoch] 25) (.cells #[.int .i64 s.k, .int .i64 s.n, .string name, av] 30)
  obtain ⟨ac, cc, rfl, -⟩ := id hC
  obtain ⟨ah, ch, rfl, -⟩ := id hH
  obtain ⟨aa, ca, rfl, -⟩ := id hA
  go_enter Try.func6, Try.ntmps6
  go_wp2_with fail
  generalize ((w.alloc (.cells #[.slice ac X.classes.length cc, .slice ah X.heap.length ch, .int .i64 X.epoch] 25)).alloc (.cells #[.int .i64 s.k, .int .i64 s.n, .string name, .slice aa args.length ca] 30)) = W at *
  refine (alive_any _).mono ?_
  rintro e w1 ⟨rfl, hb1⟩
  replace hN := hN.later hb1
  replace hB0 := nstep hB0 hb1
  clear hb1
  obtain ⟨n0, n1, n2, m0, m1, m2, m3⟩ := hN.al
  go_wp2_with fail
  refine (rright_any X _ _ _ (hC.later goodC hB0) (hH.later goodO hB0)).mono ?_
  rintro e w2 ⟨rfl, hb2⟩
  clear n0 n1 n2 m0 m1 m2 m3
  replace hN := hN.later hb2
  replace hB0 := nstep hB0 hb2
  clear hb2
  obtain ⟨n0, n1, n2, m0, m1, m2, m3⟩ := hN.al
  by_cases hX : rightE X = 0
  · rw [hX]
    go_wp2_with fail
    refine (plain_any X hX s name args fuel _ _ _ _ (hC.later goodC hB0) (hH.later goodO hB0) (hA.later goodV hB0) hn).mono ?_
    rintro e w3 ⟨hb3, cv3, hv3, rfl, hC3, hH3⟩
    obtain ⟨r, hr⟩ : ∃ r, plainE X s name args fuel = r := ⟨_, rfl⟩
    have HF := hid (plain_fails (X := X) (s := s) (name := name) (args := args) (fuel := fuel))
    have HR := hid (plain_right hX s name args fuel)
    rw [hr] at hH3 HF HR ⊢
    obtain ⟨x3, y3, rfl⟩ : ∃ a c, cv3 = .slice a X.classes.length c := hC3.get
    obtain ⟨x4, y4, rfl⟩ : ∃ a c, hv3 = .slice a r.heap.length c := hH3.get
    clear n0 n1 n2 m0 m1 m2 m3
    have hA4 := alW w3 (.slice x3 X.classes.length y3) (.slice x4 r.heap.length y4) X.epoch r.v.k r.v.n r.err r.sends
    have hb4 := nstep hb3 (bel2 w3 (.cells #[.slice x3 X.classes.length y3, .slice x4 r.heap.length y4, .int .i64 X.epoch] 25) (.cells #[.int .i64 r.v.k, .int .i64 r.v.n, .int .i64 r.err, .int .i64 r.sends] 34))
    replace hC3 := hC3.later goodC (bel2 w3 (.cells #[.slice x3 X.classes.length y3, .slice x4 r.heap.length y4, .int .i64 X.epoch] 25) (.cells #[.int .i64 r.v.k, .int .i64 r.v.n, .int .i64 r.err, .int .i64 r.sends] 34))
    replace hH3 := hH3.later goodO (bel2 w3 (.cells #[.slice x3 X.classes.length y3, .slice x4 r.heap.length y4, .int .i64 X.epoch] 25) (.cells #[.int .i64 r.v.k, .int .i64 r.v.n, .int .i64 r.err, .int .i64 r.sends] 34))
    replace hN := hN.later hb4
    have HBF := hid (nstep hB0 hb4)
    have hCX := hC.later goodC (nstep hB0 hb4)
    have hHX := hH.later goodO (nstep hB0 hb4)
    clear hb4 hb3 hB0 hC hH hA hr
    go_upto_region 6 with (fail)
    generalize ((w3.alloc (.cells #[.slice x3 X.classes.length y3, .slice x4 r.heap.length y4, .int .i64 X.epoch] 25)).alloc (.cells #[.int .i64 r.v.k, .int .i64 r.v.n, .int .i64 r.err, .int .i64 r.sends] 34)) = W4 at *
    generalize w3.heap.size = B at *
    obtain ⟨n0, n1, n2, m0, m1, m2, m3⟩ := hN.al
    obtain ⟨a0, a1, a2, b0, b1, b2, b3⟩ := id hA4
    obtain ⟨rh, ⟨vk, vn⟩, er, sn⟩ := r
    have k1 := fun y => cell_later (bel1 W4 y) n1
    go_upto_region 8 with (fail)
    have hB5 := bel1 W4 (Obj.cells #[Value.slice x3 X.classes.length y3, Value.slice ah X.heap.length ch, Value.int IntKind.i64 X.epoch] 25)
    have hc := bx3_new W4 (.slice x3 X.classes.length y3) (.slice ah X.heap.length ch) (.int .i64 X.epoch) 25
    clear k1 n0 n1 n2 m0 m1 m2 m3 a0 a1 a2 b0 b1 b2 b3
    replace hA4 := hA4.later hB5
    replace hN := hN.later hB5
    replace hC3 := hC3.later goodC hB5
    replace hH3 := hH3.later goodO hB5
    replace hCX := hCX.later goodC hB5
    replace hHX := hHX.later goodO hB5
    replace HBF := hid (nstep HBF.out hB5)
    clear hB5
    generalize (W4.alloc (Obj.cells #[Value.slice x3 X.classes.length y3, Value.slice ah X.heap.length ch, Value.int IntKind.i64 X.epoch] 25)) = W5 at *
    generalize W4.heap.size = C at *
    obtain ⟨R1, -, R3⟩ := HR.out
    simp only at R1 R3
    obtain ⟨a0, a1, a2, b0, b1, b2, b3⟩ := id hA4
    go_wp2_with fail
    refine (rright_any ⟨X.classes, rh, X.epoch⟩ _ _ _ hC3 hH3).mono ?_
    rw [R1]
    rintro e w6 ⟨rfl, hb6⟩
    clear a0 a1 a2 b0 b1 b2 b3
    obtain ⟨a0, a1, a2, b0, b1, b2, b3⟩ := hA4.later hb6
    go_wp2_with fail
    refine (rwrong_any ⟨vk, vn⟩ rh.length _).mono ?_
    rw [R3]
    rintro e w7 ⟨rfl, hb7⟩
    have hb67 := nstep hb6 hb7
    clear a0 a1 a2 b0 b1 b2 b3
    obtain ⟨n0, n1, n2, m0, m1, m2, m3⟩ := (hN.later hb67).al
    obtain ⟨c0, c1, c2⟩ := hc.later hb67
    go_wp2_with fail
    refine (same_any (P := Tru) X _ _ _ _ _ ((hC3.later goodC hb67).mono goodC fun _ _ => trivial) ((hHX.later goodO hb67).mono goodO fun _ _ => trivial) (hCX.later goodC hb67) (hHX.later goodO hb67)).mono ?_
    rintro e w8 ⟨rfl, hb8⟩
    go_wp2
    go_ret
    exact ⟨rfl, nstep HBF.out (nstep hb67 hb8)⟩
  · have hx : (rightE X != 0) = true := by simpa using hX
    go_wp2
    go_ret
    exact ⟨rfl, hB0⟩
end Go.Proofs.Ytfdonemehiamjaa
