/- RunTells: its walk. -/
import Derived.Test.YtfdonemehiamjaaPDs
import Derived.Test.YtfdonemehiamjaaPVo
import Derived.Test.YtfdonemehiamjaaPZx
namespace Go.Proofs.Ytfdonemehiamjaa
open Go.ChangeShapes Go.WideShapes Go.ChangeAt Go.RowKit
set_option linter.unusedSimpArgs false
set_option linter.unusedVariables false
set_option maxRecDepth 8000

theorem cf10 (args : Array Value) (w : World) : (callFunc 10 args).run Try.prog w = .ok (.enter 10 args) w := cf_of Try.func10 (by kernel_rfl) (by kernel_rfl) args w
theorem cf11 (args : Array Value) (w : World) : (callFunc 11 args).run Try.prog w = .ok (.enter 11 args) w := cf_of Try.func11 (by kernel_rfl) (by kernel_rfl) args w
theorem cf12 (args : Array Value) (w : World) : (callFunc 12 args).run Try.prog w = .ok (.enter 12 args) w := cf_of Try.func12 (by kernel_rfl) (by kernel_rfl) args w
/-- A call that is guarded, within a region that draws. -/
theorem step_callG {P : Program} {ops : Array Oper} {o : Oper} {a : Act} {w : World} {K : Act → World → Prop} {Q : Exit → Act → World → Prop} {E : Prop} (hw : Region.wanted o (yielded ops a.tmps) = true) (fn : Nat) (cal : Operand) (args : Array Operand) (tys : Array TypeId) (hop : o.op = Op.call { callee := Callee.value cal, args := args, argTypes := tys })
    (caps : Array Value) (hcal : a.eval cal = .func (.func fn) #[] caps) (vs : Array Value) (hvs : args.map a.eval = vs) (hcf : (callFunc fn (vs ++ caps)).run P w = .ok (.enter fn (vs ++ caps)) w) (hc : Calls P fn (vs ++ caps) w fun e w' => ∃ v, e = .returned v ∧ K (a.put o.dst v) w') : if Region.wanted o (yielded ops a.tmps) = true then Oper.wp P o a w K Q else E := by
  rw [if_pos hw]
  unfold Oper.wp
  have hr : (execOp a.eval o).run P w = .ok (.enter fn (vs ++ caps)) w := by
    simp [execOp, hop, resolve, invoke, hcal, hvs, Deferred.ofValue]
    exact hcf
  rw [hr, Oper.upon_enter]
  refine hc.mono ?_
  rintro e w' ⟨v, rfl, h⟩
  exact h
set_option maxHeartbeats 4000000 in
theorem runTells_any {P Q : Nat → Prop} (X : QW) (s : QV) (name : ByteArray) (args : List QV) (fuel : Int) (cv hv av : Value) (w : World) (hC : IsClasses P w cv X.classes) (hH : IsHeap P w hv X.heap) (hA : IsVals Q w av args) (hn : name.size ≤ 140737488351232) : Calls Try.prog 3 #[WV cv hv X.epoch, ClV s name av, .int .i64 fuel] w fun e w' => e = .returned (.bool true) ∧ Below w.heap.size w w' := by
  have hN := pn_new w cv hv X.epoch s name av
  have hB0 := bel2 w (.cells #[cv, hv, .int .i64 X.epoch] 25) (.cells #[.int .i64 s.k, .int .i64 s.n, .string name, av] 30)
  obtain ⟨ac, cc, rfl, -⟩ := id hC
  obtain ⟨ah, ch, rfl, -⟩ := id hH
  obtain ⟨aa, ca, rfl, -⟩ := id hA
  go_enter Try.func3, Try.ntmps3
  go_upto_region 1 with (fail)
  generalize ((w.alloc (.cells #[.slice ac X.classes.length cc, .slice ah X.heap.length ch, .int .i64 X.epoch] 25)).alloc (.cells #[.int .i64 s.k, .int .i64 s.n, .string name, .slice aa args.length ca] 30)) = W at *
  obtain ⟨n0, n1, n2, m0, m1, m2, m3⟩ := hN.al
  go_wp2_with fail
  refine (rright_any X _ _ _ (hC.later goodC hB0) (hH.later goodO hB0)).mono ?_
  rintro e w2 ⟨rfl, hb2⟩
  clear n0 n1 n2 m0 m1 m2 m3
  replace hN := hN.later hb2
  replace hB0 := nstep hB0 hb2
  clear hb2
  obtain ⟨n0, n1, n2, m0, m1, m2, m3⟩ := hN.al
  by_cases hX : rightE X = 0
  · rw [hX]
    go_wp2_with fail
    refine (plain_any X hX s name args fuel _ _ _ _ (hC.later goodC hB0) (hH.later goodO hB0) (hA.later goodV hB0) hn).mono ?_
    rintro e w3 ⟨hb3, cv3, hv3, rfl, hCA, hHA⟩
    obtain ⟨r, hr⟩ : ∃ r, plainE X s name args fuel = r := ⟨_, rfl⟩
    rw [hr] at hHA ⊢
    have HR := hid hr
    obtain ⟨x1, y1, rfl⟩ : ∃ a c, cv3 = .slice a X.classes.length c := hCA.get
    obtain ⟨x2, y2, rfl⟩ : ∃ a c, hv3 = .slice a r.heap.length c := hHA.get
    clear n0 n1 n2 m0 m1 m2 m3 hr
    have hA4 := alW w3 (.slice x1 X.classes.length y1) (.slice x2 r.heap.length y2) X.epoch r.v.k r.v.n r.err r.sends
    have hb34 := bel2 w3 (.cells #[.slice x1 X.classes.length y1, .slice x2 r.heap.length y2, .int .i64 X.epoch] 25) (.cells #[.int .i64 r.v.k, .int .i64 r.v.n, .int .i64 r.err, .int .i64 r.sends] 34)
    have hb4 := nstep hb3 hb34
    replace hCA := hCA.later goodC hb34
    replace hHA := hHA.later goodO hb34
    replace hN := hN.later hb4
    replace hB0 := nstep hB0 hb4
    clear hb3 hb34 hb4
    go_upto_region 4 with (fail)
    generalize ((w3.alloc (.cells #[.slice x1 X.classes.length y1, .slice x2 r.heap.length y2, .int .i64 X.epoch] 25)).alloc (.cells #[.int .i64 r.v.k, .int .i64 r.v.n, .int .i64 r.err, .int .i64 r.sends] 34)) = W4 at *
    generalize w3.heap.size = bA at *
    obtain ⟨n0, n1, n2, m0, m1, m2, m3⟩ := hN.al
    go_wp2_with fail
    refine (rrun_any X hX s name args fuel _ _ _ W4 (hC.later goodC hB0) (hH.later goodO hB0) (hA.later goodV hB0) hn).mono ?_
    rintro e w5 ⟨hb5, cv5, hv5, T5, mm, deep, err, hv', sv, ov, rfl, hCB, hHB, -, -⟩
    dsimp only
    rw [HR.out] at hHB ⊢
    obtain ⟨p1, q1, rfl⟩ : ∃ a c, cv5 = .slice a X.classes.length c := hCB.get
    obtain ⟨p2, q2, rfl⟩ : ∃ a c, hv5 = .slice a r.heap.length c := hHB.get
    clear n0 n1 n2 m0 m1 m2 m3 HR
    have hB4 := alW w5 (.slice p1 X.classes.length q1) (.slice p2 r.heap.length q2) X.epoch r.v.k r.v.n r.err r.sends
    have hb56 := bel2 w5 (.cells #[.slice p1 X.classes.length q1, .slice p2 r.heap.length q2, .int .i64 X.epoch] 25) (.cells #[.int .i64 r.v.k, .int .i64 r.v.n, .int .i64 r.err, .int .i64 r.sends] 34)
    have hb6 := nstep hb5 hb56
    replace hCA := hCA.later goodC hb6
    replace hHA := hHA.later goodO hb6
    replace hCB := hCB.later goodC hb56
    replace hHB := hHB.later goodO hb56
    replace hA4 := hA4.later hb6
    replace hN := hN.later hb6
    have hBV := nstep hB0 hb6
    clear hb5 hb56 hb6 hB0
    go_upto_region 5 with (fail)
    generalize ((w5.alloc (.cells #[.slice p1 X.classes.length q1, .slice p2 r.heap.length q2, .int .i64 X.epoch] 25)).alloc (.cells #[.int .i64 r.v.k, .int .i64 r.v.n, .int .i64 r.err, .int .i64 r.sends] 34)) = V at *
    generalize w5.heap.size = bB at *
    have hqr : ∀ w, (binOp .eql 34 (RnV r) (RnV r)).run Try.prog w = .ok (.bool true) w := fun w => by rw [eqlR, eqR_self]
    have hSl : ∀ w', Below V.heap.size V w' → w'.cell? ⟨w.heap.size, 0, none⟩ = some (.slice ac X.classes.length cc) ∧ w'.cell? ⟨w.heap.size, 1, none⟩ = some (.slice ah X.heap.length ch) ∧ w'.cell? ⟨w.heap.size, 2, none⟩ = some (.int .i64 X.epoch) ∧ w'.cell? ⟨w.heap.size + 1, 0, none⟩ = some (.int .i64 s.k) ∧ w'.cell? ⟨w.heap.size + 1, 1, none⟩ = some (.int .i64 s.n) ∧ w'.cell? ⟨w.heap.size + 1, 2, none⟩ = some (.string name) ∧ w'.cell? ⟨w.heap.size + 1, 3, none⟩ = some (.slice aa args.length ca) ∧ w'.cell? ⟨bA, 0, none⟩ = some (.slice x1 X.classes.length y1) ∧ w'.cell? ⟨bA, 1, none⟩ = some (.slice x2 r.heap.length y2) ∧ w'.cell? ⟨bA, 2, none⟩ = some (.int .i64 X.epoch) ∧ w'.cell? ⟨bA + 1, 0, none⟩ = some (.int .i64 r.v.k) ∧ w'.cell? ⟨bA + 1, 1, none⟩ = some (.int .i64 r.v.n) ∧ w'.cell? ⟨bA + 1, 2, none⟩ = some (.int .i64 r.err) ∧ w'.cell? ⟨bA + 1, 3, none⟩ = some (.int .i64 r.sends) ∧ w'.cell? ⟨bB, 0, none⟩ = some (.slice p1 X.classes.length q1) ∧ w'.cell? ⟨bB, 1, none⟩ = some (.slice p2 r.heap.length q2) ∧ w'.cell? ⟨bB, 2, none⟩ = some (.int .i64 X.epoch) ∧ w'.cell? ⟨bB + 1, 0, none⟩ = some (.int .i64 r.v.k) ∧ w'.cell? ⟨bB + 1, 1, none⟩ = some (.int .i64 r.v.n) ∧ w'.cell? ⟨bB + 1, 2, none⟩ = some (.int .i64 r.err) ∧ w'.cell? ⟨bB + 1, 3, none⟩ = some (.int .i64 r.sends) := fun w' hb => by
      obtain ⟨g0, g1, g2, g3, g4, g5, g6⟩ := (hN.later hb).al
      obtain ⟨e0, e1, e2, e3, e4, e5, e6⟩ := hA4.later hb
      obtain ⟨f0, f1, f2, f3, f4, f5, f6⟩ := hB4.later hb
      exact ⟨g0, g1, g2, g3, g4, g5, g6, e0, e1, e2, e3, e4, e5, e6, f0, f1, f2, f3, f4, f5, f6⟩
    have hS0 := hSl _ (Below.refl _ V).drew
    refine wp_region_late (S := fun w' => w'.cell? ⟨w.heap.size, 0, none⟩ = some (.slice ac X.classes.length cc) ∧ w'.cell? ⟨w.heap.size, 1, none⟩ = some (.slice ah X.heap.length ch) ∧ w'.cell? ⟨w.heap.size, 2, none⟩ = some (.int .i64 X.epoch) ∧ w'.cell? ⟨w.heap.size + 1, 0, none⟩ = some (.int .i64 s.k) ∧ w'.cell? ⟨w.heap.size + 1, 1, none⟩ = some (.int .i64 s.n) ∧ w'.cell? ⟨w.heap.size + 1, 2, none⟩ = some (.string name) ∧ w'.cell? ⟨w.heap.size + 1, 3, none⟩ = some (.slice aa args.length ca) ∧ w'.cell? ⟨bA, 0, none⟩ = some (.slice x1 X.classes.length y1) ∧ w'.cell? ⟨bA, 1, none⟩ = some (.slice x2 r.heap.length y2) ∧ w'.cell? ⟨bA, 2, none⟩ = some (.int .i64 X.epoch) ∧ w'.cell? ⟨bA + 1, 0, none⟩ = some (.int .i64 r.v.k) ∧ w'.cell? ⟨bA + 1, 1, none⟩ = some (.int .i64 r.v.n) ∧ w'.cell? ⟨bA + 1, 2, none⟩ = some (.int .i64 r.err) ∧ w'.cell? ⟨bA + 1, 3, none⟩ = some (.int .i64 r.sends) ∧ w'.cell? ⟨bB, 0, none⟩ = some (.slice p1 X.classes.length q1) ∧ w'.cell? ⟨bB, 1, none⟩ = some (.slice p2 r.heap.length q2) ∧ w'.cell? ⟨bB, 2, none⟩ = some (.int .i64 X.epoch) ∧ w'.cell? ⟨bB + 1, 0, none⟩ = some (.int .i64 r.v.k) ∧ w'.cell? ⟨bB + 1, 1, none⟩ = some (.int .i64 r.v.n) ∧ w'.cell? ⟨bB + 1, 2, none⟩ = some (.int .i64 r.err) ∧ w'.cell? ⟨bB + 1, 3, none⟩ = some (.int .i64 r.sends)) [] (by kernel_rfl) ?_
    refine wpAnyM_take (i := 0) (oi := ⟨some 30, .load 25 (.tmp 3), 25, "law.go:28", #[], none⟩) (v := WV (.slice ac X.classes.length cc) (.slice ah X.heap.length ch) X.epoch) (by kernel_rfl) (by kernel_rfl) rfl (by kernel_rfl) (by kernel_rfl) (by kernel_rfl) (fun _ _ _ h => h) (Or.inl ⟨by rfl, ?_⟩) (hS0) ?_
    · intro w hSw
      obtain ⟨z0, z1, z2, z3, z4, z5, z6, z7, z8, z9, z10, z11, z12, z13, z14, z15, z16, z17, z18, z19, z20⟩ := hSw
      go_simp
    try simp only [Act.put, List.setIfInBounds_toArray, List.set_cons_zero, List.set_cons_succ]
    refine wpAnyM_take (i := 1) (oi := ⟨some 31, .load 30 (.tmp 4), 30, "law.go:28", #[], none⟩) (v := ClV s name (.slice aa args.length ca)) (by kernel_rfl) (by kernel_rfl) rfl (by kernel_rfl) (by kernel_rfl) (by kernel_rfl) (fun _ _ _ h => h) (Or.inl ⟨by rfl, ?_⟩) (hS0) ?_
    · intro w hSw
      obtain ⟨z0, z1, z2, z3, z4, z5, z6, z7, z8, z9, z10, z11, z12, z13, z14, z15, z16, z17, z18, z19, z20⟩ := hSw
      go_simp
    try simp only [Act.put, List.setIfInBounds_toArray, List.set_cons_zero, List.set_cons_succ]
    refine wpAnyM_take (i := 2) (oi := ⟨some 32, .move (.tmp 2), 3, "law.go:28", #[], none⟩) (v := .int .i64 fuel) (by kernel_rfl) (by kernel_rfl) rfl (by kernel_rfl) (by kernel_rfl) (by kernel_rfl) (fun _ _ _ h => h) (Or.inl ⟨by rfl, ?_⟩) (hS0) ?_
    · intro w hSw
      obtain ⟨z0, z1, z2, z3, z4, z5, z6, z7, z8, z9, z10, z11, z12, z13, z14, z15, z16, z17, z18, z19, z20⟩ := hSw
      go_simp
    try simp only [Act.put, List.setIfInBounds_toArray, List.set_cons_zero, List.set_cons_succ]
    refine wpAnyM_take (i := 4) (oi := ⟨some 34, .load 25 (.tmp 3), 25, "law.go:28", #[], none⟩) (v := WV (.slice ac X.classes.length cc) (.slice ah X.heap.length ch) X.epoch) (by kernel_rfl) (by kernel_rfl) rfl (by kernel_rfl) (by kernel_rfl) (by kernel_rfl) (fun _ _ _ h => h) (Or.inl ⟨by rfl, ?_⟩) (hS0) ?_
    · intro w hSw
      obtain ⟨z0, z1, z2, z3, z4, z5, z6, z7, z8, z9, z10, z11, z12, z13, z14, z15, z16, z17, z18, z19, z20⟩ := hSw
      go_simp
    try simp only [Act.put, List.setIfInBounds_toArray, List.set_cons_zero, List.set_cons_succ]
    refine wpAnyM_take (i := 5) (oi := ⟨some 35, .load 30 (.tmp 4), 30, "law.go:28", #[], none⟩) (v := ClV s name (.slice aa args.length ca)) (by kernel_rfl) (by kernel_rfl) rfl (by kernel_rfl) (by kernel_rfl) (by kernel_rfl) (fun _ _ _ h => h) (Or.inl ⟨by rfl, ?_⟩) (hS0) ?_
    · intro w hSw
      obtain ⟨z0, z1, z2, z3, z4, z5, z6, z7, z8, z9, z10, z11, z12, z13, z14, z15, z16, z17, z18, z19, z20⟩ := hSw
      go_simp
    try simp only [Act.put, List.setIfInBounds_toArray, List.set_cons_zero, List.set_cons_succ]
    refine wpAnyM_take (i := 6) (oi := ⟨some 36, .move (.tmp 2), 3, "law.go:28", #[], none⟩) (v := .int .i64 fuel) (by kernel_rfl) (by kernel_rfl) rfl (by kernel_rfl) (by kernel_rfl) (by kernel_rfl) (fun _ _ _ h => h) (Or.inl ⟨by rfl, ?_⟩) (hS0) ?_
    · intro w hSw
      obtain ⟨z0, z1, z2, z3, z4, z5, z6, z7, z8, z9, z10, z11, z12, z13, z14, z15, z16, z17, z18, z19, z20⟩ := hSw
      go_simp
    try simp only [Act.put, List.setIfInBounds_toArray, List.set_cons_zero, List.set_cons_succ]
    refine wpAnyM_ready (rs := [3]) (by kernel_rfl) (by simp) ?_
    intro i hi
    simp only [List.mem_cons, List.not_mem_nil, or_false] at hi
    subst hi
    refine stepM (o := ⟨some 33, .call ⟨.value (.func 10), #[.tmp 30, .tmp 31, .tmp 32], #[25, 30, 3]⟩, 31, "law.go:28", #[⟨0,.data⟩,⟨1,.data⟩,⟨2,.data⟩], none⟩) rfl (fun K' hK => ?_)
    refine step_call rfl 10 (.func 10) #[.tmp 30, .tmp 31, .tmp 32] _ rfl #[] rfl #[WV (.slice ac X.classes.length cc) (.slice ah X.heap.length ch) X.epoch, ClV s name (.slice aa args.length ca), .int .i64 fuel] (by simp [Act.eval, Act.put]) (cf10 _ _) ?_
    refine (show Calls Try.prog 10 #[WV (.slice ac X.classes.length cc) (.slice ah X.heap.length ch) X.epoch, ClV s name (.slice aa args.length ca), .int .i64 fuel] V.drew _ from (wrong_any X s name args fuel _ _ _ V.drew ⟨_, _, _, rfl⟩ (hH.later goodO hBV.drew) (hA.later goodV hBV.drew) hn).mono ?_)
    rintro e w7 ⟨rfl, hb7⟩
    refine ⟨_, rfl, ?_⟩
    have hbV7 : Below V.heap.size V w7 := nstep (Below.refl _ V).drew hb7
    refine hK _ _ (fun _ => ?_) ?_
    · exact hSl _ hbV7
    clear hK K'
    try simp only [Act.put, List.setIfInBounds_toArray, List.set_cons_zero, List.set_cons_succ]
    refine wpAnyM_ready (rs := [7]) (by kernel_rfl) (by simp) ?_
    intro i hi
    simp only [List.mem_cons, List.not_mem_nil, or_false] at hi
    subst hi
    refine stepM (o := ⟨some 37, .call ⟨.value (.func 11), #[.tmp 34, .tmp 35, .tmp 36], #[25, 30, 3]⟩, 31, "law.go:28", #[⟨4,.data⟩,⟨5,.data⟩,⟨6,.data⟩,⟨3,.chain⟩], none⟩) rfl (fun K' hK => ?_)
    refine step_call rfl 11 (.func 11) #[.tmp 34, .tmp 35, .tmp 36] _ rfl #[] rfl #[WV (.slice ac X.classes.length cc) (.slice ah X.heap.length ch) X.epoch, ClV s name (.slice aa args.length ca), .int .i64 fuel] (by simp [Act.eval, Act.put]) (cf11 _ _) ?_
    refine (show Calls Try.prog 11 #[WV (.slice ac X.classes.length cc) (.slice ah X.heap.length ch) X.epoch, ClV s name (.slice aa args.length ca), .int .i64 fuel] w7 _ from (rwrongCall_any X s name args fuel _ _ _ w7 ⟨_, _, _, rfl⟩ (hH.later goodO (nstep hBV hbV7)) (hA.later goodV (nstep hBV hbV7)) hn).mono ?_)
    rintro e w8 ⟨rfl, hb8⟩
    refine ⟨_, rfl, ?_⟩
    have hbV8 : Below V.heap.size V w8 := nstep hbV7 hb8
    refine hK _ _ (fun _ => ?_) ?_
    · exact hSl _ hbV8
    clear hK K'
    try simp only [Act.put, List.setIfInBounds_toArray, List.set_cons_zero, List.set_cons_succ]
    refine wpAnyM_take (i := 8) (oi := ⟨some 38, .binOp .eql 31 (.tmp 33) (.tmp 37) 31, 4, "law.go:28", #[⟨3,.data⟩,⟨7,.data⟩], none⟩) (v := .bool true) (by kernel_rfl) (by kernel_rfl) rfl (by kernel_rfl) (by kernel_rfl) (by kernel_rfl) (fun _ _ _ h => h) (Or.inl ⟨by rfl, ?_⟩) (hSl _ hbV8) ?_
    · intro w hSw
      obtain ⟨z0, z1, z2, z3, z4, z5, z6, z7, z8, z9, z10, z11, z12, z13, z14, z15, z16, z17, z18, z19, z20⟩ := hSw
      go_simp
    try simp only [Act.put, List.setIfInBounds_toArray, List.set_cons_zero, List.set_cons_succ]
    refine wpAnyM_take (i := 9) (oi := ⟨some 39, .move (.tmp 38), 4, "law.go:28", #[⟨8,.data⟩,⟨7,.chain⟩], none⟩) (v := .bool true) (by kernel_rfl) (by kernel_rfl) rfl (by kernel_rfl) (by kernel_rfl) (by kernel_rfl) (fun _ _ _ h => h) (Or.inl ⟨by rfl, ?_⟩) (hSl _ hbV8) ?_
    · intro w hSw
      obtain ⟨z0, z1, z2, z3, z4, z5, z6, z7, z8, z9, z10, z11, z12, z13, z14, z15, z16, z17, z18, z19, z20⟩ := hSw
      go_simp
    try simp only [Act.put, List.setIfInBounds_toArray, List.set_cons_zero, List.set_cons_succ]
    refine wpAnyM_take (i := 10) (oi := ⟨some 40, .load 34 (.tmp 8), 34, "law.go:28", #[⟨9, .guard⟩], some (9, true)⟩) (v := RnV r) (by kernel_rfl) (by kernel_rfl) rfl (by kernel_rfl) (by kernel_rfl) (by kernel_rfl) (fun _ _ _ h => h) (Or.inl ⟨by rfl, ?_⟩) (hSl _ hbV8) ?_
    · intro w hSw
      obtain ⟨z0, z1, z2, z3, z4, z5, z6, z7, z8, z9, z10, z11, z12, z13, z14, z15, z16, z17, z18, z19, z20⟩ := hSw
      go_simp
    try simp only [Act.put, List.setIfInBounds_toArray, List.set_cons_zero, List.set_cons_succ]
    refine wpAnyM_take (i := 11) (oi := ⟨some 41, .load 34 (.tmp 10), 34, "law.go:28", #[⟨9, .guard⟩], some (9, true)⟩) (v := RnV r) (by kernel_rfl) (by kernel_rfl) rfl (by kernel_rfl) (by kernel_rfl) (by kernel_rfl) (fun _ _ _ h => h) (Or.inl ⟨by rfl, ?_⟩) (hSl _ hbV8) ?_
    · intro w hSw
      obtain ⟨z0, z1, z2, z3, z4, z5, z6, z7, z8, z9, z10, z11, z12, z13, z14, z15, z16, z17, z18, z19, z20⟩ := hSw
      go_simp
    try simp only [Act.put, List.setIfInBounds_toArray, List.set_cons_zero, List.set_cons_succ]
    refine wpAnyM_take (i := 12) (oi := ⟨some 42, .binOp .eql 34 (.tmp 40) (.tmp 41) 34, 4, "law.go:28", #[⟨10,.data⟩,⟨11,.data⟩,⟨9, .guard⟩], some (9, true)⟩) (v := .bool true) (by kernel_rfl) (by kernel_rfl) rfl (by kernel_rfl) (by kernel_rfl) (by kernel_rfl) (fun _ _ _ h => h) (Or.inl ⟨by rfl, ?_⟩) (hSl _ hbV8) ?_
    · intro w hSw
      obtain ⟨z0, z1, z2, z3, z4, z5, z6, z7, z8, z9, z10, z11, z12, z13, z14, z15, z16, z17, z18, z19, z20⟩ := hSw
      go_simp
    try simp only [Act.put, List.setIfInBounds_toArray, List.set_cons_zero, List.set_cons_succ]
    refine wpAnyM_take (i := 13) (oi := ⟨some 43, .pick (.tmp 39) (.tmp 42) (.const (.bool false)), 4, "law.go:28", #[⟨9,.data⟩,⟨12,.data⟩], none⟩) (v := .bool true) (by kernel_rfl) (by kernel_rfl) rfl (by kernel_rfl) (by kernel_rfl) (by kernel_rfl) (fun _ _ _ h => h) (Or.inl ⟨by rfl, ?_⟩) (hSl _ hbV8) ?_
    · intro w hSw
      obtain ⟨z0, z1, z2, z3, z4, z5, z6, z7, z8, z9, z10, z11, z12, z13, z14, z15, z16, z17, z18, z19, z20⟩ := hSw
      go_simp
    try simp only [Act.put, List.setIfInBounds_toArray, List.set_cons_zero, List.set_cons_succ]
    refine wpAnyM_take (i := 14) (oi := ⟨some 44, .move (.tmp 43), 4, "law.go:28", #[⟨13,.data⟩,⟨9,.chain⟩], none⟩) (v := .bool true) (by kernel_rfl) (by kernel_rfl) rfl (by kernel_rfl) (by kernel_rfl) (by kernel_rfl) (fun _ _ _ h => h) (Or.inl ⟨by rfl, ?_⟩) (hSl _ hbV8) ?_
    · intro w hSw
      obtain ⟨z0, z1, z2, z3, z4, z5, z6, z7, z8, z9, z10, z11, z12, z13, z14, z15, z16, z17, z18, z19, z20⟩ := hSw
      go_simp
    try simp only [Act.put, List.setIfInBounds_toArray, List.set_cons_zero, List.set_cons_succ]
    refine wpAnyM_take (i := 15) (oi := ⟨some 45, .load 25 (.tmp 7), 25, "law.go:28", #[⟨14, .guard⟩], some (14, true)⟩) (v := WV (.slice x1 X.classes.length y1) (.slice x2 r.heap.length y2) X.epoch) (by kernel_rfl) (by kernel_rfl) rfl (by kernel_rfl) (by kernel_rfl) (by kernel_rfl) (fun _ _ _ h => h) (Or.inl ⟨by rfl, ?_⟩) (hSl _ hbV8) ?_
    · intro w hSw
      obtain ⟨z0, z1, z2, z3, z4, z5, z6, z7, z8, z9, z10, z11, z12, z13, z14, z15, z16, z17, z18, z19, z20⟩ := hSw
      go_simp
    try simp only [Act.put, List.setIfInBounds_toArray, List.set_cons_zero, List.set_cons_succ]
    refine wpAnyM_take (i := 16) (oi := ⟨some 46, .load 25 (.tmp 9), 25, "law.go:28", #[⟨14, .guard⟩], some (14, true)⟩) (v := WV (.slice p1 X.classes.length q1) (.slice p2 r.heap.length q2) X.epoch) (by kernel_rfl) (by kernel_rfl) rfl (by kernel_rfl) (by kernel_rfl) (by kernel_rfl) (fun _ _ _ h => h) (Or.inl ⟨by rfl, ?_⟩) (hSl _ hbV8) ?_
    · intro w hSw
      obtain ⟨z0, z1, z2, z3, z4, z5, z6, z7, z8, z9, z10, z11, z12, z13, z14, z15, z16, z17, z18, z19, z20⟩ := hSw
      go_simp
    try simp only [Act.put, List.setIfInBounds_toArray, List.set_cons_zero, List.set_cons_succ]
    refine wpAnyM_ready (rs := [17]) (by kernel_rfl) (by simp) ?_
    intro i hi
    simp only [List.mem_cons, List.not_mem_nil, or_false] at hi
    subst hi
    refine stepM (o := ⟨some 47, .call ⟨.value (.func 12), #[.tmp 45, .tmp 46], #[25, 25]⟩, 4, "law.go:28", #[⟨15,.data⟩,⟨16,.data⟩,⟨14,.chain⟩,⟨14, .guard⟩], some (14, true)⟩) rfl (fun K' hK => ?_)
    refine step_callG (by rfl) 12 (.func 12) #[.tmp 45, .tmp 46] _ rfl #[] rfl #[WV (.slice x1 X.classes.length y1) (.slice x2 r.heap.length y2) X.epoch, WV (.slice p1 X.classes.length q1) (.slice p2 r.heap.length q2) X.epoch] (by simp [Act.eval, Act.put]) (cf12 _ _) ?_
    refine (show Calls Try.prog 12 #[WV (.slice x1 X.classes.length y1) (.slice x2 r.heap.length y2) X.epoch, WV (.slice p1 X.classes.length q1) (.slice p2 r.heap.length q2) X.epoch] w8 _ from (same_any ⟨X.classes, r.heap, X.epoch⟩ _ _ _ _ w8 (hCA.later goodC hbV8) (hHA.later goodO hbV8) (hCB.later goodC hbV8) (hHB.later goodO hbV8)).mono ?_)
    rintro e w9 ⟨rfl, hb9⟩
    refine ⟨_, rfl, ?_⟩
    have hbV9 : Below V.heap.size V w9 := nstep hbV8 hb9
    refine hK _ _ (fun _ => ?_) ?_
    · exact hSl _ hbV9
    clear hK K'
    try simp only [Act.put, List.setIfInBounds_toArray, List.set_cons_zero, List.set_cons_succ]
    refine wpAnyM_take (i := 18) (oi := ⟨some 48, .pick (.tmp 44) (.tmp 47) (.const (.bool false)), 4, "law.go:28", #[⟨14,.data⟩,⟨17,.data⟩], none⟩) (v := .bool true) (by kernel_rfl) (by kernel_rfl) rfl (by kernel_rfl) (by kernel_rfl) (by kernel_rfl) (fun _ _ _ h => h) (Or.inl ⟨by rfl, ?_⟩) (hSl _ hbV9) ?_
    · intro w hSw
      obtain ⟨z0, z1, z2, z3, z4, z5, z6, z7, z8, z9, z10, z11, z12, z13, z14, z15, z16, z17, z18, z19, z20⟩ := hSw
      go_simp
    try simp only [Act.put, List.setIfInBounds_toArray, List.set_cons_zero, List.set_cons_succ]
    refine wpAnyM_take (i := 19) (oi := ⟨some 6, .assign (.tmp 48), 4, "law.go:28", #[⟨18,.data⟩,⟨17,.chain⟩,⟨0,.phase⟩,⟨1,.phase⟩,⟨2,.phase⟩,⟨3,.phase⟩,⟨4,.phase⟩,⟨5,.phase⟩,⟨6,.phase⟩,⟨7,.phase⟩,⟨8,.phase⟩,⟨9,.phase⟩,⟨10,.phase⟩,⟨11,.phase⟩,⟨12,.phase⟩,⟨13,.phase⟩,⟨14,.phase⟩,⟨15,.phase⟩,⟨16,.phase⟩,⟨17,.phase⟩,⟨18,.phase⟩], none⟩) (v := .bool true) (by kernel_rfl) (by kernel_rfl) rfl (by kernel_rfl) (by kernel_rfl) (by kernel_rfl) (fun _ _ _ h => h) (Or.inl ⟨by rfl, ?_⟩) (hSl _ hbV9) ?_
    · intro w hSw
      obtain ⟨z0, z1, z2, z3, z4, z5, z6, z7, z8, z9, z10, z11, z12, z13, z14, z15, z16, z17, z18, z19, z20⟩ := hSw
      go_simp
    try simp only [Act.put, List.setIfInBounds_toArray, List.set_cons_zero, List.set_cons_succ]
    refine wpAnyM_done (by kernel_rfl) ?_ _
    try simp only [Act.put, List.setIfInBounds_toArray, List.set_cons_zero, List.set_cons_succ]

    have HBF := hid (nstep hBV hbV9)
    clear hSl hS0
    go_wp2
    go_ret
    exact ⟨rfl, HBF.out⟩
  · have hx : (rightE X != 0) = true := by simpa using hX
    go_wp2
    go_ret
    exact ⟨rfl, hB0⟩
end Go.Proofs.Ytfdonemehiamjaa
