/- Equal values and results; the call's number; the first world's runs. -/
import Derived.Test.YtfdonemehiamjaaZt
import Derived.Test.YtfdonemehiamjaaNb
namespace Go.Proofs.Ytfdonemehiamjaa
open Go.ChangeShapes Go.WideShapes Go.ChangeAt Go.RowKit
set_option linter.unusedSimpArgs false
set_option linter.unusedVariables false
set_option maxRecDepth 8000

theorem right_new : rightE newX = 0 := by decide +kernel
theorem plus_new : plainE newX ⟨3, 2⟩ ⟨#[43]⟩ [⟨3, 3⟩] 5 = ⟨[], ⟨3, 5⟩, 0, 1⟩ := by kernel_rfl
theorem nope_new : (plainE newX ⟨3, 2⟩ ⟨#[110, 111, 112, 101]⟩ [] 5).err = 10 := by kernel_rfl

theorem equalV (d : Nat) (k n k' n' : Int) (w : World) : (Op.equalIn (d + 2) 27 (.agg #[.int .i64 k, .int .i64 n]) (.agg #[.int .i64 k', .int .i64 n'])).run Try.prog w = .ok (k == k' && n == n') w := by
  have u3 := Try.underlying3
  have a3 := Try.isAgg3
  have z3 := Try.sizeOf3
  have hS : Try.prog.underlying 27 = some (.struct (Try.prog.fieldsOf 27)) := by kernel_rfl
  have hp : Try.prog.stoodInHeld 27 = false := by kernel_rfl
  rw [run_equalIn_struct w (d + 1) 27 _ _ hS hp]
  simp only [Program.fieldsOf, Try.underlying27]
  go_simp
  by_cases h1 : k = k' <;> by_cases h3 : n = n' <;> simp [h1, h3]
theorem eqlV (x y : QV) (w : World) : (binOp .eql 27 (VV x) (VV y)).run Try.prog w = .ok (.bool (x.k == y.k && x.n == y.n)) w := by
  rw [run_eql_struct, show (10000 : Nat) = 9998 + 2 from rfl, equalV]
  rfl
theorem equalR (x y : Ran) (w : World) : (Op.equalIn 10000 34 (RnV x) (RnV y)).run Try.prog w = .ok (x.v.k == y.v.k && x.v.n == y.v.n && x.err == y.err && x.sends == y.sends) w := by
  have u3 := Try.underlying3
  have a3 := Try.isAgg3
  have z3 := Try.sizeOf3
  have u31 := Try.underlying31
  have a31 := Try.isAgg31
  have z31 := Try.sizeOf31
  have a27 := Try.isAgg27
  have z27 := Try.sizeOf27
  have hV := equalV 9997
  have hS : Try.prog.underlying 34 = some (.struct (Try.prog.fieldsOf 34)) := by kernel_rfl
  have hp : Try.prog.stoodInHeld 34 = false := by kernel_rfl
  rw [show (10000 : Nat) = 9999 + 1 from rfl, run_equalIn_struct w 9999 34 _ _ hS hp]
  simp only [Program.fieldsOf, Try.underlying34]
  clear hS hp
  go_simp
  by_cases h1 : x.v.k = y.v.k <;> by_cases h2 : x.v.n = y.v.n <;> by_cases h3 : x.err = y.err <;> by_cases h4 : x.sends = y.sends <;> simp [h1, h2, h3, h4]
theorem eqlR (x y : Ran) (w : World) : (binOp .eql 34 (RnV x) (RnV y)).run Try.prog w = .ok (.bool (x.v.k == y.v.k && x.v.n == y.v.n && x.err == y.err && x.sends == y.sends)) w := by
  rw [run_eql_struct, equalR]
  rfl
theorem neqR (x y : Ran) (w : World) : (binOp .neq 34 (RnV x) (RnV y)).run Try.prog w = .ok (.bool !(x.v.k == y.v.k && x.v.n == y.v.n && x.err == y.err && x.sends == y.sends)) w := by
  rw [run_neq_struct, equalR]
  rfl
theorem eqR_self (x : Ran) : (x.v.k == x.v.k && x.v.n == x.v.n && x.err == x.err && x.sends == x.sends) = true := by simp

theorem num_any (n : Int) (w : World) : Calls Try.prog 28 #[.int .i64 n] w fun e w' => e = .returned (VV ⟨3, n⟩) ∧ Below w.heap.size w w' := by
  go_enter Try.func28, Try.ntmps28
  go_wp2
  refine bodyPost_ret (v := VV ⟨3, n⟩) ?_ rfl ⟨rfl, bel1 _ _⟩
  simp [results, Try.results28, go_sem]
theorem row_one (v : QV) (w : World) (t : TypeId) : IsVals Tru (w.alloc (.cells #[.int .i64 v.k, .int .i64 v.n] t)) (.slice (some ⟨w.heap.size, 0, none⟩) 1 1) [v] := by
  refine ⟨_, _, rfl, by simp, by unfold maxLen; omega, by simp, fun i x hx => ⟨w.heap.size, 0, rfl, trivial, ?_⟩⟩
  match i, hx with
  | 0, hx =>
    cases hx
    exact ⟨by show World.cell? _ ⟨w.heap.size, 0, none⟩ = _; rw [cell_new _ _ _ _ rfl]; rfl, by show World.cell? _ ⟨w.heap.size, 1, none⟩ = _; rw [cell_new _ _ _ _ rfl]; rfl⟩
  | i + 1, hx => simp at hx

/-- The boxes of a run's answer. -/
structure AlB (B : Nat) (cv hv : Value) (ep k n er sn : Int) (w' : World) : Prop where
  a0 : w'.cell? ⟨B, 0, none⟩ = some cv
  a1 : w'.cell? ⟨B, 1, none⟩ = some hv
  a2 : w'.cell? ⟨B, 2, none⟩ = some (.int .i64 ep)
  b0 : w'.cell? ⟨B + 1, 0, none⟩ = some (.int .i64 k)
  b1 : w'.cell? ⟨B + 1, 1, none⟩ = some (.int .i64 n)
  b2 : w'.cell? ⟨B + 1, 2, none⟩ = some (.int .i64 er)
  b3 : w'.cell? ⟨B + 1, 3, none⟩ = some (.int .i64 sn)
theorem AlB.later {B : Nat} {cv hv : Value} {ep k n er sn : Int} {w1 w2 : World} (h : AlB B cv hv ep k n er sn w1) (hb : Below w1.heap.size w1 w2) : AlB B cv hv ep k n er sn w2 :=
  ⟨cell_later hb h.a0, cell_later hb h.a1, cell_later hb h.a2, cell_later hb h.b0, cell_later hb h.b1, cell_later hb h.b2, cell_later hb h.b3⟩
theorem AlB.al {B : Nat} {cv hv : Value} {ep k n er sn : Int} {C : Nat} {cv' hv' : Value} {ep' k' n' er' sn' : Int} {w' : World} (h : AlB B cv hv ep k n er sn w') (h' : AlB C cv' hv' ep' k' n' er' sn' w') : w'.cell? ⟨B, 0, none⟩ = some cv ∧ w'.cell? ⟨B, 1, none⟩ = some hv ∧ w'.cell? ⟨B, 2, none⟩ = some (.int .i64 ep) ∧ w'.cell? ⟨B + 1, 0, none⟩ = some (.int .i64 k) ∧ w'.cell? ⟨B + 1, 1, none⟩ = some (.int .i64 n) ∧ w'.cell? ⟨B + 1, 2, none⟩ = some (.int .i64 er) ∧ w'.cell? ⟨B + 1, 3, none⟩ = some (.int .i64 sn) ∧ w'.cell? ⟨C + 1, 2, none⟩ = some (.int .i64 er') := ⟨h.a0, h.a1, h.a2, h.b0, h.b1, h.b2, h.b3, h'.b2⟩
theorem al_later {B C : Nat} {v0 v1 v2 v3 v4 v5 v6 v7 : Value} {w w' : World} (h : w.cell? ⟨B, 0, none⟩ = some v0 ∧ w.cell? ⟨B, 1, none⟩ = some v1 ∧ w.cell? ⟨B, 2, none⟩ = some v2 ∧ w.cell? ⟨B + 1, 0, none⟩ = some v3 ∧ w.cell? ⟨B + 1, 1, none⟩ = some v4 ∧ w.cell? ⟨B + 1, 2, none⟩ = some v5 ∧ w.cell? ⟨B + 1, 3, none⟩ = some v6 ∧ w.cell? ⟨C + 1, 2, none⟩ = some v7) (hb : Below w.heap.size w w') : w'.cell? ⟨B, 0, none⟩ = some v0 ∧ w'.cell? ⟨B, 1, none⟩ = some v1 ∧ w'.cell? ⟨B, 2, none⟩ = some v2 ∧ w'.cell? ⟨B + 1, 0, none⟩ = some v3 ∧ w'.cell? ⟨B + 1, 1, none⟩ = some v4 ∧ w'.cell? ⟨B + 1, 2, none⟩ = some v5 ∧ w'.cell? ⟨B + 1, 3, none⟩ = some v6 ∧ w'.cell? ⟨C + 1, 2, none⟩ = some v7 :=
  ⟨cell_later hb h.1, cell_later hb h.2.1, cell_later hb h.2.2.1, cell_later hb h.2.2.2.1, cell_later hb h.2.2.2.2.1, cell_later hb h.2.2.2.2.2.1, cell_later hb h.2.2.2.2.2.2.1, cell_later hb h.2.2.2.2.2.2.2⟩
theorem empty_wrong : wrongCallE newX ⟨0, 0⟩ ⟨#[]⟩ [] 0 = 7 := by kernel_rfl
theorem alW (w : World) (cv hv : Value) (ep k n er sn : Int) : AlB w.heap.size cv hv ep k n er sn ((w.alloc (.cells #[cv, hv, .int .i64 ep] 25)).alloc (.cells #[.int .i64 k, .int .i64 n, .int .i64 er, .int .i64 sn] 34)) :=
  ⟨cell_later (bel1 _ _) (by rw [cell_new _ _ _ _ rfl]; rfl), cell_later (bel1 _ _) (by rw [cell_new _ _ _ _ rfl]; rfl), cell_later (bel1 _ _) (by rw [cell_new _ _ _ _ rfl]; rfl), by rw [cell_new _ _ _ _ (by simp)]; rfl, by rw [cell_new _ _ _ _ (by simp)]; rfl, by rw [cell_new _ _ _ _ (by simp)]; rfl, by rw [cell_new _ _ _ _ (by simp)]; rfl⟩
set_option maxHeartbeats 4000000 in
theorem alive_any (w : World) : Calls Try.prog 13 #[] w fun e w' => e = .returned (.bool true) ∧ Below w.heap.size w w' := by
  go_enter Try.func13, Try.ntmps13
  go_wp2_with fail
  refine (rnew_any _).mono ?_
  rintro e w1 ⟨cv, hv, rfl, hC, hH, hb1⟩
  obtain ⟨x1, y1, rfl⟩ : ∃ a c, cv = .slice a 4 c := hC.get
  obtain ⟨x2, y2, rfl⟩ : ∃ a c, hv = .slice a 0 c := hH.get
  go_wp2_with fail
  refine (num_any 2 _).mono ?_
  rintro e w2 ⟨rfl, hb2⟩
  go_wp2_with fail
  refine (num_any 3 _).mono ?_
  rintro e w3 ⟨rfl, hb3⟩
  go_wp2_with fail
  have hq := nstep hb2 (nstep hb3 (bel1 w3 (Obj.cells #[Value.int IntKind.i64 3, Value.int IntKind.i64 3] 27)))
  refine (plain_any newX right_new ⟨3, 2⟩ ⟨#[43]⟩ [⟨3, 3⟩] 5 _ _ _ _ (hC.later goodC hq) (hH.later goodO hq) (row_one ⟨3, 3⟩ w3 27) (by decide)).mono ?_
  rw [plus_new]
  rintro e w4 ⟨hb4, cv4, hv4, rfl, hC4, hH4⟩
  obtain ⟨x3, y3, rfl⟩ : ∃ a c, cv4 = .slice a 4 c := hC4.get
  obtain ⟨x4, y4, rfl⟩ : ∃ a c, hv4 = .slice a 0 c := hH4.get
  have HB4 := hid (nstep hb1 (nstep hq hb4))
  clear hC hH hb1 hb2 hb3 hq hb4
  go_wp2_with fail
  have hA4 := alW w4 (.slice x3 4 y3) (.slice x4 0 y4) 0 3 5 0 1
  have HB5 := hid (nstep HB4.out (bel2 w4 (Obj.cells #[Value.slice x3 4 y3, Value.slice x4 0 y4, Value.int IntKind.i64 0] 25) (Obj.cells #[Value.int IntKind.i64 3, Value.int IntKind.i64 5, Value.int IntKind.i64 0, Value.int IntKind.i64 1] 34)))
  replace hC4 := hC4.later goodC (bel2 w4 (Obj.cells #[Value.slice x3 4 y3, Value.slice x4 0 y4, Value.int IntKind.i64 0] 25) (Obj.cells #[Value.int IntKind.i64 3, Value.int IntKind.i64 5, Value.int IntKind.i64 0, Value.int IntKind.i64 1] 34))
  replace hH4 := hH4.later goodO (bel2 w4 (Obj.cells #[Value.slice x3 4 y3, Value.slice x4 0 y4, Value.int IntKind.i64 0] 25) (Obj.cells #[Value.int IntKind.i64 3, Value.int IntKind.i64 5, Value.int IntKind.i64 0, Value.int IntKind.i64 1] 34))
  change Calls Try.prog 15 #[] ((w4.alloc (Obj.cells #[Value.slice x3 4 y3, Value.slice x4 0 y4, Value.int IntKind.i64 0] 25)).alloc (Obj.cells #[Value.int IntKind.i64 3, Value.int IntKind.i64 5, Value.int IntKind.i64 0, Value.int IntKind.i64 1] 34)) _
  generalize ((w4.alloc (Obj.cells #[Value.slice x3 4 y3, Value.slice x4 0 y4, Value.int IntKind.i64 0] 25)).alloc (Obj.cells #[Value.int IntKind.i64 3, Value.int IntKind.i64 5, Value.int IntKind.i64 0, Value.int IntKind.i64 1] 34)) = W at *
  generalize w4.heap.size = B at *
  refine (rnew_any _).mono ?_
  rintro e w5 ⟨cv, hv, rfl, hC, hH, hb1⟩
  obtain ⟨x5, y5, rfl⟩ : ∃ a c, cv = .slice a 4 c := hC.get
  obtain ⟨x6, y6, rfl⟩ : ∃ a c, hv = .slice a 0 c := hH.get
  go_wp2_with fail
  refine (num_any 2 _).mono ?_
  rintro e w6 ⟨rfl, hb2⟩
  go_wp2_with fail
  refine (plain_any newX right_new ⟨3, 2⟩ ⟨#[110, 111, 112, 101]⟩ [] 5 _ _ _ _ (hC.later goodC hb2) (hH.later goodO hb2) (row_none (P := Tru)) (by decide)).mono ?_
  rintro e w7 ⟨hb3, cv7, hv7, rfl, hC7, hH7⟩
  have he2 := nope_new
  generalize plainE newX ⟨3, 2⟩ ⟨#[110, 111, 112, 101]⟩ [] 5 = r2 at *
  obtain ⟨h2, ⟨vk, vn⟩, er2, sn2⟩ := r2
  simp only at he2
  subst he2
  obtain ⟨x7, y7, rfl⟩ : ∃ a c, cv7 = .slice a 4 c := hC7.get
  obtain ⟨x8, y8, rfl⟩ : ∃ a c, hv7 = .slice a h2.length c := hH7.get
  have hbq := nstep hb1 (nstep hb2 hb3)
  clear hC hH hC7 hH7 hb1 hb2 hb3
  go_wp2_with fail
  have hA7 := alW w7 (.slice x7 4 y7) (.slice x8 h2.length y8) 0 vk vn 10 sn2
  have hb8 := nstep hbq (bel2 w7 (Obj.cells #[Value.slice x7 4 y7, Value.slice x8 h2.length y8, Value.int IntKind.i64 0] 25) (Obj.cells #[Value.int IntKind.i64 vk, Value.int IntKind.i64 vn, Value.int IntKind.i64 10, Value.int IntKind.i64 sn2] 34))
  change Calls Try.prog 21 _ ((w7.alloc (Obj.cells #[Value.slice x7 4 y7, Value.slice x8 h2.length y8, Value.int IntKind.i64 0] 25)).alloc (Obj.cells #[Value.int IntKind.i64 vk, Value.int IntKind.i64 vn, Value.int IntKind.i64 10, Value.int IntKind.i64 sn2] 34)) _
  generalize ((w7.alloc (Obj.cells #[Value.slice x7 4 y7, Value.slice x8 h2.length y8, Value.int IntKind.i64 0] 25)).alloc (Obj.cells #[Value.int IntKind.i64 vk, Value.int IntKind.i64 vn, Value.int IntKind.i64 10, Value.int IntKind.i64 sn2] 34)) = W2 at *
  generalize w7.heap.size = B2 at *
  refine (none_any 0 0 _).mono ?_
  rintro e w8 ⟨rfl, hb9⟩
  go_upto_region 4 with (fail)
  have hb10 := nstep hb9 (bel1 w8 (Obj.cells #[Value.int IntKind.i64 0, Value.string ⟨#[]⟩, Value.int IntKind.i64 0, Value.int IntKind.i64 0, Value.slice none 0 0] 76))
  have hS0 := AlB.al (hA4.later (nstep hb8 hb10)) (hA7.later hb10)
  have hbF := HB5.out
  have HB6 := hid (nstep hbF (nstep hb8 hb10))
  have hCF := hC4.later goodC (nstep hb8 hb10)
  have hHF := hH4.later goodO (nstep hb8 hb10)
  have hwr := fun (w' : World) hb => wrong_any newX ⟨0, 0⟩ ⟨#[]⟩ [] 0 (.slice x3 4 y3) (.slice x4 0 y4) (.slice none 0 0) w' ⟨_, _, _, rfl⟩ (hHF.later goodO hb) (row_none (P := Tru)) (by decide)
  rw [empty_wrong] at hwr
  have heq := fun w => (eqlR ⟨[], ⟨3, 5⟩, 0, 1⟩ ⟨[], ⟨3, 5⟩, 0, 1⟩ w)
  simp only [eqR_self] at heq
  clear hA4 hA7 hC4 hH4 hbF hCF hb8 hb9 hbq hb10
  generalize (w8.alloc (Obj.cells #[Value.int IntKind.i64 0, Value.string ⟨#[]⟩, Value.int IntKind.i64 0, Value.int IntKind.i64 0, Value.slice none 0 0] 76)) = W3 at *
  replace hS0 := al_later hS0 (Below.refl W3.heap.size W3).drew
  replace HB6 := hid HB6.out.drew
  have hn5 := num_any 5 W3.drew
  have hwr' := fun (w' : World) (hb : Below W3.drew.heap.size W3.drew w') => hwr w' (nstep (Below.refl W3.heap.size W3).drew hb)
  clear hwr hHF
  have tokA : True := trivial
  go_region_held3 (fun w' => w'.cell? ⟨B, 0, none⟩ = some (.slice x3 4 y3) ∧ w'.cell? ⟨B, 1, none⟩ = some (.slice x4 0 y4) ∧ w'.cell? ⟨B, 2, none⟩ = some (.int .i64 0) ∧ w'.cell? ⟨B + 1, 0, none⟩ = some (.int .i64 3) ∧ w'.cell? ⟨B + 1, 1, none⟩ = some (.int .i64 5) ∧ w'.cell? ⟨B + 1, 2, none⟩ = some (.int .i64 0) ∧ w'.cell? ⟨B + 1, 3, none⟩ = some (.int .i64 1) ∧ w'.cell? ⟨B2 + 1, 2, none⟩ = some (.int .i64 10))
    (first | with_reducible exact hS0 | with_reducible exact hS1 | with_reducible exact hS2)
    (first
      | (have _t := tokA; go_at_call 28; refine hn5.mono ?_; rintro e w9 ⟨rfl, hb9⟩; have hS1 := al_later hS0 hb9; clear tokA; have tokB : True := trivial)
      | (have _t := tokB; go_at_call 10; refine (hwr' _ hb9).mono ?_; rintro e w10 ⟨rfl, hb10⟩; have hS2 := al_later hS1 hb10; have HB7 := hid (nstep HB6.out (nstep hb9 hb10))))
  all_goals (
    go_wp2
    go_ret
    exact ⟨rfl, HB7.out⟩)
end Go.Proofs.Ytfdonemehiamjaa
