/- Equal values and results; boxes. -/
import Derived.Test.YtfdonemehiamjaaPZt
namespace Go.Proofs.Ytfdonemehiamjaa
open Go.ChangeShapes Go.WideShapes Go.ChangeAt Go.RowKit
set_option linter.unusedSimpArgs false
set_option linter.unusedVariables false
set_option maxRecDepth 8000

theorem equalV (d : Nat) (k n k' n' : Int) (w : World) : (Op.equalIn (d + 2) 27 (.agg #[.int .i64 k, .int .i64 n]) (.agg #[.int .i64 k', .int .i64 n'])).run Try.prog w = .ok (k == k' && n == n') w := by
  have u3 := Try.underlying3
  have a3 := Try.isAgg3
  have z3 := Try.sizeOf3
  have hS : Try.prog.underlying 27 = some (.struct (Try.prog.fieldsOf 27)) := by kernel_rfl
  have hp : Try.prog.stoodInHeld 27 = false := by kernel_rfl
  rw [run_equalIn_struct w (d + 1) 27 _ _ hS hp]
  simp only [Program.fieldsOf, Try.underlying27]
  go_simp
  by_cases h1 : k = k' <;> by_cases h3 : n = n' <;> simp [h1, h3]
theorem eqlV (x y : QV) (w : World) : (binOp .eql 27 (VV x) (VV y)).run Try.prog w = .ok (.bool (x.k == y.k && x.n == y.n)) w := by
  rw [run_eql_struct, show (10000 : Nat) = 9998 + 2 from rfl, equalV]
  rfl
theorem equalR (x y : Ran) (w : World) : (Op.equalIn 10000 34 (RnV x) (RnV y)).run Try.prog w = .ok (x.v.k == y.v.k && x.v.n == y.v.n && x.err == y.err && x.sends == y.sends) w := by
  have u3 := Try.underlying3
  have a3 := Try.isAgg3
  have z3 := Try.sizeOf3
  have u31 := Try.underlying31
  have a31 := Try.isAgg31
  have z31 := Try.sizeOf31
  have a27 := Try.isAgg27
  have z27 := Try.sizeOf27
  have hV := equalV 9997
  have hS : Try.prog.underlying 34 = some (.struct (Try.prog.fieldsOf 34)) := by kernel_rfl
  have hp : Try.prog.stoodInHeld 34 = false := by kernel_rfl
  rw [show (10000 : Nat) = 9999 + 1 from rfl, run_equalIn_struct w 9999 34 _ _ hS hp]
  simp only [Program.fieldsOf, Try.underlying34]
  clear hS hp
  go_simp
  by_cases h1 : x.v.k = y.v.k <;> by_cases h2 : x.v.n = y.v.n <;> by_cases h3 : x.err = y.err <;> by_cases h4 : x.sends = y.sends <;> simp [h1, h2, h3, h4]
theorem eqlR (x y : Ran) (w : World) : (binOp .eql 34 (RnV x) (RnV y)).run Try.prog w = .ok (.bool (x.v.k == y.v.k && x.v.n == y.v.n && x.err == y.err && x.sends == y.sends)) w := by
  rw [run_eql_struct, equalR]
  rfl
theorem neqR (x y : Ran) (w : World) : (binOp .neq 34 (RnV x) (RnV y)).run Try.prog w = .ok (.bool !(x.v.k == y.v.k && x.v.n == y.v.n && x.err == y.err && x.sends == y.sends)) w := by
  rw [run_neq_struct, equalR]
  rfl
theorem eqR_self (x : Ran) : (x.v.k == x.v.k && x.v.n == x.v.n && x.err == x.err && x.sends == x.sends) = true := by simp

/-- The boxes of a run's answer. -/
structure AlB (B : Nat) (cv hv : Value) (ep k n er sn : Int) (w' : World) : Prop where
  a0 : w'.cell? ⟨B, 0, none⟩ = some cv
  a1 : w'.cell? ⟨B, 1, none⟩ = some hv
  a2 : w'.cell? ⟨B, 2, none⟩ = some (.int .i64 ep)
  b0 : w'.cell? ⟨B + 1, 0, none⟩ = some (.int .i64 k)
  b1 : w'.cell? ⟨B + 1, 1, none⟩ = some (.int .i64 n)
  b2 : w'.cell? ⟨B + 1, 2, none⟩ = some (.int .i64 er)
  b3 : w'.cell? ⟨B + 1, 3, none⟩ = some (.int .i64 sn)
theorem AlB.later {B : Nat} {cv hv : Value} {ep k n er sn : Int} {w1 w2 : World} (h : AlB B cv hv ep k n er sn w1) (hb : Below w1.heap.size w1 w2) : AlB B cv hv ep k n er sn w2 :=
  ⟨cell_later hb h.a0, cell_later hb h.a1, cell_later hb h.a2, cell_later hb h.b0, cell_later hb h.b1, cell_later hb h.b2, cell_later hb h.b3⟩
theorem AlB.al {B : Nat} {cv hv : Value} {ep k n er sn : Int} {C : Nat} {cv' hv' : Value} {ep' k' n' er' sn' : Int} {w' : World} (h : AlB B cv hv ep k n er sn w') (h' : AlB C cv' hv' ep' k' n' er' sn' w') : w'.cell? ⟨B, 0, none⟩ = some cv ∧ w'.cell? ⟨B, 1, none⟩ = some hv ∧ w'.cell? ⟨B, 2, none⟩ = some (.int .i64 ep) ∧ w'.cell? ⟨B + 1, 0, none⟩ = some (.int .i64 k) ∧ w'.cell? ⟨B + 1, 1, none⟩ = some (.int .i64 n) ∧ w'.cell? ⟨B + 1, 2, none⟩ = some (.int .i64 er) ∧ w'.cell? ⟨B + 1, 3, none⟩ = some (.int .i64 sn) ∧ w'.cell? ⟨C + 1, 2, none⟩ = some (.int .i64 er') := ⟨h.a0, h.a1, h.a2, h.b0, h.b1, h.b2, h.b3, h'.b2⟩
theorem al_later {B C : Nat} {v0 v1 v2 v3 v4 v5 v6 v7 : Value} {w w' : World} (h : w.cell? ⟨B, 0, none⟩ = some v0 ∧ w.cell? ⟨B, 1, none⟩ = some v1 ∧ w.cell? ⟨B, 2, none⟩ = some v2 ∧ w.cell? ⟨B + 1, 0, none⟩ = some v3 ∧ w.cell? ⟨B + 1, 1, none⟩ = some v4 ∧ w.cell? ⟨B + 1, 2, none⟩ = some v5 ∧ w.cell? ⟨B + 1, 3, none⟩ = some v6 ∧ w.cell? ⟨C + 1, 2, none⟩ = some v7) (hb : Below w.heap.size w w') : w'.cell? ⟨B, 0, none⟩ = some v0 ∧ w'.cell? ⟨B, 1, none⟩ = some v1 ∧ w'.cell? ⟨B, 2, none⟩ = some v2 ∧ w'.cell? ⟨B + 1, 0, none⟩ = some v3 ∧ w'.cell? ⟨B + 1, 1, none⟩ = some v4 ∧ w'.cell? ⟨B + 1, 2, none⟩ = some v5 ∧ w'.cell? ⟨B + 1, 3, none⟩ = some v6 ∧ w'.cell? ⟨C + 1, 2, none⟩ = some v7 :=
  ⟨cell_later hb h.1, cell_later hb h.2.1, cell_later hb h.2.2.1, cell_later hb h.2.2.2.1, cell_later hb h.2.2.2.2.1, cell_later hb h.2.2.2.2.2.1, cell_later hb h.2.2.2.2.2.2.1, cell_later hb h.2.2.2.2.2.2.2⟩
theorem alW (w : World) (cv hv : Value) (ep k n er sn : Int) : AlB w.heap.size cv hv ep k n er sn ((w.alloc (.cells #[cv, hv, .int .i64 ep] 25)).alloc (.cells #[.int .i64 k, .int .i64 n, .int .i64 er, .int .i64 sn] 34)) :=
  ⟨cell_later (bel1 _ _) (by rw [cell_new _ _ _ _ rfl]; rfl), cell_later (bel1 _ _) (by rw [cell_new _ _ _ _ rfl]; rfl), cell_later (bel1 _ _) (by rw [cell_new _ _ _ _ rfl]; rfl), by rw [cell_new _ _ _ _ (by simp)]; rfl, by rw [cell_new _ _ _ _ (by simp)]; rfl, by rw [cell_new _ _ _ _ (by simp)]; rfl, by rw [cell_new _ _ _ _ (by simp)]; rfl⟩
theorem PnR.later {w : World} {cv hv : Value} {ep : Int} {s : QV} {name : ByteArray} {av : Value} {w1 w2 : World} (h : PnR w cv hv ep s name av w1) (hb : Below w1.heap.size w1 w2) : PnR w cv hv ep s name av w2 :=
  ⟨cell_later hb h.w0, cell_later hb h.w1, cell_later hb h.w2, cell_later hb h.c0, cell_later hb h.c1, cell_later hb h.c2, cell_later hb h.c3⟩
theorem pn_new (w : World) (cv hv : Value) (ep : Int) (s : QV) (name : ByteArray) (av : Value) : PnR w cv hv ep s name av ((w.alloc (.cells #[cv, hv, .int .i64 ep] 25)).alloc (.cells #[.int .i64 s.k, .int .i64 s.n, .string name, av] 30)) :=
  ⟨cell_later (bel1 _ _) (by rw [cell_new _ _ _ _ rfl]; rfl), cell_later (bel1 _ _) (by rw [cell_new _ _ _ _ rfl]; rfl), cell_later (bel1 _ _) (by rw [cell_new _ _ _ _ rfl]; rfl), by rw [cell_new _ _ _ _ (by simp)]; rfl, by rw [cell_new _ _ _ _ (by simp)]; rfl, by rw [cell_new _ _ _ _ (by simp)]; rfl, by rw [cell_new _ _ _ _ (by simp)]; rfl⟩
end Go.Proofs.Ytfdonemehiamjaa
