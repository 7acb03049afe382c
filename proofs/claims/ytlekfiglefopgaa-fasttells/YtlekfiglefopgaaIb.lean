/- Inline's small functions: fits, staying, placeOf, standIn. -/
import Derived.Test.YtlekfiglefopgaaIa
import Derived.Test.YtlekfiglefopgaaDa
import Derived.Test.YtlekfiglefopgaaKd
namespace Go.Proofs.Ytlekfiglefopgaa
open Go.ChangeShapes Go.WideShapes Go.ChangeAt Go.RowKit
set_option linter.unusedSimpArgs false
set_option linter.unusedVariables false
set_option maxRecDepth 8000

theorem hid {p : Prop} (h : p) : Hid p := h
def fitsE : Int → List Int → Bool
  | _, [] => true
  | m, n :: r => if n < 0 ∨ m < n then false else fitsE (m - n) r
theorem drop_get {α : Type} {xs : List α} {j : Nat} {x : α} (h : xs[j]? = some x) : xs.drop j = x :: xs.drop (j + 1) := by
  obtain ⟨hj, rfl⟩ := List.getElem?_eq_some_iff.1 h
  exact List.drop_eq_getElem_cons hj
theorem fits_any {P : Nat → Prop} (ps : List Int) (v : Value) (m : Int) (w : World) (hm : 0 ≤ m ∧ m ≤ 1000) (h : IsInts P w v ps) : Calls Try.prog 40 #[.int .i64 m, v] w fun e w' => e = .returned (.bool (fitsE m ps)) ∧ w' = w := by
  obtain ⟨ad, cap, rfl, hl, hcap, hby, hrow⟩ := h
  go_enter Try.func40, Try.ntmps40
  go_wp2
  go_loopg [0, 9] ps.length (fun g mv c wr => ∃ (j : Nat) (mm : Int), j + g = ps.length ∧ c = .int .i64 j ∧ mv = .int .i64 mm ∧ (0 ≤ mm ∧ mm ≤ 1000) ∧ Hid (fitsE m ps = fitsE mm (ps.drop j)) ∧ wr = w)
  case atStart => exact ⟨0, m, by omega, rfl, rfl, hm, rfl, rfl⟩
  case round =>
    obtain ⟨j, mm, hj, rfl, rfl, ⟨hm0, hm1⟩, HF, rfl⟩ := hrel
    by_cases hlt : j < ps.length
    · have hx : ps[j]? = some ps[j] := by simp [hlt]
      have HX := hid hx
      obtain ⟨b, o, rfl, -, y0⟩ := hrow j ps[j] hx
      generalize ps[j] = x at *
      have hj1 : (j : Int) < (ps.length : Int) := by omega
      have hj0 : (0 : Int) ≤ (j : Int) := by omega
      replace y0 : wr.cell? ⟨b, o + j, none⟩ = some (.int .i64 x) := by simpa [IntC] using y0
      clear hrow hx
      have HS : Hid (fitsE m ps = if x < 0 ∨ mm < x then false else fitsE (mm - x) (ps.drop (j + 1))) := by show _ = _; rw [HF.out, drop_get HX.out]; rfl
      by_cases h0 : x < 0
      · have hd : decide (x < 0) = true := by simpa using h0
        have HR : Hid (fitsE m ps = false) := by show _ = _; rw [HS.out, if_pos (Or.inl h0)]
        clear h0
        go_wp2
        go_ret
        exact ⟨ret_b HR.out.symm, rfl⟩
      · have hd : decide (x < 0) = false := by simpa using h0
        by_cases h1 : mm < x
        · have hd1 : decide (mm < x) = true := by simpa using h1
          have HR : Hid (fitsE m ps = false) := by show _ = _; rw [HS.out, if_pos (Or.inr h1)]
          clear h0 h1
          go_wp2
          go_ret
          exact ⟨ret_b HR.out.symm, rfl⟩
        · have hd1 : decide (mm < x) = false := by simpa using h1
          have HR : Hid (fitsE m ps = fitsE (mm - x) (ps.drop (j + 1))) := by show _ = _; rw [HS.out, if_neg (by omega)]
          have hw : IntKind.i64.wrap (mm - x) = mm - x := wrap_of (by omega) (by omega)
          have HM : Hid (0 ≤ mm - x ∧ mm - x ≤ 1000) := by show _ ∧ _; omega
          clear h0 h1
          go_wp2
          go_roundg (gk - 1)
          case measure => omega
          case rel => exact ⟨j + 1, mm - x, by omega, by go_num, rfl, HM.out, HR.out, rfl⟩
    · obtain rfl : j = ps.length := by omega
      have HR : Hid (fitsE m ps = true) := by show _ = _; rw [HF.out, List.drop_length]; rfl
      go_wp2
      go_ret
      exact ⟨ret_b HR.out.symm, rfl⟩
theorem staying_any (x : QI) (n : Int) (w : World) : Calls Try.prog 25 #[IV x, .int .i64 n] w fun e w' => e = .returned (IV (stayE x n)) ∧ Below w.heap.size w w' := by
  have hb2 := bel2 w (.cells #[.int .i64 x.op, .int .i64 x.a, .int .i64 x.b, .int .i64 x.c, .string x.name] 69) (.cells #[.int .i64 0, .int .i64 0, .int .i64 0, .int .i64 0, .string ⟨#[]⟩] 69)
  by_cases h : x.op = 14
  · have hd : (x.op == 14) = true := by simpa using h
    have HS : Hid (stayE x n = { x with c := n }) := by show _ = _; unfold stayE; rw [if_pos h]
    clear h
    go_enter Try.func25, Try.ntmps25
    go_wp2
    refine bodyPost_ret (v := IV { x with c := n }) ?_ rfl ⟨by rw [HS.out], ?_⟩
    · simp [results, Try.results25, go_sem]
    · exact bel2 _ _ _
  · have hd : (x.op == 14) = false := by simpa using h
    have HS : Hid (stayE x n = x) := by show _ = _; unfold stayE; rw [if_neg h]
    clear h
    go_enter Try.func25, Try.ntmps25
    go_wp2
    refine bodyPost_ret (v := IV x) ?_ rfl ⟨by rw [HS.out], ?_⟩
    · simp [results, Try.results25, go_sem]
    · exact bel2 _ _ _
/-- A place's value. -/
abbrev PlV (self args temps first behind : Int) : Value := .agg #[.int .i64 self, .int .i64 args, .int .i64 temps, .int .i64 first, .int .i64 behind]
/-- Fast code's value. -/
abbrev FsV (f : Fst) (kv : Value) : Value := .agg #[.int .i64 f.cls, .string f.name, .int .i64 f.epoch, .int .i64 f.temps, kv]
set_option maxHeartbeats 1000000 in
theorem standIn_any (self args temps first behind : Int) (x : QI) (w : World) (h1 : 0 ≤ args ∧ args ≤ 1000) (h2 : 0 ≤ temps ∧ temps ≤ 1000) (h3 : 0 ≤ first ∧ first ≤ 1000) (ha : (x.op = 2 ∨ x.op = 3 ∨ x.op = 11 ∨ x.op = 15 ∨ x.op = 16) → 0 ≤ x.a ∧ x.a ≤ 1000) :
    Calls Try.prog 41 #[PlV self args temps first behind, IV x] w fun e w' => e = .returned (IV (standE self args temps first behind x)) ∧ Below w.heap.size w w' := by
  obtain ⟨y, HS⟩ : ∃ y, Hid (standE self args temps first behind x = y) := ⟨_, rfl⟩
  have hb3 := fun (u : Array Value) => bel3 w (.cells #[.int .i64 self, .int .i64 args, .int .i64 temps, .int .i64 first, .int .i64 behind] 80) (.cells #[.int .i64 x.op, .int .i64 x.a, .int .i64 x.b, .int .i64 x.c, .string x.name] 69) (.cells u 69)
  go_enter Try.func41, Try.ntmps41
  by_cases g1 : x.op = 1
  · have hd : (x.op == 1) = true := by simpa using g1
    have HR : Hid (standE self args temps first behind x = ins 3 self 0 0) := by show _ = _; unfold standE; rw [if_pos g1]
    clear g1 ha
    go_wp2
    refine bodyPost_ret (v := IV (ins 3 self 0 0)) ?_ rfl ⟨by rw [HR.out], hb3 _⟩
    simp [results, Try.results41, go_sem]
  have d1 : (x.op == 1) = false := by simpa using g1
  by_cases g2 : x.op = 2
  · have hd : (x.op == 2) = true := by simpa using g2
    have HR : Hid (standE self args temps first behind x = ins 3 (args + x.a) 0 0) := by show _ = _; unfold standE; rw [if_neg g1, if_pos g2]
    have hw : IntKind.i64.wrap (args + x.a) = args + x.a := by have := ha (Or.inl g2); exact wrap_of (by omega) (by omega)
    clear g1 g2 ha
    go_wp2
    refine bodyPost_ret (v := IV (ins 3 (args + x.a) 0 0)) ?_ rfl ⟨by rw [HR.out], hb3 _⟩
    simp [results, Try.results41, go_sem]
  have d2 : (x.op == 2) = false := by simpa using g2
  by_cases g3 : x.op = 3
  · have hd : (x.op == 3) = true := by simpa using g3
    have HR : Hid (standE self args temps first behind x = ins x.op (temps + x.a) 0 0) := by show _ = _; unfold standE; rw [if_neg g1, if_neg g2, if_pos (Or.inl g3)]
    have hw : IntKind.i64.wrap (temps + x.a) = temps + x.a := by have := ha (Or.inr (Or.inl g3)); exact wrap_of (by omega) (by omega)
    clear g1 g2 g3 ha
    go_wp2
    refine bodyPost_ret (v := IV (ins x.op (temps + x.a) 0 0)) ?_ rfl ⟨by rw [HR.out], hb3 _⟩
    simp [results, Try.results41, go_sem]
  have d3 : (x.op == 3) = false := by simpa using g3
  by_cases g11 : x.op = 11
  · have hd : (x.op == 11) = true := by simpa using g11
    have HR : Hid (standE self args temps first behind x = ins x.op (temps + x.a) 0 0) := by show _ = _; unfold standE; rw [if_neg g1, if_neg g2, if_pos (Or.inr g11)]
    have hw : IntKind.i64.wrap (temps + x.a) = temps + x.a := by have := ha (Or.inr (Or.inr (Or.inl g11))); exact wrap_of (by omega) (by omega)
    clear g1 g2 g3 g11 ha
    go_wp2
    refine bodyPost_ret (v := IV (ins x.op (temps + x.a) 0 0)) ?_ rfl ⟨by rw [HR.out], hb3 _⟩
    simp [results, Try.results41, go_sem]
  have d11 : (x.op == 11) = false := by simpa using g11
  by_cases g4 : x.op = 4
  · have hd : (x.op == 4) = true := by simpa using g4
    have HR : Hid (standE self args temps first behind x = ins 19 self x.a 0) := by show _ = _; unfold standE; rw [if_neg g1, if_neg g2, if_neg (by omega), if_pos g4]
    clear g1 g2 g3 g11 g4 ha
    go_wp2
    refine bodyPost_ret (v := IV (ins 19 self x.a 0)) ?_ rfl ⟨by rw [HR.out], hb3 _⟩
    simp [results, Try.results41, go_sem]
  have d4 : (x.op == 4) = false := by simpa using g4
  by_cases g12 : x.op = 12
  · have hd : (x.op == 12) = true := by simpa using g12
    have HR : Hid (standE self args temps first behind x = ins 20 self x.a 0) := by show _ = _; unfold standE; rw [if_neg g1, if_neg g2, if_neg (by omega), if_neg g4, if_pos g12]
    clear g1 g2 g3 g11 g4 g12 ha
    go_wp2
    refine bodyPost_ret (v := IV (ins 20 self x.a 0)) ?_ rfl ⟨by rw [HR.out], hb3 _⟩
    simp [results, Try.results41, go_sem]
  have d12 : (x.op == 12) = false := by simpa using g12
  by_cases g15 : x.op = 15
  · have hd : (x.op == 15) = true := by simpa using g15
    have HR : Hid (standE self args temps first behind x = ins x.op (first + x.a) 0 0) := by show _ = _; unfold standE; rw [if_neg g1, if_neg g2, if_neg (by omega), if_neg g4, if_neg g12, if_pos (Or.inl g15)]
    have hw : IntKind.i64.wrap (first + x.a) = first + x.a := by have := ha (Or.inr (Or.inr (Or.inr (Or.inl g15)))); exact wrap_of (by omega) (by omega)
    clear g1 g2 g3 g11 g4 g12 g15 ha
    go_wp2
    refine bodyPost_ret (v := IV (ins x.op (first + x.a) 0 0)) ?_ rfl ⟨by rw [HR.out], hb3 _⟩
    simp [results, Try.results41, go_sem]
  have d15 : (x.op == 15) = false := by simpa using g15
  by_cases g16 : x.op = 16
  · have hd : (x.op == 16) = true := by simpa using g16
    have HR : Hid (standE self args temps first behind x = ins x.op (first + x.a) 0 0) := by show _ = _; unfold standE; rw [if_neg g1, if_neg g2, if_neg (by omega), if_neg g4, if_neg g12, if_pos (Or.inr g16)]
    have hw : IntKind.i64.wrap (first + x.a) = first + x.a := by have := ha (Or.inr (Or.inr (Or.inr (Or.inr g16)))); exact wrap_of (by omega) (by omega)
    clear g1 g2 g3 g11 g4 g12 g15 g16 ha
    go_wp2
    refine bodyPost_ret (v := IV (ins x.op (first + x.a) 0 0)) ?_ rfl ⟨by rw [HR.out], hb3 _⟩
    simp [results, Try.results41, go_sem]
  have d16 : (x.op == 16) = false := by simpa using g16
  by_cases g17 : x.op = 17
  · have hd : (x.op == 17) = true := by simpa using g17
    have HR : Hid (standE self args temps first behind x = ins 15 behind 0 0) := by show _ = _; unfold standE; rw [if_neg g1, if_neg g2, if_neg (by omega), if_neg g4, if_neg g12, if_neg (by omega), if_pos g17]
    clear g1 g2 g3 g11 g4 g12 g15 g16 g17 ha
    go_wp2
    refine bodyPost_ret (v := IV (ins 15 behind 0 0)) ?_ rfl ⟨by rw [HR.out], hb3 _⟩
    simp [results, Try.results41, go_sem]
  have d17 : (x.op == 17) = false := by simpa using g17
  have HR : Hid (standE self args temps first behind x = x) := by show _ = _; unfold standE; rw [if_neg g1, if_neg g2, if_neg (by omega), if_neg g4, if_neg g12, if_neg (by omega), if_neg g17]
  clear g1 g2 g3 g11 g4 g12 g15 g16 g17 ha
  go_wp2
  refine bodyPost_ret (v := IV x) ?_ rfl ⟨by rw [HR.out], hb3 _⟩
  simp [results, Try.results41, go_sem]
end Go.Proofs.Ytlekfiglefopgaa
