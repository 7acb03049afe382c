/- Sites, lines, tallies and cells as they lie in memory; copies of lines; the first of a row of which something holds. -/
import Derived.Test.YtdfbgpiikeheiaaCd
namespace Go.Proofs.Ytdfbgpiikeheiaa
open Go.ChangeShapes Go.WideShapes Go.ChangeAt Go.RowKit
set_option linter.unusedSimpArgs false
set_option linter.unusedVariables false

structure QS where
  cls : Int
  name : ByteArray
  at' : Int
structure QL where
  cls : Int
  found : Int
structure QT where
  site : QS
  lines : List QL
structure QE where
  site : QS
  epoch : Int
  many : Bool
  lines : List QL

def LineC : Lay QL := fun _ _ f x => f 0 = some (.int .i64 x.cls) ∧ f 1 = some (.int .i64 x.found)
abbrev IsLines := IsRow LineC 2 0
def SiteC : Lay QS := fun _ _ f x => f 0 = some (.int .i64 x.cls) ∧ f 1 = some (.string x.name) ∧ f 2 = some (.int .i64 x.at')
abbrev IsSites := IsRow SiteC 3 0
def TallyC : Lay QT := fun P w f x => f 0 = some (.int .i64 x.site.cls) ∧ f 1 = some (.string x.site.name) ∧ f 2 = some (.int .i64 x.site.at') ∧ ∃ v, f 3 = some v ∧ IsLines P w v x.lines
abbrev IsTallies := IsRow TallyC 4 0
def CellC : Lay QE := fun P w f x => f 0 = some (.int .i64 x.site.cls) ∧ f 1 = some (.string x.site.name) ∧ f 2 = some (.int .i64 x.site.at') ∧ f 3 = some (.int .i64 x.epoch) ∧ f 4 = some (.bool x.many) ∧ ∃ v, f 5 = some v ∧ IsLines P w v x.lines
abbrev IsCells := IsRow CellC 6 0

theorem goodL : Good LineC 2 where
  move h _ _ hf := ⟨hf 0 (by omega) _ h.1, hf 1 (by omega) _ h.2⟩
  there h k hk := by
    obtain ⟨h0, h1⟩ := h
    match k, hk with
    | 0, _ => exact ⟨_, h0, rfl⟩
    | 1, _ => exact ⟨_, h1, rfl⟩
  pos := by omega
theorem goodS : Good SiteC 3 where
  move h _ _ hf := ⟨hf 0 (by omega) _ h.1, hf 1 (by omega) _ h.2.1, hf 2 (by omega) _ h.2.2⟩
  there h k hk := by
    obtain ⟨h0, h1, h2⟩ := h
    match k, hk with
    | 0, _ => exact ⟨_, h0, rfl⟩
    | 1, _ => exact ⟨_, h1, rfl⟩
    | 2, _ => exact ⟨_, h2, rfl⟩
  pos := by omega
theorem goodT : Good TallyC 4 where
  move h hl hk hf := by
    obtain ⟨h0, h1, h2, v, h5, h6⟩ := h
    exact ⟨hf 0 (by omega) _ h0, hf 1 (by omega) _ h1, hf 2 (by omega) _ h2, v, hf 3 (by omega) _ h5, h6.keep goodL hk hl⟩
  there h k hk := by
    obtain ⟨h0, h1, h2, v, h5, h6⟩ := h
    match k, hk with
    | 0, _ => exact ⟨_, h0, rfl⟩
    | 1, _ => exact ⟨_, h1, rfl⟩
    | 2, _ => exact ⟨_, h2, rfl⟩
    | 3, _ => exact ⟨_, h5, isRow_one h6⟩
  pos := by omega
theorem goodE : Good CellC 6 where
  move h hl hk hf := by
    obtain ⟨h0, h1, h2, h3, h4, v, h5, h6⟩ := h
    exact ⟨hf 0 (by omega) _ h0, hf 1 (by omega) _ h1, hf 2 (by omega) _ h2, hf 3 (by omega) _ h3, hf 4 (by omega) _ h4, v, hf 5 (by omega) _ h5, h6.keep goodL hk hl⟩
  there h k hk := by
    obtain ⟨h0, h1, h2, h3, h4, v, h5, h6⟩ := h
    match k, hk with
    | 0, _ => exact ⟨_, h0, rfl⟩
    | 1, _ => exact ⟨_, h1, rfl⟩
    | 2, _ => exact ⟨_, h2, rfl⟩
    | 3, _ => exact ⟨_, h3, rfl⟩
    | 4, _ => exact ⟨_, h4, rfl⟩
    | 5, _ => exact ⟨_, h5, isRow_one h6⟩
  pos := by omega

/-- A site's value; a line's. -/
abbrev SV (x : QS) : Value := .agg #[.int .i64 x.cls, .string x.name, .int .i64 x.at']
abbrev LV (x : QL) : Value := .agg #[.int .i64 x.cls, .int .i64 x.found]
/-- A site lies in block b. -/
structure SiteAt (w : World) (b : Nat) (x : QS) : Prop where
  c0 : w.cell? ⟨b, 0, none⟩ = some (.int .i64 x.cls)
  c1 : w.cell? ⟨b, 1, none⟩ = some (.string x.name)
  c2 : w.cell? ⟨b, 2, none⟩ = some (.int .i64 x.at')
theorem SiteAt.later {w w' : World} {b : Nat} {x : QS} (h : SiteAt w b x) (hb : Below w.heap.size w w') : SiteAt w' b x := ⟨cell_later hb h.c0, cell_later hb h.c1, cell_later hb h.c2⟩
theorem siteNew (w : World) (x : QS) (t : TypeId) : SiteAt (w.alloc (.cells #[.int .i64 x.cls, .string x.name, .int .i64 x.at'] t)) w.heap.size x := ⟨by rw [cell_new _ _ _ _ rfl]; rfl, by rw [cell_new _ _ _ _ rfl]; rfl, by rw [cell_new _ _ _ _ rfl]; rfl⟩

/-- Sites are the same if all their parts are. -/
def eqS (a b : QS) : Bool := a.cls == b.cls && (eqN a.name b.name && a.at' == b.at')

theorem eqlS (x y : QS) (w : World) : (binOp .eql 42 (SV x) (SV y)).run Try.prog w = .ok (.bool (eqS x y)) w := by
  have u3 := Try.underlying3
  have a3 := Try.isAgg3
  have z3 := Try.sizeOf3
  have u9 := Try.underlying9
  have a9 := Try.isAgg9
  have z9 := Try.sizeOf9
  have hS : Try.prog.underlying 42 = some (.struct (Try.prog.fieldsOf 42)) := by kernel_rfl
  have hp : Try.prog.stoodInHeld 42 = false := by kernel_rfl
  rw [run_eql_struct, show (10000 : Nat) = 9999 + 1 from rfl, run_equalIn_struct w 9999 42 _ _ hS hp]
  simp only [Program.fieldsOf, Try.underlying42]
  go_simp
  unfold eqS eqN
  by_cases h1 : x.cls = y.cls <;> by_cases h2 : x.name.toList = y.name.toList <;> by_cases h3 : x.at' = y.at' <;> simp [h1, h2, h3]
theorem neqS (x y : QS) (w : World) : (binOp .neq 42 (SV x) (SV y)).run Try.prog w = .ok (.bool (!eqS x y)) w := by
  have u3 := Try.underlying3
  have a3 := Try.isAgg3
  have z3 := Try.sizeOf3
  have u9 := Try.underlying9
  have a9 := Try.isAgg9
  have z9 := Try.sizeOf9
  have hS : Try.prog.underlying 42 = some (.struct (Try.prog.fieldsOf 42)) := by kernel_rfl
  have hp : Try.prog.stoodInHeld 42 = false := by kernel_rfl
  rw [run_neq_struct, show (10000 : Nat) = 9999 + 1 from rfl, run_equalIn_struct w 9999 42 _ _ hS hp]
  simp only [Program.fieldsOf, Try.underlying42]
  go_simp
  unfold eqS eqN
  by_cases h1 : x.cls = y.cls <;> by_cases h2 : x.name.toList = y.name.toList <;> by_cases h3 : x.at' = y.at' <;> simp [h1, h2, h3]
theorem neqL (x y : QL) (w : World) : (binOp .neq 165 (LV x) (LV y)).run Try.prog w = .ok (.bool (!(x.cls == y.cls && x.found == y.found))) w := by
  have u3 := Try.underlying3
  have a3 := Try.isAgg3
  have z3 := Try.sizeOf3
  have hS : Try.prog.underlying 165 = some (.struct (Try.prog.fieldsOf 165)) := by kernel_rfl
  have hp : Try.prog.stoodInHeld 165 = false := by kernel_rfl
  rw [run_neq_struct, show (10000 : Nat) = 9999 + 1 from rfl, run_equalIn_struct w 9999 165 _ _ hS hp]
  simp only [Program.fieldsOf, Try.underlying165]
  go_simp
  by_cases h1 : x.cls = y.cls <;> by_cases h2 : x.found = y.found <;> simp [h1, h2]
theorem eqN_iff (a b : ByteArray) : eqN a b = true ↔ a = b := by
  unfold eqN
  rw [ByteArray.toList_eq, ByteArray.toList_eq]
  obtain ⟨⟨x⟩⟩ := a
  obtain ⟨⟨y⟩⟩ := b
  simp
theorem eqS_iff (a b : QS) : eqS a b = true ↔ a = b := by
  unfold eqS
  obtain ⟨a1, a2, a3⟩ := a
  obtain ⟨b1, b2, b3⟩ := b
  simp [eqN_iff]

theorem info165 : (Try.prog.info? 165).map (fun i => (i.zero, i.size, i.bytes)) = some (some (.agg #[.int .i64 0, .int .i64 0]), 2, 16) := by kernel_rfl
theorem info165s : (Try.prog.info? 165).map (·.size) = some 2 := by kernel_rfl
theorem make_big {T e : TypeId} {zs : Array Value} {sz by' : Nat} (hu : Try.prog.underlying T = some (.slice e)) (hI : (Try.prog.info? e).map (fun i => (i.zero, i.size, i.bytes)) = some (some (.agg zs), sz, by')) (hp : 0 < by') (n : Nat) (hb : n * by' ≤ 281474976710656) (hc : (Value.agg zs).cells = zs) (w : World) : (Instr.makeSlice T (.int .i64 (n : Int)) (.int .i64 (n : Int))).run Try.prog w = .ok (.slice (some ⟨w.heap.size, 0, none⟩) n n) (w.alloc (.cells (madeCells zs (n * sz)) e)) := by
  obtain ⟨i0, hi, hz0, hz1, hz2⟩ := info_parts hI
  have hn : n ≤ n * by' := Nat.le_mul_of_pos_right _ hp
  have := run_make (P := Try.prog) w T e i0 _ hu hi hz0 .i64 .i64 n n (by omega) (by omega) (by rw [hz2]; rw [Nat.mul_comm] at *; omega) (by omega)
  rw [this, hz1, hc]
  simp
theorem make_lines (n : Nat) (hb : n * 16 ≤ 281474976710656) : MadeAt 43 165 #[.int .i64 0, .int .i64 0] 2 n := fun w => make_big Try.underlying43 info165 (by omega) n hb rfl w

set_option maxHeartbeats 400000 in
theorem ownLinesT_any {P : Nat → Prop} (xs : List QL) (v : Value) (w : World) (hh : IsLines P w v xs) (hby : xs.length * 16 ≤ 281474976710656) : Calls Try.prog 49 #[v] w fun e w' => ∃ g, e = .returned (.slice (some ⟨g, 0, none⟩) xs.length xs.length) ∧ OwnSt LineC 2 165 w' g xs xs.length ∧ w.heap.size ≤ g ∧ Below w.heap.size w w' := by
  obtain ⟨ad, cap, rfl, hl, hcap, -, hrow⟩ := hh
  have hmk := make_lines xs.length hby
  obtain ⟨cs, hcs, hsrc⟩ := hrow.cells goodL
  obtain ⟨w1, hcp, h2, h3⟩ := run_copy_whole (P := Try.prog) (w.alloc (.cells (madeCells #[.int .i64 0, .int .i64 0] (xs.length * 2)) 165)) 43 43 3 165 2 w.heap.size xs.length xs.length ad cap (madeCells #[.int .i64 0, .int .i64 0] (xs.length * 2)) 165 cs Try.underlying43 info165s (heap_alloc_new w _) hcs.1
    (fun j v hj => by obtain ⟨a, e, h⟩ := hsrc j v hj; exact ⟨a, e, cell_later (bel1 _ _) h⟩) (size_madeCells _ _) (hcs.all goodL)
  have HB := h3 w.heap.size w (bel1 _ _) (Nat.le_refl _)
  have HV : Hid (OwnSt LineC 2 165 w1 w.heap.size xs xs.length) := by
    refine ⟨⟨cs.toArray, h2, by simpa using hcs.1⟩, fun i x hi hx => ?_⟩
    have := hcs.2 i x hx
    exact ⟨by show w1.cell? _ = _; rw [cell_of_row _ _ _ _ _ _ h2]; simpa using this.1, by show w1.cell? _ = _; rw [cell_of_row _ _ _ _ _ _ h2]; simpa using this.2⟩
  clear h2 h3 hrow hcs hsrc
  go_enter Try.func49, Try.ntmps49
  go_wp2
  go_ret
  exact ⟨_, rfl, HV.out, Nat.le_refl _, HB⟩

set_option maxHeartbeats 400000 in
theorem ownLinesE_any {P : Nat → Prop} (xs : List QL) (v : Value) (w : World) (hh : IsLines P w v xs) (hby : xs.length * 16 ≤ 281474976710656) : Calls Try.prog 48 #[v] w fun e w' => ∃ g, e = .returned (.slice (some ⟨g, 0, none⟩) xs.length xs.length) ∧ OwnSt LineC 2 165 w' g xs xs.length ∧ w.heap.size ≤ g ∧ Below w.heap.size w w' := by
  obtain ⟨ad, cap, rfl, hl, hcap, -, hrow⟩ := hh
  have hmk := make_lines xs.length hby
  obtain ⟨cs, hcs, hsrc⟩ := hrow.cells goodL
  obtain ⟨w1, hcp, h2, h3⟩ := run_copy_whole (P := Try.prog) (w.alloc (.cells (madeCells #[.int .i64 0, .int .i64 0] (xs.length * 2)) 165)) 43 43 3 165 2 w.heap.size xs.length xs.length ad cap (madeCells #[.int .i64 0, .int .i64 0] (xs.length * 2)) 165 cs Try.underlying43 info165s (heap_alloc_new w _) hcs.1
    (fun j v hj => by obtain ⟨a, e, h⟩ := hsrc j v hj; exact ⟨a, e, cell_later (bel1 _ _) h⟩) (size_madeCells _ _) (hcs.all goodL)
  have HB := h3 w.heap.size w (bel1 _ _) (Nat.le_refl _)
  have HV : Hid (OwnSt LineC 2 165 w1 w.heap.size xs xs.length) := by
    refine ⟨⟨cs.toArray, h2, by simpa using hcs.1⟩, fun i x hi hx => ?_⟩
    have := hcs.2 i x hx
    exact ⟨by show w1.cell? _ = _; rw [cell_of_row _ _ _ _ _ _ h2]; simpa using this.1, by show w1.cell? _ = _; rw [cell_of_row _ _ _ _ _ _ h2]; simpa using this.2⟩
  clear h2 h3 hrow hcs hsrc
  go_enter Try.func48, Try.ntmps48
  go_wp2
  go_ret
  exact ⟨_, rfl, HV.out, Nat.le_refl _, HB⟩

/-- A tally's value; a cell's. -/
abbrev TV (x : QT) (lv : Value) : Value := .agg #[.int .i64 x.site.cls, .string x.site.name, .int .i64 x.site.at', lv]
abbrev EV (x : QE) (lv : Value) : Value := .agg #[.int .i64 x.site.cls, .string x.site.name, .int .i64 x.site.at', .int .i64 x.epoch, .bool x.many, lv]

set_option maxHeartbeats 1000000 in
theorem index57_any {P : Nat → Prop} (cap' : Value) (p : QL → Bool) (xs : List QL) (v : Value) (w : World) (hh : IsRow LineC 2 0 P w v xs)
    (hF : ∀ (x : QL)  (w' : World), Below w.heap.size w w' → Calls Try.prog 93 #[LV x, cap'] w' fun e w'' => e = .returned (.bool (p x)) ∧ Below w'.heap.size w' w'') :
    Calls Try.prog 92 #[v, .func (.func 93) #[] #[cap']] w fun e w' => e = .returned (.int .i64 (findI p xs)) ∧ Below w.heap.size w w' := by
  obtain ⟨ad, cap, rfl, hl, hcap, -, hrow⟩ := hh
  unfold maxLen at hcap
  go_enter Try.func92, Try.ntmps92
  go_wp2
  go_loopg [8] xs.length (fun g c wr => ∃ j : Nat, j + g = xs.length ∧ c = .int .i64 j ∧ Below w.heap.size w wr ∧ ∀ i y, i < j → xs[i]? = some y → p y = false)
  case atStart => exact ⟨0, by omega, rfl, Below.refl _ _, fun i y hi => by omega⟩
  case round =>
    obtain ⟨j, hj, rfl, hbel, hno⟩ := hrel
    have HN : Hid (∀ i y, i < j → xs[i]? = some y → p y = false) := hno
    clear hno
    by_cases hlt : j < xs.length
    · obtain ⟨b, o, rfl, -, hv0, hv1⟩ := hrow j xs[j] (by simp [hlt])
      have hxj : Hid (xs[j]? = some xs[j]) := by show _ = _; simp [hlt]
      generalize xs[j] = x at *
      simp only [Nat.add_zero] at hv0
      have u0 := cell_later hbel hv0
      have u1 := cell_later hbel hv1
      clear hv0 hv1 hrow
      have hj1 : (j : Int) < (xs.length : Int) := by omega
      have hj0 : (0 : Int) ≤ (j : Int) := by omega
      go_wp2_with fail
      refine (hF x  _ hbel).mono ?_
      rintro e w1 ⟨rfl, hb⟩
      by_cases hp : p x = true
      · go_wp2
        go_ret
        exact ⟨ret_i (findI_at hxj.out hp HN.out).symm, nstep hbel hb⟩
      · have hp' : p x = false := by simpa using hp
        clear hp
        go_wp2
        go_roundg (gk - 1)
        case measure => omega
        case rel =>
          refine ⟨j + 1, by omega, by go_num, nstep hbel hb, fun i y hi hy => ?_⟩
          by_cases hij : i = j
          · subst hij; rw [hxj.out] at hy; cases hy; exact hp'
          · exact HN.out i y (by omega) hy
    · obtain rfl : j = xs.length := by omega
      go_wp2
      go_ret
      exact ⟨ret_i (findI_none fun i y hy => HN.out i y (lt_of_get hy) hy).symm, hbel⟩

set_option maxHeartbeats 1000000 in
theorem index51_any {P : Nat → Prop} (cap' : Value) (p : QL → Bool) (xs : List QL) (v : Value) (w : World) (hh : IsRow LineC 2 0 P w v xs)
    (hF : ∀ (x : QL)  (w' : World), Below w.heap.size w w' → Calls Try.prog 106 #[LV x, cap'] w' fun e w'' => e = .returned (.bool (p x)) ∧ Below w'.heap.size w' w'') :
    Calls Try.prog 92 #[v, .func (.func 106) #[] #[cap']] w fun e w' => e = .returned (.int .i64 (findI p xs)) ∧ Below w.heap.size w w' := by
  obtain ⟨ad, cap, rfl, hl, hcap, -, hrow⟩ := hh
  unfold maxLen at hcap
  go_enter Try.func92, Try.ntmps92
  go_wp2
  go_loopg [8] xs.length (fun g c wr => ∃ j : Nat, j + g = xs.length ∧ c = .int .i64 j ∧ Below w.heap.size w wr ∧ ∀ i y, i < j → xs[i]? = some y → p y = false)
  case atStart => exact ⟨0, by omega, rfl, Below.refl _ _, fun i y hi => by omega⟩
  case round =>
    obtain ⟨j, hj, rfl, hbel, hno⟩ := hrel
    have HN : Hid (∀ i y, i < j → xs[i]? = some y → p y = false) := hno
    clear hno
    by_cases hlt : j < xs.length
    · obtain ⟨b, o, rfl, -, hv0, hv1⟩ := hrow j xs[j] (by simp [hlt])
      have hxj : Hid (xs[j]? = some xs[j]) := by show _ = _; simp [hlt]
      generalize xs[j] = x at *
      simp only [Nat.add_zero] at hv0
      have u0 := cell_later hbel hv0
      have u1 := cell_later hbel hv1
      clear hv0 hv1 hrow
      have hj1 : (j : Int) < (xs.length : Int) := by omega
      have hj0 : (0 : Int) ≤ (j : Int) := by omega
      go_wp2_with fail
      refine (hF x  _ hbel).mono ?_
      rintro e w1 ⟨rfl, hb⟩
      by_cases hp : p x = true
      · go_wp2
        go_ret
        exact ⟨ret_i (findI_at hxj.out hp HN.out).symm, nstep hbel hb⟩
      · have hp' : p x = false := by simpa using hp
        clear hp
        go_wp2
        go_roundg (gk - 1)
        case measure => omega
        case rel =>
          refine ⟨j + 1, by omega, by go_num, nstep hbel hb, fun i y hi hy => ?_⟩
          by_cases hij : i = j
          · subst hij; rw [hxj.out] at hy; cases hy; exact hp'
          · exact HN.out i y (by omega) hy
    · obtain rfl : j = xs.length := by omega
      go_wp2
      go_ret
      exact ⟨ret_i (findI_none fun i y hy => HN.out i y (lt_of_get hy) hy).symm, hbel⟩

set_option maxHeartbeats 1000000 in
theorem index44_any {P : Nat → Prop} (cap' : Value) (p : QT → Bool) (xs : List QT) (v : Value) (w : World) (hh : IsRow TallyC 4 0 P w v xs)
    (hF : ∀ (x : QT) (a : Option Addr) (n c : Nat) (w' : World), Below w.heap.size w w' → Calls Try.prog 70 #[TV x (.slice a n c), cap'] w' fun e w'' => e = .returned (.bool (p x)) ∧ Below w'.heap.size w' w'') :
    Calls Try.prog 69 #[v, .func (.func 70) #[] #[cap']] w fun e w' => e = .returned (.int .i64 (findI p xs)) ∧ Below w.heap.size w w' := by
  obtain ⟨ad, cap, rfl, hl, hcap, -, hrow⟩ := hh
  unfold maxLen at hcap
  go_enter Try.func69, Try.ntmps69
  go_wp2
  go_loopg [8] xs.length (fun g c wr => ∃ j : Nat, j + g = xs.length ∧ c = .int .i64 j ∧ Below w.heap.size w wr ∧ ∀ i y, i < j → xs[i]? = some y → p y = false)
  case atStart => exact ⟨0, by omega, rfl, Below.refl _ _, fun i y hi => by omega⟩
  case round =>
    obtain ⟨j, hj, rfl, hbel, hno⟩ := hrel
    have HN : Hid (∀ i y, i < j → xs[i]? = some y → p y = false) := hno
    clear hno
    by_cases hlt : j < xs.length
    · obtain ⟨b, o, rfl, -, hv0, hv1, hv2, sv, hv3, hsl⟩ := hrow j xs[j] (by simp [hlt])
      have hxj : Hid (xs[j]? = some xs[j]) := by show _ = _; simp [hlt]
      generalize xs[j] = x at *
      simp only [Nat.add_zero] at hv0
      have u0 := cell_later hbel hv0
      have u1 := cell_later hbel hv1
      have u2 := cell_later hbel hv2
      have u3 := cell_later hbel hv3
      obtain ⟨ad2, cap2, rfl, -, -, -, -⟩ := id hsl
      clear hv0 hv1 hv2 hv3 hsl hrow
      have hj1 : (j : Int) < (xs.length : Int) := by omega
      have hj0 : (0 : Int) ≤ (j : Int) := by omega
      go_wp2_with fail
      refine (hF x ad2 x.lines.length cap2 _ hbel).mono ?_
      rintro e w1 ⟨rfl, hb⟩
      by_cases hp : p x = true
      · go_wp2
        go_ret
        exact ⟨ret_i (findI_at hxj.out hp HN.out).symm, nstep hbel hb⟩
      · have hp' : p x = false := by simpa using hp
        clear hp
        go_wp2
        go_roundg (gk - 1)
        case measure => omega
        case rel =>
          refine ⟨j + 1, by omega, by go_num, nstep hbel hb, fun i y hi hy => ?_⟩
          by_cases hij : i = j
          · subst hij; rw [hxj.out] at hy; cases hy; exact hp'
          · exact HN.out i y (by omega) hy
    · obtain rfl : j = xs.length := by omega
      go_wp2
      go_ret
      exact ⟨ret_i (findI_none fun i y hy => HN.out i y (lt_of_get hy) hy).symm, hbel⟩

set_option maxHeartbeats 1000000 in
theorem index49_any {P : Nat → Prop} (cap' : Value) (p : QE → Bool) (xs : List QE) (v : Value) (w : World) (hh : IsRow CellC 6 0 P w v xs)
    (hF : ∀ (x : QE) (a : Option Addr) (n c : Nat) (w' : World), Below w.heap.size w w' → Calls Try.prog 105 #[EV x (.slice a n c), cap'] w' fun e w'' => e = .returned (.bool (p x)) ∧ Below w'.heap.size w' w'') :
    Calls Try.prog 104 #[v, .func (.func 105) #[] #[cap']] w fun e w' => e = .returned (.int .i64 (findI p xs)) ∧ Below w.heap.size w w' := by
  obtain ⟨ad, cap, rfl, hl, hcap, -, hrow⟩ := hh
  unfold maxLen at hcap
  go_enter Try.func104, Try.ntmps104
  go_wp2
  go_loopg [8] xs.length (fun g c wr => ∃ j : Nat, j + g = xs.length ∧ c = .int .i64 j ∧ Below w.heap.size w wr ∧ ∀ i y, i < j → xs[i]? = some y → p y = false)
  case atStart => exact ⟨0, by omega, rfl, Below.refl _ _, fun i y hi => by omega⟩
  case round =>
    obtain ⟨j, hj, rfl, hbel, hno⟩ := hrel
    have HN : Hid (∀ i y, i < j → xs[i]? = some y → p y = false) := hno
    clear hno
    by_cases hlt : j < xs.length
    · obtain ⟨b, o, rfl, -, hv0, hv1, hv2, hv3, hv4, sv, hv5, hsl⟩ := hrow j xs[j] (by simp [hlt])
      have hxj : Hid (xs[j]? = some xs[j]) := by show _ = _; simp [hlt]
      generalize xs[j] = x at *
      simp only [Nat.add_zero] at hv0
      have u0 := cell_later hbel hv0
      have u1 := cell_later hbel hv1
      have u2 := cell_later hbel hv2
      have u3 := cell_later hbel hv3
      have u4 := cell_later hbel hv4
      have u5 := cell_later hbel hv5
      obtain ⟨ad2, cap2, rfl, -, -, -, -⟩ := id hsl
      clear hv0 hv1 hv2 hv3 hv4 hv5 hsl hrow
      have hj1 : (j : Int) < (xs.length : Int) := by omega
      have hj0 : (0 : Int) ≤ (j : Int) := by omega
      go_wp2_with fail
      refine (hF x ad2 x.lines.length cap2 _ hbel).mono ?_
      rintro e w1 ⟨rfl, hb⟩
      by_cases hp : p x = true
      · go_wp2
        go_ret
        exact ⟨ret_i (findI_at hxj.out hp HN.out).symm, nstep hbel hb⟩
      · have hp' : p x = false := by simpa using hp
        clear hp
        go_wp2
        go_roundg (gk - 1)
        case measure => omega
        case rel =>
          refine ⟨j + 1, by omega, by go_num, nstep hbel hb, fun i y hi hy => ?_⟩
          by_cases hij : i = j
          · subst hij; rw [hxj.out] at hy; cases hy; exact hp'
          · exact HN.out i y (by omega) hy
    · obtain rfl : j = xs.length := by omega
      go_wp2
      go_ret
      exact ⟨ret_i (findI_none fun i y hy => HN.out i y (lt_of_get hy) hy).symm, hbel⟩

theorem eqLine57_any (x : QL) (b : Nat) (k : Int) (w : World) (hc : w.cell? ⟨b, 0, none⟩ = some (.int .i64 k)) : Calls Try.prog 93 #[LV x, .pointer (some ⟨b, 0, none⟩)] w fun e w' => e = .returned (.bool (x.cls == k)) ∧ Below w.heap.size w w' := by
  have k := fun y => cell_later (bel1 w y) hc
  go_enter Try.func93, Try.ntmps93
  go_wp2
  go_ret
  exact ⟨ret_b rfl, bel1 _ _⟩

theorem eqLine51_any (x : QL) (b : Nat) (k : Int) (w : World) (hc : w.cell? ⟨b, 0, none⟩ = some (.int .i64 k)) : Calls Try.prog 106 #[LV x, .pointer (some ⟨b, 0, none⟩)] w fun e w' => e = .returned (.bool (x.cls == k)) ∧ Below w.heap.size w w' := by
  have k := fun y => cell_later (bel1 w y) hc
  go_enter Try.func106, Try.ntmps106
  go_wp2
  go_ret
  exact ⟨ret_b rfl, bel1 _ _⟩

theorem eqTally_any (x : QT) (a : Option Addr) (n c b : Nat) (s : QS) (w : World) (hc : SiteAt w b s) : Calls Try.prog 70 #[TV x (.slice a n c), .pointer (some ⟨b, 0, none⟩)] w fun e w' => e = .returned (.bool (eqS x.site s)) ∧ Below w.heap.size w w' := by
  have k0 := fun y => cell_later (bel1 w y) hc.c0
  have k1 := fun y => cell_later (bel1 w y) hc.c1
  have k2 := fun y => cell_later (bel1 w y) hc.c2
  have he := fun w => eqlS x.site s w
  go_enter Try.func70, Try.ntmps70
  go_wp2
  go_ret
  exact ⟨ret_b rfl, bel1 _ _⟩

theorem eqCell_any (x : QE) (a : Option Addr) (n c b : Nat) (s : QS) (w : World) (hc : SiteAt w b s) : Calls Try.prog 105 #[EV x (.slice a n c), .pointer (some ⟨b, 0, none⟩)] w fun e w' => e = .returned (.bool (eqS x.site s)) ∧ Below w.heap.size w w' := by
  have k0 := fun y => cell_later (bel1 w y) hc.c0
  have k1 := fun y => cell_later (bel1 w y) hc.c1
  have k2 := fun y => cell_later (bel1 w y) hc.c2
  have he := fun w => eqlS x.site s w
  go_enter Try.func105, Try.ntmps105
  go_wp2
  go_ret
  exact ⟨ret_b rfl, bel1 _ _⟩

end Go.Proofs.Ytdfbgpiikeheiaa
