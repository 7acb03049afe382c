/- Sites, lines, tallies and cells as they lie in memory; copies of lines; the first of a row of which something holds. -/
import Derived.Test.YtlekfiglefopgaaCd
namespace Go.Proofs.Ytlekfiglefopgaa
open Go.ChangeShapes Go.WideShapes Go.ChangeAt Go.RowKit
set_option linter.unusedSimpArgs false
set_option linter.unusedVariables false
set_option maxRecDepth 8000

structure QS where
  cls : Int
  name : ByteArray
  at' : Int
structure QL where
  cls : Int
  found : Int
structure QT where
  site : QS
  lines : List QL
structure QE where
  site : QS
  epoch : Int
  many : Bool
  lines : List QL

def LineC : Lay QL := fun _ _ f x => f 0 = some (.int .i64 x.cls) ∧ f 1 = some (.int .i64 x.found)
abbrev IsLines := IsRow LineC 2 0
def SiteC : Lay QS := fun _ _ f x => f 0 = some (.int .i64 x.cls) ∧ f 1 = some (.string x.name) ∧ f 2 = some (.int .i64 x.at')
abbrev IsSites := IsRow SiteC 3 0
def TallyC : Lay QT := fun P w f x => f 0 = some (.int .i64 x.site.cls) ∧ f 1 = some (.string x.site.name) ∧ f 2 = some (.int .i64 x.site.at') ∧ ∃ v, f 3 = some v ∧ IsLines P w v x.lines
abbrev IsTallies := IsRow TallyC 4 0
def CellC : Lay QE := fun P w f x => f 0 = some (.int .i64 x.site.cls) ∧ f 1 = some (.string x.site.name) ∧ f 2 = some (.int .i64 x.site.at') ∧ f 3 = some (.int .i64 x.epoch) ∧ f 4 = some (.bool x.many) ∧ ∃ v, f 5 = some v ∧ IsLines P w v x.lines
abbrev IsCells := IsRow CellC 6 0

theorem goodL : Good LineC 2 where
  move h _ _ hf := ⟨hf 0 (by omega) _ h.1, hf 1 (by omega) _ h.2⟩
  there h k hk := by
    obtain ⟨h0, h1⟩ := h
    match k, hk with
    | 0, _ => exact ⟨_, h0, rfl⟩
    | 1, _ => exact ⟨_, h1, rfl⟩
  pos := by omega
theorem goodS : Good SiteC 3 where
  move h _ _ hf := ⟨hf 0 (by omega) _ h.1, hf 1 (by omega) _ h.2.1, hf 2 (by omega) _ h.2.2⟩
  there h k hk := by
    obtain ⟨h0, h1, h2⟩ := h
    match k, hk with
    | 0, _ => exact ⟨_, h0, rfl⟩
    | 1, _ => exact ⟨_, h1, rfl⟩
    | 2, _ => exact ⟨_, h2, rfl⟩
  pos := by omega
theorem goodT : Good TallyC 4 where
  move h hl hk hf := by
    obtain ⟨h0, h1, h2, v, h5, h6⟩ := h
    exact ⟨hf 0 (by omega) _ h0, hf 1 (by omega) _ h1, hf 2 (by omega) _ h2, v, hf 3 (by omega) _ h5, h6.keep goodL hk hl⟩
  there h k hk := by
    obtain ⟨h0, h1, h2, v, h5, h6⟩ := h
    match k, hk with
    | 0, _ => exact ⟨_, h0, rfl⟩
    | 1, _ => exact ⟨_, h1, rfl⟩
    | 2, _ => exact ⟨_, h2, rfl⟩
    | 3, _ => exact ⟨_, h5, isRow_one h6⟩
  pos := by omega
theorem goodE : Good CellC 6 where
  move h hl hk hf := by
    obtain ⟨h0, h1, h2, h3, h4, v, h5, h6⟩ := h
    exact ⟨hf 0 (by omega) _ h0, hf 1 (by omega) _ h1, hf 2 (by omega) _ h2, hf 3 (by omega) _ h3, hf 4 (by omega) _ h4, v, hf 5 (by omega) _ h5, h6.keep goodL hk hl⟩
  there h k hk := by
    obtain ⟨h0, h1, h2, h3, h4, v, h5, h6⟩ := h
    match k, hk with
    | 0, _ => exact ⟨_, h0, rfl⟩
    | 1, _ => exact ⟨_, h1, rfl⟩
    | 2, _ => exact ⟨_, h2, rfl⟩
    | 3, _ => exact ⟨_, h3, rfl⟩
    | 4, _ => exact ⟨_, h4, rfl⟩
    | 5, _ => exact ⟨_, h5, isRow_one h6⟩
  pos := by omega

/-- A site's value; a line's. -/
abbrev SV (x : QS) : Value := .agg #[.int .i64 x.cls, .string x.name, .int .i64 x.at']
abbrev LV (x : QL) : Value := .agg #[.int .i64 x.cls, .int .i64 x.found]
/-- A site lies in block b. -/
structure SiteAt (w : World) (b : Nat) (x : QS) : Prop where
  c0 : w.cell? ⟨b, 0, none⟩ = some (.int .i64 x.cls)
  c1 : w.cell? ⟨b, 1, none⟩ = some (.string x.name)
  c2 : w.cell? ⟨b, 2, none⟩ = some (.int .i64 x.at')
theorem SiteAt.later {w w' : World} {b : Nat} {x : QS} (h : SiteAt w b x) (hb : Below w.heap.size w w') : SiteAt w' b x := ⟨cell_later hb h.c0, cell_later hb h.c1, cell_later hb h.c2⟩
theorem siteNew (w : World) (x : QS) (t : TypeId) : SiteAt (w.alloc (.cells #[.int .i64 x.cls, .string x.name, .int .i64 x.at'] t)) w.heap.size x := ⟨by rw [cell_new _ _ _ _ rfl]; rfl, by rw [cell_new _ _ _ _ rfl]; rfl, by rw [cell_new _ _ _ _ rfl]; rfl⟩

/-- Sites are the same if all their parts are. -/
def eqS (a b : QS) : Bool := a.cls == b.cls && (eqN a.name b.name && a.at' == b.at')

theorem eqlS (x y : QS) (w : World) : (binOp .eql 55 (SV x) (SV y)).run Try.prog w = .ok (.bool (eqS x y)) w := by
  have u3 := Try.underlying3
  have a3 := Try.isAgg3
  have z3 := Try.sizeOf3
  have u9 := Try.underlying9
  have a9 := Try.isAgg9
  have z9 := Try.sizeOf9
  have hS : Try.prog.underlying 55 = some (.struct (Try.prog.fieldsOf 55)) := by kernel_rfl
  have hp : Try.prog.stoodInHeld 55 = false := by kernel_rfl
  rw [run_eql_struct, show (10000 : Nat) = 9999 + 1 from rfl, run_equalIn_struct w 9999 55 _ _ hS hp]
  simp only [Program.fieldsOf, Try.underlying55]
  go_simp
  unfold eqS eqN
  by_cases h1 : x.cls = y.cls <;> by_cases h2 : x.name.toList = y.name.toList <;> by_cases h3 : x.at' = y.at' <;> simp [h1, h2, h3]
theorem neqS (x y : QS) (w : World) : (binOp .neq 55 (SV x) (SV y)).run Try.prog w = .ok (.bool (!eqS x y)) w := by
  have u3 := Try.underlying3
  have a3 := Try.isAgg3
  have z3 := Try.sizeOf3
  have u9 := Try.underlying9
  have a9 := Try.isAgg9
  have z9 := Try.sizeOf9
  have hS : Try.prog.underlying 55 = some (.struct (Try.prog.fieldsOf 55)) := by kernel_rfl
  have hp : Try.prog.stoodInHeld 55 = false := by kernel_rfl
  rw [run_neq_struct, show (10000 : Nat) = 9999 + 1 from rfl, run_equalIn_struct w 9999 55 _ _ hS hp]
  simp only [Program.fieldsOf, Try.underlying55]
  go_simp
  unfold eqS eqN
  by_cases h1 : x.cls = y.cls <;> by_cases h2 : x.name.toList = y.name.toList <;> by_cases h3 : x.at' = y.at' <;> simp [h1, h2, h3]
theorem eqN_iff (a b : ByteArray) : eqN a b = true ↔ a = b := by
  unfold eqN
  rw [ByteArray.toList_eq, ByteArray.toList_eq]
  obtain ⟨⟨x⟩⟩ := a
  obtain ⟨⟨y⟩⟩ := b
  simp
theorem eqS_iff (a b : QS) : eqS a b = true ↔ a = b := by
  unfold eqS
  obtain ⟨a1, a2, a3⟩ := a
  obtain ⟨b1, b2, b3⟩ := b
  simp [eqN_iff]

theorem info60 : (Try.prog.info? 60).map (fun i => (i.zero, i.size, i.bytes)) = some (some (.agg #[.int .i64 0, .int .i64 0]), 2, 16) := by kernel_rfl
theorem info60s : (Try.prog.info? 60).map (·.size) = some 2 := by kernel_rfl
theorem make_big {T e : TypeId} {zs : Array Value} {sz by' : Nat} (hu : Try.prog.underlying T = some (.slice e)) (hI : (Try.prog.info? e).map (fun i => (i.zero, i.size, i.bytes)) = some (some (.agg zs), sz, by')) (hp : 0 < by') (n : Nat) (hb : n * by' ≤ 281474976710656) (hc : (Value.agg zs).cells = zs) (w : World) : (Instr.makeSlice T (.int .i64 (n : Int)) (.int .i64 (n : Int))).run Try.prog w = .ok (.slice (some ⟨w.heap.size, 0, none⟩) n n) (w.alloc (.cells (madeCells zs (n * sz)) e)) := by
  obtain ⟨i0, hi, hz0, hz1, hz2⟩ := info_parts hI
  have hn : n ≤ n * by' := Nat.le_mul_of_pos_right _ hp
  have := run_make (P := Try.prog) w T e i0 _ hu hi hz0 .i64 .i64 n n (by omega) (by omega) (by rw [hz2]; rw [Nat.mul_comm] at *; omega) (by omega)
  rw [this, hz1, hc]
  simp
theorem make_lines (n : Nat) (hb : n * 16 ≤ 281474976710656) : MadeAt 56 60 #[.int .i64 0, .int .i64 0] 2 n := fun w => make_big Try.underlying56 info60 (by omega) n hb rfl w

/-- A tally's value; a cell's. -/
abbrev TV (x : QT) (lv : Value) : Value := .agg #[.int .i64 x.site.cls, .string x.site.name, .int .i64 x.site.at', lv]
abbrev EV (x : QE) (lv : Value) : Value := .agg #[.int .i64 x.site.cls, .string x.site.name, .int .i64 x.site.at', .int .i64 x.epoch, .bool x.many, lv]

end Go.Proofs.Ytlekfiglefopgaa
