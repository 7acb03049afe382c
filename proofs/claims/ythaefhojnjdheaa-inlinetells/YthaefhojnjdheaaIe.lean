/- Inline: placeOf, roomFor. -/
import Derived.Test.YthaefhojnjdheaaIc
namespace Go.Proofs.Ythaefhojnjdheaa
open Go.ChangeShapes Go.WideShapes Go.ChangeAt Go.RowKit
set_option linter.unusedSimpArgs false
set_option linter.unusedVariables false
set_option maxRecDepth 8000

theorem fits_sum : ∀ (ps : List Int) (m : Int), (∀ p ∈ ps, 0 ≤ p) → 0 ≤ m → fitsE m ps = decide (ps.sum ≤ m)
  | [], m, _, hm => by simp [fitsE, hm]
  | p :: r, m, h, hm => by
    have hp := h p (by simp)
    have hr : ∀ q ∈ r, 0 ≤ q := fun q hq => h q (by simp [hq])
    have hs : ∀ l : List Int, (∀ q ∈ l, 0 ≤ q) → 0 ≤ l.sum := by
      intro l
      induction l with
      | nil => intro _; simp
      | cons a l ih => intro hl; have := ih fun q hq => hl q (by simp [hq]); have := hl a (by simp); simp; omega
    have h0 := hs r hr
    unfold fitsE
    by_cases hc : m < p
    · rw [if_pos (Or.inr hc)]
      have : ¬ (p :: r).sum ≤ m := by simp; omega
      simp only [this, decide_false]
    · rw [if_neg (by omega), fits_sum r (m - p) hr (by omega)]
      have : (r.sum ≤ m - p) ↔ ((p :: r).sum ≤ m) := by simp; omega
      simp only [this]
theorem ints_made (w : World) (ps : List Int) (t : TypeId) (hl : ps.length ≤ 1000) : IsInts (fun _ => True) (w.alloc (.cells (ps.map (Value.int .i64)).toArray t)) (.slice (some ⟨w.heap.size, 0, none⟩) ps.length ps.length) ps := by
  refine ⟨_, _, rfl, Nat.le_refl _, by unfold maxLen; omega, by omega, fun i x hx => ⟨w.heap.size, 0, rfl, trivial, ?_⟩⟩
  show World.cell? _ ⟨w.heap.size, 0 + i * 1 + 0, none⟩ = _
  rw [cell_new _ _ _ _ rfl]
  simp [hx]
set_option maxHeartbeats 1000000 in
theorem placeOf_any (f : Fst) (a : Option Addr) (n cap : Nat) (leaf : QM) (ka : Option Addr) (kc : Nat) (w : World) (ha : 0 ≤ leaf.args ∧ leaf.args ≤ 4) (ht : 0 ≤ leaf.temps ∧ leaf.temps ≤ 6) (hs : 0 ≤ f.temps ∧ f.temps ≤ 100) (hn : n ≤ 300) (hl60 : leaf.code.length ≤ 60) :
    Calls Try.prog 28 #[FsV f (.slice a n cap), MV leaf (.slice ka leaf.code.length kc)] w fun e w' => e = .returned (PlV f.temps (f.temps + 1) (f.temps + 1 + leaf.args) (firstOf leaf n) (firstOf leaf n + leaf.code.length)) ∧ Below w.heap.size w w' := by
  have h1 : IntKind.i64.wrap (f.temps + 1) = f.temps + 1 := wrap_of (by omega) (by omega)
  have h2 : IntKind.i64.wrap (f.temps + 1 + leaf.args) = f.temps + 1 + leaf.args := wrap_of (by omega) (by omega)
  have h3 : IntKind.i64.wrap ((n : Int) + 3) = (n : Int) + 3 := wrap_of (by omega) (by omega)
  have h4 : IntKind.i64.wrap ((n : Int) + 3 + leaf.args) = (n : Int) + 3 + leaf.args := wrap_of (by omega) (by omega)
  have h5 : IntKind.i64.wrap (2 * leaf.temps) = 2 * leaf.temps := wrap_of (by omega) (by omega)
  have h6 : IntKind.i64.wrap ((n : Int) + 3 + leaf.args + 2 * leaf.temps) = (n : Int) + 3 + leaf.args + 2 * leaf.temps := wrap_of (by omega) (by omega)
  have h7 : IntKind.i64.wrap ((n : Int) + 3 + leaf.args + 2 * leaf.temps + (leaf.code.length : Int)) = (n : Int) + 3 + leaf.args + 2 * leaf.temps + (leaf.code.length : Int) := wrap_of (by omega) (by omega)
  go_enter Try.func28, Try.ntmps28
  go_wp2
  refine bodyPost_ret (v := PlV f.temps (f.temps + 1) (f.temps + 1 + leaf.args) (firstOf leaf n) (firstOf leaf n + leaf.code.length)) ?_ rfl ⟨rfl, ?_⟩
  · simp [results, Try.results28, go_sem, firstOf]
  · exact bel3 _ _ _ _
theorem room_is (n : Nat) (temps : Int) (leaf : QM) (left : Int) (ha : 0 ≤ leaf.args ∧ leaf.args ≤ 4) (ht : 0 ≤ leaf.temps ∧ leaf.temps ≤ 6) (hs : 0 ≤ temps) (hl : 0 ≤ left) : roomE n temps leaf left = (fitsE 240 [(n : Int), 3, leaf.args, leaf.temps, leaf.temps, (leaf.code.length : Int), left] && fitsE 40 [temps, 1, leaf.args, leaf.temps]) := by
  rw [fits_sum _ _ (by intro p hp; simp at hp; rcases hp with rfl | rfl | rfl | rfl | rfl | rfl <;> omega) (by omega), fits_sum _ _ (by intro p hp; simp at hp; rcases hp with rfl | rfl | rfl | rfl <;> omega) (by omega)]
  unfold roomE
  rw [Bool.eq_iff_iff]
  simp
  omega
set_option maxHeartbeats 1000000 in
theorem roomFor_any (f : Fst) (a : Option Addr) (n cap : Nat) (leaf : QM) (ka : Option Addr) (kc : Nat) (left : Int) (w : World) (ha : 0 ≤ leaf.args ∧ leaf.args ≤ 4) (ht : 0 ≤ leaf.temps ∧ leaf.temps ≤ 6) (hs : 0 ≤ f.temps) (hl : 0 ≤ left) :
    Calls Try.prog 25 #[FsV f (.slice a n cap), MV leaf (.slice ka leaf.code.length kc), .int .i64 left] w fun e w' => e = .returned (.bool (roomE n f.temps leaf left)) ∧ Below w.heap.size w w' := by
  have HRM := hid (room_is n f.temps leaf left ha ht hs hl)
  have hb2 := bel2 w (.cells #[.int .i64 f.cls, .string f.name, .int .i64 f.epoch, .int .i64 f.temps, .slice a n cap] 31) (.cells #[.string leaf.name, .int .i64 leaf.args, .int .i64 leaf.temps, .int .i64 leaf.prim, .slice ka leaf.code.length kc] 48)
  have c0 : ((w.alloc (.cells #[.int .i64 f.cls, .string f.name, .int .i64 f.epoch, .int .i64 f.temps, .slice a n cap] 31)).alloc (.cells #[.string leaf.name, .int .i64 leaf.args, .int .i64 leaf.temps, .int .i64 leaf.prim, .slice ka leaf.code.length kc] 48)).cell? ⟨w.heap.size, 4, none⟩ = some (.slice a n cap) := cell_later (bel1 _ _) (cell_new w #[.int .i64 f.cls, .string f.name, .int .i64 f.epoch, .int .i64 f.temps, .slice a n cap] 31 _ rfl 4)
  have c3 : ((w.alloc (.cells #[.int .i64 f.cls, .string f.name, .int .i64 f.epoch, .int .i64 f.temps, .slice a n cap] 31)).alloc (.cells #[.string leaf.name, .int .i64 leaf.args, .int .i64 leaf.temps, .int .i64 leaf.prim, .slice ka leaf.code.length kc] 48)).cell? ⟨w.heap.size, 3, none⟩ = some (.int .i64 f.temps) := cell_later (bel1 _ _) (cell_new w #[.int .i64 f.cls, .string f.name, .int .i64 f.epoch, .int .i64 f.temps, .slice a n cap] 31 _ rfl 3)
  have l1 : ((w.alloc (.cells #[.int .i64 f.cls, .string f.name, .int .i64 f.epoch, .int .i64 f.temps, .slice a n cap] 31)).alloc (.cells #[.string leaf.name, .int .i64 leaf.args, .int .i64 leaf.temps, .int .i64 leaf.prim, .slice ka leaf.code.length kc] 48)).cell? ⟨w.heap.size + 1, 1, none⟩ = some (.int .i64 leaf.args) := cell_new _ _ _ _ (by simp) 1
  have l2 : ((w.alloc (.cells #[.int .i64 f.cls, .string f.name, .int .i64 f.epoch, .int .i64 f.temps, .slice a n cap] 31)).alloc (.cells #[.string leaf.name, .int .i64 leaf.args, .int .i64 leaf.temps, .int .i64 leaf.prim, .slice ka leaf.code.length kc] 48)).cell? ⟨w.heap.size + 1, 2, none⟩ = some (.int .i64 leaf.temps) := cell_new _ _ _ _ (by simp) 2
  have l4 : ((w.alloc (.cells #[.int .i64 f.cls, .string f.name, .int .i64 f.epoch, .int .i64 f.temps, .slice a n cap] 31)).alloc (.cells #[.string leaf.name, .int .i64 leaf.args, .int .i64 leaf.temps, .int .i64 leaf.prim, .slice ka leaf.code.length kc] 48)).cell? ⟨w.heap.size + 1, 4, none⟩ = some (.slice ka leaf.code.length kc) := cell_new _ _ _ _ (by simp) 4
  go_enter Try.func25, Try.ntmps25
  go_upto_region 1 with (fail)
  generalize ((w.alloc (.cells #[.int .i64 f.cls, .string f.name, .int .i64 f.epoch, .int .i64 f.temps, .slice a n cap] 31)).alloc (.cells #[.string leaf.name, .int .i64 leaf.args, .int .i64 leaf.temps, .int .i64 leaf.prim, .slice ka leaf.code.length kc] 48)) = W at *
  go_wp2_with fail
  refine (fits_any [(n : Int), 3, leaf.args, leaf.temps, leaf.temps, (leaf.code.length : Int), left] _ 240 _ (by omega) (ints_made W [(n : Int), 3, leaf.args, leaf.temps, leaf.temps, (leaf.code.length : Int), left] 3 (by simp))).mono ?_
  rintro e w1 ⟨rfl, rfl⟩
  have hb1 := bel1 W (.cells #[.int .i64 (n : Int), .int .i64 3, .int .i64 leaf.args, .int .i64 leaf.temps, .int .i64 leaf.temps, .int .i64 (leaf.code.length : Int), .int .i64 left] 3)
  by_cases h1 : fitsE 240 [(n : Int), 3, leaf.args, leaf.temps, leaf.temps, (leaf.code.length : Int), left] = true
  · have HV : Hid (roomE n f.temps leaf left = fitsE 40 [f.temps, 1, leaf.args, leaf.temps]) := by show _ = _; rw [HRM.out, h1]; rfl
    rw [h1]
    have d3 := cell_later hb1 c3
    have e1 := cell_later hb1 l1
    have e2 := cell_later hb1 l2
    have HB := hid (nstep hb2 hb1)
    clear h1 c0 c3 l1 l2 l4 hb2
    generalize hW1 : W.alloc _ = W1 at *
    go_wp2_with fail
    refine (fits_any [f.temps, 1, leaf.args, leaf.temps] _ 40 _ (by omega) (ints_made W1 [f.temps, 1, leaf.args, leaf.temps] 3 (by simp))).mono ?_
    rintro e w2 ⟨rfl, rfl⟩
    have HB2 := hid (nstep HB.out (bel1 W1 (.cells ([f.temps, 1, leaf.args, leaf.temps].map (Value.int .i64)).toArray 3)))
    go_wp2
    go_ret
    exact ⟨ret_b HV.out.symm, HB2.out⟩
  · have h1' : fitsE 240 [(n : Int), 3, leaf.args, leaf.temps, leaf.temps, (leaf.code.length : Int), left] = false := by simpa using h1
    have HV : Hid (roomE n f.temps leaf left = false) := by show _ = _; rw [HRM.out, h1']; rfl
    rw [h1']
    have HB := hid (nstep hb2 hb1)
    clear h1 h1'
    go_wp2
    go_ret
    exact ⟨ret_b HV.out.symm, HB.out⟩
end Go.Proofs.Ythaefhojnjdheaa
