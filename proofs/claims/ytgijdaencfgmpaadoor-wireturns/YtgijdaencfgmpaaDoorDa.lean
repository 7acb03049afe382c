/- The reference: SameCode, Name, Ups. -/
import Derived.Test.YtgijdaencfgmpaaDoorCh
import Derived.Deep.AppendLies
namespace Go.Proofs.YtgijdaencfgmpaaDoor
open Go.ChangeShapes Go.WideShapes Go.ChangeAt Go.RowKit
set_option linter.unusedSimpArgs false
set_option linter.unusedVariables false
set_option maxRecDepth 8000

set_option maxHeartbeats 1000000 in
theorem sameCode_any {P Q : Nat → Prop} (xs : List QI) (va vb : Value) (w : World) (ha : IsCode P w va xs) (hb : IsCode Q w vb xs) : Calls Tryd.prog 18 #[va, vb] w fun e w' => e = .returned (.bool true) ∧ Below w.heap.size w w' := by
  obtain ⟨ad, cap, rfl, hl, hcap, hby, hrow⟩ := ha
  obtain ⟨ad', cap', rfl, hl', hcap', hby', hrow'⟩ := hb
  go_enter Tryd.func18, Tryd.ntmps18
  go_wp2
  go_loopg [13] xs.length (fun g c wr => ∃ j : Nat, j + g = xs.length ∧ c = .int .i64 j ∧ ∃ n, wr = w.drewN n)
  case atStart => exact ⟨0, by omega, rfl, 0, rfl⟩
  case round =>
    obtain ⟨j, hj, rfl, nn, rfl⟩ := hrel
    by_cases hlt : j < xs.length
    · obtain ⟨b, o, rfl, -, q0, q1, q2, q3, q4, -⟩ := hrow j xs[j] (by simp [hlt])
      obtain ⟨b', o', rfl, -, k0, k1, k2, k3, k4, -⟩ := hrow' j xs[j] (by simp [hlt])
      generalize xs[j] = x at *
      simp only [Nat.add_zero] at q0 k0
      have hj1 : (j : Int) < (xs.length : Int) := by omega
      have hj0 : (0 : Int) ≤ (j : Int) := by omega
      clear hrow hrow'
      go_wp2
      go_quiet (fail)
      go_wp2
      go_roundg (gk - 1)
      case measure => omega
      case rel => exact ⟨j + 1, by omega, by go_num, _, rfl⟩
    · go_wp2
      go_ret
      exact ⟨rfl, below_drewN (Below.refl _ _) _⟩

def IntC : Lay Int := fun _ _ f x => f 0 = some (.int .i64 x)
abbrev IsInts := IsRow IntC 1 8
theorem goodN : Good IntC 1 where
  move h _ _ hf := hf 0 (by omega) _ h
  there h k hk := by obtain rfl : k = 0 := by omega
                     exact ⟨_, h, rfl⟩
  pos := by omega
theorem intCells {P : Nat → Prop} {w : World} (l : List Int) : Cells IntC 1 P w (l.map fun x => .int .i64 x) l := by
  refine ⟨by simp, fun i x hx => ?_⟩
  show (l.map fun x => Value.int .i64 x)[i * 1 + 0]? = _
  simp [hx]
/-- A class, and all above it. -/
def upsE (xs : List QC) : Nat → Int → List Int
  | 0, _ => []
  | n + 1, c => match clsAt xs c with
    | none => []
    | some x => c :: upsE xs n x.super
theorem info3 : (Tryd.prog.info? 3).map (fun i => (i.zero, i.size, i.bytes)) = some (some (.int .i64 0), 1, 8) := by kernel_rfl

theorem grown_below {wr w2 : World} {B : Nat} {X : Obj} {a : Option Addr} {e : TypeId} {sz n k : Nat} {xs : List Value} (hown : wr.ownsRow B e sz (.slice a n k) n xs) (hB : B ≤ wr.heap.size) (hgr : (wr.alloc X).grownBy w2 (Value.ownBlock (.slice a n k))) : Below B wr w2 := by
  refine ((Below.refl B wr).alloc hB X).grown hgr (by simp; omega) (fun k' hk' => ?_)
  obtain ⟨-, ⟨e, -⟩ | ⟨g, c, cur, e, h1, -⟩⟩ := hown
  · rw [e] at hk'; cases hk'
  · rw [e] at hk'
    simp [Value.ownBlock] at hk'
    omega

theorem upsE_mem {xs : List QC} : ∀ (n : Nat) (c : Int) (i : Nat) (k : Int), (upsE xs n c)[i]? = some k → ∃ (q : Nat) (x : QC), k = (q : Int) ∧ xs[q]? = some x
  | 0, c, i, k, h => by simp [upsE] at h
  | n + 1, c, i, k, h => by
    unfold upsE at h
    cases hx : clsAt xs c with
    | none => rw [hx] at h; simp at h
    | some x =>
      rw [hx] at h
      cases i with
      | zero =>
        simp at h
        subst h
        obtain ⟨q, rfl, hq⟩ := clsAt_some hx
        exact ⟨q, x, rfl, hq⟩
      | succ i => simp at h; exact upsE_mem n x.super i k h
def slotOf (xs : List QC) (k : Int) : Int := ((clsAt xs k).map QC.slots).getD 0
def sumS (xs : List QC) : List Int → Int
  | [] => 0
  | k :: r => slotOf xs k + sumS xs r
theorem sumS_up {xs : List QC} : ∀ (n : Nat) (c s : Int), upE slotsV xs n c s = s + sumS xs (upsE xs n c)
  | 0, c, s => by simp [upE, upsE, sumS]
  | n + 1, c, s => by
    unfold upE upsE
    cases hx : clsAt xs c with
    | none => simp [sumS]
    | some x =>
      have h1 : slotOf xs c = x.slots := by simp [slotOf, hx]
      have h2 := sumS_up (xs := xs) n x.super (s + x.slots)
      simp only [slotsV, if_true, sumS, h1] at h2 ⊢
      rw [h2]
      omega
theorem slotsE_sum {xs : List QC} (c : Int) : slotsE xs c = sumS xs (upsE xs (xs.length + 1) c) := by
  unfold slotsE
  rw [sumS_up]
  omega
theorem upsE_len {xs : List QC} : ∀ (n : Nat) (c : Int), (upsE xs n c).length ≤ n
  | 0, c => by simp [upsE]
  | n + 1, c => by
    unfold upsE
    cases hx : clsAt xs c with
    | none => simp
    | some x => simp; exact upsE_len n x.super
theorem sumS_append {xs : List QC} (l r : List Int) : sumS xs (l ++ r) = sumS xs l + sumS xs r := by
  induction l with
  | nil => simp [sumS]
  | cons a l ih => simp only [List.cons_append, sumS, ih]; omega
theorem sumS_range {xs : List QC} (ho : SlotsOk xs) (l : List Int) : 0 ≤ sumS xs l ∧ sumS xs l ≤ 6 * l.length := by
  induction l with
  | nil => simp [sumS]
  | cons a l ih =>
    have : 0 ≤ slotOf xs a ∧ slotOf xs a ≤ 6 := by
      unfold slotOf
      cases hx : clsAt xs a with
      | none => simp
      | some x =>
        obtain ⟨q, -, hq⟩ := clsAt_some hx
        simpa using ho q x hq
    simp only [sumS, List.length_cons]
    omega

end Go.Proofs.YtgijdaencfgmpaaDoor
