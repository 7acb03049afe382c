/- Going up from a class: up, Slots, Find. -/
import Derived.Test.YtjmidhghiahbaaaGreatDoorCd
namespace Go.Proofs.YtjmidhghiahbaaaGreatDoor
open Go.ChangeShapes Go.WideShapes Go.ChangeAt Go.RowKit
set_option linter.unusedSimpArgs false
set_option linter.unusedVariables false

/-- The class of that number, if there is one. -/
def clsAt (xs : List QC) (c : Int) : Option QC := if 0 ≤ c then xs[c.toNat]? else none
theorem clsAt_nat {xs : List QC} {k : Nat} : clsAt xs (k : Int) = xs[k]? := by simp [clsAt]
theorem clsAt_some {xs : List QC} {c : Int} {x : QC} (h : clsAt xs c = some x) : ∃ k : Nat, c = (k : Int) ∧ xs[k]? = some x := by
  unfold clsAt at h
  split at h
  · exact ⟨c.toNat, by omega, h⟩
  · cases h
theorem clsAt_has {xs : List QC} {c : Int} : hasB xs.length c = (clsAt xs c).isSome := by
  unfold hasB clsAt
  by_cases h : 0 ≤ c
  · rw [Bool.eq_iff_iff]; simp [h]
  · simp [h]

/-- What visit makes of its state, going up from c, so many steps at most. -/
def upE {σ : Type} (vis : σ → Nat → QC → σ × Bool) (xs : List QC) : Nat → Int → σ → σ
  | 0, _, s => s
  | n + 1, c, s => match clsAt xs c with
    | none => s
    | some x => if (vis s c.toNat x).2 then upE vis xs n x.super (vis s c.toNat x).1 else (vis s c.toNat x).1

set_option maxHeartbeats 1000000 in
theorem up28_any {σ : Type} {P M : Nat → Prop} (vis : σ → Nat → QC → σ × Bool) (R : Nat → σ → World → Prop) (p1 p2 : Value) (xs : List QC) (c : Int) (s0 : σ) (cv hv : Value) (ep : Int) (w : World) (hh : IsClasses P w cv xs) (hhv : ∃ a n c, hv = .slice a n c) (hR : R 0 s0 w) (hM : ∀ b, M b → b < w.heap.size)
    (hX : ∀ j s w', R j s w' → IsClasses P w' cv xs) (hL : ∀ j s w' w'', R j s w' → Below w'.heap.size w' w'' → R j s w'')
    (hF : ∀ (j : Nat) s (k : Nat) x w', j < xs.length + 1 → R j s w' → xs[k]? = some x → Calls Tryz.prog 50 #[.int .i64 k, p1, p2] w' fun e w'' => e = .returned (.bool (vis s k x).2) ∧ R (j + 1) (vis s k x).1 w'' ∧ Keeps (fun b => ¬ M b) w' w'' ∧ w'.heap.size ≤ w''.heap.size) :
    Calls Tryz.prog 49 #[WV cv hv ep, .int .i64 c, .func (.func 50) #[] #[p1, p2]] w fun e w' => e = .returned (.tuple #[]) ∧ ∃ j, R j (upE vis xs (xs.length + 1) c s0) w' := by
  obtain ⟨ad, cap, rfl, hl, hcap, hby, hrow⟩ := id hh
  obtain ⟨ah, nh, ch, rfl⟩ : ∃ a n c, hv = .slice a n c := hhv
  unfold maxLen at hcap
  go_enter Tryz.func49, Tryz.ntmps49
  go_wp2
  have hb0 : (w.alloc (Obj.cells #[.slice ad xs.length cap, .slice ah nh ch, .int .i64 ep] 25)).cell? ⟨w.heap.size, 0, none⟩ = some (.slice ad xs.length cap) := by simp
  have hb1 : (w.alloc (Obj.cells #[.slice ad xs.length cap, .slice ah nh ch, .int .i64 ep] 25)).cell? ⟨w.heap.size, 1, none⟩ = some (.slice ah nh ch) := by simp
  have hb2 : (w.alloc (Obj.cells #[.slice ad xs.length cap, .slice ah nh ch, .int .i64 ep] 25)).cell? ⟨w.heap.size, 2, none⟩ = some (.int .i64 ep) := by simp
  have hMw : ¬ M w.heap.size := fun h => by have := hM _ h; omega
  have hRa := hL 0 s0 w _ hR (bel1 w (Obj.cells #[.slice ad xs.length cap, .slice ah nh ch, .int .i64 ep] 25))
  clear hR hrow hh
  go_loopg [1, 10] (xs.length + 1) (fun g c' i wr => ∃ (j : Nat) (cc : Int) (s : σ), j + g = xs.length + 1 ∧ i = .int .i64 j ∧ c' = .int .i64 cc ∧ R j s wr ∧ upE vis xs (xs.length + 1) c s0 = upE vis xs g cc s ∧ wr.cell? ⟨w.heap.size, 0, none⟩ = some (.slice ad xs.length cap) ∧ wr.cell? ⟨w.heap.size, 1, none⟩ = some (.slice ah nh ch) ∧ wr.cell? ⟨w.heap.size, 2, none⟩ = some (.int .i64 ep))
  case atStart => exact ⟨0, c, s0, by omega, rfl, rfl, hRa, rfl, hb0, hb1, hb2⟩
  case round =>
    obtain ⟨j, cc, s, hj, rfl, rfl, hRs, hE, c0, c1, c2⟩ := hrel
    have HE : Hid (upE vis xs (xs.length + 1) c s0 = upE vis xs gk cc s) := hE
    clear hE hb0 hb1 hb2 hRa
    by_cases hlt : j < xs.length + 1
    · obtain ⟨g', rfl⟩ : ∃ g', gk = g' + 1 := ⟨gk - 1, by omega⟩
      have hj1 : (j : Int) < (xs.length : Int) + 1 := by omega
      cases hx : clsAt xs cc with
      | none =>
        have hh : hasB xs.length cc = false := by rw [clsAt_has, hx]; rfl
        have HX : Hid (clsAt xs cc = none) := hx
        clear hx
        go_wp2_with fail
        refine (has_any _ _ _ _ _ _ _ _ _).mono ?_
        rintro e w1 ⟨rfl, hb⟩
        rw [hh]
        go_wp2
        refine bodyPost_ret (v := .tuple #[]) (by simp [results, Tryz.results49, go_sem]) rfl ⟨rfl, j, ?_⟩
        rw [HE.out]
        simp only [upE, HX.out]
        exact hL _ _ _ _ hRs hb
      | some x =>
        have hh : hasB xs.length cc = true := by rw [clsAt_has, hx]; rfl
        obtain ⟨k, rfl, hxk⟩ := clsAt_some hx
        have HX : Hid (xs[k]? = some x) := hxk
        have HC : Hid (clsAt xs (k : Int) = some x) := hx
        have hk := lt_of_get hxk
        clear hx hxk
        have hk0 : (0 : Int) ≤ (k : Int) := by omega
        have hk1 : (k : Int) < (xs.length : Int) := by omega
        go_wp2_with fail
        refine (has_any _ _ _ _ _ _ _ _ _).mono ?_
        rintro e w1 ⟨rfl, hb⟩
        rw [hh]
        replace hRs := hL _ _ _ _ hRs hb
        replace c0 := cell_later hb c0
        replace c1 := cell_later hb c1
        replace c2 := cell_later hb c2
        clear hb hh
        go_wp2_with fail
        refine (hF j s k x w1 hlt hRs HX.out).mono ?_
        rintro e w2 ⟨rfl, hR2, hK2, -⟩
        replace c0 := hK2 _ _ _ hMw c0
        replace c1 := hK2 _ _ _ hMw c1
        replace c2 := hK2 _ _ _ hMw c2
        cases hv2 : (vis s k x).2
        · go_wp2
          refine bodyPost_ret (v := .tuple #[]) (by simp [results, Tryz.results49, go_sem]) rfl ⟨rfl, j + 1, ?_⟩
          rw [HE.out]
          simp only [upE, HC.out, Int.toNat_natCast, hv2]
          exact hR2
        · obtain ⟨ad', cap', e', -, -, -, hrow⟩ := hX _ _ _ hR2
          simp only [Value.slice.injEq] at e'
          obtain ⟨rfl, -, rfl⟩ := e'
          obtain ⟨b, o, rfl, -, -, hv1, -⟩ := hrow k x HX.out
          clear hrow
          go_wp2
          go_roundg g'
          case measure => omega
          case rel =>
            refine ⟨j + 1, x.super, (vis s k x).1, by omega, by go_num, rfl, hR2, ?_, c0, c1, c2⟩
            rw [HE.out]
            simp only [upE, HC.out, Int.toNat_natCast, hv2, if_true]
    · obtain rfl : gk = 0 := by omega
      go_wp2
      go_end0
      refine ⟨rfl, j, ?_⟩
      rw [HE.out]
      exact hRs

theorem bel_set (w : World) (b o : Nat) (v : Value) : Below b w (w.setCell ⟨b, o, none⟩ v) := (Below.refl b w).setCell (Nat.le_refl b) _
/-- Slots: the sum of what each has. -/
def slotsV (s : Int) (_ : Nat) (x : QC) : Int × Bool := (s + x.slots, true)
def slotsE (xs : List QC) (c : Int) : Int := upE slotsV xs (xs.length + 1) c 0
/-- Slots are from 0 to 6 each. -/
def SlotsOk (xs : List QC) : Prop := ∀ (i : Nat) x, xs[i]? = some x → 0 ≤ x.slots ∧ x.slots ≤ 6

set_option maxHeartbeats 1000000 in
theorem slots1_any {P : Nat → Prop} (xs : List QC) (cv : Value) (s : Int) (k : Nat) (x : QC) (bs bw : Nat) (w : World) (hne : bs ≠ bw) (hs : w.heap[bs]? = some (.cells #[.int .i64 s] 3 (0, 0))) (hw : w.cell? ⟨bw, 0, none⟩ = some cv) (hh : IsClasses P w cv xs) (hx : xs[k]? = some x) (hr : IntKind.i64.wrap (s + x.slots) = s + x.slots) :
    Calls Tryz.prog 50 #[.int .i64 k, .pointer (some ⟨bs, 0, none⟩), .pointer (some ⟨bw, 0, none⟩)] w fun e w'' => e = .returned (.bool true) ∧ w''.heap[bs]? = some (.cells #[.int .i64 (s + x.slots)] 3 (0, 0)) ∧ Keeps (fun b => b ≠ bs) w w'' ∧ Below bs w w'' := by
  obtain ⟨ad, cap, rfl, hl, hcap, hby, hrow⟩ := id hh
  have hk := lt_of_get hx
  obtain ⟨b, o, rfl, -, hv0, hv1, hv2, -⟩ := hrow k x hx
  have hk0 : (0 : Int) ≤ (k : Int) := by omega
  have hk1 : (k : Int) < (xs.length : Int) := by omega
  have c1 := cell_of_one hs
  have f1 := free_of_one hs
  clear hrow hh hx
  go_enter Tryz.func50, Tryz.ntmps50
  go_wp2
  go_region
  all_goals go_wp2
  all_goals go_ret
  all_goals
    refine ⟨rfl, ?_, ?_, ?_⟩
    · exact one_setCell (by first | exact hs | simpa using hs)
    · exact Keeps.of_setCell (fun h => h rfl) _
    · first | exact bel_set _ _ _ _ | exact (bel_set _ _ _ _).drew

theorem slotsE_le {xs : List QC} (ho : SlotsOk xs) : ∀ (n : Nat) (c s : Int), 0 ≤ s → s ≤ upE slotsV xs n c s ∧ upE slotsV xs n c s ≤ s + 6 * n
  | 0, c, s, h => by simp [upE]
  | n + 1, c, s, h => by
    unfold upE
    cases hx : clsAt xs c with
    | none => simp; omega
    | some x =>
      obtain ⟨k, rfl, hk⟩ := clsAt_some hx
      obtain ⟨h1, h2⟩ := ho k x hk
      obtain ⟨h3, h4⟩ := slotsE_le ho n x.super (s + x.slots) (by omega)
      simp only [slotsV, if_true] at h3 h4 ⊢
      omega

/-- What holds while Slots goes up. -/
def SlR {P : Nat → Prop} (w0 : World) (cv : Value) (xs : List QC) (j : Nat) (s : Int) (w' : World) : Prop :=
  Below w0.heap.size w0 w' ∧ IsClasses P w' cv xs ∧ w'.heap[w0.heap.size + 1]? = some (.cells #[.int .i64 s] 3 (0, 0)) ∧ w'.cell? ⟨w0.heap.size, 0, none⟩ = some cv ∧ 0 ≤ s ∧ s ≤ 6 * j

set_option maxHeartbeats 1000000 in
theorem slots_any {P : Nat → Prop} (X : QW) (c : Int) (cv hv : Value) (w : World) (hh : IsClasses P w cv X.classes) (hH : IsHeap P w hv X.heap) (ho : SlotsOk X.classes) : Calls Tryz.prog 33 #[WV cv hv X.epoch, .int .i64 c] w fun e w' => e = .returned (.int .i64 (slotsE X.classes c)) ∧ Below w.heap.size w w' := by
  have hm := hmf
  obtain ⟨ad, cap, rfl, hl, hcap, hby, -⟩ := id hh
  obtain ⟨ah, ch, rfl, -, -, -, -⟩ := id hH
  go_enter Tryz.func33, Tryz.ntmps33
  go_wp2_with fail
  refine (up28_any (P := P) (M := fun b => b = w.heap.size + 1) slotsV (SlR (P := P) w (.slice ad X.classes.length cap) X.classes) _ _ X.classes c 0 _ _ _ _ (hh.later goodC (bel2 _ _ _)) ⟨_, _, _, rfl⟩ ?_ ?_ ?_ ?_ ?_).mono ?_
  · refine ⟨bel2 _ _ _, hh.later goodC (bel2 _ _ _), ?_, ?_, by omega, by omega⟩
    · have := heap_alloc_new (w.alloc (Obj.cells #[Value.slice ad X.classes.length cap, Value.slice ah X.heap.length ch, Value.int IntKind.i64 X.epoch] 25)) (Obj.cells #[Value.int IntKind.i64 0] 3)
      simpa using this
    · exact cell_later (bel1 _ _) (by rw [cell_new _ _ _ _ rfl]; rfl)
  · rintro b rfl; simp
  · exact fun j s w' h => h.2.1
  · rintro j s w' w'' ⟨h1, h2, h3, h4, h5⟩ hb
    exact ⟨nstep h1 hb, h2.later goodC hb, by rw [hb.block _ (blk_lt h3)]; exact h3, cell_later hb h4, h5⟩
  · rintro j s k x w' hj ⟨h1, h2, h3, h4, h5, h6⟩ hx
    obtain ⟨o1, o2⟩ := ho k x hx
    refine (slots1_any X.classes _ s k x (w.heap.size + 1) w.heap.size w' (by omega) h3 h4 h2 hx (by rw [IntKind.wrap_i64]; omega)).mono ?_
    rintro e w'' ⟨rfl, k1, k2, k3⟩
    refine ⟨rfl, ⟨h1.trans (k3.mono (by omega)), ?_, k1, k2 _ _ _ (by show _ ≠ _; omega) h4, by show (0 : Int) ≤ s + x.slots; omega, by show s + x.slots ≤ _; omega⟩, k2.mono fun b hb => hb, k3.size⟩
    exact hh.later goodC (h1.trans (k3.mono (by omega)))
  · rintro e w1 ⟨rfl, j, h1, h2, h3, h4, h5⟩
    have c1 := cell_of_one h3
    go_wp2
    go_ret
    exact ⟨rfl, h1⟩

/-- Find: the number in it of the method of that name, and the class. -/
def findV (name : ByteArray) (s : Int × Int) (k : Nat) (x : QC) : (Int × Int) × Bool := ((if 0 ≤ numI x.methods name then (k : Int) else s.1, numI x.methods name), decide (numI x.methods name < 0))
def findE (xs : List QC) (c : Int) (name : ByteArray) : Int × Int := upE (findV name) xs (xs.length + 1) c (-1, -1)

/-- What holds while Find goes up. -/
def FiR {P : Nat → Prop} (w0 : World) (cv : Value) (xs : List QC) (name : ByteArray) (_ : Nat) (s : Int × Int) (w' : World) : Prop :=
  Below w0.heap.size w0 w' ∧ IsClasses P w' cv xs ∧ w'.heap[w0.heap.size + 1 + 1]? = some (.cells #[.int .i64 s.1] 3 (0, 0)) ∧ w'.heap[w0.heap.size + 1 + 1 + 1]? = some (.cells #[.int .i64 s.2] 3 (0, 0)) ∧ w'.cell? ⟨w0.heap.size, 0, none⟩ = some cv ∧ w'.cell? ⟨w0.heap.size + 1, 0, none⟩ = some (.string name)

end Go.Proofs.YtjmidhghiahbaaaGreatDoor
