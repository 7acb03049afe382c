/- Going up from a class: up, Slots, Find. -/
import Derived.Test.YtdfbgpiikeheiaaCd
namespace Go.Proofs.Ytdfbgpiikeheiaa
open Go.ChangeShapes Go.WideShapes Go.ChangeAt Go.RowKit
set_option linter.unusedSimpArgs false
set_option linter.unusedVariables false

/-- The class of that number, if there is one. -/
def clsAt (xs : List QC) (c : Int) : Option QC := if 0 ≤ c then xs[c.toNat]? else none
theorem clsAt_nat {xs : List QC} {k : Nat} : clsAt xs (k : Int) = xs[k]? := by simp [clsAt]
theorem clsAt_some {xs : List QC} {c : Int} {x : QC} (h : clsAt xs c = some x) : ∃ k : Nat, c = (k : Int) ∧ xs[k]? = some x := by
  unfold clsAt at h
  split at h
  · exact ⟨c.toNat, by omega, h⟩
  · cases h
theorem clsAt_has {xs : List QC} {c : Int} : hasB xs.length c = (clsAt xs c).isSome := by
  unfold hasB clsAt
  by_cases h : 0 ≤ c
  · rw [Bool.eq_iff_iff]; simp [h]
  · simp [h]

/-- What visit makes of its state, going up from c, so many steps at most. -/
def upE {σ : Type} (vis : σ → Nat → QC → σ × Bool) (xs : List QC) : Nat → Int → σ → σ
  | 0, _, s => s
  | n + 1, c, s => match clsAt xs c with
    | none => s
    | some x => if (vis s c.toNat x).2 then upE vis xs n x.super (vis s c.toNat x).1 else (vis s c.toNat x).1

set_option maxHeartbeats 1000000 in
theorem up30_any {σ : Type} {P M : Nat → Prop} (vis : σ → Nat → QC → σ × Bool) (R : Nat → σ → World → Prop) (p1 p2 p3 p4 : Value) (xs : List QC) (c : Int) (s0 : σ) (cv hv : Value) (ep : Int) (w : World) (hh : IsClasses P w cv xs) (hhv : ∃ a n c, hv = .slice a n c) (hR : R 0 s0 w) (hM : ∀ b, M b → b < w.heap.size)
    (hX : ∀ j s w', R j s w' → IsClasses P w' cv xs) (hL : ∀ j s w' w'', R j s w' → Below w'.heap.size w' w'' → R j s w'')
    (hF : ∀ (j : Nat) s (k : Nat) x w', j < xs.length + 1 → R j s w' → xs[k]? = some x → Calls Try.prog 73 #[.int .i64 k, p1, p2, p3, p4] w' fun e w'' => e = .returned (.bool (vis s k x).2) ∧ R (j + 1) (vis s k x).1 w'' ∧ Keeps (fun b => ¬ M b) w' w'' ∧ w'.heap.size ≤ w''.heap.size) :
    Calls Try.prog 72 #[WV cv hv ep, .int .i64 c, .func (.func 73) #[] #[p1, p2, p3, p4]] w fun e w' => e = .returned (.tuple #[]) ∧ ∃ j, R j (upE vis xs (xs.length + 1) c s0) w' := by
  obtain ⟨ad, cap, rfl, hl, hcap, hby, hrow⟩ := id hh
  obtain ⟨ah, nh, ch, rfl⟩ : ∃ a n c, hv = .slice a n c := hhv
  unfold maxLen at hcap
  go_enter Try.func72, Try.ntmps72
  go_wp2
  have hb0 : (w.alloc (Obj.cells #[.slice ad xs.length cap, .slice ah nh ch, .int .i64 ep] 25)).cell? ⟨w.heap.size, 0, none⟩ = some (.slice ad xs.length cap) := by simp
  have hb1 : (w.alloc (Obj.cells #[.slice ad xs.length cap, .slice ah nh ch, .int .i64 ep] 25)).cell? ⟨w.heap.size, 1, none⟩ = some (.slice ah nh ch) := by simp
  have hb2 : (w.alloc (Obj.cells #[.slice ad xs.length cap, .slice ah nh ch, .int .i64 ep] 25)).cell? ⟨w.heap.size, 2, none⟩ = some (.int .i64 ep) := by simp
  have hMw : ¬ M w.heap.size := fun h => by have := hM _ h; omega
  have hRa := hL 0 s0 w _ hR (bel1 w (Obj.cells #[.slice ad xs.length cap, .slice ah nh ch, .int .i64 ep] 25))
  clear hR hrow hh
  go_loopg [1, 10] (xs.length + 1) (fun g c' i wr => ∃ (j : Nat) (cc : Int) (s : σ), j + g = xs.length + 1 ∧ i = .int .i64 j ∧ c' = .int .i64 cc ∧ R j s wr ∧ upE vis xs (xs.length + 1) c s0 = upE vis xs g cc s ∧ wr.cell? ⟨w.heap.size, 0, none⟩ = some (.slice ad xs.length cap) ∧ wr.cell? ⟨w.heap.size, 1, none⟩ = some (.slice ah nh ch) ∧ wr.cell? ⟨w.heap.size, 2, none⟩ = some (.int .i64 ep))
  case atStart => exact ⟨0, c, s0, by omega, rfl, rfl, hRa, rfl, hb0, hb1, hb2⟩
  case round =>
    obtain ⟨j, cc, s, hj, rfl, rfl, hRs, hE, c0, c1, c2⟩ := hrel
    have HE : Hid (upE vis xs (xs.length + 1) c s0 = upE vis xs gk cc s) := hE
    clear hE hb0 hb1 hb2 hRa
    by_cases hlt : j < xs.length + 1
    · obtain ⟨g', rfl⟩ : ∃ g', gk = g' + 1 := ⟨gk - 1, by omega⟩
      have hj1 : (j : Int) < (xs.length : Int) + 1 := by omega
      cases hx : clsAt xs cc with
      | none =>
        have hh : hasB xs.length cc = false := by rw [clsAt_has, hx]; rfl
        have HX : Hid (clsAt xs cc = none) := hx
        clear hx
        go_wp2_with fail
        refine (has_any _ _ _ _ _ _ _ _ _).mono ?_
        rintro e w1 ⟨rfl, hb⟩
        rw [hh]
        go_wp2
        refine bodyPost_ret (v := .tuple #[]) (by simp [results, Try.results72, go_sem]) rfl ⟨rfl, j, ?_⟩
        rw [HE.out]
        simp only [upE, HX.out]
        exact hL _ _ _ _ hRs hb
      | some x =>
        have hh : hasB xs.length cc = true := by rw [clsAt_has, hx]; rfl
        obtain ⟨k, rfl, hxk⟩ := clsAt_some hx
        have HX : Hid (xs[k]? = some x) := hxk
        have HC : Hid (clsAt xs (k : Int) = some x) := hx
        have hk := lt_of_get hxk
        clear hx hxk
        have hk0 : (0 : Int) ≤ (k : Int) := by omega
        have hk1 : (k : Int) < (xs.length : Int) := by omega
        go_wp2_with fail
        refine (has_any _ _ _ _ _ _ _ _ _).mono ?_
        rintro e w1 ⟨rfl, hb⟩
        rw [hh]
        replace hRs := hL _ _ _ _ hRs hb
        replace c0 := cell_later hb c0
        replace c1 := cell_later hb c1
        replace c2 := cell_later hb c2
        clear hb hh
        go_wp2_with fail
        refine (hF j s k x w1 hlt hRs HX.out).mono ?_
        rintro e w2 ⟨rfl, hR2, hK2, -⟩
        replace c0 := hK2 _ _ _ hMw c0
        replace c1 := hK2 _ _ _ hMw c1
        replace c2 := hK2 _ _ _ hMw c2
        cases hv2 : (vis s k x).2
        · go_wp2
          refine bodyPost_ret (v := .tuple #[]) (by simp [results, Try.results72, go_sem]) rfl ⟨rfl, j + 1, ?_⟩
          rw [HE.out]
          simp only [upE, HC.out, Int.toNat_natCast, hv2]
          exact hR2
        · obtain ⟨ad', cap', e', -, -, -, hrow⟩ := hX _ _ _ hR2
          simp only [Value.slice.injEq] at e'
          obtain ⟨rfl, -, rfl⟩ := e'
          obtain ⟨b, o, rfl, -, -, hv1, -⟩ := hrow k x HX.out
          clear hrow
          go_wp2
          go_roundg g'
          case measure => omega
          case rel =>
            refine ⟨j + 1, x.super, (vis s k x).1, by omega, by go_num, rfl, hR2, ?_, c0, c1, c2⟩
            rw [HE.out]
            simp only [upE, HC.out, Int.toNat_natCast, hv2, if_true]
    · obtain rfl : gk = 0 := by omega
      go_wp2
      go_end0
      refine ⟨rfl, j, ?_⟩
      rw [HE.out]
      exact hRs

theorem bel_set (w : World) (b o : Nat) (v : Value) : Below b w (w.setCell ⟨b, o, none⟩ v) := (Below.refl b w).setCell (Nat.le_refl b) _
/-- Slots: the sum of what each has. -/
def slotsV (s : Int) (_ : Nat) (x : QC) : Int × Bool := (s + x.slots, true)
def slotsE (xs : List QC) (c : Int) : Int := upE slotsV xs (xs.length + 1) c 0
/-- Slots are from 0 to 6 each. -/
def SlotsOk (xs : List QC) : Prop := ∀ (i : Nat) x, xs[i]? = some x → 0 ≤ x.slots ∧ x.slots ≤ 6

theorem slotsE_le {xs : List QC} (ho : SlotsOk xs) : ∀ (n : Nat) (c s : Int), 0 ≤ s → s ≤ upE slotsV xs n c s ∧ upE slotsV xs n c s ≤ s + 6 * n
  | 0, c, s, h => by simp [upE]
  | n + 1, c, s, h => by
    unfold upE
    cases hx : clsAt xs c with
    | none => simp; omega
    | some x =>
      obtain ⟨k, rfl, hk⟩ := clsAt_some hx
      obtain ⟨h1, h2⟩ := ho k x hk
      obtain ⟨h3, h4⟩ := slotsE_le ho n x.super (s + x.slots) (by omega)
      simp only [slotsV, if_true] at h3 h4 ⊢
      omega

/-- What holds while Slots goes up. -/
def SlR {P : Nat → Prop} (w0 : World) (cv : Value) (xs : List QC) (j : Nat) (s : Int) (w' : World) : Prop :=
  Below w0.heap.size w0 w' ∧ IsClasses P w' cv xs ∧ w'.heap[w0.heap.size + 1]? = some (.cells #[.int .i64 s] 3 (0, 0)) ∧ w'.cell? ⟨w0.heap.size, 0, none⟩ = some cv ∧ 0 ≤ s ∧ s ≤ 6 * j

/-- Find: the number in it of the method of that name, and the class. -/
def findV (name : ByteArray) (s : Int × Int) (k : Nat) (x : QC) : (Int × Int) × Bool := ((if 0 ≤ numI x.methods name then (k : Int) else s.1, numI x.methods name), decide (numI x.methods name < 0))
def findE (xs : List QC) (c : Int) (name : ByteArray) : Int × Int := upE (findV name) xs (xs.length + 1) c (-1, -1)

set_option maxHeartbeats 1000000 in
theorem find1_any {P : Nat → Prop} (n cap : Nat) (name : ByteArray) (s : Int × Int) (k : Nat) (x : QC) (b o bw bn bm bf lo : Nat) (mv : Value) (w : World) (hf : w.heap[bf]? = some (.cells #[.int .i64 s.1] 3 (0, 0))) (hmm : w.heap[bm]? = some (.cells #[.int .i64 s.2] 3 (0, 0))) (hw : w.cell? ⟨bw, 0, none⟩ = some (.slice (some ⟨b, o, none⟩) n cap)) (hn : w.cell? ⟨bn, 0, none⟩ = some (.string name))
    (hk : k < n) (hv : w.cell? ⟨b, o + k * 4 + 3, none⟩ = some mv) (hM : IsMeths P w mv x.methods) (hne : bm ≠ bf) (h1 : bm ≠ bw) (h2 : bm ≠ bn) (h3 : bm ≠ b) (hlm : lo ≤ bm) (hlf : lo ≤ bf) :
    Calls Try.prog 73 #[.int .i64 k, .pointer (some ⟨bw, 0, none⟩), .pointer (some ⟨bn, 0, none⟩), .pointer (some ⟨bm, 0, none⟩), .pointer (some ⟨bf, 0, none⟩)] w fun e w'' => e = .returned (.bool (findV name s k x).2) ∧ w''.heap[bf]? = some (.cells #[.int .i64 (findV name s k x).1.1] 3 (0, 0)) ∧ w''.heap[bm]? = some (.cells #[.int .i64 (findV name s k x).1.2] 3 (0, 0)) ∧ Keeps (fun b => b ≠ bm ∧ b ≠ bf) w w'' ∧ Below lo w w'' := by
  obtain ⟨ad2, cap2, rfl, -, -, -, -⟩ := id hM
  have hk0 : (0 : Int) ≤ (k : Int) := by omega
  have hk1 : (k : Int) < (n : Int) := by omega
  have cm := cell_of_one hmm
  have fm := free_of_one hmm
  go_enter Try.func73, Try.ntmps73
  go_wp2
  have hS0 : w.drew.cell? ⟨bw, 0, none⟩ = some (.slice (some ⟨b, o, none⟩) n cap) ∧ w.drew.cell? ⟨b, o + k * 4 + 3, none⟩ = some (.slice ad2 x.methods.length cap2) ∧ w.drew.cell? ⟨bn, 0, none⟩ = some (.string name) := ⟨hw, hv, hn⟩
  have hMd := hM.later goodM (Below.refl _ _).drew
  have hmd : w.drew.heap[bm]? = some (.cells #[.int .i64 s.2] 3 (0, 0)) := hmm
  have hfd : w.drew.heap[bf]? = some (.cells #[.int .i64 s.1] 3 (0, 0)) := hf
  clear hw hv hn hM cm fm
  go_region_held3 (fun w' => w'.cell? ⟨bw, 0, none⟩ = some (.slice (some ⟨b, o, none⟩) n cap) ∧ w'.cell? ⟨b, o + k * 4 + 3, none⟩ = some (.slice ad2 x.methods.length cap2) ∧ w'.cell? ⟨bn, 0, none⟩ = some (.string name))
    (first | exact hS0 | exact hY | exact ⟨(World.cell?_setCell_far _ _ _ _ h1).trans hY.1, (World.cell?_setCell_far _ _ _ _ h3).trans hY.2.1, (World.cell?_setCell_far _ _ _ _ h2).trans hY.2.2⟩)
    (first | (go_at_call 74; refine (numberOf_any x.methods _ name _ hMd).mono ?_; rintro e w1 ⟨rfl, hb⟩; have hY : w1.cell? ⟨bw, 0, none⟩ = some (.slice (some ⟨b, o, none⟩) n cap) ∧ w1.cell? ⟨b, o + k * 4 + 3, none⟩ = some (.slice ad2 x.methods.length cap2) ∧ w1.cell? ⟨bn, 0, none⟩ = some (.string name) := ⟨cell_later hb hS0.1, cell_later hb hS0.2.1, cell_later hb hS0.2.2⟩; have hm1 : w1.heap[bm]? = some (.cells #[.int .i64 s.2] 3 (0, 0)) := (by rw [hb.block _ (blk_lt hmd)]; exact hmd); have hf1 : w1.heap[bf]? = some (.cells #[.int .i64 s.1] 3 (0, 0)) := (by rw [hb.block _ (blk_lt hfd)]; exact hfd); have cm1 := cell_of_one hm1; have fm1 := free_of_one hm1))
  have hm2 := one_setCell (u := .int .i64 (numI x.methods name)) hm1
  have hf2 : (w1.setCell ⟨bm, 0, none⟩ (.int .i64 (numI x.methods name))).heap[bf]? = some (.cells #[.int .i64 s.1] 3 (0, 0)) := by rw [setCell_else (by omega)]; exact hf1
  have hB2 : Below lo w (w1.setCell ⟨bm, 0, none⟩ (.int .i64 (numI x.methods name))) := ((Below.refl _ _).drew.trans (hb.mono (Nat.le_trans hlm (Nat.le_of_lt (blk_lt hmd))))).setCell hlm _
  have hK2 : Keeps (fun b => b ≠ bm ∧ b ≠ bf) w (w1.setCell ⟨bm, 0, none⟩ (.int .i64 (numI x.methods name))) := keep_set (Keeps.of_below (nstep (Below.refl _ _).drew hb)) (fun h => h.1 rfl) _
  have c3 := cell_of_one hm2
  have c4 := cell_of_one hf2
  have c5 := free_of_one hf2
  clear hS0 hMd hmd hfd hb hY hm1 hf1 cm1 fm1 hmm hf
  generalize w1.setCell ⟨bm, 0, none⟩ (.int .i64 (numI x.methods name)) = w2 at *
  by_cases hp : 0 ≤ numI x.methods name
  · have c6 : (w2.setCell ⟨bf, 0, none⟩ (.int .i64 (k : Int))).cell? ⟨bm, 0, none⟩ = some (.int .i64 (numI x.methods name)) := (World.cell?_setCell_far _ _ _ _ (by simp; omega)).trans c3
    go_wp2
    go_ret
    refine ⟨ret_b (by simp [findV]), ?_, ?_, ?_, ?_⟩
    · have := one_setCell (u := .int .i64 (k : Int)) hf2
      simpa [findV, hp] using this
    · rw [setCell_else (by omega)]; exact hm2
    · exact keep_set hK2 (fun h => h.2 rfl) _
    · exact hB2.setCell hlf _
  · have hp' : numI x.methods name < 0 := by omega
    go_wp2
    go_ret
    refine ⟨ret_b (by simp [findV]; exact hp'), ?_, hm2, hK2, hB2⟩
    simp only [findV]
    rw [if_neg (by omega)]
    exact hf2

/-- What holds while Find goes up. -/
def FiR {P : Nat → Prop} (w0 : World) (cv : Value) (xs : List QC) (name : ByteArray) (_ : Nat) (s : Int × Int) (w' : World) : Prop :=
  Below w0.heap.size w0 w' ∧ IsClasses P w' cv xs ∧ w'.heap[w0.heap.size + 1 + 1]? = some (.cells #[.int .i64 s.1] 3 (0, 0)) ∧ w'.heap[w0.heap.size + 1 + 1 + 1]? = some (.cells #[.int .i64 s.2] 3 (0, 0)) ∧ w'.cell? ⟨w0.heap.size, 0, none⟩ = some cv ∧ w'.cell? ⟨w0.heap.size + 1, 0, none⟩ = some (.string name)

set_option maxHeartbeats 1000000 in
theorem find_any {P : Nat → Prop} (X : QW) (c : Int) (name : ByteArray) (cv hv : Value) (w : World) (hh : IsClasses P w cv X.classes) (hH : IsHeap P w hv X.heap) : Calls Try.prog 53 #[WV cv hv X.epoch, .int .i64 c, .string name] w fun e w' => e = .returned (.tuple #[.int .i64 (findE X.classes c name).1, .int .i64 (findE X.classes c name).2]) ∧ Below w.heap.size w w' := by
  have hm := hmf
  obtain ⟨ad, cap, rfl, hl, hcap, hby, hrow⟩ := id hh
  obtain ⟨ah, ch, rfl, -, -, -, -⟩ := id hH
  go_enter Try.func53, Try.ntmps53
  go_wp2_with fail
  have hW := (bel3 w (Obj.cells #[Value.slice ad X.classes.length cap, Value.slice ah X.heap.length ch, Value.int IntKind.i64 X.epoch] 25) (Obj.cells #[Value.string name] 9) (Obj.cells #[Value.int IntKind.i64 (-1)] 3)).alloc (by simp; omega) (Obj.cells #[Value.int IntKind.i64 (-1)] 3)
  refine (up30_any (P := P) (M := fun b => b = w.heap.size + 1 + 1 + 1 ∨ b = w.heap.size + 1 + 1) (findV name) (FiR (P := P) w (.slice ad X.classes.length cap) X.classes name) _ _ _ _ X.classes c (-1, -1) _ _ _ _ (hh.later goodC hW) ⟨_, _, _, rfl⟩ ?_ ?_ ?_ ?_ ?_).mono ?_
  · refine ⟨hW, hh.later goodC hW, ?_, ?_, ?_, ?_⟩
    · rw [(bel1 _ _).block _ (by simp)]
      have := heap_alloc_new ((w.alloc (Obj.cells #[Value.slice ad X.classes.length cap, Value.slice ah X.heap.length ch, Value.int IntKind.i64 X.epoch] 25)).alloc (Obj.cells #[Value.string name] 9)) (Obj.cells #[Value.int IntKind.i64 (-1)] 3)
      simpa using this
    · have := heap_alloc_new (((w.alloc (Obj.cells #[Value.slice ad X.classes.length cap, Value.slice ah X.heap.length ch, Value.int IntKind.i64 X.epoch] 25)).alloc (Obj.cells #[Value.string name] 9)).alloc (Obj.cells #[Value.int IntKind.i64 (-1)] 3)) (Obj.cells #[Value.int IntKind.i64 (-1)] 3)
      simpa using this
    · exact cell_later (bel3 _ _ _ _) (by rw [cell_new _ _ _ _ rfl]; rfl)
    · exact cell_later (bel2 _ _ _) (by rw [cell_new _ _ _ _ (by simp)]; rfl)
  · rintro b (rfl | rfl) <;> simp
  · exact fun j s w' h => h.2.1
  · rintro j s w' w'' ⟨h1, h2, h3, h4, h5, h6⟩ hb
    exact ⟨nstep h1 hb, h2.later goodC hb, by rw [hb.block _ (blk_lt h3)]; exact h3, by rw [hb.block _ (blk_lt h4)]; exact h4, cell_later hb h5, cell_later hb h6⟩
  · rintro j s k x w' hj ⟨h1, h2, h3, h4, h5, h6⟩ hx
    have hk := lt_of_get hx
    obtain ⟨b, o, rfl, -, -, -, -, -, mv, hv, hM⟩ := hrow k x hx
    have hbl := World.block_lt_of_cell? _ _ hv
    simp at hbl
    refine (find1_any X.classes.length cap name s k x b o w.heap.size (w.heap.size + 1) (w.heap.size + 1 + 1 + 1) (w.heap.size + 1 + 1) w.heap.size mv w' h3 h4 h5 h6 hk (cell_later h1 hv) (hM.later goodM h1) (by omega) (by omega) (by omega) (by omega) (by omega) (by omega)).mono ?_
    rintro e w'' ⟨rfl, k1, k2, k3, k4⟩
    refine ⟨rfl, ⟨h1.trans k4, hh.later goodC (h1.trans k4), k1, k2, k3 _ _ _ (by omega) h5, k3 _ _ _ (by omega) h6⟩, k3.mono fun b hb => by omega, k4.size⟩
  · rintro e w1 ⟨rfl, j, h1, h2, h3, h4, h5⟩
    have c1 := cell_of_one h3
    have c2 := cell_of_one h4
    go_wp2
    go_quiet (fail)
    go_wp2
    refine bodyPost_ret (v := .tuple #[.int .i64 (findE X.classes c name).1, .int .i64 (findE X.classes c name).2]) ?_ rfl ⟨rfl, ?_⟩
    · simp [results, Try.results53, go_sem, findE]
    · first | exact h1 | exact h1.drew | exact below_drewN h1 _
end Go.Proofs.Ytdfbgpiikeheiaa
