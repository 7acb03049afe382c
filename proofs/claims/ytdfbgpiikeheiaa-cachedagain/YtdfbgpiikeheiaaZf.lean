/- Slots; values: isIn, Class, Slot, Bool, Prim, Wrong; sites. -/
import Derived.Test.YtdfbgpiikeheiaaZd
import Derived.Test.YtdfbgpiikeheiaaYf
import Derived.Deep.Light
namespace Go.Proofs.Ytdfbgpiikeheiaa
open Go.ChangeShapes Go.WideShapes Go.ChangeAt Go.RowKit
set_option linter.unusedSimpArgs false
set_option linter.unusedVariables false
set_option maxRecDepth 8000

set_option maxHeartbeats 1000000 in
theorem up28_any {σ : Type} {P M : Nat → Prop} (vis : σ → Nat → QC → σ × Bool) (R : Nat → σ → World → Prop) (p1 p2 : Value) (xs : List QC) (c : Int) (s0 : σ) (cv hv : Value) (ep : Int) (w : World) (hh : IsClasses P w cv xs) (hhv : ∃ a n c, hv = .slice a n c) (hR : R 0 s0 w) (hM : ∀ b, M b → b < w.heap.size)
    (hX : ∀ j s w', R j s w' → IsClasses P w' cv xs) (hL : ∀ j s w' w'', R j s w' → Below w'.heap.size w' w'' → R j s w'')
    (hF : ∀ (j : Nat) s (k : Nat) x w', j < xs.length + 1 → R j s w' → xs[k]? = some x → Calls Try.prog 125 #[.int .i64 k, p1, p2] w' fun e w'' => e = .returned (.bool (vis s k x).2) ∧ R (j + 1) (vis s k x).1 w'' ∧ Keeps (fun b => ¬ M b) w' w'' ∧ w'.heap.size ≤ w''.heap.size) :
    Calls Try.prog 72 #[WV cv hv ep, .int .i64 c, .func (.func 125) #[] #[p1, p2]] w fun e w' => e = .returned (.tuple #[]) ∧ ∃ j, R j (upE vis xs (xs.length + 1) c s0) w' := by
  obtain ⟨ad, cap, rfl, hl, hcap, hby, hrow⟩ := id hh
  obtain ⟨ah, nh, ch, rfl⟩ : ∃ a n c, hv = .slice a n c := hhv
  unfold maxLen at hcap
  go_enter Try.func72, Try.ntmps72
  go_wp2
  have hb0 : (w.alloc (Obj.cells #[.slice ad xs.length cap, .slice ah nh ch, .int .i64 ep] 25)).cell? ⟨w.heap.size, 0, none⟩ = some (.slice ad xs.length cap) := by simp
  have hb1 : (w.alloc (Obj.cells #[.slice ad xs.length cap, .slice ah nh ch, .int .i64 ep] 25)).cell? ⟨w.heap.size, 1, none⟩ = some (.slice ah nh ch) := by simp
  have hb2 : (w.alloc (Obj.cells #[.slice ad xs.length cap, .slice ah nh ch, .int .i64 ep] 25)).cell? ⟨w.heap.size, 2, none⟩ = some (.int .i64 ep) := by simp
  have hMw : ¬ M w.heap.size := fun h => by have := hM _ h; omega
  have hRa := hL 0 s0 w _ hR (bel1 w (Obj.cells #[.slice ad xs.length cap, .slice ah nh ch, .int .i64 ep] 25))
  clear hR hrow hh
  go_loopg [1, 10] (xs.length + 1) (fun g c' i wr => ∃ (j : Nat) (cc : Int) (s : σ), j + g = xs.length + 1 ∧ i = .int .i64 j ∧ c' = .int .i64 cc ∧ R j s wr ∧ upE vis xs (xs.length + 1) c s0 = upE vis xs g cc s ∧ wr.cell? ⟨w.heap.size, 0, none⟩ = some (.slice ad xs.length cap) ∧ wr.cell? ⟨w.heap.size, 1, none⟩ = some (.slice ah nh ch) ∧ wr.cell? ⟨w.heap.size, 2, none⟩ = some (.int .i64 ep))
  case atStart => exact ⟨0, c, s0, by omega, rfl, rfl, hRa, rfl, hb0, hb1, hb2⟩
  case round =>
    obtain ⟨j, cc, s, hj, rfl, rfl, hRs, hE, c0, c1, c2⟩ := hrel
    have HE : Hid (upE vis xs (xs.length + 1) c s0 = upE vis xs gk cc s) := hE
    clear hE hb0 hb1 hb2 hRa
    by_cases hlt : j < xs.length + 1
    · obtain ⟨g', rfl⟩ : ∃ g', gk = g' + 1 := ⟨gk - 1, by omega⟩
      have hj1 : (j : Int) < (xs.length : Int) + 1 := by omega
      cases hx : clsAt xs cc with
      | none =>
        have hh : hasB xs.length cc = false := by rw [clsAt_has, hx]; rfl
        have HX : Hid (clsAt xs cc = none) := hx
        clear hx
        go_wp2_with fail
        refine (has_any _ _ _ _ _ _ _ _ _).mono ?_
        rintro e w1 ⟨rfl, hb⟩
        rw [hh]
        go_wp2
        refine bodyPost_ret (v := .tuple #[]) (by simp [results, Try.results72, go_sem]) rfl ⟨rfl, j, ?_⟩
        rw [HE.out]
        simp only [upE, HX.out]
        exact hL _ _ _ _ hRs hb
      | some x =>
        have hh : hasB xs.length cc = true := by rw [clsAt_has, hx]; rfl
        obtain ⟨k, rfl, hxk⟩ := clsAt_some hx
        have HX : Hid (xs[k]? = some x) := hxk
        have HC : Hid (clsAt xs (k : Int) = some x) := hx
        have hk := lt_of_get hxk
        clear hx hxk
        have hk0 : (0 : Int) ≤ (k : Int) := by omega
        have hk1 : (k : Int) < (xs.length : Int) := by omega
        go_wp2_with fail
        refine (has_any _ _ _ _ _ _ _ _ _).mono ?_
        rintro e w1 ⟨rfl, hb⟩
        rw [hh]
        replace hRs := hL _ _ _ _ hRs hb
        replace c0 := cell_later hb c0
        replace c1 := cell_later hb c1
        replace c2 := cell_later hb c2
        clear hb hh
        go_wp2_with fail
        refine (hF j s k x w1 hlt hRs HX.out).mono ?_
        rintro e w2 ⟨rfl, hR2, hK2, -⟩
        replace c0 := hK2 _ _ _ hMw c0
        replace c1 := hK2 _ _ _ hMw c1
        replace c2 := hK2 _ _ _ hMw c2
        cases hv2 : (vis s k x).2
        · go_wp2
          refine bodyPost_ret (v := .tuple #[]) (by simp [results, Try.results72, go_sem]) rfl ⟨rfl, j + 1, ?_⟩
          rw [HE.out]
          simp only [upE, HC.out, Int.toNat_natCast, hv2]
          exact hR2
        · obtain ⟨ad', cap', e', -, -, -, hrow⟩ := hX _ _ _ hR2
          simp only [Value.slice.injEq] at e'
          obtain ⟨rfl, -, rfl⟩ := e'
          obtain ⟨b, o, rfl, -, -, hv1, -⟩ := hrow k x HX.out
          clear hrow
          go_wp2
          go_roundg g'
          case measure => omega
          case rel =>
            refine ⟨j + 1, x.super, (vis s k x).1, by omega, by go_num, rfl, hR2, ?_, c0, c1, c2⟩
            rw [HE.out]
            simp only [upE, HC.out, Int.toNat_natCast, hv2, if_true]
    · obtain rfl : gk = 0 := by omega
      go_wp2
      go_end0
      refine ⟨rfl, j, ?_⟩
      rw [HE.out]
      exact hRs


set_option maxHeartbeats 1000000 in
theorem slotsW1_any {P : Nat → Prop} (xs : List QC) (cv : Value) (s : Int) (k : Nat) (x : QC) (bs bw : Nat) (w : World) (hne : bs ≠ bw) (hs : w.heap[bs]? = some (.cells #[.int .i64 s] 3 (0, 0))) (hw : w.cell? ⟨bw, 0, none⟩ = some cv) (hh : IsClasses P w cv xs) (hx : xs[k]? = some x) :
    Calls Try.prog 125 #[.int .i64 k, .pointer (some ⟨bs, 0, none⟩), .pointer (some ⟨bw, 0, none⟩)] w fun e w'' => e = .returned (.bool true) ∧ w''.heap[bs]? = some (.cells #[.int .i64 (slotsVW s k x).1] 3 (0, 0)) ∧ Keeps (fun b => b ≠ bs) w w'' ∧ Below bs w w'' := by
  obtain ⟨ad, cap, rfl, hl, hcap, hby, hrow⟩ := id hh
  have hk := lt_of_get hx
  obtain ⟨b, o, rfl, -, hv0, hv1, hv2, -⟩ := hrow k x hx
  have hk0 : (0 : Int) ≤ (k : Int) := by omega
  have hk1 : (k : Int) < (xs.length : Int) := by omega
  have c1 := cell_of_one hs
  have f1 := free_of_one hs
  have HV : Hid ((slotsVW s k x).1 = IntKind.i64.wrap (s + x.slots)) := rfl
  generalize (slotsVW s k x).1 = u at *
  have hwr : IntKind.i64.wrap (s + x.slots) = u := HV.out.symm
  clear hrow hh hx
  go_enter Try.func125, Try.ntmps125
  go_wp2
  go_region
  all_goals go_wp2
  all_goals go_ret
  all_goals
    refine ⟨rfl, ?_, ?_, ?_⟩
    · first | exact one_setCell (by first | exact hs | simpa using hs) | (rw [HV.out]; exact one_setCell (by first | exact hs | simpa using hs))
    · exact Keeps.of_setCell (fun h => h rfl) _
    · first | exact bel_set _ _ _ _ | exact (bel_set _ _ _ _).drew

set_option maxHeartbeats 1000000 in
theorem slotsW_any {P : Nat → Prop} (X : QW) (c : Int) (cv hv : Value) (w : World) (hh : IsClasses P w cv X.classes) (hH : IsHeap P w hv X.heap) : Calls Try.prog 121 #[WV cv hv X.epoch, .int .i64 c] w fun e w' => e = .returned (.int .i64 (slotsW X.classes c)) ∧ Below w.heap.size w w' := by
  have hm := hmf
  obtain ⟨ad, cap, rfl, hl, hcap, hby, -⟩ := id hh
  obtain ⟨ah, ch, rfl, -, -, -, -⟩ := id hH
  go_enter Try.func121, Try.ntmps121
  go_wp2_with fail
  refine (up28_any (P := P) (M := fun b => b = w.heap.size + 1) slotsVW (SlRW (P := P) w (.slice ad X.classes.length cap) X.classes) _ _ X.classes c 0 _ _ _ _ (hh.later goodC (bel2 _ _ _)) ⟨_, _, _, rfl⟩ ?_ ?_ ?_ ?_ ?_).mono ?_
  · refine ⟨bel2 _ _ _, hh.later goodC (bel2 _ _ _), ?_, ?_⟩
    · have := heap_alloc_new (w.alloc (Obj.cells #[Value.slice ad X.classes.length cap, Value.slice ah X.heap.length ch, Value.int IntKind.i64 X.epoch] 25)) (Obj.cells #[Value.int IntKind.i64 0] 3)
      simpa using this
    · exact cell_later (bel1 _ _) (by rw [cell_new _ _ _ _ rfl]; rfl)
  · rintro b rfl; simp
  · exact fun j s w' h => h.2.1
  · rintro j s w' w'' ⟨h1, h2, h3, h4⟩ hb
    exact ⟨nstep h1 hb, h2.later goodC hb, by rw [hb.block _ (blk_lt h3)]; exact h3, cell_later hb h4⟩
  · rintro j s k x w' hj ⟨h1, h2, h3, h4⟩ hx
    refine (slotsW1_any X.classes _ s k x (w.heap.size + 1) w.heap.size w' (by omega) h3 h4 h2 hx).mono ?_
    rintro e w'' ⟨rfl, k1, k2, k3⟩
    refine ⟨rfl, ⟨h1.trans (k3.mono (by omega)), ?_, k1, k2 _ _ _ (by show _ ≠ _; omega) h4⟩, k2.mono fun b hb => hb, k3.size⟩
    exact hh.later goodC (h1.trans (k3.mono (by omega)))
  · rintro e w1 ⟨rfl, j, h1, h2, h3, h4⟩
    have c1 := cell_of_one h3
    go_wp2
    go_ret
    exact ⟨rfl, h1⟩


set_option maxHeartbeats 400000 in
theorem vwrong_kn (k n h : Int) (w : World) : Calls Try.prog 58 #[.agg #[.int .i64 k, .int .i64 n], .int .i64 h] w fun e w' => e = .returned (.int .i64 (wrongK k n h)) ∧ Below w.heap.size w w' := by
  go_enter Try.func58, Try.ntmps58
  go_wp2
  all_goals
    go_ret
    refine ⟨ret_i ?_, (Below.refl _ _).alloc (Nat.le_refl _) _⟩
    go_light
    try simp only [beq_iff_eq, bne_iff_ne, ne_eq, beq_eq_false_iff_ne, bne_eq_false_iff_eq] at *
    unfold wrongK
    (repeat' split) <;> omega
theorem vwrong_any (v : QV) (h : Int) (w : World) : Calls Try.prog 58 #[VV v, .int .i64 h] w fun e w' => e = .returned (.int .i64 (wrongV h v)) ∧ Below w.heap.size w w' := vwrong_kn v.k v.n h w

def isInB (n : Nat) (v : QV) : Bool := decide (v.k = 4 ∧ 0 ≤ v.n ∧ v.n < n)
set_option maxHeartbeats 400000 in
theorem isIn_any (a : Option Addr) (n c : Nat) (v : QV) (w : World) : Calls Try.prog 79 #[.slice a n c, VV v] w fun e w' => e = .returned (.bool (isInB n v)) ∧ Below w.heap.size w w' := by
  go_enter Try.func79, Try.ntmps79
  go_wp2
  all_goals
    go_ret
    refine ⟨ret_b ?_, bel1 _ _⟩
    go_light
    try simp only [beq_iff_eq, bne_iff_ne, ne_eq, beq_eq_false_iff_ne, bne_eq_false_iff_eq] at *
    unfold isInB
    simp [*]
    try omega
theorem isIn_at {h : List QO} {v : QV} (hi : isInB h.length v = true) : ∃ (j : Nat) (o : QO), v.n = (j : Int) ∧ j < h.length ∧ h[j]? = some o ∧ objAt h v = some o := by
  unfold isInB at hi
  simp only [decide_eq_true_eq] at hi
  obtain ⟨h1, h2, h3⟩ := hi
  have hj : v.n.toNat < h.length := by omega
  exact ⟨v.n.toNat, h[v.n.toNat], by omega, hj, by simp [hj], by unfold objAt; rw [if_pos ⟨h1, h2⟩]; simp [hj]⟩
theorem isIn_not {h : List QO} {v : QV} (hi : isInB h.length v = false) : objAt h v = none := by
  unfold isInB at hi
  simp only [decide_eq_false_iff_not] at hi
  unfold objAt
  split
  · rename_i k; exact List.getElem?_eq_none (by omega)
  · rfl
set_option maxHeartbeats 1000000 in
theorem vclass_any {P : Nat → Prop} (hs : List QO) (hv : Value) (v : QV) (w : World) (h : IsHeap P w hv hs) : Calls Try.prog 62 #[hv, VV v] w fun e w' => e = .returned (.int .i64 (classV hs v)) ∧ Below w.heap.size w w' := by
  have hb1 := bel1 w (.cells #[.int .i64 v.k, .int .i64 v.n] 27)
  have h1 := h.later goodO hb1
  have b0 : (w.alloc (.cells #[.int .i64 v.k, .int .i64 v.n] 27)).cell? ⟨w.heap.size, 0, none⟩ = some (.int .i64 v.k) := cell_new _ _ _ _ rfl 0
  have b1 : (w.alloc (.cells #[.int .i64 v.k, .int .i64 v.n] 27)).cell? ⟨w.heap.size, 1, none⟩ = some (.int .i64 v.n) := cell_new _ _ _ _ rfl 1
  obtain ⟨a, cap, rfl, -, hcap, -, -⟩ := id h
  unfold maxLen at hcap
  clear h
  go_enter Try.func62, Try.ntmps62
  go_upto_region 1 with (fail)
  generalize (w.alloc (.cells #[.int .i64 v.k, .int .i64 v.n] 27)) = W at *
  by_cases h0 : v.k = 0
  · have HE : Hid (classV hs v = 1) := by show _ = _; unfold classV; rw [if_pos h0]
    have h0' : (v.k == 0) = true := by simpa using h0
    go_wp2
    go_ret
    exact ⟨ret_i HE.out.symm, hb1⟩
  have h0' : (v.k == 0) = false := by simpa using h0
  by_cases h12 : v.k = 1
  · have HE : Hid (classV hs v = 2) := by show _ = _; unfold classV; rw [if_neg h0, if_pos (Or.inl h12)]
    have h12' : (v.k == 1) = true := by simpa using h12
    go_wp2
    go_ret
    exact ⟨ret_i HE.out.symm, hb1⟩
  have h12' : (v.k == 1) = false := by simpa using h12
  by_cases h22 : v.k = 2
  · have HE : Hid (classV hs v = 2) := by show _ = _; unfold classV; rw [if_neg h0, if_pos (Or.inr h22)]
    have h22' : (v.k == 2) = true := by simpa using h22
    go_wp2
    go_ret
    exact ⟨ret_i HE.out.symm, hb1⟩
  have h22' : (v.k == 2) = false := by simpa using h22
  by_cases h3 : v.k = 3
  · have HE : Hid (classV hs v = 3) := by show _ = _; unfold classV; rw [if_neg h0, if_neg (by omega), if_pos h3]
    have h3' : (v.k == 3) = true := by simpa using h3
    go_wp2
    go_ret
    exact ⟨ret_i HE.out.symm, hb1⟩
  have h3' : (v.k == 3) = false := by simpa using h3
  have HE : Hid (classV hs v = ((objAt hs v).map QO.cls).getD 0) := by show _ = _; unfold classV; rw [if_neg h0, if_neg (by omega), if_neg h3]
  clear h0 h12 h22 h3
  go_wp2_with fail
  refine (isIn_any a hs.length cap v _).mono ?_
  rintro e w1 ⟨rfl, hb2⟩
  have c1 := cell_later hb2 b1
  have h2 := h1.later goodO hb2
  cases hi : isInB hs.length v with
  | false =>
    have HN := hid (isIn_not hi)
    go_wp2
    go_ret
    exact ⟨ret_i (by rw [HE.out, HN.out]; rfl), nstep hb1 hb2⟩
  | true =>
    obtain ⟨j, o, hj, hjl, hjo, hob⟩ := isIn_at hi
    have HN := hid hob
    rw [hj] at c1
    obtain ⟨a', cap', e, -, -, -, hrow⟩ := h2
    cases e
    obtain ⟨b, of, rfl, -, e0, -⟩ := hrow j o hjo
    simp only [Nat.add_zero] at e0
    have hj1 : (j : Int) < (hs.length : Int) := by omega
    have hj0 : (0 : Int) ≤ (j : Int) := by omega
    clear hj hjo hob hrow
    go_wp2
    go_ret
    exact ⟨ret_i (by rw [HE.out, HN.out]; rfl), nstep hb1 hb2⟩
set_option maxHeartbeats 1000000 in
theorem vslot_any {P : Nat → Prop} (hs : List QO) (hv : Value) (v : QV) (n : Int) (w : World) (h : IsHeap P w hv hs) : Calls Try.prog 119 #[hv, VV v, .int .i64 n] w fun e w' => e = .returned (VV (slotV hs v n)) ∧ Below w.heap.size w w' := by
  have hb1 := bel2 w (.cells #[.int .i64 v.k, .int .i64 v.n] 27) (.cells #[.int .i64 0, .int .i64 0] 27)
  have h1 := h.later goodO hb1
  have b0 : ((w.alloc (.cells #[.int .i64 v.k, .int .i64 v.n] 27)).alloc (.cells #[.int .i64 0, .int .i64 0] 27)).cell? ⟨w.heap.size, 0, none⟩ = some (.int .i64 v.k) := cell_later (bel1 _ _) (cell_new _ _ _ _ rfl 0)
  have b1 : ((w.alloc (.cells #[.int .i64 v.k, .int .i64 v.n] 27)).alloc (.cells #[.int .i64 0, .int .i64 0] 27)).cell? ⟨w.heap.size, 1, none⟩ = some (.int .i64 v.n) := cell_later (bel1 _ _) (cell_new _ _ _ _ rfl 1)
  have r0 : ((w.alloc (.cells #[.int .i64 v.k, .int .i64 v.n] 27)).alloc (.cells #[.int .i64 0, .int .i64 0] 27)).cell? ⟨w.heap.size + 1, 0, none⟩ = some (.int .i64 0) := cell_new _ _ _ _ (by simp) 0
  have r1 : ((w.alloc (.cells #[.int .i64 v.k, .int .i64 v.n] 27)).alloc (.cells #[.int .i64 0, .int .i64 0] 27)).cell? ⟨w.heap.size + 1, 1, none⟩ = some (.int .i64 0) := cell_new _ _ _ _ (by simp) 1
  have rf : ∀ o, ((w.alloc (.cells #[.int .i64 v.k, .int .i64 v.n] 27)).alloc (.cells #[.int .i64 0, .int .i64 0] 27)).frozen? ⟨w.heap.size + 1, o, none⟩ = false := fun o => row_free (cur := #[.int .i64 0, .int .i64 0]) (t := 27) (by have := heap_alloc_new (w.alloc (.cells #[.int .i64 v.k, .int .i64 v.n] 27)) (.cells #[.int .i64 0, .int .i64 0] 27); simpa using this) o
  have hz : ((w.alloc (.cells #[.int .i64 v.k, .int .i64 v.n] 27)).alloc (.cells #[.int .i64 0, .int .i64 0] 27)).heap.size = w.heap.size + 2 := by simp
  obtain ⟨a, cap, rfl, -, hcap, -, -⟩ := id h
  unfold maxLen at hcap
  clear h
  go_enter Try.func119, Try.ntmps119
  go_upto_region 1 with (fail)
  generalize ((w.alloc (.cells #[.int .i64 v.k, .int .i64 v.n] 27)).alloc (.cells #[.int .i64 0, .int .i64 0] 27)) = W at *
  go_wp2_with fail
  refine (isIn_any a hs.length cap v _).mono ?_
  rintro e w1 ⟨rfl, hb2⟩
  have c1 := cell_later hb2 b1
  have h2 := h1.later goodO hb2
  have s0 := cell_later hb2 r0
  have s1 := cell_later hb2 r1
  have sf : ∀ o, w1.frozen? ⟨w.heap.size + 1, o, none⟩ = false := fun o => (hb2.frozen (p := ⟨w.heap.size + 1, o, none⟩) (by simp only [hz]; omega)).trans (rf o)
  have HB := hid (nstep hb1 hb2)
  clear hz b0 b1 r0 r1 rf hb1 hb2 h1
  cases hi : isInB hs.length v with
  | false =>
    have HN := hid (isIn_not hi)
    go_wp2
    refine bodyPost_ret (v := VV nilV) ?_ rfl ⟨by unfold slotV; rw [HN.out]; rfl, (HB.out.setCell (by simp) _).setCell (by simp) _⟩
    simp [results, Try.results119, go_sem, s0, s1]
  | true =>
    obtain ⟨j, o, hj, hjl, hjo, hob⟩ := isIn_at hi
    have HN : Hid (slotV hs v n = entryE o.slots n) := by show _ = _; unfold slotV; rw [hob]; rfl
    rw [hj] at c1
    obtain ⟨a', cap', e, -, -, -, hrow⟩ := h2
    cases e
    obtain ⟨b, of, rfl, -, e0, sv, e1, hsl⟩ := hrow j o hjo
    obtain ⟨a2, c2, rfl, -, hcap2, -, hrow2⟩ := hsl
    unfold maxLen at hcap2
    have hj1 : (j : Int) < (hs.length : Int) := by omega
    have hj0 : (0 : Int) ≤ (j : Int) := by omega
    clear hj hjo hob hrow hi
    by_cases hn : n < 0
    · have HX : Hid (entryE o.slots n = nilV) := by show _ = _; unfold entryE; rw [if_pos hn]
      have hn' : decide (n < 0) = true := by simpa using hn
      go_wp2
      refine bodyPost_ret (v := VV nilV) ?_ rfl ⟨by rw [HN.out, HX.out], (HB.out.setCell (by simp) _).setCell (by simp) _⟩
      simp [results, Try.results119, go_sem, s0, s1]
    · have hn' : decide (n < 0) = false := by simpa using hn
      obtain ⟨k, rfl⟩ : ∃ k : Nat, n = k := ⟨n.toNat, by omega⟩
      by_cases hk : k < o.slots.length
      · have hx : o.slots[k]? = some o.slots[k] := by simp [hk]
        have HX : Hid (entryE o.slots k = o.slots[k]) := by show _ = _; unfold entryE; rw [if_neg hn]; simp [hk]
        generalize o.slots[k] = x at *
        obtain ⟨b3, o3, rfl, -, x0, x1⟩ := hrow2 k x hx
        simp only [Nat.add_zero] at x0
        have hk1 : (k : Int) < (o.slots.length : Int) := by omega
        have hk2 : ¬ ((o.slots.length : Int) ≤ (k : Int)) := by omega
        go_wp2
        refine bodyPost_ret (v := VV x) ?_ rfl ⟨by rw [HN.out, HX.out], (HB.out.setCell (by simp) _).setCell (by simp) _⟩
        simp [results, Try.results119, go_sem, s0, s1]
      · have HX : Hid (entryE o.slots k = nilV) := by show _ = _; unfold entryE; rw [if_neg hn]; simp [hk]
        have hk2 : ((o.slots.length : Int) ≤ (k : Int)) := by omega
        go_wp2
        refine bodyPost_ret (v := VV nilV) ?_ rfl ⟨by rw [HN.out, HX.out], (HB.out.setCell (by simp) _).setCell (by simp) _⟩
        simp [results, Try.results119, go_sem, s0, s1]
set_option maxHeartbeats 1000000 in
theorem vbool_any (b : Bool) (w : World) : Calls Try.prog 108 #[.bool b] w fun e w' => e = .returned (VV ⟨if b then 2 else 1, 0⟩) ∧ Below w.heap.size w w' := by
  cases b
  · go_enter Try.func108, Try.ntmps108
    go_wp2
    refine bodyPost_ret (v := VV ⟨1, 0⟩) ?_ rfl ⟨rfl, bel1 _ _⟩
    simp [results, Try.results108, go_sem]
  · go_enter Try.func108, Try.ntmps108
    go_wp2
    refine bodyPost_ret (v := VV ⟨2, 0⟩) ?_ rfl ⟨rfl, bel1 _ _⟩
    simp [results, Try.results108, go_sem]
set_option maxHeartbeats 1000000 in
theorem vnumber_any (n : Int) (w : World) (h : -2000000000000000000 ≤ n ∧ n ≤ 2000000000000000000) : Calls Try.prog 107 #[.int .i64 n] w fun e w' => e = .returned (VV ⟨3, n.tmod 1073741825⟩) ∧ Below w.heap.size w w' := by
  go_enter Try.func107, Try.ntmps107
  go_wp2
  refine bodyPost_ret (v := VV ⟨3, n.tmod 1073741825⟩) ?_ rfl ⟨rfl, bel1 _ _⟩
  simp [results, Try.results107, go_sem]
theorem prod_le {a b : Int} (ha : -1073741824 ≤ a ∧ a ≤ 1073741824) (hb : -1073741824 ≤ b ∧ b ≤ 1073741824) : -2000000000000000000 ≤ a * b ∧ a * b ≤ 2000000000000000000 := by
  have h1 : a.natAbs ≤ 1073741824 := by omega
  have h2 : b.natAbs ≤ 1073741824 := by omega
  have h3 : (a * b).natAbs ≤ 1073741824 * 1073741824 := by rw [Int.natAbs_mul]; exact Nat.mul_le_mul h1 h2
  omega
/-- What Prim's walk holds. -/
structure PmR (w : World) (a b : QV) (w' : World) : Prop where
  bel : Below w.heap.size w w'
  a0 : w'.cell? ⟨w.heap.size, 0, none⟩ = some (.int .i64 a.k)
  a1 : w'.cell? ⟨w.heap.size, 1, none⟩ = some (.int .i64 a.n)
  b0 : w'.cell? ⟨w.heap.size + 1, 0, none⟩ = some (.int .i64 b.k)
  b1 : w'.cell? ⟨w.heap.size + 1, 1, none⟩ = some (.int .i64 b.n)
  r0 : w'.cell? ⟨w.heap.size + 2, 0, none⟩ = some (.int .i64 0)
  r1 : w'.cell? ⟨w.heap.size + 2, 1, none⟩ = some (.int .i64 0)
  rf : ∀ o, w'.frozen? ⟨w.heap.size + 2, o, none⟩ = false
  sz : w.heap.size + 3 ≤ w'.heap.size
theorem PmR.later {w : World} {a b : QV} {w' w'' : World} (h : PmR w a b w') (hb : Below w'.heap.size w' w'') : PmR w a b w'' :=
  ⟨nstep h.bel hb, cell_later hb h.a0, cell_later hb h.a1, cell_later hb h.b0, cell_later hb h.b1, cell_later hb h.r0, cell_later hb h.r1, fun o => (hb.frozen (p := ⟨w.heap.size + 2, o, none⟩) (by have := h.sz; simp only; omega)).trans (h.rf o), Nat.le_trans h.sz hb.size⟩
theorem pmR_new (w : World) (a b : QV) : PmR w a b (((w.alloc (.cells #[.int .i64 a.k, .int .i64 a.n] 27)).alloc (.cells #[.int .i64 b.k, .int .i64 b.n] 27)).alloc (.cells #[.int .i64 0, .int .i64 0] 27)) := by
  refine ⟨bel3 _ _ _ _, cell_later (bel2 _ _ _) (cell_new _ _ _ _ rfl 0), cell_later (bel2 _ _ _) (cell_new _ _ _ _ rfl 1), cell_later (bel1 _ _) (cell_new _ _ _ _ (by simp) 0), cell_later (bel1 _ _) (cell_new _ _ _ _ (by simp) 1), cell_new _ _ _ _ (by simp) 0, cell_new _ _ _ _ (by simp) 1, fun o => row_free (cur := #[.int .i64 0, .int .i64 0]) (t := 27) ?_ o, by simp⟩
  have := heap_alloc_new ((w.alloc (.cells #[.int .i64 a.k, .int .i64 a.n] 27)).alloc (.cells #[.int .i64 b.k, .int .i64 b.n] 27)) (.cells #[.int .i64 0, .int .i64 0] 27)
  simpa using this
set_option maxHeartbeats 2000000 in
theorem prim_any (p : Int) (a b : QV) (w : World) (ha : a.k = 3 → -1073741824 ≤ a.n ∧ a.n ≤ 1073741824) (hb : b.k = 3 → -1073741824 ≤ b.n ∧ b.n ≤ 1073741824) : Calls Try.prog 99 #[.int .i64 p, VV a, VV b] w fun e w' => e = .returned (.tuple #[VV (primV p a b).1, .int .i64 (primV p a b).2]) ∧ Below w.heap.size w w' := by
  have hR := pmR_new w a b
  go_enter Try.func99, Try.ntmps99
  go_upto_region 1 with (fail)
  generalize (((w.alloc (.cells #[.int .i64 a.k, .int .i64 a.n] 27)).alloc (.cells #[.int .i64 b.k, .int .i64 b.n] 27)).alloc (.cells #[.int .i64 0, .int .i64 0] 27)) = W at *
  obtain ⟨-, a0, a1, b0, b1, r0, r1, rf, sz⟩ := id hR
  simp only [Nat.add_assoc, Nat.reduceAdd] at *
  by_cases hk : a.k = 3 ∧ b.k = 3
  · have hab := And.intro (ha hk.1) (hb hk.2)
    have ak : (a.k == 3) = true := by simpa using hk.1
    have bk : (b.k == 3) = true := by simpa using hk.2
    have ak' : (a.k != 3) = false := by simpa using hk.1
    have bk' : (b.k != 3) = false := by simpa using hk.2
    have hP : primV p a b = if p = 1 then (⟨3, (a.n + b.n).tmod 1073741825⟩, 0) else if p = 2 then (⟨3, (a.n - b.n).tmod 1073741825⟩, 0) else if p = 3 then (⟨3, (a.n * b.n).tmod 1073741825⟩, 0) else if p = 4 then (⟨if a.n < b.n then 2 else 1, 0⟩, 0) else if p = 5 then (⟨if a.n = b.n then 2 else 1, 0⟩, 0) else (nilV, 1) := by unfold primV; rw [if_neg (by omega)]
    have wadd : IntKind.i64.wrap (a.n + b.n) = a.n + b.n := wrap_of (by omega) (by omega)
    have wsub : IntKind.i64.wrap (a.n - b.n) = a.n - b.n := wrap_of (by omega) (by omega)
    have hm := prod_le hab.1 hab.2
    have wmul : IntKind.i64.wrap (a.n * b.n) = a.n * b.n := wrap_of (by omega) (by omega)
    have hA := hid hab
    have hM := hid hm
    clear hab hm ha hb hk
    by_cases hp1 : p = 1
    · have hV : Hid (primV p a b = (⟨3, (a.n + b.n).tmod 1073741825⟩, 0)) := by show _ = _; rw [hP]; rw [if_pos hp1]
      have hq1 : (p == 1) = true := by simpa using hp1
      clear hP
      go_wp2_with fail
      refine (vnumber_any (a.n + b.n) _ (by have := hA.out; omega)).mono ?_
      rintro e w1 ⟨rfl, hb1⟩
      have hR1 := hR.later hb1
      clear a0 a1 b0 b1 r0 r1 rf hR
      obtain ⟨-, a0, a1, b0, b1, r0, r1, rf, -⟩ := id hR1
      go_wp2
      refine bodyPost_ret (v := .tuple #[VV ⟨3, (a.n + b.n).tmod 1073741825⟩, .int .i64 0]) ?_ rfl ⟨by rw [hV.out], (hR1.bel.setCell (by simp) _).setCell (by simp) _⟩
      simp [results, Try.results99, go_sem, r0, r1]
    have hq1 : (p == 1) = false := by simpa using hp1
    by_cases hp2 : p = 2
    · have hV : Hid (primV p a b = (⟨3, (a.n - b.n).tmod 1073741825⟩, 0)) := by show _ = _; rw [hP]; rw [if_neg hp1]; rw [if_pos hp2]
      have hq2 : (p == 2) = true := by simpa using hp2
      clear hP
      go_wp2_with fail
      refine (vnumber_any (a.n - b.n) _ (by have := hA.out; omega)).mono ?_
      rintro e w1 ⟨rfl, hb1⟩
      have hR1 := hR.later hb1
      clear a0 a1 b0 b1 r0 r1 rf hR
      obtain ⟨-, a0, a1, b0, b1, r0, r1, rf, -⟩ := id hR1
      go_wp2
      refine bodyPost_ret (v := .tuple #[VV ⟨3, (a.n - b.n).tmod 1073741825⟩, .int .i64 0]) ?_ rfl ⟨by rw [hV.out], (hR1.bel.setCell (by simp) _).setCell (by simp) _⟩
      simp [results, Try.results99, go_sem, r0, r1]
    have hq2 : (p == 2) = false := by simpa using hp2
    by_cases hp3 : p = 3
    · have hV : Hid (primV p a b = (⟨3, (a.n * b.n).tmod 1073741825⟩, 0)) := by show _ = _; rw [hP]; rw [if_neg hp1]; rw [if_neg hp2]; rw [if_pos hp3]
      have hq3 : (p == 3) = true := by simpa using hp3
      clear hP
      go_wp2_with fail
      refine (vnumber_any (a.n * b.n) _ hM.out).mono ?_
      rintro e w1 ⟨rfl, hb1⟩
      have hR1 := hR.later hb1
      clear a0 a1 b0 b1 r0 r1 rf hR
      obtain ⟨-, a0, a1, b0, b1, r0, r1, rf, -⟩ := id hR1
      go_wp2
      refine bodyPost_ret (v := .tuple #[VV ⟨3, (a.n * b.n).tmod 1073741825⟩, .int .i64 0]) ?_ rfl ⟨by rw [hV.out], (hR1.bel.setCell (by simp) _).setCell (by simp) _⟩
      simp [results, Try.results99, go_sem, r0, r1]
    have hq3 : (p == 3) = false := by simpa using hp3
    by_cases hp4 : p = 4
    · have hq4 : (p == 4) = true := by simpa using hp4
      by_cases hc : a.n < b.n
      · have hV : Hid (primV p a b = (⟨2, 0⟩, 0)) := by show _ = _; rw [hP]; rw [if_neg hp1]; rw [if_neg hp2]; rw [if_neg hp3]; rw [if_pos hp4, if_pos hc]
        have hd : decide (a.n < b.n) = true := by simpa using hc
        clear hP hp4 hc
        go_wp2_with fail
        refine (vbool_any true _).mono ?_
        rintro e w1 ⟨rfl, hb1⟩
        have hR1 := hR.later hb1
        clear a0 a1 b0 b1 r0 r1 rf hR
        obtain ⟨-, a0, a1, b0, b1, r0, r1, rf, -⟩ := id hR1
        go_wp2
        refine bodyPost_ret (v := .tuple #[VV ⟨2, 0⟩, .int .i64 0]) ?_ rfl ⟨by rw [hV.out], (hR1.bel.setCell (by simp) _).setCell (by simp) _⟩
        simp [results, Try.results99, go_sem, r0, r1]
      · have hV : Hid (primV p a b = (⟨1, 0⟩, 0)) := by show _ = _; rw [hP]; rw [if_neg hp1]; rw [if_neg hp2]; rw [if_neg hp3]; rw [if_pos hp4, if_neg hc]
        have hd : decide (a.n < b.n) = false := by simpa using hc
        clear hP hp4 hc
        go_wp2_with fail
        refine (vbool_any false _).mono ?_
        rintro e w1 ⟨rfl, hb1⟩
        have hR1 := hR.later hb1
        clear a0 a1 b0 b1 r0 r1 rf hR
        obtain ⟨-, a0, a1, b0, b1, r0, r1, rf, -⟩ := id hR1
        go_wp2
        refine bodyPost_ret (v := .tuple #[VV ⟨1, 0⟩, .int .i64 0]) ?_ rfl ⟨by rw [hV.out], (hR1.bel.setCell (by simp) _).setCell (by simp) _⟩
        simp [results, Try.results99, go_sem, r0, r1]
    have hq4 : (p == 4) = false := by simpa using hp4
    by_cases hp5 : p = 5
    · have hq5 : (p == 5) = true := by simpa using hp5
      by_cases hc : a.n = b.n
      · have hV : Hid (primV p a b = (⟨2, 0⟩, 0)) := by show _ = _; rw [hP]; rw [if_neg hp1]; rw [if_neg hp2]; rw [if_neg hp3]; rw [if_neg hp4]; rw [if_pos hp5, if_pos hc]
        have hd : (a.n == b.n) = true := by simpa using hc
        clear hP hp5 hc
        go_wp2_with fail
        refine (vbool_any true _).mono ?_
        rintro e w1 ⟨rfl, hb1⟩
        have hR1 := hR.later hb1
        clear a0 a1 b0 b1 r0 r1 rf hR
        obtain ⟨-, a0, a1, b0, b1, r0, r1, rf, -⟩ := id hR1
        go_wp2
        refine bodyPost_ret (v := .tuple #[VV ⟨2, 0⟩, .int .i64 0]) ?_ rfl ⟨by rw [hV.out], (hR1.bel.setCell (by simp) _).setCell (by simp) _⟩
        simp [results, Try.results99, go_sem, r0, r1]
      · have hV : Hid (primV p a b = (⟨1, 0⟩, 0)) := by show _ = _; rw [hP]; rw [if_neg hp1]; rw [if_neg hp2]; rw [if_neg hp3]; rw [if_neg hp4]; rw [if_pos hp5, if_neg hc]
        have hd : (a.n == b.n) = false := by simpa using hc
        clear hP hp5 hc
        go_wp2_with fail
        refine (vbool_any false _).mono ?_
        rintro e w1 ⟨rfl, hb1⟩
        have hR1 := hR.later hb1
        clear a0 a1 b0 b1 r0 r1 rf hR
        obtain ⟨-, a0, a1, b0, b1, r0, r1, rf, -⟩ := id hR1
        go_wp2
        refine bodyPost_ret (v := .tuple #[VV ⟨1, 0⟩, .int .i64 0]) ?_ rfl ⟨by rw [hV.out], (hR1.bel.setCell (by simp) _).setCell (by simp) _⟩
        simp [results, Try.results99, go_sem, r0, r1]
    have hq5 : (p == 5) = false := by simpa using hp5
    have hV : Hid (primV p a b = (nilV, 1)) := by show _ = _; rw [hP]; rw [if_neg hp1]; rw [if_neg hp2]; rw [if_neg hp3]; rw [if_neg hp4]; rw [if_neg hp5]
    clear hP
    go_wp2
    refine bodyPost_ret (v := .tuple #[VV nilV, .int .i64 1]) ?_ rfl ⟨by rw [hV.out], (hR.bel.setCell (by simp) _).setCell (by simp) _⟩
    simp [results, Try.results99, go_sem, r0, r1]
  · have hN : Hid (primV p a b = (nilV, 12)) := by show _ = _; unfold primV; rw [if_pos (by omega)]
    by_cases ak : a.k = 3
    · have ak' : (a.k != 3) = false := by simpa using ak
      have bk' : (b.k != 3) = true := by simpa using fun h => hk ⟨ak, h⟩
      clear ak hk ha hb
      go_wp2
      refine bodyPost_ret (v := .tuple #[VV nilV, .int .i64 12]) ?_ rfl ⟨by rw [hN.out], (hR.bel.setCell (by simp) _).setCell (by simp) _⟩
      simp [results, Try.results99, go_sem, r0, r1]
    · have ak' : (a.k != 3) = true := by simpa using ak
      clear ak hk ha hb
      go_wp2
      refine bodyPost_ret (v := .tuple #[VV nilV, .int .i64 12]) ?_ rfl ⟨by rw [hN.out], (hR.bel.setCell (by simp) _).setCell (by simp) _⟩
      simp [results, Try.results99, go_sem, r0, r1]

end Go.Proofs.Ytdfbgpiikeheiaa
