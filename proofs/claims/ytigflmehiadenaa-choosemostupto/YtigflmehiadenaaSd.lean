/- The sites of a method: the program's side. -/
import Derived.Test.YtigflmehiadenaaSb
import Derived.Test.YtigflmehiadenaaKj
namespace Go.Proofs.Ytigflmehiadenaa
open Go.ChangeShapes Go.WideShapes Go.ChangeAt Go.RowKit
set_option linter.unusedSimpArgs false
set_option linter.unusedVariables false

/-- The method of that number of the class of that number. -/
def methOf (xs : List QC) (c k : Int) : Option QM := (clsAt xs c).bind fun x => if 0 ≤ k then x.methods[k.toNat]? else none
theorem methOf_some {xs : List QC} {c k : Int} {m : QM} (h : methOf xs c k = some m) : ∃ (q t : Nat) (x : QC), c = (q : Int) ∧ k = (t : Int) ∧ xs[q]? = some x ∧ x.methods[t]? = some m := by
  unfold methOf at h
  cases hx : clsAt xs c with
  | none => rw [hx] at h; cases h
  | some x =>
    rw [hx] at h
    obtain ⟨q, rfl, hq⟩ := clsAt_some hx
    simp only [Option.bind_some] at h
    split at h
    · rename_i hk
      exact ⟨q, k.toNat, x, rfl, by omega, hq, h⟩
    · cases h
theorem methOf_no {xs : List QC} {c k : Int} (h : methOf xs c k = none) : c < 0 ∨ (xs.length : Int) ≤ c ∨ ∃ (q : Nat) (x : QC), c = (q : Int) ∧ xs[q]? = some x ∧ (k < 0 ∨ (x.methods.length : Int) ≤ k) := by
  unfold methOf at h
  cases hx : clsAt xs c with
  | none =>
    have := clsAt_has (xs := xs) (c := c)
    rw [hx] at this
    simp [hasB] at this
    omega
  | some x =>
    rw [hx] at h
    obtain ⟨q, rfl, hq⟩ := clsAt_some hx
    simp only [Option.bind_some] at h
    right; right
    refine ⟨q, x, rfl, hq, ?_⟩
    by_cases hk : 0 ≤ k
    · rw [if_pos hk] at h
      have := List.getElem?_eq_none_iff.1 h
      omega
    · omega
/-- What is told of an instruction. -/
def siteAt (X : QW) (t : List QT) (c : Int) (m : QM) (j : Nat) (i : QI) : Int := if i.op == 14 then siteE X t ⟨c, m.name, j⟩ i.name i.a else -1
def sitesE (X : QW) (t : List QT) (c k : Int) : List Int := match methOf X.classes c k with
  | some m => m.code.mapIdx (siteAt X t c m)
  | none => []

set_option maxHeartbeats 1000000 in
theorem chas_any {P : Nat → Prop} (X : QW) (c k : Int) (cv hv : Value) (w : World) (hC : IsClasses P w cv X.classes) (hH : IsHeap P w hv X.heap) : Calls Try.prog 22 #[WV cv hv X.epoch, .int .i64 c, .int .i64 k] w fun e w' => e = .returned (.bool (methOf X.classes c k).isSome) ∧ Below w.heap.size w w' := by
  obtain ⟨ad, cap, rfl, hl, hcap, -, hrow⟩ := hC
  obtain ⟨ah, ch, rfl, -⟩ := hH
  cases hm : methOf X.classes c k with
  | none =>
    rcases methOf_no hm with h | h | ⟨q, x, rfl, hx, h⟩
    · have hd : decide (0 ≤ c) = false := by simpa using h
      clear hrow
      go_enter Try.func22, Try.ntmps22
      go_wp2
      go_ret
      exact ⟨rfl, bel1 _ _⟩
    · have hd : decide (c < (X.classes.length : Int)) = false := by simpa using h
      have hd0 : decide (0 ≤ c) = true := by simp; omega
      clear hrow
      go_enter Try.func22, Try.ntmps22
      go_wp2
      go_ret
      exact ⟨rfl, bel1 _ _⟩
    · have hq := lt_of_get hx
      have hq0 : (0 : Int) ≤ (q : Int) := by omega
      have hq1 : (q : Int) < (X.classes.length : Int) := by omega
      obtain ⟨b, o, rfl, -, -, -, -, -, mv, hv3, hms⟩ := hrow q x hx
      obtain ⟨am, cm, rfl, -⟩ := hms
      have k3 := fun y => cell_later (bel1 w y) hv3
      clear hrow hx hm
      by_cases h0 : k < 0
      · have hd : decide (0 ≤ k) = false := by simpa using h0
        go_enter Try.func22, Try.ntmps22
        go_wp2
        go_ret
        exact ⟨rfl, bel1 _ _⟩
      · have hd0 : decide (0 ≤ k) = true := by simp; omega
        have hd : decide (k < (x.methods.length : Int)) = false := by simp; omega
        go_enter Try.func22, Try.ntmps22
        go_wp2
        go_ret
        exact ⟨rfl, bel1 _ _⟩
  | some m =>
    obtain ⟨q, t, x, rfl, rfl, hx, hy⟩ := methOf_some hm
    have hq := lt_of_get hx
    have ht := lt_of_get hy
    have hq0 : (0 : Int) ≤ (q : Int) := by omega
    have hq1 : (q : Int) < (X.classes.length : Int) := by omega
    have ht0 : (0 : Int) ≤ (t : Int) := by omega
    have ht1 : (t : Int) < (x.methods.length : Int) := by omega
    obtain ⟨b, o, rfl, -, -, -, -, -, mv, hv3, hms⟩ := hrow q x hx
    obtain ⟨am, cm, rfl, -⟩ := hms
    have k3 := fun y => cell_later (bel1 w y) hv3
    clear hrow hx hm hy
    go_enter Try.func22, Try.ntmps22
    go_wp2
    go_ret
    exact ⟨rfl, bel1 _ _⟩

set_option maxHeartbeats 1000000 in
theorem each_any {P : Nat → Prop} (p4 p5 p6 p9 : Value) (f : Nat → QI → Int) (xs : List QI) (v : Value) (w : World) (hh : IsCode P w v xs)
    (hF : ∀ (j : Nat) (x : QI) (w' : World), Below w.heap.size w w' → Calls Try.prog 24 #[.int .i64 j, IV x, p4, p5, p6, p9] w' fun e w'' => e = .returned (.int .i64 (f j x)) ∧ Below w'.heap.size w' w'') :
    Calls Try.prog 23 #[v, .func (.func 24) #[] #[p4, p5, p6, p9]] w fun e w' => e = .returned (.slice (some ⟨w.heap.size, 0, none⟩) xs.length xs.length) ∧ w'.heap[w.heap.size]? = some (hRow (xs.mapIdx fun j x => if x.op == 14 then f j x else -1)) ∧ Below w.heap.size w w' := by
  obtain ⟨ad, cap, rfl, hl, hcap, hby, hrow⟩ := hh
  have hmk := make_ints xs.length (by omega)
  have hb0 := bel1 w (hRow (List.replicate xs.length 0))
  have hg0 := heap_alloc_new w (hRow (List.replicate xs.length 0))
  go_enter Try.func23, Try.ntmps23
  go_wp2
  go_loopg [13] xs.length (fun g c wr => ∃ (j : Nat) (h : List Int), j + g = xs.length ∧ c = .int .i64 j ∧ h.length = xs.length ∧ (∀ i y, i < j → xs[i]? = some y → h[i]? = some (if y.op == 14 then f i y else -1)) ∧ wr.heap[w.heap.size]? = some (hRow h) ∧ Below w.heap.size w wr)
  case atStart => exact ⟨0, List.replicate xs.length 0, by omega, rfl, by simp, fun i y hi => by omega, hg0, hb0⟩
  case round =>
    obtain ⟨j, h, hj, rfl, hlen, hno, hg, hbel⟩ := hrel
    have HN : Hid (∀ i y, i < j → xs[i]? = some y → h[i]? = some (if y.op == 14 then f i y else -1)) := hno
    clear hno hg0 hb0
    by_cases hlt : j < xs.length
    · obtain ⟨b, o, rfl, -, hv0, hv1, hv2, hv3, hv4, hsz⟩ := hrow j xs[j] (by simp [hlt])
      have hxj : Hid (xs[j]? = some xs[j]) := by show _ = _; simp [hlt]
      generalize xs[j] = x at *
      simp only [Nat.add_zero] at hv0
      have u0 := cell_later hbel hv0
      have u1 := cell_later hbel hv1
      have u2 := cell_later hbel hv2
      have u3 := cell_later hbel hv3
      have u4 := cell_later hbel hv4
      clear hv0 hv1 hv2 hv3 hv4 hrow
      have hj1 : (j : Int) < (xs.length : Int) := by omega
      have hj0 : (0 : Int) ≤ (j : Int) := by omega
      have hbx := bel1 wr (Obj.cells #[Value.int IntKind.i64 x.op, Value.int IntKind.i64 x.a, Value.int IntKind.i64 x.b, Value.int IntKind.i64 x.c, Value.string x.name] 52)
      have hg1 : (wr.alloc (Obj.cells #[Value.int IntKind.i64 x.op, Value.int IntKind.i64 x.a, Value.int IntKind.i64 x.b, Value.int IntKind.i64 x.c, Value.string x.name] 52)).heap[w.heap.size]? = some (hRow h) := by rw [hbx.block _ (blk_lt hg)]; exact hg
      have hgl := blk_lt hg
      have gc := hRow_cell hg1 (k := j) (by omega)
      have gf := hRow_free hg1 j
      have n0 : (wr.alloc (Obj.cells #[Value.int IntKind.i64 x.op, Value.int IntKind.i64 x.a, Value.int IntKind.i64 x.b, Value.int IntKind.i64 x.c, Value.string x.name] 52)).cell? ⟨wr.heap.size, 0, none⟩ = some (.int .i64 x.op) := by rw [cell_new _ _ _ _ rfl]; rfl
      have n1 : (wr.alloc (Obj.cells #[Value.int IntKind.i64 x.op, Value.int IntKind.i64 x.a, Value.int IntKind.i64 x.b, Value.int IntKind.i64 x.c, Value.string x.name] 52)).cell? ⟨wr.heap.size, 1, none⟩ = some (.int .i64 x.a) := by rw [cell_new _ _ _ _ rfl]; rfl
      have n2 : (wr.alloc (Obj.cells #[Value.int IntKind.i64 x.op, Value.int IntKind.i64 x.a, Value.int IntKind.i64 x.b, Value.int IntKind.i64 x.c, Value.string x.name] 52)).cell? ⟨wr.heap.size, 2, none⟩ = some (.int .i64 x.b) := by rw [cell_new _ _ _ _ rfl]; rfl
      have n3 : (wr.alloc (Obj.cells #[Value.int IntKind.i64 x.op, Value.int IntKind.i64 x.a, Value.int IntKind.i64 x.b, Value.int IntKind.i64 x.c, Value.string x.name] 52)).cell? ⟨wr.heap.size, 3, none⟩ = some (.int .i64 x.c) := by rw [cell_new _ _ _ _ rfl]; rfl
      have n4 : (wr.alloc (Obj.cells #[Value.int IntKind.i64 x.op, Value.int IntKind.i64 x.a, Value.int IntKind.i64 x.b, Value.int IntKind.i64 x.c, Value.string x.name] 52)).cell? ⟨wr.heap.size, 4, none⟩ = some (.string x.name) := by rw [cell_new _ _ _ _ rfl]; rfl
      have hbw := nstep hbel hbx
      go_upto_region 5 with (fail)
      generalize hbb : wr.heap.size = bi at *
      generalize (wr.alloc (Obj.cells #[Value.int IntKind.i64 x.op, Value.int IntKind.i64 x.a, Value.int IntKind.i64 x.b, Value.int IntKind.i64 x.c, Value.string x.name] 52)) = W1 at *
      have hne : bi ≠ w.heap.size := by omega
      clear hbx u0 u1 u2 u3 u4 hg hbel hbb
      have hg2 := hRow_set hg1 j (-1)
      have m0 := (World.cell?_setCell_other W1 ⟨w.heap.size, j, none⟩ ⟨bi, 0, none⟩ (.int .i64 (-1)) (by simp [hne])).trans n0
      have m1 := (World.cell?_setCell_other W1 ⟨w.heap.size, j, none⟩ ⟨bi, 1, none⟩ (.int .i64 (-1)) (by simp [hne])).trans n1
      have m2 := (World.cell?_setCell_other W1 ⟨w.heap.size, j, none⟩ ⟨bi, 2, none⟩ (.int .i64 (-1)) (by simp [hne])).trans n2
      have m3 := (World.cell?_setCell_other W1 ⟨w.heap.size, j, none⟩ ⟨bi, 3, none⟩ (.int .i64 (-1)) (by simp [hne])).trans n3
      have m4 := (World.cell?_setCell_other W1 ⟨w.heap.size, j, none⟩ ⟨bi, 4, none⟩ (.int .i64 (-1)) (by simp [hne])).trans n4
      have hb2 : Below w.heap.size w (W1.setCell ⟨w.heap.size, j, none⟩ (.int .i64 (-1))) := hbw.setCell (Nat.le_refl _) _
      go_upto_region 6 with (fail)
      generalize (W1.setCell { block := w.heap.size, off := j } (Value.int IntKind.i64 (-1))) = W2 at *
      clear n0 n1 n2 n3 n4 hg1 gc gf hbw
      have HQ : Hid (∀ v : Int, v = (if x.op == 14 then f j x else -1) → ∀ i y, i < j + 1 → xs[i]? = some y → ((h.set j (-1)).set j v)[i]? = some (if y.op == 14 then f i y else -1)) := fun v hv i y hi hy => by
        by_cases hij : i = j
        · subst hij
          rw [hxj.out] at hy; cases hy
          rw [hv]
          simp [hlen, hlt]
        · rw [List.getElem?_set_ne (by omega), List.getElem?_set_ne (by omega)]
          exact HN.out i y (by omega) hy
      by_cases h14 : x.op = 14
      · have hd : (x.op == 14) = true := by simpa using h14
        have HV : Hid (∀ i y, i < j + 1 → xs[i]? = some y → ((h.set j (-1)).set j (f j x))[i]? = some (if y.op == 14 then f i y else -1)) := HQ.out _ (by rw [hd]; simp)
        clear h14 HQ HN
        go_wp2_with fail
        refine (hF j x _ hb2).mono ?_
        rintro e w3 ⟨rfl, hb3⟩
        have hg3 : w3.heap[w.heap.size]? = some (hRow (h.set j (-1))) := by rw [hb3.block _ (blk_lt hg2)]; exact hg2
        have gc := hRow_cell hg3 (k := j) (by simp; omega)
        have gf := hRow_free hg3 j
        have hg4 := hRow_set hg3 j (f j x)
        have hb4 : Below w.heap.size w (w3.setCell ⟨w.heap.size, j, none⟩ (.int .i64 (f j x))) := (nstep hb2 hb3).setCell (Nat.le_refl _) _
        clear hg2 m0 m1 m2 m3 m4 hb3
        go_wp2
        go_roundg (gk - 1)
        case measure => omega
        case rel => exact ⟨j + 1, _, by omega, by go_num, by simp; exact hlen, HV.out, hg4, hb4⟩
      · have hd : (x.op == 14) = false := by simpa using h14
        have HV : Hid (∀ i y, i < j + 1 → xs[i]? = some y → (h.set j (-1))[i]? = some (if y.op == 14 then f i y else -1)) := by
          have := HQ.out (-1) (by rw [hd]; simp)
          rw [List.set_set] at this
          exact this
        clear h14 HQ HN
        go_wp2
        go_roundg (gk - 1)
        case measure => omega
        case rel => exact ⟨j + 1, _, by omega, by go_num, by simp; exact hlen, HV.out, hg2, hb2⟩
    · obtain rfl : j = xs.length := by omega
      go_wp2
      go_ret
      refine ⟨rfl, ?_, hbel⟩
      rw [hg]
      congr 3
      refine List.ext_getElem? fun i => ?_
      by_cases hi : i < xs.length
      · have hx : xs[i]? = some xs[i] := by simp [hi]
        rw [HN.out i _ hi hx]
        simp [hi]
      · rw [List.getElem?_eq_none (by omega), List.getElem?_eq_none (by simp; omega)]
theorem sites1_any {P P2 : Nat → Prop} (X : QW) (t : List QT) (c : Int) (m : QM) (j : Nat) (x : QI) (b0 b1 b2 b3 : Nat) (cv hv tv : Value) (w : World) (hC : IsClasses P w cv X.classes) (hH : IsHeap P w hv X.heap) (hT : IsTallies P2 w tv t)
    (k0 : w.cell? ⟨b0, 0, none⟩ = some cv) (k1 : w.cell? ⟨b0, 1, none⟩ = some hv) (k2 : w.cell? ⟨b0, 2, none⟩ = some (.int .i64 X.epoch)) (k3 : w.cell? ⟨b1, 0, none⟩ = some tv) (k4 : w.cell? ⟨b2, 0, none⟩ = some (.int .i64 c)) (k5 : w.cell? ⟨b3, 0, none⟩ = some (.string m.name)) :
    Calls Try.prog 24 #[.int .i64 j, IV x, .pointer (some ⟨b0, 0, none⟩), .pointer (some ⟨b1, 0, none⟩), .pointer (some ⟨b2, 0, none⟩), .pointer (some ⟨b3, 0, none⟩)] w fun e w' => e = .returned (.int .i64 (siteE X t ⟨c, m.name, j⟩ x.name x.a)) ∧ Below w.heap.size w w' := by
  obtain ⟨ad, cap, rfl, -⟩ := id hC
  obtain ⟨ah, ch, rfl, -⟩ := id hH
  obtain ⟨at', ct, rfl, -⟩ := id hT
  have k0' := fun y => cell_later (bel1 w y) k0
  have k1' := fun y => cell_later (bel1 w y) k1
  have k2' := fun y => cell_later (bel1 w y) k2
  have k3' := fun y => cell_later (bel1 w y) k3
  have k4' := fun y => cell_later (bel1 w y) k4
  have k5' := fun y => cell_later (bel1 w y) k5
  clear k0 k1 k2 k3 k4 k5
  go_enter Try.func24, Try.ntmps24
  go_wp2_with fail
  refine (site_any X t ⟨c, m.name, j⟩ x.name x.a _ _ _ _ (hC.later goodC (bel1 _ _)) (hH.later goodO (bel1 _ _)) (hT.later goodT (bel1 _ _))).mono ?_
  rintro e w1 ⟨rfl, hb⟩
  go_wp2
  go_ret
  exact ⟨rfl, nstep1 (Below.refl _ _) hb⟩

/-- The boxes of Sites. -/
structure SitB (w : World) (cv hv tv : Value) (ep c : Int) (w' : World) : Prop where
  k0 : w'.cell? ⟨w.heap.size, 0, none⟩ = some cv
  k1 : w'.cell? ⟨w.heap.size, 1, none⟩ = some hv
  k2 : w'.cell? ⟨w.heap.size, 2, none⟩ = some (.int .i64 ep)
  k3 : w'.cell? ⟨w.heap.size + 1, 0, none⟩ = some tv
  k4 : w'.cell? ⟨w.heap.size + 1 + 1, 0, none⟩ = some (.int .i64 c)
  bel : Below w.heap.size w w'
theorem SitB.later {w : World} {cv hv tv : Value} {ep c : Int} {w' w'' : World} (h : SitB w cv hv tv ep c w') (hb : Below w'.heap.size w' w'') : SitB w cv hv tv ep c w'' :=
  ⟨cell_later hb h.k0, cell_later hb h.k1, cell_later hb h.k2, cell_later hb h.k3, cell_later hb h.k4, nstep h.bel hb⟩
theorem sitB_new (w : World) (cv hv tv : Value) (ep c : Int) : SitB w cv hv tv ep c (((w.alloc (.cells #[cv, hv, .int .i64 ep] 25)).alloc (.cells #[tv] 26)).alloc (.cells #[.int .i64 c] 3)) := by
  refine ⟨?_, ?_, ?_, ?_, ?_, bel3 _ _ _ _⟩
  · exact cell_later (bel2 _ _ _) (by rw [cell_new _ _ _ _ rfl]; rfl)
  · exact cell_later (bel2 _ _ _) (by rw [cell_new _ _ _ _ rfl]; rfl)
  · exact cell_later (bel2 _ _ _) (by rw [cell_new _ _ _ _ rfl]; rfl)
  · exact cell_later (bel1 _ _) (by rw [cell_new _ _ _ _ (by simp)]; rfl)
  · rw [cell_new _ _ _ _ (by simp)]; rfl

set_option maxHeartbeats 1000000 in
theorem sites_any {P P2 : Nat → Prop} (X : QW) (t : List QT) (c k : Int) (cv hv tv : Value) (w : World) (hC : IsClasses P w cv X.classes) (hH : IsHeap P w hv X.heap) (hT : IsTallies P2 w tv t) :
    Calls Try.prog 9 #[WV cv hv X.epoch, tv, .int .i64 c, .int .i64 k] w fun e w' => ∃ a cap, e = .returned (.slice a (sitesE X t c k).length cap) ∧ IsInts (fun b => w.heap.size ≤ b) w' (.slice a (sitesE X t c k).length cap) (sitesE X t c k) ∧ Below w.heap.size w w' := by
  have hm := hmf
  obtain ⟨ad, cap, rfl, hl, hcap, -, hrow⟩ := id hC
  obtain ⟨ah, ch, rfl, -⟩ := id hH
  obtain ⟨at', ct, rfl, -⟩ := id hT
  have hB := sitB_new w (.slice ad X.classes.length cap) (.slice ah X.heap.length ch) (.slice at' t.length ct) X.epoch c
  go_enter Try.func9, Try.ntmps9
  go_upto_region 1 with (fail)
  generalize ((w.alloc (.cells #[.slice ad X.classes.length cap, .slice ah X.heap.length ch, .int .i64 X.epoch] 25)).alloc (.cells #[.slice at' t.length ct] 26)).alloc (.cells #[.int .i64 c] 3) = W0 at *
  have hC0 := hC.later goodC hB.bel
  have hH0 := hH.later goodO hB.bel
  obtain ⟨k0, k1, k2, k3, k4, hbel⟩ := id hB
  go_wp2_with fail
  refine (chas_any X c k _ _ _ hC0 hH0).mono ?_
  rintro e w1 ⟨rfl, hb1⟩
  replace hB := hB.later hb1
  clear hb1 k0 k1 k2 k3 k4 hC0 hH0 hbel
  cases hmo : methOf X.classes c k with
  | none =>
    have HS : Hid (sitesE X t c k = []) := by show _ = _; simp [sitesE, hmo]
    go_wp2
    go_ret
    refine ⟨none, 0, ?_, ?_, hB.bel⟩
    · rw [HS.out]; rfl
    · rw [HS.out]; exact row_none
  | some m =>
    have HS : Hid (sitesE X t c k = m.code.mapIdx (siteAt X t c m)) := by show _ = _; simp [sitesE, hmo]
    obtain ⟨q, t', x, rfl, rfl, hx, hy⟩ := methOf_some hmo
    clear hmo
    have hq := lt_of_get hx
    have ht := lt_of_get hy
    obtain ⟨b, o, rfl, -, -, -, -, -, mv, hv3, hms⟩ := hrow q x hx
    obtain ⟨am, cm, rfl, hlm, hcm, -, hrm⟩ := hms
    obtain ⟨b2, o2, rfl, -, y0, y1, y2, y3, -, sv, y4, hco⟩ := hrm t' m hy
    obtain ⟨ac, cc, rfl, hlc, hcc, hbyc, -⟩ := id hco
    simp only [Nat.add_zero] at y0
    have u3 := cell_later hB.bel hv3
    have z0 := cell_later hB.bel y0
    have z1 := cell_later hB.bel y1
    have z2 := cell_later hB.bel y2
    have z3 := cell_later hB.bel y3
    have z4 := cell_later hB.bel y4
    unfold maxLen at hcap hcm
    have hq1 : (q : Int) < (X.classes.length : Int) := by omega
    have hq0 : (0 : Int) ≤ (q : Int) := by omega
    have ht1 : (t' : Int) < (x.methods.length : Int) := by omega
    have ht0 : (0 : Int) ≤ (t' : Int) := by omega
    obtain ⟨k0, k1, k2, k3, k4, hbel⟩ := id hB
    have hbx := bel1 w1 (Obj.cells #[.string m.name, .int .i64 m.args, .int .i64 m.temps, .int .i64 m.prim, .slice ac m.code.length cc] 37)
    have n0 : (w1.alloc (Obj.cells #[.string m.name, .int .i64 m.args, .int .i64 m.temps, .int .i64 m.prim, .slice ac m.code.length cc] 37)).cell? ⟨w1.heap.size, 0, none⟩ = some (.string m.name) := by rw [cell_new _ _ _ _ rfl]; rfl
    have n4 : (w1.alloc (Obj.cells #[.string m.name, .int .i64 m.args, .int .i64 m.temps, .int .i64 m.prim, .slice ac m.code.length cc] 37)).cell? ⟨w1.heap.size, 4, none⟩ = some (.slice ac m.code.length cc) := by rw [cell_new _ _ _ _ rfl]; rfl
    go_upto_region 4 with (fail)
    replace hB := hB.later hbx
    generalize (w1.alloc (Obj.cells #[.string m.name, .int .i64 m.args, .int .i64 m.temps, .int .i64 m.prim, .slice ac m.code.length cc] 37)) = W2 at *
    generalize w1.heap.size = bm at *
    have hcl := hco.later goodI hB.bel
    have hC2 := hC.later goodC hB.bel
    have hH2 := hH.later goodO hB.bel
    have hT2 := hT.later goodT hB.bel
    clear k0 k1 k2 k3 k4 hbx u3 z0 z1 z2 z3 z4 hrow hrm hx hy hv3 y0 y1 y2 y3 y4 hbel
    go_wp2_with fail
    refine (each_any _ _ _ _ (fun j x => siteE X t ⟨(q : Int), m.name, j⟩ x.name x.a) m.code _ _ hcl fun j x w' hb => sites1_any X t (q : Int) m j x _ _ _ _ _ _ _ w' (hC2.later goodC hb) (hH2.later goodO hb) (hT2.later goodT hb) (cell_later hb hB.k0) (cell_later hb hB.k1) (cell_later hb hB.k2) (cell_later hb hB.k3) (cell_later hb hB.k4) (cell_later hb n0)).mono ?_
    rintro e w3 ⟨rfl, hg, hb3⟩
    have HL : Hid ((m.code.mapIdx fun j x => if x.op == 14 then siteE X t ⟨(q : Int), m.name, j⟩ x.name x.a else -1) = sitesE X t (q : Int) (t' : Int)) := by show _ = _; rw [HS.out]; rfl
    rw [HL.out] at hg
    have hlen : m.code.length = (sitesE X t (q : Int) (t' : Int)).length := by rw [HS.out]; simp
    go_wp2
    go_ret
    refine ⟨some ⟨W2.heap.size, 0, none⟩, m.code.length, by rw [hlen]; rfl, ?_, nstep hB.bel hb3⟩
    have := hB.bel.size
    have := (intCells (P := fun b => w.heap.size ≤ b) (w := w3) (sitesE X t (q : Int) (t' : Int))).row (bytes := 8) (cap := m.code.length) goodN (by omega) hg (by rw [List.take_of_length_le (by simp [hCells])]; simp [hCells]) (by omega) (by omega) (by omega)
    exact this
end Go.Proofs.Ytigflmehiadenaa
