/- The sites of a method: the reference. -/
import Derived.Test.YtigflmehiadenaaSd
namespace Go.Proofs.Ytigflmehiadenaa
open Go.ChangeShapes Go.WideShapes Go.ChangeAt Go.RowKit
set_option linter.unusedSimpArgs false
set_option linter.unusedVariables false

theorem mapIdx_take_snoc {α β : Type} (f : Nat → α → β) (xs : List α) (j : Nat) (x : α) (h : xs[j]? = some x) : (xs.take (j + 1)).mapIdx f = (xs.take j).mapIdx f ++ [f j x] := by
  have hj := lt_of_get h
  rw [take_snoc h, List.mapIdx_append]
  simp [Nat.min_eq_left (Nat.le_of_lt hj)]
theorem own_ints {w : World} {B k : Nat} {a : Option Addr} {l : List Int} {P : Nat → Prop} (hown : w.ownsRow B 3 1 (.slice a l.length k) l.length (l.map fun x => .int .i64 x)) (hP : ∀ b, B ≤ b → P b) (hl : l.length * 8 ≤ 140737488351232) : IsInts P w (.slice a l.length k) l := by
  obtain ⟨-, ⟨e, h0⟩ | ⟨g, c, cur, e, h1, h2, h3, h4, h5, h6⟩⟩ := hown
  · have : l = [] := List.eq_nil_of_length_eq_zero h0
    subst this
    refine ⟨a, k, rfl, by simp, ?_, by simp, fun i x hx => by simp at hx⟩
    cases e; unfold maxLen; omega
  · cases e
    exact (intCells l).row goodN (hP _ h1) h2 h6 h3 h4 hl
theorem owns_later {w w' : World} {B sz n : Nat} {e : TypeId} {v : Value} {xs : List Value} (h : w.ownsRow B e sz v n xs) (hb : Below w.heap.size w w') : w'.ownsRow B e sz v n xs := by
  obtain ⟨h0, h1 | ⟨g, c, cur, e, h1, h2, h3, h4, h5, h6⟩⟩ := h
  · exact ⟨h0, Or.inl h1⟩
  · exact ⟨h0, Or.inr ⟨g, c, cur, e, h1, by rw [hb.block _ (blk_lt h2)]; exact h2, h3, h4, h5, h6⟩⟩
/-- The boxes of the reference's Sites. -/
structure RsB (w : World) (cv hv : Value) (ep : Int) (m : QM) (mc : Value) (w' : World) : Prop where
  k0 : w'.cell? ⟨w.heap.size, 0, none⟩ = some cv
  k1 : w'.cell? ⟨w.heap.size, 1, none⟩ = some hv
  k2 : w'.cell? ⟨w.heap.size, 2, none⟩ = some (.int .i64 ep)
  k3 : w'.cell? ⟨w.heap.size + 1, 0, none⟩ = some (.string m.name)
  k4 : w'.cell? ⟨w.heap.size + 1, 4, none⟩ = some mc
  bel : Below w.heap.size w w'
  sz : w.heap.size + 1 + 1 ≤ w'.heap.size
theorem RsB.later {w : World} {cv hv : Value} {ep : Int} {m : QM} {mc : Value} {w' w'' : World} (h : RsB w cv hv ep m mc w') (hb : Below (w.heap.size + 1 + 1) w' w'') : RsB w cv hv ep m mc w'' :=
  ⟨(hb.cell (p := ⟨w.heap.size, 0, none⟩) (by simp; omega)).trans h.k0, (hb.cell (p := ⟨w.heap.size, 1, none⟩) (by simp; omega)).trans h.k1, (hb.cell (p := ⟨w.heap.size, 2, none⟩) (by simp; omega)).trans h.k2, (hb.cell (p := ⟨w.heap.size + 1, 0, none⟩) (by simp)).trans h.k3, (hb.cell (p := ⟨w.heap.size + 1, 4, none⟩) (by simp)).trans h.k4, h.bel.trans (hb.mono (by omega)), Nat.le_trans h.sz hb.size⟩
theorem rsB_new (w : World) (cv hv : Value) (ep : Int) (m : QM) (mc : Value) : RsB w cv hv ep m mc ((w.alloc (.cells #[cv, hv, .int .i64 ep] 25)).alloc (.cells #[.string m.name, .int .i64 m.args, .int .i64 m.temps, .int .i64 m.prim, mc] 37)) := by
  refine ⟨?_, ?_, ?_, ?_, ?_, bel2 _ _ _, by simp⟩
  · exact cell_later (bel1 _ _) (by rw [cell_new _ _ _ _ rfl]; rfl)
  · exact cell_later (bel1 _ _) (by rw [cell_new _ _ _ _ rfl]; rfl)
  · exact cell_later (bel1 _ _) (by rw [cell_new _ _ _ _ rfl]; rfl)
  · rw [cell_new _ _ _ _ (by simp)]; rfl
  · rw [cell_new _ _ _ _ (by simp)]; rfl

set_option maxHeartbeats 2000000 in
theorem rsites_any {P P2 : Nat → Prop} (X : QW) (t : List QT) (c k : Int) (cv hv tv : Value) (w : World) (hC : IsClasses P w cv X.classes) (hH : IsHeap P w hv X.heap) (hT : IsTallies P2 w tv t) (hM : ∀ s, (mostL (linesAt t s)).found ≤ 1000000) :
    Calls Try.prog 10 #[WV cv hv X.epoch, tv, .int .i64 c, .int .i64 k] w fun e w' => ∃ a cap, e = .returned (.slice a (sitesE X t c k).length cap) ∧ IsInts (fun b => w.heap.size ≤ b) w' (.slice a (sitesE X t c k).length cap) (sitesE X t c k) ∧ Below w.heap.size w w' := by
  obtain ⟨ad, cap, rfl, hl, hcap, -, hrow⟩ := id hC
  obtain ⟨ah, ch, rfl, -⟩ := id hH
  obtain ⟨at', ct, rfl, -⟩ := id hT
  obtain ⟨i0, hi, hz0, hz1, hz2⟩ := info_parts info3
  cases hmo : methOf X.classes c k with
  | none =>
    have HS : Hid (sitesE X t c k = []) := by show _ = _; simp [sitesE, hmo]
    have hend : ∀ w', Below w.heap.size w w' → ∃ a cap, Ending.returned (.slice none 0 0) = .returned (.slice a (sitesE X t c k).length cap) ∧ IsInts (fun b => w.heap.size ≤ b) w' (.slice a (sitesE X t c k).length cap) (sitesE X t c k) ∧ Below w.heap.size w w' := fun w' hb => by
      rw [HS.out]; exact ⟨none, 0, rfl, row_none, hb⟩
    rcases methOf_no hmo with h | h | ⟨q, x, rfl, hx, h⟩
    · have hd : decide (c < 0) = true := by simpa using h
      clear hrow
      go_enter Try.func10, Try.ntmps10
      go_wp2
      go_ret
      exact hend _ (bel1 _ _)
    · have hd : decide ((X.classes.length : Int) ≤ c) = true := by simpa using h
      have hd0 : decide (c < 0) = false := by simp; omega
      clear hrow
      go_enter Try.func10, Try.ntmps10
      go_wp2
      go_ret
      exact hend _ (bel1 _ _)
    · have hq := lt_of_get hx
      have hq0 : (0 : Int) ≤ (q : Int) := by omega
      have hq1 : (q : Int) < (X.classes.length : Int) := by omega
      have hqn : decide ((q : Int) < 0) = false := by simp
      have hqm : decide (X.classes.length ≤ q) = false := by simp; omega
      obtain ⟨b, o, rfl, -, -, -, -, -, mv, hv3, hms⟩ := hrow q x hx
      obtain ⟨am, cm, rfl, -⟩ := hms
      have k3 := fun y => cell_later (bel1 w y) hv3
      clear hrow hx hmo
      by_cases h0 : k < 0
      · have hd : decide (k < 0) = true := by simpa using h0
        go_enter Try.func10, Try.ntmps10
        go_wp2
        go_ret
        exact hend _ (bel1 _ _)
      · have hd0 : decide (k < 0) = false := by simpa using h0
        have hd : decide ((x.methods.length : Int) ≤ k) = true := by simp; omega
        go_enter Try.func10, Try.ntmps10
        go_wp2
        go_ret
        exact hend _ (bel1 _ _)
  | some m =>
    have HS : Hid (sitesE X t c k = m.code.mapIdx (siteAt X t c m)) := by show _ = _; simp [sitesE, hmo]
    obtain ⟨q, t', x, rfl, rfl, hx, hy⟩ := methOf_some hmo
    clear hmo
    have hq := lt_of_get hx
    have ht := lt_of_get hy
    obtain ⟨b, o, rfl, -, -, -, -, -, mv, hv3, hms⟩ := hrow q x hx
    obtain ⟨am, cm, rfl, hlm, hcm, -, hrm⟩ := hms
    obtain ⟨b2, o2, rfl, -, y0, y1, y2, y3, -, sv, y4, hco⟩ := hrm t' m hy
    obtain ⟨ac, cc, rfl, hlc, hcc, hbyc, hrc⟩ := id hco
    simp only [Nat.add_zero] at y0
    have u3 := fun y => cell_later (bel1 w y) hv3
    have z0 := fun y => cell_later (bel1 w y) y0
    have z1 := fun y => cell_later (bel1 w y) y1
    have z2 := fun y => cell_later (bel1 w y) y2
    have z3 := fun y => cell_later (bel1 w y) y3
    have z4 := fun y => cell_later (bel1 w y) y4
    unfold maxLen at hcap hcm
    have hq1 : (q : Int) < (X.classes.length : Int) := by omega
    have hq0 : (0 : Int) ≤ (q : Int) := by omega
    have ht1 : (t' : Int) < (x.methods.length : Int) := by omega
    have ht0 : (0 : Int) ≤ (t' : Int) := by omega
    have hqn : decide ((q : Int) < 0) = false := by simp
    have hqm : decide (X.classes.length ≤ q) = false := by simp; omega
    have htn : decide ((t' : Int) < 0) = false := by simp
    have htm : decide (x.methods.length ≤ t') = false := by simp; omega
    have hB := rsB_new w (.slice (some ⟨b, o, none⟩) X.classes.length cap) (.slice ah X.heap.length ch) X.epoch m (.slice ac m.code.length cc)
    go_enter Try.func10, Try.ntmps10
    go_upto_region 5 with (fail)
    generalize (w.alloc (.cells #[.slice (some ⟨b, o, none⟩) X.classes.length cap, .slice ah X.heap.length ch, .int .i64 X.epoch] 25)).alloc (.cells #[.string m.name, .int .i64 m.args, .int .i64 m.temps, .int .i64 m.prim, .slice ac m.code.length cc] 37) = W0 at *
    clear u3 z0 z1 z2 z3 z4 y0 y1 y2 y3 y4 hv3 hrm hrow hx hy
    have n4 := hB.k4
    go_wp2
    clear n4
    go_loopg [9, 51] m.code.length (fun g l i wr => ∃ (j : Nat) (pre : List Int) (a : Option Addr) (k : Nat), j + g = m.code.length ∧ i = .int .i64 j ∧ l = .slice a pre.length k ∧ pre = (m.code.take j).mapIdx (siteAt X t q m) ∧ RsB w (.slice (some ⟨b, o, none⟩) X.classes.length cap) (.slice ah X.heap.length ch) X.epoch m (.slice ac m.code.length cc) wr ∧ wr.ownsRow (w.heap.size + 1 + 1) 3 1 (.slice a pre.length k) pre.length (pre.map fun x => .int .i64 x))
    case atStart => exact ⟨0, [], none, 0, by omega, rfl, rfl, by simp, hB, ⟨by simp, Or.inl ⟨rfl, rfl⟩⟩⟩
    case round =>
      obtain ⟨j, pre, a, kk, hj, rfl, rfl, hpre, hb, hown⟩ := hrel
      have HP : Hid (pre = (m.code.take j).mapIdx (siteAt X t q m)) := hpre
      have hpl : pre.length ≤ m.code.length := by rw [hpre]; simp; omega
      clear hpre hB
      by_cases hlt : j < m.code.length
      · obtain ⟨b3, o3, rfl, -, hv0, hv1, hv2, hv3, hv4, hsz⟩ := hrc j m.code[j] (by simp [hlt])
        have hxj : Hid (m.code[j]? = some m.code[j]) := by show _ = _; simp [hlt]
        generalize m.code[j] = y at *
        simp only [Nat.add_zero] at hv0
        have u0 := cell_later hb.bel hv0
        have u1 := cell_later hb.bel hv1
        have u2 := cell_later hb.bel hv2
        have u3 := cell_later hb.bel hv3
        have u4 := cell_later hb.bel hv4
        clear hv0 hv1 hv2 hv3 hv4 hrc
        have hj1 : (j : Int) < (m.code.length : Int) := by omega
        have hj0 : (0 : Int) ≤ (j : Int) := by omega
        have hbx := bel1 wr (Obj.cells #[Value.int IntKind.i64 y.op, Value.int IntKind.i64 y.a, Value.int IntKind.i64 y.b, Value.int IntKind.i64 y.c, Value.string y.name] 52)
        have n0 : (wr.alloc (Obj.cells #[Value.int IntKind.i64 y.op, Value.int IntKind.i64 y.a, Value.int IntKind.i64 y.b, Value.int IntKind.i64 y.c, Value.string y.name] 52)).cell? ⟨wr.heap.size, 0, none⟩ = some (.int .i64 y.op) := by rw [cell_new _ _ _ _ rfl]; rfl
        have n1 : (wr.alloc (Obj.cells #[Value.int IntKind.i64 y.op, Value.int IntKind.i64 y.a, Value.int IntKind.i64 y.b, Value.int IntKind.i64 y.c, Value.string y.name] 52)).cell? ⟨wr.heap.size, 1, none⟩ = some (.int .i64 y.a) := by rw [cell_new _ _ _ _ rfl]; rfl
        have n4 : (wr.alloc (Obj.cells #[Value.int IntKind.i64 y.op, Value.int IntKind.i64 y.a, Value.int IntKind.i64 y.b, Value.int IntKind.i64 y.c, Value.string y.name] 52)).cell? ⟨wr.heap.size, 4, none⟩ = some (.string y.name) := by rw [cell_new _ _ _ _ rfl]; rfl
        have hown1 := hown.alloc (Obj.cells #[Value.int IntKind.i64 y.op, Value.int IntKind.i64 y.a, Value.int IntKind.i64 y.b, Value.int IntKind.i64 y.c, Value.string y.name] 52)
        go_upto_region 8 with (fail)
        replace hb := hb.later (hbx.mono hb.sz)
        generalize wr.heap.size = bi at *
        generalize (wr.alloc (Obj.cells #[Value.int IntKind.i64 y.op, Value.int IntKind.i64 y.a, Value.int IntKind.i64 y.b, Value.int IntKind.i64 y.c, Value.string y.name] 52)) = W1 at *
        clear u0 u1 u2 u3 u4 hbx hown
        by_cases h14 : y.op = 14
        · have hd : (y.op == 14) = true := by simpa using h14
          have HV : Hid (siteAt X t q m j y = siteE X t ⟨(q : Int), m.name, j⟩ y.name y.a) := by show _ = _; simp [siteAt, hd]
          clear h14
          obtain ⟨k0, k1, k2, k3, k4, hbel, hsz⟩ := id hb
          have hC2 := hC.later goodC hbel
          have hH2 := hH.later goodO hbel
          have hT2 := hT.later goodT hbel
          go_wp2_with fail
          refine (rsite_any X t ⟨(q : Int), m.name, j⟩ y.name y.a _ _ _ _ hC2 hH2 hT2 (hM _)).mono ?_
          rintro e w3 ⟨rfl, hb3⟩
          have hown := owns_later hown1 hb3
          replace hb := hb.later (hb3.mono hb.sz)
          clear hown1 k0 k1 k2 k3 k4 hbel hb3 n0 n1 n4 hC2 hH2 hT2
          generalize siteE X t ⟨(q : Int), m.name, j⟩ y.name y.a = V at *
          go_wp2_with (at_builtin; refine wpList_append_lies _ rfl (.tmp 71) (.tmp 73) 39 rfl (w.heap.size + 1 + 1) 3 i0 _ 1 8 Try.underlying39 hi hz0 hz1 hz2 rfl (by decide) _ pre.length _ rfl (hown.alloc _) ⟨_, 0, none⟩ 1 1 [.int .i64 V] rfl rfl (fun j u hu => (by have := lt_of_get hu; simp at this; subst this; simp at hu; subst hu; rw [Addr.add_lit]; exact (cell_new w3 _ 3 _ rfl 0).trans rfl)) (by simp; rfl) (by omega) (by unfold maxLen; omega) (by omega) (by simp; have := hb.sz; omega) _ rfl ?_; intro gg cap2 w2 hown2 hgr hor hlt2; have hb2 := grown_below hown hb.sz hgr)
          go_roundg (gk - 1)
          case measure => omega
          case rel =>
            refine ⟨j + 1, pre ++ [V], some ⟨gg, 0, none⟩, cap2, by omega, by go_num, by simp, by rw [mapIdx_take_snoc _ _ _ _ hxj.out, ← HP.out, HV.out], hb.later hb2, ?_⟩
            simpa using hown2

        · have hd : (y.op == 14) = false := by simpa using h14
          have HV : Hid (siteAt X t q m j y = -1) := by show _ = _; simp [siteAt, hd]
          have hown := hown1
          clear h14 hown1
          go_wp2_with (at_builtin; refine wpList_append_lies _ rfl (.tmp 71) (.tmp 73) 39 rfl (w.heap.size + 1 + 1) 3 i0 _ 1 8 Try.underlying39 hi hz0 hz1 hz2 rfl (by decide) _ pre.length _ rfl (hown.alloc _) ⟨_, 0, none⟩ 1 1 [.int .i64 (-1)] rfl rfl (fun j u hu => (by have := lt_of_get hu; simp at this; subst this; simp at hu; subst hu; rw [Addr.add_lit]; exact (cell_new W1 _ 3 _ rfl 0).trans rfl)) (by simp; rfl) (by omega) (by unfold maxLen; omega) (by omega) (by simp; have := hb.sz; omega) _ rfl ?_; intro gg cap2 w2 hown2 hgr hor hlt2; have hb2 := grown_below hown hb.sz hgr)
          go_roundg (gk - 1)
          case measure => omega
          case rel =>
            refine ⟨j + 1, pre ++ [(-1)], some ⟨gg, 0, none⟩, cap2, by omega, by go_num, by simp, by rw [mapIdx_take_snoc _ _ _ _ hxj.out, ← HP.out, HV.out], hb.later hb2, ?_⟩
            simpa using hown2

      · obtain rfl : j = m.code.length := by omega
        have HF : Hid (pre = sitesE X t (q : Int) (t' : Int)) := by show _ = _; rw [HP.out, HS.out, List.take_of_length_le (Nat.le_refl _)]
        go_wp2
        go_ret
        refine ⟨a, kk, ?_, ?_, hb.bel⟩
        · rw [← HF.out]; rfl
        · rw [← HF.out]; exact own_ints hown (fun b h => by omega) (by omega)
end Go.Proofs.Ytigflmehiadenaa
