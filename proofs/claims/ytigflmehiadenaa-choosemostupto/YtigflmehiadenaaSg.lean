/- ChooseTells' walk. -/
import Derived.Test.YtigflmehiadenaaSf
namespace Go.Proofs.Ytigflmehiadenaa
open Go.ChangeShapes Go.WideShapes Go.ChangeAt Go.RowKit
set_option linter.unusedSimpArgs false
set_option linter.unusedVariables false
set_option maxRecDepth 8000

/-- What holds of the law's boxes and of what was handed in. -/
structure CtR (w : World) (P P2 : Nat → Prop) (cv hv tv : Value) (X : QW) (t : List QT) (w' : World) : Prop where
  bel : Below w.heap.size w w'
  C : IsClasses P w' cv X.classes
  H : IsHeap P w' hv X.heap
  T : IsTallies P2 w' tv t
theorem CtR.later {w : World} {P P2 : Nat → Prop} {cv hv tv : Value} {X : QW} {t : List QT} {w' w'' : World} (h : CtR w P P2 cv hv tv X t w') (hb : Below w'.heap.size w' w'') : CtR w P P2 cv hv tv X t w'' :=
  ⟨nstep h.bel hb, h.C.later goodC hb, h.H.later goodO hb, h.T.later goodT hb⟩
structure CtB (w : World) (P P2 : Nat → Prop) (cv hv tv : Value) (X : QW) (t : List QT) (s : QS) (w' : World) : Prop where
  k0 : w'.cell? ⟨w.heap.size, 0, none⟩ = some cv
  k1 : w'.cell? ⟨w.heap.size, 1, none⟩ = some hv
  k2 : w'.cell? ⟨w.heap.size, 2, none⟩ = some (.int .i64 X.epoch)
  s : SiteAt w' (w.heap.size + 1) s
  r : CtR w P P2 cv hv tv X t w'
theorem CtB.later {w : World} {P P2 : Nat → Prop} {cv hv tv : Value} {X : QW} {t : List QT} {s : QS} {w' w'' : World} (h : CtB w P P2 cv hv tv X t s w') (hb : Below w'.heap.size w' w'') : CtB w P P2 cv hv tv X t s w'' :=
  ⟨cell_later hb h.k0, cell_later hb h.k1, cell_later hb h.k2, h.s.later hb, h.r.later hb⟩
theorem ctB_new {P P2 : Nat → Prop} (w : World) (cv hv tv : Value) (X : QW) (t : List QT) (s : QS) (hC : IsClasses P w cv X.classes) (hH : IsHeap P w hv X.heap) (hT : IsTallies P2 w tv t) : CtB w P P2 cv hv tv X t s ((w.alloc (.cells #[cv, hv, .int .i64 X.epoch] 25)).alloc (.cells #[.int .i64 s.cls, .string s.name, .int .i64 s.at'] 28)) := by
  have hb := bel2 w (.cells #[cv, hv, .int .i64 X.epoch] 25) (.cells #[.int .i64 s.cls, .string s.name, .int .i64 s.at'] 28)
  refine ⟨?_, ?_, ?_, ?_, hb, hC.later goodC hb, hH.later goodO hb, hT.later goodT hb⟩
  · exact cell_later (bel1 _ _) (by rw [cell_new _ _ _ _ rfl]; rfl)
  · exact cell_later (bel1 _ _) (by rw [cell_new _ _ _ _ rfl]; rfl)
  · exact cell_later (bel1 _ _) (by rw [cell_new _ _ _ _ rfl]; rfl)
  · have := siteNew (w.alloc (.cells #[cv, hv, .int .i64 X.epoch] 25)) s 28
    simpa using this
/-- Of a region with two calls of a method's value. -/
structure CtM (w : World) (P P2 : Nat → Prop) (cv hv tv : Value) (X : QW) (t : List QT) (s : QS) (m : QM) (mc mv : Value) (ms : List QM) (w' : World) : Prop where
  b : CtB w P P2 cv hv tv X t s w'
  code : IsCode P w' mc m.code
  meths : IsMeths P w' mv ms
theorem ctM_later {w : World} {P P2 : Nat → Prop} {cv hv tv : Value} {X : QW} {t : List QT} {s : QS} {m : QM} {mc mv : Value} {ms : List QM} {p0 p1 p2 p3 p4 : Addr} {y0 y1 y2 y3 y4 : Value} {w' w'' : World} (h : w'.cell? p0 = some y0 ∧ w'.cell? p1 = some y1 ∧ w'.cell? p2 = some y2 ∧ w'.cell? p3 = some y3 ∧ w'.cell? p4 = some y4 ∧ CtM w P P2 cv hv tv X t s m mc mv ms w') (hb : Below w'.heap.size w' w'') :
    w''.cell? p0 = some y0 ∧ w''.cell? p1 = some y1 ∧ w''.cell? p2 = some y2 ∧ w''.cell? p3 = some y3 ∧ w''.cell? p4 = some y4 ∧ CtM w P P2 cv hv tv X t s m mc mv ms w'' :=
  ⟨cell_later hb h.1, cell_later hb h.2.1, cell_later hb h.2.2.1, cell_later hb h.2.2.2.1, cell_later hb h.2.2.2.2.1, h.2.2.2.2.2.b.later hb, h.2.2.2.2.2.code.later goodI hb, h.2.2.2.2.2.meths.later goodM hb⟩
theorem ctS_later {w : World} {P P2 : Nat → Prop} {cv hv tv : Value} {X : QW} {t : List QT} {s : QS} {p0 p1 p2 : Addr} {y0 y1 y2 : Value} {w' w'' : World} (h : w'.cell? p0 = some y0 ∧ w'.cell? p1 = some y1 ∧ w'.cell? p2 = some y2 ∧ CtB w P P2 cv hv tv X t s w') (hb : Below w'.heap.size w' w'') :
    w''.cell? p0 = some y0 ∧ w''.cell? p1 = some y1 ∧ w''.cell? p2 = some y2 ∧ CtB w P P2 cv hv tv X t s w'' :=
  ⟨cell_later hb h.1, cell_later hb h.2.1, cell_later hb h.2.2.1, h.2.2.2.later hb⟩
theorem ctT_later {w : World} {P P2 : Nat → Prop} {cv hv tv : Value} {X : QW} {t : List QT} {p0 p1 p2 p3 p4 p5 : Addr} {y0 y1 y2 y3 y4 y5 : Value} {w' w'' : World} (h : w'.cell? p0 = some y0 ∧ w'.cell? p1 = some y1 ∧ w'.cell? p2 = some y2 ∧ w'.cell? p3 = some y3 ∧ w'.cell? p4 = some y4 ∧ w'.cell? p5 = some y5 ∧ CtR w P P2 cv hv tv X t w') (hb : Below w'.heap.size w' w'') :
    w''.cell? p0 = some y0 ∧ w''.cell? p1 = some y1 ∧ w''.cell? p2 = some y2 ∧ w''.cell? p3 = some y3 ∧ w''.cell? p4 = some y4 ∧ w''.cell? p5 = some y5 ∧ CtR w P P2 cv hv tv X t w'' :=
  ⟨cell_later hb h.1, cell_later hb h.2.1, cell_later hb h.2.2.1, cell_later hb h.2.2.2.1, cell_later hb h.2.2.2.2.1, cell_later hb h.2.2.2.2.2.1, h.2.2.2.2.2.2.later hb⟩

set_option maxHeartbeats 4000000 in
theorem chooseTells_walk {P P2 : Nat → Prop} (X : QW) (t : List QT) (c k : Int) (s : QS) (name : ByteArray) (args : Int) (cv hv tv : Value) (w : World) (hC : IsClasses P w cv X.classes) (hH : IsHeap P w hv X.heap) (hT : IsTallies P2 w tv t) :
    Calls Try.prog 3 #[WV cv hv X.epoch, tv, .int .i64 c, .int .i64 k, SV s, .string name, .int .i64 args] w fun e w' => e = .returned (.bool true) ∧ Below w.heap.size w w' := by
  obtain ⟨ad, cap, rfl, hl, hcap, -, -⟩ := id hC
  obtain ⟨ah, ch, rfl, -⟩ := id hH
  obtain ⟨at', ct, rfl, -⟩ := id hT
  have hB := ctB_new w _ _ _ X t s hC hH hT
  unfold maxLen at hcap
  go_enter Try.func3, Try.ntmps3
  go_upto_region 1 with (fail)
  generalize (w.alloc (.cells #[.slice ad X.classes.length cap, .slice ah X.heap.length ch, .int .i64 X.epoch] 25)).alloc (.cells #[.int .i64 s.cls, .string s.name, .int .i64 s.at'] 28) = W0 at *
  clear hC hH hT
  obtain ⟨k0, k1, k2, -, -⟩ := id hB
  go_wp2_with fail
  refine (rright_any X _ _ _ hB.r.C hB.r.H).mono ?_
  rintro e w1 ⟨rfl, hb1⟩
  replace hB := hB.later hb1
  clear hb1 k0 k1 k2
  by_cases hr : rightE X = 0
  · rw [hr]
    clear hr
    go_wp2_with fail
    refine (small_any t _ _ hB.r.T).mono ?_
    rintro e w2 ⟨rfl, hb2⟩
    replace hB := hB.later hb2
    clear hb2
    cases hsm : smallB t
    · go_wp2
      go_ret
      exact ⟨rfl, hB.r.bel⟩
    · have HM : Hid (∀ s, (mostL (linesAt t s)).found ≤ 1000000) := fun s => small_most hsm s
      clear hsm
      have k0 := hB.k0
      go_wp2
      clear k0
      go_loopg [33] X.classes.length (fun g i wr => ∃ j : Nat, j + g = X.classes.length ∧ i = .int .i64 j ∧ CtB w P P2 (.slice ad X.classes.length cap) (.slice ah X.heap.length ch) (.slice at' t.length ct) X t s wr)
      case atStart => exact ⟨0, by omega, rfl, hB⟩
      case round =>
        clear hB
        obtain ⟨j, hj, rfl, hB⟩ := hrel
        by_cases hlt : j < X.classes.length
        · obtain ⟨ad', cap', e', -, -, -, hrow⟩ := id hB.r.C
          simp only [Value.slice.injEq] at e'
          obtain ⟨rfl, -, -⟩ := e'
          obtain ⟨b, o, rfl, -, q0, q1, q2, -, mv, q3, hms⟩ := hrow j X.classes[j] (by simp [hlt])
          generalize X.classes[j] = x at *
          simp only [Nat.add_zero] at q0
          obtain ⟨am, cm, rfl, hlm, hcm, -, -⟩ := id hms
          unfold maxLen at hcm
          have hj1 : (j : Int) < (X.classes.length : Int) := by omega
          have hj0 : (0 : Int) ≤ (j : Int) := by omega
          have hbx := bel1 wr (Obj.cells #[.string x.name, .int .i64 x.super, .int .i64 x.slots, .slice am x.methods.length cm] 34)
          clear hrow
          go_wp2
          replace hB := hB.later hbx
          have hM1 := hms.later goodM hbx
          generalize (wr.alloc (Obj.cells #[.string x.name, .int .i64 x.super, .int .i64 x.slots, .slice am x.methods.length cm] 34)) = W1 at *
          clear q0 q1 q2 q3 hms hbx
          go_loopg [40] x.methods.length (fun g i wr => ∃ q : Nat, q + g = x.methods.length ∧ i = .int .i64 q ∧ CtB w P P2 (.slice (some ⟨b, o, none⟩) X.classes.length cap) (.slice ah X.heap.length ch) (.slice at' t.length ct) X t s wr ∧ IsMeths P wr (.slice am x.methods.length cm) x.methods)
          case atStart => exact ⟨0, by omega, rfl, hB, hM1⟩
          case round =>
            clear hB hM1
            obtain ⟨q, hq, rfl, hB, hM⟩ := hrel
            by_cases hltq : q < x.methods.length
            · obtain ⟨ad3, cap3, e3, -, -, -, hrow3⟩ := id hM
              simp only [Value.slice.injEq] at e3
              obtain ⟨rfl, -, -⟩ := e3
              obtain ⟨b3, o3, rfl, -, y0, y1, y2, y3, -, mc, y4, hco⟩ := hrow3 q x.methods[q] (by simp [hltq])
              generalize x.methods[q] = m at *
              simp only [Nat.add_zero] at y0
              obtain ⟨ac, cc, rfl, -⟩ := id hco
              have hq1 : (q : Int) < (x.methods.length : Int) := by omega
              have hq0 : (0 : Int) ≤ (q : Int) := by omega
              have hby := bel1 wr (Obj.cells #[.string m.name, .int .i64 m.args, .int .i64 m.temps, .int .i64 m.prim, .slice ac m.code.length cc] 37)
              have n0 : (wr.alloc (Obj.cells #[.string m.name, .int .i64 m.args, .int .i64 m.temps, .int .i64 m.prim, .slice ac m.code.length cc] 37)).cell? ⟨wr.heap.size, 0, none⟩ = some (.string m.name) := by rw [cell_new _ _ _ _ rfl]; rfl
              have n1 : (wr.alloc (Obj.cells #[.string m.name, .int .i64 m.args, .int .i64 m.temps, .int .i64 m.prim, .slice ac m.code.length cc] 37)).cell? ⟨wr.heap.size, 1, none⟩ = some (.int .i64 m.args) := by rw [cell_new _ _ _ _ rfl]; rfl
              have n2 : (wr.alloc (Obj.cells #[.string m.name, .int .i64 m.args, .int .i64 m.temps, .int .i64 m.prim, .slice ac m.code.length cc] 37)).cell? ⟨wr.heap.size, 2, none⟩ = some (.int .i64 m.temps) := by rw [cell_new _ _ _ _ rfl]; rfl
              have n3 : (wr.alloc (Obj.cells #[.string m.name, .int .i64 m.args, .int .i64 m.temps, .int .i64 m.prim, .slice ac m.code.length cc] 37)).cell? ⟨wr.heap.size, 3, none⟩ = some (.int .i64 m.prim) := by rw [cell_new _ _ _ _ rfl]; rfl
              have n4 : (wr.alloc (Obj.cells #[.string m.name, .int .i64 m.args, .int .i64 m.temps, .int .i64 m.prim, .slice ac m.code.length cc] 37)).cell? ⟨wr.heap.size, 4, none⟩ = some (.slice ac m.code.length cc) := by rw [cell_new _ _ _ _ rfl]; rfl
              clear hrow3
              go_upto_region 9 with (fail)
              have hS0 := ctM_later (And.intro n0 (And.intro n1 (And.intro n2 (And.intro n3 (And.intro n4 (CtM.mk (hB.later hby) (hco.later goodI hby) (hM.later goodM hby))))))) (Below.refl _ _).drew
              generalize (wr.alloc (Obj.cells #[.string m.name, .int .i64 m.args, .int .i64 m.temps, .int .i64 m.prim, .slice ac m.code.length cc] 37)) = W1 at *
              generalize wr.heap.size = bm at *
              clear y0 y1 y2 y3 y4 n0 n1 n2 n3 n4 hby hM hB hco
              go_region_held3 (fun w' => w'.cell? ⟨bm, 0, none⟩ = some (.string m.name) ∧ w'.cell? ⟨bm, 1, none⟩ = some (.int .i64 m.args) ∧ w'.cell? ⟨bm, 2, none⟩ = some (.int .i64 m.temps) ∧ w'.cell? ⟨bm, 3, none⟩ = some (.int .i64 m.prim) ∧ w'.cell? ⟨bm, 4, none⟩ = some (.slice ac m.code.length cc) ∧ CtM w P P2 (.slice (some ⟨b, o, none⟩) X.classes.length cap) (.slice ah X.heap.length ch) (.slice at' t.length ct) X t s m (.slice ac m.code.length cc) (.slice (some ⟨b3, o3, none⟩) x.methods.length cm) x.methods w')
                (first | with_reducible exact hS0 | with_reducible exact hS1 | with_reducible exact hS2)
                (first
                  | (go_at_call 7; refine (leaf_any m _ _ hS0.2.2.2.2.2.code).mono ?_; rintro e w4 ⟨rfl, hb4⟩; have hS1 := ctM_later hS0 hb4)
                  | (go_at_call 8; refine (rleaf_any m _ _ hS1.2.2.2.2.2.code).mono ?_; rintro e w5 ⟨rfl, hb5⟩; have hS2 := ctM_later hS1 hb5))
              generalize leafE m = lf at *
              go_wp2
              go_roundg (x.methods.length - (q + 1))
              case measure => omega
              case rel => exact ⟨q + 1, by omega, by go_num, hS2.2.2.2.2.2.b, hS2.2.2.2.2.2.meths⟩
            · go_wp2
              go_roundg (X.classes.length - (j + 1))
              case measure => omega
              case rel => exact ⟨j + 1, by omega, by go_num, hB⟩
        · obtain ⟨k0, k1, k2, -, -⟩ := id hB
          go_upto_region 13 with (fail)
          have hS0 := ctS_later (And.intro k0 (And.intro k1 (And.intro k2 hB))) (Below.refl _ _).drew
          clear k0 k1 k2 hB
          go_region_held3 (fun w' => w'.cell? ⟨w.heap.size, 0, none⟩ = some (.slice ad X.classes.length cap) ∧ w'.cell? ⟨w.heap.size, 1, none⟩ = some (.slice ah X.heap.length ch) ∧ w'.cell? ⟨w.heap.size, 2, none⟩ = some (.int .i64 X.epoch) ∧ CtB w P P2 (.slice ad X.classes.length cap) (.slice ah X.heap.length ch) (.slice at' t.length ct) X t s w')
            (first | with_reducible exact hS0 | with_reducible exact hS1 | with_reducible exact hS2)
            (first
              | (go_at_call 9; refine (sites_any X t c k _ _ _ _ hS0.2.2.2.r.C hS0.2.2.2.r.H hS0.2.2.2.r.T).mono ?_; rintro e w4 ⟨a4, cap4, rfl, hI4, hb4⟩; have hS1 := ctS_later hS0 hb4)
              | (go_at_call 10; refine (rsites_any X t c k _ _ _ _ hS1.2.2.2.r.C hS1.2.2.2.r.H hS1.2.2.2.r.T HM.out).mono ?_; rintro e w5 ⟨a5, cap5, rfl, hI5, hb5⟩; have hS2 := ctS_later hS1 hb5))
          have hA4 := (hI4.later goodN hb5).mono goodN (Q := fun _ => True) fun _ _ => trivial
          replace hI5 := hI5.mono goodN (Q := fun _ => True) fun _ _ => trivial
          have hB := hS2.2.2.2
          generalize sitesE X t c k = L at *
          obtain ⟨a4', cap4', e4, -, hcc4, hby4, -⟩ := id hA4
          simp only [Value.slice.injEq] at e4
          obtain ⟨rfl, -, rfl⟩ := e4
          clear hI4 hb4 hb5 hS0 hS1 hS2
          go_wp2
          go_loopg [68] L.length (fun g i wr => ∃ j : Nat, j + g = L.length ∧ i = .int .i64 j ∧ CtB w P P2 (.slice ad X.classes.length cap) (.slice ah X.heap.length ch) (.slice at' t.length ct) X t s wr ∧ IsInts (fun _ => True) wr (.slice a4 L.length cap4) L ∧ IsInts (fun _ => True) wr (.slice a5 L.length cap5) L)
          case atStart => exact ⟨0, by omega, rfl, hB, hA4, hI5⟩
          case round =>
            clear hB hA4 hI5
            obtain ⟨q, hq, rfl, hB, hA, hI⟩ := hrel
            by_cases hltq : q < L.length
            · obtain ⟨a6, c6, e6, -, -, -, hr6⟩ := id hA
              simp only [Value.slice.injEq] at e6
              obtain ⟨rfl, -, -⟩ := e6
              obtain ⟨a7, c7, e7, -, -, -, hr7⟩ := id hI
              simp only [Value.slice.injEq] at e7
              obtain ⟨rfl, -, -⟩ := e7
              obtain ⟨b6, o6, rfl, -, y6⟩ := hr6 q L[q] (by simp [hltq])
              obtain ⟨b7, o7, rfl, -, y7⟩ := hr7 q L[q] (by simp [hltq])
              generalize L[q] = z at *
              simp only [Nat.mul_one, Nat.add_zero, IntC] at y6 y7
              have hq1 : (q : Int) < (L.length : Int) := by omega
              have hq0 : (0 : Int) ≤ (q : Int) := by omega
              clear hr6 hr7
              go_wp2
              go_quiet (fail)
              go_wp2
              go_roundg (L.length - (q + 1))
              case measure => omega
              case rel => exact ⟨q + 1, by omega, by go_num, hB.later (below_drewN (Below.refl _ _) _), hA.later goodN (below_drewN (Below.refl _ _) _), hI.later goodN (below_drewN (Below.refl _ _) _)⟩
            · obtain ⟨k0, k1, k2, ⟨s0, s1, s2⟩, hR⟩ := hB
              clear hA hI
              go_upto_region 22 with (fail)
              have hS0 := ctT_later (And.intro k0 (And.intro k1 (And.intro k2 (And.intro s0 (And.intro s1 (And.intro s2 hR)))))) (Below.refl _ _).drew
              clear k0 k1 k2 s0 s1 s2 hR
              obtain ⟨RR, HRR⟩ : ∃ RR, Hid (siteE X t s name args = RR) := ⟨_, rfl⟩
              go_region_held3 (fun w' => w'.cell? ⟨w.heap.size, 0, none⟩ = some (.slice ad X.classes.length cap) ∧ w'.cell? ⟨w.heap.size, 1, none⟩ = some (.slice ah X.heap.length ch) ∧ w'.cell? ⟨w.heap.size, 2, none⟩ = some (.int .i64 X.epoch) ∧ w'.cell? ⟨w.heap.size + 1, 0, none⟩ = some (.int .i64 s.cls) ∧ w'.cell? ⟨w.heap.size + 1, 1, none⟩ = some (.string s.name) ∧ w'.cell? ⟨w.heap.size + 1, 2, none⟩ = some (.int .i64 s.at') ∧ CtR w P P2 (.slice ad X.classes.length cap) (.slice ah X.heap.length ch) (.slice at' t.length ct) X t w')
                (first | with_reducible exact hS0 | with_reducible exact hS1 | with_reducible exact hS2)
                (first
                  | (go_at_call 11; refine (site_any X t s name args _ _ _ _ hS0.2.2.2.2.2.2.C hS0.2.2.2.2.2.2.H hS0.2.2.2.2.2.2.T).mono ?_; rintro e w6 ⟨he6, hb6⟩; rw [HRR.out] at he6; subst he6; have hS1 := ctT_later hS0 hb6)
                  | (go_at_call 12; refine (rsite_any X t s name args _ _ _ _ hS1.2.2.2.2.2.2.C hS1.2.2.2.2.2.2.H hS1.2.2.2.2.2.2.T (HM.out s)).mono ?_; rintro e w7 ⟨he7, hb7⟩; rw [HRR.out] at he7; subst he7; have hS2 := ctT_later hS1 hb7))
              go_wp2
              go_ret
              exact ⟨ret_b (by simp), hS2.2.2.2.2.2.2.bel⟩
  · have hd : (rightE X == 0) = false := by simpa using hr
    go_wp2
    go_ret
    exact ⟨rfl, hB.r.bel⟩
end Go.Proofs.Ytigflmehiadenaa
