/- cells.Find; the closed fact of chapter 6. -/
import Derived.Test.YtidjpdpbjgnfkaaXc
import Derived.Test.YtidjpdpbjgnfkaaDc
import Derived.Test.YtidjpdpbjgnfkaaEb
namespace Go.Proofs.Ytidjpdpbjgnfkaa
open Go.ChangeShapes Go.WideShapes Go.ChangeAt Go.RowKit
set_option linter.unusedSimpArgs false
set_option linter.unusedVariables false
set_option maxRecDepth 8000

/-- What is found by cells, and what they are then. -/
def cfindE (xs : List QE) (X : QW) (s : QS) (c : Int) (name : ByteArray) : List QE × (Int × Int) × Bool :=
  if hasB X.classes.length (getE xs s X.epoch c) then (xs, findE X.classes (getE xs s X.epoch c) name, true)
  else if (findE X.classes c name).1 < 0 then (xs, findE X.classes c name, false)
  else (putE xs s X.epoch ⟨c, (findE X.classes c name).1⟩, findE X.classes c name, false)

/-- What Find's walk holds: the two boxes, the world, the cells. -/
structure FdR (w : World) (P : Nat → Prop) (v cv hv : Value) (xs : List QE) (X : QW) (s : QS) (w' : World) : Prop where
  bel : Below w.heap.size w w'
  cl : IsCells P w' v xs
  hc : IsClasses P w' cv X.classes
  hh : IsHeap P w' hv X.heap
  w0 : w'.cell? ⟨w.heap.size, 0, none⟩ = some cv
  w1 : w'.cell? ⟨w.heap.size, 1, none⟩ = some hv
  w2 : w'.cell? ⟨w.heap.size, 2, none⟩ = some (.int .i64 X.epoch)
  st : SiteAt w' (w.heap.size + 1) s
theorem FdR.later {w : World} {P : Nat → Prop} {v cv hv : Value} {xs : List QE} {X : QW} {s : QS} {w' w'' : World} (h : FdR w P v cv hv xs X s w') (hb : Below w'.heap.size w' w'') : FdR w P v cv hv xs X s w'' :=
  ⟨nstep h.bel hb, h.cl.later goodE hb, h.hc.later goodC hb, h.hh.later goodO hb, cell_later hb h.w0, cell_later hb h.w1, cell_later hb h.w2, h.st.later hb⟩

set_option maxHeartbeats 2000000 in
theorem cfind_any {P : Nat → Prop} (xs : List QE) (X : QW) (s : QS) (c : Int) (name : ByteArray) (v cv hv : Value) (w : World) (hx : IsCells P w v xs) (hC : IsClasses P w cv X.classes) (hH : IsHeap P w hv X.heap) (hby : (xs.length + 1) * 72 ≤ 140737488355328) (hls : ∀ x ∈ xs, x.lines.length * 16 ≤ 281474976710656) :
    Calls Try.prog 16 #[v, WV cv hv X.epoch, SV s, .int .i64 c, .string name] w fun e w' => ∃ a k, e = .returned (.tuple #[.slice a (cfindE xs X s c name).1.length k, .int .i64 (cfindE xs X s c name).2.1.1, .int .i64 (cfindE xs X s c name).2.1.2, .bool (cfindE xs X s c name).2.2]) ∧ IsCells (fun b => w.heap.size ≤ b) w' (.slice a (cfindE xs X s c name).1.length k) (cfindE xs X s c name).1 ∧ Below w.heap.size w w' := by
  have hml : xs.length ≤ maxLen := by unfold maxLen; omega
  have hR0 : FdR w P v cv hv xs X s ((w.alloc (.cells #[cv, hv, .int .i64 X.epoch] 26)).alloc (.cells #[.int .i64 s.cls, .string s.name, .int .i64 s.at'] 28)) := by
    have hb := bel2 w (.cells #[cv, hv, .int .i64 X.epoch] 26) (.cells #[.int .i64 s.cls, .string s.name, .int .i64 s.at'] 28)
    refine ⟨hb, hx.later goodE hb, hC.later goodC hb, hH.later goodO hb, cell_later (bel1 _ _) (by rw [cell_new _ _ _ _ rfl]; rfl), cell_later (bel1 _ _) (by rw [cell_new _ _ _ _ rfl]; rfl), cell_later (bel1 _ _) (by rw [cell_new _ _ _ _ rfl]; rfl), ?_⟩
    have := siteNew (w.alloc (.cells #[cv, hv, .int .i64 X.epoch] 26)) s 28
    simpa using this
  obtain ⟨ad, cap, rfl, -, -, -, -⟩ := id hx
  obtain ⟨ac, cc, rfl, -, -, -, -⟩ := id hC
  obtain ⟨ah, ch, rfl, -, -, -, -⟩ := id hH
  clear hx hC hH
  go_enter Try.func16, Try.ntmps16
  go_upto_region 1 with (fail)
  generalize ((w.alloc (.cells #[.slice ac X.classes.length cc, .slice ah X.heap.length ch, .int .i64 X.epoch] 26)).alloc (.cells #[.int .i64 s.cls, .string s.name, .int .i64 s.at'] 28)) = W0 at *
  obtain ⟨-, -, -, -, b0, b1, b2, s0, s1, s2⟩ := id hR0
  go_wp2_with fail
  refine (get_any xs _ s X.epoch c _ hR0.cl).mono ?_
  rintro e w1 ⟨rfl, hb1⟩
  have hR1 := hR0.later hb1
  clear hR0 hb1 b0 b1 b2 s0 s1 s2
  obtain ⟨k, hk⟩ : ∃ k, k = getE xs s X.epoch c := ⟨_, rfl⟩
  rw [← hk]
  obtain ⟨-, -, -, -, b0, b1, b2, s0, s1, s2⟩ := id hR1
  by_cases h0 : 0 ≤ k
  · have hd0 : decide (0 ≤ k) = true := by simpa using h0
    by_cases h1 : k < X.classes.length
    · have hd1 : decide (k < (X.classes.length : Int)) = true := by simpa using h1
      have HE : Hid (cfindE xs X s c name = (xs, findE X.classes k name, true)) := by show _ = _; unfold cfindE; rw [← hk, if_pos (by simp [hasB, h0, h1])]
      clear hk
      go_wp2_with fail
      refine (find_any X k name _ _ _ hR1.hc hR1.hh).mono ?_
      rintro e w2 ⟨rfl, hb2⟩
      have hR2 := hR1.later hb2
      clear hR1 hb2 b0 b1 b2 s0 s1 s2
      go_wp2_with fail
      refine (eowns_any xs _ _ hR2.cl (by omega) hls).mono ?_
      rintro e w3 ⟨g, rfl, hown, hg, hb3⟩
      go_wp2
      rw [HE.out]
      refine bodyPost_ret (v := .tuple #[.slice (some ⟨g, 0, none⟩) xs.length xs.length, .int .i64 (findE X.classes k name).1, .int .i64 (findE X.classes k name).2, .bool true]) ?_ rfl ⟨_, _, rfl, ?_, nstep hR2.bel hb3⟩
      · simp [results, Try.results16, go_sem]
      · exact (tight_cells (hown.row0 goodET hml)).mono goodE fun b h => by have := hR2.bel.size; omega
    · have hd1 : decide (k < (X.classes.length : Int)) = false := by simpa using h1
      have HE0 : Hid (cfindE xs X s c name = if (findE X.classes c name).1 < 0 then (xs, findE X.classes c name, false) else (putE xs s X.epoch ⟨c, (findE X.classes c name).1⟩, findE X.classes c name, false)) := by show _ = _; unfold cfindE; rw [← hk, if_neg (by simp [hasB]; omega)]
      clear hk
      go_wp2_with fail
      refine (find_any X c name _ _ _ hR1.hc hR1.hh).mono ?_
      rintro e w2 ⟨rfl, hb2⟩
      have hR2 := hR1.later hb2
      clear hR1 hb2 b0 b1 b2 s0 s1 s2
      obtain ⟨-, -, -, -, b0, b1, b2, s0, s1, s2⟩ := id hR2
      generalize findE X.classes c name = r at *
      obtain ⟨r1, r2⟩ := r
      simp only at HE0 ⊢
      by_cases hr : r1 < 0
      · have HE : Hid (cfindE xs X s c name = (xs, (r1, r2), false)) := by show _ = _; rw [HE0.out, if_pos hr]
        go_wp2_with fail
        refine (eowns_any xs _ _ hR2.cl (by omega) hls).mono ?_
        rintro e w3 ⟨g, rfl, hown, hg, hb3⟩
        go_wp2
        rw [HE.out]
        refine bodyPost_ret (v := .tuple #[.slice (some ⟨g, 0, none⟩) xs.length xs.length, .int .i64 r1, .int .i64 r2, .bool false]) ?_ rfl ⟨_, _, rfl, ?_, nstep hR2.bel hb3⟩
        · simp [results, Try.results16, go_sem]
        · exact (tight_cells (hown.row0 goodET hml)).mono goodE fun b h => by have := hR2.bel.size; omega
      · have HE : Hid (cfindE xs X s c name = (putE xs s X.epoch ⟨c, r1⟩, (r1, r2), false)) := by show _ = _; rw [HE0.out, if_neg hr]
        have hr' : 0 ≤ r1 := by omega
        go_wp2_with fail
        refine (put_any xs _ s X.epoch c r1 _ hR2.cl hby hls).mono ?_
        rintro e w3 ⟨g, k3, rfl, hP3, hb3⟩
        generalize putE xs s X.epoch ⟨c, r1⟩ = ys at *
        go_wp2
        rw [HE.out]
        refine bodyPost_ret (v := .tuple #[.slice (some ⟨g, 0, none⟩) ys.length k3, .int .i64 r1, .int .i64 r2, .bool false]) ?_ rfl ⟨_, _, rfl, ?_, nstep hR2.bel hb3⟩
        · simp [results, Try.results16, go_sem]
        · exact hP3.mono goodE fun b h => by have := hR2.bel.size; omega
  · have hd0 : decide (0 ≤ k) = false := by simpa using h0
    have HE0 : Hid (cfindE xs X s c name = if (findE X.classes c name).1 < 0 then (xs, findE X.classes c name, false) else (putE xs s X.epoch ⟨c, (findE X.classes c name).1⟩, findE X.classes c name, false)) := by show _ = _; unfold cfindE; rw [← hk, if_neg (by simp [hasB]; omega)]
    clear hk
    go_wp2_with fail
    refine (find_any X c name _ _ _ hR1.hc hR1.hh).mono ?_
    rintro e w2 ⟨rfl, hb2⟩
    have hR2 := hR1.later hb2
    clear hR1 hb2 b0 b1 b2 s0 s1 s2
    obtain ⟨-, -, -, -, b0, b1, b2, s0, s1, s2⟩ := id hR2
    generalize findE X.classes c name = r at *
    obtain ⟨r1, r2⟩ := r
    simp only at HE0 ⊢
    by_cases hr : r1 < 0
    · have HE : Hid (cfindE xs X s c name = (xs, (r1, r2), false)) := by show _ = _; rw [HE0.out, if_pos hr]
      go_wp2_with fail
      refine (eowns_any xs _ _ hR2.cl (by omega) hls).mono ?_
      rintro e w3 ⟨g, rfl, hown, hg, hb3⟩
      go_wp2
      rw [HE.out]
      refine bodyPost_ret (v := .tuple #[.slice (some ⟨g, 0, none⟩) xs.length xs.length, .int .i64 r1, .int .i64 r2, .bool false]) ?_ rfl ⟨_, _, rfl, ?_, nstep hR2.bel hb3⟩
      · simp [results, Try.results16, go_sem]
      · exact (tight_cells (hown.row0 goodET hml)).mono goodE fun b h => by have := hR2.bel.size; omega
    · have HE : Hid (cfindE xs X s c name = (putE xs s X.epoch ⟨c, r1⟩, (r1, r2), false)) := by show _ = _; rw [HE0.out, if_neg hr]
      have hr' : 0 ≤ r1 := by omega
      go_wp2_with fail
      refine (put_any xs _ s X.epoch c r1 _ hR2.cl hby hls).mono ?_
      rintro e w3 ⟨g, k3, rfl, hP3, hb3⟩
      generalize putE xs s X.epoch ⟨c, r1⟩ = ys at *
      go_wp2
      rw [HE.out]
      refine bodyPost_ret (v := .tuple #[.slice (some ⟨g, 0, none⟩) ys.length k3, .int .i64 r1, .int .i64 r2, .bool false]) ?_ rfl ⟨_, _, rfl, ?_, nstep hR2.bel hb3⟩
      · simp [results, Try.results16, go_sem]
      · exact hP3.mono goodE fun b h => by have := hR2.bel.size; omega
end Go.Proofs.Ytidjpdpbjgnfkaa
