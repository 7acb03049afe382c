/- What is wrong with a call; whoever looks; the first call. -/
import Derived.Test.YtfdonemehiamjaaPZq
namespace Go.Proofs.Ytfdonemehiamjaa
open Go.ChangeShapes Go.WideShapes Go.ChangeAt Go.RowKit
set_option linter.unusedSimpArgs false
set_option linter.unusedVariables false
set_option maxRecDepth 8000

set_option maxHeartbeats 1000000 in
theorem name_any (s : ByteArray) (w : World) (hs : s.size ≤ 140737488351232) : Calls Try.prog 25 #[.string s] w fun e w' => e = .returned (.bool (nameB s)) ∧ Below w.heap.size w w' := by
  by_cases h0 : s.size < 1
  · have h0' : (s.size : Int) < 1 := by omega
    have hn : nameB s = false := by simp [nameB]; omega
    rw [hn]
    go_enter Try.func25, Try.ntmps25
    go_wp2
    go_ret
    exact ⟨rfl, Below.refl _ _⟩
  · have h0' : (1 : Int) ≤ (s.size : Int) := by omega
    by_cases h1 : 12 < s.size
    · have h1' : (12 : Int) < (s.size : Int) := by omega
      have hn : nameB s = false := by simp [nameB]; omega
      rw [hn]
      go_enter Try.func25, Try.ntmps25
      go_wp2
      go_ret
      exact ⟨rfl, Below.refl _ _⟩
    · have h1' : (s.size : Int) ≤ 12 := by omega
      have HN : Hid (nameB s = okB s) := by show _ = _; unfold nameB; rw [decide_eq_true (by omega)]; rfl
      go_enter Try.func25, Try.ntmps25
      go_wp2
      go_loopg [14] s.size (fun g c wr => ∃ j : Nat, j + g = s.size ∧ c = .int .i64 j ∧ wr = w ∧ ∀ i (hi : i < s.size), i < j → 33 ≤ s[i].toNat ∧ s[i].toNat ≤ 126)
      case atStart => exact ⟨0, by omega, rfl, rfl, fun i _ hi => by omega⟩
      case round =>
        obtain ⟨j, hj, rfl, rfl, hok⟩ := hrel
        have HO : Hid (∀ i (hi : i < s.size), i < j → 33 ≤ s[i].toNat ∧ s[i].toNat ≤ 126) := hok
        clear hok
        by_cases hlt : j < s.size
        · have hj0 : (0 : Int) ≤ (j : Int) := by omega
          have hj1 : (j : Int) < (s.size : Int) := by omega
          by_cases c1 : s[j].toNat ≤ 32
          · have hn : Hid (okB s = false) := okB_no hlt (by omega)
            have c1' : ((s[j].toNat : Nat) : Int) ≤ 32 := by omega
            go_wp2
            go_ret
            exact ⟨ret_b (by rw [HN.out, hn.out]), Below.refl _ _⟩
          · have c1' : (32 : Int) < ((s[j].toNat : Nat) : Int) := by omega
            by_cases c2 : 126 < s[j].toNat
            · have hn : Hid (okB s = false) := okB_no hlt (by omega)
              have c2' : (126 : Int) < ((s[j].toNat : Nat) : Int) := by omega
              go_wp2
              go_ret
              exact ⟨ret_b (by rw [HN.out, hn.out]), Below.refl _ _⟩
            · have c2' : ((s[j].toNat : Nat) : Int) ≤ 126 := by omega
              have HT : Hid (33 ≤ s[j].toNat ∧ s[j].toNat ≤ 126) := by constructor <;> omega
              clear c1 c2
              go_wp2
              go_roundg (gk - 1)
              case measure => omega
              case rel =>
                refine ⟨j + 1, by omega, by go_num, rfl, fun i hi hij => ?_⟩
                by_cases he : i = j
                · subst he; exact HT.out
                · exact HO.out i hi (by omega)
        · go_wp2
          go_ret
          exact ⟨ret_b (by rw [HN.out, okB_yes fun i hi => HO.out i hi (by omega)]), Below.refl _ _⟩


/-- What is there lies in blocks that are there. -/
theorem bound_row {α : Type} {E : Lay α} {sz bytes : Nat} {P : Nat → Prop} {w : World} {v : Value} {xs : List α} (h : IsRow E sz bytes P w v xs) (hE : ∀ f x, E P w f x → E (fun b => b < w.heap.size) w f x ∧ ∃ u, f 0 = some u) : IsRow E sz bytes (fun b => b < w.heap.size) w v xs := by
  obtain ⟨ad, cap, h1, h2, h3, h4, h5⟩ := h
  refine ⟨ad, cap, h1, h2, h3, h4, fun i x hx => ?_⟩
  obtain ⟨b, o, e1, e2, e3⟩ := h5 i x hx
  obtain ⟨k1, u, k2⟩ := hE _ _ e3
  exact ⟨b, o, e1, World.block_lt_of_cell? w _ k2, k1⟩
theorem bound_code {P : Nat → Prop} {w : World} {v : Value} {xs : List QI} (h : IsCode P w v xs) : IsCode (fun b => b < w.heap.size) w v xs := bound_row h fun f x hx => ⟨hx, _, hx.1⟩
theorem bound_vals {P : Nat → Prop} {w : World} {v : Value} {xs : List QV} (h : IsVals P w v xs) : IsVals (fun b => b < w.heap.size) w v xs := bound_row h fun f x hx => ⟨hx, _, hx.1⟩
theorem bound_meths {P : Nat → Prop} {w : World} {v : Value} {xs : List QM} (h : IsMeths P w v xs) : IsMeths (fun b => b < w.heap.size) w v xs := bound_row h fun f x hx => by
  obtain ⟨h0, h1, h2, h3, h4, c, h5, h6⟩ := hx
  exact ⟨⟨h0, h1, h2, h3, h4, c, h5, bound_code h6⟩, _, h0⟩
theorem bound_classes {P : Nat → Prop} {w : World} {v : Value} {xs : List QC} (h : IsClasses P w v xs) : IsClasses (fun b => b < w.heap.size) w v xs := bound_row h fun f x hx => by
  obtain ⟨h0, h1, h2, h3, c, h5, h6⟩ := hx
  exact ⟨⟨h0, h1, h2, h3, c, h5, bound_meths h6⟩, _, h0⟩
theorem bound_heap {P : Nat → Prop} {w : World} {v : Value} {xs : List QO} (h : IsHeap P w v xs) : IsHeap (fun b => b < w.heap.size) w v xs := bound_row h fun f x hx => by
  obtain ⟨h0, c, h5, h6⟩ := hx
  exact ⟨⟨h0, c, h5, bound_vals h6⟩, _, h0⟩

/-- A call's value. -/
abbrev ClV (s : QV) (name : ByteArray) (av : Value) : Value := .agg #[.int .i64 s.k, .int .i64 s.n, .string name, av]
theorem firstE_nought {α : Type} {f : Nat → α → Int} : ∀ {l : List α} {k : Nat}, (∀ i y, l[i]? = some y → f (k + i) y = 0) → firstE f k l = 0
  | [], _, _ => rfl
  | x :: r, k, h => by
    unfold firstE
    rw [if_neg (by have := h 0 x rfl; simpa using this)]
    exact firstE_nought fun i y hy => by have := h (i + 1) y (by simpa using hy); rw [show k + 1 + i = k + (i + 1) by omega]; exact this
structure WcR (w : World) (cv hv : Value) (ep : Int) (s : QV) (name : ByteArray) (av : Value) (w' : World) : Prop where
  bel : Below w.heap.size w w'
  w0 : w'.cell? ⟨w.heap.size, 0, none⟩ = some cv
  w1 : w'.cell? ⟨w.heap.size, 1, none⟩ = some hv
  w2 : w'.cell? ⟨w.heap.size, 2, none⟩ = some (.int .i64 ep)
  c0 : w'.cell? ⟨w.heap.size + 1, 0, none⟩ = some (.int .i64 s.k)
  c1 : w'.cell? ⟨w.heap.size + 1, 1, none⟩ = some (.int .i64 s.n)
  c2 : w'.cell? ⟨w.heap.size + 1, 2, none⟩ = some (.string name)
  c3 : w'.cell? ⟨w.heap.size + 1, 3, none⟩ = some av
theorem WcR.later {w : World} {cv hv : Value} {ep : Int} {s : QV} {name : ByteArray} {av : Value} {w' w'' : World} (h : WcR w cv hv ep s name av w') (hb : Below w'.heap.size w' w'') : WcR w cv hv ep s name av w'' :=
  ⟨nstep h.bel hb, cell_later hb h.w0, cell_later hb h.w1, cell_later hb h.w2, cell_later hb h.c0, cell_later hb h.c1, cell_later hb h.c2, cell_later hb h.c3⟩
theorem wcR_new (w : World) (cv hv : Value) (ep : Int) (s : QV) (name : ByteArray) (av : Value) : WcR w cv hv ep s name av ((w.alloc (.cells #[cv, hv, .int .i64 ep] 25)).alloc (.cells #[.int .i64 s.k, .int .i64 s.n, .string name, av] 30)) :=
  ⟨bel2 _ _ _, cell_later (bel1 _ _) (cell_new _ _ _ _ rfl 0), cell_later (bel1 _ _) (cell_new _ _ _ _ rfl 1), cell_later (bel1 _ _) (cell_new _ _ _ _ rfl 2), cell_new _ _ _ _ (by simp) 0, cell_new _ _ _ _ (by simp) 1, cell_new _ _ _ _ (by simp) 2, cell_new _ _ _ _ (by simp) 3⟩
set_option maxHeartbeats 2000000 in
theorem wrong_any {P Q : Nat → Prop} (X : QW) (s : QV) (name : ByteArray) (args : List QV) (fuel : Int) (cv hv av : Value) (w : World) (hcv : ∃ a n c, cv = .slice a n c) (hH : IsHeap P w hv X.heap) (hA : IsVals Q w av args) (hn : name.size ≤ 140737488351232) : Calls Try.prog 10 #[WV cv hv X.epoch, ClV s name av, .int .i64 fuel] w fun e w' => e = .returned (.int .i64 (wrongCallE X s name args fuel)) ∧ Below w.heap.size w w' := by
  have hR := wcR_new w cv hv X.epoch s name av
  obtain ⟨ah, ch, rfl, -⟩ := id hH
  obtain ⟨aa, ca, rfl, hal, hac, -, hrow⟩ := id hA
  obtain ⟨ac, nc, cc, rfl⟩ := hcv
  unfold maxLen at hac
  go_enter Try.func10, Try.ntmps10
  go_upto_region 1 with (fail)
  generalize ((w.alloc (.cells #[.slice ac nc cc, .slice ah X.heap.length ch, .int .i64 X.epoch] 25)).alloc (.cells #[.int .i64 s.k, .int .i64 s.n, .string name, .slice aa args.length ca] 30)) = W at *
  obtain ⟨-, w0, w1, w2, c0, c1, c2, c3⟩ := id hR
  go_wp2_with fail
  refine (name_any name _ hn).mono ?_
  rintro e w1' ⟨rfl, hb1⟩
  have hR1 := hR.later hb1
  clear w0 w1 w2 c0 c1 c2 c3 hR hb1
  obtain ⟨-, w0, w1, w2, c0, c1, c2, c3⟩ := id hR1
  cases hnb : nameB name with
  | false =>
    have HE : Hid (wrongCallE X s name args fuel = 7) := by show _ = _; unfold wrongCallE; rw [if_pos hnb]
    go_wp2
    go_ret
    exact ⟨ret_i HE.out.symm, hR1.bel⟩
  | true =>
    by_cases h4 : 4 < args.length
    · have HE : Hid (wrongCallE X s name args fuel = 5) := by show _ = _; unfold wrongCallE; rw [if_neg (by rw [hnb]; simp), if_pos h4]
      have h4' : (4 : Int) < (args.length : Int) := by omega
      go_wp2
      go_ret
      exact ⟨ret_i HE.out.symm, hR1.bel⟩
    have h4' : ¬ ((4 : Int) < (args.length : Int)) := by omega
    by_cases hf : fuel < 0
    · have HE : Hid (wrongCallE X s name args fuel = 3) := by show _ = _; unfold wrongCallE; rw [if_neg (by rw [hnb]; simp), if_neg h4, if_pos (Or.inl hf)]
      have hf' : decide (fuel < 0) = true := by simpa using hf
      go_wp2
      go_ret
      exact ⟨ret_i HE.out.symm, hR1.bel⟩
    have hf' : decide (fuel < 0) = false := by simpa using hf
    by_cases hg : 400 < fuel
    · have HE : Hid (wrongCallE X s name args fuel = 3) := by show _ = _; unfold wrongCallE; rw [if_neg (by rw [hnb]; simp), if_neg h4, if_pos (Or.inr hg)]
      have hg' : decide (400 < fuel) = true := by simpa using hg
      go_wp2
      go_ret
      exact ⟨ret_i HE.out.symm, hR1.bel⟩
    have hg' : decide (400 < fuel) = false := by simpa using hg
    have HE : Hid (wrongCallE X s name args fuel = if wrongV X.heap.length s ≠ 0 then wrongV X.heap.length s else firstE (fun _ v => wrongV X.heap.length v) 0 args) := by show _ = _; unfold wrongCallE; rw [if_neg (by rw [hnb]; simp), if_neg h4, if_neg (by omega)]
    clear hnb hf hg
    have hvw := fun w => vwrong_any s (X.heap.length : Int) w
    generalize wrongV X.heap.length s = ws at *
    go_wp2_with fail
    refine (hvw _).mono ?_
    rintro e w2' ⟨rfl, hb2⟩
    have hR2 := hR1.later hb2
    clear w0 w1 w2 c0 c1 c2 c3 hR1 hb2 hvw
    obtain ⟨-, w0, w1, w2, c0, c1, c2, c3⟩ := id hR2
    by_cases hws : ws = 0
    · have hws' : (ws != 0) = false := by simpa using hws
      rw [if_neg (by simpa using hws)] at HE
      clear hws
      go_wp2
      clear w0 w1 w2 c0 c1 c2 c3
      go_loopg [40] args.length (fun gk c wr => ∃ j : Nat, j + gk = args.length ∧ c = .int .i64 j ∧ WcR w (.slice ac nc cc) (.slice ah X.heap.length ch) X.epoch s name (.slice aa args.length ca) wr ∧ ∀ i y, i < j → args[i]? = some y → wrongV X.heap.length y = 0)
      case atStart => exact ⟨0, by omega, rfl, hR2, fun i y hi => by omega⟩
      case round =>
        clear hR2
        obtain ⟨j, hj, rfl, hRr, hok⟩ := hrel
        have HO := hid hok
        clear hok
        obtain ⟨-, w0, w1, w2, c0, c1, c2, c3⟩ := id hRr
        by_cases hlt : j < args.length
        · have hx : args[j]? = some args[j] := by simp [hlt]
          have HX := hid hx
          generalize args[j] = y at *
          obtain ⟨b, o, rfl, -, v0, v1⟩ := hrow j y hx
          simp only [Nat.add_zero] at v0
          have u0 := cell_later hRr.bel v0
          have u1 := cell_later hRr.bel v1
          clear v0 v1 hrow hx
          have hj1 : (j : Int) < (args.length : Int) := by omega
          have hj0 : (0 : Int) ≤ (j : Int) := by omega
          have hvw := fun w => vwrong_any y (X.heap.length : Int) w
          obtain ⟨wy, hwy⟩ : ∃ wy, wy = wrongV X.heap.length y := ⟨_, rfl⟩
          rw [← hwy] at hvw
          have HWY := hid hwy
          clear hwy
          have hRa := hRr.later (bel1 wr (.cells #[.int .i64 y.k, .int .i64 y.n] 27))
          have y0 : (wr.alloc (.cells #[.int .i64 y.k, .int .i64 y.n] 27)).cell? ⟨wr.heap.size, 0, none⟩ = some (.int .i64 y.k) := cell_new _ _ _ _ rfl 0
          have y1 : (wr.alloc (.cells #[.int .i64 y.k, .int .i64 y.n] 27)).cell? ⟨wr.heap.size, 1, none⟩ = some (.int .i64 y.n) := cell_new _ _ _ _ rfl 1
          go_upto_region 13 with (fail)
          clear w0 w1 w2 c0 c1 c2 c3 u0 u1 hRr
          generalize (wr.alloc (.cells #[.int .i64 y.k, .int .i64 y.n] 27)) = V at *
          obtain ⟨-, w0, w1, w2, c0, c1, c2, c3⟩ := id hRa
          go_wp2_with fail
          refine (hvw _).mono ?_
          rintro e w5 ⟨rfl, hb5⟩
          have hR5 := hRa.later hb5
          clear w0 w1 w2 c0 c1 c2 c3 hRa hb5 hvw y0 y1
          by_cases hz : wy = 0
          · have hz' : (wy != 0) = false := by simpa using hz
            go_wp2
            go_roundg (gk - 1)
            case measure => omega
            case rel =>
              refine ⟨j + 1, by omega, by go_num, hR5, fun i y' hi hy => ?_⟩
              by_cases hij : i = j
              · subst hij; rw [HX.out] at hy; cases hy; rw [← HWY.out]; exact hz
              · exact HO.out i y' (by omega) hy
          · have hz' : (wy != 0) = true := by simpa using hz
            go_wp2
            go_ret
            refine ⟨ret_i ?_, hR5.bel⟩
            have := firstE_from (f := fun _ v => wrongV X.heap.length v) (k := 0) HX.out (by rw [← HWY.out]; exact hz) (fun i y' hi hy => HO.out i y' hi hy)
            rw [HE.out, this, HWY.out]
        · obtain rfl : j = args.length := by omega
          go_wp2
          go_ret
          refine ⟨ret_i ?_, hRr.bel⟩
          rw [HE.out, firstE_nought fun i y hy => HO.out i y (lt_of_get hy) hy]
    · have hws' : (ws != 0) = true := by simpa using hws
      rw [if_pos hws] at HE
      go_wp2
      go_ret
      exact ⟨ret_i HE.out.symm, hR2.bel⟩

end Go.Proofs.Ytfdonemehiamjaa
