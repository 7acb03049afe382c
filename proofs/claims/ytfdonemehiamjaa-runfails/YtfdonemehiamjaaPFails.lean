/- Several texts in one. -/
import Derived.Test.YtfdonemehiamjaaZq
import Derived.Test.YtfdonemehiamjaaRa
import Derived.Test.YtfdonemehiamjaaNb
import Derived.Test.YtfdonemehiamjaaDs
import Derived.ChangeMaps5
/- What is wrong with a call; whoever looks; the first call. -/
namespace Go.Proofs.Ytfdonemehiamjaa
open Go.ChangeShapes Go.WideShapes Go.ChangeAt Go.RowKit
set_option linter.unusedSimpArgs false
set_option linter.unusedVariables false
set_option maxRecDepth 8000

set_option maxHeartbeats 1000000 in
theorem name_any (s : ByteArray) (w : World) (hs : s.size ≤ 140737488351232) : Calls Try.prog 25 #[.string s] w fun e w' => e = .returned (.bool (nameB s)) ∧ Below w.heap.size w w' := by
  by_cases h0 : s.size < 1
  · have h0' : (s.size : Int) < 1 := by omega
    have hn : nameB s = false := by simp [nameB]; omega
    rw [hn]
    go_enter Try.func25, Try.ntmps25
    go_wp2
    go_ret
    exact ⟨rfl, Below.refl _ _⟩
  · have h0' : (1 : Int) ≤ (s.size : Int) := by omega
    by_cases h1 : 12 < s.size
    · have h1' : (12 : Int) < (s.size : Int) := by omega
      have hn : nameB s = false := by simp [nameB]; omega
      rw [hn]
      go_enter Try.func25, Try.ntmps25
      go_wp2
      go_ret
      exact ⟨rfl, Below.refl _ _⟩
    · have h1' : (s.size : Int) ≤ 12 := by omega
      have HN : Hid (nameB s = okB s) := by show _ = _; unfold nameB; rw [decide_eq_true (by omega)]; rfl
      go_enter Try.func25, Try.ntmps25
      go_wp2
      go_loopg [14] s.size (fun g c wr => ∃ j : Nat, j + g = s.size ∧ c = .int .i64 j ∧ wr = w ∧ ∀ i (hi : i < s.size), i < j → 33 ≤ s[i].toNat ∧ s[i].toNat ≤ 126)
      case atStart => exact ⟨0, by omega, rfl, rfl, fun i _ hi => by omega⟩
      case round =>
        obtain ⟨j, hj, rfl, rfl, hok⟩ := hrel
        have HO : Hid (∀ i (hi : i < s.size), i < j → 33 ≤ s[i].toNat ∧ s[i].toNat ≤ 126) := hok
        clear hok
        by_cases hlt : j < s.size
        · have hj0 : (0 : Int) ≤ (j : Int) := by omega
          have hj1 : (j : Int) < (s.size : Int) := by omega
          by_cases c1 : s[j].toNat ≤ 32
          · have hn : Hid (okB s = false) := okB_no hlt (by omega)
            have c1' : ((s[j].toNat : Nat) : Int) ≤ 32 := by omega
            go_wp2
            go_ret
            exact ⟨ret_b (by rw [HN.out, hn.out]), Below.refl _ _⟩
          · have c1' : (32 : Int) < ((s[j].toNat : Nat) : Int) := by omega
            by_cases c2 : 126 < s[j].toNat
            · have hn : Hid (okB s = false) := okB_no hlt (by omega)
              have c2' : (126 : Int) < ((s[j].toNat : Nat) : Int) := by omega
              go_wp2
              go_ret
              exact ⟨ret_b (by rw [HN.out, hn.out]), Below.refl _ _⟩
            · have c2' : ((s[j].toNat : Nat) : Int) ≤ 126 := by omega
              have HT : Hid (33 ≤ s[j].toNat ∧ s[j].toNat ≤ 126) := by constructor <;> omega
              clear c1 c2
              go_wp2
              go_roundg (gk - 1)
              case measure => omega
              case rel =>
                refine ⟨j + 1, by omega, by go_num, rfl, fun i hi hij => ?_⟩
                by_cases he : i = j
                · subst he; exact HT.out
                · exact HO.out i hi (by omega)
        · go_wp2
          go_ret
          exact ⟨ret_b (by rw [HN.out, okB_yes fun i hi => HO.out i hi (by omega)]), Below.refl _ _⟩


/-- What is there lies in blocks that are there. -/
theorem bound_row {α : Type} {E : Lay α} {sz bytes : Nat} {P : Nat → Prop} {w : World} {v : Value} {xs : List α} (h : IsRow E sz bytes P w v xs) (hE : ∀ f x, E P w f x → E (fun b => b < w.heap.size) w f x ∧ ∃ u, f 0 = some u) : IsRow E sz bytes (fun b => b < w.heap.size) w v xs := by
  obtain ⟨ad, cap, h1, h2, h3, h4, h5⟩ := h
  refine ⟨ad, cap, h1, h2, h3, h4, fun i x hx => ?_⟩
  obtain ⟨b, o, e1, e2, e3⟩ := h5 i x hx
  obtain ⟨k1, u, k2⟩ := hE _ _ e3
  exact ⟨b, o, e1, World.block_lt_of_cell? w _ k2, k1⟩
theorem bound_code {P : Nat → Prop} {w : World} {v : Value} {xs : List QI} (h : IsCode P w v xs) : IsCode (fun b => b < w.heap.size) w v xs := bound_row h fun f x hx => ⟨hx, _, hx.1⟩
theorem bound_vals {P : Nat → Prop} {w : World} {v : Value} {xs : List QV} (h : IsVals P w v xs) : IsVals (fun b => b < w.heap.size) w v xs := bound_row h fun f x hx => ⟨hx, _, hx.1⟩
theorem bound_meths {P : Nat → Prop} {w : World} {v : Value} {xs : List QM} (h : IsMeths P w v xs) : IsMeths (fun b => b < w.heap.size) w v xs := bound_row h fun f x hx => by
  obtain ⟨h0, h1, h2, h3, h4, c, h5, h6⟩ := hx
  exact ⟨⟨h0, h1, h2, h3, h4, c, h5, bound_code h6⟩, _, h0⟩
theorem bound_classes {P : Nat → Prop} {w : World} {v : Value} {xs : List QC} (h : IsClasses P w v xs) : IsClasses (fun b => b < w.heap.size) w v xs := bound_row h fun f x hx => by
  obtain ⟨h0, h1, h2, h3, c, h5, h6⟩ := hx
  exact ⟨⟨h0, h1, h2, h3, c, h5, bound_meths h6⟩, _, h0⟩
theorem bound_heap {P : Nat → Prop} {w : World} {v : Value} {xs : List QO} (h : IsHeap P w v xs) : IsHeap (fun b => b < w.heap.size) w v xs := bound_row h fun f x hx => by
  obtain ⟨h0, c, h5, h6⟩ := hx
  exact ⟨⟨h0, c, h5, bound_vals h6⟩, _, h0⟩

/-- A call's value. -/
abbrev ClV (s : QV) (name : ByteArray) (av : Value) : Value := .agg #[.int .i64 s.k, .int .i64 s.n, .string name, av]
theorem firstE_nought {α : Type} {f : Nat → α → Int} : ∀ {l : List α} {k : Nat}, (∀ i y, l[i]? = some y → f (k + i) y = 0) → firstE f k l = 0
  | [], _, _ => rfl
  | x :: r, k, h => by
    unfold firstE
    rw [if_neg (by have := h 0 x rfl; simpa using this)]
    exact firstE_nought fun i y hy => by have := h (i + 1) y (by simpa using hy); rw [show k + 1 + i = k + (i + 1) by omega]; exact this
structure WcR (w : World) (cv hv : Value) (ep : Int) (s : QV) (name : ByteArray) (av : Value) (w' : World) : Prop where
  bel : Below w.heap.size w w'
  w0 : w'.cell? ⟨w.heap.size, 0, none⟩ = some cv
  w1 : w'.cell? ⟨w.heap.size, 1, none⟩ = some hv
  w2 : w'.cell? ⟨w.heap.size, 2, none⟩ = some (.int .i64 ep)
  c0 : w'.cell? ⟨w.heap.size + 1, 0, none⟩ = some (.int .i64 s.k)
  c1 : w'.cell? ⟨w.heap.size + 1, 1, none⟩ = some (.int .i64 s.n)
  c2 : w'.cell? ⟨w.heap.size + 1, 2, none⟩ = some (.string name)
  c3 : w'.cell? ⟨w.heap.size + 1, 3, none⟩ = some av
theorem WcR.later {w : World} {cv hv : Value} {ep : Int} {s : QV} {name : ByteArray} {av : Value} {w' w'' : World} (h : WcR w cv hv ep s name av w') (hb : Below w'.heap.size w' w'') : WcR w cv hv ep s name av w'' :=
  ⟨nstep h.bel hb, cell_later hb h.w0, cell_later hb h.w1, cell_later hb h.w2, cell_later hb h.c0, cell_later hb h.c1, cell_later hb h.c2, cell_later hb h.c3⟩
theorem wcR_new (w : World) (cv hv : Value) (ep : Int) (s : QV) (name : ByteArray) (av : Value) : WcR w cv hv ep s name av ((w.alloc (.cells #[cv, hv, .int .i64 ep] 25)).alloc (.cells #[.int .i64 s.k, .int .i64 s.n, .string name, av] 30)) :=
  ⟨bel2 _ _ _, cell_later (bel1 _ _) (cell_new _ _ _ _ rfl 0), cell_later (bel1 _ _) (cell_new _ _ _ _ rfl 1), cell_later (bel1 _ _) (cell_new _ _ _ _ rfl 2), cell_new _ _ _ _ (by simp) 0, cell_new _ _ _ _ (by simp) 1, cell_new _ _ _ _ (by simp) 2, cell_new _ _ _ _ (by simp) 3⟩
set_option maxHeartbeats 2000000 in
theorem wrong_any {P Q : Nat → Prop} (X : QW) (s : QV) (name : ByteArray) (args : List QV) (fuel : Int) (cv hv av : Value) (w : World) (hcv : ∃ a n c, cv = .slice a n c) (hH : IsHeap P w hv X.heap) (hA : IsVals Q w av args) (hn : name.size ≤ 140737488351232) : Calls Try.prog 10 #[WV cv hv X.epoch, ClV s name av, .int .i64 fuel] w fun e w' => e = .returned (.int .i64 (wrongCallE X s name args fuel)) ∧ Below w.heap.size w w' := by
  have hR := wcR_new w cv hv X.epoch s name av
  obtain ⟨ah, ch, rfl, -⟩ := id hH
  obtain ⟨aa, ca, rfl, hal, hac, -, hrow⟩ := id hA
  obtain ⟨ac, nc, cc, rfl⟩ := hcv
  unfold maxLen at hac
  go_enter Try.func10, Try.ntmps10
  go_upto_region 1 with (fail)
  generalize ((w.alloc (.cells #[.slice ac nc cc, .slice ah X.heap.length ch, .int .i64 X.epoch] 25)).alloc (.cells #[.int .i64 s.k, .int .i64 s.n, .string name, .slice aa args.length ca] 30)) = W at *
  obtain ⟨-, w0, w1, w2, c0, c1, c2, c3⟩ := id hR
  go_wp2_with fail
  refine (name_any name _ hn).mono ?_
  rintro e w1' ⟨rfl, hb1⟩
  have hR1 := hR.later hb1
  clear w0 w1 w2 c0 c1 c2 c3 hR hb1
  obtain ⟨-, w0, w1, w2, c0, c1, c2, c3⟩ := id hR1
  cases hnb : nameB name with
  | false =>
    have HE : Hid (wrongCallE X s name args fuel = 7) := by show _ = _; unfold wrongCallE; rw [if_pos hnb]
    go_wp2
    go_ret
    exact ⟨ret_i HE.out.symm, hR1.bel⟩
  | true =>
    by_cases h4 : 4 < args.length
    · have HE : Hid (wrongCallE X s name args fuel = 5) := by show _ = _; unfold wrongCallE; rw [if_neg (by rw [hnb]; simp), if_pos h4]
      have h4' : (4 : Int) < (args.length : Int) := by omega
      go_wp2
      go_ret
      exact ⟨ret_i HE.out.symm, hR1.bel⟩
    have h4' : ¬ ((4 : Int) < (args.length : Int)) := by omega
    by_cases hf : fuel < 0
    · have HE : Hid (wrongCallE X s name args fuel = 3) := by show _ = _; unfold wrongCallE; rw [if_neg (by rw [hnb]; simp), if_neg h4, if_pos (Or.inl hf)]
      have hf' : decide (fuel < 0) = true := by simpa using hf
      go_wp2
      go_ret
      exact ⟨ret_i HE.out.symm, hR1.bel⟩
    have hf' : decide (fuel < 0) = false := by simpa using hf
    by_cases hg : 400 < fuel
    · have HE : Hid (wrongCallE X s name args fuel = 3) := by show _ = _; unfold wrongCallE; rw [if_neg (by rw [hnb]; simp), if_neg h4, if_pos (Or.inr hg)]
      have hg' : decide (400 < fuel) = true := by simpa using hg
      go_wp2
      go_ret
      exact ⟨ret_i HE.out.symm, hR1.bel⟩
    have hg' : decide (400 < fuel) = false := by simpa using hg
    have HE : Hid (wrongCallE X s name args fuel = if wrongV X.heap.length s ≠ 0 then wrongV X.heap.length s else firstE (fun _ v => wrongV X.heap.length v) 0 args) := by show _ = _; unfold wrongCallE; rw [if_neg (by rw [hnb]; simp), if_neg h4, if_neg (by omega)]
    clear hnb hf hg
    have hvw := fun w => vwrong_any s (X.heap.length : Int) w
    generalize wrongV X.heap.length s = ws at *
    go_wp2_with fail
    refine (hvw _).mono ?_
    rintro e w2' ⟨rfl, hb2⟩
    have hR2 := hR1.later hb2
    clear w0 w1 w2 c0 c1 c2 c3 hR1 hb2 hvw
    obtain ⟨-, w0, w1, w2, c0, c1, c2, c3⟩ := id hR2
    by_cases hws : ws = 0
    · have hws' : (ws != 0) = false := by simpa using hws
      rw [if_neg (by simpa using hws)] at HE
      clear hws
      go_wp2
      clear w0 w1 w2 c0 c1 c2 c3
      go_loopg [40] args.length (fun gk c wr => ∃ j : Nat, j + gk = args.length ∧ c = .int .i64 j ∧ WcR w (.slice ac nc cc) (.slice ah X.heap.length ch) X.epoch s name (.slice aa args.length ca) wr ∧ ∀ i y, i < j → args[i]? = some y → wrongV X.heap.length y = 0)
      case atStart => exact ⟨0, by omega, rfl, hR2, fun i y hi => by omega⟩
      case round =>
        clear hR2
        obtain ⟨j, hj, rfl, hRr, hok⟩ := hrel
        have HO := hid hok
        clear hok
        obtain ⟨-, w0, w1, w2, c0, c1, c2, c3⟩ := id hRr
        by_cases hlt : j < args.length
        · have hx : args[j]? = some args[j] := by simp [hlt]
          have HX := hid hx
          generalize args[j] = y at *
          obtain ⟨b, o, rfl, -, v0, v1⟩ := hrow j y hx
          simp only [Nat.add_zero] at v0
          have u0 := cell_later hRr.bel v0
          have u1 := cell_later hRr.bel v1
          clear v0 v1 hrow hx
          have hj1 : (j : Int) < (args.length : Int) := by omega
          have hj0 : (0 : Int) ≤ (j : Int) := by omega
          have hvw := fun w => vwrong_any y (X.heap.length : Int) w
          obtain ⟨wy, hwy⟩ : ∃ wy, wy = wrongV X.heap.length y := ⟨_, rfl⟩
          rw [← hwy] at hvw
          have HWY := hid hwy
          clear hwy
          have hRa := hRr.later (bel1 wr (.cells #[.int .i64 y.k, .int .i64 y.n] 27))
          have y0 : (wr.alloc (.cells #[.int .i64 y.k, .int .i64 y.n] 27)).cell? ⟨wr.heap.size, 0, none⟩ = some (.int .i64 y.k) := cell_new _ _ _ _ rfl 0
          have y1 : (wr.alloc (.cells #[.int .i64 y.k, .int .i64 y.n] 27)).cell? ⟨wr.heap.size, 1, none⟩ = some (.int .i64 y.n) := cell_new _ _ _ _ rfl 1
          go_upto_region 13 with (fail)
          clear w0 w1 w2 c0 c1 c2 c3 u0 u1 hRr
          generalize (wr.alloc (.cells #[.int .i64 y.k, .int .i64 y.n] 27)) = V at *
          obtain ⟨-, w0, w1, w2, c0, c1, c2, c3⟩ := id hRa
          go_wp2_with fail
          refine (hvw _).mono ?_
          rintro e w5 ⟨rfl, hb5⟩
          have hR5 := hRa.later hb5
          clear w0 w1 w2 c0 c1 c2 c3 hRa hb5 hvw y0 y1
          by_cases hz : wy = 0
          · have hz' : (wy != 0) = false := by simpa using hz
            go_wp2
            go_roundg (gk - 1)
            case measure => omega
            case rel =>
              refine ⟨j + 1, by omega, by go_num, hR5, fun i y' hi hy => ?_⟩
              by_cases hij : i = j
              · subst hij; rw [HX.out] at hy; cases hy; rw [← HWY.out]; exact hz
              · exact HO.out i y' (by omega) hy
          · have hz' : (wy != 0) = true := by simpa using hz
            go_wp2
            go_ret
            refine ⟨ret_i ?_, hR5.bel⟩
            have := firstE_from (f := fun _ v => wrongV X.heap.length v) (k := 0) HX.out (by rw [← HWY.out]; exact hz) (fun i y' hi hy => HO.out i y' hi hy)
            rw [HE.out, this, HWY.out]
        · obtain rfl : j = args.length := by omega
          go_wp2
          go_ret
          refine ⟨ret_i ?_, hRr.bel⟩
          rw [HE.out, firstE_nought fun i y hy => HO.out i y (lt_of_get hy) hy]
    · have hws' : (ws != 0) = true := by simpa using hws
      rw [if_pos hws] at HE
      go_wp2
      go_ret
      exact ⟨ret_i HE.out.symm, hR2.bel⟩

end Go.Proofs.Ytfdonemehiamjaa

/- Plain runs. -/
namespace Go.Proofs.Ytfdonemehiamjaa
open Go.ChangeShapes Go.WideShapes Go.ChangeAt Go.RowKit
set_option linter.unusedSimpArgs false
set_option linter.unusedVariables false
set_option maxRecDepth 8000

/-- The world in which is looked for each name anew, in block b. -/
structure LkP (X : QW) (b : Nat) (cv hv : Value) (T : Nat → Nat) (w : World) (st : Unit) (n : Nat) : Prop where
  tag : T b = 0
  lt : b < w.heap.size
  w0 : w.cell? ⟨b, 0, none⟩ = some cv
  w1 : w.cell? ⟨b, 1, none⟩ = some hv
  w2 : w.cell? ⟨b, 2, none⟩ = some (.int .i64 X.epoch)
  cls : IsClasses (Fx T w) w cv X.classes
  heap : IsHeap (Fx T w) w hv X.heap
theorem LkP.keep {X : QW} {b : Nat} {cv hv : Value} {T T' : Nat → Nat} {w w' : World} {st : Unit} {n : Nat} {S : Nat → Prop} (h : LkP X b cv hv T w st n) (e : Ext T T' w) (k : Kp S T w w') (h0 : ¬ S 0) : LkP X b cv hv T' w' st n :=
  ⟨by rw [e _ h.lt]; exact h.tag, Nat.lt_of_lt_of_le h.lt k.size, k.cell h.w0 (by rw [h.tag]; exact h0), k.cell h.w1 (by rw [h.tag]; exact h0), k.cell h.w2 (by rw [h.tag]; exact h0), h.cls.fx goodC e k h0, h.heap.fx goodO e k h0⟩
set_option maxHeartbeats 1000000 in
theorem finder1_any {X : QW} {b : Nat} {cv hv : Value} {T : Nat → Nat} {w : World} {n : Nat} (h : LkP X b cv hv T w () n) (s : QS) (c : Int) (name : ByteArray) : Calls Try.prog 34 #[SV s, .int .i64 c, .string name, .pointer (some ⟨b, 0, none⟩)] w fun e w' => e = .returned (.tuple #[.int .i64 (findE X.classes c name).1, .int .i64 (findE X.classes c name).2]) ∧ Below w.heap.size w w' := by
  have hb1 := bel1 w (.cells #[.int .i64 s.cls, .string s.name, .int .i64 s.at'] 92)
  have h1 := h.keep (T' := T) (.refl _ _) (Kp.of_below (S := fun _ => False) hb1) id
  have hf := fun w' (hb : Below (w.alloc (.cells #[.int .i64 s.cls, .string s.name, .int .i64 s.at'] 92)).heap.size (w.alloc (.cells #[.int .i64 s.cls, .string s.name, .int .i64 s.at'] 92)) w') => find_any X c name cv hv w' ((h1.cls.mono (Q := fun _ => True) goodC fun _ _ => trivial).later goodC hb) ((h1.heap.mono (Q := fun _ => True) goodO fun _ _ => trivial).later goodO hb)
  obtain ⟨-, -, w0, w1, w2, hc, hh⟩ := id h1
  obtain ⟨ac, cc, rfl, -⟩ := id hc
  obtain ⟨ah, ch, rfl, -⟩ := id hh
  clear h h1 hc hh
  obtain ⟨r1, r2, hr⟩ : ∃ r1 r2, findE X.classes c name = (r1, r2) := ⟨_, _, rfl⟩
  rw [hr] at hf ⊢
  clear hr
  go_enter Try.func34, Try.ntmps34
  go_upto_region 1 with (fail)
  generalize (w.alloc (.cells #[.int .i64 s.cls, .string s.name, .int .i64 s.at'] 92)) = W at *
  go_wp2_with fail
  refine (hf _ (Below.refl _ _)).mono ?_
  rintro e w2' ⟨rfl, hb2⟩
  have HB := hid (nstep hb1 hb2)
  clear w0 w1 w2 hf hb2
  go_wp2
  refine bodyPost_ret (v := .tuple #[.int .i64 r1, .int .i64 r2]) ?_ rfl ⟨rfl, HB.out⟩
  simp [results, Try.results34, go_sem]

def plainMp (X : QW) (fuel : Int) (cv : Value) (b : Nat) : Mp Unit := ⟨plainEnv X fuel, cv, X.epoch, .func (.func 34) #[] #[.pointer (some ⟨b, 0, none⟩)], .func (.func 21) #[] #[]⟩
theorem plain_cx {X : QW} (hX : rightE X = 0) {fuel : Int} (hf : fuel ≤ 400) (cv : Value) (b : Nat) (c0 h0 : Value) : Cx (plainMp X fuel cv b) (LkP X b c0 h0) (.pointer (some ⟨b, 0, none⟩)) where
  lv := rfl
  qv := rfl
  quick _ _ := rfl
  ok := plain_ok hX fuel _
  fuel := by show fuel ≤ _; omega
  keep h e k h0 _ := h.keep e k h0
  mono h _ := ⟨h.tag, h.lt, h.w0, h.w1, h.w2, h.cls, h.heap⟩
  look T w st s c name n h := by
    refine (finder1_any h s c name).mono ?_
    rintro e w' ⟨rfl, hb⟩
    refine ⟨rfl, ⟨T, .refl _ _, ?_⟩, Kp.of_below hb⟩
    have := h.keep (T' := T) (.refl _ _) (Kp.of_below (S := fun _ => False) hb) id
    exact ⟨this.tag, this.lt, this.w0, this.w1, this.w2, this.cls, this.heap⟩
  pl c n mt s a hm hp ha := right_pl hX hm hp ha s rfl

section
variable {σ : Type} {p : Mp σ} {L : (Nat → Nat) → World → σ → Nat → Prop} {q : Value} {T : Nat → Nat} {w : World} {mb : Nat} {m : Mc σ} {hv : Value} {g : Nat} {s : Nat → Nat} {K : Nat}
structure FsR (w : World) (mb : Nat) (v0 v1 : Value) (ep : Int) (s : QV) (name : ByteArray) (av : Value) (w' : World) : Prop where
  bel : Below w.heap.size w w'
  m0 : w'.cell? ⟨mb, 0, none⟩ = some v0
  m1 : w'.cell? ⟨mb, 1, none⟩ = some v1
  m2 : w'.cell? ⟨mb, 2, none⟩ = some (.int .i64 ep)
  c0 : w'.cell? ⟨w.heap.size, 0, none⟩ = some (.int .i64 s.k)
  c1 : w'.cell? ⟨w.heap.size, 1, none⟩ = some (.int .i64 s.n)
  c2 : w'.cell? ⟨w.heap.size, 2, none⟩ = some (.string name)
  c3 : w'.cell? ⟨w.heap.size, 3, none⟩ = some av
  r0 : w'.cell? ⟨w.heap.size + 1, 0, none⟩ = some (.int .i64 0)
  r1 : w'.cell? ⟨w.heap.size + 1, 1, none⟩ = some (.int .i64 0)
  rf : ∀ o, w'.frozen? ⟨w.heap.size + 1, o, none⟩ = false
  sz : w.heap.size + 2 ≤ w'.heap.size
theorem FsR.later {w : World} {mb : Nat} {v0 v1 : Value} {ep : Int} {s : QV} {name : ByteArray} {av : Value} {w' w'' : World} (h : FsR w mb v0 v1 ep s name av w') (hb : Below w'.heap.size w' w'') : FsR w mb v0 v1 ep s name av w'' :=
  ⟨nstep h.bel hb, cell_later hb h.m0, cell_later hb h.m1, cell_later hb h.m2, cell_later hb h.c0, cell_later hb h.c1, cell_later hb h.c2, cell_later hb h.c3, cell_later hb h.r0, cell_later hb h.r1, fun o => (hb.frozen (p := ⟨w.heap.size + 1, o, none⟩) (by have := h.sz; simp only; omega)).trans (h.rf o), Nat.le_trans h.sz hb.size⟩
theorem FsR.al {w : World} {mb : Nat} {v0 v1 : Value} {ep : Int} {s : QV} {name : ByteArray} {av : Value} {w' : World} (h : FsR w mb v0 v1 ep s name av w') : w'.cell? ⟨mb, 0, none⟩ = some v0 ∧ w'.cell? ⟨mb, 1, none⟩ = some v1 ∧ w'.cell? ⟨mb, 2, none⟩ = some (.int .i64 ep) ∧ w'.cell? ⟨w.heap.size, 0, none⟩ = some (.int .i64 s.k) ∧ w'.cell? ⟨w.heap.size, 1, none⟩ = some (.int .i64 s.n) ∧ w'.cell? ⟨w.heap.size, 2, none⟩ = some (.string name) := ⟨h.m0, h.m1, h.m2, h.c0, h.c1, h.c2⟩
set_option maxHeartbeats 4000000 in
theorem first_any (hC : Cx p L q) (h : MacAt p T w mb m 0 hv g s) (hL : L T w m.st (p.E.fuel - m.sends).toNat) (hI : MIn p.E m) (sf : QV) (name : ByteArray) (args : List QV) (av : Value) (hSe : wrongV m.heap.length sf = 0) (hAr : VsOk m.heap.length args) (hA : IsVals (Fx T w) w av args) (hK5 : 5 ≤ K) :
    Calls Try.prog 33 #[.pointer (some ⟨mb, 0, none⟩), ClV sf name av] w fun e w' => EnPost p L T w mb 0 K (entE p.E 20 m (findE p.E.classes (classV m.heap sf) name).1 (findE p.E.classes (classV m.heap sf) name).2 sf args) e w' := by
  have hX := tagged_ext T w 4
  have hT4 : ∀ b, w.heap.size ≤ b → tagged T w 4 b = 4 := fun b hb => tagged_new hb
  have hb1 : Below w.heap.size w ((w.alloc (.cells #[.int .i64 sf.k, .int .i64 sf.n, .string name, av] 30)).alloc (.cells #[.int .i64 0, .int .i64 0] 27)).drew := (bel2 w _ _).drew
  have hM0 := (h.tagged0 4).later hb1
  have hA0 := (fx_tagged hA goodV 4).fx goodV (.refl _ w) (Kp.of_below (S := fun _ => False) hb1) id
  have hL0 := hC.keep (hC.keep hL hX (Kp.refl (fun _ => False) _ _) id id) (.refl _ _) (Kp.of_below (S := fun _ => False) hb1) id id
  have hFs : FsR w mb p.cv hv p.ep sf name av ((w.alloc (.cells #[.int .i64 sf.k, .int .i64 sf.n, .string name, av] 30)).alloc (.cells #[.int .i64 0, .int .i64 0] 27)).drew := by
    refine ⟨hb1, hM0.c0, hM0.c1, hM0.c2, cell_later (bel1 _ _).drew (cell_new w #[.int .i64 sf.k, .int .i64 sf.n, .string name, av] 30 _ rfl 0), cell_later (bel1 _ _).drew (cell_new w #[.int .i64 sf.k, .int .i64 sf.n, .string name, av] 30 _ rfl 1), cell_later (bel1 _ _).drew (cell_new w #[.int .i64 sf.k, .int .i64 sf.n, .string name, av] 30 _ rfl 2), cell_later (bel1 _ _).drew (cell_new w #[.int .i64 sf.k, .int .i64 sf.n, .string name, av] 30 _ rfl 3), cell_new _ _ _ _ (by simp) 0, cell_new _ _ _ _ (by simp) 1, fun o => row_free (cur := #[.int .i64 0, .int .i64 0]) (t := 27) ?_ o, by simp⟩
    rw [drew_heap]
    have := heap_alloc_new (w.alloc (.cells #[.int .i64 sf.k, .int .i64 sf.n, .string name, av] 30)) (.cells #[.int .i64 0, .int .i64 0] 27)
    simpa using this
  have hlm := blk_lt h.box
  obtain ⟨aa, ca, rfl, -⟩ := id hA
  clear h hA hL
  generalize tagged T w 4 = T1 at *
  have t1 : T1 (w.heap.size + 1) = 4 := hT4 _ (by omega)
  go_enter Try.func33, Try.ntmps33
  go_upto_region 1 with (fail)
  generalize ((w.alloc (.cells #[.int .i64 sf.k, .int .i64 sf.n, .string name, .slice aa args.length ca] 30)).alloc (.cells #[.int .i64 0, .int .i64 0] 27)) = W at *
  have hcl := hM0.cls.mono (Q := fun _ => True) goodC fun _ _ => trivial
  have hhp := hM0.heap.heap.mono (Q := fun _ => True) goodO fun _ _ => trivial
  obtain ⟨ch, rfl, -⟩ := hM0.heap.form
  obtain ⟨ac, cc, hcv, -⟩ := id hcl
  have hcls : ∀ w' : World, Below W.drew.heap.size W.drew w' → Calls Try.prog 41 #[.slice (some ⟨g, 0, none⟩) m.heap.length ch, VV sf] w' fun e w'' => e = .returned (.int .i64 (classV m.heap sf)) ∧ Below w'.heap.size w' w'' := fun w' hb => vclass_any m.heap _ sf w' (hhp.later goodO hb)
  have hfin : ∀ w' : World, Below W.drew.heap.size W.drew w' → Calls Try.prog 35 #[WV p.cv (.slice (some ⟨g, 0, none⟩) m.heap.length ch) p.ep, .int .i64 (classV m.heap sf), .string name] w' fun e w'' => e = .returned (.tuple #[.int .i64 (findE p.E.classes (classV m.heap sf) name).1, .int .i64 (findE p.E.classes (classV m.heap sf) name).2]) ∧ Below w'.heap.size w' w'' := fun w' hb => find_any ⟨p.E.classes, m.heap, p.ep⟩ (classV m.heap sf) name p.cv _ w' (hcl.later goodC hb) (hhp.later goodO hb)
  have HM0 := hid hM0
  rw [hcv] at hfin hFs
  clear hcv hcl hhp hM0
  obtain ⟨c0, hc0⟩ : ∃ c0, c0 = classV m.heap sf := ⟨_, rfl⟩
  rw [← hc0] at hcls hfin
  obtain ⟨r1, r2, hr⟩ : ∃ r1 r2, findE p.E.classes c0 name = (r1, r2) := ⟨_, _, rfl⟩
  rw [hr] at hfin
  have HRO : Hid (entE p.E 20 m (findE p.E.classes (classV m.heap sf) name).1 (findE p.E.classes (classV m.heap sf) name).2 sf args = entE p.E 20 m r1 r2 sf args) := by show _ = _; rw [← hc0, hr]
  clear hc0 hr
  have hS0 := hFs.al
  have tokA : True := trivial
  go_region_held3 (fun w' => w'.cell? ⟨mb, 0, none⟩ = some (.slice ac p.E.classes.length cc) ∧ w'.cell? ⟨mb, 1, none⟩ = some (.slice (some ⟨g, 0, none⟩) m.heap.length ch) ∧ w'.cell? ⟨mb, 2, none⟩ = some (.int .i64 p.ep) ∧ w'.cell? ⟨w.heap.size, 0, none⟩ = some (.int .i64 sf.k) ∧ w'.cell? ⟨w.heap.size, 1, none⟩ = some (.int .i64 sf.n) ∧ w'.cell? ⟨w.heap.size, 2, none⟩ = some (.string name))
    (first | with_reducible exact hS0 | with_reducible exact hS1 | with_reducible exact hS2)
    (first
      | (have _t := tokA; go_at_call 41; refine (hcls _ (Below.refl _ _)).mono ?_; rintro e w3 ⟨rfl, hb3⟩; have hF3 := hFs.later hb3; have hS1 := hF3.al; clear tokA; have tokB : True := trivial)
      | (have _t := tokB; go_at_call 35; refine (hfin _ hb3).mono ?_; rintro e w4 ⟨rfl, hb4⟩; have hF4 := hF3.later hb4; have hS2 := hF4.al; have hb34 := nstep hb3 hb4; clear tokB))
  have hM4 := HM0.out.later hb34
  have hA4 := hA0.fx goodV (.refl _ _) (Kp.of_below (S := fun _ => False) hb34) id
  have hL4 := hC.keep hL0 (.refl _ _) (Kp.of_below (S := fun _ => False) hb34) id id
  have hent := enter_all hC 20 (Nat.le_refl _) K T1 w4 mb m _ _ _ r1 r2 sf args _ hK5 hM4 hL4 hI hSe hAr hA4
  have HKW := hid (Kp.of_below (S := All K) (T := T) hF4.bel)
  obtain ⟨-, m0, m1, m2, c0', c1, c2, c3, r0, r1', rf, sz⟩ := id hF4
  have H4 := hid hF4
  clear hS0 hS1 hS2 hcls hfin hF3 hF4 hFs hb3 hb4 hb34 hM4 hA4 hL4
  obtain ⟨R, hR⟩ : ∃ R, entE p.E 20 m r1 r2 sf args = R := ⟨_, rfl⟩
  rw [hR] at hent HRO
  clear hR
  go_wp2_with fail
  refine hent.mono ?_
  rintro e w6 ⟨rfl, ⟨T6, hX6, ⟨hv6, g6, s6, hM6⟩, hL6⟩, hK6⟩
  have q0 := hK6.cell r0 (by rw [t1]; unfold All; omega)
  have q1 := hK6.cell r1' (by rw [t1]; unfold All; omega)
  have qf : ∀ o, w6.frozen? ⟨w.heap.size + 1, o, none⟩ = false := fun o => kp_frozen hK6 (by omega) (by rw [t1]; unfold All; omega) (rf o)
  have t6 : T6 (w.heap.size + 1) = 4 := by rw [hX6 _ (by omega)]; exact t1
  have HQ := hid fun u0 u1 => EnPost.fin (r := R) hC (hX.trans HKW.out.size hX6) (show MacAt p T6 w6 mb R.1 0 hv6 g6 s6 from hM6) hL6 (HKW.out.trans hX hK6) t6 u0 u1
  clear hent hM6 hL6 hK6 hX6 m0 m1 m2 c0' c1 c2 c3 r0 r1' rf
  obtain ⟨rm, v, er⟩ := R
  go_wp2
  rw [HRO.out]
  refine bodyPost_ret (v := .tuple #[VV v, .int .i64 er]) ?_ rfl (HQ.out _ _)
  simp [results, Try.results33, go_sem, q0, q1]
end

/-- What comes of a run, as a value. -/
abbrev RnV (r : Ran) : Value := .agg #[.int .i64 r.v.k, .int .i64 r.v.n, .int .i64 r.err, .int .i64 r.sends]
/-- What a plain run leaves. -/
def PlPost (w : World) (X : QW) (r : Ran) (e : Ending) (w' : World) : Prop :=
  Below w.heap.size w w' ∧ ∃ cv hv, e = .returned (.tuple #[WV cv hv X.epoch, RnV r]) ∧ IsClasses (fun b => w.heap.size ≤ b) w' cv X.classes ∧ IsHeap (fun b => w.heap.size ≤ b) w' hv r.heap
/-- What With's walk holds of its boxes. -/
structure WtR (w : World) (cv hv : Value) (ep : Int) (s : QV) (name : ByteArray) (av : Value) (w' : World) : Prop where
  w0 : w'.cell? ⟨w.heap.size, 0, none⟩ = some cv
  w1 : w'.cell? ⟨w.heap.size, 1, none⟩ = some hv
  w2 : w'.cell? ⟨w.heap.size, 2, none⟩ = some (.int .i64 ep)
  c0 : w'.cell? ⟨w.heap.size + 1, 0, none⟩ = some (.int .i64 s.k)
  c1 : w'.cell? ⟨w.heap.size + 1, 1, none⟩ = some (.int .i64 s.n)
  c2 : w'.cell? ⟨w.heap.size + 1, 2, none⟩ = some (.string name)
  c3 : w'.cell? ⟨w.heap.size + 1, 3, none⟩ = some av
  a0 : w'.cell? ⟨w.heap.size + 2, 0, none⟩ = some (.slice none 0 0)
  a1 : w'.cell? ⟨w.heap.size + 2, 1, none⟩ = some (.slice none 0 0)
  a2 : w'.cell? ⟨w.heap.size + 2, 2, none⟩ = some (.int .i64 0)
  af : ∀ o, w'.frozen? ⟨w.heap.size + 2, o, none⟩ = false
  b0 : w'.cell? ⟨w.heap.size + 3, 0, none⟩ = some (.int .i64 0)
  b1 : w'.cell? ⟨w.heap.size + 3, 1, none⟩ = some (.int .i64 0)
  b2 : w'.cell? ⟨w.heap.size + 3, 2, none⟩ = some (.int .i64 0)
  b3 : w'.cell? ⟨w.heap.size + 3, 3, none⟩ = some (.int .i64 0)
  bf : ∀ o, w'.frozen? ⟨w.heap.size + 3, o, none⟩ = false
  sz : w.heap.size + 4 ≤ w'.heap.size
theorem WtR.kp {w : World} {cv hv : Value} {ep : Int} {s : QV} {name : ByteArray} {av : Value} {w' w'' : World} {S : Nat → Prop} {T : Nat → Nat} (h : WtR w cv hv ep s name av w') (k : Kp S T w' w'') (hs : ∀ i, i < 4 → ¬ S (T (w.heap.size + i))) : WtR w cv hv ep s name av w'' :=
  have hz := h.sz
  ⟨k.cell h.w0 (hs 0 (by omega)), k.cell h.w1 (hs 0 (by omega)), k.cell h.w2 (hs 0 (by omega)), k.cell h.c0 (hs 1 (by omega)), k.cell h.c1 (hs 1 (by omega)), k.cell h.c2 (hs 1 (by omega)), k.cell h.c3 (hs 1 (by omega)), k.cell h.a0 (hs 2 (by omega)), k.cell h.a1 (hs 2 (by omega)), k.cell h.a2 (hs 2 (by omega)), fun o => kp_frozen k (by omega) (hs 2 (by omega)) (h.af o), k.cell h.b0 (hs 3 (by omega)), k.cell h.b1 (hs 3 (by omega)), k.cell h.b2 (hs 3 (by omega)), k.cell h.b3 (hs 3 (by omega)), fun o => kp_frozen k (by omega) (hs 3 (by omega)) (h.bf o), Nat.le_trans hz k.size⟩
theorem WtR.later {w : World} {cv hv : Value} {ep : Int} {s : QV} {name : ByteArray} {av : Value} {w' w'' : World} (h : WtR w cv hv ep s name av w') (hb : Below w'.heap.size w' w'') : WtR w cv hv ep s name av w'' := h.kp (T := fun _ => 0) (Kp.of_below (S := fun _ => False) hb) fun _ _ => id
theorem wtR_new (w : World) (cv hv : Value) (ep : Int) (s : QV) (name : ByteArray) (av : Value) : WtR w cv hv ep s name av ((((w.alloc (.cells #[cv, hv, .int .i64 ep] 25)).alloc (.cells #[.int .i64 s.k, .int .i64 s.n, .string name, av] 30)).alloc (.cells #[.slice none 0 0, .slice none 0 0, .int .i64 0] 25)).alloc (.cells #[.int .i64 0, .int .i64 0, .int .i64 0, .int .i64 0] 34)) := by
  obtain ⟨-, w0, w1, w2, c0, c1, c2, c3⟩ := wcR_new w cv hv ep s name av
  have q := bel2 ((w.alloc (.cells #[cv, hv, .int .i64 ep] 25)).alloc (.cells #[.int .i64 s.k, .int .i64 s.n, .string name, av] 30)) (.cells #[.slice none 0 0, .slice none 0 0, .int .i64 0] 25) (.cells #[.int .i64 0, .int .i64 0, .int .i64 0, .int .i64 0] 34)
  have e2 : ((w.alloc (.cells #[cv, hv, .int .i64 ep] 25)).alloc (.cells #[.int .i64 s.k, .int .i64 s.n, .string name, av] 30)).heap.size = w.heap.size + 2 := by simp
  have e3 : (((w.alloc (.cells #[cv, hv, .int .i64 ep] 25)).alloc (.cells #[.int .i64 s.k, .int .i64 s.n, .string name, av] 30)).alloc (.cells #[.slice none 0 0, .slice none 0 0, .int .i64 0] 25)).heap.size = w.heap.size + 3 := by simp
  refine ⟨cell_later q w0, cell_later q w1, cell_later q w2, cell_later q c0, cell_later q c1, cell_later q c2, cell_later q c3, cell_later (bel1 _ _) (cell_new _ _ _ _ e2 0), cell_later (bel1 _ _) (cell_new _ _ _ _ e2 1), cell_later (bel1 _ _) (cell_new _ _ _ _ e2 2), fun o => ((bel1 _ _).frozen (p := ⟨w.heap.size + 2, o, none⟩) (by rw [e3]; simp)).trans (row_free (cur := #[.slice none 0 0, .slice none 0 0, .int .i64 0]) (t := 25) (blk_new _ _ _ e2) o), cell_new _ _ _ _ e3 0, cell_new _ _ _ _ e3 1, cell_new _ _ _ _ e3 2, cell_new _ _ _ _ e3 3, row_free (cur := #[.int .i64 0, .int .i64 0, .int .i64 0, .int .i64 0]) (t := 34) (blk_new _ _ _ e3), by simp⟩
end Go.Proofs.Ytfdonemehiamjaa

/- A call, read. -/
namespace Go.Proofs.Ytfdonemehiamjaa
open Go.ChangeShapes Go.WideShapes Go.ChangeAt Go.RowKit
set_option linter.unusedSimpArgs false
set_option linter.unusedVariables false
set_option maxRecDepth 8000
section
variable {H : Type} {enc : TypeId × Value → H} {w : World} {base : Nat} {spare : Nat → Bool} {held : Bool}
theorem cells30 : Try.prog.cellsOf 30 = 4 := by kernel_rfl
theorem open_call {r : Reach} {b0 : Nat} {v : Value} {d : DataW H} {p : List MemPlace} (hv : Value.okWide Try.prog w r b0 30 v) (h : DataW.Trod enc Try.prog w base spare held 30 v d p) (hw : ∀ n ∈ d.weights Try.prog 30, n ≤ 140737488351232) : ∃ (s : QV) (name : ByteArray) (av : Value) (args : List QV), v = ClV s name av ∧ name.size ≤ 140737488351232 ∧ IsVals Tru w av args := by
  obtain ⟨cs, rfl, hsz⟩ := okWide_struct Try.underlying30 hv
  obtain ⟨c0, c1, c2, c3, rfl⟩ := Joins.array4 (hsz.trans cells30)
  obtain ⟨fuel, hf0⟩ := h
  obtain ⟨xs, k, hk, hxy, _, hxl, hf⟩ := DataW.trod_struct Try.underlying30 hf0
  match xs, hxl with
  | [y0, y1, y2], _ =>
    have g0 := hf 0 _ rfl
    have g1 := hf 1 _ rfl
    have g2 := hf 2 _ rfl
    simp [Value.cells, cells27, cells9, cells28] at g0 g1 g2
    simp only [Prod.mk.injEq] at hxy
    obtain ⟨rfl, -⟩ := hxy
    obtain ⟨y, hy⟩ := read_val rfl g0
    obtain ⟨z0, z1⟩ := hy
    simp at z0 z1
    subst z0 z1
    obtain ⟨s, e1, e2, -⟩ := DataW.trod_string Try.underlying9 g1
    simp at e1
    subst e1
    obtain ⟨l, hl⟩ := read_vals g2 (fun q hq => hw q (weights_at (j := 2) (xs := [y0, y1, y2]) Try.underlying30 rfl rfl q hq))
    have hs : s.size ≤ 140737488351232 := by
      have := hw s.data.toList.length (weights_at (j := 1) (xs := [y0, y1, y2]) Try.underlying30 rfl rfl _ (by rw [e2]; simp [DataW.weights]))
      simpa using this
    exact ⟨y, s, _, l, rfl, hs, hl⟩
end
end Go.Proofs.Ytfdonemehiamjaa

/- With, and Plain. -/
namespace Go.Proofs.Ytfdonemehiamjaa
open Go.ChangeShapes Go.WideShapes Go.ChangeAt Go.RowKit
set_option linter.unusedSimpArgs false
set_option linter.unusedVariables false
set_option maxRecDepth 8000

theorem OwnC.rowIn {w : World} {B : Nat} {xs : List QC} {s : Nat → Nat} (h : OwnC w B xs s xs.length) (hby : xs.length * 56 ≤ 140737488351232) : IsClasses (fun b => B ≤ b ∧ b < s xs.length) w (.slice (some ⟨B, 0, none⟩) xs.length xs.length) xs := by
  have hB := h.2.1
  have h0n := h.mono 0 xs.length (by omega) (Nat.le_refl _)
  refine ⟨_, _, rfl, Nat.le_refl _, by unfold maxLen; omega, hby, fun i x hx => ⟨B, 0, rfl, ⟨Nat.le_refl _, by omega⟩, ?_⟩⟩
  have hi := lt_of_get hx
  have hn := h.mono (i + 1) xs.length (by omega) (Nat.le_refl _)
  have hk := h.2.2.2.2 i x hi hx
  have hm := h.mono 0 i (by omega) (by omega)
  obtain ⟨g, hg, hlo, hM⟩ := hk.meths
  obtain ⟨h0, h1, h2, h3, -⟩ := hk
  simp only [Nat.zero_add]
  exact ⟨h0, h1, h2, h3, _, hg, hM.mono goodM fun b hb => ⟨by have := hb.1; omega, by have := hb.2; omega⟩⟩
/-- A copy of a world: the classes lie below the objects. -/
theorem ownX_any {P : Nat → Prop} (X : QW) (cv hv : Value) (w : World) (h1 : IsClasses P w cv X.classes) (h2 : IsHeap P w hv X.heap) : Calls Try.prog 32 #[WV cv hv X.epoch] w fun e w' => ∃ g gh sh, e = .returned (WV (.slice (some ⟨g, 0, none⟩) X.classes.length X.classes.length) (.slice (some ⟨gh, 0, none⟩) X.heap.length X.heap.length) X.epoch) ∧ IsClasses (fun b => w.heap.size ≤ b ∧ b < gh) w' (.slice (some ⟨g, 0, none⟩) X.classes.length X.classes.length) X.classes ∧ HRow w' gh sh X.heap X.heap.length ∧ w.heap.size ≤ gh ∧ Below w.heap.size w w' := by
  obtain ⟨a1, c1, e1, -, -, b1, -⟩ := id h1
  refine (own_any X cv hv w h1 h2).mono ?_
  rintro e w' ⟨g, gh, s, rfl, hO, ⟨sh, hR⟩, hs, hg, hb⟩
  have hB := hO.2.1
  have h0n := hO.mono 0 X.classes.length (by omega) (Nat.le_refl _)
  exact ⟨g, gh, sh, rfl, (hO.rowIn b1).mono goodC fun b hb => ⟨by have := hb.1; omega, by have := hb.2; omega⟩, hR, by omega, hb⟩
theorem HRow.isHeap {w : World} {g : Nat} {s : Nat → Nat} {xs : List QO} (h : HRow w g s xs xs.length) (hby : xs.length * 32 ≤ 140737488351232) : IsHeap (fun b => g ≤ b) w (.slice (some ⟨g, 0, none⟩) xs.length xs.length) xs := by
  have hT : ∀ b, g ≤ b → b < w.heap.size → (fun b => if g ≤ b then 2 else 0) b = 2 := fun b hb _ => by simp [hb]
  refine (h.heap hby hT).heap.mono goodO fun b hb => ?_
  have := hb.2
  simp only at this
  split at this
  · assumption
  · cases this
/-- The result's boxes are written. -/
theorem PlPost.fin {w U : World} {X : QW} {r : Ran} {cv hv : Value} {P : Nat → Prop} (hb : Below w.heap.size w U) (hC : IsClasses P U cv X.classes) (hH : IsHeap P U hv r.heap) (h2 : ¬ P (w.heap.size + 2)) (h3 : ¬ P (w.heap.size + 3)) (hP : ∀ x, P x → w.heap.size ≤ x) (u0 u1 u2 v0 v1 v2 v3 : Value) :
    PlPost w X r (.returned (.tuple #[WV cv hv X.epoch, RnV r])) (((((((U.setCell ⟨w.heap.size + 2, 0, none⟩ u0).setCell ⟨w.heap.size + 2, 1, none⟩ u1).setCell ⟨w.heap.size + 2, 2, none⟩ u2).setCell ⟨w.heap.size + 3, 0, none⟩ v0).setCell ⟨w.heap.size + 3, 1, none⟩ v1).setCell ⟨w.heap.size + 3, 2, none⟩ v2).setCell ⟨w.heap.size + 3, 3, none⟩ v3) := by
  have k : Keeps P U (((((((U.setCell ⟨w.heap.size + 2, 0, none⟩ u0).setCell ⟨w.heap.size + 2, 1, none⟩ u1).setCell ⟨w.heap.size + 2, 2, none⟩ u2).setCell ⟨w.heap.size + 3, 0, none⟩ v0).setCell ⟨w.heap.size + 3, 1, none⟩ v1).setCell ⟨w.heap.size + 3, 2, none⟩ v2).setCell ⟨w.heap.size + 3, 3, none⟩ v3) := keep_set (keep_set (keep_set (keep_set (keep_set (keep_set (keep_set (Keeps.refl _ _) h2 _) h2 _) h2 _) h3 _) h3 _) h3 _) h3 _
  refine ⟨((((((hb.setCell (by simp) _).setCell (by simp) _).setCell (by simp) _).setCell (by simp) _).setCell (by simp) _).setCell (by simp) _).setCell (by simp) _, cv, hv, rfl, hC.keep goodC k hP, hH.keep goodO k hP⟩

theorem run_equalIn_fnil (d : Nat) (t : TypeId) (k : Nat) (c : Array Value) (w : World) {a b v} (h : Try.prog.underlying t = some (.func a b v)) : (Op.equalIn (d + 1) t (.func (.func k) #[] c) .nilFunc).run Try.prog w = .ok false w := by
  simp [Op.equalIn, run_underlying h]
theorem eqlF62 (k : Nat) (c : Array Value) (w : World) : (binOp .eql 62 (.func (.func k) #[] c) .nilFunc).run Try.prog w = .ok (.bool false) w := by
  simp only [binOp]
  have : (Op.equal 62 (.func (.func k) #[] c) .nilFunc).run Try.prog w = .ok false w := run_equalIn_fnil 9999 62 k c w Try.underlying62
  simp [this]
theorem eqlF85 (k : Nat) (c : Array Value) (w : World) : (binOp .eql 85 (.func (.func k) #[] c) .nilFunc).run Try.prog w = .ok (.bool false) w := by
  simp only [binOp]
  have : (Op.equal 85 (.func (.func k) #[] c) .nilFunc).run Try.prog w = .ok false w := run_equalIn_fnil 9999 85 k c w Try.underlying85
  simp [this]
/-- Tags when a machine is made: the boxes of With 4, classes 0, objects 2, the machine 1. -/
def tagW (n gh mb : Nat) : Nat → Nat := fun x => if x < n then 0 else if x < n + 4 then 4 else if x < gh then 0 else if x < mb then 2 else 1
theorem PlPost.drew {w w' : World} {X : QW} {r : Ran} {e : Ending} (h : PlPost w X r e w') : PlPost w X r e w'.drew := by
  obtain ⟨hb, cv, hv, rfl, h1, h2⟩ := h
  exact ⟨hb.drew, cv, hv, rfl, h1.later goodC (Below.refl _ _).drew, h2.later goodO (Below.refl _ _).drew⟩
/-- What the last statement of a run that failed holds. -/
structure EeR (w : World) (mb : Nat) (v0 v1 : Value) (ep n : Int) (w' : World) : Prop where
  w0 : w'.cell? ⟨w.heap.size, 0, none⟩ = some v0
  w1 : w'.cell? ⟨w.heap.size, 1, none⟩ = some v1
  w2 : w'.cell? ⟨w.heap.size, 2, none⟩ = some (.int .i64 ep)
  m4 : w'.cell? ⟨mb, 4, none⟩ = some (.int .i64 n)
  lt : w.heap.size + 4 ≤ mb
theorem EeR.later {w : World} {mb : Nat} {v0 v1 : Value} {ep n : Int} {w' w'' : World} (h : EeR w mb v0 v1 ep n w') (hb : Below w'.heap.size w' w'') : EeR w mb v0 v1 ep n w'' := ⟨cell_later hb h.w0, cell_later hb h.w1, cell_later hb h.w2, cell_later hb h.m4, h.lt⟩
theorem EeR.set {w : World} {mb : Nat} {v0 v1 : Value} {ep n : Int} {w' : World} (h : EeR w mb v0 v1 ep n w') {b : Nat} (hb : b = w.heap.size + 2 ∨ b = w.heap.size + 3) (o : Nat) (u : Value) : EeR w mb v0 v1 ep n (w'.setCell ⟨b, o, none⟩ u) :=
  have hl := h.lt
  ⟨(World.cell?_setCell_far _ _ _ _ (by simp; omega)).trans h.w0, (World.cell?_setCell_far _ _ _ _ (by simp; omega)).trans h.w1, (World.cell?_setCell_far _ _ _ _ (by simp; omega)).trans h.w2, (World.cell?_setCell_far _ _ _ _ (by simp; omega)).trans h.m4, hl⟩
theorem EeR.al {w : World} {mb : Nat} {v0 v1 : Value} {ep n : Int} {w' : World} (h : EeR w mb v0 v1 ep n w') : w'.cell? ⟨w.heap.size, 0, none⟩ = some v0 ∧ w'.cell? ⟨w.heap.size, 1, none⟩ = some v1 ∧ w'.cell? ⟨w.heap.size, 2, none⟩ = some (.int .i64 ep) ∧ w'.cell? ⟨mb, 4, none⟩ = some (.int .i64 n) := ⟨h.w0, h.w1, h.w2, h.m4⟩
set_option maxHeartbeats 8000000 in
theorem with_any {P Q : Nat → Prop} (X : QW) (hX : rightE X = 0) (s : QV) (name : ByteArray) (args : List QV) (fuel : Int) (cv hv av : Value) (w : World) (hC : IsClasses P w cv X.classes) (hH : IsHeap P w hv X.heap) (hA : IsVals Q w av args) (hn : name.size ≤ 140737488351232) (b : Nat) (hbl : b < w.heap.size) (hb0 : w.cell? ⟨b, 0, none⟩ = some cv) (hb1 : w.cell? ⟨b, 1, none⟩ = some hv) (hb2 : w.cell? ⟨b, 2, none⟩ = some (.int .i64 X.epoch)) :
    Calls Try.prog 19 #[WV cv hv X.epoch, ClV s name av, .int .i64 fuel, .func (.func 34) #[] #[.pointer (some ⟨b, 0, none⟩)], .func (.func 21) #[] #[]] w fun e w' => PlPost w X (plainE X s name args fuel) e w' := by
  have hR := wtR_new w cv hv X.epoch s name av
  have hbW : Below w.heap.size w ((((w.alloc (.cells #[cv, hv, .int .i64 X.epoch] 25)).alloc (.cells #[.int .i64 s.k, .int .i64 s.n, .string name, av] 30)).alloc (.cells #[.slice none 0 0, .slice none 0 0, .int .i64 0] 25)).alloc (.cells #[.int .i64 0, .int .i64 0, .int .i64 0, .int .i64 0] 34)) := nstep (bel2 _ _ _) (bel2 _ _ _)
  obtain ⟨ac, cc, hcv, -, -, hby, -⟩ := id hC
  obtain ⟨ah, ch, hhv, -, -, hbyh, -⟩ := id hH
  obtain ⟨aa, ca, hav, -⟩ := id hA
  subst hcv hhv hav
  go_enter Try.func19, Try.ntmps19
  go_upto_region 1 with (fail)
  generalize ((((w.alloc (.cells #[.slice ac X.classes.length cc, .slice ah X.heap.length ch, .int .i64 X.epoch] 25)).alloc (.cells #[.int .i64 s.k, .int .i64 s.n, .string name, .slice aa args.length ca] 30)).alloc (.cells #[.slice none 0 0, .slice none 0 0, .int .i64 0] 25)).alloc (.cells #[.int .i64 0, .int .i64 0, .int .i64 0, .int .i64 0] 34)) = W at *
  obtain ⟨w0, w1, w2, c0, c1, c2, c3, -⟩ := id hR
  have hwr := wrong_any X s name args fuel (.slice ac X.classes.length cc) _ _ W ⟨_, _, _, rfl⟩ (hH.later goodO hbW) (hA.later goodV hbW) hn
  have HPE : Hid (plainE X s name args fuel = if wrongCallE X s name args fuel ≠ 0 then ⟨X.heap, nilV, wrongCallE X s name args fuel, 0⟩ else if (runE X s name args fuel).2.2 ≠ 0 then ⟨X.heap, nilV, (runE X s name args fuel).2.2, (runE X s name args fuel).1.sends⟩ else ⟨(runE X s name args fuel).1.heap, (runE X s name args fuel).2.1, 0, (runE X s name args fuel).1.sends⟩) := rfl
  have HWI : Hid (wrongCallE X s name args fuel = 0 → (0 ≤ fuel ∧ fuel ≤ 400) ∧ wrongV X.heap.length s = 0 ∧ VsOk X.heap.length args) := wrongCall_is
  obtain ⟨ws, hws⟩ : ∃ ws, wrongCallE X s name args fuel = ws := ⟨_, rfl⟩
  rw [hws] at hwr HPE HWI
  clear hws
  go_wp2_with fail
  refine hwr.mono ?_
  rintro e w1' ⟨rfl, hbv⟩
  have hR1 := hR.later hbv
  have HB1 := hid (nstep hbW hbv)
  clear w0 w1 w2 c0 c1 c2 c3 hwr hR
  have hown := fun w' (hb : Below w.heap.size w w') => ownX_any X _ _ w' (hC.later goodC hb) (hH.later goodO hb)
  obtain ⟨w0, w1, w2, c0, c1, c2, c3, -⟩ := id hR1
  by_cases hz : ws = 0
  · have hz' : (ws != 0) = false := by simpa using hz
    rw [if_neg (by simpa using hz)] at HPE
    obtain ⟨hfu, hsl, hvs⟩ := HWI.out hz
    clear HWI hz
    have hq1 := eqlF62
    have hq2 := eqlF85
    have hsf : ∀ (w : World) (a : Addr) (k : Nat) (c : Array Value), (store a (.func (.func k) #[] c)).run Try.prog w = stored Try.prog w a (.func (.func k) #[] c) .plain := fun w a k c => run_store Try.prog w a _ _ rfl
    go_wp2_with fail
    refine (hown _ HB1.out).mono ?_
    rintro e w2' ⟨g, gh, sh, rfl, hCo, hHo, hgh, hbo⟩
    have hR2 := hR1.later hbo
    have hsz := hR1.sz
    have HB2 := hid (nstep HB1.out hbo)
    clear w0 w1 w2 c0 c1 c2 c3 hR1
    have hbM := bel1 w2' (MB (plainMp X fuel (.slice (some ⟨g, 0, none⟩) X.classes.length X.classes.length) b) (⟨X.heap, 0, 0, ()⟩ : Mc Unit) 0 (.slice (some ⟨gh, 0, none⟩) X.heap.length X.heap.length))
    have hbw3 := nstep HB2.out hbM
    have hgl : gh < w2'.heap.size := by obtain ⟨cur, h1, -⟩ := hHo.row; exact blk_lt h1
    have hs2 := hbo.size
    have T0 : ∀ x, x < w.heap.size → tagW w.heap.size gh w2'.heap.size x = 0 := fun x hx => by unfold tagW; rw [if_pos hx]
    have T4 : ∀ i, i < 4 → tagW w.heap.size gh w2'.heap.size (w.heap.size + i) = 4 := fun i hi => by unfold tagW; rw [if_neg (by omega), if_pos (by omega)]
    have Tc : ∀ x, w1'.heap.size ≤ x → x < gh → tagW w.heap.size gh w2'.heap.size x = 0 := fun x h1 h2 => by unfold tagW; rw [if_neg (by omega), if_neg (by omega), if_pos h2]
    have Th : ∀ x, gh ≤ x → x < w2'.heap.size → tagW w.heap.size gh w2'.heap.size x = 2 := fun x h1 h2 => by unfold tagW; rw [if_neg (by omega), if_neg (by omega), if_neg (by omega), if_pos h2]
    have Tm : tagW w.heap.size gh w2'.heap.size w2'.heap.size = 1 := by unfold tagW; rw [if_neg (by omega), if_neg (by omega), if_neg (by omega), if_neg (by omega)]
    generalize tagW w.heap.size gh w2'.heap.size = Tg at *
    have hM3 : MacAt (plainMp X fuel (.slice (some ⟨g, 0, none⟩) X.classes.length X.classes.length) b) Tg (w2'.alloc (MB (plainMp X fuel (.slice (some ⟨g, 0, none⟩) X.classes.length X.classes.length) b) (⟨X.heap, 0, 0, ()⟩ : Mc Unit) 0 (.slice (some ⟨gh, 0, none⟩) X.heap.length X.heap.length))) w2'.heap.size ⟨X.heap, 0, 0, ()⟩ 0 (.slice (some ⟨gh, 0, none⟩) X.heap.length X.heap.length) gh sh :=
      ⟨heap_alloc_new w2' _, Tm, (hHo.heap hbyh Th).keep (.refl _ _) (Kp.of_below (S := fun _ => False) hbM) id, hCo.keep goodC (Keeps.of_below hbM) fun x hx => ⟨by have := hx.2; simp; omega, Tc x hx.1 hx.2⟩⟩
    have hLk : LkP X b (.slice ac X.classes.length cc) (.slice ah X.heap.length ch) Tg (w2'.alloc (MB (plainMp X fuel (.slice (some ⟨g, 0, none⟩) X.classes.length X.classes.length) b) (⟨X.heap, 0, 0, ()⟩ : Mc Unit) 0 (.slice (some ⟨gh, 0, none⟩) X.heap.length X.heap.length))) () (fuel - 0).toNat :=
      ⟨T0 b hbl, Nat.lt_of_lt_of_le hbl hbw3.size, cell_later hbw3 hb0, cell_later hbw3 hb1, cell_later hbw3 hb2, (bound_classes hC).keep goodC (Keeps.of_below hbw3) fun x hx => ⟨Nat.lt_of_lt_of_le hx hbw3.size, T0 x hx⟩, (bound_heap hH).keep goodO (Keeps.of_below hbw3) fun x hx => ⟨Nat.lt_of_lt_of_le hx hbw3.size, T0 x hx⟩⟩
    have hA3 : IsVals (Fx Tg (w2'.alloc (MB (plainMp X fuel (.slice (some ⟨g, 0, none⟩) X.classes.length X.classes.length) b) (⟨X.heap, 0, 0, ()⟩ : Mc Unit) 0 (.slice (some ⟨gh, 0, none⟩) X.heap.length X.heap.length)))) (w2'.alloc (MB (plainMp X fuel (.slice (some ⟨g, 0, none⟩) X.classes.length X.classes.length) b) (⟨X.heap, 0, 0, ()⟩ : Mc Unit) 0 (.slice (some ⟨gh, 0, none⟩) X.heap.length X.heap.length))) (.slice aa args.length ca) args := (bound_vals hA).keep goodV (Keeps.of_below hbw3) fun x hx => ⟨Nat.lt_of_lt_of_le hx hbw3.size, T0 x hx⟩
    have hMi : MIn (plainMp X fuel (.slice (some ⟨g, 0, none⟩) X.classes.length X.classes.length) b).E (⟨X.heap, 0, 0, ()⟩ : Mc Unit) := ⟨right_heap hX, ⟨by simp, hfu.1⟩, by simp⟩
    have hfst := first_any (plain_cx hX hfu.2 (.slice (some ⟨g, 0, none⟩) X.classes.length X.classes.length) b (.slice ac X.classes.length cc) (.slice ah X.heap.length ch)) hM3 hLk hMi s name args _ hsl hvs hA3 (K := 5) (Nat.le_refl _)
    have hR3 := hR2.later hbM
    have HBW3 := hid hbw3
    have HCo3 : Hid (IsClasses (fun x => w1'.heap.size ≤ x ∧ x < gh) (w2'.alloc (MB (plainMp X fuel (.slice (some ⟨g, 0, none⟩) X.classes.length X.classes.length) b) (⟨X.heap, 0, 0, ()⟩ : Mc Unit) 0 (.slice (some ⟨gh, 0, none⟩) X.heap.length X.heap.length))) (.slice (some ⟨g, 0, none⟩) X.classes.length X.classes.length) X.classes) := hCo.later goodC hbM
    clear hM3 hLk hA3 hMi hCo hHo hR2 hbM hbo hb0 hb1 hb2
    have HRE : Hid (runE X s name args fuel = entE (plainMp X fuel (.slice (some ⟨g, 0, none⟩) X.classes.length X.classes.length) b).E 20 ⟨X.heap, 0, 0, ()⟩ (findE (plainMp X fuel (.slice (some ⟨g, 0, none⟩) X.classes.length X.classes.length) b).E.classes (classV X.heap s) name).1 (findE (plainMp X fuel (.slice (some ⟨g, 0, none⟩) X.classes.length X.classes.length) b).E.classes (classV X.heap s) name).2 s args) := rfl
    rw [← HRE.out] at hfst
    clear HRE
    obtain ⟨R, hRn⟩ : ∃ R, runE X s name args fuel = R := ⟨_, rfl⟩
    rw [hRn] at hfst HPE
    clear hRn
    obtain ⟨rm, v, er⟩ := R
    simp only at HPE
    obtain ⟨V3, hV3⟩ : ∃ V3, V3 = w2'.alloc (MB (plainMp X fuel (.slice (some ⟨g, 0, none⟩) X.classes.length X.classes.length) b) (⟨X.heap, 0, 0, ()⟩ : Mc Unit) 0 (.slice (some ⟨gh, 0, none⟩) X.heap.length X.heap.length)) := ⟨_, rfl⟩
    rw [← hV3] at hfst hR3 HBW3 HCo3
    have hV3' : (w2'.alloc (.cells #[.slice (some ⟨g, 0, none⟩) X.classes.length X.classes.length, .slice (some ⟨gh, 0, none⟩) X.heap.length X.heap.length, .int .i64 X.epoch, .int .i64 fuel, .int .i64 0, .int .i64 0, .int .i64 0, .func (.func 34) #[] #[.pointer (some ⟨b, 0, none⟩)], .func (.func 21) #[] #[]] 88)) = V3 := by rw [hV3]; rfl
    have hz3 : w2'.heap.size < V3.heap.size := by rw [hV3]; simp
    clear hV3
    go_upto_region 9 with (fail)
    try rw [hV3']
    clear hV3'
    obtain ⟨w0, w1, w2, c0, c1, c2, c3, -⟩ := id hR3
    have HMB : Hid (w2'.heap.size < V3.heap.size) := hz3
    clear hz3 hq1 hq2 hsf
    generalize w2'.heap.size = mb at *
    go_wp2_with fail
    refine hfst.mono ?_
    rintro e w4 ⟨rfl, ⟨T4', hX4, ⟨hv4, g4, s4, hM4⟩, -⟩, hK4⟩
    simp only at hM4
    have hR4 := hR3.kp hK4 (fun i hi => by rw [T4 i hi]; unfold All; omega)
    have HB4 := hid (HBW3.out.trans (hK4.below (lo := w.heap.size) (fun x hx => by rw [T0 x hx]; unfold All; omega) HBW3.out.size))
    have t42 : T4' (w.heap.size + 2) = 4 := by rw [hX4 _ (by have := hR3.sz; omega)]; exact T4 2 (by omega)
    have t43 : T4' (w.heap.size + 3) = 4 := by rw [hX4 _ (by have := hR3.sz; omega)]; exact T4 3 (by omega)
    have hlm4 : mb < w4.heap.size := blk_lt hM4.box
    have hmw : w.heap.size + 4 ≤ mb := by omega
    have HCo4 : Hid (IsClasses (fun x => T4' x ≠ 4 ∧ w.heap.size ≤ x) w4 (.slice (some ⟨g, 0, none⟩) X.classes.length X.classes.length) X.classes) := HCo3.out.keep goodC (Keeps.of_block fun x hx hl => hK4.blk x hl (by rw [Tc x hx.1 hx.2]; unfold All; omega)) fun x hx => ⟨by rw [hX4 x (by have := HMB.out; have := hx.2; omega), Tc x hx.1 hx.2]; omega, by have := hx.1; omega⟩
    have TZ : Hid (∀ x, x < w.heap.size → T4' x = 0) := fun x hx => by rw [hX4 x (Nat.lt_of_lt_of_le hx HBW3.out.size)]; exact T0 x hx
    clear hfst w0 w1 w2 c0 c1 c2 c3 hR3 hX4 hK4 HCo3 T0 T4 Tc Th Tm
    have hbv4 := bel1 w4 (.cells #[.int .i64 v.k, .int .i64 v.n] 27)
    have hM5 := hM4.later hbv4
    have HCo5 := hid (HCo4.out.later goodC hbv4)
    have hR5 := hR4.later hbv4
    have HB5 := hid (nstep HB4.out hbv4)
    have v0 : (w4.alloc (.cells #[.int .i64 v.k, .int .i64 v.n] 27)).cell? ⟨w4.heap.size, 0, none⟩ = some (.int .i64 v.k) := cell_new _ _ _ _ rfl 0
    have v1 : (w4.alloc (.cells #[.int .i64 v.k, .int .i64 v.n] 27)).cell? ⟨w4.heap.size, 1, none⟩ = some (.int .i64 v.n) := cell_new _ _ _ _ rfl 1
    have hsz4 := hR4.sz
    go_upto_region 10 with (fail)
    clear hM4 hR4 hbv4
    generalize hv4z : w4.heap.size = vb at *
    generalize (w4.alloc (.cells #[.int .i64 v.k, .int .i64 v.n] 27)) = V5 at *
    by_cases he : er = 0
    · have he' : (er != 0) = false := by simpa using he
      rw [if_neg (by simpa using he)] at HPE
      clear he
      obtain ⟨cap4, hv4e, -⟩ := hM5.heap.form
      have m0 : V5.cell? ⟨mb, 0, none⟩ = some (.slice (some ⟨g, 0, none⟩) X.classes.length X.classes.length) := hM5.c0
      have m1 := hM5.c1
      have m2 : V5.cell? ⟨mb, 2, none⟩ = some (.int .i64 X.epoch) := hM5.c2
      have m4 := hM5.c4
      rw [hv4e] at m1
      have HQ := hid fun u0 u1 u2 v0 v1 v2 v3 => PlPost.fin (r := ⟨rm.heap, v, 0, rm.sends⟩) (P := fun x => T4' x ≠ 4 ∧ w.heap.size ≤ x) HB5.out HCo5.out (hM5.heap.heap.mono goodO fun x hx => ⟨by rw [hx.2]; omega, Nat.le_of_not_lt fun hl => by have := TZ.out x hl; rw [hx.2] at this; omega⟩) (fun h => h.1 t42) (fun h => h.1 t43) (fun x hx => hx.2) u0 u1 u2 v0 v1 v2 v3
      rw [hv4e] at HQ
      obtain ⟨w0, w1, w2, c0, c1, c2, c3, a0, a1, a2, af, b0, b1, b2, b3, bf, -⟩ := id hR5
      have n1 : ¬ mb = w.heap.size + 2 := by omega
      have n2 : ¬ mb = w.heap.size + 3 := by omega
      have n3 : ¬ w.heap.size + 2 = mb := by omega
      have n4 : ¬ w.heap.size + 3 = mb := by omega
      have n5 : ¬ vb = w.heap.size + 2 := by omega
      have n6 : ¬ vb = w.heap.size + 3 := by omega
      have n7 : ¬ w.heap.size + 2 = vb := by omega
      have n8 : ¬ w.heap.size + 3 = vb := by omega
      clear hM5 hR5 hv4e
      simp only [Nat.add_assoc, Nat.reduceAdd] at *
      go_wp2
      go_region
      all_goals (
        go_wp2
        rw [HPE.out]
        refine bodyPost_ret (v := .tuple #[WV (.slice (some ⟨g, 0, none⟩) X.classes.length X.classes.length) (.slice (some ⟨g4, 0, none⟩) rm.heap.length cap4) X.epoch, RnV ⟨rm.heap, v, 0, rm.sends⟩]) ?_ rfl (HQ.out _ _ _ _ _ _ _).drew
        simp [results, Try.results19, go_sem, a0, a1, a2, b0, b1, b2, b3])
    · have he' : (er != 0) = true := by simpa using he
      rw [if_pos (by simpa using he)] at HPE
      clear he
      have m4 := hM5.c4
      have hownD := hown V5.drew HB5.out.drew
      have hS0 : EeR w mb (.slice ac X.classes.length cc) (.slice ah X.heap.length ch) X.epoch rm.sends V5.drew := ⟨hR5.w0, hR5.w1, hR5.w2, m4, by omega⟩
      have hRd := hR5.later (Below.refl _ V5).drew
      have HB6 := hid HB5.out.drew
      have hV5z : w.heap.size + 4 ≤ V5.drew.heap.size := hRd.sz
      clear hM5 hR5 m4
      simp only [Nat.add_assoc, Nat.reduceAdd] at *
      go_wp2
      go_region_held3 (fun w' => w'.cell? ⟨w.heap.size, 0, none⟩ = some (.slice ac X.classes.length cc) ∧ w'.cell? ⟨w.heap.size, 1, none⟩ = some (.slice ah X.heap.length ch) ∧ w'.cell? ⟨w.heap.size, 2, none⟩ = some (.int .i64 X.epoch) ∧ w'.cell? ⟨mb, 4, none⟩ = some (.int .i64 rm.sends))
        (first | with_reducible exact hS0.al | with_reducible exact hY.al | with_reducible exact (((hY.set (Or.inl rfl) _ _).set (Or.inl rfl) _ _).set (Or.inl rfl) _ _).al | with_reducible exact (((((((hY.set (Or.inl rfl) _ _).set (Or.inl rfl) _ _).set (Or.inl rfl) _ _).set (Or.inr rfl) _ _).set (Or.inr rfl) _ _).set (Or.inr rfl) _ _).set (Or.inr rfl) _ _).al | with_reducible exact ((((hY.set (Or.inr rfl) _ _).set (Or.inr rfl) _ _).set (Or.inr rfl) _ _).set (Or.inr rfl) _ _).al)
        (first | (go_at_call 32; refine hownD.mono ?_; rintro e w6 ⟨g', gh', sh', rfl, hCo, hHo, hgh', hbo⟩; have hY := hS0.later hbo; have HQ := hid (fun u0 u1 u2 v0 v1 v2 v3 => PlPost.fin (r := ⟨X.heap, nilV, er, rm.sends⟩) (P := fun b => V5.drew.heap.size ≤ b) (nstep HB6.out hbo) (hCo.mono goodC fun b h => h.1) ((hHo.isHeap hbyh).mono goodO fun b h => Nat.le_trans hgh' h) (by omega) (by omega) (fun x hx => by omega) u0 u1 u2 v0 v1 v2 v3); obtain ⟨-, -, -, -, -, -, -, a0, a1, a2, af, b0, b1, b2, b3, bf, -⟩ := id (hRd.later hbo); clear hCo hHo))
      all_goals (
        go_wp2
        rw [HPE.out]
        refine bodyPost_ret (v := .tuple #[WV (.slice (some ⟨g', 0, none⟩) X.classes.length X.classes.length) (.slice (some ⟨gh', 0, none⟩) X.heap.length X.heap.length) X.epoch, RnV ⟨X.heap, nilV, er, rm.sends⟩]) ?_ rfl (HQ.out _ _ _ _ _ _ _)
        simp [results, Try.results19, go_sem, a0, a1, a2, b0, b1, b2, b3])
  · have hz' : (ws != 0) = true := by simpa using hz
    rw [if_pos (by simpa using hz)] at HPE
    clear HWI hz
    go_wp2_with fail
    refine (hown _ HB1.out).mono ?_
    rintro e w2' ⟨g, gh, sh, rfl, hCo, hHo, hgh, hbo⟩
    have hR2 := hR1.later hbo
    have hsz := hR1.sz
    have HQ := hid fun u0 u1 u2 v0 v1 v2 v3 => PlPost.fin (r := ⟨X.heap, nilV, ws, 0⟩) (P := fun b => w1'.heap.size ≤ b) (nstep HB1.out hbo) (hCo.mono goodC fun b h => h.1) ((hHo.isHeap hbyh).mono goodO fun b h => by omega) (by omega) (by omega) (fun x hx => by omega) u0 u1 u2 v0 v1 v2 v3
    clear w0 w1 w2 c0 c1 c2 c3 hCo hHo hown
    obtain ⟨w0, w1, w2, c0, c1, c2, c3, a0, a1, a2, af, b0, b1, b2, b3, bf, -⟩ := id hR2
    go_wp2
    rw [HPE.out]
    refine bodyPost_ret (v := .tuple #[WV (.slice (some ⟨g, 0, none⟩) X.classes.length X.classes.length) (.slice (some ⟨gh, 0, none⟩) X.heap.length X.heap.length) X.epoch, RnV ⟨X.heap, nilV, ws, 0⟩]) ?_ rfl (HQ.out _ _ _ _ _ _ _)
    simp [results, Try.results19, go_sem, a0, a1, a2, b0, b1, b2, b3]

set_option maxHeartbeats 1000000 in
theorem finder_any (cv hv : Value) (ep : Int) (w : World) (h1 : ∃ a n c, cv = .slice a n c) (h2 : ∃ a n c, hv = .slice a n c) : Calls Try.prog 20 #[WV cv hv ep] w fun e w' => e = .returned (.func (.func 34) #[] #[.pointer (some ⟨w.heap.size, 0, none⟩)]) ∧ w'.cell? ⟨w.heap.size, 0, none⟩ = some cv ∧ w'.cell? ⟨w.heap.size, 1, none⟩ = some hv ∧ w'.cell? ⟨w.heap.size, 2, none⟩ = some (.int .i64 ep) ∧ w.heap.size < w'.heap.size ∧ Below w.heap.size w w' := by
  obtain ⟨a, n, c, rfl⟩ := h1
  obtain ⟨a2, n2, c2, rfl⟩ := h2
  go_enter Try.func20, Try.ntmps20
  go_wp2
  go_ret
  exact ⟨rfl, cell_new _ _ _ _ rfl 0, cell_new _ _ _ _ rfl 1, cell_new _ _ _ _ rfl 2, by simp, bel1 _ _⟩
/-- What Plain's one statement holds. -/
structure PnR (w : World) (cv hv : Value) (ep : Int) (s : QV) (name : ByteArray) (av : Value) (w' : World) : Prop where
  w0 : w'.cell? ⟨w.heap.size, 0, none⟩ = some cv
  w1 : w'.cell? ⟨w.heap.size, 1, none⟩ = some hv
  w2 : w'.cell? ⟨w.heap.size, 2, none⟩ = some (.int .i64 ep)
  c0 : w'.cell? ⟨w.heap.size + 1, 0, none⟩ = some (.int .i64 s.k)
  c1 : w'.cell? ⟨w.heap.size + 1, 1, none⟩ = some (.int .i64 s.n)
  c2 : w'.cell? ⟨w.heap.size + 1, 2, none⟩ = some (.string name)
  c3 : w'.cell? ⟨w.heap.size + 1, 3, none⟩ = some av
theorem PnR.set {w : World} {cv hv : Value} {ep : Int} {s : QV} {name : ByteArray} {av : Value} {w' : World} (h : PnR w cv hv ep s name av w') {b : Nat} (hb : b = w.heap.size + 2 ∨ b = w.heap.size + 3) (o : Nat) (u : Value) : PnR w cv hv ep s name av (w'.setCell ⟨b, o, none⟩ u) :=
  ⟨(World.cell?_setCell_far _ _ _ _ (by simp; omega)).trans h.w0, (World.cell?_setCell_far _ _ _ _ (by simp; omega)).trans h.w1, (World.cell?_setCell_far _ _ _ _ (by simp; omega)).trans h.w2, (World.cell?_setCell_far _ _ _ _ (by simp; omega)).trans h.c0, (World.cell?_setCell_far _ _ _ _ (by simp; omega)).trans h.c1, (World.cell?_setCell_far _ _ _ _ (by simp; omega)).trans h.c2, (World.cell?_setCell_far _ _ _ _ (by simp; omega)).trans h.c3⟩
theorem PnR.al {w : World} {cv hv : Value} {ep : Int} {s : QV} {name : ByteArray} {av : Value} {w' : World} (h : PnR w cv hv ep s name av w') : w'.cell? ⟨w.heap.size, 0, none⟩ = some cv ∧ w'.cell? ⟨w.heap.size, 1, none⟩ = some hv ∧ w'.cell? ⟨w.heap.size, 2, none⟩ = some (.int .i64 ep) ∧ w'.cell? ⟨w.heap.size + 1, 0, none⟩ = some (.int .i64 s.k) ∧ w'.cell? ⟨w.heap.size + 1, 1, none⟩ = some (.int .i64 s.n) ∧ w'.cell? ⟨w.heap.size + 1, 2, none⟩ = some (.string name) ∧ w'.cell? ⟨w.heap.size + 1, 3, none⟩ = some av := ⟨h.w0, h.w1, h.w2, h.c0, h.c1, h.c2, h.c3⟩
theorem WtR.pn {w : World} {cv hv : Value} {ep : Int} {s : QV} {name : ByteArray} {av : Value} {w' : World} (h : WtR w cv hv ep s name av w') : PnR w cv hv ep s name av w' := ⟨h.w0, h.w1, h.w2, h.c0, h.c1, h.c2, h.c3⟩
set_option maxHeartbeats 4000000 in
theorem plain_any {P Q : Nat → Prop} (X : QW) (hX : rightE X = 0) (s : QV) (name : ByteArray) (args : List QV) (fuel : Int) (cv hv av : Value) (w : World) (hC : IsClasses P w cv X.classes) (hH : IsHeap P w hv X.heap) (hA : IsVals Q w av args) (hn : name.size ≤ 140737488351232) :
    Calls Try.prog 8 #[WV cv hv X.epoch, ClV s name av, .int .i64 fuel] w fun e w' => PlPost w X (plainE X s name args fuel) e w' := by
  have hR := (wtR_new w cv hv X.epoch s name av).later (Below.refl _ _).drew
  have hbW : Below w.heap.size w ((((w.alloc (.cells #[cv, hv, .int .i64 X.epoch] 25)).alloc (.cells #[.int .i64 s.k, .int .i64 s.n, .string name, av] 30)).alloc (.cells #[.slice none 0 0, .slice none 0 0, .int .i64 0] 25)).alloc (.cells #[.int .i64 0, .int .i64 0, .int .i64 0, .int .i64 0] 34)).drew := (nstep (bel2 _ _ _) (bel2 _ _ _)).drew
  obtain ⟨ac, cc, rfl, -, -, hby, -⟩ := id hC
  obtain ⟨ah, ch, rfl, -, -, hbyh, -⟩ := id hH
  obtain ⟨aa, ca, rfl, -⟩ := id hA
  go_enter Try.func8, Try.ntmps8
  go_upto_region 1 with (fail)
  generalize ((((w.alloc (.cells #[.slice ac X.classes.length cc, .slice ah X.heap.length ch, .int .i64 X.epoch] 25)).alloc (.cells #[.int .i64 s.k, .int .i64 s.n, .string name, .slice aa args.length ca] 30)).alloc (.cells #[.slice none 0 0, .slice none 0 0, .int .i64 0] 25)).alloc (.cells #[.int .i64 0, .int .i64 0, .int .i64 0, .int .i64 0] 34)) = W at *
  have hS0 := hR.pn
  have hfd := finder_any (.slice ac X.classes.length cc) (.slice ah X.heap.length ch) X.epoch W.drew ⟨_, _, _, rfl⟩ ⟨_, _, _, rfl⟩
  have hwi := fun (w' : World) (hb : Below w.heap.size w w') (b : Nat) (h1 : b < w'.heap.size) h2 h3 h4 => with_any X hX s name args fuel _ _ _ w' (hC.later goodC hb) (hH.later goodO hb) (hA.later goodV hb) hn b h1 h2 h3 h4
  obtain ⟨r, hr⟩ : ∃ r, plainE X s name args fuel = r := ⟨_, rfl⟩
  rw [hr] at hwi
  have HRR := hid hr
  clear hC hH hA hr
  simp only [Nat.add_assoc, Nat.reduceAdd] at *
  have tokA : True := trivial
  go_region_held3 (fun w' => w'.cell? ⟨w.heap.size, 0, none⟩ = some (.slice ac X.classes.length cc) ∧ w'.cell? ⟨w.heap.size, 1, none⟩ = some (.slice ah X.heap.length ch) ∧ w'.cell? ⟨w.heap.size, 2, none⟩ = some (.int .i64 X.epoch) ∧ w'.cell? ⟨w.heap.size + 1, 0, none⟩ = some (.int .i64 s.k) ∧ w'.cell? ⟨w.heap.size + 1, 1, none⟩ = some (.int .i64 s.n) ∧ w'.cell? ⟨w.heap.size + 1, 2, none⟩ = some (.string name) ∧ w'.cell? ⟨w.heap.size + 1, 3, none⟩ = some (.slice aa args.length ca))
    (first | with_reducible exact hS0.al | with_reducible exact hS1.al | with_reducible exact hS2.al | with_reducible exact (((hS2.set (Or.inl rfl) _ _).set (Or.inl rfl) _ _).set (Or.inl rfl) _ _).al | with_reducible exact (((((((hS2.set (Or.inl rfl) _ _).set (Or.inl rfl) _ _).set (Or.inl rfl) _ _).set (Or.inr rfl) _ _).set (Or.inr rfl) _ _).set (Or.inr rfl) _ _).set (Or.inr rfl) _ _).al | with_reducible exact ((((hS2.set (Or.inr rfl) _ _).set (Or.inr rfl) _ _).set (Or.inr rfl) _ _).set (Or.inr rfl) _ _).al)
    (first
      | (have _t := tokA; go_at_call 20; refine hfd.mono ?_; rintro e w2 ⟨rfl, f0, f1, f2, fz, hb2⟩; have hR2 := hR.later hb2; have hS1 := hR2.pn; have hbw2 := nstep hbW hb2; clear tokA; have tokB : True := trivial)
      | (have _t := tokB; go_at_call 19; refine (hwi _ hbw2 _ fz f0 f1 f2).mono ?_; rintro e w3 ⟨hb3, cv3, hv3, rfl, hC3, hH3⟩; have hR3 := hR2.later hb3; have hS2 := hR3.pn; have HQ := hid (fun u0 u1 u2 v0 v1 v2 v3 => PlPost.fin (r := r) (X := X) (P := fun b => w2.heap.size ≤ b) (nstep hbw2 hb3) hC3 hH3 (by have := hR2.sz; omega) (by have := hR2.sz; omega) (fun x hx => by have := hR2.sz; omega) u0 u1 u2 v0 v1 v2 v3); obtain ⟨a3, k3, rfl, -⟩ := id hC3; obtain ⟨a4, k4, rfl, -⟩ := id hH3; obtain ⟨-, -, -, -, -, -, -, a0, a1, a2, af, b0, b1, b2, b3, bf, -⟩ := id hR3; clear hC3 hH3))
  all_goals (
    go_wp2
    rw [HRR.out]
    refine bodyPost_ret (v := .tuple #[WV (.slice a3 X.classes.length k3) (.slice a4 r.heap.length k4) X.epoch, RnV r]) ?_ rfl (HQ.out _ _ _ _ _ _ _)
    simp [results, Try.results8, go_sem, a0, a1, a2, b0, b1, b2, b3])
end Go.Proofs.Ytfdonemehiamjaa

/- Equal values and results; the call's number; the first world's runs. -/
namespace Go.Proofs.Ytfdonemehiamjaa
open Go.ChangeShapes Go.WideShapes Go.ChangeAt Go.RowKit
set_option linter.unusedSimpArgs false
set_option linter.unusedVariables false
set_option maxRecDepth 8000

theorem right_new : rightE newX = 0 := by decide +kernel
theorem plus_new : plainE newX ⟨3, 2⟩ ⟨#[43]⟩ [⟨3, 3⟩] 5 = ⟨[], ⟨3, 5⟩, 0, 1⟩ := by kernel_rfl
theorem nope_new : (plainE newX ⟨3, 2⟩ ⟨#[110, 111, 112, 101]⟩ [] 5).err = 10 := by kernel_rfl

theorem equalV (d : Nat) (k n k' n' : Int) (w : World) : (Op.equalIn (d + 2) 27 (.agg #[.int .i64 k, .int .i64 n]) (.agg #[.int .i64 k', .int .i64 n'])).run Try.prog w = .ok (k == k' && n == n') w := by
  have u3 := Try.underlying3
  have a3 := Try.isAgg3
  have z3 := Try.sizeOf3
  have hS : Try.prog.underlying 27 = some (.struct (Try.prog.fieldsOf 27)) := by kernel_rfl
  have hp : Try.prog.stoodInHeld 27 = false := by kernel_rfl
  rw [run_equalIn_struct w (d + 1) 27 _ _ hS hp]
  simp only [Program.fieldsOf, Try.underlying27]
  go_simp
  by_cases h1 : k = k' <;> by_cases h3 : n = n' <;> simp [h1, h3]
theorem eqlV (x y : QV) (w : World) : (binOp .eql 27 (VV x) (VV y)).run Try.prog w = .ok (.bool (x.k == y.k && x.n == y.n)) w := by
  rw [run_eql_struct, show (10000 : Nat) = 9998 + 2 from rfl, equalV]
  rfl
theorem equalR (x y : Ran) (w : World) : (Op.equalIn 10000 34 (RnV x) (RnV y)).run Try.prog w = .ok (x.v.k == y.v.k && x.v.n == y.v.n && x.err == y.err && x.sends == y.sends) w := by
  have u3 := Try.underlying3
  have a3 := Try.isAgg3
  have z3 := Try.sizeOf3
  have u31 := Try.underlying31
  have a31 := Try.isAgg31
  have z31 := Try.sizeOf31
  have a27 := Try.isAgg27
  have z27 := Try.sizeOf27
  have hV := equalV 9997
  have hS : Try.prog.underlying 34 = some (.struct (Try.prog.fieldsOf 34)) := by kernel_rfl
  have hp : Try.prog.stoodInHeld 34 = false := by kernel_rfl
  rw [show (10000 : Nat) = 9999 + 1 from rfl, run_equalIn_struct w 9999 34 _ _ hS hp]
  simp only [Program.fieldsOf, Try.underlying34]
  clear hS hp
  go_simp
  by_cases h1 : x.v.k = y.v.k <;> by_cases h2 : x.v.n = y.v.n <;> by_cases h3 : x.err = y.err <;> by_cases h4 : x.sends = y.sends <;> simp [h1, h2, h3, h4]
theorem eqlR (x y : Ran) (w : World) : (binOp .eql 34 (RnV x) (RnV y)).run Try.prog w = .ok (.bool (x.v.k == y.v.k && x.v.n == y.v.n && x.err == y.err && x.sends == y.sends)) w := by
  rw [run_eql_struct, equalR]
  rfl
theorem neqR (x y : Ran) (w : World) : (binOp .neq 34 (RnV x) (RnV y)).run Try.prog w = .ok (.bool !(x.v.k == y.v.k && x.v.n == y.v.n && x.err == y.err && x.sends == y.sends)) w := by
  rw [run_neq_struct, equalR]
  rfl
theorem eqR_self (x : Ran) : (x.v.k == x.v.k && x.v.n == x.v.n && x.err == x.err && x.sends == x.sends) = true := by simp

theorem num_any (n : Int) (w : World) : Calls Try.prog 28 #[.int .i64 n] w fun e w' => e = .returned (VV ⟨3, n⟩) ∧ Below w.heap.size w w' := by
  go_enter Try.func28, Try.ntmps28
  go_wp2
  refine bodyPost_ret (v := VV ⟨3, n⟩) ?_ rfl ⟨rfl, bel1 _ _⟩
  simp [results, Try.results28, go_sem]
theorem row_one (v : QV) (w : World) (t : TypeId) : IsVals Tru (w.alloc (.cells #[.int .i64 v.k, .int .i64 v.n] t)) (.slice (some ⟨w.heap.size, 0, none⟩) 1 1) [v] := by
  refine ⟨_, _, rfl, by simp, by unfold maxLen; omega, by simp, fun i x hx => ⟨w.heap.size, 0, rfl, trivial, ?_⟩⟩
  match i, hx with
  | 0, hx =>
    cases hx
    exact ⟨by show World.cell? _ ⟨w.heap.size, 0, none⟩ = _; rw [cell_new _ _ _ _ rfl]; rfl, by show World.cell? _ ⟨w.heap.size, 1, none⟩ = _; rw [cell_new _ _ _ _ rfl]; rfl⟩
  | i + 1, hx => simp at hx

/-- The boxes of a run's answer. -/
structure AlB (B : Nat) (cv hv : Value) (ep k n er sn : Int) (w' : World) : Prop where
  a0 : w'.cell? ⟨B, 0, none⟩ = some cv
  a1 : w'.cell? ⟨B, 1, none⟩ = some hv
  a2 : w'.cell? ⟨B, 2, none⟩ = some (.int .i64 ep)
  b0 : w'.cell? ⟨B + 1, 0, none⟩ = some (.int .i64 k)
  b1 : w'.cell? ⟨B + 1, 1, none⟩ = some (.int .i64 n)
  b2 : w'.cell? ⟨B + 1, 2, none⟩ = some (.int .i64 er)
  b3 : w'.cell? ⟨B + 1, 3, none⟩ = some (.int .i64 sn)
theorem AlB.later {B : Nat} {cv hv : Value} {ep k n er sn : Int} {w1 w2 : World} (h : AlB B cv hv ep k n er sn w1) (hb : Below w1.heap.size w1 w2) : AlB B cv hv ep k n er sn w2 :=
  ⟨cell_later hb h.a0, cell_later hb h.a1, cell_later hb h.a2, cell_later hb h.b0, cell_later hb h.b1, cell_later hb h.b2, cell_later hb h.b3⟩
theorem AlB.al {B : Nat} {cv hv : Value} {ep k n er sn : Int} {C : Nat} {cv' hv' : Value} {ep' k' n' er' sn' : Int} {w' : World} (h : AlB B cv hv ep k n er sn w') (h' : AlB C cv' hv' ep' k' n' er' sn' w') : w'.cell? ⟨B, 0, none⟩ = some cv ∧ w'.cell? ⟨B, 1, none⟩ = some hv ∧ w'.cell? ⟨B, 2, none⟩ = some (.int .i64 ep) ∧ w'.cell? ⟨B + 1, 0, none⟩ = some (.int .i64 k) ∧ w'.cell? ⟨B + 1, 1, none⟩ = some (.int .i64 n) ∧ w'.cell? ⟨B + 1, 2, none⟩ = some (.int .i64 er) ∧ w'.cell? ⟨B + 1, 3, none⟩ = some (.int .i64 sn) ∧ w'.cell? ⟨C + 1, 2, none⟩ = some (.int .i64 er') := ⟨h.a0, h.a1, h.a2, h.b0, h.b1, h.b2, h.b3, h'.b2⟩
theorem al_later {B C : Nat} {v0 v1 v2 v3 v4 v5 v6 v7 : Value} {w w' : World} (h : w.cell? ⟨B, 0, none⟩ = some v0 ∧ w.cell? ⟨B, 1, none⟩ = some v1 ∧ w.cell? ⟨B, 2, none⟩ = some v2 ∧ w.cell? ⟨B + 1, 0, none⟩ = some v3 ∧ w.cell? ⟨B + 1, 1, none⟩ = some v4 ∧ w.cell? ⟨B + 1, 2, none⟩ = some v5 ∧ w.cell? ⟨B + 1, 3, none⟩ = some v6 ∧ w.cell? ⟨C + 1, 2, none⟩ = some v7) (hb : Below w.heap.size w w') : w'.cell? ⟨B, 0, none⟩ = some v0 ∧ w'.cell? ⟨B, 1, none⟩ = some v1 ∧ w'.cell? ⟨B, 2, none⟩ = some v2 ∧ w'.cell? ⟨B + 1, 0, none⟩ = some v3 ∧ w'.cell? ⟨B + 1, 1, none⟩ = some v4 ∧ w'.cell? ⟨B + 1, 2, none⟩ = some v5 ∧ w'.cell? ⟨B + 1, 3, none⟩ = some v6 ∧ w'.cell? ⟨C + 1, 2, none⟩ = some v7 :=
  ⟨cell_later hb h.1, cell_later hb h.2.1, cell_later hb h.2.2.1, cell_later hb h.2.2.2.1, cell_later hb h.2.2.2.2.1, cell_later hb h.2.2.2.2.2.1, cell_later hb h.2.2.2.2.2.2.1, cell_later hb h.2.2.2.2.2.2.2⟩
theorem empty_wrong : wrongCallE newX ⟨0, 0⟩ ⟨#[]⟩ [] 0 = 7 := by kernel_rfl
theorem alW (w : World) (cv hv : Value) (ep k n er sn : Int) : AlB w.heap.size cv hv ep k n er sn ((w.alloc (.cells #[cv, hv, .int .i64 ep] 25)).alloc (.cells #[.int .i64 k, .int .i64 n, .int .i64 er, .int .i64 sn] 34)) :=
  ⟨cell_later (bel1 _ _) (by rw [cell_new _ _ _ _ rfl]; rfl), cell_later (bel1 _ _) (by rw [cell_new _ _ _ _ rfl]; rfl), cell_later (bel1 _ _) (by rw [cell_new _ _ _ _ rfl]; rfl), by rw [cell_new _ _ _ _ (by simp)]; rfl, by rw [cell_new _ _ _ _ (by simp)]; rfl, by rw [cell_new _ _ _ _ (by simp)]; rfl, by rw [cell_new _ _ _ _ (by simp)]; rfl⟩
set_option maxHeartbeats 4000000 in
theorem alive_any (w : World) : Calls Try.prog 13 #[] w fun e w' => e = .returned (.bool true) ∧ Below w.heap.size w w' := by
  go_enter Try.func13, Try.ntmps13
  go_wp2_with fail
  refine (rnew_any _).mono ?_
  rintro e w1 ⟨cv, hv, rfl, hC, hH, hb1⟩
  obtain ⟨x1, y1, rfl⟩ : ∃ a c, cv = .slice a 4 c := hC.get
  obtain ⟨x2, y2, rfl⟩ : ∃ a c, hv = .slice a 0 c := hH.get
  go_wp2_with fail
  refine (num_any 2 _).mono ?_
  rintro e w2 ⟨rfl, hb2⟩
  go_wp2_with fail
  refine (num_any 3 _).mono ?_
  rintro e w3 ⟨rfl, hb3⟩
  go_wp2_with fail
  have hq := nstep hb2 (nstep hb3 (bel1 w3 (Obj.cells #[Value.int IntKind.i64 3, Value.int IntKind.i64 3] 27)))
  refine (plain_any newX right_new ⟨3, 2⟩ ⟨#[43]⟩ [⟨3, 3⟩] 5 _ _ _ _ (hC.later goodC hq) (hH.later goodO hq) (row_one ⟨3, 3⟩ w3 27) (by decide)).mono ?_
  rw [plus_new]
  rintro e w4 ⟨hb4, cv4, hv4, rfl, hC4, hH4⟩
  obtain ⟨x3, y3, rfl⟩ : ∃ a c, cv4 = .slice a 4 c := hC4.get
  obtain ⟨x4, y4, rfl⟩ : ∃ a c, hv4 = .slice a 0 c := hH4.get
  have HB4 := hid (nstep hb1 (nstep hq hb4))
  clear hC hH hb1 hb2 hb3 hq hb4
  go_wp2_with fail
  have hA4 := alW w4 (.slice x3 4 y3) (.slice x4 0 y4) 0 3 5 0 1
  have HB5 := hid (nstep HB4.out (bel2 w4 (Obj.cells #[Value.slice x3 4 y3, Value.slice x4 0 y4, Value.int IntKind.i64 0] 25) (Obj.cells #[Value.int IntKind.i64 3, Value.int IntKind.i64 5, Value.int IntKind.i64 0, Value.int IntKind.i64 1] 34)))
  replace hC4 := hC4.later goodC (bel2 w4 (Obj.cells #[Value.slice x3 4 y3, Value.slice x4 0 y4, Value.int IntKind.i64 0] 25) (Obj.cells #[Value.int IntKind.i64 3, Value.int IntKind.i64 5, Value.int IntKind.i64 0, Value.int IntKind.i64 1] 34))
  replace hH4 := hH4.later goodO (bel2 w4 (Obj.cells #[Value.slice x3 4 y3, Value.slice x4 0 y4, Value.int IntKind.i64 0] 25) (Obj.cells #[Value.int IntKind.i64 3, Value.int IntKind.i64 5, Value.int IntKind.i64 0, Value.int IntKind.i64 1] 34))
  change Calls Try.prog 15 #[] ((w4.alloc (Obj.cells #[Value.slice x3 4 y3, Value.slice x4 0 y4, Value.int IntKind.i64 0] 25)).alloc (Obj.cells #[Value.int IntKind.i64 3, Value.int IntKind.i64 5, Value.int IntKind.i64 0, Value.int IntKind.i64 1] 34)) _
  generalize ((w4.alloc (Obj.cells #[Value.slice x3 4 y3, Value.slice x4 0 y4, Value.int IntKind.i64 0] 25)).alloc (Obj.cells #[Value.int IntKind.i64 3, Value.int IntKind.i64 5, Value.int IntKind.i64 0, Value.int IntKind.i64 1] 34)) = W at *
  generalize w4.heap.size = B at *
  refine (rnew_any _).mono ?_
  rintro e w5 ⟨cv, hv, rfl, hC, hH, hb1⟩
  obtain ⟨x5, y5, rfl⟩ : ∃ a c, cv = .slice a 4 c := hC.get
  obtain ⟨x6, y6, rfl⟩ : ∃ a c, hv = .slice a 0 c := hH.get
  go_wp2_with fail
  refine (num_any 2 _).mono ?_
  rintro e w6 ⟨rfl, hb2⟩
  go_wp2_with fail
  refine (plain_any newX right_new ⟨3, 2⟩ ⟨#[110, 111, 112, 101]⟩ [] 5 _ _ _ _ (hC.later goodC hb2) (hH.later goodO hb2) (row_none (P := Tru)) (by decide)).mono ?_
  rintro e w7 ⟨hb3, cv7, hv7, rfl, hC7, hH7⟩
  have he2 := nope_new
  generalize plainE newX ⟨3, 2⟩ ⟨#[110, 111, 112, 101]⟩ [] 5 = r2 at *
  obtain ⟨h2, ⟨vk, vn⟩, er2, sn2⟩ := r2
  simp only at he2
  subst he2
  obtain ⟨x7, y7, rfl⟩ : ∃ a c, cv7 = .slice a 4 c := hC7.get
  obtain ⟨x8, y8, rfl⟩ : ∃ a c, hv7 = .slice a h2.length c := hH7.get
  have hbq := nstep hb1 (nstep hb2 hb3)
  clear hC hH hC7 hH7 hb1 hb2 hb3
  go_wp2_with fail
  have hA7 := alW w7 (.slice x7 4 y7) (.slice x8 h2.length y8) 0 vk vn 10 sn2
  have hb8 := nstep hbq (bel2 w7 (Obj.cells #[Value.slice x7 4 y7, Value.slice x8 h2.length y8, Value.int IntKind.i64 0] 25) (Obj.cells #[Value.int IntKind.i64 vk, Value.int IntKind.i64 vn, Value.int IntKind.i64 10, Value.int IntKind.i64 sn2] 34))
  change Calls Try.prog 21 _ ((w7.alloc (Obj.cells #[Value.slice x7 4 y7, Value.slice x8 h2.length y8, Value.int IntKind.i64 0] 25)).alloc (Obj.cells #[Value.int IntKind.i64 vk, Value.int IntKind.i64 vn, Value.int IntKind.i64 10, Value.int IntKind.i64 sn2] 34)) _
  generalize ((w7.alloc (Obj.cells #[Value.slice x7 4 y7, Value.slice x8 h2.length y8, Value.int IntKind.i64 0] 25)).alloc (Obj.cells #[Value.int IntKind.i64 vk, Value.int IntKind.i64 vn, Value.int IntKind.i64 10, Value.int IntKind.i64 sn2] 34)) = W2 at *
  generalize w7.heap.size = B2 at *
  refine (none_any 0 0 _).mono ?_
  rintro e w8 ⟨rfl, hb9⟩
  go_upto_region 4 with (fail)
  have hb10 := nstep hb9 (bel1 w8 (Obj.cells #[Value.int IntKind.i64 0, Value.string ⟨#[]⟩, Value.int IntKind.i64 0, Value.int IntKind.i64 0, Value.slice none 0 0] 76))
  have hS0 := AlB.al (hA4.later (nstep hb8 hb10)) (hA7.later hb10)
  have hbF := HB5.out
  have HB6 := hid (nstep hbF (nstep hb8 hb10))
  have hCF := hC4.later goodC (nstep hb8 hb10)
  have hHF := hH4.later goodO (nstep hb8 hb10)
  have hwr := fun (w' : World) hb => wrong_any newX ⟨0, 0⟩ ⟨#[]⟩ [] 0 (.slice x3 4 y3) (.slice x4 0 y4) (.slice none 0 0) w' ⟨_, _, _, rfl⟩ (hHF.later goodO hb) (row_none (P := Tru)) (by decide)
  rw [empty_wrong] at hwr
  have heq := fun w => (eqlR ⟨[], ⟨3, 5⟩, 0, 1⟩ ⟨[], ⟨3, 5⟩, 0, 1⟩ w)
  simp only [eqR_self] at heq
  clear hA4 hA7 hC4 hH4 hbF hCF hb8 hb9 hbq hb10
  generalize (w8.alloc (Obj.cells #[Value.int IntKind.i64 0, Value.string ⟨#[]⟩, Value.int IntKind.i64 0, Value.int IntKind.i64 0, Value.slice none 0 0] 76)) = W3 at *
  replace hS0 := al_later hS0 (Below.refl W3.heap.size W3).drew
  replace HB6 := hid HB6.out.drew
  have hn5 := num_any 5 W3.drew
  have hwr' := fun (w' : World) (hb : Below W3.drew.heap.size W3.drew w') => hwr w' (nstep (Below.refl W3.heap.size W3).drew hb)
  clear hwr hHF
  have tokA : True := trivial
  go_region_held3 (fun w' => w'.cell? ⟨B, 0, none⟩ = some (.slice x3 4 y3) ∧ w'.cell? ⟨B, 1, none⟩ = some (.slice x4 0 y4) ∧ w'.cell? ⟨B, 2, none⟩ = some (.int .i64 0) ∧ w'.cell? ⟨B + 1, 0, none⟩ = some (.int .i64 3) ∧ w'.cell? ⟨B + 1, 1, none⟩ = some (.int .i64 5) ∧ w'.cell? ⟨B + 1, 2, none⟩ = some (.int .i64 0) ∧ w'.cell? ⟨B + 1, 3, none⟩ = some (.int .i64 1) ∧ w'.cell? ⟨B2 + 1, 2, none⟩ = some (.int .i64 10))
    (first | with_reducible exact hS0 | with_reducible exact hS1 | with_reducible exact hS2)
    (first
      | (have _t := tokA; go_at_call 28; refine hn5.mono ?_; rintro e w9 ⟨rfl, hb9⟩; have hS1 := al_later hS0 hb9; clear tokA; have tokB : True := trivial)
      | (have _t := tokB; go_at_call 10; refine (hwr' _ hb9).mono ?_; rintro e w10 ⟨rfl, hb10⟩; have hS2 := al_later hS1 hb10; have HB7 := hid (nstep HB6.out (nstep hb9 hb10))))
  all_goals (
    go_wp2
    go_ret
    exact ⟨rfl, HB7.out⟩)
end Go.Proofs.Ytfdonemehiamjaa

/- The laws of a plain run: what fails, what stays right, what more fuel does. -/
namespace Go.Proofs.Ytfdonemehiamjaa
open Go.ChangeShapes Go.WideShapes Go.ChangeAt Go.RowKit
set_option linter.unusedSimpArgs false
set_option linter.unusedVariables false
set_option maxRecDepth 8000

theorem PnR.later {w : World} {cv hv : Value} {ep : Int} {s : QV} {name : ByteArray} {av : Value} {w1 w2 : World} (h : PnR w cv hv ep s name av w1) (hb : Below w1.heap.size w1 w2) : PnR w cv hv ep s name av w2 :=
  ⟨cell_later hb h.w0, cell_later hb h.w1, cell_later hb h.w2, cell_later hb h.c0, cell_later hb h.c1, cell_later hb h.c2, cell_later hb h.c3⟩
structure Bx3 (b : Nat) (u0 u1 u2 : Value) (w : World) : Prop where
  c0 : w.cell? ⟨b, 0, none⟩ = some u0
  c1 : w.cell? ⟨b, 1, none⟩ = some u1
  c2 : w.cell? ⟨b, 2, none⟩ = some u2
theorem Bx3.later {b : Nat} {u0 u1 u2 : Value} {w w' : World} (h : Bx3 b u0 u1 u2 w) (hb : Below w.heap.size w w') : Bx3 b u0 u1 u2 w' := ⟨cell_later hb h.c0, cell_later hb h.c1, cell_later hb h.c2⟩
theorem bx3_new (w : World) (u0 u1 u2 : Value) (t : TypeId) : Bx3 w.heap.size u0 u1 u2 (w.alloc (.cells #[u0, u1, u2] t)) := ⟨by rw [cell_new _ _ _ _ rfl]; rfl, by rw [cell_new _ _ _ _ rfl]; rfl, by rw [cell_new _ _ _ _ rfl]; rfl⟩
theorem pn_new (w : World) (cv hv : Value) (ep : Int) (s : QV) (name : ByteArray) (av : Value) : PnR w cv hv ep s name av ((w.alloc (.cells #[cv, hv, .int .i64 ep] 25)).alloc (.cells #[.int .i64 s.k, .int .i64 s.n, .string name, av] 30)) :=
  ⟨cell_later (bel1 _ _) (by rw [cell_new _ _ _ _ rfl]; rfl), cell_later (bel1 _ _) (by rw [cell_new _ _ _ _ rfl]; rfl), cell_later (bel1 _ _) (by rw [cell_new _ _ _ _ rfl]; rfl), by rw [cell_new _ _ _ _ (by simp)]; rfl, by rw [cell_new _ _ _ _ (by simp)]; rfl, by rw [cell_new _ _ _ _ (by simp)]; rfl, by rw [cell_new _ _ _ _ (by simp)]; rfl⟩

set_option maxHeartbeats 4000000 in
theorem runFails_any {P Q : Nat → Prop} (X : QW) (s : QV) (name : ByteArray) (args : List QV) (fuel : Int) (cv hv av : Value) (w : World) (hC : IsClasses P w cv X.classes) (hH : IsHeap P w hv X.heap) (hA : IsVals Q w av args) (hn : name.size ≤ 140737488351232) : Calls Try.prog 5 #[WV cv hv X.epoch, ClV s name av, .int .i64 fuel] w fun e w' => e = .returned (.bool true) ∧ Below w.heap.size w w' := by
  have hN := pn_new w cv hv X.epoch s name av
  have hB0 := bel2 w (.cells #[cv, hv, .int .i64 X.epoch] 25) (.cells #[.int .i64 s.k, .int .i64 s.n, .string name, av] 30)
  obtain ⟨ac, cc, rfl, -⟩ := id hC
  obtain ⟨ah, ch, rfl, -⟩ := id hH
  obtain ⟨aa, ca, rfl, -⟩ := id hA
  go_enter Try.func5, Try.ntmps5
  go_wp2_with fail
  generalize ((w.alloc (.cells #[.slice ac X.classes.length cc, .slice ah X.heap.length ch, .int .i64 X.epoch] 25)).alloc (.cells #[.int .i64 s.k, .int .i64 s.n, .string name, .slice aa args.length ca] 30)) = W at *
  refine (alive_any _).mono ?_
  rintro e w1 ⟨rfl, hb1⟩
  replace hN := hN.later hb1
  replace hB0 := nstep hB0 hb1
  clear hb1
  obtain ⟨n0, n1, n2, m0, m1, m2, m3⟩ := hN.al
  go_wp2_with fail
  refine (rright_any X _ _ _ (hC.later goodC hB0) (hH.later goodO hB0)).mono ?_
  rintro e w2 ⟨rfl, hb2⟩
  clear n0 n1 n2 m0 m1 m2 m3
  replace hN := hN.later hb2
  replace hB0 := nstep hB0 hb2
  clear hb2
  obtain ⟨n0, n1, n2, m0, m1, m2, m3⟩ := hN.al
  by_cases hX : rightE X = 0
  · rw [hX]
    go_wp2_with fail
    refine (plain_any X hX s name args fuel _ _ _ _ (hC.later goodC hB0) (hH.later goodO hB0) (hA.later goodV hB0) hn).mono ?_
    rintro e w3 ⟨hb3, cv3, hv3, rfl, hC3, hH3⟩
    obtain ⟨r, hr⟩ : ∃ r, plainE X s name args fuel = r := ⟨_, rfl⟩
    have HF := hid (plain_fails (X := X) (s := s) (name := name) (args := args) (fuel := fuel))
    have HR := hid (plain_right hX s name args fuel)
    rw [hr] at hH3 HF HR ⊢
    obtain ⟨x3, y3, rfl⟩ : ∃ a c, cv3 = .slice a X.classes.length c := hC3.get
    obtain ⟨x4, y4, rfl⟩ : ∃ a c, hv3 = .slice a r.heap.length c := hH3.get
    clear n0 n1 n2 m0 m1 m2 m3
    have hA4 := alW w3 (.slice x3 X.classes.length y3) (.slice x4 r.heap.length y4) X.epoch r.v.k r.v.n r.err r.sends
    have hb4 := nstep hb3 (bel2 w3 (.cells #[.slice x3 X.classes.length y3, .slice x4 r.heap.length y4, .int .i64 X.epoch] 25) (.cells #[.int .i64 r.v.k, .int .i64 r.v.n, .int .i64 r.err, .int .i64 r.sends] 34))
    replace hC3 := hC3.later goodC (bel2 w3 (.cells #[.slice x3 X.classes.length y3, .slice x4 r.heap.length y4, .int .i64 X.epoch] 25) (.cells #[.int .i64 r.v.k, .int .i64 r.v.n, .int .i64 r.err, .int .i64 r.sends] 34))
    replace hH3 := hH3.later goodO (bel2 w3 (.cells #[.slice x3 X.classes.length y3, .slice x4 r.heap.length y4, .int .i64 X.epoch] 25) (.cells #[.int .i64 r.v.k, .int .i64 r.v.n, .int .i64 r.err, .int .i64 r.sends] 34))
    replace hN := hN.later hb4
    have HBF := hid (nstep hB0 hb4)
    have hCX := hC.later goodC (nstep hB0 hb4)
    have hHX := hH.later goodO (nstep hB0 hb4)
    clear hb4 hb3 hB0 hC hH hA hr
    go_upto_region 6 with (fail)
    generalize ((w3.alloc (.cells #[.slice x3 X.classes.length y3, .slice x4 r.heap.length y4, .int .i64 X.epoch] 25)).alloc (.cells #[.int .i64 r.v.k, .int .i64 r.v.n, .int .i64 r.err, .int .i64 r.sends] 34)) = W4 at *
    generalize w3.heap.size = B at *
    obtain ⟨n0, n1, n2, m0, m1, m2, m3⟩ := hN.al
    obtain ⟨a0, a1, a2, b0, b1, b2, b3⟩ := id hA4
    obtain ⟨rh, ⟨vk, vn⟩, er, sn⟩ := r
    by_cases he : er = 0
    · have hee : (er == 0) = true := by simp [he]
      have HL : Hid ((X.heap.length : Int) ≤ (rh.length : Int)) := by have := HR.out.2.1; show _ ≤ _; simp only at this; omega
      clear he
      go_wp2
      go_ret
      exact ⟨ret_b (by simpa using HL.out), HBF.out⟩
    · have hee : (er == 0) = false := by simpa using he
      obtain ⟨e1, e2, e3, e4⟩ := HF.out he
      simp only at e1 e2 e3 e4
      subst e1
      obtain ⟨rfl, rfl⟩ : vk = 0 ∧ vn = 0 := by cases e2; exact ⟨rfl, rfl⟩
      clear he e2
      go_wp2_with fail
      refine (same_any X _ _ _ _ _ hC3 hH3 hCX hHX).mono ?_
      rintro e w5 ⟨rfl, hb5⟩
      have hA5 := hA4.later hb5
      clear n0 n1 n2 m0 m1 m2 m3 a0 a1 a2 b0 b1 b2 b3
      obtain ⟨a0, a1, a2, b0, b1, b2, b3⟩ := hA5
      have hqv := fun w => eqlV ⟨0, 0⟩ ⟨0, 0⟩ w
      go_wp2
      go_ret
      exact ⟨rfl, nstep HBF.out hb5⟩
  · have hx : (rightE X != 0) = true := by simpa using hX
    go_wp2
    go_ret
    exact ⟨rfl, hB0⟩

set_option maxHeartbeats 4000000 in
theorem runRight_any {P Q : Nat → Prop} (X : QW) (s : QV) (name : ByteArray) (args : List QV) (fuel : Int) (cv hv av : Value) (w : World) (hC : IsClasses P w cv X.classes) (hH : IsHeap P w hv X.heap) (hA : IsVals Q w av args) (hn : name.size ≤ 140737488351232) : Calls Try.prog 6 #[WV cv hv X.epoch, ClV s name av, .int .i64 fuel] w fun e w' => e = .returned (.bool true) ∧ Below w.heap.size w w' := by
  have hN := pn_new w cv hv X.epoch s name av
  have hB0 := bel2 w (.cells #[cv, hv, .int .i64 X.epoch] 25) (.cells #[.int .i64 s.k, .int .i64 s.n, .string name, av] 30)
  obtain ⟨ac, cc, rfl, -⟩ := id hC
  obtain ⟨ah, ch, rfl, -⟩ := id hH
  obtain ⟨aa, ca, rfl, -⟩ := id hA
  go_enter Try.func6, Try.ntmps6
  go_wp2_with fail
  generalize ((w.alloc (.cells #[.slice ac X.classes.length cc, .slice ah X.heap.length ch, .int .i64 X.epoch] 25)).alloc (.cells #[.int .i64 s.k, .int .i64 s.n, .string name, .slice aa args.length ca] 30)) = W at *
  refine (alive_any _).mono ?_
  rintro e w1 ⟨rfl, hb1⟩
  replace hN := hN.later hb1
  replace hB0 := nstep hB0 hb1
  clear hb1
  obtain ⟨n0, n1, n2, m0, m1, m2, m3⟩ := hN.al
  go_wp2_with fail
  refine (rright_any X _ _ _ (hC.later goodC hB0) (hH.later goodO hB0)).mono ?_
  rintro e w2 ⟨rfl, hb2⟩
  clear n0 n1 n2 m0 m1 m2 m3
  replace hN := hN.later hb2
  replace hB0 := nstep hB0 hb2
  clear hb2
  obtain ⟨n0, n1, n2, m0, m1, m2, m3⟩ := hN.al
  by_cases hX : rightE X = 0
  · rw [hX]
    go_wp2_with fail
    refine (plain_any X hX s name args fuel _ _ _ _ (hC.later goodC hB0) (hH.later goodO hB0) (hA.later goodV hB0) hn).mono ?_
    rintro e w3 ⟨hb3, cv3, hv3, rfl, hC3, hH3⟩
    obtain ⟨r, hr⟩ : ∃ r, plainE X s name args fuel = r := ⟨_, rfl⟩
    have HF := hid (plain_fails (X := X) (s := s) (name := name) (args := args) (fuel := fuel))
    have HR := hid (plain_right hX s name args fuel)
    rw [hr] at hH3 HF HR ⊢
    obtain ⟨x3, y3, rfl⟩ : ∃ a c, cv3 = .slice a X.classes.length c := hC3.get
    obtain ⟨x4, y4, rfl⟩ : ∃ a c, hv3 = .slice a r.heap.length c := hH3.get
    clear n0 n1 n2 m0 m1 m2 m3
    have hA4 := alW w3 (.slice x3 X.classes.length y3) (.slice x4 r.heap.length y4) X.epoch r.v.k r.v.n r.err r.sends
    have hb4 := nstep hb3 (bel2 w3 (.cells #[.slice x3 X.classes.length y3, .slice x4 r.heap.length y4, .int .i64 X.epoch] 25) (.cells #[.int .i64 r.v.k, .int .i64 r.v.n, .int .i64 r.err, .int .i64 r.sends] 34))
    replace hC3 := hC3.later goodC (bel2 w3 (.cells #[.slice x3 X.classes.length y3, .slice x4 r.heap.length y4, .int .i64 X.epoch] 25) (.cells #[.int .i64 r.v.k, .int .i64 r.v.n, .int .i64 r.err, .int .i64 r.sends] 34))
    replace hH3 := hH3.later goodO (bel2 w3 (.cells #[.slice x3 X.classes.length y3, .slice x4 r.heap.length y4, .int .i64 X.epoch] 25) (.cells #[.int .i64 r.v.k, .int .i64 r.v.n, .int .i64 r.err, .int .i64 r.sends] 34))
    replace hN := hN.later hb4
    have HBF := hid (nstep hB0 hb4)
    have hCX := hC.later goodC (nstep hB0 hb4)
    have hHX := hH.later goodO (nstep hB0 hb4)
    clear hb4 hb3 hB0 hC hH hA hr
    go_upto_region 6 with (fail)
    generalize ((w3.alloc (.cells #[.slice x3 X.classes.length y3, .slice x4 r.heap.length y4, .int .i64 X.epoch] 25)).alloc (.cells #[.int .i64 r.v.k, .int .i64 r.v.n, .int .i64 r.err, .int .i64 r.sends] 34)) = W4 at *
    generalize w3.heap.size = B at *
    obtain ⟨n0, n1, n2, m0, m1, m2, m3⟩ := hN.al
    obtain ⟨a0, a1, a2, b0, b1, b2, b3⟩ := id hA4
    obtain ⟨rh, ⟨vk, vn⟩, er, sn⟩ := r
    have k1 := fun y => cell_later (bel1 W4 y) n1
    go_upto_region 8 with (fail)
    have hB5 := bel1 W4 (Obj.cells #[Value.slice x3 X.classes.length y3, Value.slice ah X.heap.length ch, Value.int IntKind.i64 X.epoch] 25)
    have hc := bx3_new W4 (.slice x3 X.classes.length y3) (.slice ah X.heap.length ch) (.int .i64 X.epoch) 25
    clear k1 n0 n1 n2 m0 m1 m2 m3 a0 a1 a2 b0 b1 b2 b3
    replace hA4 := hA4.later hB5
    replace hN := hN.later hB5
    replace hC3 := hC3.later goodC hB5
    replace hH3 := hH3.later goodO hB5
    replace hCX := hCX.later goodC hB5
    replace hHX := hHX.later goodO hB5
    replace HBF := hid (nstep HBF.out hB5)
    clear hB5
    generalize (W4.alloc (Obj.cells #[Value.slice x3 X.classes.length y3, Value.slice ah X.heap.length ch, Value.int IntKind.i64 X.epoch] 25)) = W5 at *
    generalize W4.heap.size = C at *
    obtain ⟨R1, -, R3⟩ := HR.out
    simp only at R1 R3
    obtain ⟨a0, a1, a2, b0, b1, b2, b3⟩ := id hA4
    go_wp2_with fail
    refine (rright_any ⟨X.classes, rh, X.epoch⟩ _ _ _ hC3 hH3).mono ?_
    rw [R1]
    rintro e w6 ⟨rfl, hb6⟩
    clear a0 a1 a2 b0 b1 b2 b3
    obtain ⟨a0, a1, a2, b0, b1, b2, b3⟩ := hA4.later hb6
    go_wp2_with fail
    refine (rwrong_any ⟨vk, vn⟩ rh.length _).mono ?_
    rw [R3]
    rintro e w7 ⟨rfl, hb7⟩
    have hb67 := nstep hb6 hb7
    clear a0 a1 a2 b0 b1 b2 b3
    obtain ⟨n0, n1, n2, m0, m1, m2, m3⟩ := (hN.later hb67).al
    obtain ⟨c0, c1, c2⟩ := hc.later hb67
    go_wp2_with fail
    refine (same_any (P := Tru) X _ _ _ _ _ ((hC3.later goodC hb67).mono goodC fun _ _ => trivial) ((hHX.later goodO hb67).mono goodO fun _ _ => trivial) (hCX.later goodC hb67) (hHX.later goodO hb67)).mono ?_
    rintro e w8 ⟨rfl, hb8⟩
    go_wp2
    go_ret
    exact ⟨rfl, nstep HBF.out (nstep hb67 hb8)⟩
  · have hx : (rightE X != 0) = true := by simpa using hX
    go_wp2
    go_ret
    exact ⟨rfl, hB0⟩
end Go.Proofs.Ytfdonemehiamjaa

/- RunFails: what fails changes nothing and answers nothing; what succeeds makes no object less. For every input. -/
namespace Go.Proofs.Ytfdonemehiamjaa
open Go.ChangeShapes Go.WideShapes Go.ChangeAt Go.RowKit
set_option linter.unusedSimpArgs false
set_option linter.unusedVariables false
set_option maxRecDepth 8000

set_option maxRecDepth 100000 in
theorem rf_lifted (os : Os) (started : os.Started) (H : Type) (enc : TypeId × Value → H) :
    ReturnsInHanded {} Try.checked os 5 .any (Rows.runFailsSpec.pre6 enc Try.prog Try.f5 Rows.runFailsRow.domain false) (Rows.runFailsSpec.post enc Try.prog Try.f5 false true false false) := by
  refine returnsInHanded_of_change_sized (C := Try.checked) own started (by kernel_rfl) Try.func5
    (ChangeSpec.witness6 (enc := enc) (C := Try.checked) false ⟨#[], #[WV (.slice none 0 0) (.slice none 0 0) 0, ClV ⟨0, 0⟩ ⟨#[]⟩ (.slice none 0 0), .int .i64 0], []⟩ 8 (by kernel_rfl) (by kernel_rfl) (by kernel_rfl) (by kernel_rfl)) ?_
  intro W base args ds gs before hval0 hW hcnd hsz0 _
  have hval : ∀ (j : Nat) t v, Try.f5.params[j]? = some t → args[j]? = some v → Value.okWide Try.prog W .any base t v := hval0
  have hsz : (DataW.weightsEach Try.prog (Try.f5.params.toList ++ Rows.runFailsSpec.plain.varTypes Try.prog) (ds ++ gs)).all (· ≤ reachBytes) = true := hsz0
  have hW' := hW
  obtain ⟨p, q, hA0, hV, rfl, hfz, hnd⟩ := hW
  have hA : DataW.TrodAll enc Try.prog W 0 (fun _ => true) true Try.f5.params.toList args.toList ds p := hA0
  rw [Try.params5] at hA hval hsz
  obtain ⟨v0, vs0, d0, ds0, p0, q0, hargs, rfl, rfl, h0, r0⟩ := trodAll_cons hA
  obtain ⟨v1, vs1, d1, ds1, p1, q1, rfl, rfl, rfl, h1, r1⟩ := trodAll_cons r0
  obtain ⟨v2, vs2, d2, ds2, p2, q2, rfl, rfl, rfl, h2, r2⟩ := trodAll_cons r1
  obtain ⟨rfl, rfl, rfl⟩ := trodAll_nil r2
  obtain rfl : args = #[v0, v1, v2] := by cases args; simp_all
  obtain ⟨rfl, rfl⟩ := trodVars_none hV
  have lt : ∀ {t : TypeId} {v : Value} {d : DataW H} {p : List MemPlace}, DataW.Trod enc Try.prog W 0 (fun _ => true) true t v d p → ∀ x ∈ p, x.block < W.heap.size := fun h => by obtain ⟨m, hm⟩ := h; exact DataW.trod_lt m _ _ _ hm
  have big : ∀ {j : Nat} {t : TypeId} {d : DataW H}, ([25, 30, 3] : List TypeId)[j]? = some t → [d0, d1, d2][j]? = some d → ∀ n ∈ d.weights Try.prog t, n ≤ 140737488351232 := fun {j t d} ht hd n hn => by
    have := List.all_eq_true.1 hsz _ (DataW.weights_mem_each (j := j) (t := t) (by exact ht) (by exact hd) n hn)
    exact of_decide_eq_true this
  have k0 := h0
  have k1 := h1
  have k2 := h2
  obtain ⟨X0, cv0, hv0, rfl, hC0, hH0⟩ := open_world (hval 0 25 v0 rfl rfl) h0 (big (j := 0) rfl rfl)
  obtain ⟨s1, n1, av1, l1, rfl, hn1, hA1⟩ := open_call (hval 1 30 v1 rfl rfl) h1 (big (j := 1) rfl rfl)
  obtain ⟨a2, rfl, -, -, -⟩ := open_int Try.underlying3 (hval 2 3 v2 rfl rfl) h2
  clear hA0 hval0
  refine (runFails_any X0 s1 n1 l1 a2 _ _ _ W hC0 hH0 hA1 hn1).mono fun e W' ⟨he, bel⟩ => ?_
  subst he
  have again : ∀ {t : TypeId} {v : Value} {d : DataW H} {p : List MemPlace}, Try.prog.readableRec t = true → t < Try.prog.types.size → DataW.Trod enc Try.prog W 0 (fun _ => true) true t v d p → DataW.Trod enc Try.prog W' 0 (fun b => decide (b < W.heap.size)) true t v d p := fun hr ht h => Below.trod laidOut hr ht h bel (lt h)
  exact ⟨_, rfl, _, _, _, [], _, [], hW', trodAll_mk1 (shut_bool Try.underlying4 _), (trodAll_cons_mk (again (by kernel_rfl) (of_decide_eq_true (by kernel_rfl)) k0) (trodAll_cons_mk (again (by kernel_rfl) (of_decide_eq_true (by kernel_rfl)) k1) (trodAll_cons_mk (again (by kernel_rfl) (of_decide_eq_true (by kernel_rfl)) k2) trodAll_mk0))), rfl, bel.frame _, fun h => by cases h⟩

theorem rf_over : Rows.runFailsRow.holds Try.pinned (OpenSpec.ofChange Rows.runFailsSpec) :=
  OpenClaim.holds_of_wide 5 Try.f5 rfl rfl rfl rfl rfl rfl rfl ⟨rfl, rfl, rfl, rfl, rfl⟩ rfl rfl rfl rfl rfl (by kernel_rfl) Try.func5 (by kernel_rfl)
    (of_decide_eq_true (by kernel_rfl)) (by unfold Func.isWrapper; first | (rw [if_pos (by decide +kernel)]; kernel_rfl) | (rw [if_neg (by decide +kernel)]; exact ⟨rfl, rfl⟩))
    (fun os started H enc _ => rf_lifted os started H enc)

/-- The statement. -/
theorem runFails_holds : Rows.RunFailsSaid := rf_over
#print axioms runFails_holds

end Go.Proofs.Ytfdonemehiamjaa

