/- ValueNew: an object more is behind the others, of its class, with nothing but nil in it; all others are as they were. For every input. -/
import Derived.Test.YtlmejfipgingeaaVr
namespace Go.Proofs.Ytlmejfipgingeaa
open Go.ChangeShapes Go.WideShapes Go.ChangeAt Go.RowKit
set_option linter.unusedSimpArgs false
set_option linter.unusedVariables false

theorem nstep {w W w' : World} (h : Below w.heap.size w W) (k : Below W.heap.size W w') : Below w.heap.size w w' := h.trans (k.mono h.size)
theorem nstep1 {w W w' : World} {X : Obj} (h : Below w.heap.size w W) (k : Below (W.alloc X).heap.size (W.alloc X) w') : Below w.heap.size w w' := nstep (h.alloc h.size _) k

set_option maxHeartbeats 1000000 in
theorem new_out (c s : Int) (v : Value) (w : World) (h : s < 0 ∨ 100 < s) : Calls Try.prog 4 #[v, .int .i64 c, .int .i64 s] w fun e w' => e = .returned (.bool true) ∧ Below w.heap.size w w' := by
  rcases h with h | h
  all_goals
    go_enter Try.func4, Try.ntmps4
    go_wp2_with (first
      | (go_at_call 19; refine (alive_any _).mono ?_; rintro e w1 ⟨rfl, hB⟩))
    go_ret
    exact ⟨rfl, hB⟩

set_option maxHeartbeats 1000000 in
theorem new_walk_full {lo : Nat} (hs : List QO) (c : Int) (m : Nat) (v : Value) (w : World) (hh : IsHeap lo w v hs) (hm : m ≤ 100) (hf : 60 ≤ hs.length) : Calls Try.prog 4 #[v, .int .i64 c, .int .i64 m] w fun e w' => e = .returned (.bool true) ∧ Below w.heap.size w w' := by
  have hh0 := hh
  obtain ⟨ad, cap, rfl, hl, hcap, hby, hrow⟩ := hh
  have hf' : (60 : Int) ≤ (hs.length : Int) := by omega
  go_enter Try.func4, Try.ntmps4
  go_wp2_with (first
      | (go_at_call 19; refine (alive_any _).mono ?_; rintro e w1 ⟨rfl, hB⟩)
      | (go_at_call 16; refine (new_full hs c m _ _ (hh0.later hB) hm hf).mono ?_; rintro e w2 ⟨rfl, hb⟩; have hB := nstep hB hb))
  go_ret
  exact ⟨rfl, hB.alloc hB.size _⟩

/-- The first ones of a row. -/
theorem isHeap_take {lo : Nat} {w : World} {g cap : Nat} {hs : List QO} {x : QO} (h : IsHeap lo w (.slice (some ⟨g, 0, none⟩) (hs.length + 1) cap) (hs ++ [x])) : IsHeap lo w (.slice (some ⟨g, 0, none⟩) hs.length cap) hs := by
  obtain ⟨ad, cap', e, h1, h2, h3, h4⟩ := h
  simp only [Value.slice.injEq] at e
  obtain ⟨rfl, -, rfl⟩ := e
  simp at h1 h3
  refine ⟨_, _, rfl, by omega, h2, by omega, fun i y hy => ?_⟩
  have hi := lt_of_get hy
  exact h4 i y (by rw [List.getElem?_append_left hi]; exact hy)

set_option maxHeartbeats 2000000 in
theorem new_walk_room {lo : Nat} (hs : List QO) (c : Int) (m : Nat) (v : Value) (w : World) (hh : IsHeap lo w v hs) (hm : m ≤ 100) (hf : hs.length < 60) : Calls Try.prog 4 #[v, .int .i64 c, .int .i64 m] w fun e w' => e = .returned (.bool true) ∧ Below w.heap.size w w' := by
  have hh0 := hh
  obtain ⟨ad, cap, rfl, hl, hcap, hby, hrow⟩ := hh
  have hf' : (hs.length : Int) < 60 := by omega
  have hm' : (m : Int) ≤ 100 := by omega
  clear hrow
  go_enter Try.func4, Try.ntmps4
  go_wp2_with fail
  refine (alive_any _).mono ?_
  rintro e w1 ⟨rfl, hB⟩
  replace hh0 := hh0.later hB
  go_wp2_with fail
  refine (new_room hs c m _ _ hh0 hm hf).mono ?_
  rintro e w2 ⟨g, cap2, rfl, hH, hb⟩
  replace hB := nstep hB hb
  replace hh0 := hh0.later hb
  clear hb
  replace hH := hH.mono (Nat.zero_le _)
  -- the new object's slots
  obtain ⟨sv, hsv, svl⟩ : ∃ sv, w2.cell? ⟨g, hs.length * 2 + 1, none⟩ = some sv ∧ ∃ a c, sv = .slice a m c := by
    obtain ⟨ad, cap', e, h1, h2, h3, h4⟩ := hH
    simp only [Value.slice.injEq] at e
    obtain ⟨rfl, -, rfl⟩ := e
    obtain ⟨b, o, e, -, -, sv, k1, a, c', k2, -⟩ := h4 hs.length ⟨c, List.replicate m ⟨0, 0⟩⟩ (by simp)
    cases e
    exact ⟨sv, by simpa using k1, a, c', by simpa using k2⟩
  obtain ⟨sa, sc, rfl⟩ := svl
  have kx := fun x => cell_later (bel1 w2 x) hsv
  have e8 : classE (hs ++ [⟨c, List.replicate m ⟨0, 0⟩⟩]) 4 (hs.length : Int) = c := by rw [classE_in (by simp)]; simp
  go_wp2_with fail
  refine (class_any _ _ _ _ _ (hH.later (bel1 _ _))).mono ?_
  rintro e w3 ⟨rfl, hb⟩
  rw [e8]
  replace kx := cell_later hb (kx _)
  have c0 : w3.cell? ⟨w2.heap.size, 0, none⟩ = some (.int .i64 4) := cell_later hb (by simp)
  have c1 : w3.cell? ⟨w2.heap.size, 1, none⟩ = some (.int .i64 hs.length) := cell_later hb (by simp)
  replace hB := nstep1 hB hb
  replace hH := (hH.later (bel1 _ _)).later hb
  replace hh0 := (hh0.later (bel1 _ _)).later hb
  clear hb
  go_wp2
  clear kx hsv e8
  have hcap2 : (hs.length : Int) ≤ (cap2 : Int) ∧ (cap2 : Int) ≤ 9223372036854775807 := by
    obtain ⟨ad, cap', e, h1, h2, h3, h4⟩ := hH
    simp only [Value.slice.injEq] at e
    obtain ⟨-, -, rfl⟩ := e
    simp at h1
    unfold maxLen at h2
    omega
  go_loopg [73] m (fun gh i wr => ∃ j : Nat, j + gh = m ∧ i = .int .i64 j ∧ Below w3.heap.size w3 wr)
  case atStart => exact ⟨0, by omega, rfl, Below.refl _ _⟩
  case round =>
    obtain ⟨j, hj, rfl, hbel⟩ := hrel
    have c0' := cell_later hbel c0
    have c1' := cell_later hbel c1
    by_cases hlt : j < m
    · have e10 : slotE (hs ++ [⟨c, List.replicate m ⟨0, 0⟩⟩]) 4 (hs.length : Int) (j : Int) = ⟨0, 0⟩ := by
        rw [slotE_in (by simp) (by simpa using hlt)]
        simp
      go_wp2_with fail
      refine (slot_any _ _ _ _ _ _ (hH.later hbel)).mono ?_
      rintro e w4 ⟨rfl, hb⟩
      rw [e10]
      go_wp2
      go_roundg (gk - 1)
      case measure => omega
      case rel => exact ⟨j + 1, by omega, by go_num, nstep hbel hb⟩
    · go_wp2_with fail
      refine (same_heap hs _ _ _ ((isHeap_take hH).later hbel) (hh0.later hbel)).mono ?_
      rintro e w4 ⟨rfl, hb⟩
      go_wp2
      go_ret
      exact ⟨rfl, nstep (nstep hB hbel) hb⟩

theorem new_walk {lo : Nat} (hs : List QO) (c s : Int) (v : Value) (w : World) (hh : IsHeap lo w v hs) : Calls Try.prog 4 #[v, .int .i64 c, .int .i64 s] w fun e w' => e = .returned (.bool true) ∧ Below w.heap.size w w' := by
  by_cases h : s < 0 ∨ 100 < s
  · exact new_out c s v w h
  · obtain ⟨m, rfl⟩ := Int.eq_ofNat_of_zero_le (show 0 ≤ s by omega)
    by_cases hf : 60 ≤ hs.length
    · exact new_walk_full hs c m v w hh (by omega) hf
    · exact new_walk_room hs c m v w hh (by omega) (by omega)

set_option maxRecDepth 100000 in
theorem new_lifted (os : Os) (started : os.Started) (H : Type) (enc : TypeId × Value → H) :
    ReturnsInHanded {} Try.checked os 4 .any (Rows.valueNewSpec.pre6 enc Try.prog Try.f4 Rows.valueNewRow.domain false) (Rows.valueNewSpec.post enc Try.prog Try.f4 false true false false) := by
  refine returnsInHanded_of_change_sized (C := Try.checked) own started (by kernel_rfl) Try.func4
    (ChangeSpec.witness6 (enc := enc) (C := Try.checked) false ⟨#[], #[.slice none 0 0, .int .i64 0, .int .i64 0], []⟩ 8 (by kernel_rfl) (by kernel_rfl) (by kernel_rfl) (by kernel_rfl)) ?_
  intro W base args ds gs before hval0 hW hcnd hsz0 _
  have hval : ∀ (j : Nat) t v, Try.f4.params[j]? = some t → args[j]? = some v → Value.okWide Try.prog W .any base t v := hval0
  have hsz : (DataW.weightsEach Try.prog (Try.f4.params.toList ++ Rows.valueNewSpec.plain.varTypes Try.prog) (ds ++ gs)).all (· ≤ reachBytes) = true := hsz0
  have hW' := hW
  obtain ⟨p, q, hA0, hV, rfl, hfz, hnd⟩ := hW
  have hA : DataW.TrodAll enc Try.prog W 0 (fun _ => true) true Try.f4.params.toList args.toList ds p := hA0
  rw [Try.params4] at hA hval hsz
  obtain ⟨v0, vs0, d0, ds0, p0, q0, hargs, rfl, rfl, h0, r0⟩ := trodAll_cons hA
  obtain ⟨v1, vs1, d1, ds1, p1, q1, rfl, rfl, rfl, h1, r1⟩ := trodAll_cons r0
  obtain ⟨v2, vs2, d2, ds2, p2, q2, rfl, rfl, rfl, h2, r2⟩ := trodAll_cons r1
  obtain ⟨rfl, rfl, rfl⟩ := trodAll_nil r2
  obtain rfl : args = #[v0, v1, v2] := by cases args; simp_all
  obtain ⟨rfl, rfl⟩ := trodVars_none hV
  obtain ⟨a0, len0, cap0, rfl⟩ := okWide_slice Try.underlying22 (hval 0 22 v0 rfl rfl)
  have k0 := h0
  have lt0 : ∀ x ∈ p0, x.block < W.heap.size := by obtain ⟨m, hm⟩ := k0; exact DataW.trod_lt m _ _ _ hm
  obtain ⟨hs, hh⟩ : ∃ hs, IsHeap 0 W (.slice a0 len0 cap0) hs := by
    obtain ⟨fuel, hf⟩ := h0
    refine read_heap (by simpa [Value.cells] using hf) fun n hn => ?_
    have := List.all_eq_true.1 hsz _ (DataW.weights_mem_each (j := 0) (t := 22) rfl rfl n hn)
    exact of_decide_eq_true this
  obtain ⟨a1, rfl, rfl, rfl, w1⟩ := open_int Try.underlying3 (hval 1 3 v1 rfl rfl) h1
  obtain ⟨a2, rfl, rfl, rfl, w2⟩ := open_int Try.underlying3 (hval 2 3 v2 rfl rfl) h2
  clear hA0 hval0
  refine (new_walk hs a1 a2 _ W hh).mono fun e W' ⟨he, bel⟩ => ?_
  subst he
  exact ⟨_, rfl, _, _, _, [], _, [], hW', trodAll_mk1 (shut_bool Try.underlying4 _), (trodAll_cons_mk (Below.trod laidOut (by kernel_rfl) (of_decide_eq_true (by kernel_rfl)) k0 bel lt0) (trodAll_cons_mk (shut_int Try.underlying3 w1) (trodAll_cons_mk (shut_int Try.underlying3 w2) trodAll_mk0))), rfl, bel.frame _, fun h => by cases h⟩

theorem new_over : Rows.valueNewRow.holds Try.pinned (OpenSpec.ofChange Rows.valueNewSpec) :=
  OpenClaim.holds_of_wide 4 Try.f4 rfl rfl rfl rfl rfl rfl rfl ⟨rfl, rfl, rfl, rfl, rfl⟩ rfl rfl rfl rfl rfl (by kernel_rfl) Try.func4 (by kernel_rfl)
    (of_decide_eq_true (by kernel_rfl)) (by unfold Func.isWrapper; first | (rw [if_pos (by decide +kernel)]; kernel_rfl) | (rw [if_neg (by decide +kernel)]; exact ⟨rfl, rfl⟩))
    (fun os started H enc _ => new_lifted os started H enc)

/-- The statement. -/
theorem valueNew_holds : Rows.ValueNewSaid := new_over
#print axioms valueNew_holds

end Go.Proofs.Ytlmejfipgingeaa
