/- CodeCut: a method that is right, without its last instruction, is wrong, if that one was reached. For every input. -/
import Derived.Test.YtahcmmdlggcfbaaKk
import Derived.Test.YtahcmmdlggcfbaaLb
namespace Go.Proofs.Ytahcmmdlggcfbaa
open Go.ChangeShapes Go.WideShapes Go.ChangeAt Go.RowKit
set_option linter.unusedSimpArgs false
set_option linter.unusedVariables false
set_option maxRecDepth 8000

theorem badE_ne {f : QI → Int} : ∀ {l : List QI} {k : Nat} {r : Int × Int}, badE f k l = some r → r.1 ≠ 0
  | [], k, r, h => by cases h
  | z :: l, k, r, h => by
    unfold badE at h
    split at h
    · rename_i h0; cases h; exact h0
    · exact badE_ne h
theorem check_ok {S n c : Int} {m : QM} (h : (checkE S n c m).1 = 0) : wmE n c m = 0 ∧ (∀ x ∈ m.code, numE S n m x = 0) ∧ (heightsE m.code).2.1 = 0 := by
  unfold checkE at h
  split at h
  · rename_i h0; exact absurd h h0
  · rename_i h0
    cases hb : badE (numE S n m) 0 m.code with
    | some r => rw [hb] at h; exact absurd h (badE_ne hb)
    | none => rw [hb] at h; exact ⟨by simpa using h0, badE_all hb, h⟩
theorem check_sends {S n c : Int} {m : QM} (h : (checkE S n c m).1 = 0) : SendsOk m.code := fun x hx => numE_send ((check_ok h).2.1 x hx)
theorem code_take {P : Nat → Prop} {w : World} {ad : Option Addr} {cap k n : Nat} {xs : List QI} (h : IsCode P w (.slice ad k cap) xs) (hn : n ≤ xs.length) : IsCode P w (.slice ad n cap) (xs.take n) := by
  obtain ⟨ad', cap', e, h1, h2, h3, h4⟩ := h
  cases e
  have hl : (xs.take n).length = n := by rw [List.length_take]; omega
  refine ⟨ad, cap, by rw [hl], by rw [hl]; omega, h2, by rw [hl]; omega, fun i x hx => ?_⟩
  rw [List.getElem?_take] at hx
  split at hx
  · exact h4 i x hx
  · cases hx

set_option maxRecDepth 100000 in
set_option maxHeartbeats 4000000 in
theorem cut_walk {P : Nat → Prop} (X : QW) (c : Int) (m : QM) (cv hv mv : Value) (w : World) (hh : IsClasses P w cv X.classes) (hH : IsHeap P w hv X.heap) (hM : IsCode P w mv m.code) (hmn : m.name.size ≤ 140737488351232) : Calls Try.prog 8 #[WV cv hv X.epoch, .int .i64 c, MV m mv] w fun e w' => e = .returned (.bool true) ∧ Below w.heap.size w w' := by
  obtain ⟨ad, cap, rfl, hl, hcap, hby, -⟩ := id hh
  obtain ⟨ah, ch, rfl⟩ := hH.get
  obtain ⟨am, cm, rfl, hl2, hcm, hcb, -⟩ := id hM
  unfold maxLen at hcm
  have hfl := field53
  have hb2 := bel2 w (Obj.cells #[Value.slice ad X.classes.length cap, Value.slice ah X.heap.length ch, Value.int IntKind.i64 X.epoch] 25) (Obj.cells #[Value.string m.name, Value.int IntKind.i64 m.args, Value.int IntKind.i64 m.temps, Value.int IntKind.i64 m.prim, Value.slice am m.code.length cm] 28)
  have wb : ((w.alloc (Obj.cells #[Value.slice ad X.classes.length cap, Value.slice ah X.heap.length ch, Value.int IntKind.i64 X.epoch] 25)).alloc (Obj.cells #[Value.string m.name, Value.int IntKind.i64 m.args, Value.int IntKind.i64 m.temps, Value.int IntKind.i64 m.prim, Value.slice am m.code.length cm] 28)).heap[w.heap.size]? = some (.cells #[Value.slice ad X.classes.length cap, Value.slice ah X.heap.length ch, Value.int IntKind.i64 X.epoch] 25 (0, 0)) := ((bel1 _ _).block _ (by simp)).trans (blk_new _ _ _ rfl)
  have mb : ((w.alloc (Obj.cells #[Value.slice ad X.classes.length cap, Value.slice ah X.heap.length ch, Value.int IntKind.i64 X.epoch] 25)).alloc (Obj.cells #[Value.string m.name, Value.int IntKind.i64 m.args, Value.int IntKind.i64 m.temps, Value.int IntKind.i64 m.prim, Value.slice am m.code.length cm] 28)).heap[w.heap.size + 1]? = some (.cells #[Value.string m.name, Value.int IntKind.i64 m.args, Value.int IntKind.i64 m.temps, Value.int IntKind.i64 m.prim, Value.slice am m.code.length cm] 28 (0, 0)) := blk_new _ _ _ (by simp)
  go_enter Try.func8, Try.ntmps8
  go_wp2_with fail
  refine (alive3_any _).mono ?_
  rintro e w1 ⟨rfl, hb⟩
  replace hb2 := nstep hb2 hb
  replace mb := box_later' mb hb
  replace wb := box_later' wb hb
  clear hb
  have wc : ∀ q, w1.cell? ⟨w.heap.size, q, none⟩ = (#[Value.slice ad X.classes.length cap, Value.slice ah X.heap.length ch, Value.int IntKind.i64 X.epoch] : Array Value)[q]? := fun q => by rw [cell_of_row _ _ _ _ _ _ wb]
  have mc : ∀ q, w1.cell? ⟨w.heap.size + 1, q, none⟩ = (#[Value.string m.name, Value.int IntKind.i64 m.args, Value.int IntKind.i64 m.temps, Value.int IntKind.i64 m.prim, Value.slice am m.code.length cm] : Array Value)[q]? := fun q => by rw [cell_of_row _ _ _ _ _ _ mb]
  go_wp2_with fail
  refine (check_any X c m _ _ _ _ (hh.later goodC hb2) (hH.later goodO hb2) (hM.later goodI hb2) hmn).mono ?_
  rintro e w2 ⟨rfl, hb⟩
  replace hb2 := nstep hb2 hb
  replace mb := box_later' mb hb
  replace wb := box_later' wb hb
  clear hb wc mc
  have HC : Hid ((checkE (slotsW X.classes c) X.classes.length c m).1 = 0 → wmE X.classes.length c m = 0 ∧ (∀ x ∈ m.code, numE (slotsW X.classes c) X.classes.length m x = 0) ∧ (heightsE m.code).2.1 = 0) := check_ok
  have HS : Hid ((checkE (slotsW X.classes c) X.classes.length c m).1 = 0 → SendsOk m.code) := check_sends
  generalize checkE (slotsW X.classes c) X.classes.length c m = F at *
  obtain ⟨f1, f2⟩ := F
  by_cases h0 : f1 = 0
  · subst h0
    obtain ⟨hw0, hn0, he0⟩ := HC.out rfl
    have hso := HS.out rfl
    obtain ⟨-, -, hl1, -, -, -⟩ := wmE_args hw0
    have mc : ∀ q, w2.cell? ⟨w.heap.size + 1, q, none⟩ = (#[Value.string m.name, Value.int IntKind.i64 m.args, Value.int IntKind.i64 m.temps, Value.int IntKind.i64 m.prim, Value.slice am m.code.length cm] : Array Value)[q]? := fun q => by rw [cell_of_row _ _ _ _ _ _ mb]
    go_wp2_with fail
    refine (heights_any m _ _ (hM.later goodI hb2) hso).mono ?_
    rintro e w3 ⟨hb, ⟨-, g, rfl, hr, -⟩ | ⟨h1, rfl⟩⟩
    · replace hb2 := nstep hb2 hb
      replace mb := box_later' mb hb
      replace wb := box_later' wb hb
      clear hb mc
      obtain ⟨n, hn⟩ : ∃ n, m.code.length = n + 1 := ⟨m.code.length - 1, by omega⟩
      have hhl := (heights_ok hso he0).1
      have hcell := hRow_cell (k := n) hr (by omega)
      obtain ⟨u, hu⟩ : ∃ u, u = (heightsE m.code).1.getD n 0 := ⟨_, rfl⟩
      rw [← hu] at hcell
      have HU : Hid (u = (heightsE m.code).1.getD n 0) := hu
      have hb3 := bel1 w3 (Obj.cells #[Value.int IntKind.i64 0, Value.int IntKind.i64 0] 53)
      have mcx : ∀ z q, (w3.alloc z).cell? ⟨w.heap.size + 1, q, none⟩ = (#[Value.string m.name, Value.int IntKind.i64 m.args, Value.int IntKind.i64 m.temps, Value.int IntKind.i64 m.prim, Value.slice am m.code.length cm] : Array Value)[q]? := fun z q => by rw [cell_of_row _ _ _ _ _ _ (box_later' mb (bel1 w3 z))]
      have hcx := fun z => cell_later (bel1 w3 z) hcell
      have hwn : IntKind.i64.wrap ((m.code.length : Int) - 1) = (n : Int) := by rw [hn]; rw [wrap_of (by omega) (by omega)]; omega
      have hn1 : (0 : Int) ≤ (n : Int) := by omega
      have hn2 : (n : Int) < (m.code.length : Int) := by omega
      have hn3 : (n : Int) ≤ (cm : Int) := by omega
      have HN : Hid (m.code.length = n + 1) := hn
      clear hu hr hn
      have mc3 : ∀ q, w3.cell? ⟨w.heap.size + 1, q, none⟩ = (#[Value.string m.name, Value.int IntKind.i64 m.args, Value.int IntKind.i64 m.temps, Value.int IntKind.i64 m.prim, Value.slice am m.code.length cm] : Array Value)[q]? := fun q => by rw [cell_of_row _ _ _ _ _ _ mb]
      have mf3 : ∀ q, w3.frozen? ⟨w.heap.size + 1, q, none⟩ = false := fun q => by unfold World.frozen?; simp [mb]
      have hz3 : w.heap.size + 1 < w3.heap.size := blk_lt mb
      by_cases hu0 : u < 0
      · go_wp2
        go_ret
        exact ⟨rfl, nstep hb2 hb3⟩
      · have hu0' : decide (u < 0) = false := by simpa using hu0
        have mb4 : (w3.setCell ⟨w.heap.size + 1, 4, none⟩ (.slice am n cm)).heap[w.heap.size + 1]? = some (.cells #[Value.string m.name, Value.int IntKind.i64 m.args, Value.int IntKind.i64 m.temps, Value.int IntKind.i64 m.prim, Value.slice am n cm] 28 (0, 0)) := by rw [setCell_same mb]; rfl
        have wb4 : (w3.setCell ⟨w.heap.size + 1, 4, none⟩ (.slice am n cm)).heap[w.heap.size]? = some (.cells #[Value.slice ad X.classes.length cap, Value.slice ah X.heap.length ch, Value.int IntKind.i64 X.epoch] 25 (0, 0)) := (setCell_else (by omega) _).trans wb
        have wc4 : ∀ z q, ((w3.setCell ⟨w.heap.size + 1, 4, none⟩ (.slice am n cm)).alloc z).cell? ⟨w.heap.size, q, none⟩ = (#[Value.slice ad X.classes.length cap, Value.slice ah X.heap.length ch, Value.int IntKind.i64 X.epoch] : Array Value)[q]? := fun z q => by rw [cell_of_row _ _ _ _ _ _ (box_later' wb4 (bel1 _ z))]
        have mc4 : ∀ z q, ((w3.setCell ⟨w.heap.size + 1, 4, none⟩ (.slice am n cm)).alloc z).cell? ⟨w.heap.size + 1, q, none⟩ = (#[Value.string m.name, Value.int IntKind.i64 m.args, Value.int IntKind.i64 m.temps, Value.int IntKind.i64 m.prim, Value.slice am n cm] : Array Value)[q]? := fun z q => by rw [cell_of_row _ _ _ _ _ _ (box_later' mb4 (bel1 _ z))]
        have hb4 : ∀ z, Below w.heap.size w ((w3.setCell ⟨w.heap.size + 1, 4, none⟩ (.slice am n cm)).alloc z) := fun z => (hb2.setCell (by show w.heap.size ≤ w.heap.size + 1; omega) _).alloc (by rw [size_setCell]; omega) _
        go_wp2_with fail
        replace hb4 := hb4 (Obj.cells #[Value.int IntKind.i64 0, Value.int IntKind.i64 0] 53)
        refine (check_any X c { m with code := m.code.take n } _ _ (.slice am n cm) _ (hh.later goodC hb4) (hH.later goodO hb4) (code_take (hM.later goodI hb4) (by rw [HN.out]; omega)) hmn).mono ?_
        rintro e w5 ⟨rfl, hb⟩
        have hne : (checkE (slotsW X.classes c) X.classes.length c { m with code := m.code.take n }).1 ≠ 0 := fun h => by
          obtain ⟨-, -, hz⟩ := check_ok h
          have := heights_cut hso he0 (n := n) HN.out.symm hz
          rw [← HU.out] at this
          omega
        have hne' : ((checkE (slotsW X.classes c) X.classes.length c { m with code := m.code.take n }).1 != 0) = true := by simpa using hne
        generalize checkE (slotsW X.classes c) X.classes.length c { m with code := m.code.take n } = F at *
        obtain ⟨f1, f3⟩ := F
        go_wp2
        go_ret
        exact ⟨rfl, nstep hb4 hb⟩
    · exact absurd he0 h1
  · have h0' : (f1 != 0) = true := by simpa using h0
    go_wp2
    go_ret
    exact ⟨rfl, hb2⟩

set_option maxRecDepth 100000 in
theorem cut_lifted (os : Os) (started : os.Started) (H : Type) (enc : TypeId × Value → H) :
    ReturnsInHanded {} Try.checked os 8 .any (Rows.codeCutSpec.pre6 enc Try.prog Try.f8 Rows.codeCutRow.domain false) (Rows.codeCutSpec.post enc Try.prog Try.f8 false true false false) := by
  refine returnsInHanded_of_change_sized (C := Try.checked) own started (by kernel_rfl) Try.func8
    (ChangeSpec.witness6 (enc := enc) (C := Try.checked) false ⟨#[], #[WV (.slice none 0 0) (.slice none 0 0) 0, .int .i64 0, MV ⟨⟨#[]⟩, 0, 0, 0, []⟩ (.slice none 0 0)], []⟩ 8 (by kernel_rfl) (by kernel_rfl) (by kernel_rfl) (by kernel_rfl)) ?_
  intro W base args ds gs before hval0 hW hcnd hsz0 _
  have hval : ∀ (j : Nat) t v, Try.f8.params[j]? = some t → args[j]? = some v → Value.okWide Try.prog W .any base t v := hval0
  have hsz : (DataW.weightsEach Try.prog (Try.f8.params.toList ++ Rows.codeCutSpec.plain.varTypes Try.prog) (ds ++ gs)).all (· ≤ reachBytes) = true := hsz0
  have hW' := hW
  obtain ⟨p, q, hA0, hV, rfl, hfz, hnd⟩ := hW
  have hA : DataW.TrodAll enc Try.prog W 0 (fun _ => true) true Try.f8.params.toList args.toList ds p := hA0
  rw [Try.params8] at hA hval hsz
  obtain ⟨v0, vs0, d0, ds0, p0, q0, hargs, rfl, rfl, h0, r0⟩ := trodAll_cons hA
  obtain ⟨v1, vs1, d1, ds1, p1, q1, rfl, rfl, rfl, h1, r1⟩ := trodAll_cons r0
  obtain ⟨v2, vs2, d2, ds2, p2, q2, rfl, rfl, rfl, h2, r2⟩ := trodAll_cons r1
  obtain ⟨rfl, rfl, rfl⟩ := trodAll_nil r2
  obtain rfl : args = #[v0, v1, v2] := by cases args; simp_all
  obtain ⟨rfl, rfl⟩ := trodVars_none hV
  have lt : ∀ {t : TypeId} {v : Value} {d : DataW H} {p : List MemPlace}, DataW.Trod enc Try.prog W 0 (fun _ => true) true t v d p → ∀ x ∈ p, x.block < W.heap.size := fun h => by obtain ⟨m, hm⟩ := h; exact DataW.trod_lt m _ _ _ hm
  have big : ∀ {j : Nat} {t : TypeId} {d : DataW H}, ([25, 3, 28] : List TypeId)[j]? = some t → [d0, d1, d2][j]? = some d → ∀ n ∈ d.weights Try.prog t, n ≤ 140737488351232 := fun {j t d} ht hd n hn => by
    have := List.all_eq_true.1 hsz _ (DataW.weights_mem_each (j := j) (t := t) (by exact ht) (by exact hd) n hn)
    exact of_decide_eq_true this
  have k1 := h1
  obtain ⟨X, cv, hv, rfl, hC, hH⟩ := open_world (hval 0 25 v0 rfl rfl) h0 (big (j := 0) rfl rfl)
  obtain ⟨a1, rfl, -, -, -⟩ := open_int Try.underlying3 (hval 1 3 v1 rfl rfl) h1
  obtain ⟨m, mv, rfl, hM, hmn⟩ := open_meth (hval 2 28 v2 rfl rfl) h2 (big (j := 2) rfl rfl)
  clear hA0 hval0
  refine (cut_walk X a1 m cv hv mv W hC hH hM hmn).mono fun e W' ⟨he, bel⟩ => ?_
  subst he
  have again : ∀ {t : TypeId} {v : Value} {d : DataW H} {p : List MemPlace}, Try.prog.readableRec t = true → t < Try.prog.types.size → DataW.Trod enc Try.prog W 0 (fun _ => true) true t v d p → DataW.Trod enc Try.prog W' 0 (fun b => decide (b < W.heap.size)) true t v d p := fun hr ht h => Below.trod laidOut hr ht h bel (lt h)
  exact ⟨_, rfl, _, _, _, [], _, [], hW', trodAll_mk1 (shut_bool Try.underlying4 _), (trodAll_cons_mk (again (by kernel_rfl) (of_decide_eq_true (by kernel_rfl)) h0) (trodAll_cons_mk (again (by kernel_rfl) (of_decide_eq_true (by kernel_rfl)) k1) (trodAll_cons_mk (again (by kernel_rfl) (of_decide_eq_true (by kernel_rfl)) h2) trodAll_mk0))), rfl, bel.frame _, fun h => by cases h⟩

theorem cut_over : Rows.codeCutRow.holds Try.pinned (OpenSpec.ofChange Rows.codeCutSpec) :=
  OpenClaim.holds_of_wide 8 Try.f8 rfl rfl rfl rfl rfl rfl rfl ⟨rfl, rfl, rfl, rfl, rfl⟩ rfl rfl rfl rfl rfl (by kernel_rfl) Try.func8 (by kernel_rfl)
    (of_decide_eq_true (by kernel_rfl)) (by unfold Func.isWrapper; first | (rw [if_pos (by decide +kernel)]; kernel_rfl) | (rw [if_neg (by decide +kernel)]; exact ⟨rfl, rfl⟩))
    (fun os started H enc _ => cut_lifted os started H enc)

/-- The statement. -/
theorem codeCut_holds : Rows.CodeCutSaid := cut_over
#print axioms codeCut_holds

end Go.Proofs.Ytahcmmdlggcfbaa
