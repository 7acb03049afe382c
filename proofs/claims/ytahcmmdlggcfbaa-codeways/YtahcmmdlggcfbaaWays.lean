/- CodeWays: of a method with which nothing is wrong each instruction that is reached leads to others, at the height that they have; what it needs is there, and what it comes back with is all there is. For every input. -/
import Derived.Test.YtahcmmdlggcfbaaCut
import Derived.Test.YtahcmmdlggcfbaaLb
namespace Go.Proofs.Ytahcmmdlggcfbaa
open Go.ChangeShapes Go.WideShapes Go.ChangeAt Go.RowKit
set_option linter.unusedSimpArgs false
set_option linter.unusedVariables false
set_option maxRecDepth 8000

set_option maxRecDepth 100000 in
set_option maxHeartbeats 4000000 in
theorem ways_walk {P : Nat → Prop} (X : QW) (c : Int) (m : QM) (cv hv mv : Value) (w : World) (hh : IsClasses P w cv X.classes) (hH : IsHeap P w hv X.heap) (hM : IsCode P w mv m.code) (hmn : m.name.size ≤ 140737488351232) : Calls Try.prog 7 #[WV cv hv X.epoch, .int .i64 c, MV m mv] w fun e w' => e = .returned (.bool true) ∧ Below w.heap.size w w' := by
  obtain ⟨ad, cap, rfl, hl, hcap, hby, -⟩ := id hh
  obtain ⟨ah, ch, rfl⟩ := hH.get
  obtain ⟨am, cm, rfl, hl2, hcm, hcb, hrow⟩ := id hM
  unfold maxLen at hcm
  have hfl := field53
  have hb2 := bel2 w (Obj.cells #[Value.slice ad X.classes.length cap, Value.slice ah X.heap.length ch, Value.int IntKind.i64 X.epoch] 25) (Obj.cells #[Value.string m.name, Value.int IntKind.i64 m.args, Value.int IntKind.i64 m.temps, Value.int IntKind.i64 m.prim, Value.slice am m.code.length cm] 28)
  have wb : ((w.alloc (Obj.cells #[Value.slice ad X.classes.length cap, Value.slice ah X.heap.length ch, Value.int IntKind.i64 X.epoch] 25)).alloc (Obj.cells #[Value.string m.name, Value.int IntKind.i64 m.args, Value.int IntKind.i64 m.temps, Value.int IntKind.i64 m.prim, Value.slice am m.code.length cm] 28)).heap[w.heap.size]? = some (.cells #[Value.slice ad X.classes.length cap, Value.slice ah X.heap.length ch, Value.int IntKind.i64 X.epoch] 25 (0, 0)) := ((bel1 _ _).block _ (by simp)).trans (blk_new _ _ _ rfl)
  have mb : ((w.alloc (Obj.cells #[Value.slice ad X.classes.length cap, Value.slice ah X.heap.length ch, Value.int IntKind.i64 X.epoch] 25)).alloc (Obj.cells #[Value.string m.name, Value.int IntKind.i64 m.args, Value.int IntKind.i64 m.temps, Value.int IntKind.i64 m.prim, Value.slice am m.code.length cm] 28)).heap[w.heap.size + 1]? = some (.cells #[Value.string m.name, Value.int IntKind.i64 m.args, Value.int IntKind.i64 m.temps, Value.int IntKind.i64 m.prim, Value.slice am m.code.length cm] 28 (0, 0)) := blk_new _ _ _ (by simp)
  go_enter Try.func7, Try.ntmps7
  go_wp2_with fail
  refine (alive3_any _).mono ?_
  rintro e w1 ⟨rfl, hb⟩
  replace hb2 := nstep hb2 hb
  replace mb := box_later' mb hb
  replace wb := box_later' wb hb
  clear hb
  have wc : ∀ q, w1.cell? ⟨w.heap.size, q, none⟩ = (#[Value.slice ad X.classes.length cap, Value.slice ah X.heap.length ch, Value.int IntKind.i64 X.epoch] : Array Value)[q]? := fun q => by rw [cell_of_row _ _ _ _ _ _ wb]
  have mc : ∀ q, w1.cell? ⟨w.heap.size + 1, q, none⟩ = (#[Value.string m.name, Value.int IntKind.i64 m.args, Value.int IntKind.i64 m.temps, Value.int IntKind.i64 m.prim, Value.slice am m.code.length cm] : Array Value)[q]? := fun q => by rw [cell_of_row _ _ _ _ _ _ mb]
  go_wp2_with fail
  refine (check_any X c m _ _ _ _ (hh.later goodC hb2) (hH.later goodO hb2) (hM.later goodI hb2) hmn).mono ?_
  rintro e w2 ⟨rfl, hb⟩
  replace hb2 := nstep hb2 hb
  replace mb := box_later' mb hb
  replace wb := box_later' wb hb
  clear hb wc mc
  have HC : Hid ((checkE (slotsW X.classes c) X.classes.length c m).1 = 0 → wmE X.classes.length c m = 0 ∧ (∀ x ∈ m.code, numE (slotsW X.classes c) X.classes.length m x = 0) ∧ (heightsE m.code).2.1 = 0) := check_ok
  have HS : Hid ((checkE (slotsW X.classes c) X.classes.length c m).1 = 0 → SendsOk m.code) := check_sends
  generalize checkE (slotsW X.classes c) X.classes.length c m = F at *
  obtain ⟨f1, f2⟩ := F
  by_cases h0 : f1 = 0
  · subst h0
    obtain ⟨hw0, hn0, he0⟩ := HC.out rfl
    have hso := HS.out rfl
    obtain ⟨-, -, hl1, -, -, -⟩ := wmE_args hw0
    have mc : ∀ q, w2.cell? ⟨w.heap.size + 1, q, none⟩ = (#[Value.string m.name, Value.int IntKind.i64 m.args, Value.int IntKind.i64 m.temps, Value.int IntKind.i64 m.prim, Value.slice am m.code.length cm] : Array Value)[q]? := fun q => by rw [cell_of_row _ _ _ _ _ _ mb]
    go_wp2_with fail
    refine (heights_any m _ _ (hM.later goodI hb2) hso).mono ?_
    rintro e w3 ⟨hb, ⟨-, g, rfl, hr, -⟩ | ⟨h1, rfl⟩⟩
    · replace hb2 := nstep hb2 hb
      replace mb := box_later' mb hb
      replace wb := box_later' wb hb
      clear hb mc
      obtain ⟨hhl, hpos, hz0, hat⟩ := heights_ok hso he0
      have HAT : Hid (∀ (k : Nat) x, m.code[k]? = some x → 0 ≤ (heightsE m.code).1.getD k 0 → (nextE x k).need ≤ (heightsE m.code).1.getD k 0 ∧ (heightsE m.code).1.getD k 0 ≤ 12 ∧ (x.op = 17 → (heightsE m.code).1.getD k 0 = 1) ∧ ∀ t ∈ (nextE x k).next, ∃ j : Nat, t = (j : Int) ∧ j < m.code.length ∧ (heightsE m.code).1.getD j 0 = (heightsE m.code).1.getD k 0 + (nextE x k).more) := hat
      have hc0 := hRow_cell (k := 0) hr (by omega)
      rw [hz0] at hc0
      have hcx := fun z => cell_later (bel1 w3 z) hc0
      have mcx : ∀ z q, (w3.alloc z).cell? ⟨w.heap.size + 1, q, none⟩ = (#[Value.string m.name, Value.int IntKind.i64 m.args, Value.int IntKind.i64 m.temps, Value.int IntKind.i64 m.prim, Value.slice am m.code.length cm] : Array Value)[q]? := fun z q => by rw [cell_of_row _ _ _ _ _ _ (box_later' mb (bel1 w3 z))]
      have hpos' : (0 : Int) < (m.code.length : Int) := by omega
      have hb3 := bel1 w3 (Obj.cells #[Value.int IntKind.i64 0, Value.int IntKind.i64 0] 53)
      clear hat hz0 HC HS
      go_wp2
      clear hcx mcx hc0
      replace hb2 := nstep hb2 hb3
      replace hr := box_later' hr hb3
      generalize w3.alloc (Obj.cells #[Value.int IntKind.i64 0, Value.int IntKind.i64 0] 53) = w4 at *
      generalize hHE : (heightsE m.code).1 = H at *
      go_loopg [49] m.code.length (fun g' i wr => ∃ j : Nat, j + g' = m.code.length ∧ i = .int .i64 j ∧ Below w4.heap.size w4 wr)
      case atStart => exact ⟨0, by omega, rfl, Below.refl _ _⟩
      case round =>
        obtain ⟨j, hg, rfl, hbr⟩ := hrel
        by_cases hj : j < m.code.length
        · have hj1 : (j : Int) < (m.code.length : Int) := by omega
          have hj0 : (0 : Int) ≤ (j : Int) := by omega
          obtain ⟨x, hx⟩ : ∃ x, m.code[j]? = some x := ⟨_, List.getElem?_eq_getElem hj⟩
          have hB := nstep hb2 hbr
          obtain ⟨b, o, rfl, -, v0, v1, v2, v3, v4, hxn⟩ := hrow j x hx
          simp only [Nat.add_zero] at v0
          replace v0 := cell_later hB v0
          replace v1 := cell_later hB v1
          replace v2 := cell_later hB v2
          replace v3 := cell_later hB v3
          replace v4 := cell_later hB v4
          have hr' := box_later' hr hbr
          have hat := HAT.out j x hx
          have hsx := hso x (List.mem_of_getElem? hx)
          have hcx := fun z => cell_later (bel1 wr z) (hRow_cell (k := j) hr' (by omega))
          obtain ⟨u, hu⟩ : ∃ u, H.getD j 0 = u := ⟨_, rfl⟩
          rw [hu] at hat hcx
          clear hx
          have hb5 := bel1 wr (Obj.cells #[Value.int IntKind.i64 x.op, Value.int IntKind.i64 x.a, Value.int IntKind.i64 x.b, Value.int IntKind.i64 x.c, Value.string x.name] 56)
          have hxb := blk_new wr (Obj.cells #[Value.int IntKind.i64 x.op, Value.int IntKind.i64 x.a, Value.int IntKind.i64 x.b, Value.int IntKind.i64 x.c, Value.string x.name] 56) _ rfl
          have HU : Hid (H.getD j 0 = u) := hu
          clear hu
          by_cases hu0 : u < 0
          · clear hat
            go_wp2
            go_roundg (gk - 1)
            case measure => omega
            case rel => exact ⟨j + 1, by omega, by go_num, nstep hbr hb5⟩
          · obtain ⟨q1, q2, q3, q4⟩ := hat (by omega)
            have Q4 : Hid (∀ t ∈ (nextE x j).next, ∃ i : Nat, t = (i : Int) ∧ i < m.code.length ∧ H.getD i 0 = u + (nextE x j).more) := q4
            have hrg := nextE_range hsx j
            have hu0' : decide (u < 0) = false := by simpa using hu0
            clear hat q4
            go_wp2_with fail
            refine (rnext_any x j _ hsx (wrap_of (by omega) (by omega))).mono ?_
            rintro e w6 ⟨an, kn, rfl, hIn, hb6⟩
            generalize hNX : nextE x j = NX at *
            obtain ⟨need, more, next⟩ := NX
            simp only at q1 q2 q3 Q4 hrg hIn
            have hr6 := box_later' hr' (nstep hb5 hb6)
            have hc6 := hRow_cell (k := j) hr6 (by omega)
            rw [HU.out] at hc6
            have hx6 := box_later' hxb hb6
            have hop6 : w6.cell? ⟨wr.heap.size, 0, none⟩ = some (.int .i64 x.op) := by rw [cell_of_row _ _ _ _ _ _ hx6]; rfl
            have d1 : decide (u < need) = false := by simp; omega
            have d2 : decide (12 < u) = false := by simp; omega
            have hB6 := nstep (nstep hbr hb5) hb6
            clear hcx v0 v1 v2 v3 v4 hb5 hb6 hxb hx6 hNX
            obtain ⟨go, hgo⟩ : ∃ go, go = gk := ⟨_, rfl⟩
            have hend : Hid (x.op = 17 → (u != 1) = false) := fun h => by simp [q3 h]
            clear q3
            obtain ⟨an', kn', en, hin1, hin2, hin3, hin4⟩ := id hIn
            simp only [Value.slice.injEq] at en
            obtain ⟨rfl, -, rfl⟩ := en
            unfold maxLen at hin2
            have hsum : IntKind.i64.wrap (u + more) = u + more := wrap_of (by omega) (by omega)
            by_cases h17 : x.op = 17
            · have d3 := hend.out h17
              go_wp2
              go_loopg [93] next.length (fun g2 i wi => ∃ k : Nat, k + g2 = next.length ∧ i = .int .i64 k ∧ Below w6.heap.size w6 wi)
              case atStart => exact ⟨0, by omega, rfl, Below.refl _ _⟩
              case round =>
                obtain ⟨k, hk, rfl, hbi⟩ := hrel
                by_cases hkl : k < next.length
                · have hk1 : (k : Int) < (next.length : Int) := by omega
                  have hk0 : (0 : Int) ≤ (k : Int) := by omega
                  obtain ⟨i, ei, hil, hih⟩ := Q4.out next[k] (List.getElem_mem hkl)
                  obtain ⟨b2, o2, rfl, -, hv⟩ := hin4 k next[k] (List.getElem?_eq_getElem hkl)
                  have hv' : w6.cell? ⟨b2, o2 + k * 1 + 0, none⟩ = some (.int .i64 next[k]) := hv
                  rw [ei] at hv'
                  simp only [Nat.mul_one, Nat.add_zero] at hv'
                  replace hv' := cell_later hbi hv'
                  have hci := cell_later hbi (hRow_cell (k := i) hr6 (by omega))
                  rw [hih] at hci
                  have hcj := cell_later hbi hc6
                  have hi0 : (0 : Int) ≤ (i : Int) := by omega
                  have hi1 : (i : Int) < (m.code.length : Int) := by omega
                  have di : decide ((i : Int) < 0) = false := by simp
                  have di2 : decide ((m.code.length : Int) ≤ (i : Int)) = false := by simp; omega
                  clear hv ei hih
                  go_wp2
                  go_quiet (fail)
                  go_wp2
                  go_roundg (gk - 1)
                  case measure => omega
                  case rel => exact ⟨k + 1, by omega, by go_num, below_drewN hbi _⟩
                · have hk1 : (next.length : Int) ≤ (k : Int) := by omega
                  go_wp2
                  go_roundg (go - 1)
                  case measure => omega
                  case rel => exact ⟨j + 1, by omega, by go_num, nstep hB6 hbi⟩
            · go_wp2
              go_loopg [93] next.length (fun g2 i wi => ∃ k : Nat, k + g2 = next.length ∧ i = .int .i64 k ∧ Below w6.heap.size w6 wi)
              case atStart => exact ⟨0, by omega, rfl, Below.refl _ _⟩
              case round =>
                obtain ⟨k, hk, rfl, hbi⟩ := hrel
                by_cases hkl : k < next.length
                · have hk1 : (k : Int) < (next.length : Int) := by omega
                  have hk0 : (0 : Int) ≤ (k : Int) := by omega
                  obtain ⟨i, ei, hil, hih⟩ := Q4.out next[k] (List.getElem_mem hkl)
                  obtain ⟨b2, o2, rfl, -, hv⟩ := hin4 k next[k] (List.getElem?_eq_getElem hkl)
                  have hv' : w6.cell? ⟨b2, o2 + k * 1 + 0, none⟩ = some (.int .i64 next[k]) := hv
                  rw [ei] at hv'
                  simp only [Nat.mul_one, Nat.add_zero] at hv'
                  replace hv' := cell_later hbi hv'
                  have hci := cell_later hbi (hRow_cell (k := i) hr6 (by omega))
                  rw [hih] at hci
                  have hcj := cell_later hbi hc6
                  have hi0 : (0 : Int) ≤ (i : Int) := by omega
                  have hi1 : (i : Int) < (m.code.length : Int) := by omega
                  have di : decide ((i : Int) < 0) = false := by simp
                  have di2 : decide ((m.code.length : Int) ≤ (i : Int)) = false := by simp; omega
                  clear hv ei hih
                  go_wp2
                  go_quiet (fail)
                  go_wp2
                  go_roundg (gk - 1)
                  case measure => omega
                  case rel => exact ⟨k + 1, by omega, by go_num, below_drewN hbi _⟩
                · have hk1 : (next.length : Int) ≤ (k : Int) := by omega
                  go_wp2
                  go_roundg (go - 1)
                  case measure => omega
                  case rel => exact ⟨j + 1, by omega, by go_num, nstep hB6 hbi⟩
        · have hj1 : (m.code.length : Int) ≤ (j : Int) := by omega
          go_wp2
          go_ret
          exact ⟨rfl, nstep hb2 hbr⟩
    · exact absurd he0 h1
  · have h0' : (f1 != 0) = true := by simpa using h0
    go_wp2
    go_ret
    exact ⟨rfl, hb2⟩


set_option maxRecDepth 100000 in
theorem ways_lifted (os : Os) (started : os.Started) (H : Type) (enc : TypeId × Value → H) :
    ReturnsInHanded {} Try.checked os 7 .any (Rows.codeWaysSpec.pre6 enc Try.prog Try.f7 Rows.codeWaysRow.domain false) (Rows.codeWaysSpec.post enc Try.prog Try.f7 false true false false) := by
  refine returnsInHanded_of_change_sized (C := Try.checked) own started (by kernel_rfl) Try.func7
    (ChangeSpec.witness6 (enc := enc) (C := Try.checked) false ⟨#[], #[WV (.slice none 0 0) (.slice none 0 0) 0, .int .i64 0, MV ⟨⟨#[]⟩, 0, 0, 0, []⟩ (.slice none 0 0)], []⟩ 8 (by kernel_rfl) (by kernel_rfl) (by kernel_rfl) (by kernel_rfl)) ?_
  intro W base args ds gs before hval0 hW hcnd hsz0 _
  have hval : ∀ (j : Nat) t v, Try.f7.params[j]? = some t → args[j]? = some v → Value.okWide Try.prog W .any base t v := hval0
  have hsz : (DataW.weightsEach Try.prog (Try.f7.params.toList ++ Rows.codeWaysSpec.plain.varTypes Try.prog) (ds ++ gs)).all (· ≤ reachBytes) = true := hsz0
  have hW' := hW
  obtain ⟨p, q, hA0, hV, rfl, hfz, hnd⟩ := hW
  have hA : DataW.TrodAll enc Try.prog W 0 (fun _ => true) true Try.f7.params.toList args.toList ds p := hA0
  rw [Try.params7] at hA hval hsz
  obtain ⟨v0, vs0, d0, ds0, p0, q0, hargs, rfl, rfl, h0, r0⟩ := trodAll_cons hA
  obtain ⟨v1, vs1, d1, ds1, p1, q1, rfl, rfl, rfl, h1, r1⟩ := trodAll_cons r0
  obtain ⟨v2, vs2, d2, ds2, p2, q2, rfl, rfl, rfl, h2, r2⟩ := trodAll_cons r1
  obtain ⟨rfl, rfl, rfl⟩ := trodAll_nil r2
  obtain rfl : args = #[v0, v1, v2] := by cases args; simp_all
  obtain ⟨rfl, rfl⟩ := trodVars_none hV
  have lt : ∀ {t : TypeId} {v : Value} {d : DataW H} {p : List MemPlace}, DataW.Trod enc Try.prog W 0 (fun _ => true) true t v d p → ∀ x ∈ p, x.block < W.heap.size := fun h => by obtain ⟨m, hm⟩ := h; exact DataW.trod_lt m _ _ _ hm
  have big : ∀ {j : Nat} {t : TypeId} {d : DataW H}, ([25, 3, 28] : List TypeId)[j]? = some t → [d0, d1, d2][j]? = some d → ∀ n ∈ d.weights Try.prog t, n ≤ 140737488351232 := fun {j t d} ht hd n hn => by
    have := List.all_eq_true.1 hsz _ (DataW.weights_mem_each (j := j) (t := t) (by exact ht) (by exact hd) n hn)
    exact of_decide_eq_true this
  have k1 := h1
  obtain ⟨X, cv, hv, rfl, hC, hH⟩ := open_world (hval 0 25 v0 rfl rfl) h0 (big (j := 0) rfl rfl)
  obtain ⟨a1, rfl, -, -, -⟩ := open_int Try.underlying3 (hval 1 3 v1 rfl rfl) h1
  obtain ⟨m, mv, rfl, hM, hmn⟩ := open_meth (hval 2 28 v2 rfl rfl) h2 (big (j := 2) rfl rfl)
  clear hA0 hval0
  refine (ways_walk X a1 m cv hv mv W hC hH hM hmn).mono fun e W' ⟨he, bel⟩ => ?_
  subst he
  have again : ∀ {t : TypeId} {v : Value} {d : DataW H} {p : List MemPlace}, Try.prog.readableRec t = true → t < Try.prog.types.size → DataW.Trod enc Try.prog W 0 (fun _ => true) true t v d p → DataW.Trod enc Try.prog W' 0 (fun b => decide (b < W.heap.size)) true t v d p := fun hr ht h => Below.trod laidOut hr ht h bel (lt h)
  exact ⟨_, rfl, _, _, _, [], _, [], hW', trodAll_mk1 (shut_bool Try.underlying4 _), (trodAll_cons_mk (again (by kernel_rfl) (of_decide_eq_true (by kernel_rfl)) h0) (trodAll_cons_mk (again (by kernel_rfl) (of_decide_eq_true (by kernel_rfl)) k1) (trodAll_cons_mk (again (by kernel_rfl) (of_decide_eq_true (by kernel_rfl)) h2) trodAll_mk0))), rfl, bel.frame _, fun h => by cases h⟩

theorem ways_over : Rows.codeWaysRow.holds Try.pinned (OpenSpec.ofChange Rows.codeWaysSpec) :=
  OpenClaim.holds_of_wide 7 Try.f7 rfl rfl rfl rfl rfl rfl rfl ⟨rfl, rfl, rfl, rfl, rfl⟩ rfl rfl rfl rfl rfl (by kernel_rfl) Try.func7 (by kernel_rfl)
    (of_decide_eq_true (by kernel_rfl)) (by unfold Func.isWrapper; first | (rw [if_pos (by decide +kernel)]; kernel_rfl) | (rw [if_neg (by decide +kernel)]; exact ⟨rfl, rfl⟩))
    (fun os started H enc _ => ways_lifted os started H enc)

/-- The statement. -/
theorem codeWays_holds : Rows.CodeWaysSaid := ways_over
#print axioms codeWays_holds

end Go.Proofs.Ytahcmmdlggcfbaa
