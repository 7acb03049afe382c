/- Package code: Check, whole. -/
import Derived.Test.YtjmidhghiahbaaaGreatDoorKh
namespace Go.Proofs.YtjmidhghiahbaaaGreatDoor
open Go.ChangeShapes Go.WideShapes Go.ChangeAt Go.RowKit
set_option linter.unusedSimpArgs false
set_option linter.unusedVariables false
set_option maxRecDepth 8000

theorem box2 {w : World} {B : Nat} {x y : Value} {t : TypeId} (h : w.heap[B]? = some (.cells #[x, y] t (0, 0))) : (∀ q, w.cell? ⟨B, q, none⟩ = (#[x, y] : Array Value)[q]?) ∧ (∀ o, w.frozen? ⟨B, o, none⟩ = false) :=
  ⟨fun q => by rw [cell_of_row _ _ _ _ _ _ h], fun o => by unfold World.frozen?; simp [h]⟩

theorem set2_cells {w : World} {B : Nat} {x y : Value} {t : TypeId} (h : w.heap[B]? = some (.cells #[x, y] t (0, 0))) (u v : Value) (z : Obj) : (((w.setCell ⟨B, 0, none⟩ u).setCell ⟨B, 1, none⟩ v).alloc z).cell? ⟨B, 0, none⟩ = some u ∧ (((w.setCell ⟨B, 0, none⟩ u).setCell ⟨B, 1, none⟩ v).alloc z).cell? ⟨B, 1, none⟩ = some v := by
  have h2 : ((w.setCell ⟨B, 0, none⟩ u).setCell ⟨B, 1, none⟩ v).heap[B]? = some (.cells #[u, v] t (0, 0)) := by rw [setCell_same (setCell_same h _) _]; rfl
  have h3 := box_later' h2 (bel1 _ z)
  exact ⟨by rw [cell_of_row _ _ _ _ _ _ h3]; rfl, by rw [cell_of_row _ _ _ _ _ _ h3]; rfl⟩
theorem hRun_zero {code : List QI} : ∀ (g : Nat) (h : List Int) (q : List (Int × Int)), (hRun code g h q).2.1 = 0 → (hRun code g h q).2 = (0, 0)
  | 0, h, q, _ => rfl
  | g + 1, h, [], _ => rfl
  | g + 1, h, p :: q, he => by
    unfold hRun at he ⊢
    cases hst : hStep code h p with
    | inl f => rw [hst] at he; exact absurd he (hStep_err hst)
    | inr r =>
      obtain ⟨h', new⟩ := r
      rw [hst] at he
      exact hRun_zero g h' (q ++ new) he
theorem heights_fault {P : Nat → Prop} (m : QM) (mv : Value) (w : World) (hc : IsCode P w mv m.code) (hs : SendsOk m.code) : Calls Tryz.prog 73 #[MV m mv] w fun e w' => ∃ a n k, e = .returned (.tuple #[.slice a n k, FV (heightsE m.code).2]) ∧ Below w.heap.size w w' := by
  refine (heights_any m mv w hc hs).mono ?_
  rintro e w' ⟨hb, ⟨h0, g, rfl, -, -⟩ | ⟨h0, rfl⟩⟩
  · have := hRun_zero _ _ _ h0
    exact ⟨_, _, _, by unfold heightsE at *; rw [this], hb⟩
  · exact ⟨_, _, _, rfl, hb⟩

set_option maxHeartbeats 4000000 in
theorem check_any {P : Nat → Prop} (X : QW) (c : Int) (m : QM) (cv hv mv : Value) (w : World) (hh : IsClasses P w cv X.classes) (hH : IsHeap P w hv X.heap) (hM : IsCode P w mv m.code) (hmn : m.name.size ≤ 140737488351232) : Calls Tryz.prog 52 #[WV cv hv X.epoch, .int .i64 c, MV m mv] w fun e w' => e = .returned (FV (checkE (slotsW X.classes c) X.classes.length c m)) ∧ Below w.heap.size w w' := by
  obtain ⟨ad, cap, rfl, hl, hcap, hby, -⟩ := id hh
  obtain ⟨ah, ch, rfl⟩ := hH.get
  obtain ⟨am, cm, rfl, hl2, hcm, hcb, hrow⟩ := id hM
  unfold maxLen at hcm
  have HCE : Hid (checkE (slotsW X.classes c) X.classes.length c m = if wmE X.classes.length c m ≠ 0 then (wmE X.classes.length c m, 0) else match badE (numE (slotsW X.classes c) X.classes.length m) 0 m.code with | some f => f | none => (heightsE m.code).2) := rfl
  generalize checkE (slotsW X.classes c) X.classes.length c m = R at *
  go_enter Tryz.func52, Tryz.ntmps52
  go_wp2_with fail
  have hb3 := bel3 w (Obj.cells #[Value.slice ad X.classes.length cap, Value.slice ah X.heap.length ch, Value.int IntKind.i64 X.epoch] 25) (Obj.cells #[Value.string m.name, Value.int IntKind.i64 m.args, Value.int IntKind.i64 m.temps, Value.int IntKind.i64 m.prim, Value.slice am m.code.length cm] 43) (Obj.cells #[Value.int IntKind.i64 0, Value.int IntKind.i64 0] 45)
  have wb : (((w.alloc (Obj.cells #[Value.slice ad X.classes.length cap, Value.slice ah X.heap.length ch, Value.int IntKind.i64 X.epoch] 25)).alloc (Obj.cells #[Value.string m.name, Value.int IntKind.i64 m.args, Value.int IntKind.i64 m.temps, Value.int IntKind.i64 m.prim, Value.slice am m.code.length cm] 43)).alloc (Obj.cells #[Value.int IntKind.i64 0, Value.int IntKind.i64 0] 45)).heap[w.heap.size]? = some (.cells #[Value.slice ad X.classes.length cap, Value.slice ah X.heap.length ch, Value.int IntKind.i64 X.epoch] 25 (0, 0)) := ((bel2 _ _ _).block _ (by simp)).trans (blk_new _ _ _ rfl)
  have mb : (((w.alloc (Obj.cells #[Value.slice ad X.classes.length cap, Value.slice ah X.heap.length ch, Value.int IntKind.i64 X.epoch] 25)).alloc (Obj.cells #[Value.string m.name, Value.int IntKind.i64 m.args, Value.int IntKind.i64 m.temps, Value.int IntKind.i64 m.prim, Value.slice am m.code.length cm] 43)).alloc (Obj.cells #[Value.int IntKind.i64 0, Value.int IntKind.i64 0] 45)).heap[w.heap.size + 1]? = some (.cells #[Value.string m.name, Value.int IntKind.i64 m.args, Value.int IntKind.i64 m.temps, Value.int IntKind.i64 m.prim, Value.slice am m.code.length cm] 43 (0, 0)) := ((bel1 _ _).block _ (by simp)).trans (blk_new _ _ _ (by simp))
  have rb : (((w.alloc (Obj.cells #[Value.slice ad X.classes.length cap, Value.slice ah X.heap.length ch, Value.int IntKind.i64 X.epoch] 25)).alloc (Obj.cells #[Value.string m.name, Value.int IntKind.i64 m.args, Value.int IntKind.i64 m.temps, Value.int IntKind.i64 m.prim, Value.slice am m.code.length cm] 43)).alloc (Obj.cells #[Value.int IntKind.i64 0, Value.int IntKind.i64 0] 45)).heap[w.heap.size + 1 + 1]? = some (.cells #[Value.int IntKind.i64 0, Value.int IntKind.i64 0] 45 (0, 0)) := blk_new _ _ _ (by simp)
  refine (wrongMethod_any X c m _ _ _ _ _ _ _ hby hcb hmn).mono ?_
  rintro e w1 ⟨rfl, hb⟩
  replace hb3 := nstep hb3 hb
  replace mb := box_later' mb hb
  replace wb := box_later' wb hb
  replace rb := box_later' rb hb
  clear hb
  by_cases h1 : wmE X.classes.length c m = 0
  · obtain ⟨ha, ht, hn1, hn2, -, -⟩ := wmE_args h1
    rw [h1]
    have HCE2 : Hid (R = match badE (numE (slotsW X.classes c) X.classes.length m) 0 m.code with | some f => f | none => (heightsE m.code).2) := by show _ = _; rw [HCE.out, if_neg (by simp [h1])]
    have mc1 : w1.cell? ⟨w.heap.size + 1, 4, none⟩ = some (.slice am m.code.length cm) := by rw [cell_of_row _ _ _ _ _ _ mb]; rfl
    go_wp2
    clear mc1
    go_loopg [24] m.code.length (fun g i wr => ∃ j : Nat, j + g = m.code.length ∧ i = .int .i64 j ∧ Below w1.heap.size w1 wr ∧ (∀ i x, i < j → m.code[i]? = some x → numE (slotsW X.classes c) X.classes.length m x = 0))
    case atStart => exact ⟨0, by omega, rfl, Below.refl _ _, fun i x h => by omega⟩
    case round =>
      obtain ⟨j, hg, rfl, hbr, hD⟩ := hrel
      have HD : Hid (∀ i x, i < j → m.code[i]? = some x → numE (slotsW X.classes c) X.classes.length m x = 0) := hD
      clear hD
      have hB := nstep hb3 hbr
      by_cases hj : j < m.code.length
      · have hj1 : (j : Int) < (m.code.length : Int) := by omega
        have hj0 : (0 : Int) ≤ (j : Int) := by omega
        obtain ⟨x, hx⟩ : ∃ x, m.code[j]? = some x := ⟨_, List.getElem?_eq_getElem hj⟩
        obtain ⟨b, o, rfl, -, v0, v1, v2, v3, v4, hxn⟩ := hrow j x hx
        simp only [Nat.add_zero] at v0
        replace v0 := cell_later hB v0
        replace v1 := cell_later hB v1
        replace v2 := cell_later hB v2
        replace v3 := cell_later hB v3
        replace v4 := cell_later hB v4
        have HX : Hid (m.code[j]? = some x) := hx
        clear hx
        have hb4 := bel1 wr (Obj.cells #[Value.int IntKind.i64 x.op, Value.int IntKind.i64 x.a, Value.int IntKind.i64 x.b, Value.int IntKind.i64 x.c, Value.string x.name] 62)
        have wc : ∀ z q, (wr.alloc z).cell? ⟨w.heap.size, q, none⟩ = (#[Value.slice ad X.classes.length cap, Value.slice ah X.heap.length ch, Value.int IntKind.i64 X.epoch] : Array Value)[q]? := fun z q => by rw [cell_of_row _ _ _ _ _ _ (box_later' wb (nstep hbr (bel1 wr z)))]
        have mc : ∀ z q, (wr.alloc z).cell? ⟨w.heap.size + 1, q, none⟩ = (#[Value.string m.name, Value.int IntKind.i64 m.args, Value.int IntKind.i64 m.temps, Value.int IntKind.i64 m.prim, Value.slice (some ⟨b, o, none⟩) m.code.length cm] : Array Value)[q]? := fun z q => by rw [cell_of_row _ _ _ _ _ _ (box_later' mb (nstep hbr (bel1 wr z)))]
        go_wp2_with fail
        refine (wrongInstr_any X c m x _ _ _ _ (hh.later goodC (nstep hB hb4)) (hH.later goodO (nstep hB hb4)) (hM.later goodI (nstep hB hb4)) ha ht hxn).mono ?_
        rintro e w2 ⟨rfl, hb⟩
        have hb5 := nstep (nstep hbr hb4) hb
        clear wc mc v0 v1 v2 v3 v4
        by_cases h2 : numE (slotsW X.classes c) X.classes.length m x = 0
        · rw [h2]
          go_wp2
          go_roundg (gk - 1)
          case measure => omega
          case rel =>
            refine ⟨j + 1, by omega, by go_num, hb5, fun i y h hy => ?_⟩
            by_cases hij : i = j
            · subst hij
              rw [HX.out] at hy
              cases hy
              exact h2
            · exact HD.out i y (by omega) hy
        · have h2' : (numE (slotsW X.classes c) X.classes.length m x != 0) = true := by simpa using h2
          have HR : Hid (R = (numE (slotsW X.classes c) X.classes.length m x, (j : Int))) := by
            show _ = _
            rw [HCE2.out, badE_at (k := 0) HX.out h2 HD.out]
            simp
          obtain ⟨rc, rf⟩ := box2 (box_later' rb hb5)
          go_wp2
          refine bodyPost_ret (v := FV (numE (slotsW X.classes c) X.classes.length m x, (j : Int))) ?_ rfl ⟨by rw [HR.out], ?_⟩
          · simp [results, Tryz.results52, go_sem, rc, rf]
          · exact ((nstep hb3 hb5).setCell (by simp; omega) _).setCell (by simp; omega) _
      · obtain rfl : j = m.code.length := by omega
        have hall : ∀ (i : Nat) y, m.code[i]? = some y → numE (slotsW X.classes c) X.classes.length m y = 0 := fun i y hy => HD.out i y (lt_of_get hy) hy
        have HR : Hid (R = (heightsE m.code).2) := by show _ = _; rw [HCE2.out, badE_none hall]
        have hso : SendsOk m.code := fun x hx => by
          obtain ⟨i, hi, rfl⟩ := List.mem_iff_getElem.1 hx
          exact numE_send (hall i _ (List.getElem?_eq_getElem hi))
        have mc : ∀ q, wr.cell? ⟨w.heap.size + 1, q, none⟩ = (#[Value.string m.name, Value.int IntKind.i64 m.args, Value.int IntKind.i64 m.temps, Value.int IntKind.i64 m.prim, Value.slice am m.code.length cm] : Array Value)[q]? := fun q => by rw [cell_of_row _ _ _ _ _ _ (box_later' mb hbr)]
        have hj1 : (m.code.length : Int) ≤ (m.code.length : Int) := by omega
        go_wp2_with fail
        refine (heights_fault m _ _ (hM.later goodI hB) hso).mono ?_
        rintro e w2 ⟨a, n, k, rfl, hb⟩
        have hz : w.heap.size + 1 + 1 < w2.heap.size := blk_lt (box_later' rb (nstep hbr hb))
        have rc : ∀ z q, (w2.alloc z).cell? ⟨w.heap.size + 1 + 1, q, none⟩ = (#[Value.int .i64 0, .int .i64 0] : Array Value)[q]? := fun z q => by rw [cell_of_row _ _ _ _ _ _ (box_later' rb (nstep (nstep hbr hb) (bel1 w2 z)))]
        have rf : ∀ z q, (w2.alloc z).frozen? ⟨w.heap.size + 1 + 1, q, none⟩ = false := fun z q => by unfold World.frozen?; simp [box_later' rb (nstep (nstep hbr hb) (bel1 w2 z))]
        generalize (heightsE m.code).2 = F at *
        obtain ⟨f1, f2⟩ := F
        obtain ⟨rc2, rf2⟩ := box2 (box_later' rb (nstep hbr hb))
        obtain ⟨sc0, sc1⟩ := set2_cells (box_later' rb (nstep hbr hb)) (.int .i64 f1) (.int .i64 f2) (Obj.cells #[Value.int IntKind.i64 f1, Value.int IntKind.i64 f2] 45)
        have hne : ¬ w2.heap.size = w.heap.size + 1 + 1 := by omega
        have hne' : ¬ w.heap.size + 1 + 1 = w2.heap.size := by omega
        go_wp2
        refine bodyPost_ret (v := FV (f1, f2)) ?_ rfl ⟨by rw [HR.out], ?_⟩
        · simp [results, Tryz.results52, go_sem, rc, rf, rc2, rf2, hne, hne', sc0, sc1]
        · first
            | exact ((nstep (nstep hB hb) (bel1 _ _)).setCell (by simp; omega) _).setCell (by simp; omega) _
            | exact (((nstep hB hb).setCell (by simp; omega) _).setCell (by simp; omega) _).alloc (by rw [size_setCell, size_setCell]; omega) _
  · have h1' : (wmE X.classes.length c m != 0) = true := by simpa using h1
    have HR : Hid (R = (wmE X.classes.length c m, 0)) := by show _ = _; rw [HCE.out, if_pos h1]
    obtain ⟨rc, rf⟩ := box2 rb
    go_wp2
    refine bodyPost_ret (v := FV (wmE X.classes.length c m, 0)) ?_ rfl ⟨by rw [HR.out], ?_⟩
    · simp [results, Tryz.results52, go_sem, rc, rf]
    · exact (hb3.setCell (by simp; omega) _).setCell (by simp; omega) _
end Go.Proofs.YtjmidhghiahbaaaGreatDoor
