/- Package code: arrive. -/
import Derived.Test.YtjmidhghiahbaaaGreatDoorKd
namespace Go.Proofs.YtjmidhghiahbaaaGreatDoor
open Go.ChangeShapes Go.WideShapes Go.ChangeAt Go.RowKit
set_option linter.unusedSimpArgs false
set_option linter.unusedVariables false
set_option maxRecDepth 8000

def hCells (h : List Int) : List Value := h.map fun x => .int .i64 x
abbrev hRow (h : List Int) : Obj := .cells (hCells h).toArray 3 (0, 0)
theorem hRow_cell {w : World} {g : Nat} {h : List Int} (hg : w.heap[g]? = some (hRow h)) {k : Nat} (hk : k < h.length) : w.cell? ⟨g, k, none⟩ = some (.int .i64 (h.getD k 0)) := by
  rw [cell_of_row _ _ _ _ _ _ hg]; simp [hCells, hk]
theorem hRow_free {w : World} {g : Nat} {h : List Int} (hg : w.heap[g]? = some (hRow h)) (k : Nat) : w.frozen? ⟨g, k, none⟩ = false := by unfold World.frozen?; simp [hg]
theorem hRow_set {w : World} {g : Nat} {h : List Int} (hg : w.heap[g]? = some (hRow h)) (k : Nat) (v : Int) : (w.setCell ⟨g, k, none⟩ (.int .i64 v)).heap[g]? = some (hRow (h.set k v)) := by
  rw [setCell_same hg]; simp [hCells, List.map_set]

/-- All but the box, the row of places, and the row of heights, are as they were. -/
structure ArrF (w w' : World) (lo bl gh : Nat) (v v' : Value) : Prop where
  bel : Below lo w w'
  blk : ∀ b, b < w.heap.size → b ≠ bl → b ≠ gh → some b ≠ v.ownBlock → w'.heap[b]? = w.heap[b]?
  own : v'.ownBlock = v.ownBlock ∨ ∃ g, v'.ownBlock = some g ∧ w.heap.size ≤ g
abbrev FV (f : Int × Int) : Value := .agg #[.int .i64 f.1, .int .i64 f.2]

set_option maxHeartbeats 2000000 in
theorem arrive_any (code : List QI) (cv : Value) (h : List Int) (p n : Int) (q : List (Int × Int)) (lo gh bl base : Nat) (v : Value) (w : World)
    (hc : IsCode (fun b => b < lo) w cv code) (hs : SendsOk code) (hg : w.heap[gh]? = some (hRow h)) (hl : h.length = code.length) (hn : 0 ≤ n ∧ n ≤ 12) (hQ : LedQ w base bl v q) (hq : q.length + 2 ≤ 8000000000000)
    (h1 : lo ≤ gh) (h2 : lo ≤ bl) (h3 : gh < base) (h4 : gh ≠ bl) (h5 : base ≤ w.heap.size) :
    Calls Tryz.prog 93 #[cv, .slice (some ⟨gh, 0, none⟩) code.length code.length, .agg #[.int .i64 p, .int .i64 n], .func (.func 92) #[] #[.pointer (some ⟨bl, 0, none⟩)]] w fun e w' =>
      match hStep code h (p, n) with
      | .inl f => e = .returned (FV f) ∧ Below lo w w' ∧ (∀ b, b < w.heap.size → b ≠ gh → w'.heap[b]? = w.heap[b]?)
      | .inr (h', new) => e = .returned (FV (0, 0)) ∧ ∃ v', LedQ w' base bl v' (q ++ new) ∧ w'.heap[gh]? = some (hRow h') ∧ ArrF w w' lo bl gh v v' := by
  obtain ⟨ad, cap, rfl, hcl, hcap, hcb, hrow⟩ := id hc
  unfold maxLen at hcap
  have hgl := blk_lt hg
  have hblt := hQ.lt
  have hb3 := bel3 w (Obj.cells #[.int .i64 p, .int .i64 n] 137) (Obj.cells #[.func (.func 92) #[] #[.pointer (some ⟨bl, 0, none⟩)]] 138) (Obj.cells #[.int .i64 0, .int .i64 0] 45)
  have hg3 := box_later' hg hb3
  have hQ3 := hQ.later hb3
  go_enter Tryz.func93, Tryz.ntmps93
  cases hx : instrAt code p with
  | none =>
    have hst : hStep code h (p, n) = .inl (9, (code.length : Int)) := by unfold hStep; simp only [hx]
    rw [hst]
    rw [instrAt_none] at hx
    by_cases hp : p < 0
    · go_wp2
      refine bodyPost_ret (v := FV (9, code.length)) ?_ rfl ⟨rfl, ?_, fun b hb _ => (bel3 _ _ _ _).block b hb⟩
      · simp [results, Tryz.results93, go_sem]
      · exact (bel3 _ _ _ _).mono (by omega)
    · have hp' : decide (p < 0) = false := by simpa using hp
      have hp2 : (code.length : Int) ≤ p := by omega
      go_wp2
      refine bodyPost_ret (v := FV (9, code.length)) ?_ rfl ⟨rfl, ?_, fun b hb _ => (bel3 _ _ _ _).block b hb⟩
      · simp [results, Tryz.results93, go_sem]
      · exact (bel3 _ _ _ _).mono (by omega)
  | some x =>
    obtain ⟨k, rfl, hxk⟩ := instrAt_some hx
    have hk := lt_of_get hxk
    have hk0 : (0 : Int) ≤ (k : Int) := by omega
    have hk1 : (k : Int) < (code.length : Int) := by omega
    have hcell := hRow_cell hg3 (k := k) (by omega)
    have hfree := hRow_free hg3 k
    have hsx := hs x (List.mem_of_getElem? hxk)
    obtain ⟨bc, oc, rfl, hbc, i0, i1, i2, i3, i4, -⟩ := hrow k x hxk
    simp only [Nat.add_zero] at i0
    obtain ⟨u, hu⟩ : ∃ u, u = h.getD k 0 := ⟨_, rfl⟩
    have hst0 : Hid (hStep code h ((k : Int), n) = if 0 ≤ u then (if u ≠ n then .inl (8, (k : Int)) else .inr (h, [])) else if n < (nextE x k).need ∨ x.op = 17 ∧ n ≠ 1 then .inl (8, (k : Int)) else if 12 < n + (nextE x k).more then .inl (4, (k : Int)) else .inr (h.set k n, (nextE x k).next.map fun t => (t, n + (nextE x k).more))) := by
      show _ = _
      unfold hStep
      simp only [hx, Int.toNat_natCast]
      rw [← hu]
    rw [← hu] at hcell
    clear hu hx
    by_cases hv0 : 0 ≤ u
    · by_cases hv1 : u = n
      · have hst : hStep code h ((k : Int), n) = .inr (h, []) := by rw [hst0.out, if_pos hv0, if_neg (by simpa using hv1)]
        rw [hst]
        subst hv1
        go_wp2
        refine bodyPost_ret (v := FV (0, 0)) ?_ rfl ⟨rfl, v, by simpa using hQ3, hg3, hb3.mono (by omega), fun b hb _ _ _ => hb3.block b hb, Or.inl rfl⟩
        simp [results, Tryz.results93, go_sem]
      · have hst : hStep code h ((k : Int), n) = .inl (8, (k : Int)) := by rw [hst0.out, if_pos hv0, if_pos hv1]
        rw [hst]
        have hv1' : (u != n) = true := by simpa using hv1
        go_wp2
        refine bodyPost_ret (v := FV (8, (k : Int))) ?_ rfl ⟨rfl, (bel3 _ _ _ _).mono (by omega), fun b hb _ => (bel3 _ _ _ _).block b hb⟩
        simp [results, Tryz.results93, go_sem]
    · have hv0' : decide (0 ≤ u) = false := by simpa using hv0
      have HSE : Hid (hStep code h ((k : Int), n) = if (stepE x k n).2 ≠ 0 then .inl ((stepE x k n).2, (k : Int)) else .inr (h.set k n, (nextE x k).next.map fun t => (t, (stepE x k n).1))) := by
        show _ = _
        rw [hst0.out, if_neg hv0]
        unfold stepE
        (repeat' split) <;> simp_all
      clear hst0
      by_cases her : (stepE x k n).2 = 0
      · have hst : hStep code h ((k : Int), n) = .inr (h.set k n, (nextE x k).next.map fun t => (t, (stepE x k n).1)) := by rw [HSE.out, if_neg (by simpa using her)]
        rw [hst]
        clear HSE hst
        have hgW := hRow_set hg3 k n
        have hbW : Below lo w ((((w.alloc (Obj.cells #[.int .i64 (k : Int), .int .i64 n] 137)).alloc (Obj.cells #[.func (.func 92) #[] #[.pointer (some ⟨bl, 0, none⟩)]] 138)).alloc (Obj.cells #[.int .i64 0, .int .i64 0] 45)).setCell ⟨gh, k, none⟩ (.int .i64 n)) := (hb3.mono (by omega)).setCell h1 _
        have hkW : ∀ b, b < w.heap.size → b ≠ gh → ((((w.alloc (Obj.cells #[.int .i64 (k : Int), .int .i64 n] 137)).alloc (Obj.cells #[.func (.func 92) #[] #[.pointer (some ⟨bl, 0, none⟩)]] 138)).alloc (Obj.cells #[.int .i64 0, .int .i64 0] 45)).setCell ⟨gh, k, none⟩ (.int .i64 n)).heap[b]? = w.heap[b]? := fun b hb hne => (setCell_else hne _).trans (hb3.block b hb)
        have j0 := (hbW.cell (p := ⟨bc, oc + k * 5, none⟩) hbc).trans i0
        have j1 := (hbW.cell (p := ⟨bc, oc + k * 5 + 1, none⟩) hbc).trans i1
        have j2 := (hbW.cell (p := ⟨bc, oc + k * 5 + 2, none⟩) hbc).trans i2
        have j3 := (hbW.cell (p := ⟨bc, oc + k * 5 + 3, none⟩) hbc).trans i3
        have j4 := (hbW.cell (p := ⟨bc, oc + k * 5 + 4, none⟩) hbc).trans i4
        go_wp2_with fail
        have hQW : LedQ ((((w.alloc (Obj.cells #[.int .i64 (k : Int), .int .i64 n] 137)).alloc (Obj.cells #[.func (.func 92) #[] #[.pointer (some ⟨bl, 0, none⟩)]] 138)).alloc (Obj.cells #[.int .i64 0, .int .i64 0] 45)).setCell ⟨gh, k, none⟩ (.int .i64 n)) base bl v q :=
          ⟨(setCell_else (Ne.symm h4) _).trans hQ3.box, hQ3.own.keep fun g hg' => setCell_else (by have := (hQ3.own.lt g hg').1; omega) _, hQ3.lt⟩
        have fb : ((((w.alloc (Obj.cells #[.int .i64 (k : Int), .int .i64 n] 137)).alloc (Obj.cells #[.func (.func 92) #[] #[.pointer (some ⟨bl, 0, none⟩)]] 138)).alloc (Obj.cells #[.int .i64 0, .int .i64 0] 45)).setCell ⟨gh, k, none⟩ (.int .i64 n)).heap[w.heap.size + 1]? = some (.cells #[.func (.func 92) #[] #[.pointer (some ⟨bl, 0, none⟩)]] 138 (0, 0)) := (setCell_else (by omega) _).trans (((bel1 _ _).block _ (by simp)).trans (blk_new _ _ _ (by simp)))
        have pb : ((((w.alloc (Obj.cells #[.int .i64 (k : Int), .int .i64 n] 137)).alloc (Obj.cells #[.func (.func 92) #[] #[.pointer (some ⟨bl, 0, none⟩)]] 138)).alloc (Obj.cells #[.int .i64 0, .int .i64 0] 45)).setCell ⟨gh, k, none⟩ (.int .i64 n)).heap[w.heap.size]? = some (.cells #[.int .i64 (k : Int), .int .i64 n] 137 (0, 0)) := (setCell_else (by omega) _).trans (((bel2 _ _ _).block _ (by simp)).trans (blk_new _ _ _ rfl))
        have rb : ((((w.alloc (Obj.cells #[.int .i64 (k : Int), .int .i64 n] 137)).alloc (Obj.cells #[.func (.func 92) #[] #[.pointer (some ⟨bl, 0, none⟩)]] 138)).alloc (Obj.cells #[.int .i64 0, .int .i64 0] 45)).setCell ⟨gh, k, none⟩ (.int .i64 n)).heap[w.heap.size + 1 + 1]? = some (.cells #[.int .i64 0, .int .i64 0] 45 (0, 0)) := (setCell_else (by omega) _).trans (blk_new _ _ _ (by simp))
        have hsW : ((((w.alloc (Obj.cells #[.int .i64 (k : Int), .int .i64 n] 137)).alloc (Obj.cells #[.func (.func 92) #[] #[.pointer (some ⟨bl, 0, none⟩)]] 138)).alloc (Obj.cells #[.int .i64 0, .int .i64 0] 45)).setCell ⟨gh, k, none⟩ (.int .i64 n)).heap.size = w.heap.size + 3 := by rw [size_setCell]; simp
        clear i0 i1 i2 i3 i4 j0 j1 j2 j3 j4 hcell hfree
        generalize ((((w.alloc (Obj.cells #[.int .i64 (k : Int), .int .i64 n] 137)).alloc (Obj.cells #[.func (.func 92) #[] #[.pointer (some ⟨bl, 0, none⟩)]] 138)).alloc (Obj.cells #[.int .i64 0, .int .i64 0] 45)).setCell ⟨gh, k, none⟩ (.int .i64 n)) = W at *
        have hbx := bel1 W (Obj.cells #[Value.int IntKind.i64 x.op, Value.int IntKind.i64 x.a, Value.int IntKind.i64 x.b, Value.int IntKind.i64 x.c, Value.string x.name] 62)
        have xb := blk_new W (Obj.cells #[Value.int IntKind.i64 x.op, Value.int IntKind.i64 x.a, Value.int IntKind.i64 x.b, Value.int IntKind.i64 x.c, Value.string x.name] 62) (w.heap.size + 1 + 1 + 1) (by rw [hsW])
        refine (step_any x k n _ hsx hn).mono ?_
        rintro e w6 ⟨rfl, hb6⟩
        replace xb := box_later' xb hb6
        replace hb6 := nstep hbx hb6
        have hs6 := hb6.size
        have pc : ∀ z q, (w6.alloc z).cell? ⟨w.heap.size, q, none⟩ = (#[Value.int .i64 (k : Int), .int .i64 n] : Array Value)[q]? := fun z q => by rw [(bel1 w6 z).cell (p := ⟨w.heap.size, q, none⟩) (by show w.heap.size < w6.heap.size; omega), cell_of_row _ _ _ _ _ _ (box_later' pb hb6)]
        have rc : ∀ z q, (w6.alloc z).cell? ⟨w.heap.size + 1 + 1, q, none⟩ = (#[Value.int .i64 0, .int .i64 0] : Array Value)[q]? := fun z q => by rw [(bel1 w6 z).cell (p := ⟨w.heap.size + 1 + 1, q, none⟩) (by show w.heap.size + 1 + 1 < w6.heap.size; omega), cell_of_row _ _ _ _ _ _ (box_later' rb hb6)]
        have rf : ∀ z q, (w6.alloc z).frozen? ⟨w.heap.size + 1 + 1, q, none⟩ = false := fun z q => by rw [(bel1 w6 z).frozen (p := ⟨w.heap.size + 1 + 1, q, none⟩) (by show w.heap.size + 1 + 1 < w6.heap.size; omega)]; unfold World.frozen?; simp [box_later' rb hb6]
        have xc : ∀ z q, (w6.alloc z).cell? ⟨w.heap.size + 1 + 1 + 1, q, none⟩ = (#[Value.int IntKind.i64 x.op, Value.int IntKind.i64 x.a, Value.int IntKind.i64 x.b, Value.int IntKind.i64 x.c, Value.string x.name] : Array Value)[q]? := fun z q => by rw [(bel1 w6 z).cell (p := ⟨w.heap.size + 1 + 1 + 1, q, none⟩) (blk_lt xb), cell_of_row _ _ _ _ _ _ xb]
        rw [her]
        have hmf' := hmf
        have hbh := bel1 w6 (Obj.cells #[.int .i64 (stepE x k n).1] 3)
        go_wp2_with fail
        have hQ7 := hQW.later (nstep hb6 hbh)
        refine (leads_any x k (stepE x k n).1 bl base (w.heap.size + 1) w6.heap.size v q _ hQ7 (by simp; omega) hq (box_later' fb (nstep hb6 hbh)) (blk_new _ _ _ rfl) ⟨by omega, fun e => by have := (hQ.own.lt _ e.symm).2; omega⟩ ⟨by omega, fun e => by have := (hQ.own.lt _ e.symm).2; omega⟩ (wrap_of (by omega) (by omega))).mono ?_
        rintro e w8 ⟨rfl, v', hQ8, hF8⟩
        have rb8 : w8.heap[w.heap.size + 1 + 1]? = _ := (hF8.blk (w.heap.size + 1 + 1) (by simp; omega) (by omega) (fun e => by have := (hQ.own.lt _ e.symm).2; omega)).trans (box_later' rb (nstep hb6 hbh))
        have rc8 : ∀ q, w8.cell? ⟨w.heap.size + 1 + 1, q, none⟩ = (#[Value.int .i64 0, .int .i64 0] : Array Value)[q]? := fun q => by rw [cell_of_row _ _ _ _ _ _ rb8]
        have rf8 : ∀ q, w8.frozen? ⟨w.heap.size + 1 + 1, q, none⟩ = false := fun q => by unfold World.frozen?; simp [rb8]
        have hg8 : w8.heap[gh]? = some (hRow (h.set k n)) := (hF8.blk gh (by simp; omega) h4 (fun e => by have := (hQ.own.lt _ e.symm).1; omega)).trans (box_later' hgW (nstep hb6 hbh))
        have hs8 := hF8.bel.size
        simp at hs8
        go_wp2
        refine bodyPost_ret (v := FV (0, 0)) ?_ rfl ⟨rfl, v', ⟨?_, ?_, hQ8.lt⟩, ?_, ?_, fun b hb e1 e2 e3 => ?_, ?_⟩
        · simp [results, Tryz.results93, go_sem, rc8, rf8]
        · rw [setCell_else (by omega), setCell_else (by omega)]; exact hQ8.box
        · refine hQ8.own.keep fun g hg' => ?_
          have hne : g ≠ w.heap.size + 1 + 1 := by
            rcases hF8.own with e | ⟨g1, e, hg1⟩
            · rw [e] at hg'
              have := (hQ.own.lt g hg').2
              omega
            · rw [e] at hg'
              cases hg'
              simp at hg1
              omega
          rw [setCell_else hne, setCell_else hne]
        · rw [setCell_else (by omega), setCell_else (by omega)]; exact hg8
        · exact (((hbW.trans ((nstep hb6 hbh).mono (by omega))).trans (hF8.bel.mono h2)).setCell (by show lo ≤ w.heap.size + 1 + 1; omega) _).setCell (by show lo ≤ w.heap.size + 1 + 1; omega) _
        · rw [setCell_else (by omega), setCell_else (by omega), hF8.blk b (by simp; omega) e1 e3, (nstep hb6 hbh).block b (by omega), hkW b hb e2]
        · rcases hF8.own with e | ⟨g1, e, hg1⟩
          · exact Or.inl e
          · exact Or.inr ⟨g1, e, by simp at hg1; omega⟩
      · have hst : hStep code h ((k : Int), n) = .inl ((stepE x k n).2, (k : Int)) := by rw [HSE.out, if_pos her]
        rw [hst]
        clear HSE hst
        have hgW := hRow_set hg3 k n
        have hbW : Below lo w ((((w.alloc (Obj.cells #[.int .i64 (k : Int), .int .i64 n] 137)).alloc (Obj.cells #[.func (.func 92) #[] #[.pointer (some ⟨bl, 0, none⟩)]] 138)).alloc (Obj.cells #[.int .i64 0, .int .i64 0] 45)).setCell ⟨gh, k, none⟩ (.int .i64 n)) := (hb3.mono (by omega)).setCell h1 _
        have hkW : ∀ b, b < w.heap.size → b ≠ gh → ((((w.alloc (Obj.cells #[.int .i64 (k : Int), .int .i64 n] 137)).alloc (Obj.cells #[.func (.func 92) #[] #[.pointer (some ⟨bl, 0, none⟩)]] 138)).alloc (Obj.cells #[.int .i64 0, .int .i64 0] 45)).setCell ⟨gh, k, none⟩ (.int .i64 n)).heap[b]? = w.heap[b]? := fun b hb hne => (setCell_else hne _).trans (hb3.block b hb)
        have j0 := (hbW.cell (p := ⟨bc, oc + k * 5, none⟩) hbc).trans i0
        have j1 := (hbW.cell (p := ⟨bc, oc + k * 5 + 1, none⟩) hbc).trans i1
        have j2 := (hbW.cell (p := ⟨bc, oc + k * 5 + 2, none⟩) hbc).trans i2
        have j3 := (hbW.cell (p := ⟨bc, oc + k * 5 + 3, none⟩) hbc).trans i3
        have j4 := (hbW.cell (p := ⟨bc, oc + k * 5 + 4, none⟩) hbc).trans i4
        go_wp2_with fail
        have hQW : LedQ ((((w.alloc (Obj.cells #[.int .i64 (k : Int), .int .i64 n] 137)).alloc (Obj.cells #[.func (.func 92) #[] #[.pointer (some ⟨bl, 0, none⟩)]] 138)).alloc (Obj.cells #[.int .i64 0, .int .i64 0] 45)).setCell ⟨gh, k, none⟩ (.int .i64 n)) base bl v q :=
          ⟨(setCell_else (Ne.symm h4) _).trans hQ3.box, hQ3.own.keep fun g hg' => setCell_else (by have := (hQ3.own.lt g hg').1; omega) _, hQ3.lt⟩
        have fb : ((((w.alloc (Obj.cells #[.int .i64 (k : Int), .int .i64 n] 137)).alloc (Obj.cells #[.func (.func 92) #[] #[.pointer (some ⟨bl, 0, none⟩)]] 138)).alloc (Obj.cells #[.int .i64 0, .int .i64 0] 45)).setCell ⟨gh, k, none⟩ (.int .i64 n)).heap[w.heap.size + 1]? = some (.cells #[.func (.func 92) #[] #[.pointer (some ⟨bl, 0, none⟩)]] 138 (0, 0)) := (setCell_else (by omega) _).trans (((bel1 _ _).block _ (by simp)).trans (blk_new _ _ _ (by simp)))
        have pb : ((((w.alloc (Obj.cells #[.int .i64 (k : Int), .int .i64 n] 137)).alloc (Obj.cells #[.func (.func 92) #[] #[.pointer (some ⟨bl, 0, none⟩)]] 138)).alloc (Obj.cells #[.int .i64 0, .int .i64 0] 45)).setCell ⟨gh, k, none⟩ (.int .i64 n)).heap[w.heap.size]? = some (.cells #[.int .i64 (k : Int), .int .i64 n] 137 (0, 0)) := (setCell_else (by omega) _).trans (((bel2 _ _ _).block _ (by simp)).trans (blk_new _ _ _ rfl))
        have rb : ((((w.alloc (Obj.cells #[.int .i64 (k : Int), .int .i64 n] 137)).alloc (Obj.cells #[.func (.func 92) #[] #[.pointer (some ⟨bl, 0, none⟩)]] 138)).alloc (Obj.cells #[.int .i64 0, .int .i64 0] 45)).setCell ⟨gh, k, none⟩ (.int .i64 n)).heap[w.heap.size + 1 + 1]? = some (.cells #[.int .i64 0, .int .i64 0] 45 (0, 0)) := (setCell_else (by omega) _).trans (blk_new _ _ _ (by simp))
        have hsW : ((((w.alloc (Obj.cells #[.int .i64 (k : Int), .int .i64 n] 137)).alloc (Obj.cells #[.func (.func 92) #[] #[.pointer (some ⟨bl, 0, none⟩)]] 138)).alloc (Obj.cells #[.int .i64 0, .int .i64 0] 45)).setCell ⟨gh, k, none⟩ (.int .i64 n)).heap.size = w.heap.size + 3 := by rw [size_setCell]; simp
        clear i0 i1 i2 i3 i4 j0 j1 j2 j3 j4 hcell hfree
        generalize ((((w.alloc (Obj.cells #[.int .i64 (k : Int), .int .i64 n] 137)).alloc (Obj.cells #[.func (.func 92) #[] #[.pointer (some ⟨bl, 0, none⟩)]] 138)).alloc (Obj.cells #[.int .i64 0, .int .i64 0] 45)).setCell ⟨gh, k, none⟩ (.int .i64 n)) = W at *
        have hbx := bel1 W (Obj.cells #[Value.int IntKind.i64 x.op, Value.int IntKind.i64 x.a, Value.int IntKind.i64 x.b, Value.int IntKind.i64 x.c, Value.string x.name] 62)
        have xb := blk_new W (Obj.cells #[Value.int IntKind.i64 x.op, Value.int IntKind.i64 x.a, Value.int IntKind.i64 x.b, Value.int IntKind.i64 x.c, Value.string x.name] 62) (w.heap.size + 1 + 1 + 1) (by rw [hsW])
        refine (step_any x k n _ hsx hn).mono ?_
        rintro e w6 ⟨rfl, hb6⟩
        replace xb := box_later' xb hb6
        replace hb6 := nstep hbx hb6
        have hs6 := hb6.size
        have pc : ∀ z q, (w6.alloc z).cell? ⟨w.heap.size, q, none⟩ = (#[Value.int .i64 (k : Int), .int .i64 n] : Array Value)[q]? := fun z q => by rw [(bel1 w6 z).cell (p := ⟨w.heap.size, q, none⟩) (by show w.heap.size < w6.heap.size; omega), cell_of_row _ _ _ _ _ _ (box_later' pb hb6)]
        have rc : ∀ z q, (w6.alloc z).cell? ⟨w.heap.size + 1 + 1, q, none⟩ = (#[Value.int .i64 0, .int .i64 0] : Array Value)[q]? := fun z q => by rw [(bel1 w6 z).cell (p := ⟨w.heap.size + 1 + 1, q, none⟩) (by show w.heap.size + 1 + 1 < w6.heap.size; omega), cell_of_row _ _ _ _ _ _ (box_later' rb hb6)]
        have rf : ∀ z q, (w6.alloc z).frozen? ⟨w.heap.size + 1 + 1, q, none⟩ = false := fun z q => by rw [(bel1 w6 z).frozen (p := ⟨w.heap.size + 1 + 1, q, none⟩) (by show w.heap.size + 1 + 1 < w6.heap.size; omega)]; unfold World.frozen?; simp [box_later' rb hb6]
        have xc : ∀ z q, (w6.alloc z).cell? ⟨w.heap.size + 1 + 1 + 1, q, none⟩ = (#[Value.int IntKind.i64 x.op, Value.int IntKind.i64 x.a, Value.int IntKind.i64 x.b, Value.int IntKind.i64 x.c, Value.string x.name] : Array Value)[q]? := fun z q => by rw [(bel1 w6 z).cell (p := ⟨w.heap.size + 1 + 1 + 1, q, none⟩) (blk_lt xb), cell_of_row _ _ _ _ _ _ xb]
        have her' : ((stepE x k n).2 != 0) = true := by simpa using her
        go_wp2
        refine bodyPost_ret (v := FV ((stepE x k n).2, (k : Int))) ?_ rfl ⟨rfl, ?_, fun b hb e2 => ?_⟩
        · simp [results, Tryz.results93, go_sem, rc, rf]
        · exact (((hbW.trans (hb6.mono (by omega))).alloc (by omega) _).setCell (by show lo ≤ w.heap.size + 1 + 1; omega) _).setCell (by show lo ≤ w.heap.size + 1 + 1; omega) _
        · rw [setCell_else (by omega), setCell_else (by omega), (bel1 _ _).block b (by omega), hb6.block b (by omega), hkW b hb e2]
end Go.Proofs.YtjmidhghiahbaaaGreatDoor
