/- Package code: Heights. -/
import Derived.Test.YtjmidhghiahbaaaGreatDoorKe
import Derived.Test.YtjmidhghiahbaaaGreatDoorDa
namespace Go.Proofs.YtjmidhghiahbaaaGreatDoor
open Go.ChangeShapes Go.WideShapes Go.ChangeAt Go.RowKit
set_option linter.unusedSimpArgs false
set_option linter.unusedVariables false
set_option maxRecDepth 8000

theorem make_ints (n : Nat) (hb : n * 8 ≤ 140737488351232) (w : World) : (Instr.makeSlice 58 (.int .i64 (n : Int)) (.int .i64 (n : Int))).run Tryz.prog w = .ok (.slice (some ⟨w.heap.size, 0, none⟩) n n) (w.alloc (hRow (List.replicate n 0))) := by
  obtain ⟨i0, hi, hz0, hz1, hz2⟩ := info_parts info3
  have := run_make (P := Tryz.prog) w 58 3 i0 _ Tryz.underlying58 hi hz0 .i64 .i64 n n (by omega) (by omega) (by rw [hz2]; omega) (by omega)
  rw [this, hz1]
  simp [madeCells, Value.cells, hRow, hCells]
  congr 2
  apply Array.ext
  · simp
  · intro i h1 h2
    simp [Nat.mod_one]

theorem fill_set {n j : Nat} (h : j < n) : (List.replicate j (-1 : Int) ++ List.replicate (n - j) 0).set j (-1) = List.replicate (j + 1) (-1) ++ List.replicate (n - (j + 1)) 0 := by
  apply List.ext_getElem?
  intro i
  simp only [List.getElem?_set, List.getElem?_append, List.length_append, List.length_replicate, List.getElem?_replicate]
  by_cases h1 : i = j
  · subst h1
    simp
    omega
  · by_cases h2 : i < j
    · simp [h2, show i < j + 1 by omega, show ¬ j = i by omega]
    · simp only [show ¬ j = i by omega, if_false, h2, show ¬ (i < j + 1) by omega]
      by_cases h3 : i < n
      · rw [if_pos (by omega), if_pos (by omega)]
      · rw [if_neg (by omega), if_neg (by omega)]
theorem ownsAt.head {w : World} {base : Nat} {e : TypeId} {a : Option Addr} {cap : Nat} {p : Int × Int} {q : List (Int × Int)} (h : ownsAt w base e 2 (.slice a (q.length + 1) cap) (q.length + 1) (qCells (p :: q))) : ∃ g o, a = some ⟨g, o, none⟩ ∧ w.cell? ⟨g, o, none⟩ = some (.int .i64 p.1) ∧ w.cell? ⟨g, o + 1, none⟩ = some (.int .i64 p.2) ∧ q.length + 1 ≤ cap ∧ cap ≤ maxLen ∧
    (∀ o', (o' = o + 2 ∨ cap = 1 ∧ o' = o) → ownsAt w base e 2 (.slice (some ⟨g, o', none⟩) q.length (cap - 1)) q.length (qCells q)) := by
  obtain ⟨h1, ⟨e, -⟩ | ⟨g, o, cap', cur, e, h3, h4, h5, h6, h7, h8⟩⟩ := h
  · cases e
  · cases e
    have hl : 2 * (q.length + 1) ≤ cap * 2 := by omega
    have hcell : ∀ j, j < (q.length + 1) * 2 → w.cell? ⟨g, o + j, none⟩ = (qCells (p :: q))[j]? := fun j hj => by
      rw [← h8, cell_of_row _ _ _ _ _ _ h4, List.getElem?_take, if_pos hj, List.getElem?_drop]
      simp
    refine ⟨g, o, rfl, ?_, ?_, h5, h6, fun o' ho' => ⟨by rw [qCells_len], Or.inr ⟨g, o', cap - 1, cur, rfl, h3, h4, by omega, by unfold maxLen at *; omega, by omega, ?_⟩⟩⟩
    · have := hcell 0 (by omega); simpa [qCells] using this
    · have := hcell 1 (by omega); simpa [qCells] using this
    · rcases ho' with rfl | ⟨hc, rfl⟩
      · apply List.ext_getElem?
        intro i
        have e1 : (qCells q)[i]? = (qCells (p :: q))[i + 2]? := by simp [qCells]
        rw [e1, ← h8]
        simp only [List.getElem?_take, List.getElem?_drop]
        rw [show o + 2 + i = o + (i + 2) by omega]
        by_cases h9 : i < q.length * 2
        · rw [if_pos h9, if_pos (by omega)]
        · rw [if_neg h9, if_neg (by omega)]
      · have : q.length = 0 := by omega
        obtain rfl := List.eq_nil_of_length_eq_zero this
        simp [qCells]

theorem LedQ.cut {w : World} {base bl : Nat} {v v' : Value} {r q : List (Int × Int)} (h : LedQ w base bl v r) (z : Obj) (ho : ownsAt w base 137 2 v' q.length (qCells q)) : LedQ ((w.alloc z).setCell ⟨bl, 0, none⟩ v') base bl v' q := by
  refine ⟨one_setCell (box_later' h.box (bel1 _ _)), ?_, h.lt⟩
  exact (ho.alloc z).keep fun g hg => setCell_else (by have := (ho.lt g hg).1; have := h.lt; omega) _
theorem ArrF.below {w w' : World} {lo bl gh B : Nat} {v v' : Value} (h : ArrF w w' lo bl gh v v') (h1 : B ≤ bl) (h2 : B ≤ gh) (h3 : ∀ g, v.ownBlock = some g → B ≤ g) (h4 : B ≤ w.heap.size) : Below B w w' :=
  ⟨h.bel.os, h.bel.tape, h.bel.output, h.bel.size, fun b hb => h.blk b (by omega) (by omega) (by omega) fun e => by have := h3 b e.symm; omega⟩
/-- What comes of Heights. -/
def HeightsR (w : World) (code : List QI) (e : Ending) (w' : World) : Prop :=
  Below w.heap.size w w' ∧ (((heightsE code).2.1 = 0 ∧ ∃ g, e = .returned (.tuple #[.slice (some ⟨g, 0, none⟩) code.length code.length, FV (0, 0)]) ∧ w'.heap[g]? = some (hRow (heightsE code).1) ∧ w.heap.size ≤ g) ∨
    ((heightsE code).2.1 ≠ 0 ∧ e = .returned (.tuple #[.slice none 0 0, FV (heightsE code).2])))

set_option maxHeartbeats 4000000 in
theorem heights_any {P : Nat → Prop} (m : QM) (mv : Value) (w : World) (hc : IsCode P w mv m.code) (hs : SendsOk m.code) : Calls Tryz.prog 73 #[MV m mv] w fun e w' => HeightsR w m.code e w' := by
  obtain ⟨ad, cap, rfl, hcl, hcap, hcb, hrow⟩ := id hc
  unfold maxLen at hcap
  have hmi := make_ints m.code.length (by omega)
  have hcI : IsCode (fun b => b < w.heap.size) w (.slice ad m.code.length cap) m.code := by
    refine ⟨ad, cap, rfl, hcl, by unfold maxLen; omega, hcb, fun i x hx => ?_⟩
    obtain ⟨b, o, e1, -, e3⟩ := hrow i x hx
    exact ⟨b, o, e1, World.block_lt_of_cell? w _ e3.1, e3⟩
  clear hrow
  go_enter Tryz.func73, Tryz.ntmps73
  go_wp2
  generalize hW0 : ((w.alloc (Obj.cells #[Value.string m.name, Value.int IntKind.i64 m.args, Value.int IntKind.i64 m.temps, Value.int IntKind.i64 m.prim, Value.slice ad m.code.length cap] 43)).alloc (Obj.cells #[Value.int IntKind.i64 0, Value.int IntKind.i64 0] 45)) = W0 at *
  have hs0 : W0.heap.size = w.heap.size + 1 + 1 := by rw [← hW0]; simp
  have hbW : Below w.heap.size w W0 := by rw [← hW0]; exact bel2 _ _ _
  have mb : W0.heap[w.heap.size]? = some (.cells #[Value.string m.name, Value.int IntKind.i64 m.args, Value.int IntKind.i64 m.temps, Value.int IntKind.i64 m.prim, Value.slice ad m.code.length cap] 43 (0, 0)) := by rw [← hW0, (bel1 _ _).block _ (by simp)]; exact blk_new _ _ _ rfl
  have rb : W0.heap[w.heap.size + 1]? = some (.cells #[Value.int IntKind.i64 0, Value.int IntKind.i64 0] 45 (0, 0)) := by rw [← hW0]; exact blk_new _ _ _ (by simp)
  clear hW0
  go_loopg [16] m.code.length (fun g i wr => ∃ j : Nat, j + g = m.code.length ∧ i = .int .i64 j ∧ Below (w.heap.size + 2) W0 wr ∧ wr.heap.size = w.heap.size + 3 ∧ wr.heap[w.heap.size + 1 + 1]? = some (hRow (List.replicate j (-1) ++ List.replicate (m.code.length - j) 0)))
  case atStart => exact ⟨0, by omega, rfl, (bel1 _ _).mono (by omega), by simp [hs0], by simpa using blk_new W0 (hRow (List.replicate m.code.length 0)) _ hs0⟩
  case round =>
    obtain ⟨j, hg, rfl, hb, hz, hr⟩ := hrel
    by_cases hj : j < m.code.length
    · have hj1 : (j : Int) < (m.code.length : Int) := by omega
      have hj0 : (0 : Int) ≤ (j : Int) := by omega
      have hcell := hRow_cell hr (k := j) (by simp; omega)
      have hfree := hRow_free hr j
      have hset := hRow_set hr j (-1)
      rw [fill_set hj] at hset
      generalize (List.replicate j (-1 : Int) ++ List.replicate (m.code.length - j) 0).getD j 0 = u at hcell
      go_wp2
      go_roundg (gk - 1)
      case measure => omega
      case rel => exact ⟨j + 1, by omega, by go_num, hb.setCell (by show w.heap.size + 2 ≤ w.heap.size + 1 + 1; omega) _, by rw [size_setCell]; exact hz, hset⟩
    · obtain rfl : j = m.code.length := by omega
      have hr' : wr.heap[w.heap.size + 1 + 1]? = some (hRow (hStart m.code.length)) := by simpa [hStart] using hr
      clear hr
      have hmf' := hmf
      have hj1 : (m.code.length : Int) ≤ (m.code.length : Int) := by omega
      go_wp2_with fail
      have hq0 : LedQ (wr.alloc (Obj.cells #[Value.slice none 0 0] 135)) (w.heap.size + 4) (w.heap.size + 3) (.slice none 0 0) [] := ⟨blk_new _ _ _ hz, ⟨rfl, Or.inl ⟨rfl, rfl⟩⟩, by omega⟩
      refine (lead_any 0 0 (w.heap.size + 3) (w.heap.size + 4) _ [] _ hq0 (by simp [hz]) (by simp)).mono ?_
      rintro e w1 ⟨rfl, v1, hQ1, hF1⟩
      have hb1 : Below (w.heap.size + 2) W0 w1 := (hb.trans ((bel1 _ _).mono (by omega))).trans (hF1.bel.mono (by omega))
      have hr1 : w1.heap[w.heap.size + 1 + 1]? = some (hRow (hStart m.code.length)) := (hF1.blk (w.heap.size + 1 + 1) (by simp [hz]) (by omega) (by simp [Value.ownBlock])).trans (box_later' hr' (bel1 _ _))
      have hz1 : w.heap.size + 4 ≤ w1.heap.size := by have := hF1.bel.size; simp [hz] at this; omega
      clear hq0 hF1 hb hz hr' hj1 hg hj
      go_wp2_with fail
      go_loopg [] (2 * m.code.length + 1) (fun g wr => ∃ (v : Value) (h : List Int) (q : List (Int × Int)), g ≤ 2 * m.code.length + 1 ∧ hRun m.code g h q = heightsE m.code ∧ HInv m.code h q ∧ hLeft h q ≤ g ∧ LedQ wr (w.heap.size + 4) (w.heap.size + 3) v q ∧ wr.heap[w.heap.size + 1 + 1]? = some (hRow h) ∧ Below (w.heap.size + 2) W0 wr ∧ w.heap.size + 4 ≤ wr.heap.size)
      case atStart => exact ⟨v1, _, [(0, 0)], Nat.le_refl _, rfl, HInv.start _, Nat.le_of_eq (hLeft_start _), hQ1, hr1, hb1, hz1⟩
      case round =>
        obtain ⟨v, h, q, hgk, hR, hI, hL, hQ, hr, hb, hz⟩ := hrel
        clear hQ1 hr1 hb1 hz1
        have HR : Hid (hRun m.code gk h q = heightsE m.code) := hR
        clear hR
        obtain ⟨a, kq, rfl, hn1, hn2⟩ := hQ.own.form
        have lc := cell_of_one hQ.box
        have lf := free_of_one hQ.box
        have hcW : IsCode (fun b => b < w.heap.size) wr (.slice ad m.code.length cap) m.code := hcI.later goodI (hbW.trans (hb.mono (by omega)))
        have mb' : wr.heap[w.heap.size]? = _ := (hb.block _ (by omega)).trans mb
        have rb' : wr.heap[w.heap.size + 1]? = _ := (hb.block _ (by omega)).trans rb
        have hBw : Below w.heap.size w wr := hbW.trans (hb.mono (by omega))
        cases q with
        | nil =>
          have HE : Hid (heightsE m.code = (h, (0, 0))) := by show _ = _; rw [← HR.out]; cases gk <;> rfl
          have rc : ∀ q, wr.cell? ⟨w.heap.size + 1, q, none⟩ = (#[Value.int .i64 0, .int .i64 0] : Array Value)[q]? := fun q => by rw [cell_of_row _ _ _ _ _ _ rb']
          have rf : ∀ q, wr.frozen? ⟨w.heap.size + 1, q, none⟩ = false := fun q => by unfold World.frozen?; simp [rb']
          go_wp2
          refine bodyPost_ret (v := .tuple #[.slice (some ⟨w.heap.size + 1 + 1, 0, none⟩) m.code.length m.code.length, FV (0, 0)]) ?_ rfl ⟨?_, Or.inl ⟨by rw [HE.out], _, rfl, ?_, by omega⟩⟩
          · simp [results, Tryz.results73, go_sem, rc, rf]
          · exact ((hBw.setCell (by simp) _).setCell (by simp) _)
          · rw [setCell_else (by omega), setCell_else (by omega), HE.out]
            exact hr
        | cons p q =>
          obtain ⟨g', rfl⟩ : ∃ g', gk = g' + 1 := ⟨gk - 1, by simp [hLeft] at hL; omega⟩
          simp only [List.length_cons] at lc lf hn1
          obtain ⟨gq, oq, rfl, p1, p2, -, -, htl⟩ := hQ.own.head
          have hpos : (0 : Int) < ((q.length + 1 : Nat) : Int) := by omega
          have lcx := fun z => cell_later (bel1 wr z) lc
          have lfx := fun z => ((bel1 wr z).frozen (p := ⟨w.heap.size + 3, 0, none⟩) (blk_lt hQ.box)).trans lf
          have mcx : ∀ z, (wr.alloc z).cell? ⟨w.heap.size, 4, none⟩ = some (.slice ad m.code.length cap) := fun z => cell_later (bel1 wr z) (by rw [cell_of_row _ _ _ _ _ _ mb']; rfl)
          have hb1' : ∀ v', Below w.heap.size wr ((wr.alloc (Obj.cells #[Value.int IntKind.i64 p.1, Value.int IntKind.i64 p.2] 137)).setCell ⟨w.heap.size + 3, 0, none⟩ v') := fun v' => ((bel1 _ _).mono (by omega)).setCell (by show w.heap.size ≤ w.heap.size + 3; omega) _
          by_cases hk1 : kq = 1
          · subst hk1
            obtain rfl := List.eq_nil_of_length_eq_zero (l := q) (by omega)
            go_wp2_with fail
            have hQ1 : LedQ ((wr.alloc (Obj.cells #[Value.int IntKind.i64 p.1, Value.int IntKind.i64 p.2] 137)).setCell ⟨w.heap.size + 3, 0, none⟩ (Value.slice (some ⟨gq, oq, none⟩) 0 0)) (w.heap.size + 4) (w.heap.size + 3) (Value.slice (some ⟨gq, oq, none⟩) 0 0) [] := hQ.cut (q := []) _ (by simpa using htl oq (by simp))
            have hb1 : Below (w.heap.size + 2) W0 ((wr.alloc (Obj.cells #[Value.int IntKind.i64 p.1, Value.int IntKind.i64 p.2] 137)).setCell ⟨w.heap.size + 3, 0, none⟩ (Value.slice (some ⟨gq, oq, none⟩) 0 0)) := (hb.trans ((bel1 _ _).mono (by omega))).setCell (by show w.heap.size + 2 ≤ w.heap.size + 3; omega) _
            have hk1' : ∀ b, b < wr.heap.size → b ≠ w.heap.size + 3 → ((wr.alloc (Obj.cells #[Value.int IntKind.i64 p.1, Value.int IntKind.i64 p.2] 137)).setCell ⟨w.heap.size + 3, 0, none⟩ (Value.slice (some ⟨gq, oq, none⟩) 0 0)).heap[b]? = wr.heap[b]? := fun b hb hne => (setCell_else hne _).trans ((bel1 _ _).block b hb)
            have hs1 : wr.heap.size + 1 = ((wr.alloc (Obj.cells #[Value.int IntKind.i64 p.1, Value.int IntKind.i64 p.2] 137)).setCell ⟨w.heap.size + 3, 0, none⟩ (Value.slice (some ⟨gq, oq, none⟩) 0 0)).heap.size := by rw [size_setCell]; simp
            have hw1 : (Value.ownBlock (Value.slice (some ⟨gq, oq, none⟩) 0 0)) = some gq := rfl
            clear lc lf lcx lfx p1 p2 htl mcx
            replace hb1' := hb1' (Value.slice (some ⟨gq, oq, none⟩) 0 0)
            generalize ((wr.alloc (Obj.cells #[Value.int IntKind.i64 p.1, Value.int IntKind.i64 p.2] 137)).setCell ⟨w.heap.size + 3, 0, none⟩ (Value.slice (some ⟨gq, oq, none⟩) 0 0)) = w2 at *
            generalize (Value.slice (some ⟨gq, oq, none⟩) 0 0) = v2 at *
            have hr1 : w2.heap[w.heap.size + 1 + 1]? = some (hRow h) := (hk1' _ (by omega) (by omega)).trans hr
            have hcw : IsCode (fun b => b < w.heap.size) w2 (.slice ad m.code.length cap) m.code := hcI.later goodI (hbW.trans (hb1.mono (by omega)))
            have hgq := (hQ.own.lt gq rfl).1
            have hgq2 := (hQ.own.lt gq rfl).2
            refine (arrive_any m.code _ h p.1 p.2 [] w.heap.size (w.heap.size + 1 + 1) (w.heap.size + 3) (w.heap.size + 4) v2 w2 hcw hs hr1 hI.len (hI.wait p (by simp)) hQ1 (by simp [hLeft] at hL; omega) (by omega) (by omega) (by omega) (by omega) (by omega)).mono ?_
            intro e w3 hpost
            cases hst : hStep m.code h (p.1, p.2) with
            | inl f =>
              rw [hst] at hpost
              obtain ⟨rfl, hb3, hk3⟩ := hpost
              have hf := hStep_err hst
              have hf' : (f.1 != 0) = true := by simpa using hf
              have HE : Hid (heightsE m.code = ([], f)) := by show _ = _; rw [← HR.out]; unfold hRun; rw [hst]
              have rb3 : w3.heap[w.heap.size + 1]? = some (.cells #[Value.int IntKind.i64 0, Value.int IntKind.i64 0] 45 (0, 0)) := (hk3 _ (by omega) (by omega)).trans ((hk1' _ (by omega) (by omega)).trans rb')
              have hs3 := hb3.size
              have rc : ∀ z q, (w3.alloc z).cell? ⟨w.heap.size + 1, q, none⟩ = (#[Value.int .i64 0, .int .i64 0] : Array Value)[q]? := fun z q => by rw [cell_of_row _ _ _ _ _ _ (box_later' rb3 (bel1 w3 z))]
              have rf : ∀ z q, (w3.alloc z).frozen? ⟨w.heap.size + 1, q, none⟩ = false := fun z q => by unfold World.frozen?; simp [box_later' rb3 (bel1 w3 z)]
              have hne : ¬ w3.heap.size = w.heap.size + 1 := by omega
              have hne' : ¬ w.heap.size + 1 = w3.heap.size := by omega
              go_wp2
              go_region
              all_goals go_wp2
              all_goals refine bodyPost_ret (v := .tuple #[.slice none 0 0, FV f]) ?_ rfl ⟨?_, Or.inr ⟨by rw [HE.out]; exact hf, by rw [HE.out]⟩⟩
              all_goals first
                | (simp [results, Tryz.results73, go_sem, rc, rf, hne, hne']; done)
                | exact (((((hBw.trans (hb1'.mono (by omega))).trans hb3).alloc (by omega) _).setCell (by simp) _).setCell (by simp) _)
                | exact ((((((hBw.trans (hb1'.mono (by omega))).trans hb3).alloc (by omega) _).setCell (by simp) _).setCell (by simp) _)).drew
            | inr r =>
              obtain ⟨h', new⟩ := r
              rw [hst] at hpost
              obtain ⟨rfl, v3, hQ3, hr3, hA3⟩ := hpost
              obtain ⟨hI', hL'⟩ := hI.step hs hst
              have HE : Hid (hRun m.code g' h' ([] ++ new) = heightsE m.code) := by show _ = _; rw [← HR.out]; conv => rhs; unfold hRun; rw [hst]
              have hs3 := hA3.bel.size
              go_wp2
              go_roundg g'
              case measure => omega
              case rel =>
                refine ⟨v3, h', [] ++ new, by omega, HE.out, hI', by omega, hQ3.later (bel1 _ _), box_later' hr3 (bel1 _ _), ?_, by simp; omega⟩
                exact (hb1.trans (hA3.below (by omega) (by omega) (fun g hg => by rw [hw1] at hg; cases hg; omega) (by omega))).trans ((bel1 _ _).mono (by omega))
          · go_wp2_with fail
            have hQ1 : LedQ ((wr.alloc (Obj.cells #[Value.int IntKind.i64 p.1, Value.int IntKind.i64 p.2] 137)).setCell ⟨w.heap.size + 3, 0, none⟩ (Value.slice (some ⟨gq, oq + 2, none⟩) q.length (kq - 1))) (w.heap.size + 4) (w.heap.size + 3) (Value.slice (some ⟨gq, oq + 2, none⟩) q.length (kq - 1)) q := hQ.cut _ (htl (oq + 2) (by omega))
            have hb1 : Below (w.heap.size + 2) W0 ((wr.alloc (Obj.cells #[Value.int IntKind.i64 p.1, Value.int IntKind.i64 p.2] 137)).setCell ⟨w.heap.size + 3, 0, none⟩ (Value.slice (some ⟨gq, oq + 2, none⟩) q.length (kq - 1))) := (hb.trans ((bel1 _ _).mono (by omega))).setCell (by show w.heap.size + 2 ≤ w.heap.size + 3; omega) _
            have hk1' : ∀ b, b < wr.heap.size → b ≠ w.heap.size + 3 → ((wr.alloc (Obj.cells #[Value.int IntKind.i64 p.1, Value.int IntKind.i64 p.2] 137)).setCell ⟨w.heap.size + 3, 0, none⟩ (Value.slice (some ⟨gq, oq + 2, none⟩) q.length (kq - 1))).heap[b]? = wr.heap[b]? := fun b hb hne => (setCell_else hne _).trans ((bel1 _ _).block b hb)
            have hs1 : wr.heap.size + 1 = ((wr.alloc (Obj.cells #[Value.int IntKind.i64 p.1, Value.int IntKind.i64 p.2] 137)).setCell ⟨w.heap.size + 3, 0, none⟩ (Value.slice (some ⟨gq, oq + 2, none⟩) q.length (kq - 1))).heap.size := by rw [size_setCell]; simp
            have hw1 : (Value.ownBlock (Value.slice (some ⟨gq, oq + 2, none⟩) q.length (kq - 1))) = some gq := rfl
            clear lc lf lcx lfx p1 p2 htl mcx
            replace hb1' := hb1' (Value.slice (some ⟨gq, oq + 2, none⟩) q.length (kq - 1))
            generalize ((wr.alloc (Obj.cells #[Value.int IntKind.i64 p.1, Value.int IntKind.i64 p.2] 137)).setCell ⟨w.heap.size + 3, 0, none⟩ (Value.slice (some ⟨gq, oq + 2, none⟩) q.length (kq - 1))) = w2 at *
            generalize (Value.slice (some ⟨gq, oq + 2, none⟩) q.length (kq - 1)) = v2 at *
            have hr1 : w2.heap[w.heap.size + 1 + 1]? = some (hRow h) := (hk1' _ (by omega) (by omega)).trans hr
            have hcw : IsCode (fun b => b < w.heap.size) w2 (.slice ad m.code.length cap) m.code := hcI.later goodI (hbW.trans (hb1.mono (by omega)))
            have hgq := (hQ.own.lt gq rfl).1
            have hgq2 := (hQ.own.lt gq rfl).2
            refine (arrive_any m.code _ h p.1 p.2 q w.heap.size (w.heap.size + 1 + 1) (w.heap.size + 3) (w.heap.size + 4) v2 w2 hcw hs hr1 hI.len (hI.wait p (by simp)) hQ1 (by simp [hLeft] at hL; omega) (by omega) (by omega) (by omega) (by omega) (by omega)).mono ?_
            intro e w3 hpost
            cases hst : hStep m.code h (p.1, p.2) with
            | inl f =>
              rw [hst] at hpost
              obtain ⟨rfl, hb3, hk3⟩ := hpost
              have hf := hStep_err hst
              have hf' : (f.1 != 0) = true := by simpa using hf
              have HE : Hid (heightsE m.code = ([], f)) := by show _ = _; rw [← HR.out]; unfold hRun; rw [hst]
              have rb3 : w3.heap[w.heap.size + 1]? = some (.cells #[Value.int IntKind.i64 0, Value.int IntKind.i64 0] 45 (0, 0)) := (hk3 _ (by omega) (by omega)).trans ((hk1' _ (by omega) (by omega)).trans rb')
              have hs3 := hb3.size
              have rc : ∀ z q, (w3.alloc z).cell? ⟨w.heap.size + 1, q, none⟩ = (#[Value.int .i64 0, .int .i64 0] : Array Value)[q]? := fun z q => by rw [cell_of_row _ _ _ _ _ _ (box_later' rb3 (bel1 w3 z))]
              have rf : ∀ z q, (w3.alloc z).frozen? ⟨w.heap.size + 1, q, none⟩ = false := fun z q => by unfold World.frozen?; simp [box_later' rb3 (bel1 w3 z)]
              have hne : ¬ w3.heap.size = w.heap.size + 1 := by omega
              have hne' : ¬ w.heap.size + 1 = w3.heap.size := by omega
              go_wp2
              go_region
              all_goals go_wp2
              all_goals refine bodyPost_ret (v := .tuple #[.slice none 0 0, FV f]) ?_ rfl ⟨?_, Or.inr ⟨by rw [HE.out]; exact hf, by rw [HE.out]⟩⟩
              all_goals first
                | (simp [results, Tryz.results73, go_sem, rc, rf, hne, hne']; done)
                | exact (((((hBw.trans (hb1'.mono (by omega))).trans hb3).alloc (by omega) _).setCell (by simp) _).setCell (by simp) _)
                | exact ((((((hBw.trans (hb1'.mono (by omega))).trans hb3).alloc (by omega) _).setCell (by simp) _).setCell (by simp) _)).drew
            | inr r =>
              obtain ⟨h', new⟩ := r
              rw [hst] at hpost
              obtain ⟨rfl, v3, hQ3, hr3, hA3⟩ := hpost
              obtain ⟨hI', hL'⟩ := hI.step hs hst
              have HE : Hid (hRun m.code g' h' (q ++ new) = heightsE m.code) := by show _ = _; rw [← HR.out]; conv => rhs; unfold hRun; rw [hst]
              have hs3 := hA3.bel.size
              go_wp2
              go_roundg g'
              case measure => omega
              case rel =>
                refine ⟨v3, h', q ++ new, by omega, HE.out, hI', by omega, hQ3.later (bel1 _ _), box_later' hr3 (bel1 _ _), ?_, by simp; omega⟩
                exact (hb1.trans (hA3.below (by omega) (by omega) (fun g hg => by rw [hw1] at hg; cases hg; omega) (by omega))).trans ((bel1 _ _).mono (by omega))
end Go.Proofs.YtjmidhghiahbaaaGreatDoor
