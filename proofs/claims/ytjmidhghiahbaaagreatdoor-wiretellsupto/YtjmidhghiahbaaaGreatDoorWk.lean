/- Package wire: Parse. -/
import Derived.Test.YtjmidhghiahbaaaGreatDoorWj
namespace Go.Proofs.YtjmidhghiahbaaaGreatDoor
open Go.ChangeShapes Go.WideShapes Go.ChangeAt Go.RowKit
set_option linter.unusedSimpArgs false
set_option linter.unusedVariables false
set_option maxRecDepth 8000

/-- The slice v is the bytes l. -/
def BytesIn (w : World) (v : Value) (l : List UInt8) : Prop := ∃ ad cap, v = .slice ad l.length cap ∧ l.length ≤ cap ∧ cap ≤ maxLen ∧ (ad = none → cap = 0) ∧ l.length ≤ 140737488351232 ∧ RowB w.heap.size w ad l
theorem BytesIn.later {w w' : World} {v : Value} {l : List UInt8} (h : BytesIn w v l) (hb : Below w.heap.size w w') : BytesIn w' v l := by
  obtain ⟨ad, cap, h1, h2, h3, h4, h5, h6⟩ := h
  refine ⟨ad, cap, h1, h2, h3, h4, h5, fun i x hx => ?_⟩
  obtain ⟨b, o, e, hl, hc⟩ := h6 i x hx
  exact ⟨b, o, e, Nat.lt_of_lt_of_le hl hb.size, cell_later hb hc⟩
theorem TextAt.bytes {w0 w : World} {v : Value} {l : List UInt8} (h : TextAt w0 w v l) (hl : l.length ≤ 140737488351232) : BytesIn w v l := by
  obtain ⟨ad, cap, rfl, h1, h2⟩ := h
  rcases h2 with ⟨e, h0⟩ | ⟨g, c, cur, e, hg, hh, hn, hc, hs, ht⟩
  · have : l = [] := List.eq_nil_of_length_eq_zero h0
    subst this
    simp only [Value.slice.injEq] at e
    obtain ⟨rfl, -, rfl⟩ := e
    exact ⟨none, 0, rfl, by simp, by unfold maxLen; omega, fun _ => rfl, by simp, fun i x hx => by simp at hx⟩
  · simp only [Value.slice.injEq] at e
    obtain ⟨rfl, -, rfl⟩ := e
    refine ⟨_, cap, rfl, hn, hc, (fun e => by cases e), hl, fun i x hx => ⟨g, 0, rfl, blk_lt hh, ?_⟩⟩
    rw [Nat.zero_add, cell_of_row _ _ _ _ _ _ hh]
    have hi := lt_of_get hx
    have e2 := congrArg (fun z => z[i]?) ht
    simp only [List.getElem?_take] at e2
    rw [if_pos (by omega)] at e2
    rw [← Array.getElem?_toList, e2]
    unfold Lib.byteCells
    rw [List.getElem?_map, hx]
    rfl
theorem isRow_empty {α : Type} (E : Lay α) (sz bytes : Nat) (P : Nat → Prop) (w : World) : IsRow E sz bytes P w (.slice none 0 0) ([] : List α) := ⟨none, 0, rfl, by simp, by unfold maxLen; omega, by simp, fun i x hx => by simp at hx⟩
/-- What Parse leaves. -/
def PaPost (w : World) (Y : QW) (n : Int) (e : Ending) (w' : World) : Prop := ∃ cv hv, e = .returned (.tuple #[WV cv hv Y.epoch, .int .i64 n]) ∧ IsClasses (fun b => w.heap.size ≤ b) w' cv Y.classes ∧ IsHeap (fun b => w.heap.size ≤ b) w' hv Y.heap ∧ Below w.heap.size w w'
/-- What Parse's walk holds. -/
structure PaS (w : World) (w' : World) : Prop where
  res : w'.heap[w.heap.size]? = some (.cells #[.slice none 0 0, .slice none 0 0, .int .i64 0] 25 (0, 0))
  bel : Below w.heap.size w w'
theorem PaS.later {w w' w2 : World} (h : PaS w w') (hb : Below w'.heap.size w' w2) : PaS w w2 := ⟨(hb.block _ (blk_lt h.res)).trans h.res, nstep h.bel hb⟩
theorem PaS.z {w w' : World} (h : PaS w w') (k : Nat) : w'.cell? ⟨w.heap.size, k, none⟩ = #[.slice none 0 0, .slice none 0 0, .int .i64 0][k]? := cell_of_row _ _ _ _ _ _ h.res
set_option maxHeartbeats 2000000 in
theorem parse_any (l : List UInt8) (v : Value) (w : World) (hb : BytesIn w v l) (hV : Vars w) : Calls Tryz.prog 8 #[v] w (PaPost w (parseE l).1 (parseE l).2) := by
  obtain ⟨ad, cap, rfl, h2, h3, h4, h5, h6⟩ := hb
  have hbel := bel2 w (.cells #[.slice none 0 0, .slice none 0 0, .int .i64 0] 25) (.cells #[.slice ad l.length cap, .bool false] 64)
  have hS : RdS (w.heap.size + 1) ((w.alloc (.cells #[.slice none 0 0, .slice none 0 0, .int .i64 0] 25)).alloc (.cells #[.slice ad l.length cap, .bool false] 64)) (some l) := by
    refine ⟨⟨ad, cap, ?_, h2, h3, h4, h5, fun i x hx => ?_⟩, (hV.from.on hbel).mono (by omega)⟩
    · have := heap_alloc_new (w.alloc (.cells #[.slice none 0 0, .slice none 0 0, .int .i64 0] 25)) (.cells #[.slice ad l.length cap, .bool false] 64)
      simpa using this
    · obtain ⟨b, o, e, hl, hc⟩ := h6 i x hx
      exact ⟨b, o, e, by omega, cell_later hbel hc⟩
  have hP : PaS w ((w.alloc (.cells #[.slice none 0 0, .slice none 0 0, .int .i64 0] 25)).alloc (.cells #[.slice ad l.length cap, .bool false] 64)) := ⟨by rw [Below.heap_alloc _ _ _ (by simp)]; exact heap_alloc_new w _, hbel⟩
  have HPE : Hid (∀ X st', RdR takeWorld (some l) X st' → (st' = none → parseE l = (⟨[], [], 0⟩, 2)) ∧ (∀ r, st' = some r → r ≠ [] → parseE l = (⟨[], [], 0⟩, 2)) ∧ (st' = some [] → parseE l = if rightE X = 0 then (X, 0) else (⟨[], [], 0⟩, rightE X))) := fun X st' hR => by
    rcases hR.cases with ⟨l', r, e, hf, rfl⟩ | ⟨rfl, hf⟩
    · cases e
      unfold parseE
      rw [hf]
      refine ⟨(fun e => by cases e), fun r' e hne => ?_, fun e => ?_⟩
      · cases e
        cases r with
        | nil => exact absurd rfl hne
        | cons a r => rfl
      · cases e
        rfl
    · unfold parseE
      rw [hf l rfl]
      exact ⟨fun _ => rfl, (fun r e => by cases e), (fun e => by cases e)⟩
  generalize parseE l = R at *
  clear h6 hbel hV
  go_enter Tryz.func8, Tryz.ntmps8
  go_upto_region 2 with (fail)
  generalize ((w.alloc (.cells #[.slice none 0 0, .slice none 0 0, .int .i64 0] 25)).alloc (.cells #[.slice ad l.length cap, .bool false] 64)) = W0 at *
  have hsz := hS.lt
  go_wp2_with (go_at_call 23; refine (rworld_any hS).mono ?_; rintro e w1 ⟨X, cv, hv, st', rfl, hC, hH, hR, hS1, hK1⟩; refine Hid.out ?_)
  refine Lib.hid ?_
  obtain ⟨HA', HB', HC'⟩ := HPE.out X st' hR
  have HA := hid HA'
  have HB := hid HB'
  have HC := hid HC'
  clear HA' HB' HC'
  replace hP : PaS w w1 := ⟨(hK1.oth _ (by omega) (by omega)).trans hP.res, hP.bel.trans (hK1.bel.mono (by omega))⟩
  replace hC := hC.mono (Q := fun b => w.heap.size + 2 ≤ b) goodC fun b hb => by omega
  replace hH := hH.mono (Q := fun b => w.heap.size + 2 ≤ b) goodO fun b hb => by omega
  obtain ⟨ac, cc, rfl⟩ := hC.get
  obtain ⟨ah, ch, rfl⟩ := hH.get
  have hlb := bel1 w1 (.cells #[.slice ac X.classes.length cc, .slice ah X.heap.length ch, .int .i64 X.epoch] 25)
  have hbx := heap_alloc_new w1 (.cells #[.slice ac X.classes.length cc, .slice ah X.heap.length ch, .int .i64 X.epoch] 25)
  replace hP := hP.later hlb
  replace hC := hC.later goodC hlb
  replace hH := hH.later goodO hlb
  replace hS1 := hS1.later hlb
  clear hlb hS hK1 hR HPE
  go_upto_region 3 with (fail)
  generalize (w1.alloc (.cells #[.slice ac X.classes.length cc, .slice ah X.heap.length ch, .int .i64 X.epoch] 25)) = W1 at *
  generalize w1.heap.size = bx at *
  have z0 : W1.cell? ⟨w.heap.size, 0, none⟩ = some (.slice none 0 0) := hP.z 0
  have z1 : W1.cell? ⟨w.heap.size, 1, none⟩ = some (.slice none 0 0) := hP.z 1
  have z2 : W1.cell? ⟨w.heap.size, 2, none⟩ = some (.int .i64 0) := hP.z 2
  have zf := row_free hP.res
  have x0 : W1.cell? ⟨bx, 0, none⟩ = some (.slice ac X.classes.length cc) := by rw [cell_of_row _ _ _ _ _ _ hbx]; rfl
  have x1 : W1.cell? ⟨bx, 1, none⟩ = some (.slice ah X.heap.length ch) := by rw [cell_of_row _ _ _ _ _ _ hbx]; rfl
  have x2 : W1.cell? ⟨bx, 2, none⟩ = some (.int .i64 X.epoch) := by rw [cell_of_row _ _ _ _ _ _ hbx]; rfl
  have HE : Hid (∀ w2, Below W1.heap.size W1 w2 → ∀ n, R = (⟨[], [], 0⟩, n) → PaPost w R.1 R.2 (.returned (.tuple #[WV (.slice none 0 0) (.slice none 0 0) 0, .int .i64 n])) (w2.setCells w.heap.size 0 [.slice none 0 0, .slice none 0 0, .int .i64 0])) := fun w2 hb n hR => by
    rw [hR]
    exact ⟨_, _, rfl, isRow_empty _ _ _ _ _, isRow_empty _ _ _ _ _, ⟨(hP.later hb).bel.os, (hP.later hb).bel.tape, (hP.later hb).bel.output, by rw [setCells_size]; exact (hP.later hb).bel.size, fun b hl => (setCells_else (by omega) _ _ _).trans ((hP.later hb).bel.block b hl)⟩⟩
  cases st' with
  | none =>
    have hb1 : W1.heap[w.heap.size + 1]? = some (.cells #[.slice none 0 0, .bool true] 64 (0, 0)) := hS1.at_
    have c1 : W1.cell? ⟨w.heap.size + 1, 1, none⟩ = some (.bool true) := by rw [cell_of_row _ _ _ _ _ _ hb1]; rfl
    have HF := hid (HE.out W1 (Below.refl _ _) 2 (HA.out rfl))
    clear hC hH HE hbx x0 x1 x2
    go_wp2
    refine bodyPost_ret (v := .tuple #[WV (.slice none 0 0) (.slice none 0 0) 0, .int .i64 2]) ?_ rfl HF.out
    simp [results, Tryz.results8, go_sem, z0, z1, z2]
  | some r =>
    obtain ⟨a2, c2, hb1, -⟩ := hS1.at_
    have c0 : W1.cell? ⟨w.heap.size + 1, 0, none⟩ = some (.slice a2 r.length c2) := by rw [cell_of_row _ _ _ _ _ _ hb1]; rfl
    have c1 : W1.cell? ⟨w.heap.size + 1, 1, none⟩ = some (.bool false) := by rw [cell_of_row _ _ _ _ _ _ hb1]; rfl
    by_cases hr : r = []
    · subst hr
      replace HC := hid (HC.out rfl)
      have c0' : W1.cell? ⟨w.heap.size + 1, 0, none⟩ = some (.slice a2 0 c2) := c0
      clear c0
      by_cases hre : rightE X = 0
      · have hW : Calls Tryz.prog 4 #[WV (.slice ac X.classes.length cc) (.slice ah X.heap.length ch) X.epoch] W1 fun e w' => e = .returned (.int .i64 0) ∧ Below W1.heap.size W1 w' := by have := wright_any X _ _ W1 hC hH; rw [hre] at this; exact this
        have HF : Hid (∀ w2, Below W1.heap.size W1 w2 → PaPost w R.1 R.2 (.returned (.tuple #[WV (.slice ac X.classes.length cc) (.slice ah X.heap.length ch) X.epoch, .int .i64 0])) (w2.setCells w.heap.size 0 [.slice ac X.classes.length cc, .slice ah X.heap.length ch, .int .i64 X.epoch])) := fun w2 hb => by
          rw [HC.out, if_pos hre]
          have k : Keeps (fun b => w.heap.size + 2 ≤ b) w2 (w2.setCells w.heap.size 0 [.slice ac X.classes.length cc, .slice ah X.heap.length ch, .int .i64 X.epoch]) := Keeps.of_block fun b hb hl => setCells_else (by omega) _ _ _
          exact ⟨_, _, rfl, (hC.later goodC hb).keep goodC k fun b hb => by omega, (hH.later goodO hb).keep goodO k fun b hb => by omega, ⟨(hP.later hb).bel.os, (hP.later hb).bel.tape, (hP.later hb).bel.output, by rw [setCells_size]; exact (hP.later hb).bel.size, fun b hl => (setCells_else (by omega) _ _ _).trans ((hP.later hb).bel.block b hl)⟩⟩
        have HP2 := hid (fun w2 hb => hP.later (w2 := w2) hb)
        clear hC hH HE hre HC
        go_wp2_with (go_at_call 4; refine hW.mono ?_; rintro e w2 ⟨rfl, hb2⟩; refine Hid.out ?_)
        refine Lib.hid ?_
        replace z0 := cell_later hb2 z0
        replace z1 := cell_later hb2 z1
        replace z2 := cell_later hb2 z2
        replace x0 := cell_later hb2 x0
        replace x1 := cell_later hb2 x1
        replace x2 := cell_later hb2 x2
        clear zf
        have zf := row_free (HP2.out w2 hb2).res
        replace HF := hid (HF.out w2 hb2)
        clear c0' c1 hW hb2
        go_wp2
        refine bodyPost_ret (v := .tuple #[WV (.slice ac X.classes.length cc) (.slice ah X.heap.length ch) X.epoch, .int .i64 0]) ?_ rfl HF.out
        simp [results, Tryz.results8, go_sem, z0, z1, z2]
      · obtain ⟨n, hn⟩ : ∃ n, n = rightE X := ⟨_, rfl⟩
        have hW : Calls Tryz.prog 4 #[WV (.slice ac X.classes.length cc) (.slice ah X.heap.length ch) X.epoch] W1 fun e w' => e = .returned (.int .i64 n) ∧ Below W1.heap.size W1 w' := by have := wright_any X _ _ W1 hC hH; rw [← hn] at this; exact this
        have hnn : (n != 0) = true := by rw [hn]; simpa using hre
        have HF : Hid (∀ w2, Below W1.heap.size W1 w2 → PaPost w R.1 R.2 (.returned (.tuple #[WV (.slice none 0 0) (.slice none 0 0) 0, .int .i64 n])) (w2.setCells w.heap.size 0 [.slice none 0 0, .slice none 0 0, .int .i64 0])) := fun w2 hb => HE.out w2 hb n (by rw [HC.out, if_neg hre, hn])
        have HP2 := hid (fun w2 hb => hP.later (w2 := w2) hb)
        clear hC hH HE hre HC hn
        go_wp2_with (go_at_call 4; refine hW.mono ?_; rintro e w2 ⟨rfl, hb2⟩; refine Hid.out ?_)
        refine Lib.hid ?_
        replace z0 := cell_later hb2 z0
        replace z1 := cell_later hb2 z1
        replace z2 := cell_later hb2 z2
        clear zf
        have zf := row_free (HP2.out w2 hb2).res
        replace HF := hid (HF.out w2 hb2)
        clear c0' c1 hW hb2 x0 x1 x2
        go_wp2
        refine bodyPost_ret (v := .tuple #[WV (.slice none 0 0) (.slice none 0 0) 0, .int .i64 n]) ?_ rfl HF.out
        simp [results, Tryz.results8, go_sem, z0, z1, z2]
    · have hrl : (0 : Int) < (r.length : Int) := by have := List.length_pos_iff.2 hr; omega
      have HF := hid (HE.out W1 (Below.refl _ _) 2 (HB.out r rfl hr))
      clear hC hH HE hbx x0 x1 x2 hr
      go_wp2
      refine bodyPost_ret (v := .tuple #[WV (.slice none 0 0) (.slice none 0 0) 0, .int .i64 2]) ?_ rfl HF.out
      simp [results, Tryz.results8, go_sem, z0, z1, z2]
end Go.Proofs.YtjmidhghiahbaaaGreatDoor
