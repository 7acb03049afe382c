/- The reference's Make. -/
import Derived.Test.YthaefhojnjdheaaGa
namespace Go.Proofs.Ythaefhojnjdheaa
open Go.ChangeShapes Go.WideShapes Go.ChangeAt Go.RowKit
set_option linter.unusedSimpArgs false
set_option linter.unusedVariables false
set_option maxRecDepth 8000

/-- What comes of Make in the reference: as in package class. -/
def MakeR (P : Nat → Prop) (w : World) (X : QW) (name : ByteArray) (super slots : Int) (hv : Value) (e : Ending) (w' : World) : Prop :=
  (wrongE X.classes name super slots ≠ 0 ∧ e = .returned (.tuple #[WV (.slice none 0 0) (.slice none 0 0) 0, .int .i64 0, .int .i64 (wrongE X.classes name super slots)]) ∨
    wrongE X.classes name super slots = 0 ∧ ∃ cv', e = .returned (.tuple #[WV cv' hv X.epoch, .int .i64 X.classes.length, .int .i64 0]) ∧ IsClasses (fun b => P b ∨ w.heap.size ≤ b) w' cv' (madeX X name super slots).classes) ∧ Below w.heap.size w w'

set_option maxHeartbeats 4000000 in
theorem rmake_any {P : Nat → Prop} (X : QW) (name : ByteArray) (super slots : Int) (cv hv : Value) (w : World) (hn : name.size ≤ 140737488351232) (hh : IsClasses P w cv X.classes) (hH : IsHeap P w hv X.heap) (ho : SlotsOk X.classes) : Calls Try.prog 32 #[WV cv hv X.epoch, .string name, .int .i64 super, .int .i64 slots] w fun e w' => MakeR P w X name super slots hv e w' := by
  obtain ⟨ad, cap, rfl, hl, hcap, hby, hrow⟩ := id hh
  obtain ⟨ah, ch, rfl, -, -, -, -⟩ := id hH
  unfold maxLen at hcap
  go_enter Try.func32, Try.ntmps32
  go_wp2_with fail
  refine (rname_any name _ hn).mono ?_
  rintro e w1 ⟨rfl, hb⟩
  have hB := nstep (bel2 _ _ _) hb
  have a0 : w1.cell? ⟨w.heap.size, 0, none⟩ = some (Value.slice ad X.classes.length cap) := cell_later hb (cell_later (bel1 _ _) (by rw [cell_new _ _ _ _ rfl]; rfl))
  have a1 : w1.cell? ⟨w.heap.size, 1, none⟩ = some (Value.slice ah X.heap.length ch) := cell_later hb (cell_later (bel1 _ _) (by rw [cell_new _ _ _ _ rfl]; rfl))
  have a2 : w1.cell? ⟨w.heap.size, 2, none⟩ = some (Value.int IntKind.i64 X.epoch) := cell_later hb (cell_later (bel1 _ _) (by rw [cell_new _ _ _ _ rfl]; rfl))
  have r : w1.heap[w.heap.size + 1]? = some (.cells #[Value.slice none 0 0, Value.slice none 0 0, Value.int IntKind.i64 0] 25 (0, 0)) := by rw [hb.block _ (by simp)]; exact blk_new _ _ _ (by simp)
  have RC : Hid (∀ W : World, Below w1.heap.size w1 W → (∀ o, W.cell? ⟨w.heap.size + 1, o, none⟩ = (#[Value.slice none 0 0, Value.slice none 0 0, Value.int IntKind.i64 0] : Array Value)[o]?) ∧ (∀ o, W.frozen? ⟨w.heap.size + 1, o, none⟩ = false)) := fun W hW => by
    have hr : W.heap[w.heap.size + 1]? = some (.cells #[Value.slice none 0 0, Value.slice none 0 0, Value.int IntKind.i64 0] 25 (0, 0)) := by rw [hW.block _ (blk_lt r)]; exact r
    exact ⟨fun o => by rw [cell_of_row _ _ _ _ _ _ hr], fun o => by unfold World.frozen?; simp [hr]⟩
  have RB : Hid (∀ W : World, Below w1.heap.size w1 W → (∀ o, W.cell? ⟨w.heap.size, o, none⟩ = (#[Value.slice ad X.classes.length cap, Value.slice ah X.heap.length ch, Value.int IntKind.i64 X.epoch] : Array Value)[o]?) ∧ (∀ o, W.frozen? ⟨w.heap.size, o, none⟩ = false)) := fun W hW => by
    have r1 : w1.heap[w.heap.size]? = some (.cells #[Value.slice ad X.classes.length cap, Value.slice ah X.heap.length ch, Value.int IntKind.i64 X.epoch] 25 (0, 0)) := by rw [hb.block _ (by simp; omega), (bel1 _ _).block _ (by simp)]; exact blk_new _ _ _ rfl
    have hr : W.heap[w.heap.size]? = some (.cells #[Value.slice ad X.classes.length cap, Value.slice ah X.heap.length ch, Value.int IntKind.i64 X.epoch] 25 (0, 0)) := by rw [hW.block _ (blk_lt r1)]; exact r1
    exact ⟨fun o => by rw [cell_of_row _ _ _ _ _ _ hr], fun o => by unfold World.frozen?; simp [hr]⟩
  cases hnb : nameB name
  · have HE : Hid (wrongE X.classes name super slots = 7) := by show _ = _; unfold wrongE; rw [if_pos (Or.inl hnb)]
    obtain ⟨q0, qf⟩ := RC.out _ (Below.refl _ _)
    go_wp2
    refine bodyPost_ret (v := .tuple #[WV (.slice none 0 0) (.slice none 0 0) 0, .int .i64 0, .int .i64 7]) ?_ rfl ⟨Or.inl ⟨by rw [HE.out]; decide, by rw [HE.out]⟩, ?_⟩
    · simp [results, Try.results32, go_sem, q0, qf]
    · exact ((hB.setCell (by simp) _).setCell (by simp) _).setCell (by simp) _
  · go_wp2
    go_loopg [21] X.classes.length (fun g i wr => ∃ j : Nat, j + g = X.classes.length ∧ i = .int .i64 j ∧ Below w1.heap.size w1 wr ∧ (∀ i x, i < j → X.classes[i]? = some x → eqN x.name name = false))
    case atStart => exact ⟨0, by omega, rfl, Below.refl _ _, fun i x h => by omega⟩
    case round =>
      obtain ⟨j, hg, rfl, hbr, hD⟩ := hrel
      have HD : Hid (∀ i x, i < j → X.classes[i]? = some x → eqN x.name name = false) := hD
      clear hD
      have hBr := nstep hB hbr
      by_cases hj : j < X.classes.length
      · obtain ⟨x, hx⟩ : ∃ x, X.classes[j]? = some x := ⟨_, List.getElem?_eq_getElem hj⟩
        obtain ⟨b, o, rfl, -, v0, v1, v2, -, mv, v3, hM⟩ := hrow j x hx
        obtain ⟨ad2, cap2, rfl, -⟩ := id hM
        have HX : Hid (X.classes[j]? = some x) := hx
        have hj1 : (j : Int) < (X.classes.length : Int) := by omega
        have hj0 : (0 : Int) ≤ (j : Int) := by omega
        clear hx
        simp only [Nat.add_zero] at v0
        replace v0 := cell_later hBr v0
        replace v1 := cell_later hBr v1
        replace v2 := cell_later hBr v2
        replace v3 := cell_later hBr v3
        have hB2 := bel1 wr (Obj.cells #[Value.string x.name, Value.int IntKind.i64 x.super, Value.int IntKind.i64 x.slots, Value.slice ad2 x.methods.length cap2] 46)
        cases he : eqN x.name name
        · have he' : (x.name.toList == name.toList) = false := he
          go_wp2
          go_roundg (gk - 1)
          case measure => omega
          case rel =>
            refine ⟨j + 1, by omega, by go_num, nstep hbr hB2, fun i y h hy => ?_⟩
            by_cases hij : i = j
            · subst hij
              rw [HX.out] at hy
              cases hy
              exact he
            · exact HD.out i y (by omega) hy
        · have he' : (x.name.toList == name.toList) = true := he
          have HE : Hid (wrongE X.classes name super slots = 7) := by
            show _ = _
            unfold wrongE
            rw [if_pos (Or.inr _)]
            unfold takenB
            rw [findI_at HX.out he HD.out]
            simp
          obtain ⟨q0, qf⟩ := RC.out _ (nstep hbr hB2)
          go_wp2
          refine bodyPost_ret (v := .tuple #[WV (.slice none 0 0) (.slice none 0 0) 0, .int .i64 0, .int .i64 7]) ?_ rfl ⟨Or.inl ⟨by rw [HE.out]; decide, by rw [HE.out]⟩, ?_⟩
          · simp [results, Try.results32, go_sem, q0, qf]
          · exact (((nstep hBr hB2).setCell (by simp) _).setCell (by simp) _).setCell (by simp) _
      · obtain rfl : j = X.classes.length := by omega
        have htk : takenB X.classes name = false := by
          unfold takenB
          rw [findI_none fun i y hy => HD.out i y (lt_of_get hy) hy]
          rfl
        have t1 : ¬ (nameB name = false ∨ takenB X.classes name = true) := by rw [hnb, htk]; simp
        obtain ⟨q0, qf⟩ := RC.out _ hbr
        have a0' := cell_later hbr a0
        have a1' := cell_later hbr a1
        have a2' := cell_later hbr a2
        cases hhas : hasB X.classes.length super
        · have HE : Hid (wrongE X.classes name super slots = 6) := by show _ = _; unfold wrongE; rw [if_neg t1, if_pos hhas]
          have HEND : Hid (∀ W : World, Below w.heap.size w W → MakeR P w X name super slots (.slice ah X.heap.length ch) (.returned (.tuple #[WV (.slice none 0 0) (.slice none 0 0) 0, .int .i64 0, .int .i64 6])) W) := fun W h => ⟨Or.inl ⟨by rw [HE.out]; decide, by rw [HE.out]⟩, h⟩
          by_cases h0 : super < 0
          · go_wp2
            refine bodyPost_ret (v := .tuple #[WV (.slice none 0 0) (.slice none 0 0) 0, .int .i64 0, .int .i64 6]) ?_ rfl (HEND.out _ (below_set3 hBr (by omega) _ _ _))
            simp [results, Try.results32, go_sem, q0, qf]
          · have h0' : decide (super < 0) = false := by simpa using h0
            have h1 : (X.classes.length : Int) ≤ super := by simp [hasB] at hhas; omega
            go_wp2
            refine bodyPost_ret (v := .tuple #[WV (.slice none 0 0) (.slice none 0 0) 0, .int .i64 0, .int .i64 6]) ?_ rfl (HEND.out _ (below_set3 hBr (by omega) _ _ _))
            simp [results, Try.results32, go_sem, q0, qf]
        · have HE : Hid (wrongE X.classes name super slots = if slots < 0 ∨ 6 - slotsE X.classes super < slots ∨ plainB super = true then 3 else if 12 ≤ X.classes.length then 5 else 0) := by show _ = _; unfold wrongE; rw [if_neg t1, if_neg (by rw [hhas]; simp)]
          have h0 : (0 : Int) ≤ super := by simp [hasB] at hhas; omega
          have h1 : super < (X.classes.length : Int) := by simp [hasB] at hhas; omega
          have hsl : 0 ≤ slotsE X.classes super := (slotsE_le ho (X.classes.length + 1) super 0 (by omega)).1
          have hsl6 : slotsE X.classes super ≤ 0 + 6 * ((X.classes.length + 1 : Nat) : Int) := (slotsE_le ho (X.classes.length + 1) super 0 (by omega)).2
          have HEND : Hid (wrongE X.classes name super slots = 3 → ∀ W : World, Below w.heap.size w W → MakeR P w X name super slots (.slice ah X.heap.length ch) (.returned (.tuple #[WV (.slice none 0 0) (.slice none 0 0) 0, .int .i64 0, .int .i64 3])) W) := fun he W h => ⟨Or.inl ⟨by rw [he]; decide, by rw [he]⟩, h⟩
          by_cases s0 : slots < 0
          · go_wp2
            refine bodyPost_ret (v := .tuple #[WV (.slice none 0 0) (.slice none 0 0) 0, .int .i64 0, .int .i64 3]) ?_ rfl (HEND.out (by rw [HE.out, if_pos (Or.inl s0)]) _ (below_set3 hBr (by omega) _ _ _))
            simp [results, Try.results32, go_sem, q0, qf]
          · have s0' : (0 : Int) ≤ slots := by omega
            by_cases s6 : 6 < slots
            · go_wp2
              refine bodyPost_ret (v := .tuple #[WV (.slice none 0 0) (.slice none 0 0) 0, .int .i64 0, .int .i64 3]) ?_ rfl (HEND.out (by rw [HE.out, if_pos (Or.inr (Or.inl (by omega)))]) _ (below_set3 hBr (by omega) _ _ _))
              simp [results, Try.results32, go_sem, q0, qf]
            · have s6' : slots ≤ 6 := by omega
              go_wp2_with fail
              refine (rslots_any X super _ _ _ (hh.later goodC hBr) (hH.later goodO hBr) ho).mono ?_
              rintro e w4 ⟨rfl, hb4⟩
              have hb4' := nstep hbr hb4
              replace a0' := cell_later hb4 a0'
              replace a1' := cell_later hb4 a1'
              replace a2' := cell_later hb4 a2'
              replace hBr := nstep hBr hb4
              clear q0 qf
              obtain ⟨q0, qf⟩ := RC.out _ hb4'
              clear hb4 hbr
              have hwr : IntKind.i64.wrap (slots + slotsE X.classes super) = slots + slotsE X.classes super := by rw [IntKind.wrap_i64]; omega
              by_cases s1 : 6 < slots + slotsE X.classes super
              · go_wp2
                refine bodyPost_ret (v := .tuple #[WV (.slice none 0 0) (.slice none 0 0) 0, .int .i64 0, .int .i64 3]) ?_ rfl (HEND.out (by rw [HE.out, if_pos (Or.inr (Or.inl (by omega)))]) _ (below_set3 hBr (by omega) _ _ _))
                simp [results, Try.results32, go_sem, q0, qf]
              · have s1' : slots + slotsE X.classes super ≤ 6 := by omega
                have s1d : decide (6 < slots + slotsE X.classes super) = false := by simpa using s1
                cases hpl : plainB super
                · have hpl' : ¬ (0 < super ∧ super < 4) := by simp [plainB] at hpl; omega
                  have hE2 : Hid (wrongE X.classes name super slots = if 12 ≤ X.classes.length then 5 else 0) := by
                    show _ = _
                    rw [HE.out, if_neg]
                    rintro (h | h | h)
                    · omega
                    · omega
                    · rw [hpl] at h; cases h
                  have pd : decide (0 < super) = false ∨ decide (0 < super) = true ∧ decide (super < 4) = false := by
                    by_cases h : 0 < super
                    · right; exact ⟨by simpa using h, by simp; omega⟩
                    · left; simpa using h
                  by_cases s2 : 12 ≤ X.classes.length
                  · have s2' : (12 : Int) ≤ (X.classes.length : Int) := by omega
                    have HEND5 : Hid (∀ W : World, Below w.heap.size w W → MakeR P w X name super slots (.slice ah X.heap.length ch) (.returned (.tuple #[WV (.slice none 0 0) (.slice none 0 0) 0, .int .i64 0, .int .i64 5])) W) := fun W h => ⟨Or.inl ⟨by rw [hE2.out, if_pos s2]; decide, by rw [hE2.out, if_pos s2]⟩, h⟩
                    rcases pd with pd | ⟨pd, pd'⟩
                    all_goals
                      go_wp2
                      refine bodyPost_ret (v := .tuple #[WV (.slice none 0 0) (.slice none 0 0) 0, .int .i64 0, .int .i64 5]) ?_ rfl (HEND5.out _ (below_set3 hBr (by omega) _ _ _))
                      simp [results, Try.results32, go_sem, q0, qf]
                  · have s2' : (X.classes.length : Int) < 12 := by omega
                    have HE0 : Hid (wrongE X.classes name super slots = 0) := by show _ = _; rw [hE2.out, if_neg s2]
                    obtain ⟨cs, hcs, hsrc⟩ := RowAt.cells hrow goodC
                    have HSRC : Hid (∀ j u, cs[j]? = some u → ∃ a, ad = some a ∧ w.cell? (a.add j) = some u) := hsrc
                    obtain ⟨i0, hi, hz0, hz1, hz2⟩ := info_parts info46
                    have a0x := fun x => cell_later (bel1 w4 x) a0'
                    have hz4 : w.heap.size + 1 < w4.heap.size := Nat.lt_of_lt_of_le (blk_lt r) hb4'.size
                    clear hsrc
                    rcases pd with pd | ⟨pd, pd'⟩
                    all_goals
                      go_wp2_with (first
                        | (at_builtin; refine wpList_append_src rfl (.tmp 72) (.tmp 74) 22 46 zC 4 56 rfl Try.underlying22 info46 rfl (by decide) (by decide) w4.heap.size rfl (blk_new _ _ _ rfl) ad X.classes.length cap rfl cs hcs.1 (fun j u hu => by obtain ⟨a, e, h⟩ := HSRC.out j u hu; exact ⟨a, e, cell_later (nstep hBr (bel1 _ _)) h⟩) hby ?_; intro gA capA wA hownA hgA hgAl hbA)
                        | (at_builtin; refine wpList_append_lies _ rfl (.tmp 75) (.tmp 80) 22 rfl w4.heap.size 46 i0 _ 4 56 Try.underlying22 hi hz0 hz1 hz2 rfl (by decide) _ X.classes.length cs rfl (hownA.alloc _) ⟨_, 0, none⟩ 1 1 [.string name, .int .i64 super, .int .i64 slots, .slice none 0 0] rfl rfl (fun j u hu => (by rw [Addr.add_lit, Nat.zero_add]; exact (cell_new wA _ 46 _ rfl j).trans (by simpa using hu))) (by intro u hu; simp at hu; rcases hu with rfl | rfl | rfl | rfl <;> rfl) (by omega) (by unfold maxLen; omega) (by omega) (by have := hbA.size; simp at this; simp; omega) _ rfl ?_; intro gg cap2 w2 hown2 hgr hor hlt2; have hbAs := hbA.size; have hb2 := grown_below hownA (by simp at hbAs; omega) hgr; have hW2 : Below w4.heap.size w4 w2 := (nstep (bel1 _ _) hbA).trans hb2; have hR2 := RC.out _ (nstep hb4' hW2); have hB2 := RB.out _ (nstep hb4' hW2); have q0 := hR2.1; have qf := hR2.2; have c0 := hB2.1; have cf := hB2.2; clear hR2 hB2))
                      have hF : Below w.heap.size w ((((w2.setCell ⟨w.heap.size, 0, none⟩ (.slice (some ⟨gg, 0, none⟩) (X.classes.length + 1) cap2)).setCell ⟨w.heap.size + 1, 0, none⟩ (.slice (some ⟨gg, 0, none⟩) (X.classes.length + 1) cap2)).setCell ⟨w.heap.size + 1, 1, none⟩ (.slice ah X.heap.length ch)).setCell ⟨w.heap.size + 1, 2, none⟩ (.int .i64 X.epoch)) := below_set3 ((nstep hBr hW2).setCell (Nat.le_refl _) _) (by omega) _ _ _
                      refine bodyPost_ret (v := .tuple #[WV (.slice (some ⟨gg, 0, none⟩) (X.classes.length + 1) cap2) (.slice ah X.heap.length ch) X.epoch, .int .i64 X.classes.length, .int .i64 0]) ?_ rfl ⟨Or.inr ⟨HE0.out, _, rfl, ?_⟩, hF⟩
                      · simp [results, Try.results32, go_sem, q0, qf, c0, cf]
                      · obtain ⟨-, ⟨e, h0⟩ | ⟨g, c, cur, e, h1, h2, h3, h4, h5, h6⟩⟩ := hown2
                        · cases h0
                        · cases e
                          have hlen : (madeX X name super slots).classes.length = X.classes.length + 1 := by simp [madeX]
                          have hR := Cells.row (bytes := 56) (cap := cap2) (g := gg) ((hcs.keep goodC (.of_below hF) (Q := fun b => P b ∨ w.heap.size ≤ b) fun _ h => Or.inl h).append goodC (one_class (P := fun b => P b ∨ w.heap.size ≤ b) ⟨name, super, slots, []⟩ _ hn row_none)) goodC (Or.inr (by omega)) (by rw [setCell_else (by omega), setCell_else (by omega), setCell_else (by omega), setCell_else (by omega)]; exact h2) (by simpa using h6) (by simpa using h3) h4 (by simp; omega)
                          rw [List.length_append] at hR
                          exact hR
                · have p1 : 0 < super := by simp [plainB] at hpl; omega
                  have p2 : super < 4 := by simp [plainB] at hpl; omega
                  go_wp2
                  refine bodyPost_ret (v := .tuple #[WV (.slice none 0 0) (.slice none 0 0) 0, .int .i64 0, .int .i64 3]) ?_ rfl (HEND.out (by rw [HE.out, if_pos (Or.inr (Or.inr hpl))]) _ (below_set3 hBr (by omega) _ _ _))
                  simp [results, Try.results32, go_sem, q0, qf]
end Go.Proofs.Ythaefhojnjdheaa
