/- The document's own text of a world (package qcref1: Text), of a right world. -/
import Derived.Test.YtjmidhghiahbaaaGreatDoorWl
namespace Go.Proofs.YtjmidhghiahbaaaGreatDoor
open Go.ChangeShapes Go.WideShapes Go.ChangeAt Go.RowKit
set_option linter.unusedSimpArgs false
set_option linter.unusedVariables false
set_option maxRecDepth 8000

theorem str4 (a : List UInt8) (s : ByteArray) : Value.string (ByteArray.mk a.toArray ++ s ++ ByteArray.mk #[32]) = SV (a ++ wordW s) := by
  have := str3 a s.data.toList
  rw [show ByteArray.mk s.data.toList.toArray = s by simp] at this
  exact this
theorem numsW_len (ks : List Int) (hk : ∀ k ∈ ks, I64 k) : (numsW ks).length ≤ ks.length * 22 := manyW_len (enc := numW) (k := 22) fun x hx => numW_len (hk x hx)
/-- What Text's walk holds: the text, what is kept, the world's box. -/
structure TxB (w : World) (X : QW) (cv hv : Value) (l : List UInt8) (w' : World) : Prop where
  S : TxS (w.heap.size + 1) w' l
  bel : Below w.heap.size w w'
  box : w'.heap[w.heap.size]? = some (.cells #[cv, hv, .int .i64 X.epoch] 25 (0, 0))
section
variable {w : World} {X : QW} {cv hv : Value} {l l2 : List UInt8} {w' w2 : World}
theorem TxB.step (h : TxB w X cv hv l w') (hs : TxS (w.heap.size + 1) w2 l2) (hk : RdK (w.heap.size + 1) w' w2) : TxB w X cv hv l2 w2 := ⟨hs, h.bel.trans (hk.bel.mono (by omega)), (hk.oth _ (blk_lt h.box) (by omega)).trans h.box⟩
theorem TxB.later (h : TxB w X cv hv l w') (hb : Below w'.heap.size w' w2) : TxB w X cv hv l w2 := h.step (h.S.later hb) (.of_below (Nat.le_of_lt h.S.lt) hb)
theorem TxB.set (h : TxB w X cv hv l w') (l2 : List UInt8) : TxB w X cv hv l2 (w'.setCell ⟨w.heap.size + 1, 0, none⟩ (SV l2)) := h.step (h.S.set l2) ((RdK.refl _ _).set _ _)
theorem TxB.c (h : TxB w X cv hv l w') (k : Nat) : w'.cell? ⟨w.heap.size, k, none⟩ = #[cv, hv, .int .i64 X.epoch][k]? := cell_of_row _ _ _ _ _ _ h.box
theorem TxB.s0 (h : TxB w X cv hv l w') : w'.cell? ⟨w.heap.size + 1, 0, none⟩ = some (SV l) := by rw [cell_of_row _ _ _ _ _ _ h.S.box]; rfl
theorem TxB.big (h : TxB w X cv hv l w') : w.heap.size + 1 < w'.heap.size := h.S.lt
/-- A box of the walk's own. -/
theorem box_keep {b : Nat} {o : Obj} (hb : w'.heap[b]? = some o) (hn : b ≠ w.heap.size + 1) (hk : RdK (w.heap.size + 1) w' w2) : w2.heap[b]? = some o := (hk.oth _ (blk_lt hb) hn).trans hb
end
set_option maxHeartbeats 4000000 in
theorem text_any {P : Nat → Prop} (X : QW) (cv hv : Value) (w : World) (hh : IsClasses P w cv X.classes) (hH : IsHeap P w hv X.heap) (hr : rightE X = 0) (hV : Vars w) :
    Calls Tryz.prog 7 #[WV cv hv X.epoch] w fun e w' => e = .returned (SV (worldW X)) ∧ Below w.heap.size w w' := by
  have hC0 := hh.lt goodC fun _ _ => ltC
  have hO0 := hH.lt goodO fun _ _ => ltO
  obtain ⟨ad, cap, rfl, hl, hcap, hby, hrow⟩ := id hC0
  obtain ⟨ah, ch, rfl, hlh, hch, hbh, hrowh⟩ := id hO0
  clear hh hH hC0 hO0
  have hs := right_short hr
  obtain ⟨h1, ⟨h2, h3⟩, h4, h5⟩ := right_wok hr
  have l1 := numW_len h1
  have HT := fun j => manyW_take (enc := classW) h2 (fun y hy => classW_len (h3 y hy) (hs y hy)) j
  have HTo := fun j => manyW_take (enc := objW) h4 (fun y hy => objW_len (h5 y hy)) j
  have HE : Hid (worldW X = numsW [X.epoch, (X.classes.length : Int)] ++ manyW classW X.classes ++ numsW [(X.heap.length : Int)] ++ manyW objW X.heap) := by show _ = _; unfold worldW listW numsW; simp [manyW]
  have HOK : Hid (∀ y ∈ X.classes, ClassOkW y ∧ ShortC y) := fun y hy => ⟨h3 y hy, hs y hy⟩
  have HOO : Hid (∀ y ∈ X.heap, ObjOkW y) := h5
  clear h5 hs h3 hr
  have hb2 := bel2 w (.cells #[.slice ad X.classes.length cap, .slice ah X.heap.length ch, .int .i64 X.epoch] 25) (.cells #[SV []] 9)
  have hB : TxB w X (.slice ad X.classes.length cap) (.slice ah X.heap.length ch) [] ((w.alloc (.cells #[.slice ad X.classes.length cap, .slice ah X.heap.length ch, .int .i64 X.epoch] 25)).alloc (.cells #[SV []] 9)) := by
    have e1 := heap_alloc_new (w.alloc (.cells #[.slice ad X.classes.length cap, .slice ah X.heap.length ch, .int .i64 X.epoch] 25)) (.cells #[SV []] 9)
    rw [show (w.alloc (.cells #[.slice ad X.classes.length cap, .slice ah X.heap.length ch, .int .i64 X.epoch] 25)).heap.size = w.heap.size + 1 by simp] at e1
    exact ⟨⟨e1, (hV.from.on hb2).mono (by omega)⟩, hb2, by rw [Below.heap_alloc _ _ _ (by simp)]; exact heap_alloc_new w _⟩
  clear hb2 hV
  go_enter Tryz.func7, Tryz.ntmps7
  go_upto_region 3 with (fail)
  generalize ((w.alloc (.cells #[.slice ad X.classes.length cap, .slice ah X.heap.length ch, .int .i64 X.epoch] 25)).alloc (.cells #[SV []] 9)) = W0 at *
  have c0 : W0.cell? ⟨w.heap.size, 0, none⟩ = some (.slice ad X.classes.length cap) := hB.c 0
  have c2 : W0.cell? ⟨w.heap.size, 2, none⟩ = some (.int .i64 X.epoch) := hB.c 2
  have hrow := heap_alloc_new W0 (.cells #[.int .i64 (X.epoch), .int .i64 (X.classes.length : Int)] 3)
  have hB1 := hB.later (bel1 W0 (.cells #[.int .i64 (X.epoch), .int .i64 (X.classes.length : Int)] 3))
  go_wp2_with (go_at_call 21; refine (tn_any [X.epoch, (X.classes.length : Int)] (by intro k hk; simp only [List.mem_cons, List.not_mem_nil, or_false] at hk; rcases hk with rfl | rfl; exact h1; exact ⟨by omega, by omega⟩) (by simp) (by simp) hB1.S hrow (by have := hB.big; omega)).mono ?_; rintro e w1 ⟨rfl, hS2, hK2⟩; refine Hid.out ?_)
  refine Lib.hid ?_
  replace hB := hB1.step hS2 hK2
  clear hrow hB1 hS2 hK2
  clear c0 c2
  rw [List.nil_append] at hB
  obtain ⟨L0, HL0⟩ : ∃ L, L = numsW [X.epoch, (X.classes.length : Int)] := ⟨_, rfl⟩
  rw [← HL0] at hB HE
  have hL0 : L0.length ≤ 44 := by rw [HL0]; exact numsW_len _ (by intro k hk; simp only [List.mem_cons, List.not_mem_nil, or_false] at hk; rcases hk with rfl | rfl; exact h1; exact ⟨by omega, by omega⟩)
  clear HL0 l1 h1
  have c0 : w1.cell? ⟨w.heap.size, 0, none⟩ = some (.slice ad X.classes.length cap) := hB.c 0
  go_wp2_with (fail)
  go_loopg [27] X.classes.length (fun g i wr => ∃ j : Nat, j + g = X.classes.length ∧ i = .int .i64 j ∧ TxB w X (.slice ad X.classes.length cap) (.slice ah X.heap.length ch) (L0 ++ manyW classW (X.classes.take j)) wr)
  case atStart => exact ⟨0, by omega, rfl, by simpa [manyW] using hB⟩
  case round =>
    clear hB c0
    obtain ⟨j, hg, rfl, hB⟩ := hrel
    by_cases hj : j < X.classes.length
    · have hj1 : (j : Int) < (X.classes.length : Int) := by omega
      have hj0 : (0 : Int) ≤ (j : Int) := by omega
      obtain ⟨y, hy⟩ : ∃ y, X.classes[j]? = some y := ⟨_, List.getElem?_eq_getElem hj⟩
      obtain ⟨b, o, rfl, hbl, v0, v1, v2, hyn, kv, v4, hM⟩ := hrow j y hy
      simp only [Nat.add_zero] at v0
      have kc := fun (o : Nat) => hB.bel.cell (p := ⟨b, o, none⟩) hbl
      replace v0 := (kc _).trans v0
      replace v1 := (kc _).trans v1
      replace v2 := (kc _).trans v2
      replace v4 := (kc _).trans v4
      clear kc
      have HY := hid (manyW_succ (enc := classW) hy)
      obtain ⟨⟨-, hy1, hy2, hy3, hy4⟩, hy5, hy6⟩ := HOK.out y (List.mem_of_getElem? hy)
      have hTj := HT j
      obtain ⟨ak, ck, rfl, hkl, hkc, hkb, hrm⟩ := hM
      have hcb := heap_alloc_new wr (.cells #[.string y.name, .int .i64 y.super, .int .i64 y.slots, .slice ak y.methods.length ck] 38)
      have hbig := hB.big
      replace hB := hB.later (bel1 wr (.cells #[.string y.name, .int .i64 y.super, .int .i64 y.slots, .slice ak y.methods.length ck] 38))
      clear hy
      go_upto_region 7 with (fail)
      generalize (wr.alloc (.cells #[.string y.name, .int .i64 y.super, .int .i64 y.slots, .slice ak y.methods.length ck] 38)) = W1 at *
      generalize wr.heap.size = cb at *
      clear v0 v1 v2 v4
      obtain ⟨L1, HL1⟩ : ∃ L, L = L0 ++ manyW classW (X.classes.take j) := ⟨_, rfl⟩
      rw [← HL1] at hB
      have hL1 : L1.length ≤ 400000 := by rw [HL1, List.length_append]; omega
      replace HL1 := hid HL1
      have n0 : W1.cell? ⟨cb, 0, none⟩ = some (.string y.name) := by rw [cell_of_row _ _ _ _ _ _ hcb]; rfl
      have s0 := hB.s0
      have sf := row_free hB.S.box
      have q1 : ¬ (9223372036854775807 < L1.length + y.name.size) := by omega
      have q2 : ¬ (9223372036854775807 < L1.length + y.name.size + 1) := by omega
      go_upto_region 8 with (fail)
      rw [str4]
      replace hB := hB.set (L1 ++ wordW y.name)
      replace hcb := (setCell_else (B := w.heap.size + 1) (o := 0) (show cb ≠ w.heap.size + 1 by omega) (SV (L1 ++ wordW y.name))).trans hcb
      clear s0 sf q1 q2
      generalize (W1.setCell ⟨w.heap.size + 1, 0, none⟩ (SV (L1 ++ wordW y.name))) = W2 at *
      clear n0
      have n1 : W2.cell? ⟨cb, 1, none⟩ = some (.int .i64 y.super) := by rw [cell_of_row _ _ _ _ _ _ hcb]; rfl
      have n2 : W2.cell? ⟨cb, 2, none⟩ = some (.int .i64 y.slots) := by rw [cell_of_row _ _ _ _ _ _ hcb]; rfl
      have n3 : W2.cell? ⟨cb, 3, none⟩ = some (.slice ak y.methods.length ck) := by rw [cell_of_row _ _ _ _ _ _ hcb]; rfl
      have lw := wordW_len y.name
      have HK3 : Hid (∀ k, k = y.super ∨ k = y.slots ∨ k = (y.methods.length : Int) → I64 k) := fun k hk => by rcases hk with rfl | rfl | rfl; exact hy1; exact hy2; exact ⟨by omega, by omega⟩
      have hrow := heap_alloc_new W2 (.cells #[.int .i64 (y.super), .int .i64 (y.slots), .int .i64 (y.methods.length : Int)] 3)
      have hB1 := hB.later (bel1 W2 (.cells #[.int .i64 (y.super), .int .i64 (y.slots), .int .i64 (y.methods.length : Int)] 3))
      have hcb1 := (Below.heap_alloc W2 (.cells #[.int .i64 (y.super), .int .i64 (y.slots), .int .i64 (y.methods.length : Int)] 3) _ (blk_lt hcb)).trans hcb
      go_wp2_with (go_at_call 21; refine (tn_any [y.super, y.slots, (y.methods.length : Int)] (by intro k hk; simp only [List.mem_cons, List.not_mem_nil, or_false] at hk; exact HK3.out k hk) (by simp) (by simp only [List.length_append]; omega) hB1.S hrow (by have := hB.big; omega)).mono ?_; rintro e w2 ⟨rfl, hS2, hK2⟩; refine Hid.out ?_)
      refine Lib.hid ?_
      replace hB := hB1.step hS2 hK2
      replace hcb := box_keep hcb1 (by omega) hK2
      clear hrow hB1 hS2 hK2 hcb1
      clear n1 n2 n3
      obtain ⟨L2, HL2⟩ : ∃ L, L = L1 ++ wordW y.name ++ numsW [y.super, y.slots, (y.methods.length : Int)] := ⟨_, rfl⟩
      rw [← HL2] at hB
      have hL2 : L2.length ≤ 400100 := by
        have := numsW_len [y.super, y.slots, (y.methods.length : Int)] (by intro k hk; simp only [List.mem_cons, List.not_mem_nil, or_false] at hk; exact HK3.out k hk)
        rw [HL2]; simp only [List.length_append, List.length_cons, List.length_nil] at *; omega
      have HE2 : Hid (L0 ++ manyW classW (X.classes.take (j + 1)) = L2 ++ manyW methW y.methods) := by
        show _ = _
        rw [HY.out, ← List.append_assoc, ← HL1.out, HL2]
        unfold classW listW numsW
        simp [manyW]
      clear HL1 HL2 HY HK3 hy1 hy2 lw hTj
      have HTm := fun i => manyW_take (enc := methW) hy3 (fun m hm => methW_len (hy4 m hm) (hy6 m hm)) i
      have HOKm : Hid (∀ m ∈ y.methods, MethOkW m ∧ ShortM m) := fun m hm => ⟨hy4 m hm, hy6 m hm⟩
      clear hy4 hy6
      have n3 : w2.cell? ⟨cb, 3, none⟩ = some (.slice ak y.methods.length ck) := by rw [cell_of_row _ _ _ _ _ _ hcb]; rfl
      go_wp2_with (fail)
      clear hcb
      go_loopg [49] y.methods.length (fun g i wr => ∃ j : Nat, j + g = y.methods.length ∧ i = .int .i64 j ∧ TxB w X (.slice (some ⟨b, o, none⟩) X.classes.length cap) (.slice ah X.heap.length ch) (L2 ++ manyW methW (y.methods.take j)) wr)
      case atStart => exact ⟨0, by omega, rfl, by simpa [manyW] using hB⟩
      case round =>
        clear hB n3
        obtain ⟨i, hgi, rfl, hB⟩ := hrel
        by_cases hi : i < y.methods.length
        · have hi1 : (i : Int) < (y.methods.length : Int) := by omega
          have hi0 : (0 : Int) ≤ (i : Int) := by omega
          obtain ⟨m, hm⟩ : ∃ m, y.methods[i]? = some m := ⟨_, List.getElem?_eq_getElem hi⟩
          obtain ⟨bm, om, rfl, hbl2, v0, v1, v2, v3, hmn, kc2, v4, hC⟩ := hrm i m hm
          simp only [Nat.add_zero] at v0
          have kc := fun (o : Nat) => hB.bel.cell (p := ⟨bm, o, none⟩) hbl2
          replace v0 := (kc _).trans v0
          replace v1 := (kc _).trans v1
          replace v2 := (kc _).trans v2
          replace v3 := (kc _).trans v3
          replace v4 := (kc _).trans v4
          clear kc
          have HY := hid (manyW_succ (enc := methW) hm)
          obtain ⟨⟨-, hm1, hm2, hm3, hm4, hm5⟩, hm6, hm7⟩ := HOKm.out m (List.mem_of_getElem? hm)
          have hTi := HTm i
          obtain ⟨ac, cc, rfl, hcl, hcc, hcb2, hrc⟩ := hC
          have hmb := heap_alloc_new wr (.cells #[.string m.name, .int .i64 m.args, .int .i64 m.temps, .int .i64 m.prim, .slice ac m.code.length cc] 43)
          have hbig2 := hB.big
          replace hB := hB.later (bel1 wr (.cells #[.string m.name, .int .i64 m.args, .int .i64 m.temps, .int .i64 m.prim, .slice ac m.code.length cc] 43))
          clear hm
          go_upto_region 12 with (fail)
          generalize (wr.alloc (.cells #[.string m.name, .int .i64 m.args, .int .i64 m.temps, .int .i64 m.prim, .slice ac m.code.length cc] 43)) = W1b at *
          generalize wr.heap.size = mb at *
          clear v0 v1 v2 v3 v4
          obtain ⟨L3, HL3⟩ : ∃ L, L = L2 ++ manyW methW (y.methods.take i) := ⟨_, rfl⟩
          rw [← HL3] at hB
          have hL3 : L3.length ≤ 500000 := by rw [HL3, List.length_append]; omega
          replace HL3 := hid HL3
          have n0 : W1b.cell? ⟨mb, 0, none⟩ = some (.string m.name) := by rw [cell_of_row _ _ _ _ _ _ hmb]; rfl
          have s0 := hB.s0
          have sf := row_free hB.S.box
          have q1 : ¬ (9223372036854775807 < L3.length + m.name.size) := by omega
          have q2 : ¬ (9223372036854775807 < L3.length + m.name.size + 1) := by omega
          go_upto_region 13 with (fail)
          rw [str4]
          replace hB := hB.set (L3 ++ wordW m.name)
          replace hmb := (setCell_else (B := w.heap.size + 1) (o := 0) (show mb ≠ w.heap.size + 1 by omega) (SV (L3 ++ wordW m.name))).trans hmb
          clear s0 sf q1 q2
          generalize (W1b.setCell ⟨w.heap.size + 1, 0, none⟩ (SV (L3 ++ wordW m.name))) = W2b at *
          clear n0
          have n1 : W2b.cell? ⟨mb, 1, none⟩ = some (.int .i64 m.args) := by rw [cell_of_row _ _ _ _ _ _ hmb]; rfl
          have n2 : W2b.cell? ⟨mb, 2, none⟩ = some (.int .i64 m.temps) := by rw [cell_of_row _ _ _ _ _ _ hmb]; rfl
          have n3 : W2b.cell? ⟨mb, 3, none⟩ = some (.int .i64 m.prim) := by rw [cell_of_row _ _ _ _ _ _ hmb]; rfl
          have n4 : W2b.cell? ⟨mb, 4, none⟩ = some (.slice ac m.code.length cc) := by rw [cell_of_row _ _ _ _ _ _ hmb]; rfl
          have lw := wordW_len m.name
          have HK3 : Hid (∀ k, k = m.args ∨ k = m.temps ∨ k = m.prim ∨ k = (m.code.length : Int) → I64 k) := fun k hk => by rcases hk with rfl | rfl | rfl | rfl; exact hm1; exact hm2; exact hm3; exact ⟨by omega, by omega⟩
          have hrow := heap_alloc_new W2b (.cells #[.int .i64 (m.args), .int .i64 (m.temps), .int .i64 (m.prim), .int .i64 (m.code.length : Int)] 3)
          have hB1 := hB.later (bel1 W2b (.cells #[.int .i64 (m.args), .int .i64 (m.temps), .int .i64 (m.prim), .int .i64 (m.code.length : Int)] 3))
          have hmb1 := (Below.heap_alloc W2b (.cells #[.int .i64 (m.args), .int .i64 (m.temps), .int .i64 (m.prim), .int .i64 (m.code.length : Int)] 3) _ (blk_lt hmb)).trans hmb
          go_wp2_with (go_at_call 21; refine (tn_any [m.args, m.temps, m.prim, (m.code.length : Int)] (by intro k hk; simp only [List.mem_cons, List.not_mem_nil, or_false] at hk; exact HK3.out k hk) (by simp) (by simp only [List.length_append]; omega) hB1.S hrow (by have := hB.big; omega)).mono ?_; rintro e w3 ⟨rfl, hS2, hK2⟩; refine Hid.out ?_)
          refine Lib.hid ?_
          replace hB := hB1.step hS2 hK2
          replace hmb := box_keep hmb1 (by omega) hK2
          clear hrow hB1 hS2 hK2 hmb1
          clear n1 n2 n3 n4
          obtain ⟨L4, HL4⟩ : ∃ L, L = L3 ++ wordW m.name ++ numsW [m.args, m.temps, m.prim, (m.code.length : Int)] := ⟨_, rfl⟩
          rw [← HL4] at hB
          have hL4 : L4.length ≤ 500200 := by
            have := numsW_len [m.args, m.temps, m.prim, (m.code.length : Int)] (by intro k hk; simp only [List.mem_cons, List.not_mem_nil, or_false] at hk; exact HK3.out k hk)
            rw [HL4]; simp only [List.length_append, List.length_cons, List.length_nil] at *; omega
          have HE4 : Hid (L2 ++ manyW methW (y.methods.take (i + 1)) = L4 ++ manyW instrW m.code) := by
            show _ = _
            rw [HY.out, ← List.append_assoc, ← HL3.out, HL4]
            unfold methW listW numsW
            simp [manyW]
          clear HL3 HL4 HY HK3 hm1 hm2 hm3 lw hTi
          have HTc := fun i => manyW_take (enc := instrW) hm4 (fun x hx => instrW_len (hm5 x hx) (hm7 x hx)) i
          have HOKi : Hid (∀ x ∈ m.code, InstrOk x ∧ ShortI x) := fun x hx => ⟨hm5 x hx, hm7 x hx⟩
          clear hm5 hm7
          have n4 : w3.cell? ⟨mb, 4, none⟩ = some (.slice ac m.code.length cc) := by rw [cell_of_row _ _ _ _ _ _ hmb]; rfl
          go_wp2_with (fail)
          clear hmb
          go_loopg [73] m.code.length (fun g i wr => ∃ j : Nat, j + g = m.code.length ∧ i = .int .i64 j ∧ TxB w X (.slice (some ⟨b, o, none⟩) X.classes.length cap) (.slice ah X.heap.length ch) (L4 ++ manyW instrW (m.code.take j)) wr)
          case atStart => exact ⟨0, by omega, rfl, by simpa [manyW] using hB⟩
          case round =>
            clear hB n4
            obtain ⟨q, hgq, rfl, hB⟩ := hrel
            by_cases hq : q < m.code.length
            · have hq1 : (q : Int) < (m.code.length : Int) := by omega
              have hq0 : (0 : Int) ≤ (q : Int) := by omega
              obtain ⟨x, hx⟩ : ∃ x, m.code[q]? = some x := ⟨_, List.getElem?_eq_getElem hq⟩
              obtain ⟨bi, oi, rfl, hbl3, v0, v1, v2, v3, v4, hxn⟩ := hrc q x hx
              simp only [Nat.add_zero] at v0
              have kc := fun (o : Nat) => hB.bel.cell (p := ⟨bi, o, none⟩) hbl3
              replace v0 := (kc _).trans v0
              replace v1 := (kc _).trans v1
              replace v2 := (kc _).trans v2
              replace v3 := (kc _).trans v3
              replace v4 := (kc _).trans v4
              clear kc
              have HY := hid (manyW_succ (enc := instrW) hx)
              obtain ⟨⟨hx1, hx2, -, -, -⟩, hx3⟩ := HOKi.out x (List.mem_of_getElem? hx)
              unfold ShortI at hx3
              have hTq := HTc q
              have hib := heap_alloc_new wr (.cells #[.int .i64 x.op, .int .i64 x.a, .int .i64 x.b, .int .i64 x.c, .string x.name] 62)
              have hbig3 := hB.big
              replace hB := hB.later (bel1 wr (.cells #[.int .i64 x.op, .int .i64 x.a, .int .i64 x.b, .int .i64 x.c, .string x.name] 62))
              clear hx
              go_upto_region 17 with (fail)
              generalize (wr.alloc (.cells #[.int .i64 x.op, .int .i64 x.a, .int .i64 x.b, .int .i64 x.c, .string x.name] 62)) = W1c at *
              generalize wr.heap.size = ib at *
              clear v0 v1 v2 v3 v4
              obtain ⟨L5, HL5⟩ : ∃ L, L = L4 ++ manyW instrW (m.code.take q) := ⟨_, rfl⟩
              rw [← HL5] at hB
              have hL5 : L5.length ≤ 600000 := by rw [HL5, List.length_append]; omega
              replace HL5 := hid HL5
              have n0 : W1c.cell? ⟨ib, 0, none⟩ = some (.int .i64 x.op) := by rw [cell_of_row _ _ _ _ _ _ hib]; rfl
              have n1 : W1c.cell? ⟨ib, 1, none⟩ = some (.int .i64 x.a) := by rw [cell_of_row _ _ _ _ _ _ hib]; rfl
              have HK3 : Hid (∀ k, k = x.op ∨ k = x.a → I64 k) := fun k hk => by rcases hk with rfl | rfl; exact hx1; exact hx2
              have hrow := heap_alloc_new W1c (.cells #[.int .i64 (x.op), .int .i64 (x.a)] 3)
              have hB1 := hB.later (bel1 W1c (.cells #[.int .i64 (x.op), .int .i64 (x.a)] 3))
              have hib1 := (Below.heap_alloc W1c (.cells #[.int .i64 (x.op), .int .i64 (x.a)] 3) _ (blk_lt hib)).trans hib
              go_wp2_with (go_at_call 21; refine (tn_any [x.op, x.a] (by intro k hk; simp only [List.mem_cons, List.not_mem_nil, or_false] at hk; exact HK3.out k hk) (by simp) (by omega) hB1.S hrow (by have := hB.big; omega)).mono ?_; rintro e w4 ⟨rfl, hS2, hK2⟩; refine Hid.out ?_)
              refine Lib.hid ?_
              replace hB := hB1.step hS2 hK2
              replace hib := box_keep hib1 (by omega) hK2
              clear hrow hB1 hS2 hK2 hib1
              clear n0 n1
              obtain ⟨L6, HL6⟩ : ∃ L, L = L5 ++ numsW [x.op, x.a] := ⟨_, rfl⟩
              rw [← HL6] at hB
              have hL6 : L6.length ≤ 600100 := by
                have := numsW_len [x.op, x.a] (by intro k hk; simp only [List.mem_cons, List.not_mem_nil, or_false] at hk; exact HK3.out k hk)
                rw [HL6]; simp only [List.length_append, List.length_cons, List.length_nil] at *; omega
              replace HL6 := hid HL6
              have HE6 : Hid (L4 ++ manyW instrW (m.code.take (q + 1)) = L6 ++ if x.op = 14 then wordW x.name else []) := by
                show _ = _
                rw [HY.out, ← List.append_assoc, ← HL5.out, HL6.out]
                unfold instrW numsW
                simp [manyW]
              clear HL5 HL6 HY HK3 hx1 hx2 hTq
              have n0 : w4.cell? ⟨ib, 0, none⟩ = some (.int .i64 x.op) := by rw [cell_of_row _ _ _ _ _ _ hib]; rfl
              by_cases h14 : x.op = 14
              · have h14' : (x.op == 14) = true := by simpa using h14
                rw [if_pos h14] at HE6
                clear h14
                have n4 : w4.cell? ⟨ib, 4, none⟩ = some (.string x.name) := by rw [cell_of_row _ _ _ _ _ _ hib]; rfl
                have s0 := hB.s0
                have sf := row_free hB.S.box
                have q1 : ¬ (9223372036854775807 < L6.length + x.name.size) := by omega
                have q2 : ¬ (9223372036854775807 < L6.length + x.name.size + 1) := by omega
                have HB := hid (hB.set (L6 ++ wordW x.name))
                have HS := hid (str4 L6 x.name)
                clear hB
                go_wp2
                go_roundg (m.code.length - (q + 1))
                case measure => omega
                case rel => exact ⟨q + 1, by omega, by go_num, by rw [HS.out, HE6.out]; exact HB.out⟩
              · have h14' : (x.op == 14) = false := by simpa using h14
                rw [if_neg h14, List.append_nil] at HE6
                clear h14
                rw [← HE6.out] at hB
                clear HE6
                go_wp2
                go_roundg (m.code.length - (q + 1))
                case measure => omega
                case rel => exact ⟨q + 1, by omega, by go_num, hB⟩
            · obtain rfl : q = m.code.length := by omega
              rw [manyW_all, ← HE4.out] at hB
              clear HE4
              go_wp2
              go_roundg (y.methods.length - (i + 1))
              case measure => omega
              case rel => exact ⟨i + 1, by omega, by go_num, hB⟩
        · obtain rfl : i = y.methods.length := by omega
          rw [manyW_all, ← HE2.out] at hB
          clear HE2
          go_wp2
          go_roundg (X.classes.length - (j + 1))
          case measure => omega
          case rel => exact ⟨j + 1, by omega, by go_num, hB⟩
    · obtain rfl : j = X.classes.length := by omega
      rw [manyW_all] at hB
      have hTA := HT X.classes.length
      rw [manyW_all] at hTA
      clear HT HOK hrow
      obtain ⟨L7, HL7⟩ : ∃ L, L = L0 ++ manyW classW X.classes := ⟨_, rfl⟩
      rw [← HL7] at hB HE
      have hL7 : L7.length ≤ 400000 := by rw [HL7, List.length_append]; omega
      clear HL7 hTA hL0
      have c1 : wr.cell? ⟨w.heap.size, 1, none⟩ = some (.slice ah X.heap.length ch) := hB.c 1
      have hrow := heap_alloc_new wr (.cells #[.int .i64 (X.heap.length : Int)] 3)
      have hB1 := hB.later (bel1 wr (.cells #[.int .i64 (X.heap.length : Int)] 3))
      go_wp2_with (go_at_call 21; refine (tn_any [(X.heap.length : Int)] (by intro k hk; simp only [List.mem_cons, List.not_mem_nil, or_false] at hk; subst hk; exact ⟨by omega, by omega⟩) (by simp) (by omega) hB1.S hrow (by have := hB.big; omega)).mono ?_; rintro e w5 ⟨rfl, hS2, hK2⟩; refine Hid.out ?_)
      refine Lib.hid ?_
      replace hB := hB1.step hS2 hK2
      clear hrow hB1 hS2 hK2
      clear c1
      obtain ⟨L8, HL8⟩ : ∃ L, L = L7 ++ numsW [(X.heap.length : Int)] := ⟨_, rfl⟩
      rw [← HL8] at hB HE
      have hL8 : L8.length ≤ 400100 := by
        have := numsW_len [(X.heap.length : Int)] (by intro k hk; simp only [List.mem_cons, List.not_mem_nil, or_false] at hk; subst hk; exact ⟨by omega, by omega⟩)
        rw [HL8]; simp only [List.length_append, List.length_cons, List.length_nil] at *; omega
      clear HL8 hL7
      have c1 : w5.cell? ⟨w.heap.size, 1, none⟩ = some (.slice ah X.heap.length ch) := hB.c 1
      go_wp2_with (fail)
      go_loopg [104] X.heap.length (fun g i wr => ∃ j : Nat, j + g = X.heap.length ∧ i = .int .i64 j ∧ TxB w X (.slice ad X.classes.length cap) (.slice ah X.heap.length ch) (L8 ++ manyW objW (X.heap.take j)) wr)
      case atStart => exact ⟨0, by omega, rfl, by simpa [manyW] using hB⟩
      case round =>
        clear hB c1
        obtain ⟨i, hgi, rfl, hB⟩ := hrel
        by_cases hi : i < X.heap.length
        · have hi1 : (i : Int) < (X.heap.length : Int) := by omega
          have hi0 : (0 : Int) ≤ (i : Int) := by omega
          obtain ⟨m, hm⟩ : ∃ m, X.heap[i]? = some m := ⟨_, List.getElem?_eq_getElem hi⟩
          obtain ⟨bm, om, rfl, hbl2, v0, kc2, v4, hC⟩ := hrowh i m hm
          simp only [Nat.add_zero] at v0
          have kc := fun (o : Nat) => hB.bel.cell (p := ⟨bm, o, none⟩) hbl2
          replace v0 := (kc _).trans v0
          replace v4 := (kc _).trans v4
          clear kc
          have HY := hid (manyW_succ (enc := objW) hm)
          obtain ⟨hm1, hm4, hm5⟩ := HOO.out m (List.mem_of_getElem? hm)
          have hTi := HTo i
          obtain ⟨ac, cc, rfl, hcl, hcc, hcb2, hrc⟩ := hC
          have hmb := heap_alloc_new wr (.cells #[.int .i64 m.cls, .slice ac m.slots.length cc] 49)
          have hbig2 := hB.big
          replace hB := hB.later (bel1 wr (.cells #[.int .i64 m.cls, .slice ac m.slots.length cc] 49))
          clear hm
          go_upto_region 27 with (fail)
          generalize (wr.alloc (.cells #[.int .i64 m.cls, .slice ac m.slots.length cc] 49)) = W1b at *
          generalize wr.heap.size = mb at *
          clear v0 v4
          obtain ⟨L3, HL3⟩ : ∃ L, L = L8 ++ manyW objW (X.heap.take i) := ⟨_, rfl⟩
          rw [← HL3] at hB
          have hL3 : L3.length ≤ 500000 := by rw [HL3, List.length_append]; omega
          replace HL3 := hid HL3
          have n0 : W1b.cell? ⟨mb, 0, none⟩ = some (.int .i64 m.cls) := by rw [cell_of_row _ _ _ _ _ _ hmb]; rfl
          have n1 : W1b.cell? ⟨mb, 1, none⟩ = some (.slice ac m.slots.length cc) := by rw [cell_of_row _ _ _ _ _ _ hmb]; rfl
          have HK3 : Hid (∀ k, k = m.cls ∨ k = (m.slots.length : Int) → I64 k) := fun k hk => by rcases hk with rfl | rfl; exact hm1; exact ⟨by omega, by omega⟩
          have hrow := heap_alloc_new W1b (.cells #[.int .i64 (m.cls), .int .i64 (m.slots.length : Int)] 3)
          have hB1 := hB.later (bel1 W1b (.cells #[.int .i64 (m.cls), .int .i64 (m.slots.length : Int)] 3))
          have hmb1 := (Below.heap_alloc W1b (.cells #[.int .i64 (m.cls), .int .i64 (m.slots.length : Int)] 3) _ (blk_lt hmb)).trans hmb
          go_wp2_with (go_at_call 21; refine (tn_any [m.cls, (m.slots.length : Int)] (by intro k hk; simp only [List.mem_cons, List.not_mem_nil, or_false] at hk; exact HK3.out k hk) (by simp) (by omega) hB1.S hrow (by have := hB.big; omega)).mono ?_; rintro e w6 ⟨rfl, hS2, hK2⟩; refine Hid.out ?_)
          refine Lib.hid ?_
          replace hB := hB1.step hS2 hK2
          replace hmb := box_keep hmb1 (by omega) hK2
          clear hrow hB1 hS2 hK2 hmb1
          clear n0 n1
          obtain ⟨L4, HL4⟩ : ∃ L, L = L3 ++ numsW [m.cls, (m.slots.length : Int)] := ⟨_, rfl⟩
          rw [← HL4] at hB
          have hL4 : L4.length ≤ 500100 := by
            have := numsW_len [m.cls, (m.slots.length : Int)] (by intro k hk; simp only [List.mem_cons, List.not_mem_nil, or_false] at hk; exact HK3.out k hk)
            rw [HL4]; simp only [List.length_append, List.length_cons, List.length_nil] at *; omega
          have HE4 : Hid (L8 ++ manyW objW (X.heap.take (i + 1)) = L4 ++ manyW valW m.slots) := by
            show _ = _
            rw [HY.out, ← List.append_assoc, ← HL3.out, HL4]
            unfold objW listW numsW
            simp [manyW]
          clear HL3 HL4 HY HK3 hm1 hTi
          have HTc := fun i => manyW_take (enc := valW) hm4 (fun x hx => valW_len (hm5 x hx)) i
          have HOKi : Hid (∀ x ∈ m.slots, ValOk x) := hm5
          clear hm5
          have n4 : w6.cell? ⟨mb, 1, none⟩ = some (.slice ac m.slots.length cc) := by rw [cell_of_row _ _ _ _ _ _ hmb]; rfl
          go_wp2_with (fail)
          clear hmb
          go_loopg [119] m.slots.length (fun g i wr => ∃ j : Nat, j + g = m.slots.length ∧ i = .int .i64 j ∧ TxB w X (.slice ad X.classes.length cap) (.slice (some ⟨bm, om, none⟩) X.heap.length ch) (L4 ++ manyW valW (m.slots.take j)) wr)
          case atStart => exact ⟨0, by omega, rfl, by simpa [manyW] using hB⟩
          case round =>
            clear hB n4
            obtain ⟨q, hgq, rfl, hB⟩ := hrel
            by_cases hq : q < m.slots.length
            · have hq1 : (q : Int) < (m.slots.length : Int) := by omega
              have hq0 : (0 : Int) ≤ (q : Int) := by omega
              obtain ⟨x, hx⟩ : ∃ x, m.slots[q]? = some x := ⟨_, List.getElem?_eq_getElem hq⟩
              obtain ⟨bi, oi, rfl, hbl3, v0, v1⟩ := hrc q x hx
              simp only [Nat.add_zero] at v0
              have kc := fun (o : Nat) => hB.bel.cell (p := ⟨bi, o, none⟩) hbl3
              replace v0 := (kc _).trans v0
              replace v1 := (kc _).trans v1
              clear kc
              have HY := hid (manyW_succ (enc := valW) hx)
              obtain ⟨hx1, hx2⟩ := HOKi.out x (List.mem_of_getElem? hx)
              have hTq := HTc q
              have hib := heap_alloc_new wr (.cells #[.int .i64 x.k, .int .i64 x.n] 51)
              have hbig3 := hB.big
              replace hB := hB.later (bel1 wr (.cells #[.int .i64 x.k, .int .i64 x.n] 51))
              clear hx
              go_upto_region 31 with (fail)
              generalize (wr.alloc (.cells #[.int .i64 x.k, .int .i64 x.n] 51)) = W1c at *
              generalize wr.heap.size = ib at *
              clear v0 v1
              obtain ⟨L5, HL5⟩ : ∃ L, L = L4 ++ manyW valW (m.slots.take q) := ⟨_, rfl⟩
              rw [← HL5] at hB
              have hL5 : L5.length ≤ 600000 := by rw [HL5, List.length_append]; omega
              replace HL5 := hid HL5
              have n0 : W1c.cell? ⟨ib, 0, none⟩ = some (.int .i64 x.k) := by rw [cell_of_row _ _ _ _ _ _ hib]; rfl
              have n1 : W1c.cell? ⟨ib, 1, none⟩ = some (.int .i64 x.n) := by rw [cell_of_row _ _ _ _ _ _ hib]; rfl
              have HK3 : Hid (∀ k, k = x.k ∨ k = x.n → I64 k) := fun k hk => by rcases hk with rfl | rfl; exact hx1; exact hx2
              have hrow := heap_alloc_new W1c (.cells #[.int .i64 (x.k), .int .i64 (x.n)] 3)
              have hB1 := hB.later (bel1 W1c (.cells #[.int .i64 (x.k), .int .i64 (x.n)] 3))
              go_wp2_with (go_at_call 21; refine (tn_any [x.k, x.n] (by intro k hk; simp only [List.mem_cons, List.not_mem_nil, or_false] at hk; exact HK3.out k hk) (by simp) (by omega) hB1.S hrow (by have := hB.big; omega)).mono ?_; rintro e w7 ⟨rfl, hS2, hK2⟩; refine Hid.out ?_)
              refine Lib.hid ?_
              replace hB := hB1.step hS2 hK2
              clear hrow hB1 hS2 hK2
              have HE6 : L5 ++ numsW [x.k, x.n] = L4 ++ manyW valW (m.slots.take (q + 1)) := by
                rw [HY.out, ← List.append_assoc, ← HL5.out]
                unfold valW numsW
                simp [manyW]
              rw [HE6] at hB
              clear n0 n1 HL5 HY HK3 hx1 hx2 hTq hib HE6
              go_wp2
              go_roundg (m.slots.length - (q + 1))
              case measure => omega
              case rel => exact ⟨q + 1, by omega, by go_num, hB⟩
            · obtain rfl : q = m.slots.length := by omega
              rw [manyW_all, ← HE4.out] at hB
              clear HE4
              go_wp2
              go_roundg (X.heap.length - (i + 1))
              case measure => omega
              case rel => exact ⟨i + 1, by omega, by go_num, hB⟩
        · obtain rfl : i = X.heap.length := by omega
          rw [manyW_all] at hB
          have HF : Hid (L8 ++ manyW objW X.heap = worldW X) := HE.out.symm
          rw [HF.out] at hB
          have s0 := hB.s0
          have HB := hid hB.bel
          clear hB HE HF
          go_wp2
          go_ret
          exact ⟨rfl, HB.out⟩
end Go.Proofs.YtjmidhghiahbaaaGreatDoor
