/- Copies: a world's classes, and its objects: each one's slots in a block of their own. -/
import Derived.Test.YtdfbgpiikeheiaaZa
namespace Go.Proofs.Ytdfbgpiikeheiaa
open Go.ChangeShapes Go.WideShapes Go.ChangeAt Go.RowKit
set_option linter.unusedSimpArgs false
set_option linter.unusedVariables false
set_option maxRecDepth 8000

set_option maxHeartbeats 400000 in
theorem ownSlots_any {P : Nat → Prop} (xs : List QV) (v : Value) (w : World) (hh : IsVals P w v xs) : Calls Try.prog 78 #[v] w fun e w' => ∃ g, e = .returned (.slice (some ⟨g, 0, none⟩) xs.length xs.length) ∧ w'.heap[g]? = some (.cells (vcells xs).toArray 27 (0, 0)) ∧ w.heap.size ≤ g ∧ Below w.heap.size w w' := by
  obtain ⟨ad, cap, rfl, hl, hcap, hby, hrow⟩ := hh
  have hmk := make_vals xs.length hby
  obtain ⟨cs, hcs, hsrc⟩ := hrow.cells goodV
  obtain ⟨w1, hcp, h2, h3⟩ := run_copy_whole (P := Try.prog) (w.alloc (.cells (madeCells #[.int .i64 0, .int .i64 0] (xs.length * 2)) 27)) 28 28 3 27 2 w.heap.size xs.length xs.length ad cap (madeCells #[.int .i64 0, .int .i64 0] (xs.length * 2)) 27 cs Try.underlying28 info27s (heap_alloc_new w _) hcs.1
    (fun j v hj => by obtain ⟨a, e, h⟩ := hsrc j v hj; exact ⟨a, e, cell_later (bel1 _ _) h⟩) (size_madeCells _ _) (hcs.all goodV)
  have HB := h3 w.heap.size w (bel1 _ _) (Nat.le_refl _)
  have HV : Hid (w1.heap[w.heap.size]? = some (.cells (vcells xs).toArray 27 (0, 0))) := by show _ = _; rw [← vcells_of_row (E := ()) hcs]; exact h2
  clear h2 h3 hrow hcs hsrc
  go_enter Try.func78, Try.ntmps78
  go_wp2
  go_ret
  exact ⟨_, rfl, HV.out, Nat.le_refl _, HB⟩


set_option maxHeartbeats 400000 in
theorem method_any {P : Nat → Prop} (x : QM) (v : Value) (w : World) (hh : IsCode P w v x.code) : Calls Try.prog 77 #[MV x v] w fun e w' => ∃ a c, e = .returned (MV x (.slice a x.code.length c)) ∧ IsCode (Since w w') w' (.slice a x.code.length c) x.code ∧ Below w.heap.size w w' := by
  obtain ⟨ad, cap, rfl, hl, hcap, hby, hrow⟩ := hh
  have hmk := make_code x.code.length hby
  obtain ⟨cs, hcs, hsrc⟩ := hrow.cells goodI
  have hs0 : ((w.alloc (.cells #[.string x.name, .int .i64 x.args, .int .i64 x.temps, .int .i64 x.prim, .slice ad x.code.length cap] 55)).alloc (.cells #[.string ⟨#[]⟩, .int .i64 0, .int .i64 0, .int .i64 0, .slice none 0 0] 55)).heap.size = w.heap.size + 1 + 1 := by simp
  obtain ⟨w1, hcp, h2, h3⟩ := run_copy_whole (P := Try.prog) (((w.alloc (.cells #[.string x.name, .int .i64 x.args, .int .i64 x.temps, .int .i64 x.prim, .slice ad x.code.length cap] 55)).alloc (.cells #[.string ⟨#[]⟩, .int .i64 0, .int .i64 0, .int .i64 0, .slice none 0 0] 55)).alloc (.cells (madeCells #[.int .i64 0, .int .i64 0, .int .i64 0, .int .i64 0, .string ⟨#[]⟩] (x.code.length * 5)) 59)) 53 53 3 59 5 _ x.code.length x.code.length ad cap (madeCells #[.int .i64 0, .int .i64 0, .int .i64 0, .int .i64 0, .string ⟨#[]⟩] (x.code.length * 5)) 59 cs Try.underlying53 info59s (heap_alloc_new _ _) hcs.1
    (fun j v hj => by obtain ⟨a, e, h⟩ := hsrc j v hj; exact ⟨a, e, cell_later (bel3 _ _ _ _) h⟩) (size_madeCells _ _) (hcs.all goodI)
  have HB := h3 _ _ (bel1 _ _) (Nat.le_refl _)
  have HC : Hid (Cells InstrC 5 P w cs x.code) := hcs
  rw [hs0] at hcp h2
  have h2' := blk_lt h2
  have H2 : Hid (w1.heap[w.heap.size + 1 + 1]? = some (.cells cs.toArray 59 (0, 0))) := h2
  obtain ⟨hc, hf⟩ := bcell HB
  have hst : ∀ v, (w1.setCell ⟨w.heap.size, 4, none⟩ v).cell? ⟨w.heap.size, 4, none⟩ = some v := fun v => cell_set_self (v := .slice ad x.code.length cap) (by rw [hc _ _ (by simp; omega)]; simp) v
  have HB' : Below w.heap.size w w1 := (bel2 _ _ _).trans (HB.mono (by simp; omega))
  clear h2 h3 hrow hcs hsrc HB hs0
  go_enter Try.func77, Try.ntmps77
  go_wp2

  refine bodyPost_ret (v := MV x (.slice (some ⟨w.heap.size + 1 + 1, 0, none⟩) x.code.length x.code.length)) ?_ rfl ⟨_, _, rfl, ?_, ?_⟩
  · simp [results, Try.results77, go_sem, hc]
  · refine IsRow.keep goodI (w := w1) (P := fun b => w.heap.size + 1 + 1 ≤ b ∧ b < w1.heap.size) ?_ ?_ ?_
    · exact Cells.row (E := InstrC) (sz := 5) (cs := cs) ⟨HC.out.1, HC.out.2⟩ goodI ⟨by omega, h2'⟩ H2.out (by simp; rw [List.take_of_length_le]; rw [HC.out.1]; exact Nat.le_refl _) (Nat.le_refl _) (by unfold maxLen; omega) hby
    · exact keep_set (keep_set (keep_set (keep_set (keep_set (keep_set (Keeps.refl _ _) (fun h => by have := h.1; omega) _) (fun h => by have := h.1; omega) _) (fun h => by have := h.1; omega) _) (fun h => by have := h.1; omega) _) (fun h => by have := h.1; omega) _) (fun h => by have := h.1; omega) _
    · rintro b ⟨h1, h2⟩; exact ⟨by omega, by simpa [size_setCell] using h2⟩
  · exact ((((((HB'.setCell (by simp) _).setCell (by simp) _).setCell (by simp) _).setCell (by simp) _).setCell (by simp) _).setCell (by simp) _)


set_option maxHeartbeats 1000000 in
theorem ownMethods_any {P : Nat → Prop} (xs : List QM) (v : Value) (w : World) (hh : IsMeths P w v xs) : Calls Try.prog 59 #[v] w fun e w' => ∃ g, e = .returned (.slice (some ⟨g, 0, none⟩) xs.length xs.length) ∧ OwnSt MethC 5 55 w' g xs xs.length ∧ w.heap.size ≤ g ∧ Below w.heap.size w w' := by
  obtain ⟨ad, cap, rfl, hl, hcap, hby, hrow⟩ := hh
  have hmk := make_meths xs.length hby
  go_enter Try.func59, Try.ntmps59
  go_wp2
  go_loopg [11] xs.length (fun g c wr => ∃ j : Nat, j + g = xs.length ∧ c = .int .i64 j ∧ Below w.heap.size w wr ∧ OwnSt MethC 5 55 wr w.heap.size xs j ∧ w.heap.size < wr.heap.size)
  case atStart => exact ⟨0, by omega, rfl, bel1 _ _, OwnSt.start _ _ (size_madeCells _ _), by simp⟩
  case round =>
    obtain ⟨j, hj, rfl, hbel, hst, hz⟩ := hrel
    clear hmk
    by_cases hlt : j < xs.length
    · obtain ⟨b, o, rfl, -, hv0, hv1, hv2, hv3, hsz, sv, hv4, hsl⟩ := hrow j xs[j] (by simp [hlt])
      have hxj : Hid (xs[j]? = some xs[j]) := by show _ = _; simp [hlt]
      generalize xs[j] = x at *
      simp only [Nat.add_zero] at hv0
      have u0 := cell_later hbel hv0
      have u1 := cell_later hbel hv1
      have u2 := cell_later hbel hv2
      have u3 := cell_later hbel hv3
      have u4 := cell_later hbel hv4
      have hsl2 := hsl.later goodI hbel
      obtain ⟨ad2, cap2, rfl, -, -, -, -⟩ := id hsl2
      clear hv0 hv1 hv2 hv3 hv4 hsl hrow
      have hj1 : (j : Int) < (xs.length : Int) := by omega
      have hj0 : (0 : Int) ≤ (j : Int) := by omega
      go_wp2_with fail
      refine (method_any x _ _ (hsl2.later goodI (bel1 _ _))).mono ?_
      rintro e w1 ⟨a', c', rfl, hcv, hb⟩
      have hb0 := hbel
      replace hst := (hst.later goodM (bel1 _ _)).later goodM hb
      replace hbel := nstep1 hbel hb
      have hz1 : wr.heap.size + 1 ≤ w1.heap.size := by have := hb.size; simpa using this
      obtain ⟨⟨cur, k1, k2⟩, k3⟩ := id hst
      have f1 : ∀ o, w1.frozen? ⟨w.heap.size, o, none⟩ = false := fun o => (by simp [World.frozen?, k1])
      have e0 : w1.cell? ⟨w.heap.size, j * 5, none⟩ = some (cur[j * 5]'(by omega)) := (by rw [cell_of_row _ _ _ _ _ _ k1]; simp)
      have e1 : w1.cell? ⟨w.heap.size, j * 5 + 1, none⟩ = some (cur[j * 5 + 1]'(by omega)) := (by rw [cell_of_row _ _ _ _ _ _ k1]; simp)
      have e2 : w1.cell? ⟨w.heap.size, j * 5 + 2, none⟩ = some (cur[j * 5 + 2]'(by omega)) := (by rw [cell_of_row _ _ _ _ _ _ k1]; simp)
      have e3 : w1.cell? ⟨w.heap.size, j * 5 + 3, none⟩ = some (cur[j * 5 + 3]'(by omega)) := (by rw [cell_of_row _ _ _ _ _ _ k1]; simp)
      have e4 : w1.cell? ⟨w.heap.size, j * 5 + 4, none⟩ = some (cur[j * 5 + 4]'(by omega)) := (by rw [cell_of_row _ _ _ _ _ _ k1]; simp)
      go_wp2
      go_roundg (gk - 1)
      case measure => omega
      case rel =>
        refine ⟨j + 1, by omega, by go_num, ((((hbel.setCell (Nat.le_refl _) _).setCell (Nat.le_refl _) _).setCell (Nat.le_refl _) _).setCell (Nat.le_refl _) _).setCell (Nat.le_refl _) _, ?_, by simp; omega⟩
        refine hst.step goodM hxj.out (vs := [.string x.name, .int .i64 x.args, .int .i64 x.temps, .int .i64 x.prim, .slice a' x.code.length c']) rfl ?_
        exact ⟨rfl, rfl, rfl, rfl, hsz, _, rfl, hcv.mono goodI fun b h => ⟨by have := h.1; simp at this; omega, h.2⟩⟩
    · obtain rfl : j = xs.length := by omega
      go_wp2
      go_ret
      exact ⟨_, rfl, hst, Nat.le_refl _, hbel⟩


/-- Objects as they are copied into the row at block B: each one's slots in a block of their own. -/
structure HRow (w : World) (B : Nat) (s : Nat → Nat) (xs : List QO) (j : Nat) : Prop where
  row : ∃ cur : Array Value, w.heap[B]? = some (.cells cur 82 (0, 0)) ∧ cur.size = xs.length * 2
  obj : ∀ i x, i < j → xs[i]? = some x → w.cell? ⟨B, i * 2, none⟩ = some (.int .i64 x.cls) ∧ w.cell? ⟨B, i * 2 + 1, none⟩ = some (.slice (some ⟨s i, 0, none⟩) x.slots.length x.slots.length) ∧ w.heap[s i]? = some (.cells (vcells x.slots).toArray 27 (0, 0)) ∧ B < s i ∧ x.slots.length * 16 ≤ 140737488351232
  inc : ∀ i k, i < k → k < j → s i < s k
  lt : ∀ i, i < j → s i < w.heap.size
theorem HRow.later {w w' : World} {B : Nat} {s : Nat → Nat} {xs : List QO} {j : Nat} (h : HRow w B s xs j) (hb : Below w.heap.size w w') : HRow w' B s xs j := by
  obtain ⟨⟨cur, h1, h2⟩, h3, h4, h5⟩ := h
  refine ⟨⟨cur, by rw [hb.block _ (blk_lt h1)]; exact h1, h2⟩, fun i x hi hx => ?_, h4, fun i hi => Nat.lt_of_lt_of_le (h5 i hi) hb.size⟩
  obtain ⟨e1, e2, e3, e4, e5⟩ := h3 i x hi hx
  exact ⟨cell_later hb e1, cell_later hb e2, by rw [hb.block _ (blk_lt e3)]; exact e3, e4, e5⟩
theorem HRow.start {w : World} (s : Nat → Nat) (xs : List QO) (c : Array Value) (hc : c.size = xs.length * 2) : HRow (w.alloc (.cells c 82)) w.heap.size s xs 0 :=
  ⟨⟨c, heap_alloc_new w _, hc⟩, fun i x hi _ => by omega, fun i k _ hk => by omega, fun i hi => by omega⟩
theorem HRow.step {w : World} {B : Nat} {s : Nat → Nat} {xs : List QO} {j g : Nat} {x : QO} (h : HRow w B s xs j) (hx : xs[j]? = some x) (hg : w.heap[g]? = some (.cells (vcells x.slots).toArray 27 (0, 0))) (hB : B < g) (hs : ∀ i, i < j → s i < g) (hby : x.slots.length * 16 ≤ 140737488351232) :
    HRow (w.setCells B (j * 2) [.int .i64 x.cls, .slice (some ⟨g, 0, none⟩) x.slots.length x.slots.length]) B (fun i => if i = j then g else s i) xs (j + 1) := by
  obtain ⟨⟨cur, h1, h2⟩, h3, h4, h5⟩ := h
  have hj := lt_of_get hx
  refine ⟨setCells_block _ _ w ⟨cur, h1, h2⟩, fun i y hi hy => ?_, fun i k hi hk => ?_, fun i hi => ?_⟩
  · by_cases hij : i = j
    · subst hij
      rw [hx] at hy
      cases hy
      have hc := fun k (hk : k < 2) => World.cell?_setCells_in B [.int .i64 x.cls, .slice (some ⟨g, 0, none⟩) x.slots.length x.slots.length] (i * 2) w (fun q hq => by rw [cell_of_row _ _ _ _ _ _ h1]; simp at hq ⊢; omega) k hk
      simp only [if_true]
      exact ⟨hc 0 (by omega), hc 1 (by omega), by rw [setCells_else (by omega)]; exact hg, hB, hby⟩
    · obtain ⟨e1, e2, e3, e4, e5⟩ := h3 i y (by omega) hy
      have ho := fun k (hk : k < 2) => World.cell?_setCells_out B [.int .i64 x.cls, .slice (some ⟨g, 0, none⟩) x.slots.length x.slots.length] (j * 2) w ⟨B, i * 2 + k, none⟩ (fun _ _ => Or.inl (by simp; omega))
      simp only [hij, if_false]
      exact ⟨(ho 0 (by omega)).trans e1, (ho 1 (by omega)).trans e2, by rw [setCells_else (by omega)]; exact e3, e4, e5⟩
  · by_cases hkj : k = j
    · simp only [hkj, if_true, show i ≠ j by omega, if_false]; exact hs i (by omega)
    · simp only [hkj, if_false, show i ≠ j by omega]; exact h4 i k hi (by omega)
  · rw [setCells_size]
    by_cases hij : i = j
    · simp only [hij, if_true]; exact blk_lt hg
    · simp only [hij, if_false]; exact h5 i (by omega)
theorem HRow.setLow {w : World} {B d : Nat} {s : Nat → Nat} {xs : List QO} {j : Nat} (h : HRow w B s xs j) (hd : d < B) (o : Nat) (v : Value) : HRow (w.setCell ⟨d, o, none⟩ v) B s xs j := by
  obtain ⟨⟨cur, h1, h2⟩, h3, h4, h5⟩ := h
  refine ⟨⟨cur, by rw [setCell_else (by omega)]; exact h1, h2⟩, fun i x hi hx => ?_, h4, fun i hi => by rw [size_setCell]; exact h5 i hi⟩
  obtain ⟨e1, e2, e3, e4, e5⟩ := h3 i x hi hx
  have k := fun (o' : Nat) => World.cell?_setCell_far w ⟨d, o, none⟩ ⟨B, o', none⟩ v (by simp; omega)
  exact ⟨(k _).trans e1, (k _).trans e2, by rw [setCell_else (by omega)]; exact e3, e4, e5⟩
theorem HRow.heap {w : World} {g : Nat} {s : Nat → Nat} {xs : List QO} (h : HRow w g s xs xs.length) (hby : xs.length * 32 ≤ 140737488351232) {T : Nat → Nat} (hT : ∀ b, g ≤ b → b < w.heap.size → T b = 2) : HeapSt T w (.slice (some ⟨g, 0, none⟩) xs.length xs.length) g s xs := by
  obtain ⟨⟨cur, h1, h2⟩, h3, h4, h5⟩ := h
  refine ⟨⟨_, rfl, Nat.le_refl _, by unfold maxLen; omega⟩, hby, blk_lt h1, hT g (Nat.le_refl _) (blk_lt h1), fun i x hx => ?_, fun i j hi hj e => ?_⟩
  · obtain ⟨e1, e2, e3, e4, e5⟩ := h3 i x (lt_of_get hx) hx
    exact ⟨e1, e2, e3, hT _ (by omega) (blk_lt e3), by omega, e5⟩
  · rcases Nat.lt_trichotomy i j with h | h | h
    · have := h4 i j h hj; omega
    · exact h
    · have := h4 j i h hi; omega

set_option maxHeartbeats 1000000 in
theorem vown_any {P : Nat → Prop} (hs : List QO) (v : Value) (w : World) (hh : IsHeap P w v hs) : Calls Try.prog 60 #[v] w fun e w' => ∃ g s, e = .returned (.slice (some ⟨g, 0, none⟩) hs.length hs.length) ∧ HRow w' g s hs hs.length ∧ w.heap.size ≤ g ∧ Below w.heap.size w w' := by
  obtain ⟨ad, cap, rfl, hl, hcap, hby, hrow⟩ := hh
  have hmk := make_objs hs.length hby
  go_enter Try.func60, Try.ntmps60
  go_wp2
  go_loopg [11] hs.length (fun g c wr => ∃ j : Nat, j + g = hs.length ∧ c = .int .i64 j ∧ Below w.heap.size w wr ∧ (∃ s, HRow wr w.heap.size s hs j) ∧ w.heap.size < wr.heap.size)
  case atStart => exact ⟨0, by omega, rfl, bel1 _ _, ⟨fun _ => 0, HRow.start _ _ _ (size_madeCells _ _)⟩, by simp⟩
  case round =>
    obtain ⟨j, hj, rfl, hbel, ⟨s, hst⟩, hz⟩ := hrel
    clear hmk
    by_cases hlt : j < hs.length
    · obtain ⟨b, o, rfl, -, hv1, sv, hv2, hsl⟩ := hrow j hs[j] (by simp [hlt])
      simp only [Nat.add_zero] at hv1
      have hxj : Hid (hs[j]? = some hs[j]) := by show _ = _; simp [hlt]
      generalize hs[j] = x at *
      have u1 := cell_later hbel hv1
      have u2 := cell_later hbel hv2
      have hsl2 := hsl.later goodV hbel
      obtain ⟨ad2, cap2, rfl, hl2, hcap2, hby2, hrow2⟩ := id hsl2
      clear hv1 hv2 hsl hrow2
      have hj1 : (j : Int) < (hs.length : Int) := by omega
      have hj0 : (0 : Int) ≤ (j : Int) := by omega
      go_wp2
      have hW1 : Below wr.heap.size wr (wr.alloc (Obj.cells #[Value.int IntKind.i64 x.cls, Value.slice ad2 x.slots.length cap2] 82)).drew := (bel1 _ _).drew
      have hIV := hsl2.later goodV hW1
      have hst1 := hst.later hW1
      have hbel1 := hbel.trans (hW1.mono (by omega))
      have c1 : (wr.alloc (Obj.cells #[Value.int IntKind.i64 x.cls, Value.slice ad2 x.slots.length cap2] 82)).drew.cell? ⟨wr.heap.size, 0, none⟩ = some (Value.int IntKind.i64 x.cls) := by simp
      have c2 : (wr.alloc (Obj.cells #[Value.int IntKind.i64 x.cls, Value.slice ad2 x.slots.length cap2] 82)).drew.cell? ⟨wr.heap.size, 1, none⟩ = some (Value.slice ad2 x.slots.length cap2) := by simp
      have hzz : (wr.alloc (Obj.cells #[Value.int IntKind.i64 x.cls, Value.slice ad2 x.slots.length cap2] 82)).drew.heap.size = wr.heap.size + 1 := by simp
      clear hsl2 u1 u2 hrow
      go_region_held3 (fun w' => w'.cell? ⟨wr.heap.size, 0, none⟩ = some (Value.int IntKind.i64 x.cls) ∧ w'.cell? ⟨wr.heap.size, 1, none⟩ = some (Value.slice ad2 x.slots.length cap2)) (first | exact ⟨c1, c2⟩ | exact ⟨d1, d2⟩ | exact ⟨(World.cell?_setCell_other _ _ _ _ (by first | (simp; done) | (simp; omega))).trans ((World.cell?_setCell_other _ _ _ _ (by first | (simp; done) | (simp; omega))).trans d1), (World.cell?_setCell_other _ _ _ _ (by first | (simp; done) | (simp; omega))).trans ((World.cell?_setCell_other _ _ _ _ (by first | (simp; done) | (simp; omega))).trans d2)⟩)
        (first | (go_at_call 78; refine (ownSlots_any x.slots _ _ hIV).mono ?_; rintro e w1 ⟨g', rfl, hg2, hgl, hb1⟩; have hst2 := hst1.later hb1; obtain ⟨cur, k1, k2⟩ := hst2.row; have f1 : ∀ o, w1.frozen? ⟨w.heap.size, o, none⟩ = false := fun o => (by simp [World.frozen?, k1]); have d1 := cell_later hb1 c1; have d2 := cell_later hb1 c2; have e1 : w1.cell? ⟨w.heap.size, j * 2, none⟩ = some (cur[j * 2]'(by omega)) := (by rw [cell_of_row _ _ _ _ _ _ k1]; simp); have e2 : w1.cell? ⟨w.heap.size, j * 2 + 1, none⟩ = some (cur[j * 2 + 1]'(by omega)) := (by rw [cell_of_row _ _ _ _ _ _ k1]; simp)))
      go_wp2
      go_roundg (gk - 1)
      case measure => omega
      case rel =>
        have hlt1 : w.heap.size < w1.heap.size := Nat.lt_of_lt_of_le (by omega) hb1.size
        refine ⟨j + 1, by omega, by go_num, ((hbel1.trans (hb1.mono (by omega))).setCell (Nat.le_refl _) _).setCell (Nat.le_refl _) _, ?_, by simp; omega⟩
        have hg3 : wr.heap.size + 1 ≤ g' := by rw [hzz] at hgl; exact hgl
        exact ⟨_, hst2.step hxj.out hg2 (by omega) (fun i hi => by have := hst.lt i hi; omega) hby2⟩
    · obtain rfl : j = hs.length := by omega
      go_wp2
      go_ret
      exact ⟨_, s, rfl, hst, Nat.le_refl _, hbel⟩

set_option maxHeartbeats 2000000 in
theorem own_any {P : Nat → Prop} (X : QW) (cv hv : Value) (w : World) (h1 : IsClasses P w cv X.classes) (h2 : IsHeap P w hv X.heap) : Calls Try.prog 39 #[WV cv hv X.epoch] w fun e w' => ∃ g gh s, e = .returned (WV (.slice (some ⟨g, 0, none⟩) X.classes.length X.classes.length) (.slice (some ⟨gh, 0, none⟩) X.heap.length X.heap.length) X.epoch) ∧ OwnC w' g X.classes s X.classes.length ∧
    (∃ sh, HRow w' gh sh X.heap X.heap.length) ∧ s X.classes.length ≤ gh ∧ w.heap.size ≤ g ∧ Below w.heap.size w w' := by
  obtain ⟨ad, cap, rfl, hl, hcap, hby, hrow⟩ := h1
  obtain ⟨adh, caph, rfl, hlh, hcaph, hbyh, hrowh⟩ := id h2
  have hmk := make_classes X.classes.length hby
  go_enter Try.func39, Try.ntmps39
  go_wp2
  have hW := bel3 w (Obj.cells #[Value.slice ad X.classes.length cap, Value.slice adh X.heap.length caph, Value.int IntKind.i64 X.epoch] 25) (Obj.cells #[Value.slice none 0 0, Value.slice none 0 0, Value.int IntKind.i64 0] 25) (Obj.cells (madeCells #[Value.string { data := #[] }, Value.int IntKind.i64 0, Value.int IntKind.i64 0, Value.slice none 0 0] (X.classes.length * 4)) 52)
  have hS0 := OwnC.start ((w.alloc (Obj.cells #[Value.slice ad X.classes.length cap, Value.slice adh X.heap.length caph, Value.int IntKind.i64 X.epoch] 25)).alloc (Obj.cells #[Value.slice none 0 0, Value.slice none 0 0, Value.int IntKind.i64 0] 25)) X.classes (madeCells #[Value.string { data := #[] }, Value.int IntKind.i64 0, Value.int IntKind.i64 0, Value.slice none 0 0] (X.classes.length * 4)) (size_madeCells _ _)
  rw [show ((w.alloc (Obj.cells #[Value.slice ad X.classes.length cap, Value.slice adh X.heap.length caph, Value.int IntKind.i64 X.epoch] 25)).alloc (Obj.cells #[Value.slice none 0 0, Value.slice none 0 0, Value.int IntKind.i64 0] 25)).heap.size = w.heap.size + 1 + 1 by simp] at hS0
  go_loopg [13] X.classes.length (fun g c wr => ∃ j : Nat, j + g = X.classes.length ∧ c = .int .i64 j ∧ Below (w.heap.size + 1 + 1) ((w.alloc (Obj.cells #[Value.slice ad X.classes.length cap, Value.slice adh X.heap.length caph, Value.int IntKind.i64 X.epoch] 25)).alloc (Obj.cells #[Value.slice none 0 0, Value.slice none 0 0, Value.int IntKind.i64 0] 25)) wr ∧ ∃ s, OwnC wr (w.heap.size + 1 + 1) X.classes s j)
  case atStart => exact ⟨0, by omega, rfl, (Below.refl _ _).alloc (by simp) _, _, hS0⟩
  case round =>
    obtain ⟨j, hj, rfl, hbel, s, hst⟩ := hrel
    clear hmk hS0
    have hbw : Below w.heap.size w wr := (bel2 _ _ _).trans (hbel.mono (by omega))
    have hz : w.heap.size + 1 + 1 < wr.heap.size := by obtain ⟨⟨cur, k, -⟩, -⟩ := hst; exact blk_lt k
    by_cases hlt : j < X.classes.length
    · obtain ⟨b, o, rfl, -, hv0, hv1, hv2, hsz, sv, hv4, hsl⟩ := hrow j X.classes[j] (by simp [hlt])
      have hxj : Hid (X.classes[j]? = some X.classes[j]) := by show _ = _; simp [hlt]
      generalize X.classes[j] = x at *
      simp only [Nat.add_zero] at hv0
      have u0 := cell_later hbw hv0
      have u1 := cell_later hbw hv1
      have u2 := cell_later hbw hv2
      have u4 := cell_later hbw hv4
      have hsl2 := hsl.later goodM hbw
      obtain ⟨ad2, cap2, rfl, -, -, hby2, -⟩ := id hsl2
      clear hv0 hv1 hv2 hv4 hsl hrow
      have hj1 : (j : Int) < (X.classes.length : Int) := by omega
      have hj0 : (0 : Int) ≤ (j : Int) := by omega
      go_wp2_with fail
      refine (ownMethods_any x.methods _ _ (hsl2.later goodM (bel1 _ _))).mono ?_
      rintro e w1 ⟨g', rfl, hM, hg', hb⟩
      obtain ⟨hc, hf⟩ := bcell hb
      have h5 : s j ≤ wr.heap.size := hst.2.2.2.1
      replace hst := (hst.later (bel1 _ _)).later hb
      have hg2 : wr.heap.size + 1 ≤ g' := by simpa using hg'
      have hz1 : wr.heap.size + 1 ≤ w1.heap.size := by have := hb.size; simpa using this
      replace hst := hst.set h5 3 (.slice (some ⟨g', 0, none⟩) x.methods.length x.methods.length)
      replace hM := hM.set (d := wr.heap.size) goodM (by omega) 3 (.slice (some ⟨g', 0, none⟩) x.methods.length x.methods.length)
      have hz2 : (w1.setCell ⟨wr.heap.size, 3, none⟩ (.slice (some ⟨g', 0, none⟩) x.methods.length x.methods.length)).heap.size = w1.heap.size := by simp
      have d3 : (w1.setCell ⟨wr.heap.size, 3, none⟩ (.slice (some ⟨g', 0, none⟩) x.methods.length x.methods.length)).cell? ⟨wr.heap.size, 3, none⟩ = some (.slice (some ⟨g', 0, none⟩) x.methods.length x.methods.length) := cell_set_self (v := .slice ad2 x.methods.length cap2) (by rw [hc _ _ (by simp)]; simp) _
      obtain ⟨⟨cur, k1, k2⟩, k3⟩ := id hst
      have f1 : ∀ o, (w1.setCell ⟨wr.heap.size, 3, none⟩ (.slice (some ⟨g', 0, none⟩) x.methods.length x.methods.length)).frozen? ⟨w.heap.size + 1 + 1, o, none⟩ = false := fun o => (by simp only [World.frozen?, k1]; simp)
      have f2 : ∀ o, w1.frozen? ⟨w.heap.size + 1 + 1, o, none⟩ = false := fun o => (by rw [← World.frozen?_setCell (a := ⟨wr.heap.size, 3, none⟩) (v := (.slice (some ⟨g', 0, none⟩) x.methods.length x.methods.length))]; exact f1 o)
      have ex : ∀ o, o < X.classes.length * 4 → ∃ u, w1.cell? ⟨w.heap.size + 1 + 1, o, none⟩ = some u := fun o ho => by
        have := World.cell?_setCell_far w1 ⟨wr.heap.size, 3, none⟩ ⟨w.heap.size + 1 + 1, o, none⟩ (.slice (some ⟨g', 0, none⟩) x.methods.length x.methods.length) (by simp; omega)
        rw [cell_of_row _ _ _ _ _ _ k1] at this
        exact ⟨cur[o]'(by omega), by rw [← this]; simp⟩
      obtain ⟨y0, e0⟩ := ex (j * 4) (by omega)
      obtain ⟨y1, e1⟩ := ex (j * 4 + 1) (by omega)
      obtain ⟨y2, e2⟩ := ex (j * 4 + 2) (by omega)
      obtain ⟨y3, e3⟩ := ex (j * 4 + 3) (by omega)
      have hne : ¬ wr.heap.size = w.heap.size + 1 + 1 := by omega
      have hne' : ¬ w.heap.size + 1 + 1 = wr.heap.size := by omega
      clear k1 k2 k3
      go_wp2
      go_roundg (gk - 1)
      case measure => omega
      case rel =>
        obtain ⟨s', hs'⟩ := hst.step hxj.out hsz (by omega) hM hby2
        refine ⟨j + 1, by omega, by go_num, ?_, s', hs'⟩
        exact (((((hbel.trans (((bel1 _ _).trans (hb.mono (by simp))).mono (by omega))).setCell (by simp; omega) _).setCell (by simp) _).setCell (by simp) _).setCell (by simp) _).setCell (by simp) _
    · obtain rfl : j = X.classes.length := by omega
      have q1 : wr.drew.cell? ⟨w.heap.size, 1, none⟩ = some (Value.slice adh X.heap.length caph) := by
        show wr.cell? _ = _
        rw [hbel.cell (by simp; omega)]; simp
      have q2 : wr.drew.cell? ⟨w.heap.size, 2, none⟩ = some (.int .i64 X.epoch) := by
        show wr.cell? _ = _
        rw [hbel.cell (by simp; omega)]; simp
      have r0 : wr.drew.cell? ⟨w.heap.size + 1, 0, none⟩ = some (Value.slice none 0 0) := by
        show wr.cell? _ = _
        rw [hbel.cell (by simp)]; simp
      have r1 : wr.drew.cell? ⟨w.heap.size + 1, 1, none⟩ = some (Value.slice none 0 0) := by
        show wr.cell? _ = _
        rw [hbel.cell (by simp)]; simp
      have r2 : wr.drew.cell? ⟨w.heap.size + 1, 2, none⟩ = some (.int .i64 0) := by
        show wr.cell? _ = _
        rw [hbel.cell (by simp)]; simp
      have rf : ∀ o, wr.drew.frozen? ⟨w.heap.size + 1, o, none⟩ = false := fun o => by
        show wr.frozen? _ = _
        rw [hbel.frozen (by simp)]; simp
      have hH := h2.later goodO hbw.drew
      have hst1 := hst.later (Below.refl _ _).drew
      have hs5 : s X.classes.length ≤ wr.drew.heap.size := hst1.2.2.2.1
      have hzd : w.heap.size + 1 + 1 < wr.drew.heap.size := hz
      have hbd := hbw.drew
      clear hst hW hrow hrowh hbel hbw h2
      go_wp2_with fail
      go_region_held3 (fun w' => w'.cell? ⟨w.heap.size, 1, none⟩ = some (Value.slice adh X.heap.length caph) ∧ w'.cell? ⟨w.heap.size, 2, none⟩ = some (.int .i64 X.epoch)) (first | exact ⟨q1, q2⟩ | exact ⟨d1, d2⟩ | exact ⟨(World.cell?_setCell_other _ _ _ _ (by first | (simp; done) | (simp; omega))).trans ((World.cell?_setCell_other _ _ _ _ (by first | (simp; done) | (simp; omega))).trans ((World.cell?_setCell_other _ _ _ _ (by first | (simp; done) | (simp; omega))).trans d1)), (World.cell?_setCell_other _ _ _ _ (by first | (simp; done) | (simp; omega))).trans ((World.cell?_setCell_other _ _ _ _ (by first | (simp; done) | (simp; omega))).trans ((World.cell?_setCell_other _ _ _ _ (by first | (simp; done) | (simp; omega))).trans d2))⟩)
        (first | (go_at_call 60; refine (vown_any X.heap _ _ hH).mono ?_; rintro e w1 ⟨gh, sh, rfl, hown, hgh, hb1⟩; have d1 := cell_later hb1 q1; have d2 := cell_later hb1 q2; have t0 := cell_later hb1 r0; have t1 := cell_later hb1 r1; have t2 := cell_later hb1 r2; have tf : ∀ o, w1.frozen? ⟨w.heap.size + 1, o, none⟩ = false := fun o => (hb1.frozen (by simp; omega)).trans (rf o)))
      go_wp2
      have hst2 := hst1.later hb1
      refine bodyPost_ret (v := WV (.slice (some ⟨w.heap.size + 1 + 1, 0, none⟩) X.classes.length X.classes.length) (.slice (some ⟨gh, 0, none⟩) X.heap.length X.heap.length) X.epoch) ?_ rfl ⟨_, gh, s, rfl, ?_, ⟨sh, ?_⟩, by omega, by omega, ?_⟩
      · simp [results, Try.results39, go_sem, t0, t1, t2]
      · exact ((hst2.setLow (by omega) _ _).setLow (by omega) _ _).setLow (by omega) _ _
      · exact ((hown.setLow (by omega) _ _).setLow (by omega) _ _).setLow (by omega) _ _
      · exact (((nstep hbd hb1).setCell (by simp) _).setCell (by simp) _).setCell (by simp) _

end Go.Proofs.Ytdfbgpiikeheiaa
