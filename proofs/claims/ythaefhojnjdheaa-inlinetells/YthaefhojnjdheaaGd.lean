/- The reference's Install. -/
import Derived.Test.YthaefhojnjdheaaGc
namespace Go.Proofs.Ythaefhojnjdheaa
open Go.ChangeShapes Go.WideShapes Go.ChangeAt Go.RowKit
set_option linter.unusedSimpArgs false
set_option linter.unusedVariables false
set_option maxRecDepth 8000

theorem grown_below2 {wr w2 : World} {B : Nat} {X Y : Obj} {a : Option Addr} {e : TypeId} {sz n k : Nat} {xs : List Value} (hown : wr.ownsRow B e sz (.slice a n k) n xs) (hB : B ≤ wr.heap.size) (hgr : ((wr.alloc X).alloc Y).grownBy w2 (Value.ownBlock (.slice a n k))) : Below B wr w2 :=
  ((Below.refl B wr).alloc hB X).trans (grown_below (hown.alloc X) (by simp; omega) hgr)
theorem grown_keep {wr w2 : World} {B : Nat} {X Y : Obj} {a : Option Addr} {e : TypeId} {sz n k : Nat} {xs : List Value} (hown : wr.ownsRow B e sz (.slice a n k) n xs) (hgr : ((wr.alloc X).alloc Y).grownBy w2 (Value.ownBlock (.slice a n k))) : w2.heap[wr.heap.size]? = some X := by
  rw [hgr.block wr.heap.size (by simp; omega) ?_, (bel1 _ _).block _ (by simp)]
  · exact blk_new _ _ _ rfl
  · obtain ⟨-, ⟨e, -⟩ | ⟨g, c, cur, e, h1, h2, -⟩⟩ := hown
    · rw [e]; simp [Value.ownBlock]
    · rw [e]
      have := blk_lt h2
      simp [Value.ownBlock]
      omega
theorem insF_len {m : QM} : ∀ (r : List QM) (s : InsS), (r.foldl (insS m) s).ms.length ≤ s.ms.length + r.length + (if s.done then 0 else 1) ∧ ((r.foldl (insS m) s).done = false → s.done = false ∧ (r.foldl (insS m) s).ms.length ≤ s.ms.length + r.length)
  | [], s => by simp
  | x :: r, s => by
    obtain ⟨h1, h2⟩ := insF_len (m := m) r (insS m s x)
    rw [List.foldl_cons]
    cases he : eqN x.name m.name
    · by_cases hg : s.done = false ∧ gtN x.name m.name = true
      · have e : insS m s x = ⟨s.ms ++ [m] ++ [x], true, s.was⟩ := by simp [insS, he, hg]
        rw [e] at h1 h2 ⊢
        simp [hg.1] at h1 h2 ⊢
        exact ⟨by omega, fun h => by rw [h2] at h; cases h⟩
      · have e : insS m s x = ⟨s.ms ++ [x], s.done, s.was⟩ := by simp [insS, he, hg]
        rw [e] at h1 h2 ⊢
        simp at h1 h2 ⊢
        exact ⟨by omega, fun h => ⟨(h2 h).1, by have := (h2 h).2; omega⟩⟩
    · have e : insS m s x = ⟨s.ms ++ [m], true, true⟩ := by simp [insS, he]
      rw [e] at h1 h2 ⊢
      simp at h1 h2 ⊢
      exact ⟨by split <;> omega, fun h => by rw [h2] at h; cases h⟩
theorem foldl_take_succ {α β : Type} (f : β → α → β) (b : β) (xs : List α) (j : Nat) (x : α) (h : xs[j]? = some x) : (xs.take (j + 1)).foldl f b = f ((xs.take j).foldl f b) x := by
  rw [List.take_add_one, h]; simp

/-- What comes of Install in the reference. -/
def InstR (P : Nat → Prop) (w : World) (X : QW) (c : Int) (m : QM) (hv : Value) (e : Ending) (w' : World) : Prop :=
  (hasB X.classes.length c = false ∧ e = .returned (.tuple #[WV (.slice none 0 0) (.slice none 0 0) 0, .int .i64 6]) ∨
    ∃ (k : Nat) (x : QC), c = (k : Int) ∧ X.classes[k]? = some x ∧
      ((numI x.methods m.name < 0 ∧ 8 ≤ x.methods.length ∧ e = .returned (.tuple #[WV (.slice none 0 0) (.slice none 0 0) 0, .int .i64 5])) ∨
        (¬ (numI x.methods m.name < 0 ∧ 8 ≤ x.methods.length) ∧ ∃ cv', e = .returned (.tuple #[WV cv' hv (epochE X.epoch), .int .i64 0]) ∧ IsClasses (fun b => P b ∨ w.heap.size ≤ b) w' cv' (instX X k x m).classes))) ∧ Below w.heap.size w w'
abbrev In (w : World) : Nat → Prop := fun b => b < w.heap.size
abbrev InP (P : Nat → Prop) (w : World) : Nat → Prop := fun b => P b ∧ b < w.heap.size
theorem code_in {P : Nat → Prop} {w : World} {v : Value} {xs : List QI} (h : IsCode P w v xs) : IsCode (InP P w) w v xs := by
  obtain ⟨ad, cap, h1, h2, h3, h4, h5⟩ := h
  refine ⟨ad, cap, h1, h2, h3, h4, fun i x hx => ?_⟩
  obtain ⟨b, o, e1, e2, e3⟩ := h5 i x hx
  exact ⟨b, o, e1, ⟨e2, World.block_lt_of_cell? w _ e3.1⟩, e3⟩
theorem own_row {α : Type} {E : Lay α} {sz bytes : Nat} (G : Good E sz) {t : TypeId} {Q : Nat → Prop} {B n k : Nat} {a : Option Addr} {w : World} {cs : List Value} {xs : List α} (hown : w.ownsRow B t sz (.slice a n k) n cs) (hc : Cells E sz Q w cs xs) (hn : xs.length = n) (hQ : ∀ b, B ≤ b → b < w.heap.size → Q b) (hby : n * bytes ≤ 140737488351232) : IsRow E sz bytes Q w (.slice a n k) xs := by
  obtain ⟨-, ⟨e, h0⟩ | ⟨g, c, cur, e, h1, h2, h3, h4, h5, h6⟩⟩ := hown
  · cases e
    obtain rfl := List.eq_nil_of_length_eq_zero hn
    exact row_none
  · cases e
    subst hn
    exact hc.row G (hQ _ h1 (blk_lt h2)) h2 h6 h3 h4 hby
theorem own_cell {t : TypeId} {B sz n k g : Nat} {w : World} {cs : List Value} (hown : w.ownsRow B t sz (.slice (some ⟨g, 0, none⟩) n k) n cs) {j : Nat} {u : Value} (hj : cs[j]? = some u) : w.cell? ⟨g, j, none⟩ = some u := by
  obtain ⟨-, ⟨e, h0⟩ | ⟨g', c, cur, e, h1, h2, h3, h4, h5, h6⟩⟩ := hown
  · cases e
  · cases e
    rw [cell_of_row _ _ _ _ _ _ h2]
    rw [← h6, List.getElem?_take] at hj
    split at hj
    · simpa using hj
    · cases hj
theorem own_free {t : TypeId} {B sz n k g : Nat} {w : World} {cs : List Value} (hown : w.ownsRow B t sz (.slice (some ⟨g, 0, none⟩) n k) n cs) (j : Nat) : w.frozen? ⟨g, j, none⟩ = false := by
  obtain ⟨-, ⟨e, h0⟩ | ⟨g', c, cur, e, h1, h2, h3, h4, h5, h6⟩⟩ := hown
  · cases e
  · cases e
    unfold World.frozen?; simp [h2]
theorem Cells.setAt {α : Type} {E : Lay α} {sz : Nat} {P : Nat → Prop} {w : World} {cs cs' : List Value} {xs : List α} (h : Cells E sz P w cs xs) (G : Good E sz) {q : Nat} {y : α} (hq : q < xs.length) (hl : cs'.length = cs.length) (hk : ∀ j, (j < q * sz ∨ (q + 1) * sz ≤ j) → cs'[j]? = cs[j]?) (hy : E P w (fun k => cs'[q * sz + k]?) y) : Cells E sz P w cs' (xs.set q y) := by
  refine ⟨by rw [hl, h.1, List.length_set], fun i x hx => ?_⟩
  by_cases hi : i = q
  · subst hi
    rw [List.getElem?_set_self hq] at hx
    cases hx
    exact hy
  · rw [List.getElem?_set_ne (Ne.symm hi)] at hx
    refine G.move (h.2 i x hx) (fun _ h => h) (.refl _ _) fun k hk' v hv => ?_
    rw [hk]
    · exact hv
    · rcases Nat.lt_or_gt_of_ne hi with h' | h'
      · left
        have : (i + 1) * sz ≤ q * sz := Nat.mul_le_mul_right _ h'
        rw [Nat.add_mul] at this
        omega
      · right
        have : (q + 1) * sz ≤ i * sz := Nat.mul_le_mul_right _ h'
        omega

/-- What holds while the reference lays methods. -/
structure LayR (P : Nat → Prop) (w W0 : World) (m : QM) (s : InsS) (a : Option Addr) (k : Nat) (cs : List Value) (wr : World) : Prop where
  bel : Below (w.heap.size + 3) W0 wr
  own : wr.ownsRow (w.heap.size + 3) 48 5 (.slice a s.ms.length k) s.ms.length cs
  cells : Cells MethC 5 (InP P w) w cs s.ms

/-- The world as the reference's Install leaves it. -/
theorem inst_fin {P : Nat → Prop} {w wc wA : World} {X : QW} {m : QM} {q : Nat} {x : QC} {ccs : List Value} {az : Option Addr} {L cap2 gA capA : Nat} {S1 S2 S3 S4 S5 : Value} (hx : X.classes[q]? = some x) (hbw : Below w.heap.size w wc) (hA : Below wc.heap.size wc wA) (hgB : wc.heap.size ≤ gA) (hsz : w.heap.size + 3 ≤ wc.heap.size)
    (hownA : wA.ownsRow wc.heap.size 46 4 (.slice (some ⟨gA, 0, none⟩) X.classes.length capA) X.classes.length ccs) (HCC : Cells ClassC 4 P w ccs X.classes) (hMZ : IsMeths (fun b => (P b ∧ b < w.heap.size ∨ w.heap.size + 3 ≤ b) ∧ b < wc.heap.size) wc (.slice az L cap2) (insM x.methods m)) (hby : X.classes.length * 56 ≤ 140737488351232) :
    Below w.heap.size w ((((((wA.setCell ⟨w.heap.size, 0, none⟩ S1).setCell ⟨gA, q * 4 + 3, none⟩ (.slice az L cap2)).setCell ⟨w.heap.size, 2, none⟩ S2).setCell ⟨w.heap.size + 1 + 1, 0, none⟩ S3).setCell ⟨w.heap.size + 1 + 1, 1, none⟩ S4).setCell ⟨w.heap.size + 1 + 1, 2, none⟩ S5) ∧
      IsClasses (fun b => P b ∨ w.heap.size ≤ b) ((((((wA.setCell ⟨w.heap.size, 0, none⟩ S1).setCell ⟨gA, q * 4 + 3, none⟩ (.slice az L cap2)).setCell ⟨w.heap.size, 2, none⟩ S2).setCell ⟨w.heap.size + 1 + 1, 0, none⟩ S3).setCell ⟨w.heap.size + 1 + 1, 1, none⟩ S4).setCell ⟨w.heap.size + 1 + 1, 2, none⟩ S5) (.slice (some ⟨gA, 0, none⟩) X.classes.length capA) (instX X q x m).classes := by
  have hF : Below w.heap.size w ((((((wA.setCell ⟨w.heap.size, 0, none⟩ S1).setCell ⟨gA, q * 4 + 3, none⟩ (.slice az L cap2)).setCell ⟨w.heap.size, 2, none⟩ S2).setCell ⟨w.heap.size + 1 + 1, 0, none⟩ S3).setCell ⟨w.heap.size + 1 + 1, 1, none⟩ S4).setCell ⟨w.heap.size + 1 + 1, 2, none⟩ S5) :=
    below_set3 ((((nstep hbw hA).setCell (Nat.le_refl _) _).setCell (by show w.heap.size ≤ gA; omega) _).setCell (Nat.le_refl _) _) (by omega) _ _ _
  refine ⟨hF, ?_⟩
  have hM2 : IsMeths (fun b => P b ∨ w.heap.size ≤ b) ((((((wA.setCell ⟨w.heap.size, 0, none⟩ S1).setCell ⟨gA, q * 4 + 3, none⟩ (.slice az L cap2)).setCell ⟨w.heap.size, 2, none⟩ S2).setCell ⟨w.heap.size + 1 + 1, 0, none⟩ S3).setCell ⟨w.heap.size + 1 + 1, 1, none⟩ S4).setCell ⟨w.heap.size + 1 + 1, 2, none⟩ S5) (.slice az L cap2) (insM x.methods m) :=
    hMZ.keep goodM (keep_set (keep_set (keep_set (keep_set (keep_set (keep_set (.of_below hA) (by rintro ⟨⟨_, h⟩ | h, _⟩ <;> omega) _) (by rintro ⟨⟨_, h⟩ | h, _⟩ <;> omega) _) (by rintro ⟨⟨_, h⟩ | h, _⟩ <;> omega) _) (by rintro ⟨⟨_, h⟩ | h, _⟩ <;> omega) _) (by rintro ⟨⟨_, h⟩ | h, _⟩ <;> omega) _) (by rintro ⟨⟨_, h⟩ | h, _⟩ <;> omega) _) fun b hb => by
      rcases hb.1 with h | h
      · exact Or.inl h.1
      · exact Or.inr (by omega)
  have hq := lt_of_get hx
  obtain ⟨-, ⟨e, h0⟩ | ⟨g, c, cur, e, h1, h2, h3, h4, h5, h6⟩⟩ := hownA
  · cases e
  · cases e
    have hlen : (instX X q x m).classes.length = X.classes.length := by simp [instX]
    have hblk : ((((((wA.setCell ⟨w.heap.size, 0, none⟩ S1).setCell ⟨gA, q * 4 + 3, none⟩ (.slice az L cap2)).setCell ⟨w.heap.size, 2, none⟩ S2).setCell ⟨w.heap.size + 1 + 1, 0, none⟩ S3).setCell ⟨w.heap.size + 1 + 1, 1, none⟩ S4).setCell ⟨w.heap.size + 1 + 1, 2, none⟩ S5).heap[gA]? = some (.cells (cur.setIfInBounds (q * 4 + 3) (.slice az L cap2)) 46 (0, 0)) := by
      rw [setCell_else (by omega), setCell_else (by omega), setCell_else (by omega), setCell_else (by omega)]
      exact setCell_same (by rw [setCell_else (by omega)]; exact h2) _
    have hcs := HCC.keep goodC (.of_below hF) (Q := fun b => P b ∨ w.heap.size ≤ b) fun _ h => Or.inl h
    obtain ⟨e0, e1, e2, en, -⟩ := hcs.2 q x hx
    have hl3 : q * 4 + 3 < ccs.length := by rw [hcs.1]; omega
    have hC2 : Cells ClassC 4 (fun b => P b ∨ w.heap.size ≤ b) ((((((wA.setCell ⟨w.heap.size, 0, none⟩ S1).setCell ⟨gA, q * 4 + 3, none⟩ (.slice az L cap2)).setCell ⟨w.heap.size, 2, none⟩ S2).setCell ⟨w.heap.size + 1 + 1, 0, none⟩ S3).setCell ⟨w.heap.size + 1 + 1, 1, none⟩ S4).setCell ⟨w.heap.size + 1 + 1, 2, none⟩ S5) (ccs.set (q * 4 + 3) (.slice az L cap2)) (instX X q x m).classes := by
      refine hcs.setAt goodC hq (by simp) (fun j hj => List.getElem?_set_ne (by omega)) ⟨?_, ?_, ?_, en, _, ?_, hM2⟩
      · exact (List.getElem?_set_ne (by omega)).trans e0
      · exact (List.getElem?_set_ne (by omega)).trans e1
      · exact (List.getElem?_set_ne (by omega)).trans e2
      · exact List.getElem?_set_self hl3
    have := hC2.row (bytes := 56) (cap := capA) goodC (Or.inr (by omega)) hblk (by rw [hlen, ← h6]; simp [List.take_set]) (by rw [hlen]; exact h3) h4 (by rw [hlen]; exact hby)
    rw [hlen] at this
    exact this

set_option maxHeartbeats 4000000 in
theorem rinstall_any {P : Nat → Prop} (X : QW) (c : Int) (m : QM) (cv hv mv : Value) (w : World) (hh : IsClasses P w cv X.classes) (hH : IsHeap P w hv X.heap) (hM : IsCode P w mv m.code) (hmn : m.name.size ≤ 140737488351232) (hRC : RisesC X.classes) : Calls Try.prog 33 #[WV cv hv X.epoch, .int .i64 c, MV m mv] w fun e w' => InstR P w X c m hv e w' := by
  obtain ⟨ad, cap, rfl, hl, hcap, hby, hrow⟩ := id hh
  obtain ⟨ah, ch, rfl, -, -, -, -⟩ := id hH
  obtain ⟨am, cm, rfl⟩ := hM.get
  obtain ⟨i0, hi, hz0, hz1, hz2⟩ := info_parts info48
  unfold maxLen at hcap
  go_enter Try.func33, Try.ntmps33
  cases hhas : hasB X.classes.length c
  · have HE : Hid (∀ W : World, Below w.heap.size w W → InstR P w X c m (.slice ah X.heap.length ch) (.returned (.tuple #[WV (.slice none 0 0) (.slice none 0 0) 0, .int .i64 6])) W) := fun W h => ⟨Or.inl ⟨hhas, rfl⟩, h⟩
    by_cases h0 : c < 0
    · go_wp2
      refine bodyPost_ret (v := .tuple #[WV (.slice none 0 0) (.slice none 0 0) 0, .int .i64 6]) ?_ rfl (HE.out _ ?_)
      · simp [results, Try.results33, go_sem]
      · first | exact bel3 _ _ _ _ | exact below_set3 (bel3 _ _ _ _) (by omega) _ _ _
    · have h0' : decide (c < 0) = false := by simpa using h0
      have h1 : (X.classes.length : Int) ≤ c := by simp [hasB] at hhas; omega
      go_wp2
      refine bodyPost_ret (v := .tuple #[WV (.slice none 0 0) (.slice none 0 0) 0, .int .i64 6]) ?_ rfl (HE.out _ ?_)
      · simp [results, Try.results33, go_sem]
      · first | exact bel3 _ _ _ _ | exact below_set3 (bel3 _ _ _ _) (by omega) _ _ _
  · have h0 : (0 : Int) ≤ c := by simp [hasB] at hhas; omega
    obtain ⟨q, rfl⟩ := Int.eq_ofNat_of_zero_le h0
    have hq : q < X.classes.length := by simp [hasB] at hhas; omega
    have h1 : (q : Int) < (X.classes.length : Int) := by omega
    obtain ⟨x, hx⟩ : ∃ x, X.classes[q]? = some x := ⟨_, List.getElem?_eq_getElem hq⟩
    obtain ⟨b, o, rfl, -, v0, v1, v2, -, sv, v3, hms⟩ := hrow q x hx
    obtain ⟨am2, km, rfl, hlm, hkm, hbm, hrm⟩ := id hms
    unfold maxLen at hkm
    have HX : Hid (X.classes[q]? = some x) := hx
    have hRM : RisesM x.methods := hRC q x hx
    have HROW : Hid (RowAt ClassC 4 P w (some ⟨b, o, none⟩) X.classes) := hrow
    clear hx hhas hrow
    have v3x := fun x1 x2 x3 => cell_later (bel3 w x1 x2 x3) v3
    go_wp2
    generalize hW0 : ((w.alloc (Obj.cells #[Value.slice (some ⟨b, o, none⟩) X.classes.length cap, Value.slice ah X.heap.length ch, Value.int IntKind.i64 X.epoch] 25)).alloc (Obj.cells #[Value.string m.name, Value.int IntKind.i64 m.args, Value.int IntKind.i64 m.temps, Value.int IntKind.i64 m.prim, Value.slice am m.code.length cm] 48)).alloc (Obj.cells #[Value.slice none 0 0, Value.slice none 0 0, Value.int IntKind.i64 0] 25) = W0 at *
    have hBW : Below w.heap.size w W0 := by rw [← hW0]; exact bel3 _ _ _ _
    have hsW : W0.heap.size = w.heap.size + 3 := by rw [← hW0]; simp
    have gA : W0.heap[w.heap.size]? = some (.cells #[Value.slice (some ⟨b, o, none⟩) X.classes.length cap, Value.slice ah X.heap.length ch, Value.int IntKind.i64 X.epoch] 25 (0, 0)) := by rw [← hW0, (bel2 _ _ _).block _ (by simp)]; exact blk_new _ _ _ rfl
    have gB : W0.heap[w.heap.size + 1]? = some (.cells #[Value.string m.name, Value.int IntKind.i64 m.args, Value.int IntKind.i64 m.temps, Value.int IntKind.i64 m.prim, Value.slice am m.code.length cm] 48 (0, 0)) := by rw [← hW0, (bel1 _ _).block _ (by simp)]; exact blk_new _ _ _ (by simp)
    have gC : W0.heap[w.heap.size + 1 + 1]? = some (.cells #[Value.slice none 0 0, Value.slice none 0 0, Value.int IntKind.i64 0] 25 (0, 0)) := by rw [← hW0]; exact blk_new _ _ _ (by simp)
    clear hW0
    go_loopg [8, 9, 10, 30] x.methods.length (fun g ms dn ws i wr => ∃ (j : Nat) (s : InsS) (a : Option Addr) (k : Nat) (cs : List Value), j + g = x.methods.length ∧ i = .int .i64 j ∧ s = (x.methods.take j).foldl (insS m) ⟨[], false, false⟩ ∧ ms = .slice a s.ms.length k ∧ dn = .bool s.done ∧ ws = .bool s.was ∧ LayR P w W0 m s a k cs wr)
    case atStart => exact ⟨0, ⟨[], false, false⟩, none, 0, [], by omega, rfl, rfl, rfl, rfl, rfl, Below.refl _ _, ⟨by simp, Or.inl ⟨rfl, rfl⟩⟩, .nil⟩
    case round =>
      obtain ⟨j, s, a, k, cs, hg, rfl, hs, rfl, rfl, rfl, hL⟩ := hrel
      obtain ⟨sm, sd, sw⟩ := s
      have HS : Hid (InsS.mk sm sd sw = (x.methods.take j).foldl (insS m) ⟨[], false, false⟩) := hs
      have hlen1 : sm.length ≤ j + 1 := by
        have := (insF_len (m := m) (x.methods.take j) ⟨[], false, false⟩).1
        rw [← hs] at this
        simp at this
        have h2 := List.length_take_le j x.methods
        simp at h2
        omega
      obtain ⟨hbel, hown, hcs⟩ := id hL
      have hsz : w.heap.size + 3 ≤ wr.heap.size := by have := hbel.size; omega
      have hbw : Below w.heap.size w wr := hBW.trans (hbel.mono (by omega))
      have HCS : Hid (Cells MethC 5 (InP P w) w cs sm) := hcs
      clear hs hL hcs
      simp only at hown
      by_cases hj : j < x.methods.length
      · have hj1 : (j : Int) < (x.methods.length : Int) := by omega
        have hj0 : (0 : Int) ≤ (j : Int) := by omega
        obtain ⟨y, hy⟩ : ∃ y, x.methods[j]? = some y := ⟨_, List.getElem?_eq_getElem hj⟩
        obtain ⟨b2, o2, rfl, -, p0, p1, p2, p3, hyn, yv, p4, hyc⟩ := hrm j y hy
        obtain ⟨ay, ky, rfl⟩ := hyc.get
        have HY : Hid (InsS.mk sm sd sw = (x.methods.take j).foldl (insS m) ⟨[], false, false⟩ → (x.methods.take (j + 1)).foldl (insS m) ⟨[], false, false⟩ = insS m ⟨sm, sd, sw⟩ y) := fun h => by rw [foldl_take_succ _ _ _ _ _ hy, h]
        simp only [Nat.add_zero] at p0
        replace p0 := cell_later hbw p0
        replace p1 := cell_later hbw p1
        replace p2 := cell_later hbw p2
        replace p3 := cell_later hbw p3
        replace p4 := cell_later hbw p4
        have gB' : wr.heap[w.heap.size + 1]? = some (.cells #[Value.string m.name, Value.int IntKind.i64 m.args, Value.int IntKind.i64 m.temps, Value.int IntKind.i64 m.prim, Value.slice am m.code.length cm] 48 (0, 0)) := by rw [hbel.block _ (by omega)]; exact gB
        have mc : ∀ z q, (wr.alloc z).cell? ⟨w.heap.size + 1, q, none⟩ = (#[Value.string m.name, Value.int IntKind.i64 m.args, Value.int IntKind.i64 m.temps, Value.int IntKind.i64 m.prim, Value.slice am m.code.length cm] : Array Value)[q]? := fun z q => by rw [(bel1 wr z).cell (p := ⟨w.heap.size + 1, q, none⟩) (by simp; omega), cell_of_row _ _ _ _ _ _ gB']
        have HYC : Hid (IsCode (InP P w) w (.slice ay y.code.length ky) y.code) := code_in hyc
        clear hy hyc
        cases he : eqN y.name m.name
        · have he' : (y.name.toList == m.name.toList) = false := he
          cases sd
          · cases hlt : Op.bytesLess y.name.toList m.name.toList
            · have hg : gtN y.name m.name = true := by unfold gtN; rw [hlt, he']; rfl
              go_wp2_with (first
                | (at_builtin; refine wpList_append_lies _ rfl (.tmp 52) (.tmp 54) 44 rfl (w.heap.size + 3) 48 i0 _ 5 64 Try.underlying44 hi hz0 hz1 hz2 rfl (by decide) _ sm.length _ rfl ((hown.alloc _).alloc _) ⟨_, 0, none⟩ 1 1 [Value.string m.name, Value.int IntKind.i64 m.args, Value.int IntKind.i64 m.temps, Value.int IntKind.i64 m.prim, Value.slice am m.code.length cm] rfl rfl (fun j u hu => (by rw [Addr.add_lit, Nat.zero_add]; exact (cell_new (World.alloc wr _) _ 48 _ (by simp) j).trans (by simpa using hu))) (by intro u hu; simp at hu; rcases hu with rfl | rfl | rfl | rfl | rfl <;> rfl) (by omega) (by unfold maxLen; omega) (by omega) (by first | (simp; omega) | (have := hb2.size; simp; omega)) _ rfl ?_; intro gg cap2 w2 hown2 hgr hor hlt2; have hb2 := grown_below2 hown hsz hgr; have hk2 := grown_keep hown hgr; have yc : ∀ q, w2.cell? ⟨wr.heap.size, q, none⟩ = (#[Value.string y.name, Value.int IntKind.i64 y.args, Value.int IntKind.i64 y.temps, Value.int IntKind.i64 y.prim, Value.slice ay y.code.length ky] : Array Value)[q]? := (fun q => by rw [cell_of_row _ _ _ _ _ _ hk2]))
                | (at_builtin; refine wpList_append_lies _ rfl (.tmp 56) (.tmp 58) 44 rfl (w.heap.size + 3) 48 i0 _ 5 64 Try.underlying44 hi hz0 hz1 hz2 rfl (by decide) _ (sm.length + 1) _ rfl (hown2.alloc _) ⟨_, 0, none⟩ 1 1 [Value.string y.name, Value.int IntKind.i64 y.args, Value.int IntKind.i64 y.temps, Value.int IntKind.i64 y.prim, Value.slice ay y.code.length ky] rfl rfl (fun j u hu => (by rw [Addr.add_lit, Nat.zero_add]; exact (cell_new w2 _ 48 _ rfl j).trans (by simpa using hu))) (by intro u hu; simp at hu; rcases hu with rfl | rfl | rfl | rfl | rfl <;> rfl) (by omega) (by unfold maxLen; omega) (by omega) (by first | (simp; omega) | (have := hb2.size; simp; omega)) _ rfl ?_; intro gg3 cap3 w3 hown3 hgr3 hor3 hlt3; have hb3 := grown_below hown2 (Nat.le_trans hsz hb2.size) hgr3))
              go_roundg (gk - 1)
              case measure => omega
              case rel =>
                refine ⟨j + 1, ⟨sm ++ [m] ++ [y], true, sw⟩, some ⟨gg3, 0, none⟩, cap3, _, by omega, by go_num, ?_, by simp, rfl, rfl, hbel.trans (hb2.trans hb3), by simpa using hown3, (HCS.out.append goodM (one_meth m _ hmn (code_in hM))).append goodM (one_meth y _ hyn HYC.out)⟩
                rw [HY.out HS.out]
                simp [insS, he, hg]
            · have hg : gtN y.name m.name = false := by unfold gtN; rw [hlt]; rfl
              go_wp2_with (at_builtin; refine wpList_append_lies _ rfl (.tmp 56) (.tmp 58) 44 rfl (w.heap.size + 3) 48 i0 _ 5 64 Try.underlying44 hi hz0 hz1 hz2 rfl (by decide) _ sm.length _ rfl ((hown.alloc _).alloc _) ⟨_, 0, none⟩ 1 1 [Value.string y.name, Value.int IntKind.i64 y.args, Value.int IntKind.i64 y.temps, Value.int IntKind.i64 y.prim, Value.slice ay y.code.length ky] rfl rfl (fun j u hu => (by rw [Addr.add_lit, Nat.zero_add]; exact (cell_new (World.alloc wr _) _ 48 _ (by simp) j).trans (by simpa using hu))) (by intro u hu; simp at hu; rcases hu with rfl | rfl | rfl | rfl | rfl <;> rfl) (by omega) (by unfold maxLen; omega) (by omega) (by first | (simp; omega) | (have := hb2.size; simp; omega)) _ rfl ?_; intro gg cap2 w2 hown2 hgr hor hlt2; have hb2 := grown_below2 hown hsz hgr)
              go_roundg (gk - 1)
              case measure => omega
              case rel =>
                refine ⟨j + 1, ⟨sm ++ [y], false, sw⟩, some ⟨gg, 0, none⟩, cap2, _, by omega, by go_num, ?_, by simp, rfl, rfl, hbel.trans hb2, by simpa using hown2, HCS.out.append goodM (one_meth y _ hyn HYC.out)⟩
                rw [HY.out HS.out]
                simp [insS, he, hg]
          · go_wp2_with (at_builtin; refine wpList_append_lies _ rfl (.tmp 56) (.tmp 58) 44 rfl (w.heap.size + 3) 48 i0 _ 5 64 Try.underlying44 hi hz0 hz1 hz2 rfl (by decide) _ sm.length _ rfl ((hown.alloc _).alloc _) ⟨_, 0, none⟩ 1 1 [Value.string y.name, Value.int IntKind.i64 y.args, Value.int IntKind.i64 y.temps, Value.int IntKind.i64 y.prim, Value.slice ay y.code.length ky] rfl rfl (fun j u hu => (by rw [Addr.add_lit, Nat.zero_add]; exact (cell_new (World.alloc wr _) _ 48 _ (by simp) j).trans (by simpa using hu))) (by intro u hu; simp at hu; rcases hu with rfl | rfl | rfl | rfl | rfl <;> rfl) (by omega) (by unfold maxLen; omega) (by omega) (by first | (simp; omega) | (have := hb2.size; simp; omega)) _ rfl ?_; intro gg cap2 w2 hown2 hgr hor hlt2; have hb2 := grown_below2 hown hsz hgr)
            go_roundg (gk - 1)
            case measure => omega
            case rel =>
              refine ⟨j + 1, ⟨sm ++ [y], true, sw⟩, some ⟨gg, 0, none⟩, cap2, _, by omega, by go_num, ?_, by simp, rfl, rfl, hbel.trans hb2, by simpa using hown2, HCS.out.append goodM (one_meth y _ hyn HYC.out)⟩
              rw [HY.out HS.out]
              simp [insS, he]
        · have he' : (y.name.toList == m.name.toList) = true := he
          go_wp2_with (at_builtin; refine wpList_append_lies _ rfl (.tmp 39) (.tmp 41) 44 rfl (w.heap.size + 3) 48 i0 _ 5 64 Try.underlying44 hi hz0 hz1 hz2 rfl (by decide) _ sm.length cs rfl ((hown.alloc _).alloc _) ⟨_, 0, none⟩ 1 1 [Value.string m.name, Value.int IntKind.i64 m.args, Value.int IntKind.i64 m.temps, Value.int IntKind.i64 m.prim, Value.slice am m.code.length cm] rfl rfl (fun j u hu => (by rw [Addr.add_lit, Nat.zero_add]; exact (cell_new (World.alloc wr _) _ 48 _ (by simp) j).trans (by simpa using hu))) (by intro u hu; simp at hu; rcases hu with rfl | rfl | rfl | rfl | rfl <;> rfl) (by omega) (by unfold maxLen; omega) (by omega) (by simp; omega) _ rfl ?_; intro gg cap2 w2 hown2 hgr hor hlt2; have hb2 := grown_below2 hown hsz hgr)
          go_roundg (gk - 1)
          case measure => omega
          case rel =>
            refine ⟨j + 1, ⟨sm ++ [m], true, true⟩, some ⟨gg, 0, none⟩, cap2, _, by omega, by go_num, ?_, by simp, rfl, rfl, hbel.trans hb2, by simpa using hown2, HCS.out.append goodM (one_meth m _ hmn (code_in hM))⟩
            rw [HY.out HS.out]
            simp [insS, he]
      · obtain rfl : j = x.methods.length := by omega
        have hF : Hid (insF m x.methods = ⟨sm, sd, sw⟩) := by show _ = _; unfold insF; rw [HS.out, List.take_length]
        have hsw : Hid (sw = decide (0 ≤ numI x.methods m.name)) := by show _ = _; rw [← insF_was hRM, hF.out]
        have hlI : insM x.methods m = if sd then sm else sm ++ [m] := by rw [← insL_ins hRM]; unfold insL; rw [hF.out]
        have hj1 : (x.methods.length : Int) ≤ (x.methods.length : Int) := by omega
        have gA' : wr.heap[w.heap.size]? = some (.cells #[Value.slice (some ⟨b, o, none⟩) X.classes.length cap, Value.slice ah X.heap.length ch, Value.int IntKind.i64 X.epoch] 25 (0, 0)) := by rw [hbel.block _ (by omega)]; exact gA
        have gB' : wr.heap[w.heap.size + 1]? = some (.cells #[Value.string m.name, Value.int IntKind.i64 m.args, Value.int IntKind.i64 m.temps, Value.int IntKind.i64 m.prim, Value.slice am m.code.length cm] 48 (0, 0)) := by rw [hbel.block _ (by omega)]; exact gB
        have mc : ∀ q, wr.cell? ⟨w.heap.size + 1, q, none⟩ = (#[Value.string m.name, Value.int IntKind.i64 m.args, Value.int IntKind.i64 m.temps, Value.int IntKind.i64 m.prim, Value.slice am m.code.length cm] : Array Value)[q]? := fun q => by rw [cell_of_row _ _ _ _ _ _ gB']
        go_upto_if 62 with (fail)
        go_cut [8] (fun ms wz => ∃ (L cap2 : Nat) (az : Option Addr) (csz : List Value), ms = .slice az L cap2 ∧ Below (w.heap.size + 3) W0 wz ∧ wz.ownsRow (w.heap.size + 3) 48 5 (.slice az L cap2) L csz ∧ Cells MethC 5 (InP P w) w csz (insM x.methods m) ∧ L = (insM x.methods m).length)
        case first =>
          cases sd
          · simp only [Bool.false_eq_true, if_false] at hlI
            go_wp2_with (at_builtin; refine wpList_append_lies _ rfl (.tmp 63) (.tmp 65) 44 rfl (w.heap.size + 3) 48 i0 _ 5 64 Try.underlying44 hi hz0 hz1 hz2 rfl (by decide) _ sm.length cs rfl (hown.alloc _) ⟨_, 0, none⟩ 1 1 [Value.string m.name, Value.int IntKind.i64 m.args, Value.int IntKind.i64 m.temps, Value.int IntKind.i64 m.prim, Value.slice am m.code.length cm] rfl rfl (fun j u hu => (by rw [Addr.add_lit, Nat.zero_add]; exact (cell_new wr _ 48 _ rfl j).trans (by simpa using hu))) (by intro u hu; simp at hu; rcases hu with rfl | rfl | rfl | rfl | rfl <;> rfl) (by omega) (by unfold maxLen; omega) (by omega) (by simp; omega) _ rfl ?_; intro gg cap2 w2 hown2 hgr hor hlt2; have hb2 := grown_below hown hsz hgr)
            go_meet
            case rel => exact ⟨_, _, _, _, rfl, hbel.trans hb2, hown2, by rw [hlI]; exact HCS.out.append goodM (one_meth m _ hmn (code_in hM)), by rw [hlI]; simp⟩
          · simp only [if_true] at hlI
            go_wp2_with fail
            go_meet
            case rel => exact ⟨_, _, _, _, rfl, hbel, hown, by rw [hlI]; exact HCS.out, by rw [hlI]⟩
        case rest =>
          obtain ⟨L, cap2, az, csz, rfl, hbz, hownz, hcz, hL⟩ := hcut
          clear gA' gB' mc hown hbel hbw hsz HCS
          have hsz : w.heap.size + 3 ≤ wc.heap.size := by have := hbz.size; omega
          have hbw : Below w.heap.size w wc := hBW.trans (hbz.mono (by omega))
          have gA' : wc.heap[w.heap.size]? = some (.cells #[Value.slice (some ⟨b, o, none⟩) X.classes.length cap, Value.slice ah X.heap.length ch, Value.int IntKind.i64 X.epoch] 25 (0, 0)) := by rw [hbz.block _ (by omega)]; exact gA
          have gC' : wc.heap[w.heap.size + 1 + 1]? = some (.cells #[Value.slice none 0 0, Value.slice none 0 0, Value.int IntKind.i64 0] 25 (0, 0)) := by rw [hbz.block _ (by omega)]; exact gC
          have ac : ∀ q, wc.cell? ⟨w.heap.size, q, none⟩ = (#[Value.slice (some ⟨b, o, none⟩) X.classes.length cap, Value.slice ah X.heap.length ch, Value.int IntKind.i64 X.epoch] : Array Value)[q]? := fun q => by rw [cell_of_row _ _ _ _ _ _ gA']
          have rc : ∀ q, wc.cell? ⟨w.heap.size + 1 + 1, q, none⟩ = (#[Value.slice none 0 0, Value.slice none 0 0, Value.int IntKind.i64 0] : Array Value)[q]? := fun q => by rw [cell_of_row _ _ _ _ _ _ gC']
          have rf : ∀ q, wc.frozen? ⟨w.heap.size + 1 + 1, q, none⟩ = false := fun q => by unfold World.frozen?; simp [gC']
          have v3' := cell_later hbw v3
          by_cases hmany : numI x.methods m.name < 0 ∧ 8 ≤ x.methods.length
          · have hsw' : sw = false := by rw [hsw.out]; simpa using hmany.1
            subst hsw'
            have h8 : (8 : Int) ≤ (x.methods.length : Int) := by omega
            have HE : Hid (∀ W : World, Below w.heap.size w W → InstR P w X (q : Int) m (.slice ah X.heap.length ch) (.returned (.tuple #[WV (.slice none 0 0) (.slice none 0 0) 0, .int .i64 5])) W) := fun W h => ⟨Or.inr ⟨q, x, rfl, HX.out, Or.inl ⟨hmany.1, hmany.2, rfl⟩⟩, h⟩
            clear hsw
            go_wp2
            refine bodyPost_ret (v := .tuple #[WV (.slice none 0 0) (.slice none 0 0) 0, .int .i64 5]) ?_ rfl (HE.out _ (below_set3 hbw (by omega) _ _ _))
            simp [results, Try.results33, go_sem, rc, rf]
          · have HN : Hid (¬ (numI x.methods m.name < 0 ∧ 8 ≤ x.methods.length)) := hmany
            have hLlen : L * 64 ≤ 140737488351232 := by
              rw [hL]
              unfold insM
              split
              · rw [List.length_set]; omega
              · have : x.methods.length < 8 := by omega
                simp
                omega
            obtain ⟨ccs, hcs, hsrc⟩ := RowAt.cells HROW.out goodC
            have HCC : Hid (Cells ClassC 4 P w ccs X.classes) := hcs
            have HSRC : Hid (∀ j u, ccs[j]? = some u → ∃ a, some (⟨b, o, none⟩ : Addr) = some a ∧ w.cell? (a.add j) = some u) := hsrc
            have hcl := hcs.1
            have hMZ : Hid (IsMeths (fun b => (P b ∧ b < w.heap.size ∨ w.heap.size + 3 ≤ b) ∧ b < wc.heap.size) wc (.slice az L cap2) (insM x.methods m)) :=
              own_row goodM hownz (hcz.keep goodM (.of_below hbw) fun b hb => ⟨Or.inl hb, Nat.lt_of_lt_of_le hb.2 hbw.size⟩) hL.symm (fun b h1 h2 => ⟨Or.inr h1, h2⟩) hLlen
            clear hcs hsrc hmany
            have acx := fun x q => ((bel1 wc x).cell (p := ⟨w.heap.size, q, none⟩) (by simp; omega)).trans (ac q)
            have hgd : sw = false → decide (8 ≤ (x.methods.length : Int)) = false := fun h => by
              have := hsw.out
              rw [h] at this
              have h1 : ¬ (0 ≤ numI x.methods m.name) := by simpa using this
              have := HN.out
              simp
              omega
            obtain ⟨u3, hu3⟩ : ∃ u, ccs[q * 4 + 3]? = some u := by
              obtain ⟨u, hu, -⟩ := goodC.there (HCC.out.2 q x HX.out) 3 (by omega)
              exact ⟨u, hu⟩
            have HL : Hid (L = (insM x.methods m).length) := hL
            have HCU : Hid (ccs[q * 4 + 3]? = some u3) := hu3
            have afc : ∀ q, wc.frozen? ⟨w.heap.size, q, none⟩ = false := fun q => by unfold World.frozen?; simp [gA']
            clear hlI hL hsw hu3
            cases hsv : sw
            · have hgd' := hgd hsv
              clear hgd
              go_wp2_with (at_builtin; refine wpList_append_src rfl (.tmp 80) (.tmp 82) 22 46 zC 4 56 rfl Try.underlying22 info46 rfl (by decide) (by decide) wc.heap.size rfl (blk_new _ _ _ rfl) (some ⟨b, o, none⟩) X.classes.length cap rfl ccs hcl (fun j u hu => by obtain ⟨a, e, h⟩ := HSRC.out j u hu; exact ⟨a, e, cell_later (nstep hbw (bel1 _ _)) h⟩) hby ?_; intro gA capA wA hownA hgA hgAl hbA; have hA := nstep (bel1 _ _) hbA; have acA := (fun q => (hA.cell (p := ⟨w.heap.size, q, none⟩) (by simp; omega)).trans (ac q)); have afA := (fun q => (hA.frozen (p := ⟨w.heap.size, q, none⟩) (by simp; omega)).trans (afc q)); have rcA := (fun q => (hA.cell (p := ⟨w.heap.size + 1 + 1, q, none⟩) (by simp; omega)).trans (rc q)); have rfA := (fun q => (hA.frozen (p := ⟨w.heap.size + 1 + 1, q, none⟩) (by simp; omega)).trans (rf q)); have hgc := own_cell hownA HCU.out; have hgf := own_free hownA; have hgB : wc.heap.size ≤ gA := (by rcases hgA with rfl | h; exact Nat.le_refl _; simp at h; omega); have hne1 : ¬ gA = w.heap.size := (by omega); have hne2 : ¬ w.heap.size = gA := (by omega); have hne3 : ¬ gA = w.heap.size + 1 + 1 := (by omega); have hne4 : ¬ w.heap.size + 1 + 1 = gA := (by omega))
              obtain ⟨hF, hFC⟩ := inst_fin (S1 := .slice (some ⟨gA, 0, none⟩) X.classes.length capA) (S2 := .int .i64 (wrap64 (X.epoch + 1))) (S3 := .slice (some ⟨gA, 0, none⟩) X.classes.length capA) (S4 := .slice ah X.heap.length ch) (S5 := .int .i64 (wrap64 (X.epoch + 1))) HX.out hbw hA hgB hsz hownA HCC.out hMZ.out hby
              refine bodyPost_ret (v := .tuple #[WV (.slice (some ⟨gA, 0, none⟩) X.classes.length capA) (.slice ah X.heap.length ch) (epochE X.epoch), .int .i64 0]) ?_ rfl ⟨Or.inr ⟨q, x, rfl, HX.out, Or.inr ⟨HN.out, _, rfl, hFC⟩⟩, hF⟩
              simp [results, Try.results33, go_sem, rcA, rfA, acA, afA, hne1, hne2, hne3, hne4, epochE]
            · clear hgd
              go_wp2_with (at_builtin; refine wpList_append_src rfl (.tmp 80) (.tmp 82) 22 46 zC 4 56 rfl Try.underlying22 info46 rfl (by decide) (by decide) wc.heap.size rfl (blk_new _ _ _ rfl) (some ⟨b, o, none⟩) X.classes.length cap rfl ccs hcl (fun j u hu => by obtain ⟨a, e, h⟩ := HSRC.out j u hu; exact ⟨a, e, cell_later (nstep hbw (bel1 _ _)) h⟩) hby ?_; intro gA capA wA hownA hgA hgAl hbA; have hA := nstep (bel1 _ _) hbA; have acA := (fun q => (hA.cell (p := ⟨w.heap.size, q, none⟩) (by simp; omega)).trans (ac q)); have afA := (fun q => (hA.frozen (p := ⟨w.heap.size, q, none⟩) (by simp; omega)).trans (afc q)); have rcA := (fun q => (hA.cell (p := ⟨w.heap.size + 1 + 1, q, none⟩) (by simp; omega)).trans (rc q)); have rfA := (fun q => (hA.frozen (p := ⟨w.heap.size + 1 + 1, q, none⟩) (by simp; omega)).trans (rf q)); have hgc := own_cell hownA HCU.out; have hgf := own_free hownA; have hgB : wc.heap.size ≤ gA := (by rcases hgA with rfl | h; exact Nat.le_refl _; simp at h; omega); have hne1 : ¬ gA = w.heap.size := (by omega); have hne2 : ¬ w.heap.size = gA := (by omega); have hne3 : ¬ gA = w.heap.size + 1 + 1 := (by omega); have hne4 : ¬ w.heap.size + 1 + 1 = gA := (by omega))
              obtain ⟨hF, hFC⟩ := inst_fin (S1 := .slice (some ⟨gA, 0, none⟩) X.classes.length capA) (S2 := .int .i64 (wrap64 (X.epoch + 1))) (S3 := .slice (some ⟨gA, 0, none⟩) X.classes.length capA) (S4 := .slice ah X.heap.length ch) (S5 := .int .i64 (wrap64 (X.epoch + 1))) HX.out hbw hA hgB hsz hownA HCC.out hMZ.out hby
              refine bodyPost_ret (v := .tuple #[WV (.slice (some ⟨gA, 0, none⟩) X.classes.length capA) (.slice ah X.heap.length ch) (epochE X.epoch), .int .i64 0]) ?_ rfl ⟨Or.inr ⟨q, x, rfl, HX.out, Or.inr ⟨HN.out, _, rfl, hFC⟩⟩, hF⟩
              simp [results, Try.results33, go_sem, rcA, rfA, acA, afA, hne1, hne2, hne3, hne4, epochE]
end Go.Proofs.Ythaefhojnjdheaa
