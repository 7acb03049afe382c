/- cells.Put. -/
import Derived.Test.YtidjpdpbjgnfkaaXb
namespace Go.Proofs.Ytidjpdpbjgnfkaa
open Go.ChangeShapes Go.WideShapes Go.ChangeAt Go.RowKit
set_option linter.unusedSimpArgs false
set_option linter.unusedVariables false
set_option maxRecDepth 8000

/-- A cell of another epoch is so anew. -/
def freshE (x : QE) (s : QS) (ep : Int) : QE := if x.epoch = ep then x else ⟨s, ep, false, []⟩
/-- What was found is remembered. -/
def putE : List QE → QS → Int → QL → List QE
  | [], s, ep, y => [withLineE ⟨s, ep, false, []⟩ y]
  | x :: r, s, ep, y => if eqS x.site s then withLineE (freshE x s ep) y :: r else x :: putE r s ep y
theorem putE_none : ∀ {xs : List QE} {s : QS} {ep : Int} {y : QL}, findI (fun x => eqS x.site s) xs = -1 → putE xs s ep y = xs ++ [withLineE ⟨s, ep, false, []⟩ y]
  | [], s, ep, y, _ => rfl
  | x :: r, s, ep, y, h => by
    have hx : eqS x.site s = false := by
      cases hb : eqS x.site s with
      | false => rfl
      | true => rw [findI_at (j := 0) (x := x) rfl hb (fun i y hi _ => by omega)] at h; simp at h
    have hr : findI (fun x : QE => eqS x.site s) r = -1 := by
      unfold findI at h ⊢
      rw [List.findIdx?_cons, hx] at h
      cases hf : r.findIdx? (fun x => eqS x.site s) with
      | none => rfl
      | some k => rw [hf] at h; simp at h; omega
    simp [putE, hx, putE_none hr]
theorem putE_at : ∀ {xs : List QE} {s : QS} {ep : Int} {y : QL} {j : Nat} {x : QE}, xs[j]? = some x → eqS x.site s = true → (∀ i z, i < j → xs[i]? = some z → eqS z.site s = false) → putE xs s ep y = xs.set j (withLineE (freshE x s ep) y)
  | [], s, ep, y, j, x, h, _, _ => by simp at h
  | z :: r, s, ep, y, 0, x, h, hp, _ => by
    simp at h; subst h
    simp [putE, hp]
  | z :: r, s, ep, y, j + 1, x, h, hp, hn => by
    have hz := hn 0 z (by omega) rfl
    simp only [putE, hz, List.set_cons_succ]
    rw [putE_at (xs := r) (j := j) (x := x) (by simpa using h) hp (fun i u hi hu => hn (i + 1) u (by omega) (by simpa using hu))]
    rfl

/-- One element of a row is another. -/
theorem row_set {α : Type} {E : Lay α} {sz : Nat} (G : Good E sz) {w : World} {g j cap : Nat} {xs : List α} {x' : α} {vs : List Value} {Q S : Nat → Prop} (hj : j < xs.length)
    (hoth : ∀ i y, i ≠ j → xs[i]? = some y → ∃ R : Nat → Prop, ¬ R g ∧ (∀ b, R b → S b) ∧ E R w (fun k => w.cell? ⟨g, i * sz + k, none⟩) y)
    (hblk : ∀ k, k < sz → ∃ u, w.cell? ⟨g, j * sz + k, none⟩ = some u) (hl : vs.length = sz) (hE : E Q w (fun k => vs[k]?) x') (hQ : ¬ Q g) (hQS : ∀ b, Q b → S b) (hSg : S g) (hc1 : xs.length ≤ cap) (hc2 : cap ≤ maxLen) :
    IsRow E sz 0 S (w.setCells g (j * sz) vs) (.slice (some ⟨g, 0, none⟩) xs.length cap) (xs.set j x') := by
  have hK : ∀ R : Nat → Prop, ¬ R g → Keeps R w (w.setCells g (j * sz) vs) := fun R hR => Keeps.of_block fun b hb _ => setCells_else (by intro e; subst e; exact hR hb) _ _ _
  refine ⟨some ⟨g, 0, none⟩, cap, by simp, by simpa using hc1, hc2, by simp, fun i y hy => ⟨g, 0, rfl, hSg, ?_⟩⟩
  by_cases hij : i = j
  · subst hij
    rw [List.getElem?_set_self hj] at hy
    cases hy
    refine G.move hE hQS (hK Q hQ) fun k hk v hv => ?_
    have := World.cell?_setCells_in g vs (i * sz) w (fun q hq => by obtain ⟨u, hu⟩ := hblk q (by omega); rw [hu]; rfl) k (by omega)
    rw [Nat.zero_add, this]
    rw [List.getElem?_eq_getElem (by omega)] at hv
    exact hv
  · rw [List.getElem?_set_ne (by omega)] at hy
    obtain ⟨R, hR, hRS, hT⟩ := hoth i y hij hy
    refine G.move hT hRS (hK R hR) fun k hk v hv => ?_
    rw [Nat.zero_add, World.cell?_setCells_out g vs (j * sz) w _ (fun q hq => ?_)]
    · exact hv
    · by_cases hlt : i < j
      · left
        have := Nat.mul_le_mul_right sz (show i + 1 ≤ j by omega)
        rw [Nat.add_mul] at this
        simp; omega
      · right
        have := Nat.mul_le_mul_right sz (show j + 1 ≤ i by omega)
        rw [Nat.add_mul] at this
        simp; omega

set_option maxHeartbeats 4000000 in
theorem put_any {P : Nat → Prop} (xs : List QE) (v : Value) (s : QS) (ep c fd : Int) (w : World) (hh : IsCells P w v xs) (hby : (xs.length + 1) * 72 ≤ 140737488355328) (hls : ∀ x ∈ xs, x.lines.length * 16 ≤ 281474976710656) :
    Calls Try.prog 12 #[v, SV s, .int .i64 ep, .int .i64 c, .int .i64 fd] w fun e w' => ∃ g cap, e = .returned (.slice (some ⟨g, 0, none⟩) (putE xs s ep ⟨c, fd⟩).length cap) ∧ IsCells (fun b => w.heap.size ≤ b) w' (.slice (some ⟨g, 0, none⟩) (putE xs s ep ⟨c, fd⟩).length cap) (putE xs s ep ⟨c, fd⟩) ∧ Below w.heap.size w w' := by
  have hml : xs.length ≤ maxLen := by unfold maxLen; omega
  obtain ⟨ad, cap, rfl, -, -, -, -⟩ := id hh
  have hb0 := bel1 w (.cells #[.int .i64 s.cls, .string s.name, .int .i64 s.at'] 28)
  have hs0 := siteNew w s 28
  go_enter Try.func12, Try.ntmps12
  go_wp2_with fail
  refine (eowns_any xs _ _ (hh.later goodE hb0) (by omega) hls).mono ?_
  rintro e w1 ⟨g, rfl, hown, hg, hb1⟩
  have hs1 := hs0.later hb1
  have hb01 : Below w.heap.size w w1 := nstep1 (Below.refl _ _) hb1
  have hg0 : w.heap.size < g := by simp at hg; omega
  clear hb1 hb0 hs0 hg hh
  obtain ⟨s0, s1, s2⟩ := id hs1
  go_wp2_with fail
  refine (cellOf_any xs _ s _ (tight_cells (hown.row0 goodET hml))).mono ?_
  rintro e w2 ⟨rfl, hb2⟩
  replace hown := hown.later goodET hb2
  obtain ⟨s0, s1, s2⟩ := hs1.later hb2
  have hb02 : Below w.heap.size w w2 := nstep hb01 hb2
  clear hb2 hb01
  rcases findI_cases (fun x : QE => eqS x.site s) xs with hf | ⟨j, x, hf, hx, hp, hn⟩
  · have HO : Hid (putE xs s ep ⟨c, fd⟩ = xs ++ [withLineE ⟨s, ep, false, []⟩ ⟨c, fd⟩]) := putE_none hf
    rw [hf]
    have hrow := hown.row0 goodET hml
    go_wp2_with (at_builtin; refine wpList_append_one (R := fun b => g ≤ b ∧ b < w2.heap.size) goodET rfl (.tmp 22) (.tmp 26) 22 rfl 49 _ 72 Try.underlying22 info49 rfl xs _ rfl (hrow.later goodET (bel1 _ _)) _ 49 [.int .i64 s.cls, .string s.name, .int .i64 s.at', .int .i64 ep, .bool false, .slice none 0 0] rfl (heap_alloc_new _ _) rfl ⟨s, ep, false, []⟩ (P' := fun b => False) ⟨rfl, rfl, rfl, rfl, rfl, _, rfl, none, rfl, fun _ => rfl, none, 0, rfl, by simp, by simp, by simp, fun i x hx => by simp at hx⟩ (fun h => by cases h) (by unfold maxLen; omega) hby (fun _ h => h) (fun _ h => h.elim) ?_; intro g' cap' w3 hrow3 hg3 hgl3 hb3 hblk3; obtain ⟨cur3, q1, q2, q3, q4, q5, q6⟩ := hblk3; have k0 := q6 0 _ rfl; have k1 := q6 1 _ rfl; have k2 := q6 2 _ rfl; have k3 := q6 3 _ rfl; have k4 := q6 4 _ rfl; have k5 := q6 5 _ rfl; simp only [Nat.add_zero] at k0; have fz3 : ∀ o, w3.frozen? ⟨g', o, none⟩ = false := (fun o => by simp [World.frozen?, q1]); have hn1 : (xs.length : Int) < (xs.length : Int) + 1 := (by omega); have hn0 : (0 : Int) ≤ (xs.length : Int) := (by omega); clear hrow3)
    refine (withLine_any (P := fun _ => False) ⟨s, ep, false, []⟩ ⟨c, fd⟩ _ w3 ⟨none, rfl, fun _ => rfl, none, 0, rfl, by simp, by simp, by simp, fun i x hx => by simp at hx⟩).mono ?_
    rintro e w4 ⟨a4, n4, c4, rfl, hn4, hL4, hb4⟩
    have hg3' : w2.heap.size + 1 ≤ g' := by simpa using hg3
    have hz2 := hb02.size
    have hb3' : Below w.heap.size w w3 := nstep1 hb02 hb3
    have hz3 := hb3'.size
    generalize withLineE ⟨s, ep, false, []⟩ ⟨c, fd⟩ = x' at *
    have k0 := cell_later hb4 k0
    have k1 := cell_later hb4 k1
    have k2 := cell_later hb4 k2
    have k3 := cell_later hb4 k3
    have k4 := cell_later hb4 k4
    have k5 := cell_later hb4 k5
    have f4 : ∀ o, w4.frozen? ⟨g', o, none⟩ = false := fun o => (hb4.frozen (p := ⟨g', o, none⟩) hgl3).trans (fz3 o)
    have HOTH : Hid (∀ i y, i ≠ xs.length → (xs ++ [(⟨s, ep, false, []⟩ : QE)])[i]? = some y → ∃ R : Nat → Prop, ¬ R g' ∧ (∀ b, R b → w.heap.size ≤ b) ∧ CellC R w4 (fun k => w4.cell? ⟨g', i * 6 + k, none⟩) y) := fun i y hi hy => by
      refine ⟨fun b => g ≤ b ∧ b < w2.heap.size, fun h => by omega, fun b h => by omega, CellT.plain ?_⟩
      refine goodET.move (q5.2 i y hy) (fun _ h => h) (.of_below hb4) fun k hk v hv => ?_
      rw [List.getElem?_take] at hv
      split at hv
      · refine cell_later hb4 ?_
        rw [cell_of_row _ _ _ _ _ _ q1]
        simpa using hv
      · cases hv
    have HBK : Hid (∀ k, k < 6 → ∃ u, w4.cell? ⟨g', xs.length * 6 + k, none⟩ = some u) := fun k hk => by
      match k, hk with
      | 0, _ => exact ⟨_, k0⟩
      | 1, _ => exact ⟨_, k1⟩
      | 2, _ => exact ⟨_, k2⟩
      | 3, _ => exact ⟨_, k3⟩
      | 4, _ => exact ⟨_, k4⟩
      | 5, _ => exact ⟨_, k5⟩
    clear hb3 fz3 q6 q5 hrow hf hown
    subst hn4
    go_wp2_with fail
    go_ret
    rw [HO.out]
    refine ⟨g', cap', by simp, ?_, ((((((hb3'.trans (hb4.mono hz3)).setCell (by simp; omega) _).setCell (by simp; omega) _).setCell (by simp; omega) _).setCell (by simp; omega) _).setCell (by simp; omega) _).setCell (by simp; omega) _⟩
    have := row_set goodE (g := g') (j := xs.length) (cap := cap') (xs := xs ++ [⟨s, ep, false, []⟩]) (x' := x') (vs := [.int .i64 x'.site.cls, .string x'.site.name, .int .i64 x'.site.at', .int .i64 x'.epoch, .bool x'.many, .slice a4 x'.lines.length c4]) (Q := fun b => False ∨ w3.heap.size ≤ b) (S := fun b => w.heap.size ≤ b) (by simp) HOTH.out HBK.out rfl ⟨rfl, rfl, rfl, rfl, rfl, _, rfl, hL4⟩ (by rintro (h | h) <;> first | exact h | omega) (fun b h => by rcases h with h | h <;> first | exact h.elim | omega) (by omega) (by simpa using q3) q4
    rw [show (xs ++ [(⟨s, ep, false, []⟩ : QE)]).set xs.length x' = xs ++ [x'] by simp, show (xs ++ [(⟨s, ep, false, []⟩ : QE)]).length = xs.length + 1 by simp] at this
    rw [show (xs ++ [x']).length = xs.length + 1 by simp]
    exact this
  · have HO : Hid (putE xs s ep ⟨c, fd⟩ = xs.set j (withLineE (freshE x s ep) ⟨c, fd⟩)) := putE_at hx hp hn
    have hj := lt_of_get hx
    have hj0 : (0 : Int) ≤ (j : Int) := by omega
    have hj1 : (j : Int) < (xs.length : Int) := by omega
    obtain ⟨k0, k1, k2, k3, k4, lv, k5, htl⟩ := hown.2 j x hj hx
    replace k0 : w2.cell? ⟨g, j * 6, none⟩ = some (.int .i64 x.site.cls) := k0
    replace k1 : w2.cell? ⟨g, j * 6 + 1, none⟩ = some (.string x.site.name) := k1
    replace k2 : w2.cell? ⟨g, j * 6 + 2, none⟩ = some (.int .i64 x.site.at') := k2
    replace k3 : w2.cell? ⟨g, j * 6 + 3, none⟩ = some (.int .i64 x.epoch) := k3
    replace k4 : w2.cell? ⟨g, j * 6 + 4, none⟩ = some (.bool x.many) := k4
    replace k5 : w2.cell? ⟨g, j * 6 + 5, none⟩ = some lv := k5
    have hz2 := hb02.size
    have fz2 : ∀ o, w2.frozen? ⟨g, o, none⟩ = false := hown.unfrozen
    have hgl : g < w2.heap.size := by obtain ⟨⟨cur, h1, -⟩, -⟩ := hown; exact blk_lt h1
    have HOTH : Hid (∀ w', Keeps (fun b => g < b ∧ b < w2.heap.size) w2 w' → (∀ i k, i < xs.length → i ≠ j → k < 6 → ∀ v, w2.cell? ⟨g, i * 6 + k, none⟩ = some v → w'.cell? ⟨g, i * 6 + k, none⟩ = some v) → ∀ i y, i ≠ j → xs[i]? = some y → ∃ R : Nat → Prop, ¬ R g ∧ (∀ b, R b → w.heap.size ≤ b) ∧ CellC R w' (fun k => w'.cell? ⟨g, i * 6 + k, none⟩) y) := fun w' hk hcl i y hi hy => by
      refine ⟨fun b => g < b ∧ b < w2.heap.size, fun h => by omega, fun b h => by omega, CellT.plain ?_⟩
      exact goodET.move (hown.2 i y (lt_of_get hy) hy) (fun _ h => h) hk fun k hk' v hv => hcl i k (lt_of_get hy) hi hk' v hv
    rw [hf]
    clear hf hn hx hs1
    by_cases he : x.epoch = ep
    · have HF : Hid (freshE x s ep = x) := by show _ = _; unfold freshE; rw [if_pos he]
      rw [HF.out] at HO
      subst he
      go_wp2_with fail
      refine (withLine_any x ⟨c, fd⟩ lv w2 htl).mono ?_
      rintro e w3 ⟨a3, n3, c3, rfl, hn3, hL3, hb3⟩
      generalize withLineE x ⟨c, fd⟩ = x' at *
      have HO3 : Hid (∀ i y, i ≠ j → xs[i]? = some y → ∃ R : Nat → Prop, ¬ R g ∧ (∀ b, R b → w.heap.size ≤ b) ∧ CellC R w3 (fun k => w3.cell? ⟨g, i * 6 + k, none⟩) y) := HOTH.out w3 (.of_below hb3) fun i k _ _ _ v hv => cell_later hb3 hv
      have m0 := cell_later hb3 k0
      have m1 := cell_later hb3 k1
      have m2 := cell_later hb3 k2
      have m3 := cell_later hb3 k3
      have m4 := cell_later hb3 k4
      have m5 := cell_later hb3 k5
      have hbw3 := nstep hb02 hb3
      clear k0 k1 k2 k3 k4 k5 HOTH hown htl s0 s1 s2
      have f3 : ∀ o, w3.frozen? ⟨g, o, none⟩ = false := fun o => (hb3.frozen (p := ⟨g, o, none⟩) hgl).trans (fz2 o)
      have HBK : Hid (∀ k, k < 6 → ∃ u, w3.cell? ⟨g, j * 6 + k, none⟩ = some u) := fun k hk => by
        match k, hk with
        | 0, _ => exact ⟨_, m0⟩
        | 1, _ => exact ⟨_, m1⟩
        | 2, _ => exact ⟨_, m2⟩
        | 3, _ => exact ⟨_, m3⟩
        | 4, _ => exact ⟨_, m4⟩
        | 5, _ => exact ⟨_, m5⟩
      subst hn3
      go_wp2_with fail
      go_ret
      rw [HO.out]
      refine ⟨g, xs.length, by simp, ?_, (((((hbw3.setCell (by simp; omega) _).setCell (by simp; omega) _).setCell (by simp; omega) _).setCell (by simp; omega) _).setCell (by simp; omega) _).setCell (by simp; omega) _⟩
      have := row_set goodE (g := g) (j := j) (cap := xs.length) (xs := xs) (x' := x') (vs := [.int .i64 x'.site.cls, .string x'.site.name, .int .i64 x'.site.at', .int .i64 x'.epoch, .bool x'.many, .slice a3 x'.lines.length c3]) (Q := fun b => (g < b ∧ b < w2.heap.size) ∨ w2.heap.size ≤ b) (S := fun b => w.heap.size ≤ b) hj HO3.out HBK.out rfl ⟨rfl, rfl, rfl, rfl, rfl, _, rfl, hL3⟩ (by rintro (h | h) <;> first | exact h | omega) (fun b h => by rcases h with h | h <;> first | exact h.elim | omega) (by omega) (Nat.le_refl _) hml
      rw [show (xs.set j x').length = xs.length by simp]
      exact this
    · have HF : Hid (freshE x s ep = ⟨s, ep, false, []⟩) := by show _ = _; unfold freshE; rw [if_neg he]
      rw [HF.out] at HO
      have hd : (x.epoch != ep) = true := by simpa using he
      go_wp2_with fail
      have hin := fun k (hk : k < 6) => World.cell?_setCells_in g [.int .i64 s.cls, .string s.name, .int .i64 s.at', .int .i64 ep, .bool false, .slice none 0 0] (j * 6) w2 (fun q hq => by
        simp only [List.length_cons, List.length_nil] at hq
        match q, hq with
        | 0, _ => show (w2.cell? ⟨g, j * 6, none⟩).isSome = true; rw [k0]; rfl
        | 1, _ => rw [k1]; rfl
        | 2, _ => rw [k2]; rfl
        | 3, _ => rw [k3]; rfl
        | 4, _ => rw [k4]; rfl
        | 5, _ => rw [k5]; rfl) k (by simpa using hk)
      have hW : Keeps (fun b => g < b ∧ b < w2.heap.size) w2 (w2.setCells g (j * 6) [.int .i64 s.cls, .string s.name, .int .i64 s.at', .int .i64 ep, .bool false, .slice none 0 0]) := Keeps.of_block fun b hb _ => setCells_else (by omega) _ _ _
      have hWo : ∀ i k, i < xs.length → i ≠ j → k < 6 → ∀ v, w2.cell? ⟨g, i * 6 + k, none⟩ = some v → (w2.setCells g (j * 6) [.int .i64 s.cls, .string s.name, .int .i64 s.at', .int .i64 ep, .bool false, .slice none 0 0]).cell? ⟨g, i * 6 + k, none⟩ = some v := fun i k hi hij hk v hv => by
        rw [World.cell?_setCells_out g _ (j * 6) w2 _ (fun _ _ => ?_)]
        · exact hv
        · simp; omega
      have hWb : Below w.heap.size w (w2.setCells g (j * 6) [.int .i64 s.cls, .string s.name, .int .i64 s.at', .int .i64 ep, .bool false, .slice none 0 0]) := (((((hb02.setCell (by simp; omega) _).setCell (by simp; omega) _).setCell (by simp; omega) _).setCell (by simp; omega) _).setCell (by simp; omega) _).setCell (by simp; omega) _
      have hWz : (w2.setCells g (j * 6) [.int .i64 s.cls, .string s.name, .int .i64 s.at', .int .i64 ep, .bool false, .slice none 0 0]).heap.size = w2.heap.size := setCells_size _ _ _
      have hWf : ∀ o, (w2.setCells g (j * 6) [.int .i64 s.cls, .string s.name, .int .i64 s.at', .int .i64 ep, .bool false, .slice none 0 0]).frozen? ⟨g, o, none⟩ = false := fun o => by simpa [World.setCells] using fz2 o
      change Calls Try.prog 31 _ (w2.setCells g (j * 6) [.int .i64 s.cls, .string s.name, .int .i64 s.at', .int .i64 ep, .bool false, .slice none 0 0]) _
      generalize (w2.setCells g (j * 6) [.int .i64 s.cls, .string s.name, .int .i64 s.at', .int .i64 ep, .bool false, .slice none 0 0]) = W2 at *
      refine (withLine_any (P := fun _ => False) ⟨s, ep, false, []⟩ ⟨c, fd⟩ _ W2 ⟨none, rfl, fun _ => rfl, none, 0, rfl, by simp, by simp, by simp, fun i x hx => by simp at hx⟩).mono ?_
      rintro e w3 ⟨a3, n3, c3, rfl, hn3, hL3, hb3⟩
      generalize withLineE ⟨s, ep, false, []⟩ ⟨c, fd⟩ = x' at *
      have HO3 : Hid (∀ i y, i ≠ j → xs[i]? = some y → ∃ R : Nat → Prop, ¬ R g ∧ (∀ b, R b → w.heap.size ≤ b) ∧ CellC R w3 (fun k => w3.cell? ⟨g, i * 6 + k, none⟩) y) := HOTH.out w3 (hW.trans (.of_below hb3)) fun i k h1 h2 h3 v hv => cell_later hb3 (hWo i k h1 h2 h3 v hv)
      have m0 : w3.cell? ⟨g, j * 6, none⟩ = some (.int .i64 s.cls) := cell_later hb3 (hin 0 (by omega))
      have m1 : w3.cell? ⟨g, j * 6 + 1, none⟩ = some (.string s.name) := cell_later hb3 (hin 1 (by omega))
      have m2 : w3.cell? ⟨g, j * 6 + 2, none⟩ = some (.int .i64 s.at') := cell_later hb3 (hin 2 (by omega))
      have m3 : w3.cell? ⟨g, j * 6 + 3, none⟩ = some (.int .i64 ep) := cell_later hb3 (hin 3 (by omega))
      have m4 : w3.cell? ⟨g, j * 6 + 4, none⟩ = some (.bool false) := cell_later hb3 (hin 4 (by omega))
      have m5 : w3.cell? ⟨g, j * 6 + 5, none⟩ = some (.slice none 0 0) := cell_later hb3 (hin 5 (by omega))
      have hbw3 := nstep hWb hb3
      clear k0 k1 k2 k3 k4 k5 HOTH hown htl s0 s1 s2
      have f3 : ∀ o, w3.frozen? ⟨g, o, none⟩ = false := fun o => (hb3.frozen (p := ⟨g, o, none⟩) (by simp; omega)).trans (hWf o)
      clear hin hW hWo hWf hWb
      have HBK : Hid (∀ k, k < 6 → ∃ u, w3.cell? ⟨g, j * 6 + k, none⟩ = some u) := fun k hk => by
        match k, hk with
        | 0, _ => exact ⟨_, m0⟩
        | 1, _ => exact ⟨_, m1⟩
        | 2, _ => exact ⟨_, m2⟩
        | 3, _ => exact ⟨_, m3⟩
        | 4, _ => exact ⟨_, m4⟩
        | 5, _ => exact ⟨_, m5⟩
      subst hn3
      go_wp2_with fail
      go_ret
      rw [HO.out]
      refine ⟨g, xs.length, by simp, ?_, (((((hbw3.setCell (by simp; omega) _).setCell (by simp; omega) _).setCell (by simp; omega) _).setCell (by simp; omega) _).setCell (by simp; omega) _).setCell (by simp; omega) _⟩
      have := row_set goodE (g := g) (j := j) (cap := xs.length) (xs := xs) (x' := x') (vs := [.int .i64 x'.site.cls, .string x'.site.name, .int .i64 x'.site.at', .int .i64 x'.epoch, .bool x'.many, .slice a3 x'.lines.length c3]) (Q := fun b => False ∨ W2.heap.size ≤ b) (S := fun b => w.heap.size ≤ b) hj HO3.out HBK.out rfl ⟨rfl, rfl, rfl, rfl, rfl, _, rfl, hL3⟩ (by rintro (h | h) <;> first | exact h | omega) (fun b h => by rcases h with h | h <;> first | exact h.elim | omega) (by omega) (Nat.le_refl _) hml
      rw [show (xs.set j x').length = xs.length by simp]
      exact this
end Go.Proofs.Ytidjpdpbjgnfkaa
