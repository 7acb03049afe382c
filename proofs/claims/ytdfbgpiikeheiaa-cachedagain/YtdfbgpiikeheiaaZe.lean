/- Frames: arguments that are taken off the stack; sites. -/
import Derived.Test.YtdfbgpiikeheiaaZd
import Derived.Deep.AppendLies
namespace Go.Proofs.Ytdfbgpiikeheiaa
open Go.ChangeShapes Go.WideShapes Go.ChangeAt Go.RowKit
set_option linter.unusedSimpArgs false
set_option linter.unusedVariables false
set_option maxRecDepth 8000

theorem run_append_none {P : Program} (w : World) (t ty e : TypeId) (i : TypeInfo) (ht : P.underlying t = some (.slice e)) (hi : P.info? e = some i) (B : Nat) (ad : Option Addr) (cap : Nat) :
    (Builtin.append_ #[t, t] ty #[.slice (some ⟨B, 0, none⟩) 0 0, .slice ad 0 cap]).run P w = .ok (.slice (some ⟨B, 0, none⟩) 0 0) w := by
  have hl : ∀ (x : Addr), (loadCells x 0).run P w = .ok #[] w := fun x => by simpa using run_loadCells_list (P := P) w x [] (by simp)
  cases ad <;> simp [Builtin.append_, run_underlying ht, sizeOf, typeInfo, hi, Builtin.lenOf, Builtin.firstCells, storeCells, hl]

theorem wpList_append_src {ops : Array Oper} {rest : List Oper} {o : Oper} {a : Act} {w : World} {Q : Exit → Act → World → Prop} (hgd : o.guard = none) (s x : Operand) (T e : TypeId) (z : Value) (sz bytes : Nat)
    (hop : o.op = Op.call { callee := Callee.builtin Builtin.append, args := #[s, x], argTypes := #[T, T] }) (hT : Try.prog.underlying T = some (.slice e)) (hI : (Try.prog.info? e).map (fun i => (i.zero, i.size, i.bytes)) = some (some z, sz, bytes)) (hzs : z.cells.size = sz) (hsz : 0 < sz) (hbz : 0 < bytes)
    (B : Nat) (hs : a.eval s = .slice (some ⟨B, 0, none⟩) 0 0) (hB : w.heap[B]? = some (.cells #[] e (0, 0)))
    (ad : Option Addr) (n cap : Nat) (hx : a.eval x = .slice ad n cap) (cs : List Value) (hlen : cs.length = n * sz) (hsrc : ∀ j u, cs[j]? = some u → ∃ b, ad = some b ∧ w.cell? (b.add j) = some u) (hn : n * bytes ≤ 140737488351232)
    (hK : ∀ g cap' w', w'.ownsRow B e sz (.slice (some ⟨g, 0, none⟩) n cap') n cs → (g = B ∨ w.heap.size ≤ g) → g < w'.heap.size → Below w.heap.size w w' → wpList Try.prog ops Q rest (a.put o.dst (.slice (some ⟨g, 0, none⟩) n cap')) w') :
    wpList Try.prog ops Q (o :: rest) a w := by
  refine wpList_plain hgd fun K hKK => ?_
  obtain ⟨i0, hi, hz0, hz1, hz2⟩ := info_parts hI
  have hBl := blk_lt hB
  by_cases h0 : n = 0
  · subst h0
    have hcs : cs = [] := List.eq_nil_of_length_eq_zero (by simpa using hlen)
    have hrun := run_append_none (P := Try.prog) w T o.type e i0 hT hi B ad cap
    unfold Oper.wp
    simp [execOp, hop, resolve, invoke, builtin, hs, hx, hrun, Result.andThen]
    refine hKK _ _ (hK B 0 w ?_ (Or.inl rfl) hBl (Below.refl _ _))
    rw [hcs]
    exact ⟨by simp, .inr ⟨B, 0, #[], rfl, Nat.le_refl _, hB, Nat.le_refl _, by unfold maxLen; omega, by simp, by simp⟩⟩
  · obtain ⟨b, rfl⟩ : ∃ b, ad = some b := by
      have : 0 < cs.length := by rw [hlen]; exact Nat.mul_pos (by omega) hsz
      obtain ⟨b, e, -⟩ := hsrc 0 cs[0] (by simp [this])
      exact ⟨b, e⟩
    have hnb : n ≤ 140737488351232 := Nat.le_trans (Nat.le_mul_of_pos_right n hbz) hn
    obtain ⟨v', w', hrun, r1, r2⟩ := run_append_arg_grows (P := Try.prog) w T o.type e i0 _ sz bytes hT hi hz0 hz1 hz2 hzs hsz ⟨B, 0, none⟩ 0 0 [] (by simp) (fun j u hu => by simp at hu) b n cap cs hlen (fun j u hu => by obtain ⟨b', e, h⟩ := hsrc j u hu; cases e; exact h) (by omega) (by unfold maxLen; omega) (by rw [Nat.zero_add]; omega)
    simp only [Nat.zero_add, List.nil_append] at r1
    obtain ⟨g, cap', rfl, hg, hgl⟩ := r1.form (by omega)
    unfold Oper.wp
    simp [execOp, hop, resolve, invoke, builtin, hs, hx, hrun, Result.andThen]
    refine hKK _ _ (hK g cap' w' ?_ (Or.inr hg) hgl ((Below.refl _ _).grown r2 (Nat.le_refl _) (fun k hk => by cases hk)))
    obtain ⟨q1, q2⟩ := r1
    refine ⟨q1, ?_⟩
    rcases q2 with q2 | ⟨g', c', cur, e, h1, h2⟩
    · exact .inl q2
    · exact .inr ⟨g', c', cur, e, by omega, h2⟩

theorem eqlNil (a : Option Addr) (n c : Nat) (w : World) : (binOp .eql 28 (.slice a n c) (.slice none 0 0)).run Try.prog w = .ok (.bool (a == none)) w := by
  have u := Try.underlying28
  cases a <;> go_simp <;> rfl
set_option maxHeartbeats 1000000 in
theorem clone_any {P : Nat → Prop} (xs : List QV) (v : Value) (w : World) (h : IsVals P w v xs) : Calls Try.prog 126 #[v] w fun e w' => ∃ a c, e = .returned (.slice a xs.length c) ∧ IsVals (fun b => w.heap.size ≤ b ∧ b < w'.heap.size) w' (.slice a xs.length c) xs ∧ Below w.heap.size w w' := by
  obtain ⟨ad, cap, rfl, hl, hcap, hby, hrow⟩ := h
  cases ad with
  | none =>
    have hx : xs = [] := by
      cases xs with
      | nil => rfl
      | cons x r => obtain ⟨b, o, e, -⟩ := hrow 0 x rfl; cases e
    subst hx
    have hq := eqlNil none 0 cap
    go_enter Try.func126, Try.ntmps126
    go_wp2
    go_ret
    exact ⟨none, 0, rfl, ⟨none, 0, rfl, by simp, by simp, by simp, fun i x hx => by simp at hx⟩, Below.refl _ _⟩
  | some ad =>
    obtain ⟨cs, hcs, hsrc⟩ := hrow.cells goodV
    have hvc := vcells_of_row (E := ()) hcs
    have hlen := hcs.1
    clear hrow
    have hq := eqlNil (some ad) xs.length cap
    go_enter Try.func126, Try.ntmps126
    go_wp2_with (at_builtin; refine wpList_append_src rfl (.tmp 5) (.tmp 6) 28 27 _ 2 16 rfl Try.underlying28 info27 rfl (by omega) (by omega) w.heap.size rfl (by first | exact heap_alloc_new _ _ | (simp; done)) (some ad) xs.length cap rfl cs hlen (fun j u hj => by obtain ⟨b, e, h⟩ := hsrc j u hj; exact ⟨b, e, cell_later (bel1 _ _) h⟩) hby ?_; intro g cap' w' hown hg hgl hb)
    go_ret
    have hbw : Below w.heap.size w w' := nstep1 (Below.refl _ _) hb
    refine ⟨some ⟨g, 0, none⟩, cap', rfl, ?_, hbw⟩
    obtain ⟨q1, q2 | ⟨g', c', cur, e, h1, h2, h3, h4, h5, h6⟩⟩ := hown
    · cases q2.1
    · cases e
      have hg2 : w.heap.size ≤ g := by rcases hg with h | h <;> simp at * <;> omega
      exact Cells.row (E := ValC) (sz := 2) (cs := cs) ⟨hlen, fun i x hx => hcs.2 i x hx⟩ goodV ⟨hg2, hgl⟩ h2 h6 h3 h4 hby
theorem ownsAt.tail {w : World} {g o cap : Nat} {xs : List QV} (h : ownsAt w 0 27 2 (.slice (some ⟨g, o, none⟩) xs.length cap) xs.length (vcells xs)) {k : Nat} (hk : k ≤ xs.length) (hb : xs.length ≤ 1000000000) : IsVals (fun b => b = g) w (.slice (some ⟨g, o + k * 2, none⟩) (xs.drop k).length (cap - k)) (xs.drop k) := by
  have hv := h.vals (by omega)
  obtain ⟨a', c', e, h1, h2, h3, hr⟩ := hv
  cases e
  have hl : (xs.drop k).length = xs.length - k := by simp
  refine ⟨_, _, rfl, by omega, by unfold maxLen at *; omega, by omega, fun i x hx => ⟨g, o + k * 2, rfl, rfl, ?_⟩⟩
  rw [List.getElem?_drop] at hx
  obtain ⟨b, o', e, -, h0, h1⟩ := hr _ x hx
  cases e
  exact ⟨by show w.cell? ⟨_, _, _⟩ = _; rw [show o + k * 2 + i * 2 + 0 = o + (k + i) * 2 + 0 by omega]; exact h0, by show w.cell? ⟨_, _, _⟩ = _; rw [show o + k * 2 + i * 2 + 1 = o + (k + i) * 2 + 1 by omega]; exact h1⟩
theorem popArgs_end {T : Nat → Nat} {K : Nat} {w w1 : World} {fb : Nat} {f : Fr} {cv av tv kv : Value} {a : Option Addr} {cap k : Nat} (h : FrAt T K w fb f cv av tv (.slice a f.stack.length cap) kv) (hk : k ≤ f.stack.length) {av' : Value} (hb : Below w.heap.size w w1) (hv : IsVals (fun b => w.heap.size ≤ b ∧ b < w1.heap.size) w1 av' (f.stack.drop k)) :
    ∃ T', Ext T T' w ∧ FrAt T' K (w1.setCell ⟨fb, 10, none⟩ (.slice a k cap)) fb { f with stack := f.stack.take k } cv av tv (.slice a k cap) kv ∧ IsVals (Fx T' (w1.setCell ⟨fb, 10, none⟩ (.slice a k cap))) (w1.setCell ⟨fb, 10, none⟩ (.slice a k cap)) av' (f.stack.drop k) ∧ Kp (fun t => t = K) T w (w1.setCell ⟨fb, 10, none⟩ (.slice a k cap)) := by
  have hlt := blk_lt h.box
  have e := tagged_ext T w 0
  have kk : Kp (fun t => t = K) T w (w1.setCell ⟨fb, 10, none⟩ (.slice a k cap)) := (Kp.of_below hb).set (fun _ => h.tag) _ _
  have h' : FrAt (tagged T w 0) K w fb f cv av tv (.slice a f.stack.length cap) kv := h.keep (S := fun _ => False) e (Kp.refl _ _ _) id id id id
  refine ⟨tagged T w 0, e, h'.cut (m := k) (kk.tags e) (fb_set10 (box_later' h.box hb) _ _) hk, ?_, kk⟩
  refine hv.keep goodV (Keeps.of_setCell (fun hp => ?_) _) fun b hb' => ⟨by rw [size_setCell]; exact hb'.2, tagged_new hb'.1⟩
  have := hp.1
  simp only at this
  omega
set_option maxHeartbeats 2000000 in
theorem popArgs_any {T : Nat → Nat} {K : Nat} {w : World} {fb : Nat} {f : Fr} {cv av tv sv kv : Value} (h : FrAt T K w fb f cv av tv sv kv) (n : Int) (k : Nat) (hk : k = fromE f.stack n) : Calls Try.prog 122 #[.pointer (some ⟨fb, 0, none⟩), .int .i64 n] w fun e w' => ∃ a c T' sv', e = .returned (.slice a (f.stack.drop k).length c) ∧ Ext T T' w ∧ FrAt T' K w' fb { f with stack := f.stack.take k } cv av tv sv' kv ∧ IsVals (Fx T' w') w' (.slice a (f.stack.drop k).length c) (f.stack.drop k) ∧ Kp (fun t => t = K) T w w' := by
  have hlt := blk_lt h.box
  have c0 : w.cell? ⟨fb, 10, none⟩ = some sv := by rw [cell_of_row _ _ _ _ _ _ h.box]; rfl
  have hfew := h.few
  have hkl : k ≤ f.stack.length := by rw [hk]; unfold fromE; omega
  have HL := hid hkl
  obtain ⟨a, cap, rfl, hc1, hc2⟩ := h.stack.form
  unfold maxLen at hc2
  have hk2 : k ≤ cap := by omega
  have hk3 : (k : Int) ≤ (cap : Int) := by omega
  have hk4 : (k : Int) ≤ (f.stack.length : Int) := by omega
  have H0 := hid h
  have HS := hid h.stack
  have HX := hid h.box
  clear h
  by_cases hn : n < 0
  · have hn' : decide (n < 0) = true := by simpa using hn
    have hkL0 : k = f.stack.length := by rw [hk]; unfold fromE; omega
    have hkw : IntKind.i64.wrap ((f.stack.length : Int) - 0) = (k : Int) := by rw [wrap_of (by omega) (by omega)]; omega
    have hkw2 : IntKind.i64.wrap (f.stack.length : Int) = (k : Int) := by rw [wrap_of (by omega) (by omega)]; omega
    by_cases hck : cap = k
    · have hkL : f.stack.length = k := by omega
      have HV : Hid (IsVals (fun _ => False) w.drew (.slice a (f.stack.drop k).length 0) (f.stack.drop k)) := by
        have e0 : f.stack.drop k = [] := List.drop_eq_nil_of_le (by omega)
        rw [e0]
        exact ⟨a, 0, rfl, by simp, by simp, by simp, fun i x hx => by simp at hx⟩
      have HDL : Hid ((f.stack.drop k).length = f.stack.length - k) := by show _ = _; simp
      rw [HDL.out] at HV
      have hck0 : cap - k = 0 := by omega
      clear hck hkL
      clear hk hkL0
      go_enter Try.func122, Try.ntmps122
      go_wp2
      go_region
      go_wp2_with fail
      refine (clone_any (f.stack.drop k) _ _ HV.out).mono ?_
      rintro e w1 ⟨a1, c1, rfl, hv1, hb1⟩
      have hbw : Below w.heap.size w w1 := ((Below.refl w.heap.size w).drew).trans hb1
      have hbx := box_later' HX.out hbw
      have d0 : w1.cell? ⟨fb, 10, none⟩ = some _ := (by rw [cell_of_row _ _ _ _ _ _ hbx]; rfl)
      have df := row_free hbx
      have HV1 : Hid (IsVals (fun b => w.heap.size ≤ b ∧ b < w1.heap.size) w1 _ (f.stack.drop k)) := hv1
      have HBW := hid hbw
      clear hv1 hb1 hbw hbx
      go_wp2
      obtain ⟨T', q1, q2, q3, q4⟩ := popArgs_end H0.out HL.out HBW.out HV1.out
      go_ret
      exact ⟨a1, c1, T', _, (by rw [HDL.out]; rfl), q1, q2, q3, q4⟩
    · obtain ⟨g, o, rfl⟩ : ∃ g o, a = some ⟨g, o, none⟩ := by
        obtain ⟨-, ⟨e, -⟩ | ⟨g, o, c, cur, e, -⟩⟩ := HS.out
        · simp only [Value.slice.injEq] at e; omega
        · cases e; exact ⟨g, o, rfl⟩
      have HV : Hid (IsVals (fun b => b = g) w.drew (.slice (some ⟨g, o + k * 2, none⟩) (f.stack.drop k).length (cap - k)) (f.stack.drop k)) := (ownsAt.tail HS.out HL.out hfew).later goodV (Below.refl _ _).drew
      have HDL : Hid ((f.stack.drop k).length = f.stack.length - k) := by show _ = _; simp
      rw [HDL.out] at HV
      have hck0 : ¬ (cap - k = 0) := by omega
      clear hck
      clear hk hkL0
      go_enter Try.func122, Try.ntmps122
      go_wp2
      go_region
      go_wp2_with fail
      refine (clone_any (f.stack.drop k) _ _ HV.out).mono ?_
      rintro e w1 ⟨a1, c1, rfl, hv1, hb1⟩
      have hbw : Below w.heap.size w w1 := ((Below.refl w.heap.size w).drew).trans hb1
      have hbx := box_later' HX.out hbw
      have d0 : w1.cell? ⟨fb, 10, none⟩ = some _ := (by rw [cell_of_row _ _ _ _ _ _ hbx]; rfl)
      have df := row_free hbx
      have HV1 : Hid (IsVals (fun b => w.heap.size ≤ b ∧ b < w1.heap.size) w1 _ (f.stack.drop k)) := hv1
      have HBW := hid hbw
      clear hv1 hb1 hbw hbx
      go_wp2
      obtain ⟨T', q1, q2, q3, q4⟩ := popArgs_end H0.out HL.out HBW.out HV1.out
      go_ret
      exact ⟨a1, c1, T', _, (by rw [HDL.out]; rfl), q1, q2, q3, q4⟩
  · obtain ⟨m, rfl⟩ : ∃ m : Nat, n = (m : Int) := ⟨n.toNat, by omega⟩
    by_cases hm : f.stack.length < m
    · have hkw : IntKind.i64.wrap ((f.stack.length : Int) - (f.stack.length : Int)) = (k : Int) := by rw [hk]; unfold fromE; rw [wrap_of (by omega) (by omega)]; omega
      have hm2 : (f.stack.length : Int) < (m : Int) := by omega
      have hkw2 : (0 : Int) = (k : Int) := by rw [hk]; unfold fromE; omega
      by_cases hck : cap = k
      · have hkL : f.stack.length = k := by omega
        have HV : Hid (IsVals (fun _ => False) w.drew (.slice a (f.stack.drop k).length 0) (f.stack.drop k)) := by
          have e0 : f.stack.drop k = [] := List.drop_eq_nil_of_le (by omega)
          rw [e0]
          exact ⟨a, 0, rfl, by simp, by simp, by simp, fun i x hx => by simp at hx⟩
        have HDL : Hid ((f.stack.drop k).length = f.stack.length - k) := by show _ = _; simp
        rw [HDL.out] at HV
        have hck0 : cap - k = 0 := by omega
        clear hck hkL
        clear hk
        go_enter Try.func122, Try.ntmps122
        go_wp2
        go_region
        go_wp2_with fail
        refine (clone_any (f.stack.drop k) _ _ HV.out).mono ?_
        rintro e w1 ⟨a1, c1, rfl, hv1, hb1⟩
        have hbw : Below w.heap.size w w1 := ((Below.refl w.heap.size w).drew).trans hb1
        have hbx := box_later' HX.out hbw
        have d0 : w1.cell? ⟨fb, 10, none⟩ = some _ := (by rw [cell_of_row _ _ _ _ _ _ hbx]; rfl)
        have df := row_free hbx
        have HV1 : Hid (IsVals (fun b => w.heap.size ≤ b ∧ b < w1.heap.size) w1 _ (f.stack.drop k)) := hv1
        have HBW := hid hbw
        clear hv1 hb1 hbw hbx
        go_wp2
        obtain ⟨T', q1, q2, q3, q4⟩ := popArgs_end H0.out HL.out HBW.out HV1.out
        go_ret
        exact ⟨a1, c1, T', _, (by rw [HDL.out]; rfl), q1, q2, q3, q4⟩
      · obtain ⟨g, o, rfl⟩ : ∃ g o, a = some ⟨g, o, none⟩ := by
          obtain ⟨-, ⟨e, -⟩ | ⟨g, o, c, cur, e, -⟩⟩ := HS.out
          · simp only [Value.slice.injEq] at e; omega
          · cases e; exact ⟨g, o, rfl⟩
        have HV : Hid (IsVals (fun b => b = g) w.drew (.slice (some ⟨g, o + k * 2, none⟩) (f.stack.drop k).length (cap - k)) (f.stack.drop k)) := (ownsAt.tail HS.out HL.out hfew).later goodV (Below.refl _ _).drew
        have HDL : Hid ((f.stack.drop k).length = f.stack.length - k) := by show _ = _; simp
        rw [HDL.out] at HV
        have hck0 : ¬ (cap - k = 0) := by omega
        clear hck
        clear hk
        go_enter Try.func122, Try.ntmps122
        go_wp2
        go_region
        go_wp2_with fail
        refine (clone_any (f.stack.drop k) _ _ HV.out).mono ?_
        rintro e w1 ⟨a1, c1, rfl, hv1, hb1⟩
        have hbw : Below w.heap.size w w1 := ((Below.refl w.heap.size w).drew).trans hb1
        have hbx := box_later' HX.out hbw
        have d0 : w1.cell? ⟨fb, 10, none⟩ = some _ := (by rw [cell_of_row _ _ _ _ _ _ hbx]; rfl)
        have df := row_free hbx
        have HV1 : Hid (IsVals (fun b => w.heap.size ≤ b ∧ b < w1.heap.size) w1 _ (f.stack.drop k)) := hv1
        have HBW := hid hbw
        clear hv1 hb1 hbw hbx
        go_wp2
        obtain ⟨T', q1, q2, q3, q4⟩ := popArgs_end H0.out HL.out HBW.out HV1.out
        go_ret
        exact ⟨a1, c1, T', _, (by rw [HDL.out]; rfl), q1, q2, q3, q4⟩
    · have hkw : IntKind.i64.wrap ((f.stack.length : Int) - (m : Int)) = (k : Int) := by rw [hk]; unfold fromE; rw [wrap_of (by omega) (by omega)]; omega
      have hm2 : ¬ ((f.stack.length : Int) < (m : Int)) := by omega
      by_cases hck : cap = k
      · have hkL : f.stack.length = k := by omega
        have HV : Hid (IsVals (fun _ => False) w.drew (.slice a (f.stack.drop k).length 0) (f.stack.drop k)) := by
          have e0 : f.stack.drop k = [] := List.drop_eq_nil_of_le (by omega)
          rw [e0]
          exact ⟨a, 0, rfl, by simp, by simp, by simp, fun i x hx => by simp at hx⟩
        have HDL : Hid ((f.stack.drop k).length = f.stack.length - k) := by show _ = _; simp
        rw [HDL.out] at HV
        have hck0 : cap - k = 0 := by omega
        clear hck hkL
        clear hk
        go_enter Try.func122, Try.ntmps122
        go_wp2
        go_region
        go_wp2_with fail
        refine (clone_any (f.stack.drop k) _ _ HV.out).mono ?_
        rintro e w1 ⟨a1, c1, rfl, hv1, hb1⟩
        have hbw : Below w.heap.size w w1 := ((Below.refl w.heap.size w).drew).trans hb1
        have hbx := box_later' HX.out hbw
        have d0 : w1.cell? ⟨fb, 10, none⟩ = some _ := (by rw [cell_of_row _ _ _ _ _ _ hbx]; rfl)
        have df := row_free hbx
        have HV1 : Hid (IsVals (fun b => w.heap.size ≤ b ∧ b < w1.heap.size) w1 _ (f.stack.drop k)) := hv1
        have HBW := hid hbw
        clear hv1 hb1 hbw hbx
        go_wp2
        obtain ⟨T', q1, q2, q3, q4⟩ := popArgs_end H0.out HL.out HBW.out HV1.out
        go_ret
        exact ⟨a1, c1, T', _, (by rw [HDL.out]; rfl), q1, q2, q3, q4⟩
      · obtain ⟨g, o, rfl⟩ : ∃ g o, a = some ⟨g, o, none⟩ := by
          obtain ⟨-, ⟨e, -⟩ | ⟨g, o, c, cur, e, -⟩⟩ := HS.out
          · simp only [Value.slice.injEq] at e; omega
          · cases e; exact ⟨g, o, rfl⟩
        have HV : Hid (IsVals (fun b => b = g) w.drew (.slice (some ⟨g, o + k * 2, none⟩) (f.stack.drop k).length (cap - k)) (f.stack.drop k)) := (ownsAt.tail HS.out HL.out hfew).later goodV (Below.refl _ _).drew
        have HDL : Hid ((f.stack.drop k).length = f.stack.length - k) := by show _ = _; simp
        rw [HDL.out] at HV
        have hck0 : ¬ (cap - k = 0) := by omega
        clear hck
        clear hk
        go_enter Try.func122, Try.ntmps122
        go_wp2
        go_region
        go_wp2_with fail
        refine (clone_any (f.stack.drop k) _ _ HV.out).mono ?_
        rintro e w1 ⟨a1, c1, rfl, hv1, hb1⟩
        have hbw : Below w.heap.size w w1 := ((Below.refl w.heap.size w).drew).trans hb1
        have hbx := box_later' HX.out hbw
        have d0 : w1.cell? ⟨fb, 10, none⟩ = some _ := (by rw [cell_of_row _ _ _ _ _ _ hbx]; rfl)
        have df := row_free hbx
        have HV1 : Hid (IsVals (fun b => w.heap.size ≤ b ∧ b < w1.heap.size) w1 _ (f.stack.drop k)) := hv1
        have HBW := hid hbw
        clear hv1 hb1 hbw hbx
        go_wp2
        obtain ⟨T', q1, q2, q3, q4⟩ := popArgs_end H0.out HL.out HBW.out HV1.out
        go_ret
        exact ⟨a1, c1, T', _, (by rw [HDL.out]; rfl), q1, q2, q3, q4⟩
end Go.Proofs.Ytdfbgpiikeheiaa
