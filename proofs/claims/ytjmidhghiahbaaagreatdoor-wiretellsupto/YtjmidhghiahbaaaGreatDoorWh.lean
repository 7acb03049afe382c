/- Package wire: a reader in memory; fail, word. -/
import Derived.Test.YtjmidhghiahbaaaGreatDoorWg
import Derived.Test.YtjmidhghiahbaaaGreatDoorUa
import Derived.Laws.IdiomStrings
namespace Go.Proofs.YtjmidhghiahbaaaGreatDoor
open Go.ChangeShapes Go.WideShapes Go.ChangeAt Go.RowKit
set_option linter.unusedSimpArgs false
set_option linter.unusedVariables false
set_option maxRecDepth 8000

theorem index_is (c : UInt8) : ∀ l : List UInt8, Lib.indexByte l c = match l.idxOf? c with | none => -1 | some i => (i : Int)
  | [] => rfl
  | a :: l => by
    rw [Lib.indexByte, List.idxOf?_cons, index_is c l]
    by_cases h : (a == c) = true
    · simp [h]
    · simp only [h, if_false]
      cases hl : l.idxOf? c with
      | none => simp
      | some i => simp
theorem word_none {l : List UInt8} (h : takeWord l = none) : Lib.indexByte l 32 < 1 := by
  rw [index_is]
  unfold takeWord at h
  split at h
  · rename_i e; rw [e]; simp
  · rename_i e; rw [e]; simp
  · cases h
theorem word_some {l w r : List UInt8} (h : takeWord l = some (w, r)) : ∃ k : Nat, Lib.indexByte l 32 = (k : Int) ∧ w = l.take k ∧ r = l.drop (k + 1) ∧ k + 1 ≤ l.length ∧ 1 ≤ k := by
  have h0 := h
  unfold takeWord at h
  split at h
  · cases h
  · cases h
  · rename_i i e
    cases h
    refine ⟨i + 1, by rw [index_is, e], rfl, rfl, ?_, by omega⟩
    rw [List.idxOf?, List.findIdx?_eq_some_iff_getElem] at e
    obtain ⟨hl, -⟩ := e
    omega

/-! ### What is read of the library's variables -/
structure Vars (w : World) : Prop where
  syn : ∃ tp p, w.var? Tryz.prog "strconv.ErrSyntax" = some #[.iface tp p]
  rng : ∃ tp p, w.var? Tryz.prog "strconv.ErrRange" = some #[.iface tp p]
  tab : Lib.TabIs Tryz.prog w "internal/strconv.uint64pow10" .u64 Lib.pow10Tab
theorem var_below {w w' : World} {name : String} {cs : Array Value} (h : w.var? Tryz.prog name = some cs) (hb : Below w.heap.size w w') : w'.var? Tryz.prog name = some cs := by
  unfold World.var? at *
  cases hg : Tryz.prog.globalNamed name with
  | none => simp [hg] at h
  | some g =>
    simp only [hg, Option.bind_some] at h ⊢
    have hlt : g < w.heap.size := by
      rcases Nat.lt_or_ge g w.heap.size with h' | h'
      · exact h'
      · rw [Array.getElem?_eq_none h'] at h; simp at h
    rw [hb.block g hlt]
    exact h
theorem Vars.later {w w' : World} (h : Vars w) (hb : Below w.heap.size w w') : Vars w' := by
  obtain ⟨⟨a, b, h1⟩, ⟨c, d, h2⟩, h3⟩ := h
  exact ⟨⟨a, b, var_below h1 hb⟩, ⟨c, d, var_below h2 hb⟩, var_below h3 hb⟩
/-- .. whatever is done from block B on. -/
def VarsB (B : Nat) (w : World) : Prop := ∀ w', Below B w w' → Vars w'
theorem VarsB.on {B : Nat} {w w' : World} (h : VarsB B w) (hb : Below B w w') : VarsB B w' := fun w2 h2 => h w2 (hb.trans h2)
theorem VarsB.here {B : Nat} {w : World} (h : VarsB B w) : Vars w := h w (.refl _ _)
theorem Vars.from {w : World} (h : Vars w) : VarsB w.heap.size w := fun w' hb => h.later hb
theorem VarsB.mono {B B' : Nat} {w : World} (h : VarsB B w) (hB : B ≤ B') : VarsB B' w := fun w' hb => h w' (hb.mono hB)

/-! ### A reader -/
/-- Bytes in memory, in blocks below br. -/
def RowB (br : Nat) (w : World) (ad : Option Addr) (l : List UInt8) : Prop := ∀ i x, l[i]? = some x → ∃ b o, ad = some ⟨b, o, none⟩ ∧ b < br ∧ w.cell? ⟨b, o + i, none⟩ = some (.int .u8 (x.toNat : Int))
/-- A reader at block br, and what is left; none: it is bad. -/
def RdAt (br : Nat) (w : World) : Option (List UInt8) → Prop
  | none => w.heap[br]? = some (.cells #[.slice none 0 0, .bool true] 64 (0, 0))
  | some l => ∃ ad cap, w.heap[br]? = some (.cells #[.slice ad l.length cap, .bool false] 64 (0, 0)) ∧ l.length ≤ cap ∧ cap ≤ maxLen ∧ (ad = none → cap = 0) ∧ l.length ≤ 140737488351232 ∧ RowB br w ad l
/-- All but the reader's box stays. -/
structure RdK (br : Nat) (w w' : World) : Prop where
  bel : Below br w w'
  oth : ∀ b, b < w.heap.size → b ≠ br → w'.heap[b]? = w.heap[b]?
theorem RdK.refl (br : Nat) (w : World) : RdK br w w := ⟨.refl _ _, fun _ _ _ => rfl⟩
theorem RdK.trans {br : Nat} {a b c : World} (h : RdK br a b) (k : RdK br b c) : RdK br a c := ⟨h.bel.trans k.bel, fun x hx hn => (k.oth x (Nat.lt_of_lt_of_le hx h.bel.size) hn).trans (h.oth x hx hn)⟩
theorem RdK.of_below {br : Nat} {w w' : World} (hl : br ≤ w.heap.size) (h : Below w.heap.size w w') : RdK br w w' := ⟨h.mono hl, fun b hb _ => h.block b hb⟩
theorem RdK.set {br : Nat} {w w' : World} (h : RdK br w w') (o : Nat) (v : Value) : RdK br w (w'.setCell ⟨br, o, none⟩ v) := ⟨h.bel.setCell (Nat.le_refl _) _, fun b hb hn => (setCell_else hn v).trans (h.oth b hb hn)⟩
theorem RdK.keeps {br : Nat} {w w' : World} (h : RdK br w w') : Keeps (fun b => b ≠ br) w w' := Keeps.of_block fun b hb hl => h.oth b hl hb
theorem RdAt.keep {br : Nat} {w w' : World} {st : Option (List UInt8)} (h : RdAt br w st) (hb : Below w.heap.size w w') : RdAt br w' st := by
  cases st with
  | none => exact (hb.block _ (blk_lt h)).trans h
  | some l =>
    obtain ⟨ad, cap, h1, h2, h3, h4, h5, h6⟩ := h
    refine ⟨ad, cap, (hb.block _ (blk_lt h1)).trans h1, h2, h3, h4, h5, fun i x hx => ?_⟩
    obtain ⟨b, o, e, hne, hc⟩ := h6 i x hx
    exact ⟨b, o, e, hne, cell_later hb hc⟩
theorem RdAt.lt {br : Nat} {w : World} {st : Option (List UInt8)} (h : RdAt br w st) : br < w.heap.size := by
  cases st with
  | none => exact blk_lt h
  | some l => obtain ⟨_, _, h1, -⟩ := h; exact blk_lt h1
/-- .. with what it reads of the library's variables. -/
structure RdS (br : Nat) (w : World) (st : Option (List UInt8)) : Prop where
  at_ : RdAt br w st
  vars : VarsB br w
theorem RdS.later {br : Nat} {w w' : World} {st : Option (List UInt8)} (h : RdS br w st) (hb : Below w.heap.size w w') : RdS br w' st := ⟨h.at_.keep hb, h.vars.on (hb.mono (Nat.le_of_lt h.at_.lt))⟩
theorem RdS.lt {br : Nat} {w : World} {st : Option (List UInt8)} (h : RdS br w st) : br < w.heap.size := h.at_.lt
theorem RdS.setHi {br : Nat} {w : World} {st : Option (List UInt8)} (h : RdS br w st) {d : Nat} (hd : br < d) (o : Nat) (v : Value) : RdS br (w.setCell ⟨d, o, none⟩ v) st := by
  refine ⟨?_, h.vars.on ((Below.refl _ _).setCell (by simp; omega) _)⟩
  have hat := h.at_
  cases st with
  | none => exact (setCell_else (by omega) v).trans hat
  | some l =>
    obtain ⟨ad, cap, h1, h2, h3, h4, h5, h6⟩ := hat
    refine ⟨ad, cap, (setCell_else (by omega) v).trans h1, h2, h3, h4, h5, fun i x hx => ?_⟩
    obtain ⟨b, o', e, hne, hc⟩ := h6 i x hx
    exact ⟨b, o', e, hne, (World.cell?_setCell_far _ _ _ _ (by simp; omega)).trans hc⟩
theorem RdK.setHi {br : Nat} {w w' : World} (h : RdK br w w') {d : Nat} (hd : w.heap.size ≤ d) (hb : br ≤ d) (o : Nat) (v : Value) : RdK br w (w'.setCell ⟨d, o, none⟩ v) := ⟨h.bel.setCell hb _, fun b hl hn => (setCell_else (by omega) v).trans (h.oth b hl hn)⟩
/-- What reading by f comes to: the value, what is left. -/
def RdR {α : Type} (f : List UInt8 → Option (α × List UInt8)) (st : Option (List UInt8)) (x : α) (st' : Option (List UInt8)) : Prop := match st.bind f with
  | some (y, r) => x = y ∧ st' = some r
  | none => st' = none

theorem bytesOf_nat : ∀ l : List UInt8, Lib.bytesOf (l.map fun x => (x.toNat : Int)) = l
  | [] => rfl
  | x :: l => by
    have := bytesOf_nat l
    unfold Lib.bytesOf at *
    rw [List.map_cons, List.map_cons, this]
    simp
theorem rd_next {br : Nat} {w : World} {l : List UInt8} {k b o cap' : Nat} {ad' : Option Addr} {u : Value} (hb : w.heap[br]? = some (.cells #[u, .bool false] 64 (0, 0))) (h5 : l.length ≤ 140737488351232) (h6 : RowB br w (some ⟨b, o, none⟩) l)
    (hc : l.length - (k + 1) ≤ cap') (hm : cap' ≤ 2 ^ 63 - 1) (hn : ad' ≠ none) (ha : k + 1 < l.length → ad' = some ⟨b, o + (k + 1), none⟩) : RdAt br (w.setCell ⟨br, 0, none⟩ (.slice ad' (l.length - (k + 1)) cap')) (some (l.drop (k + 1))) := by
  refine ⟨ad', cap', by rw [setCell_same hb, List.length_drop]; rfl, by rw [List.length_drop]; exact hc, by unfold maxLen; exact hm, fun e => absurd e hn, by rw [List.length_drop]; omega, fun i x hx => ?_⟩
  rw [List.getElem?_drop] at hx
  obtain ⟨b', o', e, hne, hcell⟩ := h6 _ x hx
  cases e
  have := lt_of_get hx
  refine ⟨b, o + (k + 1), ha (by omega), hne, ?_⟩
  rw [World.cell?_setCell_far _ _ _ _ (by simp; omega), Nat.add_assoc]
  exact hcell
theorem below_grow (B : Nat) (w : World) (hB : B ≤ w.heap.size) (k : Nat) (os : Array Obj) : Below B w (Sort.grow (w.drewN k) os) := Lib.below_grow B w hB k os
theorem rfail_any {br : Nat} {w : World} {v u : Value} (hb : w.heap[br]? = some (.cells #[v, u] 64 (0, 0))) (hv : VarsB br w) : Calls Tryz.prog 59 #[.pointer (some ⟨br, 0, none⟩)] w fun e w' => e = .returned (.tuple #[]) ∧ RdS br w' none ∧ RdK br w w' := by
  have c0 : w.cell? ⟨br, 0, none⟩ = some v := by rw [cell_of_row _ _ _ _ _ _ hb]; rfl
  have c1 : w.cell? ⟨br, 1, none⟩ = some u := by rw [cell_of_row _ _ _ _ _ _ hb]; rfl
  have cf := row_free hb
  have K : RdK br w ((w.setCell ⟨br, 0, none⟩ (.slice none 0 0)).setCell ⟨br, 1, none⟩ (.bool true)) := ((RdK.refl _ _).set _ _).set _ _
  have hbx : ((w.setCell ⟨br, 0, none⟩ (.slice none 0 0)).setCell ⟨br, 1, none⟩ (.bool true)).heap[br]? = some (.cells #[.slice none 0 0, .bool true] 64 (0, 0)) := by rw [setCell_same (setCell_same hb _)]; rfl
  have HB := hid hbx
  have HK := hid K
  clear hbx K
  go_enter Tryz.func59, Tryz.ntmps59
  go_wp2
  refine bodyPost_end (v := .tuple #[]) (by simp [results, Tryz.results59, go_sem]) rfl ⟨rfl, ⟨HB.out, hv.on HK.out.bel⟩, HK.out⟩
set_option maxHeartbeats 1000000 in
theorem rword_any {br : Nat} {w : World} {st : Option (List UInt8)} (h : RdS br w st) : Calls Tryz.prog 58 #[.pointer (some ⟨br, 0, none⟩)] w fun e w' => ∃ s st', e = .returned (.string s) ∧ RdR takeName st s st' ∧ (st' = none → s = ⟨#[]⟩) ∧ s.size ≤ 140737488351232 ∧ RdS br w' st' ∧ RdK br w w' := by
  obtain ⟨hat, hv⟩ := h
  cases st with
  | none =>
    have hb : w.heap[br]? = some (.cells #[.slice none 0 0, .bool true] 64 (0, 0)) := hat
    have c0 : w.cell? ⟨br, 0, none⟩ = some (.slice none 0 0) := by rw [cell_of_row _ _ _ _ _ _ hb]; rfl
    go_enter Tryz.func58, Tryz.ntmps58
    go_wp2_with (first | (go_at_call 80; refine (bytes_IndexByte_nil _ _).mono ?_; rintro e w1 ⟨rfl, rfl⟩) | (go_at_call 59; refine (rfail_any hb hv).mono ?_; rintro e w2 ⟨rfl, hs, hk⟩))
    go_ret
    exact ⟨_, none, rfl, rfl, fun _ => rfl, by decide, hs, hk⟩
  | some l =>
    obtain ⟨ad, cap, hb, h2, h3, h4, h5, h6⟩ := hat
    unfold maxLen at h3
    have c0 : w.cell? ⟨br, 0, none⟩ = some (.slice ad l.length cap) := by rw [cell_of_row _ _ _ _ _ _ hb]; rfl
    have hI : Calls Tryz.prog 80 #[.slice ad l.length cap, .int .u8 32] w fun e w' => e = .returned (.int .i64 (Lib.indexByte l 32)) ∧ w' = w := by
      cases ad with
      | none =>
        have := h4 rfl
        subst this
        have : l = [] := List.eq_nil_of_length_eq_zero (by omega)
        subst this
        exact bytes_IndexByte_nil 32 w
      | some a =>
        have := bytes_IndexByte_at a l.length cap (l.map fun x => (x.toNat : Int)) 32 w (by simp) (fun i hi => by
          obtain ⟨b, o, e, -, hc⟩ := h6 i _ (List.getElem?_eq_getElem hi)
          cases e
          rw [Addr.add_lit, hc]
          simp [hi])
        rw [bytesOf_nat] at this
        exact this
    cases hw : takeWord l with
    | none =>
      have hd := word_none hw
      have HR : Hid (RdR takeName (some l) ⟨#[]⟩ none) := by show RdR _ _ _ _; unfold RdR takeName; simp [hw]
      generalize Lib.indexByte l 32 = k at *
      clear h6 hw
      go_enter Tryz.func58, Tryz.ntmps58
      go_wp2_with (first | (go_at_call 80; refine hI.mono ?_; rintro e w1 ⟨rfl, rfl⟩) | (go_at_call 59; refine (rfail_any hb hv).mono ?_; rintro e w2 ⟨rfl, hs, hk⟩))
      go_ret
      exact ⟨_, none, rfl, HR.out, fun _ => rfl, by decide, hs, hk⟩
    | some q =>
      obtain ⟨ww, r⟩ := q
      obtain ⟨k, e1, rfl, rfl, e2, e3⟩ := word_some hw
      rw [e1] at hI
      have HR : Hid (RdR takeName (some l) ⟨(l.take k).toArray⟩ (some (l.drop (k + 1)))) := by show RdR _ _ _ _; unfold RdR takeName; simp [hw]
      obtain ⟨b, o, rfl, hne, -⟩ := h6 0 _ (List.getElem?_eq_getElem (show 0 < l.length by omega))
      have hcv : (convert 26 9 (.slice (some ⟨b, o, none⟩) k cap)).run Tryz.prog w = .ok (.string ⟨(l.take k).toArray⟩) w := by
        have hk : (l.take k).length = k := by rw [List.length_take]; omega
        have := run_convert_bytes_back (P := Tryz.prog) w 26 9 5 ⟨b, o, none⟩ cap (l.take k) Tryz.underlying26 Tryz.underlying5 Tryz.underlying9 (fun j hj => by
          obtain ⟨b', o', e, -, hc⟩ := h6 j _ (List.getElem?_eq_getElem (show j < l.length by omega))
          cases e
          rw [Addr.add_lit, hc, List.getElem_take])
        rwa [hk] at this
      have k0 : (0 : Int) ≤ (k : Int) := by omega
      have k1 : (k : Int) ≤ (cap : Int) := by omega
      have k2 : (k : Int) + 1 ≤ (l.length : Int) := by omega
      have k3 : decide ((k : Int) < 1) = false := by simp; omega
      have cf := row_free hb
      clear hw e1
      go_enter Tryz.func58, Tryz.ntmps58
      go_wp2_with (first | (go_at_call 80; refine hI.mono ?_; rintro e w1 ⟨rfl, rfl⟩))
      · go_ret
        exact ⟨_, rfl, some (l.drop (k + 1)), HR.out, (fun e => by cases e), by simp [ByteArray.size]; omega, ⟨rd_next hb h5 h6 (by omega) (by omega) (by simp) (fun h => by omega), hv.on ((RdK.refl br _).set _ _).bel⟩, (RdK.refl _ _).set _ _⟩
      · go_ret
        exact ⟨_, rfl, some (l.drop (k + 1)), HR.out, (fun e => by cases e), by simp [ByteArray.size]; omega, ⟨rd_next hb h5 h6 (by omega) (by omega) (by simp) (fun h => rfl), hv.on ((RdK.refl br _).set _ _).bel⟩, (RdK.refl _ _).set _ _⟩
theorem RdR.none {α : Type} {f : List UInt8 → Option (α × List UInt8)} (x : α) : RdR f none x none := rfl
theorem RdR.some {α : Type} {f : List UInt8 → Option (α × List UInt8)} {l r : List UInt8} {x : α} (h : f l = .some (x, r)) : RdR f (.some l) x (.some r) := by unfold RdR; simp [h]
theorem RdR.bad {α : Type} {f : List UInt8 → Option (α × List UInt8)} {l : List UInt8} (x : α) (h : f l = .none) : RdR f (.some l) x .none := by unfold RdR; simp [h]
theorem RdR.cases {α : Type} {f : List UInt8 → Option (α × List UInt8)} {st st' : Option (List UInt8)} {x : α} (h : RdR f st x st') : (∃ l r, st = .some l ∧ f l = .some (x, r) ∧ st' = .some r) ∨ (st' = .none ∧ ∀ l, st = .some l → f l = .none) := by
  cases st with
  | none => exact .inr ⟨h, fun l hl => by cases hl⟩
  | some l =>
    unfold RdR at h
    simp only [Option.bind_some] at h
    cases hf : f l with
    | none => rw [hf] at h; exact .inr ⟨h, fun l' e => by cases e; exact hf⟩
    | some q =>
      obtain ⟨y, r⟩ := q
      rw [hf] at h
      obtain ⟨rfl, rfl⟩ := h
      exact .inl ⟨l, r, rfl, hf, rfl⟩
theorem RdS.box {br : Nat} {w : World} {st : Option (List UInt8)} (h : RdS br w st) : ∃ v u, w.heap[br]? = .some (.cells #[v, u] 64 (0, 0)) := by
  cases st with
  | none => exact ⟨_, _, h.at_⟩
  | some l => obtain ⟨_, _, h1, -⟩ := h.at_; exact ⟨_, _, h1⟩
set_option maxHeartbeats 1000000 in
theorem rnumber_any {br : Nat} {w : World} {st : Option (List UInt8)} (h : RdS br w st) : Calls Tryz.prog 43 #[.pointer (.some ⟨br, 0, .none⟩)] w fun e w' => ∃ n st', e = .returned (.int .i64 n) ∧ RdR takeNum st n st' ∧ I64 n ∧ RdS br w' st' ∧ RdK br w w' := by
  go_enter Tryz.func43, Tryz.ntmps43
  go_wp2_with (go_at_call 58; refine (rword_any h).mono ?_; rintro e w1 ⟨s, st1, rfl, hR1, hem, hsz, hS1, hK1⟩; refine Hid.out ?_)
  refine Lib.hid ?_
  have hV := hS1.vars.here
  obtain ⟨⟨tp, p, hv1⟩, ⟨tr, r, hv2⟩, -⟩ := hV
  go_wp2_with (go_at_call 48; refine (strconv_Atoi_any s (by omega) tp tr p r w1 hv1 hv2).mono ?_; rintro e w2 ⟨hb2, v, ev, rfl, hev⟩; refine Hid.out ?_)
  refine Lib.hid ?_
  have hS2 := hS1.later hb2
  have hK2 : RdK br w w2 := hK1.trans (.of_below (Nat.le_of_lt hS1.lt) hb2)
  obtain ⟨bv, bu, hbx⟩ := hS2.box
  rcases hev with ⟨rfl, hok⟩ | ⟨⟨q, rfl⟩, hno⟩
  · obtain ⟨v0, v1⟩ := Lib.atoiAll_bounds hok
    have htab := hS2.vars.here.tab
    have hIt := strconv_Itoa v v0 v1 w2 htab
    have HC : Hid (∃ l r, st = .some l ∧ takeWord l = .some (s.toList, r) ∧ st1 = .some r) := by
      show ∃ l r, _
      rcases hR1.cases with ⟨l, r, rfl, hf, rfl⟩ | ⟨rfl, hf⟩
      · refine ⟨l, r, rfl, ?_, rfl⟩
        unfold takeName at hf
        cases hw : takeWord l with
        | none => simp [hw] at hf
        | some q =>
          rw [hw] at hf
          simp only [Option.bind_some, Option.some.injEq, Prod.mk.injEq] at hf
          obtain ⟨rfl, rfl⟩ := hf
          rw [ByteArray.toList_eq]
      · rw [hem rfl] at hok
        cases hok
    rw [← ByteArray.toList_eq] at hok
    clear hem
    cases hq : (Lib.itoa v == s.toList)
    · have HR : Hid (RdR takeNum st 0 .none) := by
        obtain ⟨l, r, rfl, hw, rfl⟩ := HC.out
        show RdR _ _ _ _
        refine RdR.bad _ ?_
        unfold takeNum
        rw [hw]
        simp only
        rw [hok]
        simp only
        rw [if_neg (by simpa using hq)]
      go_wp2_with (first
        | (go_at_call 22; refine hIt.mono ?_; rintro e w3 ⟨rfl, kk, os, rfl⟩; have hb3 := below_grow w2.heap.size w2 (Nat.le_refl _) kk os; have hS3 := hS2.later hb3; obtain ⟨bv3, bu3, hbx3⟩ := hS3.box)
        | (go_at_call 59; refine (rfail_any hbx3 hS3.vars).mono ?_; rintro e w4 ⟨rfl, hs4, hk4⟩))
      go_ret
      exact ⟨0, .none, rfl, HR.out, ⟨by decide, by decide⟩, hs4, (hK2.trans (.of_below (Nat.le_of_lt hS2.lt) hb3)).trans hk4⟩
    · have HR : Hid (RdR takeNum st v st1) := by
        obtain ⟨l, r, rfl, hw, rfl⟩ := HC.out
        show RdR _ _ _ _
        refine RdR.some ?_
        unfold takeNum
        rw [hw]
        simp only
        rw [hok]
        simp only
        rw [if_pos (by simpa using hq)]
      go_wp2_with (go_at_call 22; refine hIt.mono ?_; rintro e w3 ⟨rfl, kk, os, rfl⟩; have hb3 := below_grow w2.heap.size w2 (Nat.le_refl _) kk os)
      go_ret
      exact ⟨v, st1, rfl, HR.out, ⟨v0, v1⟩, hS2.later hb3, hK2.trans (.of_below (Nat.le_of_lt hS2.lt) hb3)⟩
  · have HR : Hid (RdR takeNum st 0 .none) := by
      show RdR _ _ _ _
      rcases hR1.cases with ⟨l, r, rfl, hf, rfl⟩ | ⟨rfl, hf⟩
      · refine RdR.bad _ ?_
        unfold takeName at hf
        cases hw : takeWord l with
        | none => simp [hw] at hf
        | some q =>
          rw [hw] at hf
          simp only [Option.bind_some, Option.some.injEq, Prod.mk.injEq] at hf
          obtain ⟨rfl, rfl⟩ := hf
          unfold takeNum
          rw [hw]
          cases ha : Lib.atoiAll q.1
          · exact absurd (by simpa using ha) (hno _)
          · simp [ha]
          · simp [ha]
      · cases st with
        | none => exact RdR.none _
        | some l =>
          refine RdR.bad _ ?_
          have := hf l rfl
          unfold takeName at this
          cases hw : takeWord l with
          | none => unfold takeNum; rw [hw]
          | some q => simp [hw] at this
    go_wp2_with (go_at_call 59; refine (rfail_any hbx hS2.vars).mono ?_; rintro e w3 ⟨rfl, hs3, hk3⟩)
    go_ret
    exact ⟨0, .none, rfl, HR.out, ⟨by decide, by decide⟩, hs3, hK2.trans hk3⟩
set_option maxHeartbeats 1000000 in
theorem rcount_any {br : Nat} {w : World} {st : Option (List UInt8)} (most : Nat) (hm : most ≤ 1000) (h : RdS br w st) : Calls Tryz.prog 60 #[.pointer (.some ⟨br, 0, .none⟩), .int .i64 (most : Int)] w fun e w' => ∃ (n : Nat) (st' : Option (List UInt8)), e = .returned (.int .i64 (n : Int)) ∧ RdR (takeCount most) st n st' ∧ n ≤ most ∧ RdS br w' st' ∧ RdK br w w' := by
  go_enter Tryz.func60, Tryz.ntmps60
  go_wp2_with (go_at_call 43; refine (rnumber_any h).mono ?_; rintro e w1 ⟨n, st1, rfl, hR1, hn, hS1, hK1⟩; refine Hid.out ?_)
  refine Lib.hid ?_
  obtain ⟨bv, bu, hbx⟩ := hS1.box
  cases hin : inR n 0 most
  · have HR : Hid (RdR (takeCount most) st 0 .none) := by
      show RdR _ _ _ _
      have hin' : ¬ (0 ≤ n ∧ n ≤ (most : Int)) := by simpa [inR] using hin
      rcases hR1.cases with ⟨l, r, rfl, hf, rfl⟩ | ⟨rfl, hf⟩
      · refine RdR.bad _ ?_
        unfold takeCount
        rw [hf]
        simp only [Option.bind_some]
        rw [if_neg hin']
      · cases st with
        | none => exact RdR.none _
        | some l => refine RdR.bad _ ?_; unfold takeCount; rw [hf l rfl]; rfl
    go_wp2_with (first
      | (go_at_call 29; refine (wwithin_any _ 0 _ _).mono ?_; rw [hin]; rintro e w6 ⟨rfl, hw⟩; subst hw)
      | (go_at_call 59; refine (rfail_any hbx hS1.vars).mono ?_; rintro e w4 ⟨rfl, hs4, hk4⟩))
    go_ret
    exact ⟨0, .none, rfl, HR.out, by omega, hs4, hK1.trans hk4⟩
  · have hin' : 0 ≤ n ∧ n ≤ (most : Int) := by simpa [inR] using hin
    have HR : Hid (RdR (takeCount most) st n.toNat st1) := by
      show RdR _ _ _ _
      rcases hR1.cases with ⟨l, r, rfl, hf, rfl⟩ | ⟨rfl, hf⟩
      · refine RdR.some ?_
        unfold takeCount
        rw [hf]
        simp only [Option.bind_some]
        rw [if_pos hin']
      · cases st with
        | none => exact RdR.none _
        | some l => refine RdR.bad _ ?_; unfold takeCount; rw [hf l rfl]; rfl
    have hnn : ((n.toNat : Nat) : Int) = n := by omega
    have HN := hid hnn
    clear hnn
    go_wp2_with (first
      | (go_at_call 29; refine (wwithin_any _ 0 _ _).mono ?_; rw [hin]; rintro e w6 ⟨rfl, hw⟩; subst hw))
    go_ret
    exact ⟨n.toNat, st1, by rw [HN.out]; rfl, HR.out, by omega, hS1, hK1⟩
end Go.Proofs.YtjmidhghiahbaaaGreatDoor
