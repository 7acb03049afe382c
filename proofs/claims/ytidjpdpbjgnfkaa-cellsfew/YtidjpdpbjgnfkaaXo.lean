/- CellsFew's walk. -/
import Derived.Test.YtidjpdpbjgnfkaaXn
import Derived.Test.YtidjpdpbjgnfkaaRb
namespace Go.Proofs.Ytidjpdpbjgnfkaa
open Go.ChangeShapes Go.WideShapes Go.ChangeAt Go.RowKit Go.Maps
set_option linter.unusedSimpArgs false
set_option linter.unusedVariables false
set_option maxRecDepth 8000

theorem below_grown {w w' : World} (hb : Below w.heap.size w w') (r : Option Nat) : w.grownBy w' r := ⟨hb.os, hb.tape, hb.output, hb.size, fun k hk _ => hb.block k hk⟩
theorem IsRow.near {v : Value} {xs : List Int} {P : Nat → Prop} {w : World} (h : IsRow IntC 1 0 P w v xs) : IsRow IntC 1 0 (fun b => b < w.heap.size) w v xs := by
  obtain ⟨ad, cap, h1, h2, h3, h4, h5⟩ := h
  refine ⟨ad, cap, h1, h2, h3, h4, fun i x hx => ?_⟩
  obtain ⟨b, o, e1, e2, e3⟩ := h5 i x hx
  refine ⟨b, o, e1, ?_, e3⟩
  have e4 : w.cell? ⟨b, o + i * 1 + 0, none⟩ = some (.int .i64 x) := e3
  rcases Nat.lt_or_ge b w.heap.size with h | h
  · exact h
  · rw [World.cell?, Array.getElem?_eq_none h] at e4
    cases e4
structure FwR (w : World) (cv lv : Value) (cs : List Int) (s : QS) (A : List QE) (mb j : Nat) (D : DataW Unit) (w' : World) : Prop where
  bel : Below w.heap.size w w'
  big : w.heap.size < mb
  site : SiteAt w' w.heap.size s
  classes : IsRow IntC 1 0 (fun b => b < w.heap.size) w' cv cs
  cl : IsCells (fun b => mb < b) w' lv A
  own : w'.ownsMap Try.prog 3 (plainElem Try.prog 4) mb j D
theorem FwR.later {w : World} {cv lv : Value} {cs : List Int} {s : QS} {A : List QE} {mb j : Nat} {D : DataW Unit} {w' w'' : World} (h : FwR w cv lv cs s A mb j D w') (hb : Below w'.heap.size w' w'') : FwR w cv lv cs s A mb j D w'' :=
  ⟨nstep h.bel hb, h.big, h.site.later hb, h.classes.later goodN hb, h.cl.later goodE hb, h.own.kept (below_grown hb none) (by simp)⟩
theorem FwR.set {w : World} {cv lv : Value} {cs : List Int} {s : QS} {A : List QE} {mb j j' : Nat} {D D' : DataW Unit} {w' w'' : World} (h : FwR w cv lv cs s A mb j D w') (ho : w''.ownsMap Try.prog 3 (plainElem Try.prog 4) mb j' D') (hg : w'.grownBy w'' (some mb)) : FwR w cv lv cs s A mb j' D' w'' := by
  have hbig := h.big
  have hk : Keeps (fun b => b ≠ mb) w' w'' := Keeps.of_block fun b hb hl => hg.block b hl (by simpa using hb)
  refine ⟨⟨hg.os.trans h.bel.os, hg.tape.trans h.bel.tape, hg.output.trans h.bel.output, Nat.le_trans h.bel.size hg.size, fun k hk => ?_⟩, hbig, ⟨hk _ _ _ (by show _ ≠ _; omega) h.site.c0, hk _ _ _ (by show _ ≠ _; omega) h.site.c1, hk _ _ _ (by show _ ≠ _; omega) h.site.c2⟩, h.classes.keep goodN (hk.mono fun b hb => by show b ≠ mb; have : b < w.heap.size := hb; omega) fun _ h => h, h.cl.keep goodE (hk.mono fun b hb => by show b ≠ mb; have : mb < b := hb; omega) fun _ h => h, ho⟩
  rw [hg.block k (Nat.lt_of_lt_of_le hk h.bel.size) (by intro e; injection e with e; omega), h.bel.block k hk]
theorem FwR.num {w : World} {lv : Value} {ad : Option Addr} {cap : Nat} {cs : List Int} {s : QS} {A : List QE} {mb n : Nat} {D : DataW Unit} {w' : World} (h : FwR w (.slice ad cs.length cap) lv cs s A mb n D w') {j : Nat} (hj : j < cs.length) : ∃ b o, ad = some ⟨b, o, none⟩ ∧ w'.cell? ⟨b, o + j, none⟩ = some (.int .i64 cs[j]) := by
  obtain ⟨ad', cap', e, -, -, -, hrow⟩ := h.classes
  simp only [Value.slice.injEq] at e
  obtain ⟨rfl, -, -⟩ := e
  obtain ⟨b, o, rfl, -, y⟩ := hrow j cs[j] (by simp)
  exact ⟨b, o, rfl, by simpa [IntC] using y⟩
theorem FwR.line {w : World} {cv : Value} {g cap : Nat} {cs : List Int} {s : QS} {x : QE} {mb n : Nat} {D : DataW Unit} {w' : World} (h : FwR w cv (.slice (some ⟨g, 0, none⟩) 1 cap) cs s [x] mb n D w') : ∃ a c, w'.cell? ⟨g, 5, none⟩ = some (.slice a x.lines.length c) := by
  obtain ⟨ad', cap', e, -, -, -, hrow⟩ := h.cl
  simp only [Value.slice.injEq] at e
  obtain ⟨rfl, -, -⟩ := e
  obtain ⟨b, o, e, -, -, -, -, -, -, v, y, hv⟩ := hrow 0 x rfl
  cases e
  obtain ⟨a, c, rfl, -⟩ := hv
  exact ⟨a, c, by simpa using y⟩

/-- What the cells are beside the site's one. -/
def FewA (s : QS) (ep : Int) (A : List QE) (x : QE) : Prop := (A = [] ∧ x = ⟨s, ep, false, []⟩) ∨ A = [x]
theorem FewA.put {s : QS} {ep : Int} {A : List QE} {x : QE} {D : DataW Unit} (h : FewA s ep A x) (hF : FewI s ep x D) (y : QL) : putE A s ep y = [withLineE x y] := by
  rcases h with ⟨rfl, rfl⟩ | rfl
  · rfl
  · exact putE_one x s ep y hF.site hF.epoch
theorem FewA.small {s : QS} {ep : Int} {A : List QE} {x : QE} {D : DataW Unit} (h : FewA s ep A x) (hF : FewI s ep x D) : (A.length + 1) * 72 ≤ 140737488355328 ∧ ∀ x ∈ A, x.lines.length * 16 ≤ 281474976710656 := by
  have := hF.len
  rcases h with ⟨rfl, rfl⟩ | rfl
  · simp
  · refine ⟨by simp, fun z hz => ?_⟩
    simp at hz; subst hz; omega
theorem fw_step {w w' w'' : World} (h : Below w.heap.size w w') (hg : w'.grownBy w'' (some w.heap.size)) : Below w.heap.size w w'' :=
  ⟨hg.os.trans h.os, hg.tape.trans h.tape, hg.output.trans h.output, Nat.le_trans h.size hg.size, fun k hk => (hg.block k (Nat.lt_of_lt_of_le hk h.size) (by intro e; injection e with e; omega)).trans (h.block k hk)⟩

/-- The step of 'for k := range had'. -/
theorem next_few (w : World) {ops : Array Oper} {rest : List Oper} {o : Oper} {a : Act} {Q : Exit → Act → World → Prop} (hg : o.guard = none) (it : Operand) (hop : o.op = Op.next it false) (b r n : Nat) (D : DataW Unit) (left : Lit → Bool) (cnt : Nat)
    (hit : a.eval it = .pointer (some ⟨r, 0, none⟩)) (h : w.ranges Try.prog 3 (plainElem Try.prog 4) b r n D left cnt)
    (hDone : cnt = 0 → (∀ kl, left kl = false) → wpList Try.prog ops Q rest (a.put o.dst (.tuple #[.bool false])) w)
    (hMore : ∀ (k : Int) (v : Value) (w' : World) (cnt' : Nat), left (.int .i64 k) = true → w'.ranges Try.prog 3 (plainElem Try.prog 4) b r n D (fun z => left z && !z.sameKey (.int .i64 k)) cnt' → cnt' < cnt →
      w.grownBy w' (some r) → (Instr.entry (.pointer (some ⟨r, 0, none⟩))).run Try.prog w' = .ok (.tuple #[.int .i64 k, v]) w' → wpList Try.prog ops Q rest (a.put o.dst (.tuple #[.bool true, .int .i64 k, v])) w') :
    wpList Try.prog ops Q (o :: rest) a w :=
  wpList_next_ranges w hg it hop 3 law3 (plainElem Try.prog 4) (Value.int .i64) (fun v : Value => v) (fun key kl hkey => by obtain ⟨x, rfl, _⟩ := Maps.keyOf_int_inv Try.underlying3 hkey; exact ⟨x, rfl⟩) (fun v y hv => ⟨v, rfl⟩) b r n D left cnt hit h hDone
    (fun k v kl y w' cnt' hkey hlk hv hat hrg hlt hgr hsz hen => by
      obtain ⟨k', ek, rfl, -⟩ := Maps.keyOf_int_inv Try.underlying3 hkey
      cases ek
      exact hMore k v w' cnt' hlk hrg hlt hgr hen)

set_option maxHeartbeats 4000000 in
theorem cellsFew_walk {P : Nat → Prop} (s : QS) (ep : Int) (cs : List Int) (cv : Value) (w : World) (hc : IsRow IntC 1 0 P w cv cs) (hwf : ∀ c ∈ cs, (Lit.int .i64 c).wf = true) :
    Calls Try.prog 6 #[SV s, .int .i64 ep, cv] w fun e w' => e = .returned (.bool true) ∧ Below w.heap.size w w' := by
  have hmm := @run_makeMap Try.prog
  have HWF : Hid (∀ c ∈ cs, (Lit.int .i64 c).wf = true) := hwf
  clear hwf
  have hb0 := bel1 w (.cells #[.int .i64 s.cls, .string s.name, .int .i64 s.at'] 28)
  have hs0 := siteNew w s 28
  have hc0 := hc.near.later goodN hb0
  have hz0 : w.heap.size < (w.alloc (.cells #[.int .i64 s.cls, .string s.name, .int .i64 s.at'] 28)).heap.size := by simp
  obtain ⟨ad, cap, rfl, hl, hcap, -, -⟩ := id hc
  have HCAP : Hid (cs.length ≤ maxLen) := Nat.le_trans hl hcap
  unfold maxLen at hcap
  clear hc
  go_enter Try.func6, Try.ntmps6
  go_wp2_with fail
  refine (alive6 _).mono ?_
  rintro e w1 ⟨rfl, hb1⟩
  replace hb0 := nstep hb0 hb1
  replace hs0 := hs0.later hb1
  replace hc0 := hc0.later goodN hb1
  replace hz0 := Nat.lt_of_lt_of_le hz0 hb1.size
  clear hb1
  have hb2 := bel1 w1 (.map #[] 0)
  have hR0 : FwR w (.slice ad cs.length cap) (.slice none 0 0) cs s [] w1.heap.size 0 (.map []) (w1.alloc (.map #[] 0)) := ⟨nstep hb0 hb2, hz0, hs0.later hb2, hc0.later goodN hb2, nilCells _, World.ownsMap_made _ _ _ _⟩
  clear hb0 hs0 hc0 hz0 hb2
  go_wp2
  generalize w1.alloc (.map #[] 0) = W0 at hR0 ⊢
  generalize w1.heap.size = mb at hR0 ⊢
  go_loopg [7, 18] cs.length (fun g l i wr => ∃ (j : Nat) (A : List QE) (x : QE) (D : DataW Unit), j + g = cs.length ∧ i = .int .i64 j ∧ FewA s ep A x ∧ FewI s ep x D ∧ FwR w (.slice ad cs.length cap) l cs s A mb j D wr)
  case atStart => exact ⟨0, [], _, _, by omega, rfl, Or.inl ⟨rfl, rfl⟩, FewI.start s ep, hR0⟩
  case round =>
    obtain ⟨j, A, x, D, hj, rfl, hA, hF, hR⟩ := hrel
    clear hR0
    have HA : Hid (FewA s ep A x) := hA
    have HF : Hid (FewI s ep x D) := hF
    clear hA hF
    by_cases hlt : j < cs.length
    · have HW : Hid ((Lit.int .i64 cs[j]).wf = true) := HWF.out _ (List.getElem_mem hlt)
      obtain ⟨b, o, rfl, y0⟩ := hR.num hlt
      generalize cs[j] = c at *
      have hj0 : (0 : Int) ≤ (j : Int) := by omega
      have hj1 : (j : Int) < (cs.length : Int) := by omega
      obtain ⟨s0, s1, s2⟩ := id hR.site
      go_wp2_with fail
      refine (put_any A _ s ep c c _ hR.cl (HA.out.small HF.out).1 (HA.out.small HF.out).2).mono ?_
      rintro e w2 ⟨g2, cap2, rfl, hP2, hb2⟩
      rw [HA.out.put HF.out ⟨c, c⟩] at hP2 ⊢
      have hR2 : FwR w (.slice (some ⟨b, o, none⟩) cs.length cap) (.slice (some ⟨g2, 0, none⟩) 1 cap2) cs s [withLineE x ⟨c, c⟩] mb j D w2 := by
        have h2 := hR.later hb2
        have hlt2 := hR.own.lt
        exact ⟨h2.bel, h2.big, h2.site, h2.classes, hP2.mono goodE fun z hz => Nat.lt_of_lt_of_le hlt2 hz, h2.own⟩
      have HF2 : Hid (FewI s ep (withLineE x ⟨c, c⟩) (D.put (.int .i64 c) (.lit (.bool true)))) := HF.out.put c hR.own.isMap (hR.own.tidy law3) _
      have hjm : j < maxLen := Nat.lt_of_lt_of_le hlt HCAP.out
      clear hP2 hb2 hR s0 s1 s2 y0 HA HF
      generalize withLineE x ⟨c, c⟩ = x' at *
      simp only [List.length_cons, List.length_nil, Nat.zero_add]
      go_wp2_with (first
        | (at_mapUpdate; refine wpList_mapUpdate_own _ rfl _ _ _ 46 rfl 3 4 law3 Try.underlying46 _ mb j D rfl hR2.own hjm _ _ (.int .i64 c) rfl rfl (keyOf_int_mk Try.underlying3 HW.out) (.lit (.bool true)) [] (plainElem_bool Try.underlying4 true) ?_)
        | go_in)
      intro w3 hown3 hg3
      have hR3 := hR2.set hown3 hg3
      clear hR2 hown3 hg3 hjm
      generalize D.put (.int .i64 c) (.lit (.bool true)) = D' at *
      obtain ⟨a5, c5, y5⟩ := hR3.line
      have hl3 := HF2.out.len
      have hd3 : ¬ ((3 : Int) < (x'.lines.length : Int)) := by omega
      generalize x'.lines.length = L5 at *
      go_wp2_with (first
        | (at_range; refine wpList_range_own _ rfl _ 46 rfl 3 4 law3 Try.underlying46 _ mb (j + 1) D' rfl hR3.own ?_)
        | go_in)
      intro w4 hrg4 hg4 hs4
      have hb4 : Below w3.heap.size w3 w4 := ⟨hg4.os, hg4.tape, hg4.output, hg4.size, fun k hk => hg4.block k hk (by simp)⟩
      clear hg4 hs4 y5 hl3 hd3
      go_wp2
      go_loopw [11] (fun _ wr2 => ∃ (left : Lit → Bool) (cnt : Nat), wr2.ranges Try.prog 3 (plainElem Try.prog 4) mb w3.heap.size (j + 1) D' left cnt ∧ (∀ kl, left kl = true → Maps.has D' kl = true) ∧ Below w3.heap.size w3 wr2) (fun _ wr2 => wr2.rangeLeft mb w3.heap.size)
      case atStart => exact ⟨_, _, hrg4, fun kl h => h, hb4⟩
      case round =>
        obtain ⟨left, cnt, hrg, hleft, hbl⟩ := hrel
        have HL : Hid (∀ kl, left kl = true → Maps.has D' kl = true) := hleft
        clear hleft hrg4 hb4
        go_wp2_with (first
          | (at_next; refine next_few _ rfl _ rfl mb w3.heap.size (j + 1) D' left cnt rfl hrg ?_ ?_)
          | go_in)
        · intro _ _
          have hR5 := hR3.later hbl
          clear hrg hR3
          go_wp2
          go_roundg (cs.length - (j + 1))
          case measure => omega
          case rel => exact ⟨j + 1, [x'], x', D', by omega, by go_num, Or.inr rfl, HF2.out, hR5⟩
        · intro k c1 w5 cnt5 hlk hrg5 hlt5 hg5 hen
          have HG := HF2.out.get (HL.out _ hlk)
          have hb5 := fw_step hbl hg5
          have hR5 := hR3.later hb5
          clear hg5 hlk
          obtain ⟨s0, s1, s2⟩ := id hR5.site
          by_cases hsz : Maps.size D' ≤ 3
          · rw [if_pos hsz] at HG
            have HG1 : Hid (getE [x'] s ep k = k) := HG
            have hsz' : (Maps.size D' : Int) ≤ 3 := by omega
            clear HG hsz
            go_wp2_with (first
              | (at_len; refine wpList_len_own _ rfl _ 46 rfl 3 4 Try.underlying46 _ mb (j + 1) D' rfl hR5.own ?_)
              | fail)
            refine (get_any [x'] _ s ep k _ hR5.cl).mono ?_
            rintro e w6 ⟨he6, hb6⟩
            rw [HG1.out] at he6
            subst he6
            go_wp2
            go_roundw
            case rel => exact ⟨_, cnt5, hrg5.kept (below_grown hb6 none) (by simp) (by simp), fun kl h => HL.out kl (by simp at h; exact h.1), nstep hb5 hb6⟩
            case measure => rw [(hrg5.kept (below_grown hb6 none) (by simp) (by simp)).left_eq, hrg.left_eq]; exact hlt5
          · rw [if_neg hsz] at HG
            have HG1 : Hid (getE [x'] s ep k = -1) := HG
            have hsz' : ¬ ((Maps.size D' : Int) ≤ 3) := by omega
            clear HG hsz
            go_wp2_with (first
              | (at_len; refine wpList_len_own _ rfl _ 46 rfl 3 4 Try.underlying46 _ mb (j + 1) D' rfl hR5.own ?_)
              | fail)
            refine (get_any [x'] _ s ep k _ hR5.cl).mono ?_
            rintro e w6 ⟨he6, hb6⟩
            rw [HG1.out] at he6
            subst he6
            go_wp2
            go_roundw
            case rel => exact ⟨_, cnt5, hrg5.kept (below_grown hb6 none) (by simp) (by simp), fun kl h => HL.out kl (by simp at h; exact h.1), nstep hb5 hb6⟩
            case measure => rw [(hrg5.kept (below_grown hb6 none) (by simp) (by simp)).left_eq, hrg.left_eq]; exact hlt5
    · go_wp2
      go_ret
      exact ⟨rfl, hR.bel⟩

section
variable {H : Type} {enc : TypeId × Value → H} {w : World} {base : Nat} {spare : Nat → Bool} {held : Bool}
theorem goodNw : Good (LayAnd IntC fun c => (Lit.int .i64 c).wf = true) 1 := goodN.and _
theorem read_int_wf {n : Nat} {cs : List Value} {x : DataW H × List MemPlace} (hl : cs.length = 1) (h : DataW.trod enc Try.prog w base spare held n 3 cs = some x) : ∃ y, LayAnd IntC (fun c => (Lit.int .i64 c).wf = true) Tru w (fun k => cs[k]?) y := by
  match cs, hl with
  | [v0], _ =>
    obtain ⟨a, e0, -, hw⟩ := DataW.trod_int Try.underlying3 h
    simp at e0
    subst e0
    exact ⟨a, rfl, hw⟩
theorem read_ints_wf {fuel : Nat} {v : Value} {x : DataW H × List MemPlace} (h : DataW.trod enc Try.prog w base spare held fuel 40 [v] = some x) (hw : ∀ n ∈ x.1.weights Try.prog 40, n ≤ 140737488351232) : ∃ xs, IsRow IntC 1 8 Tru w v xs ∧ ∀ c ∈ xs, (Lit.int .i64 c).wf = true := by
  obtain ⟨xs, hx⟩ := read_row goodNw Try.underlying40 cells3 bytes3 (by omega) (fun n cs x hl h hw => read_int_wf hl h) h hw
  exact ⟨xs, hx.split⟩
end
end Go.Proofs.Ytidjpdpbjgnfkaa
