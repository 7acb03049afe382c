/- CellsOld's walk. -/
import Derived.Test.YtidjpdpbjgnfkaaXe
import Derived.Test.YtidjpdpbjgnfkaaDa
namespace Go.Proofs.Ytidjpdpbjgnfkaa
open Go.ChangeShapes Go.WideShapes Go.ChangeAt Go.RowKit
set_option linter.unusedSimpArgs false
set_option linter.unusedVariables false
set_option maxRecDepth 8000

theorem withLine_site (x : QE) (y : QL) : (withLineE x y).site = x.site ∧ (withLineE x y).epoch = x.epoch := by
  unfold withLineE
  split
  · exact ⟨rfl, rfl⟩
  · split <;> exact ⟨rfl, rfl⟩
theorem withLine_len (x : QE) (y : QL) (h : x.lines.length ≤ 3) : (withLineE x y).lines.length ≤ 3 := by
  unfold withLineE
  split
  · exact h
  · split
    · simp
    · simp; omega
/-- What cells are that only one site's findings of one epoch were put into. -/
def OldI (s : QS) (ep : Int) (A : List QE) : Prop := A = [] ∨ ∃ x, A = [x] ∧ x.site = s ∧ x.epoch = ep ∧ x.lines.length ≤ 3
theorem putE_one (x : QE) (s : QS) (ep : Int) (y : QL) (h1 : x.site = s) (h2 : x.epoch = ep) : putE [x] s ep y = [withLineE x y] := by
  subst h1 h2
  simp [putE, eqS_self, freshE]
theorem OldI.put {s : QS} {ep : Int} {A : List QE} (h : OldI s ep A) (y : QL) : OldI s ep (putE A s ep y) ∧ putE A s ep y ≠ [] := by
  rcases h with rfl | ⟨x, rfl, h1, h2, h3⟩
  · refine ⟨Or.inr ⟨_, rfl, (withLine_site _ _).1, (withLine_site _ _).2, withLine_len _ _ (by simp)⟩, by simp [putE]⟩
  · rw [putE_one x s ep y h1 h2]
    exact ⟨Or.inr ⟨_, rfl, (withLine_site _ _).1.trans h1, (withLine_site _ _).2.trans h2, withLine_len _ _ h3⟩, by simp⟩
theorem OldI.small {s : QS} {ep : Int} {A : List QE} (h : OldI s ep A) : (A.length + 1) * 72 ≤ 140737488355328 ∧ ∀ x ∈ A, x.lines.length * 16 ≤ 281474976710656 := by
  rcases h with rfl | ⟨x, rfl, h1, h2, h3⟩
  · simp
  · refine ⟨by simp, fun z hz => ?_⟩
    simp at hz; subst hz; omega
theorem OldI.other {s : QS} {ep ep' : Int} {A : List QE} (h : OldI s ep A) (hne : ep ≠ ep') (c : Int) : getE A s ep' c = -1 := by
  rcases h with rfl | ⟨x, rfl, h1, h2, h3⟩
  · rfl
  · subst h1 h2
    simp [getE, eqS_self, hne]
theorem OldI.anew {s : QS} {ep ep' : Int} {A : List QE} (h : OldI s ep A) (hn : A ≠ []) (hne : ep ≠ ep') (c f : Int) : putE A s ep' ⟨c, f⟩ = [⟨s, ep', false, [⟨c, f⟩]⟩] := by
  rcases h with rfl | ⟨x, rfl, h1, h2, h3⟩
  · exact absurd rfl hn
  · subst h1 h2
    simp [putE, eqS_self, freshE, hne, withLineE, findI]
theorem get_anew (s : QS) (ep c0 f c : Int) : getE [⟨s, ep, false, [⟨c0, f⟩]⟩] s ep c = if c0 = c then f else -1 := by
  unfold getE lineE
  by_cases h : c0 = c
  · subst h; simp [eqS_self]
  · have hb : (c0 == c) = false := by simpa using h
    simp [eqS_self, h, hb]
theorem get_anew' (s : QS) (ep ep' c0 f c : Int) (hne : ep ≠ ep') : getE [⟨s, ep, false, [⟨c0, f⟩]⟩] s ep' c = -1 := by
  simp [getE, eqS_self, hne]

structure OlR (w : World) (P : Nat → Prop) (cv lv : Value) (cs : List Int) (s : QS) (A : List QE) (w' : World) : Prop where
  bel : Below w.heap.size w w'
  site : SiteAt w' w.heap.size s
  classes : IsRow IntC 1 0 P w' cv cs
  cl : IsCells (fun _ => True) w' lv A
theorem OlR.later {w : World} {P : Nat → Prop} {cv lv : Value} {cs : List Int} {s : QS} {A : List QE} {w' w'' : World} (h : OlR w P cv lv cs s A w') (hb : Below w'.heap.size w' w'') : OlR w P cv lv cs s A w'' :=
  ⟨nstep h.bel hb, h.site.later hb, h.classes.later goodN hb, h.cl.later goodE hb⟩
theorem OlR.num {w : World} {P : Nat → Prop} {lv : Value} {ad : Option Addr} {cap : Nat} {cs : List Int} {s : QS} {A : List QE} {w' : World} (h : OlR w P (.slice ad cs.length cap) lv cs s A w') {j : Nat} (hj : j < cs.length) : ∃ b o, ad = some ⟨b, o, none⟩ ∧ w'.cell? ⟨b, o + j, none⟩ = some (.int .i64 cs[j]) := by
  obtain ⟨ad', cap', e, -, -, -, hrow⟩ := h.classes
  simp only [Value.slice.injEq] at e
  obtain ⟨rfl, -, -⟩ := e
  obtain ⟨b, o, rfl, -, y⟩ := hrow j cs[j] (by simp)
  exact ⟨b, o, rfl, by simpa [IntC] using y⟩

theorem olS {w : World} {P : Nat → Prop} {cv lv : Value} {cs : List Int} {s : QS} {A : List QE} {p0 p1 p2 p3 : Addr} {y0 y1 y2 y3 : Value} {w' w'' : World} (h : w'.cell? p0 = some y0 ∧ w'.cell? p1 = some y1 ∧ w'.cell? p2 = some y2 ∧ w'.cell? p3 = some y3 ∧ OlR w P cv lv cs s A w') (hb : Below w'.heap.size w' w'') :
    w''.cell? p0 = some y0 ∧ w''.cell? p1 = some y1 ∧ w''.cell? p2 = some y2 ∧ w''.cell? p3 = some y3 ∧ OlR w P cv lv cs s A w'' :=
  ⟨cell_later hb h.1, cell_later hb h.2.1, cell_later hb h.2.2.1, cell_later hb h.2.2.2.1, h.2.2.2.2.later hb⟩
set_option maxHeartbeats 4000000 in
theorem cellsOld_walk {P : Nat → Prop} (s : QS) (ep later : Int) (cs : List Int) (cv : Value) (w : World) (hc : IsRow IntC 1 0 P w cv cs) :
    Calls Try.prog 5 #[SV s, .int .i64 ep, cv, .int .i64 later] w fun e w' => e = .returned (.bool true) ∧ Below w.heap.size w w' := by
  have hb0 := bel1 w (.cells #[.int .i64 s.cls, .string s.name, .int .i64 s.at'] 28)
  have hR0 : OlR w P cv (.slice none 0 0) cs s [] (w.alloc (.cells #[.int .i64 s.cls, .string s.name, .int .i64 s.at'] 28)) := ⟨hb0, siteNew w s 28, hc.later goodN hb0, nilCells _⟩
  obtain ⟨ad, cap, rfl, hl, hcap, -, -⟩ := id hc
  unfold maxLen at hcap
  clear hc hb0
  go_enter Try.func5, Try.ntmps5
  go_wp2_with fail
  refine (alive6 _).mono ?_
  rintro e w1 ⟨rfl, hb1⟩
  replace hR0 := hR0.later hb1
  clear hb1
  by_cases hel : later = ep
  · have hd : (later == ep) = true := by simpa using hel
    go_wp2
    go_ret
    exact ⟨rfl, hR0.bel⟩
  · have hd : (later == ep) = false := by simpa using hel
    have HNE : Hid (ep ≠ later) := fun h => hel h.symm
    clear hel
    go_wp2
    go_loopg [9, 24] cs.length (fun g l i wr => ∃ (j : Nat) (A : List QE), j + g = cs.length ∧ i = .int .i64 j ∧ OldI s ep A ∧ (0 < j → A ≠ []) ∧ OlR w P (.slice ad cs.length cap) l cs s A wr)
    case atStart => exact ⟨0, [], by omega, rfl, Or.inl rfl, fun h => by omega, hR0⟩
    case round =>
      obtain ⟨j, A, hj, rfl, hA, hAn, hR⟩ := hrel
      clear hR0
      have HA : Hid (OldI s ep A) := hA
      have HAN : Hid (0 < j → A ≠ []) := hAn
      clear hA hAn
      by_cases hlt : j < cs.length
      · obtain ⟨b, o, rfl, y0⟩ := hR.num hlt
        generalize cs[j] = c at *
        have hj0 : (0 : Int) ≤ (j : Int) := by omega
        have hj1 : (j : Int) < (cs.length : Int) := by omega
        obtain ⟨s0, s1, s2⟩ := id hR.site
        go_wp2_with fail
        refine (put_any A _ s ep c 1 _ hR.cl HA.out.small.1 HA.out.small.2).mono ?_
        rintro e w2 ⟨g2, cap2, rfl, hP2, hb2⟩
        have HA2 := HA.out.put ⟨c, 1⟩
        generalize putE A s ep ⟨c, 1⟩ = A' at *
        go_wp2
        go_roundg (gk - 1)
        case measure => omega
        case rel =>
          have h2 := hR.later hb2
          exact ⟨j + 1, A', by omega, by go_num, HA2.1, fun _ => HA2.2, h2.bel, h2.site, h2.classes, hP2.mono goodE fun _ _ => trivial⟩
      · obtain rfl : j = cs.length := by omega
        obtain ⟨a9, c9, rfl, -, -, -, -⟩ := id hR.cl
        go_wp2
        go_loopg [36] cs.length (fun g i wr => ∃ (j : Nat), j + g = cs.length ∧ i = .int .i64 j ∧ OlR w P (.slice ad cs.length cap) (.slice a9 A.length c9) cs s A wr)
        case atStart => exact ⟨0, by omega, rfl, hR⟩
        case round =>
          obtain ⟨j, hj2, rfl, hR2⟩ := hrel
          clear hR
          by_cases hlt2 : j < cs.length
          · obtain ⟨b, o, rfl, y0⟩ := hR2.num hlt2
            generalize cs[j] = c at *
            have hj0 : (0 : Int) ≤ (j : Int) := by omega
            have hj1 : (j : Int) < (cs.length : Int) := by omega
            obtain ⟨s0, s1, s2⟩ := id hR2.site
            go_wp2_with fail
            refine (get_any A _ s later c _ hR2.cl).mono ?_
            rintro e w2 ⟨he2, hb2⟩
            rw [HA.out.other HNE.out] at he2
            subst he2
            go_wp2
            go_roundg (cs.length - (j + 1))
            case measure => omega
            case rel => exact ⟨j + 1, by omega, by go_num, hR2.later hb2⟩
          · by_cases h0 : cs.length = 0
            · have h0' : ((cs.length : Int) == 0) = true := by simpa using h0
              go_wp2
              go_ret
              exact ⟨rfl, hR2.bel⟩
            · have h0' : ((cs.length : Int) == 0) = false := by simpa using h0
              have hpos : 0 < cs.length := by omega
              have HN : Hid (A ≠ []) := HAN.out hpos
              obtain ⟨b, o, rfl, y0⟩ := hR2.num hpos
              obtain ⟨c0, hc0⟩ : ∃ c0, Hid (cs[0] = c0) := ⟨cs[0], (show Hid (cs[0] = cs[0]) from rfl)⟩
              rw [hc0.out] at y0
              simp only [Nat.add_zero] at y0
              have hp1 : (0 : Int) < (cs.length : Int) := by omega
              obtain ⟨s0, s1, s2⟩ := id hR2.site
              go_wp2
              have hS0 := olS (And.intro s0 (And.intro s1 (And.intro s2 (And.intro y0 hR2)))) (Below.refl _ wr).drew
              go_region_held3 (fun w' => w'.cell? ⟨w.heap.size, 0, none⟩ = some (.int .i64 s.cls) ∧ w'.cell? ⟨w.heap.size, 1, none⟩ = some (.string s.name) ∧ w'.cell? ⟨w.heap.size, 2, none⟩ = some (.int .i64 s.at') ∧ w'.cell? ⟨b, o, none⟩ = some (.int .i64 c0) ∧ OlR w P (.slice (some ⟨b, o, none⟩) cs.length cap) (.slice a9 A.length c9) cs s A w')
                (first | with_reducible exact hS0 | with_reducible exact hS1)
                (first | (go_at_call 12; refine (put_any A _ s later c0 2 _ hS0.2.2.2.2.cl HA.out.small.1 HA.out.small.2).mono ?_; rintro e w2 ⟨g2, cap2, rfl, hP2, hb2⟩; have hS1 := olS hS0 hb2))
              rw [HA.out.anew HN.out HNE.out] at hP2
              have HL : Hid ((putE A s later ⟨c0, 2⟩).length = 1) := by show _ = _; rw [HA.out.anew HN.out HNE.out]; rfl
              rw [HL.out]
              have hR3 : OlR w P (.slice (some ⟨b, o, none⟩) cs.length cap) (.slice (some ⟨g2, 0, none⟩) 1 cap2) cs s [⟨s, later, false, [⟨c0, 2⟩]⟩] w2 := ⟨hS1.2.2.2.2.bel, hS1.2.2.2.2.site, hS1.2.2.2.2.classes, hP2.mono goodE fun _ _ => trivial⟩
              clear hS0 hS1 hP2 hR2 s0 s1 s2 hb2 y0
              go_wp2
              go_loopg [59] cs.length (fun g i wr => ∃ (j : Nat), j + g = cs.length ∧ i = .int .i64 j ∧ OlR w P (.slice (some ⟨b, o, none⟩) cs.length cap) (.slice (some ⟨g2, 0, none⟩) 1 cap2) cs s [⟨s, later, false, [⟨c0, 2⟩]⟩] wr)
              case atStart => exact ⟨0, by omega, rfl, hR3⟩
              case round =>
                obtain ⟨j, hj3, rfl, hR4⟩ := hrel
                clear hR3
                by_cases hlt3 : j < cs.length
                · obtain ⟨b', o', eb, y0⟩ := hR4.num hlt3
                  cases eb
                  obtain ⟨b', o', eb, z0⟩ := hR4.num hpos
                  cases eb
                  rw [hc0.out] at z0
                  simp only [Nat.add_zero] at z0
                  generalize cs[j] = c at *
                  have hj0 : (0 : Int) ≤ (j : Int) := by omega
                  have hj1 : (j : Int) < (cs.length : Int) := by omega
                  obtain ⟨s0, s1, s2⟩ := id hR4.site
                  have HG := get_anew s later c0 2 c
                  by_cases hcc : c = c0
                  · have hdc : (c == c0) = true := by simpa using hcc
                    have HG1 : Hid (getE [⟨s, later, false, [⟨c0, 2⟩]⟩] s later c = 2) := by show _ = _; rw [HG, if_pos hcc.symm]
                    clear HG hcc
                    go_wp2_with fail
                    refine (get_any _ _ s later c _ hR4.cl).mono ?_
                    rintro e w3 ⟨he3, hb3⟩
                    rw [HG1.out] at he3
                    subst he3
                    replace hR4 := hR4.later hb3
                    obtain ⟨s0, s1, s2⟩ := id hR4.site
                    go_wp2_with fail
                    refine (get_any _ _ s ep c _ hR4.cl).mono ?_
                    rintro e w4 ⟨he4, hb4⟩
                    rw [get_anew' s later ep c0 2 c (fun h => HNE.out h.symm)] at he4
                    subst he4
                    go_wp2
                    go_roundg (cs.length - (j + 1))
                    case measure => omega
                    case rel => exact ⟨j + 1, by omega, by go_num, hR4.later hb4⟩
                  · have hdc : (c == c0) = false := by simpa using hcc
                    have HG1 : Hid (getE [⟨s, later, false, [⟨c0, 2⟩]⟩] s later c = -1) := by show _ = _; rw [HG, if_neg (fun h => hcc h.symm)]
                    clear HG hcc
                    go_wp2_with fail
                    refine (get_any _ _ s later c _ hR4.cl).mono ?_
                    rintro e w3 ⟨he3, hb3⟩
                    rw [HG1.out] at he3
                    subst he3
                    replace hR4 := hR4.later hb3
                    obtain ⟨s0, s1, s2⟩ := id hR4.site
                    go_wp2_with fail
                    refine (get_any _ _ s ep c _ hR4.cl).mono ?_
                    rintro e w4 ⟨he4, hb4⟩
                    rw [get_anew' s later ep c0 2 c (fun h => HNE.out h.symm)] at he4
                    subst he4
                    go_wp2
                    go_roundg (cs.length - (j + 1))
                    case measure => omega
                    case rel => exact ⟨j + 1, by omega, by go_num, hR4.later hb4⟩
                · go_wp2
                  go_ret
                  exact ⟨rfl, hR4.bel⟩
end Go.Proofs.Ytidjpdpbjgnfkaa
