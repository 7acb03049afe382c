/- tally.eachLine, tally.All, tally.Most. -/
import Derived.Test.YtlekfiglefopgaaTd
namespace Go.Proofs.Ytlekfiglefopgaa
open Go.ChangeShapes Go.WideShapes Go.ChangeAt Go.RowKit
set_option linter.unusedSimpArgs false
set_option linter.unusedVariables false

/-- All lines of all tallies of the site. -/
def linesAt (xs : List QT) (s : QS) : List QL := (xs.filter fun t => eqS t.site s).flatMap (·.lines)
theorem linesAt_snoc (xs : List QT) (s : QS) (x : QT) : linesAt (xs ++ [x]) s = linesAt xs s ++ if eqS x.site s then x.lines else [] := by
  unfold linesAt
  rw [List.filter_append, List.flatMap_append]
  by_cases h : eqS x.site s <;> simp [List.filter_cons, h]
theorem linesAt_take {xs : List QT} {j : Nat} {x : QT} (hx : xs[j]? = some x) (s : QS) : linesAt (xs.take (j + 1)) s = linesAt (xs.take j) s ++ if eqS x.site s then x.lines else [] := by
  have hj := lt_of_get hx
  rw [List.take_succ_eq_append_getElem hj, linesAt_snoc]
  rw [List.getElem?_eq_getElem hj] at hx
  cases hx
  rfl
theorem take_snoc {α : Type} {xs : List α} {j : Nat} {x : α} (hx : xs[j]? = some x) : xs.take (j + 1) = xs.take j ++ [x] := by
  have hj := lt_of_get hx
  rw [List.take_succ_eq_append_getElem hj]
  rw [List.getElem?_eq_getElem hj] at hx
  cases hx
  rfl

theorem lines_old {P : Nat → Prop} {w : World} {v : Value} {ls : List QL} (h : IsLines P w v ls) : IsLines (fun b => b < w.heap.size) w v ls := by
  obtain ⟨ad, cap, h1, h2, h3, h4, h5⟩ := h
  refine ⟨ad, cap, h1, h2, h3, h4, fun i x hx => ?_⟩
  obtain ⟨b, o, e, -, hE⟩ := h5 i x hx
  exact ⟨b, o, e, World.block_lt_of_cell? _ _ hE.1, hE⟩
theorem tallies_old {P : Nat → Prop} {w : World} {v : Value} {xs : List QT} (h : IsTallies P w v xs) : IsTallies (fun b => b < w.heap.size) w v xs := by
  obtain ⟨ad, cap, h1, h2, h3, h4, h5⟩ := h
  refine ⟨ad, cap, h1, h2, h3, h4, fun i x hx => ?_⟩
  obtain ⟨b, o, e, -, k0, k1, k2, lv, k3, kl⟩ := h5 i x hx
  exact ⟨b, o, e, World.block_lt_of_cell? _ _ k0, k0, k1, k2, lv, k3, lines_old kl⟩
theorem cells_old {P : Nat → Prop} {w : World} {v : Value} {xs : List QE} (h : IsCells P w v xs) : IsCells (fun b => b < w.heap.size) w v xs := by
  obtain ⟨ad, cap, h1, h2, h3, h4, h5⟩ := h
  refine ⟨ad, cap, h1, h2, h3, h4, fun i x hx => ?_⟩
  obtain ⟨b, o, e, -, k0, k1, k2, k3, k4, lv, k5, kl⟩ := h5 i x hx
  exact ⟨b, o, e, World.block_lt_of_cell? _ _ k0, k0, k1, k2, k3, k4, lv, k5, lines_old kl⟩

set_option maxHeartbeats 2000000 in
theorem each47_any {P : Nat → Prop} (I : List QL → World → Prop) (m : Nat) (cap' : Value) (xs : List QT) (s : QS) (v : Value) (w : World) (hI : I [] w) (hm : m < w.heap.size) (hPm : ∀ b, P b → b ≠ m)
    (hX : ∀ l w', I l w' → IsTallies P w' v xs) (hL : ∀ l w' w'', I l w' → Below w'.heap.size w' w'' → I l w'')
    (hF : ∀ l x w', I l w' → Calls Try.prog 52 #[LV x, cap'] w' fun e w'' => e = .returned (.tuple #[]) ∧ I (l ++ [x]) w'' ∧ Keeps (fun b => b ≠ m) w' w'' ∧ w'.heap.size ≤ w''.heap.size) :
    Calls Try.prog 51 #[v, SV s, .func (.func 52) #[] #[cap']] w fun e w' => e = .returned (.tuple #[]) ∧ I (linesAt xs s) w' := by
  obtain ⟨ad, cap, rfl, hl, hcap, -, -⟩ := id (hX _ _ hI)
  unfold maxLen at hcap
  have hs0 := siteNew w s 55
  have hI0 := hL _ _ _ hI (bel1 w (.cells #[.int .i64 s.cls, .string s.name, .int .i64 s.at'] 55))
  have hsz0 : w.heap.size < (w.alloc (.cells #[.int .i64 s.cls, .string s.name, .int .i64 s.at'] 55)).heap.size := by simp
  clear hI
  go_enter Try.func51, Try.ntmps51
  go_wp2
  go_loopg [12] xs.length (fun g c wr => ∃ j : Nat, j + g = xs.length ∧ c = .int .i64 j ∧ I (linesAt (xs.take j) s) wr ∧ SiteAt wr w.heap.size s ∧ w.heap.size < wr.heap.size)
  case atStart => exact ⟨0, by omega, rfl, hI0, hs0, hsz0⟩
  case round =>
    obtain ⟨j, hj, rfl, hIj, hsj, hzj⟩ := hrel
    clear hI0 hs0 hsz0
    by_cases hlt : j < xs.length
    · obtain ⟨ad', cap'', e', -, -, -, hrow⟩ := hX _ _ hIj
      simp only [Value.slice.injEq] at e'
      obtain ⟨rfl, -, -⟩ := e'
      obtain ⟨b, o, rfl, -, v0, v1, v2, sv, v3, hsl⟩ := hrow j xs[j] (by simp [hlt])
      have hxj : Hid (xs[j]? = some xs[j]) := by show _ = _; simp [hlt]
      generalize xs[j] = x at *
      have HT : Hid (linesAt (xs.take (j + 1)) s = linesAt (xs.take j) s ++ if eqS x.site s then x.lines else []) := linesAt_take hxj.out s
      simp only [Nat.add_zero] at v0
      obtain ⟨ad2, cap2, rfl, hl2, hcap2, -, -⟩ := id hsl
      unfold maxLen at hcap2
      obtain ⟨s0, s1, s2⟩ := id hsj
      have s0' := fun y => cell_later (bel1 wr y) s0
      have s1' := fun y => cell_later (bel1 wr y) s1
      have s2' := fun y => cell_later (bel1 wr y) s2
      have he := fun w => neqS x.site s w
      clear hrow s0 s1 s2
      have hj1 : (j : Int) < (xs.length : Int) := by omega
      have hj0 : (0 : Int) ≤ (j : Int) := by omega
      have hbx := bel1 wr (Obj.cells #[Value.int IntKind.i64 x.site.cls, Value.string x.site.name, Value.int IntKind.i64 x.site.at', Value.slice ad2 x.lines.length cap2] 58)
      have hzx : (wr.alloc (Obj.cells #[Value.int IntKind.i64 x.site.cls, Value.string x.site.name, Value.int IntKind.i64 x.site.at', Value.slice ad2 x.lines.length cap2] 58)).heap.size = wr.heap.size + 1 := by simp
      by_cases hp : eqS x.site s = true
      · have hp' : (!eqS x.site s) = false := by simp [hp]
        have HT' : Hid (linesAt (xs.take (j + 1)) s = linesAt (xs.take j) s ++ x.lines) := by show _ = _; rw [HT.out, if_pos hp]
        rw [hp'] at he
        clear hp hp'
        have hIx := hL _ _ _ hIj hbx
        have hsx := hsj.later hbx
        have hslx := hsl.later goodL hbx
        go_wp2
        generalize (wr.alloc (Obj.cells #[Value.int IntKind.i64 x.site.cls, Value.string x.site.name, Value.int IntKind.i64 x.site.at', Value.slice ad2 x.lines.length cap2] 58)) = W1 at *
        clear he s0' s1' s2' v0 v1 v2 v3 hIj hsj hsl
        go_loopg [23] x.lines.length (fun g c ws => ∃ q : Nat, q + g = x.lines.length ∧ c = .int .i64 q ∧ I (linesAt (xs.take j) s ++ x.lines.take q) ws ∧ SiteAt ws w.heap.size s ∧ IsLines P ws (.slice ad2 x.lines.length cap2) x.lines ∧ w.heap.size < ws.heap.size)
        case atStart => exact ⟨0, by omega, rfl, by simpa using hIx, hsx, hslx, by omega⟩
        case round =>
          obtain ⟨q, hq, rfl, hIq, hsq, hlq, hzq⟩ := hrel
          clear hIx hsx hslx
          by_cases hltq : q < x.lines.length
          · obtain ⟨ad3, cap3, e3, -, -, -, hrow3⟩ := id hlq
            simp only [Value.slice.injEq] at e3
            obtain ⟨rfl, -, -⟩ := e3
            obtain ⟨b3, o3, rfl, -, y0, y1⟩ := hrow3 q x.lines[q] (by simp [hltq])
            have hyq : Hid (x.lines[q]? = some x.lines[q]) := by show _ = _; simp [hltq]
            generalize x.lines[q] = y at *
            simp only [Nat.add_zero] at y0
            have hq1 : (q : Int) < (x.lines.length : Int) := by omega
            have hq0 : (0 : Int) ≤ (q : Int) := by omega
            have hby := bel1 wr (Obj.cells #[Value.int IntKind.i64 y.cls, Value.int IntKind.i64 y.found] 60)
            have hIy := hL _ _ _ hIq hby
            have hsy := hsq.later hby
            clear hrow3
            go_wp2_with fail
            refine (hF _ y _ hIy).mono ?_
            rintro e w1 ⟨rfl, hI1, hK1, hz1⟩
            have hz1' : wr.heap.size + 1 ≤ w1.heap.size := by simpa using hz1
            go_wp2
            go_roundg (gk - 1)
            case measure => omega
            case rel =>
              have hmw : w.heap.size ≠ m := by omega
              refine ⟨q + 1, by omega, by go_num, ?_, ?_, ?_, by omega⟩
              · rw [take_snoc hyq.out, ← List.append_assoc]; exact hI1
              · exact ⟨hK1 _ _ _ hmw hsy.c0, hK1 _ _ _ hmw hsy.c1, hK1 _ _ _ hmw hsy.c2⟩
              · exact (hlq.later goodL hby).keep goodL (hK1.mono hPm) fun _ h => h
          · obtain rfl : q = x.lines.length := by omega
            go_wp2
            go_roundg (xs.length - (j + 1))
            case measure => omega
            case rel =>
              rw [List.take_of_length_le (Nat.le_refl _)] at hIq
              exact ⟨j + 1, by omega, by go_num, by rw [HT'.out]; exact hIq, hsq, hzq⟩
      · have hp1 : eqS x.site s = false := by simpa using hp
        have hp' : (!eqS x.site s) = true := by simp [hp1]
        have HT' : Hid (linesAt (xs.take (j + 1)) s = linesAt (xs.take j) s) := by show _ = _; rw [HT.out, if_neg (by simp [hp1])]; simp
        rw [hp'] at he
        clear hp hp' hp1
        go_wp2
        go_roundg (gk - 1)
        case measure => omega
        case rel => exact ⟨j + 1, by omega, by go_num, by rw [HT'.out]; exact hL _ _ _ hIj hbx, hsj.later hbx, by omega⟩
    · obtain rfl : j = xs.length := by omega
      go_wp2
      refine bodyPost_end (v := .tuple #[]) (by simp [results, Try.results51, go_sem]) rfl ⟨rfl, ?_⟩
      rw [List.take_of_length_le (Nat.le_refl _)] at hIj
      exact hIj

set_option maxHeartbeats 2000000 in
theorem each42_any {P : Nat → Prop} (I : List QL → World → Prop) (m : Nat) (cap' : Value) (xs : List QT) (s : QS) (v : Value) (w : World) (hI : I [] w) (hm : m < w.heap.size) (hPm : ∀ b, P b → b ≠ m)
    (hX : ∀ l w', I l w' → IsTallies P w' v xs) (hL : ∀ l w' w'', I l w' → Below w'.heap.size w' w'' → I l w'')
    (hF : ∀ l x w', I l w' → Calls Try.prog 53 #[LV x, cap'] w' fun e w'' => e = .returned (.tuple #[]) ∧ I (l ++ [x]) w'' ∧ Keeps (fun b => b ≠ m) w' w'' ∧ w'.heap.size ≤ w''.heap.size) :
    Calls Try.prog 51 #[v, SV s, .func (.func 53) #[] #[cap']] w fun e w' => e = .returned (.tuple #[]) ∧ I (linesAt xs s) w' := by
  obtain ⟨ad, cap, rfl, hl, hcap, -, -⟩ := id (hX _ _ hI)
  unfold maxLen at hcap
  have hs0 := siteNew w s 55
  have hI0 := hL _ _ _ hI (bel1 w (.cells #[.int .i64 s.cls, .string s.name, .int .i64 s.at'] 55))
  have hsz0 : w.heap.size < (w.alloc (.cells #[.int .i64 s.cls, .string s.name, .int .i64 s.at'] 55)).heap.size := by simp
  clear hI
  go_enter Try.func51, Try.ntmps51
  go_wp2
  go_loopg [12] xs.length (fun g c wr => ∃ j : Nat, j + g = xs.length ∧ c = .int .i64 j ∧ I (linesAt (xs.take j) s) wr ∧ SiteAt wr w.heap.size s ∧ w.heap.size < wr.heap.size)
  case atStart => exact ⟨0, by omega, rfl, hI0, hs0, hsz0⟩
  case round =>
    obtain ⟨j, hj, rfl, hIj, hsj, hzj⟩ := hrel
    clear hI0 hs0 hsz0
    by_cases hlt : j < xs.length
    · obtain ⟨ad', cap'', e', -, -, -, hrow⟩ := hX _ _ hIj
      simp only [Value.slice.injEq] at e'
      obtain ⟨rfl, -, -⟩ := e'
      obtain ⟨b, o, rfl, -, v0, v1, v2, sv, v3, hsl⟩ := hrow j xs[j] (by simp [hlt])
      have hxj : Hid (xs[j]? = some xs[j]) := by show _ = _; simp [hlt]
      generalize xs[j] = x at *
      have HT : Hid (linesAt (xs.take (j + 1)) s = linesAt (xs.take j) s ++ if eqS x.site s then x.lines else []) := linesAt_take hxj.out s
      simp only [Nat.add_zero] at v0
      obtain ⟨ad2, cap2, rfl, hl2, hcap2, -, -⟩ := id hsl
      unfold maxLen at hcap2
      obtain ⟨s0, s1, s2⟩ := id hsj
      have s0' := fun y => cell_later (bel1 wr y) s0
      have s1' := fun y => cell_later (bel1 wr y) s1
      have s2' := fun y => cell_later (bel1 wr y) s2
      have he := fun w => neqS x.site s w
      clear hrow s0 s1 s2
      have hj1 : (j : Int) < (xs.length : Int) := by omega
      have hj0 : (0 : Int) ≤ (j : Int) := by omega
      have hbx := bel1 wr (Obj.cells #[Value.int IntKind.i64 x.site.cls, Value.string x.site.name, Value.int IntKind.i64 x.site.at', Value.slice ad2 x.lines.length cap2] 58)
      have hzx : (wr.alloc (Obj.cells #[Value.int IntKind.i64 x.site.cls, Value.string x.site.name, Value.int IntKind.i64 x.site.at', Value.slice ad2 x.lines.length cap2] 58)).heap.size = wr.heap.size + 1 := by simp
      by_cases hp : eqS x.site s = true
      · have hp' : (!eqS x.site s) = false := by simp [hp]
        have HT' : Hid (linesAt (xs.take (j + 1)) s = linesAt (xs.take j) s ++ x.lines) := by show _ = _; rw [HT.out, if_pos hp]
        rw [hp'] at he
        clear hp hp'
        have hIx := hL _ _ _ hIj hbx
        have hsx := hsj.later hbx
        have hslx := hsl.later goodL hbx
        go_wp2
        generalize (wr.alloc (Obj.cells #[Value.int IntKind.i64 x.site.cls, Value.string x.site.name, Value.int IntKind.i64 x.site.at', Value.slice ad2 x.lines.length cap2] 58)) = W1 at *
        clear he s0' s1' s2' v0 v1 v2 v3 hIj hsj hsl
        go_loopg [23] x.lines.length (fun g c ws => ∃ q : Nat, q + g = x.lines.length ∧ c = .int .i64 q ∧ I (linesAt (xs.take j) s ++ x.lines.take q) ws ∧ SiteAt ws w.heap.size s ∧ IsLines P ws (.slice ad2 x.lines.length cap2) x.lines ∧ w.heap.size < ws.heap.size)
        case atStart => exact ⟨0, by omega, rfl, by simpa using hIx, hsx, hslx, by omega⟩
        case round =>
          obtain ⟨q, hq, rfl, hIq, hsq, hlq, hzq⟩ := hrel
          clear hIx hsx hslx
          by_cases hltq : q < x.lines.length
          · obtain ⟨ad3, cap3, e3, -, -, -, hrow3⟩ := id hlq
            simp only [Value.slice.injEq] at e3
            obtain ⟨rfl, -, -⟩ := e3
            obtain ⟨b3, o3, rfl, -, y0, y1⟩ := hrow3 q x.lines[q] (by simp [hltq])
            have hyq : Hid (x.lines[q]? = some x.lines[q]) := by show _ = _; simp [hltq]
            generalize x.lines[q] = y at *
            simp only [Nat.add_zero] at y0
            have hq1 : (q : Int) < (x.lines.length : Int) := by omega
            have hq0 : (0 : Int) ≤ (q : Int) := by omega
            have hby := bel1 wr (Obj.cells #[Value.int IntKind.i64 y.cls, Value.int IntKind.i64 y.found] 60)
            have hIy := hL _ _ _ hIq hby
            have hsy := hsq.later hby
            clear hrow3
            go_wp2_with fail
            refine (hF _ y _ hIy).mono ?_
            rintro e w1 ⟨rfl, hI1, hK1, hz1⟩
            have hz1' : wr.heap.size + 1 ≤ w1.heap.size := by simpa using hz1
            go_wp2
            go_roundg (gk - 1)
            case measure => omega
            case rel =>
              have hmw : w.heap.size ≠ m := by omega
              refine ⟨q + 1, by omega, by go_num, ?_, ?_, ?_, by omega⟩
              · rw [take_snoc hyq.out, ← List.append_assoc]; exact hI1
              · exact ⟨hK1 _ _ _ hmw hsy.c0, hK1 _ _ _ hmw hsy.c1, hK1 _ _ _ hmw hsy.c2⟩
              · exact (hlq.later goodL hby).keep goodL (hK1.mono hPm) fun _ h => h
          · obtain rfl : q = x.lines.length := by omega
            go_wp2
            go_roundg (xs.length - (j + 1))
            case measure => omega
            case rel =>
              rw [List.take_of_length_le (Nat.le_refl _)] at hIq
              exact ⟨j + 1, by omega, by go_num, by rw [HT'.out]; exact hIq, hsq, hzq⟩
      · have hp1 : eqS x.site s = false := by simpa using hp
        have hp' : (!eqS x.site s) = true := by simp [hp1]
        have HT' : Hid (linesAt (xs.take (j + 1)) s = linesAt (xs.take j) s) := by show _ = _; rw [HT.out, if_neg (by simp [hp1])]; simp
        rw [hp'] at he
        clear hp hp' hp1
        go_wp2
        go_roundg (gk - 1)
        case measure => omega
        case rel => exact ⟨j + 1, by omega, by go_num, by rw [HT'.out]; exact hL _ _ _ hIj hbx, hsj.later hbx, by omega⟩
    · obtain rfl : j = xs.length := by omega
      go_wp2
      refine bodyPost_end (v := .tuple #[]) (by simp [results, Try.results51, go_sem]) rfl ⟨rfl, ?_⟩
      rw [List.take_of_length_le (Nat.le_refl _)] at hIj
      exact hIj

theorem frozen_new (w : World) (cs : Array Value) (t : TypeId) (n j : Nat) (hn : w.heap.size = n) : (w.alloc (.cells cs t)).frozen? ⟨n, j, none⟩ = false := by
  subst hn
  unfold World.frozen?
  rw [show (w.alloc (.cells cs t)).heap[(⟨w.heap.size, j, none⟩ : Addr).block]? = some (.cells cs t) from heap_alloc_new w _]
  simp
/-- How many there are, in all. -/
def sumL (ls : List QL) : Int := ls.foldl (fun n x => wrap64 (n + x.found)) 0
theorem sumL_snoc (l : List QL) (x : QL) : sumL (l ++ [x]) = wrap64 (sumL l + x.found) := by simp [sumL]
theorem all47_any (x : QL) (b : Nat) (n : Int) (w : World) (hc : w.cell? ⟨b, 0, none⟩ = some (.int .i64 n)) (hf : w.frozen? ⟨b, 0, none⟩ = false) : Calls Try.prog 52 #[LV x, .pointer (some ⟨b, 0, none⟩)] w fun e w' => e = .returned (.tuple #[]) ∧ Below w.heap.size (w.setCell ⟨b, 0, none⟩ (.int .i64 (wrap64 (n + x.found)))) w' := by
  have hbl := World.block_lt_of_cell? _ _ hc
  have k := fun y => cell_later (bel1 w y) hc
  have kf := fun y => ((bel1 w y).frozen (p := ⟨b, 0, none⟩) hbl).trans hf
  go_enter Try.func52, Try.ntmps52
  go_wp2
  refine bodyPost_end (v := .tuple #[]) (by simp [results, Try.results52, go_sem]) rfl ⟨rfl, by simpa using bel1 (w.setCell ⟨b, 0, none⟩ (.int .i64 (wrap64 (n + x.found)))) _⟩

/-- What All's walk holds: the sum lies in block m. -/
structure AllI (w : World) (v : Value) (xs : List QT) (m : Nat) (val : List QL → Int) (l : List QL) (w' : World) : Prop where
  bel : Below w.heap.size w w'
  there : m < w'.heap.size
  tal : IsTallies (fun b => b < w.heap.size) w' v xs
  cell : w'.cell? ⟨m, 0, none⟩ = some (.int .i64 (val l))
  fz : w'.frozen? ⟨m, 0, none⟩ = false
theorem AllI.later {w : World} {v : Value} {xs : List QT} {m : Nat} {val : List QL → Int} {l : List QL} {w' w'' : World} (h : AllI w v xs m val l w') (hb : Below w'.heap.size w' w'') : AllI w v xs m val l w'' :=
  ⟨nstep h.bel hb, Nat.lt_of_lt_of_le h.there hb.size, h.tal.later goodT hb, cell_later hb h.cell, (hb.frozen (p := ⟨m, 0, none⟩) h.there).trans h.fz⟩
set_option maxHeartbeats 1000000 in
theorem all_any {P : Nat → Prop} (xs : List QT) (s : QS) (v : Value) (w : World) (hh : IsTallies P w v xs) : Calls Try.prog 42 #[v, SV s] w fun e w' => e = .returned (.int .i64 (sumL (linesAt xs s))) ∧ Below w.heap.size w w' := by
  have hm := hmf
  have ho := tallies_old hh
  obtain ⟨ad, cap, rfl, -, -, -, -⟩ := id hh
  have hb2 := bel2 w (.cells #[.int .i64 s.cls, .string s.name, .int .i64 s.at'] 55) (.cells #[.int .i64 0] 3)
  have hI : AllI w (.slice ad xs.length cap) xs (w.heap.size + 1) sumL [] ((w.alloc (.cells #[.int .i64 s.cls, .string s.name, .int .i64 s.at'] 55)).alloc (.cells #[.int .i64 0] 3)) :=
    ⟨hb2, by simp, ho.later goodT hb2, by rw [cell_new _ _ _ _ (by simp)]; rfl, frozen_new _ _ _ _ _ (by simp)⟩
  have hs := (siteNew w s 55).later (bel1 _ (.cells #[.int .i64 0] 3))
  obtain ⟨s0, s1, s2⟩ := hs
  go_enter Try.func42, Try.ntmps42
  go_wp2_with fail
  refine (each47_any (P := fun b => b < w.heap.size) (AllI w (.slice ad xs.length cap) xs (w.heap.size + 1) sumL) (w.heap.size + 1) _ xs s _ _ hI (by simp) (fun b hb => by omega) (fun l w' h => h.tal) (fun l w' w'' h hb => h.later hb) fun l x w' h => ?_).mono ?_
  · refine (all47_any x _ _ w' h.cell h.fz).mono ?_
    rintro e w'' ⟨rfl, hb⟩
    have hb' : Below (w'.setCell ⟨w.heap.size + 1, 0, none⟩ (.int .i64 (wrap64 (sumL l + x.found)))).heap.size (w'.setCell ⟨w.heap.size + 1, 0, none⟩ (.int .i64 (wrap64 (sumL l + x.found)))) w'' := by simpa using hb
    refine ⟨rfl, AllI.later ⟨h.bel.setCell (by simp) _, by simpa using h.there, h.tal.keep goodT (Keeps.of_setCell (by simp) _) (fun _ h => h), ?_, ?_⟩ hb', ?_, ?_⟩
    · rw [sumL_snoc]; exact cell_set_self h.cell _
    · simpa using h.fz
    · exact (Keeps.of_setCell (by simp) _).trans (Keeps.of_below hb')
    · simpa using hb.size
  · rintro e w1 ⟨rfl, hI1⟩
    have k := hI1.cell
    go_wp2
    go_ret
    exact ⟨rfl, hI1.bel⟩

/-- The class of the most, of those the least, and how many. -/
def mostStep (p : QL) (x : QL) : QL := if x.found > p.found ∨ (x.found > 0 ∧ x.found = p.found ∧ x.cls < p.cls) then x else p
def mostL (ls : List QL) : QL := ls.foldl mostStep ⟨-1, 0⟩
theorem mostL_snoc (l : List QL) (x : QL) : mostL (l ++ [x]) = mostStep (mostL l) x := by simp [mostL]

/-- What Most's closure leaves. -/
structure MostP (w : World) (b : Nat) (q : QL) (w' : World) : Prop where
  bel : Below b w w'
  keep : Keeps (fun k => k ≠ b) w w'
  c0 : w'.cell? ⟨b, 0, none⟩ = some (.int .i64 q.cls)
  c1 : w'.cell? ⟨b, 1, none⟩ = some (.int .i64 q.found)
  fz : ∀ o, w'.frozen? ⟨b, o, none⟩ = false
theorem MostP.same {w : World} {b : Nat} {p : QL} (h0 : w.cell? ⟨b, 0, none⟩ = some (.int .i64 p.cls)) (h1 : w.cell? ⟨b, 1, none⟩ = some (.int .i64 p.found)) (hf : ∀ o, w.frozen? ⟨b, o, none⟩ = false) {w' : World} (hb : Below w.heap.size w w') : MostP w b p w' := by
  have hbl := World.block_lt_of_cell? _ _ h0
  have hbl' : b < w.heap.size := hbl
  exact ⟨hb.mono (by omega), .of_below hb, cell_later hb h0, cell_later hb h1, fun o => (hb.frozen (p := ⟨b, o, none⟩) hbl).trans (hf o)⟩
theorem MostP.set {w : World} {b : Nat} {p x : QL} (h0 : w.cell? ⟨b, 0, none⟩ = some (.int .i64 p.cls)) (h1 : w.cell? ⟨b, 1, none⟩ = some (.int .i64 p.found)) (hf : ∀ o, w.frozen? ⟨b, o, none⟩ = false) {w' : World} (hb : Below w.heap.size ((w.setCell ⟨b, 0, none⟩ (.int .i64 x.cls)).setCell ⟨b, 1, none⟩ (.int .i64 x.found)) w') : MostP w b x w' := by
  have hbl' : b < w.heap.size := World.block_lt_of_cell? _ _ h0
  have hb' : Below ((w.setCell ⟨b, 0, none⟩ (.int .i64 x.cls)).setCell ⟨b, 1, none⟩ (.int .i64 x.found)).heap.size ((w.setCell ⟨b, 0, none⟩ (.int .i64 x.cls)).setCell ⟨b, 1, none⟩ (.int .i64 x.found)) w' := by simpa using hb
  have c0 : ((w.setCell ⟨b, 0, none⟩ (.int .i64 x.cls)).setCell ⟨b, 1, none⟩ (.int .i64 x.found)).cell? ⟨b, 0, none⟩ = some (.int .i64 x.cls) := by
    rw [World.cell?_setCell_other _ _ _ _ (by intro e; injection e with _ e2 _; omega)]
    exact cell_set_self h0 _
  have c1 : ((w.setCell ⟨b, 0, none⟩ (.int .i64 x.cls)).setCell ⟨b, 1, none⟩ (.int .i64 x.found)).cell? ⟨b, 1, none⟩ = some (.int .i64 x.found) := by
    refine cell_set_self (v := .int .i64 p.found) ?_ _
    rw [World.cell?_setCell_other _ _ _ _ (by intro e; injection e with _ e2 _; omega)]
    exact h1
  have fz : ∀ o, ((w.setCell ⟨b, 0, none⟩ (.int .i64 x.cls)).setCell ⟨b, 1, none⟩ (.int .i64 x.found)).frozen? ⟨b, o, none⟩ = false := fun o => by simpa using hf o
  have := MostP.same c0 c1 fz hb'
  exact ⟨(((Below.refl b w).setCell (Nat.le_refl _) _).setCell (Nat.le_refl _) _).trans this.bel, ((Keeps.of_setCell (by simp) _).trans (Keeps.of_setCell (by simp) _)).trans this.keep, this.c0, this.c1, this.fz⟩
set_option maxHeartbeats 1000000 in
theorem most42_any (x p : QL) (b : Nat) (w : World) (h0 : w.cell? ⟨b, 0, none⟩ = some (.int .i64 p.cls)) (h1 : w.cell? ⟨b, 1, none⟩ = some (.int .i64 p.found)) (hf : ∀ o, w.frozen? ⟨b, o, none⟩ = false) : Calls Try.prog 53 #[LV x, .pointer (some ⟨b, 0, none⟩)] w fun e w' => e = .returned (.tuple #[]) ∧ MostP w b (mostStep p x) w' := by
  have hbl : b < w.heap.size := World.block_lt_of_cell? _ _ h0
  have k0 := fun y => cell_later (bel1 w y) h0
  have k1 := fun y => cell_later (bel1 w y) h1
  have kf := fun y o => ((bel1 w y).frozen (p := ⟨b, o, none⟩) hbl).trans (hf o)
  by_cases hA : p.found < x.found
  · have HM : Hid (mostStep p x = x) := by show _ = _; unfold mostStep; rw [if_pos (Or.inl hA)]
    have hd : decide (p.found < x.found) = true := by simpa using hA
    go_enter Try.func53, Try.ntmps53
    go_wp2
    refine bodyPost_end (v := .tuple #[]) (by simp [results, Try.results53, go_sem]) rfl ⟨rfl, ?_⟩
    rw [HM.out]
    exact MostP.set h0 h1 hf (by simpa using bel1 ((w.setCell ⟨b, 0, none⟩ (.int .i64 x.cls)).setCell ⟨b, 1, none⟩ (.int .i64 x.found)) _)
  · have hdA : decide (p.found < x.found) = false := by simpa using hA
    by_cases hB : 0 < x.found
    · have hdB : decide (0 < x.found) = true := by simpa using hB
      by_cases hC : x.found = p.found
      · by_cases hD : x.cls < p.cls
        · have HM : Hid (mostStep p x = x) := by show _ = _; unfold mostStep; rw [if_pos (Or.inr ⟨hB, hC, hD⟩)]
          have hdD : decide (x.cls < p.cls) = true := by simpa using hD
          have hdC : (x.found == p.found) = true := by simpa using hC
          go_enter Try.func53, Try.ntmps53
          go_wp2
          refine bodyPost_end (v := .tuple #[]) (by simp [results, Try.results53, go_sem]) rfl ⟨rfl, ?_⟩
          rw [HM.out]
          first
          | exact MostP.set h0 h1 hf (by simpa using bel1 ((w.setCell ⟨b, 0, none⟩ (.int .i64 x.cls)).setCell ⟨b, 1, none⟩ (.int .i64 x.found)) _)
          | exact MostP.set h0 h1 hf (by simpa [hC] using bel1 ((w.setCell ⟨b, 0, none⟩ (.int .i64 x.cls)).setCell ⟨b, 1, none⟩ (.int .i64 x.found)) _)
        · have HM : Hid (mostStep p x = p) := by show _ = _; unfold mostStep; rw [if_neg (by omega)]
          have hdD : decide (x.cls < p.cls) = false := by simpa using hD
          have hdC : (x.found == p.found) = true := by simpa using hC
          go_enter Try.func53, Try.ntmps53
          go_wp2
          refine bodyPost_end (v := .tuple #[]) (by simp [results, Try.results53, go_sem]) rfl ⟨rfl, ?_⟩
          rw [HM.out]
          exact MostP.same h0 h1 hf (bel1 _ _)
      · have HM : Hid (mostStep p x = p) := by show _ = _; unfold mostStep; rw [if_neg (by omega)]
        have hdC : (x.found == p.found) = false := by simpa using hC
        go_enter Try.func53, Try.ntmps53
        go_wp2
        refine bodyPost_end (v := .tuple #[]) (by simp [results, Try.results53, go_sem]) rfl ⟨rfl, ?_⟩
        rw [HM.out]
        exact MostP.same h0 h1 hf (bel1 _ _)
    · have HM : Hid (mostStep p x = p) := by show _ = _; unfold mostStep; rw [if_neg (by omega)]
      have hdB : decide (0 < x.found) = false := by simpa using hB
      go_enter Try.func53, Try.ntmps53
      go_wp2
      refine bodyPost_end (v := .tuple #[]) (by simp [results, Try.results53, go_sem]) rfl ⟨rfl, ?_⟩
      rw [HM.out]
      exact MostP.same h0 h1 hf (bel1 _ _)

/-- What Most's walk holds. -/
structure MostI (w : World) (v : Value) (xs : List QT) (m : Nat) (l : List QL) (w' : World) : Prop where
  bel : Below w.heap.size w w'
  there : m < w'.heap.size
  tal : IsTallies (fun b => b < w.heap.size) w' v xs
  c0 : w'.cell? ⟨m, 0, none⟩ = some (.int .i64 (mostL l).cls)
  c1 : w'.cell? ⟨m, 1, none⟩ = some (.int .i64 (mostL l).found)
  fz : ∀ o, w'.frozen? ⟨m, o, none⟩ = false
theorem MostI.later {w : World} {v : Value} {xs : List QT} {m : Nat} {l : List QL} {w' w'' : World} (h : MostI w v xs m l w') (hb : Below w'.heap.size w' w'') : MostI w v xs m l w'' :=
  ⟨nstep h.bel hb, Nat.lt_of_lt_of_le h.there hb.size, h.tal.later goodT hb, cell_later hb h.c0, cell_later hb h.c1, fun o => (hb.frozen (p := ⟨m, o, none⟩) h.there).trans (h.fz o)⟩
set_option maxHeartbeats 1000000 in
theorem most_any {P : Nat → Prop} (xs : List QT) (s : QS) (v : Value) (w : World) (hh : IsTallies P w v xs) : Calls Try.prog 43 #[v, SV s] w fun e w' => e = .returned (.tuple #[.int .i64 (mostL (linesAt xs s)).cls, .int .i64 (mostL (linesAt xs s)).found]) ∧ Below w.heap.size w w' := by
  have hm := hmf
  have ho := tallies_old hh
  obtain ⟨ad, cap, rfl, -, -, -, -⟩ := id hh
  have hb2 := bel2 w (.cells #[.int .i64 s.cls, .string s.name, .int .i64 s.at'] 55) (.cells #[.int .i64 (-1), .int .i64 0] 60)
  have hI : MostI w (.slice ad xs.length cap) xs (w.heap.size + 1) [] ((w.alloc (.cells #[.int .i64 s.cls, .string s.name, .int .i64 s.at'] 55)).alloc (.cells #[.int .i64 (-1), .int .i64 0] 60)) :=
    ⟨hb2, by simp, ho.later goodT hb2, by rw [cell_new _ _ _ _ (by simp)]; rfl, by rw [cell_new _ _ _ _ (by simp)]; rfl, fun o => frozen_new _ _ _ _ _ (by simp)⟩
  have hs := (siteNew w s 55).later (bel1 _ (.cells #[.int .i64 (-1), .int .i64 0] 60))
  obtain ⟨s0, s1, s2⟩ := hs
  go_enter Try.func43, Try.ntmps43
  go_wp2_with fail
  refine (each42_any (P := fun b => b < w.heap.size) (MostI w (.slice ad xs.length cap) xs (w.heap.size + 1)) (w.heap.size + 1) _ xs s _ _ hI (by simp) (fun b hb => by omega) (fun l w' h => h.tal) (fun l w' w'' h hb => h.later hb) fun l x w' h => ?_).mono ?_
  · refine (most42_any x (mostL l) _ w' h.c0 h.c1 h.fz).mono ?_
    rintro e w'' ⟨rfl, hp⟩
    refine ⟨rfl, ⟨h.bel.trans (hp.bel.mono (by omega)), Nat.lt_of_lt_of_le h.there hp.bel.size, h.tal.keep goodT (hp.keep.mono (fun b hb => by omega)) (fun _ h => h), ?_, ?_, hp.fz⟩, hp.keep, hp.bel.size⟩
    · rw [mostL_snoc]; exact hp.c0
    · rw [mostL_snoc]; exact hp.c1
  · rintro e w1 ⟨rfl, hI1⟩
    have k0 := hI1.c0
    have k1 := hI1.c1
    go_wp2
    go_quiet (fail)
    go_wp2
    go_ret2
    exact ⟨rfl, below_drewN hI1.bel _⟩


end Go.Proofs.Ytlekfiglefopgaa
