/- CellsTrue's walk. -/
import Derived.Test.YtidjpdpbjgnfkaaXl
import Derived.Test.YtidjpdpbjgnfkaaXf
import Derived.Test.YtidjpdpbjgnfkaaNb
namespace Go.Proofs.Ytidjpdpbjgnfkaa
open Go.ChangeShapes Go.WideShapes Go.ChangeAt Go.RowKit
set_option linter.unusedSimpArgs false
set_option linter.unusedVariables false
set_option maxRecDepth 8000

/-- Where something is found, it is found from there, too. -/
theorem findL_form {xs : List QC} {name : ByteArray} : ∀ {l : List Int}, findL xs name l = (-1, -1) ∨ ∃ k ∈ l, 0 ≤ numI (methsOf xs k) name ∧ findL xs name l = (k, numI (methsOf xs k) name)
  | [] => Or.inl rfl
  | k :: r => by
    unfold findL
    split
    · rename_i hk
      exact Or.inr ⟨k, by simp, hk, rfl⟩
    · rcases findL_form (xs := xs) (name := name) (l := r) with h | ⟨q, hq, h1, h2⟩
      · exact Or.inl h
      · exact Or.inr ⟨q, by simp [hq], h1, h2⟩
theorem findE_again (xs : List QC) (c : Int) (name : ByteArray) (h : 0 ≤ (findE xs c name).1) : findE xs (findE xs c name).1 name = findE xs c name := by
  rw [findE_L c]
  rw [findE_L c] at h
  rcases findL_form (xs := xs) (name := name) (l := upsE xs (xs.length + 1) c) with he | ⟨k, hk, h1, he⟩
  · rw [he] at h; simp at h
  · rw [he]
    simp only
    rw [findE_L]
    obtain ⟨i, hi, hik⟩ := List.mem_iff_getElem.1 hk
    obtain ⟨q, x, e, hx⟩ := upsE_mem _ _ i _ (by rw [List.getElem?_eq_getElem hi])
    rw [hik] at e
    have hc : clsAt xs k = some x := by rw [e, clsAt_nat]; exact hx
    unfold upsE
    rw [hc]
    simp only [findL]
    rw [if_pos h1]
/-- What is remembered is so. -/
def TrueI (X : QW) (name : ByteArray) (l : List QE) : Prop := ∀ x ∈ l, x.lines.length ≤ 3 ∧ ∀ y ∈ x.lines, findE X.classes y.found name = findE X.classes y.cls name
theorem withLine_lines (x : QE) (y z : QL) (h : z ∈ (withLineE x y).lines) : z ∈ x.lines ∨ z = y := by
  unfold withLineE at h
  split at h
  · exact Or.inl h
  · split at h
    · simp at h
    · rw [List.mem_append] at h
      rcases h with h | h
      · exact Or.inl h
      · simp at h; exact Or.inr h
theorem TrueI.put {X : QW} {name : ByteArray} {l : List QE} (h : TrueI X name l) (s : QS) (ep : Int) (y : QL) (hy : findE X.classes y.found name = findE X.classes y.cls name) : TrueI X name (putE l s ep y) := by
  have hw : ∀ x : QE, (x.lines.length ≤ 3 ∧ ∀ z ∈ x.lines, findE X.classes z.found name = findE X.classes z.cls name) → ((withLineE x y).lines.length ≤ 3 ∧ ∀ z ∈ (withLineE x y).lines, findE X.classes z.found name = findE X.classes z.cls name) := fun x hx => by
    refine ⟨withLine_len x y hx.1, fun z hz => ?_⟩
    rcases withLine_lines x y z hz with h | h
    · exact hx.2 z h
    · rw [h]; exact hy
  induction l with
  | nil =>
    intro x hx
    simp [putE] at hx
    subst hx
    exact hw ⟨s, ep, false, []⟩ ⟨by simp, fun z hz => by simp at hz⟩
  | cons x r ih =>
    have hx := h x (by simp)
    intro z hz
    unfold putE at hz
    split at hz
    · rw [List.mem_cons] at hz
      rcases hz with rfl | hz
      · refine hw _ ?_
        unfold freshE
        split
        · exact hx
        · exact ⟨by simp, fun z hz => by simp at hz⟩
      · exact h z (by simp [hz])
    · rw [List.mem_cons] at hz
      rcases hz with rfl | hz
      · exact hx
      · exact ih (fun u hu => h u (by simp [hu])) z hz
theorem putE_len : ∀ (l : List QE) (s : QS) (ep : Int) (y : QL), (putE l s ep y).length ≤ l.length + 1
  | [], s, ep, y => by simp [putE]
  | x :: r, s, ep, y => by
    unfold putE
    split
    · simp
    · simpa using putE_len r s ep y
theorem getE_line {l : List QE} {s : QS} {ep c : Int} (h : 0 ≤ getE l s ep c) : ∃ x ∈ l, ∃ y ∈ x.lines, y.cls = c ∧ y.found = getE l s ep c := by
  unfold getE at h ⊢
  cases hf : l.find? fun x => eqS x.site s with
  | none => rw [hf] at h; simp at h
  | some x =>
    rw [hf] at h
    simp only [Option.map_some, Option.getD_some] at h ⊢
    have hx := List.mem_of_find?_eq_some hf
    by_cases he : x.epoch = ep
    · rw [if_pos he] at h ⊢
      unfold lineE at h ⊢
      cases hy : x.lines.find? fun y => y.cls == c with
      | none => rw [hy] at h; simp at h
      | some y =>
        refine ⟨x, hx, y, List.mem_of_find?_eq_some hy, ?_, by simp⟩
        have := List.find?_some hy
        simpa using this
    · rw [if_neg he] at h; simp at h
theorem TrueI.find {X : QW} {name : ByteArray} {l : List QE} (h : TrueI X name l) (s : QS) (c : Int) : (cfindE l X s c name).2.1 = findE X.classes c name ∧ TrueI X name (cfindE l X s c name).1 ∧ (cfindE l X s c name).1.length ≤ l.length + 1 := by
  unfold cfindE
  split
  · rename_i hh
    have h0 : 0 ≤ getE l s X.epoch c := by simp [hasB] at hh; omega
    obtain ⟨x, hx, y, hy, h1, h2⟩ := getE_line h0
    refine ⟨?_, h, by simp⟩
    show findE X.classes (getE l s X.epoch c) name = _
    rw [← h2, ← h1]
    exact (h x hx).2 y hy
  · split
    · exact ⟨rfl, h, by simp⟩
    · rename_i hn
      exact ⟨rfl, h.put s X.epoch _ (findE_again X.classes c name (by omega)), putE_len _ _ _ _⟩
theorem TrueI.small {X : QW} {name : ByteArray} {l : List QE} (h : TrueI X name l) : ∀ x ∈ l, x.lines.length * 16 ≤ 281474976710656 := fun x hx => by have := (h x hx).1; omega

structure TrR (w : World) (P : Nat → Prop) (cv hv sv nv lv : Value) (X : QW) (ss : List QS) (cs : List Int) (l : List QE) (w' : World) : Prop where
  bel : Below w.heap.size w w'
  hc : IsClasses P w' cv X.classes
  hh : IsHeap P w' hv X.heap
  w0 : w'.cell? ⟨w.heap.size, 0, none⟩ = some cv
  w1 : w'.cell? ⟨w.heap.size, 1, none⟩ = some hv
  w2 : w'.cell? ⟨w.heap.size, 2, none⟩ = some (.int .i64 X.epoch)
  sites : IsSites P w' sv ss
  classes : IsRow IntC 1 0 P w' nv cs
  cl : IsCells (fun _ => True) w' lv l
theorem TrR.later {w : World} {P : Nat → Prop} {cv hv sv nv lv : Value} {X : QW} {ss : List QS} {cs : List Int} {l : List QE} {w' w'' : World} (h : TrR w P cv hv sv nv lv X ss cs l w') (hb : Below w'.heap.size w' w'') : TrR w P cv hv sv nv lv X ss cs l w'' :=
  ⟨nstep h.bel hb, h.hc.later goodC hb, h.hh.later goodO hb, cell_later hb h.w0, cell_later hb h.w1, cell_later hb h.w2, h.sites.later goodS hb, h.classes.later goodN hb, h.cl.later goodE hb⟩
theorem trS {p : World → Prop} {p0 p1 p2 p3 p4 p5 p6 : Addr} {y0 y1 y2 y3 y4 y5 y6 : Value} {w' w'' : World} (hp : p w' → Below w'.heap.size w' w'' → p w'') (h : w'.cell? p0 = some y0 ∧ w'.cell? p1 = some y1 ∧ w'.cell? p2 = some y2 ∧ w'.cell? p3 = some y3 ∧ w'.cell? p4 = some y4 ∧ w'.cell? p5 = some y5 ∧ w'.cell? p6 = some y6 ∧ p w') (hb : Below w'.heap.size w' w'') :
    w''.cell? p0 = some y0 ∧ w''.cell? p1 = some y1 ∧ w''.cell? p2 = some y2 ∧ w''.cell? p3 = some y3 ∧ w''.cell? p4 = some y4 ∧ w''.cell? p5 = some y5 ∧ w''.cell? p6 = some y6 ∧ p w'' :=
  ⟨cell_later hb h.1, cell_later hb h.2.1, cell_later hb h.2.2.1, cell_later hb h.2.2.2.1, cell_later hb h.2.2.2.2.1, cell_later hb h.2.2.2.2.2.1, cell_later hb h.2.2.2.2.2.2.1, hp h.2.2.2.2.2.2.2 hb⟩
theorem trS4 {p : World → Prop} {p0 p1 p2 p3 : Addr} {y0 y1 y2 y3 : Value} {w' w'' : World} (hp : p w' → Below w'.heap.size w' w'' → p w'') (h : w'.cell? p0 = some y0 ∧ w'.cell? p1 = some y1 ∧ w'.cell? p2 = some y2 ∧ w'.cell? p3 = some y3 ∧ p w') (hb : Below w'.heap.size w' w'') :
    w''.cell? p0 = some y0 ∧ w''.cell? p1 = some y1 ∧ w''.cell? p2 = some y2 ∧ w''.cell? p3 = some y3 ∧ p w'' :=
  ⟨cell_later hb h.1, cell_later hb h.2.1, cell_later hb h.2.2.1, cell_later hb h.2.2.2.1, hp h.2.2.2.2 hb⟩

set_option maxHeartbeats 4000000 in
theorem cellsTrue_walk {P : Nat → Prop} (X : QW) (ss : List QS) (cs : List Int) (name : ByteArray) (cv hv sv nv : Value) (w : World) (hC : IsClasses P w cv X.classes) (hH : IsHeap P w hv X.heap) (hs : IsSites P w sv ss) (hn : IsRow IntC 1 0 P w nv cs) (hls : ss.length ≤ 1048576) :
    Calls Try.prog 4 #[WV cv hv X.epoch, sv, nv, .string name] w fun e w' => e = .returned (.bool true) ∧ Below w.heap.size w w' := by
  have hR0 : TrR w P cv hv sv nv (.slice none 0 0) X ss cs [] (w.alloc (.cells #[cv, hv, .int .i64 X.epoch] 26)) := by
    have hb := bel1 w (.cells #[cv, hv, .int .i64 X.epoch] 26)
    exact ⟨hb, hC.later goodC hb, hH.later goodO hb, by rw [cell_new _ _ _ _ rfl]; rfl, by rw [cell_new _ _ _ _ rfl]; rfl, by rw [cell_new _ _ _ _ rfl]; rfl, hs.later goodS hb, hn.later goodN hb, nilCells _⟩
  obtain ⟨ac, cc, rfl, -, -, -, -⟩ := id hC
  obtain ⟨ah, ch, rfl, -, -, -, -⟩ := id hH
  obtain ⟨ad, cap, rfl, hl1, hl2, -, -⟩ := id hs
  obtain ⟨an, cn, rfl, hl3, hl4, -, -⟩ := id hn
  unfold maxLen at hl2 hl4
  clear hC hH hs hn
  go_enter Try.func4, Try.ntmps4
  go_wp2_with fail
  refine (alive6 _).mono ?_
  rintro e w1 ⟨rfl, hb1⟩
  replace hR0 := hR0.later hb1
  clear hb1
  have b0 := hR0.w0
  have b1 := hR0.w1
  have b2 := hR0.w2
  go_wp2_with fail
  refine (rright_any X _ _ _ hR0.hc hR0.hh).mono ?_
  rintro e w2 ⟨rfl, hb2⟩
  replace hR0 := hR0.later hb2
  clear hb2 b0 b1 b2
  generalize rightE X = rr at *
  by_cases hrr : rr = 0
  · subst hrr
    go_wp2
    go_loopg [9, 25] ss.length (fun g l i wr => ∃ (j : Nat) (A : List QE), j + g = ss.length ∧ i = .int .i64 j ∧ TrueI X name A ∧ A.length ≤ j ∧ TrR w P (.slice ac X.classes.length cc) (.slice ah X.heap.length ch) (.slice ad ss.length cap) (.slice an cs.length cn) l X ss cs A wr)
    case atStart => exact ⟨0, [], by omega, rfl, (fun x hx => by simp at hx), by simp, hR0⟩
    case round =>
      obtain ⟨j, A, hj, rfl, hA, hAl, hR⟩ := hrel
      clear hR0
      have HA : Hid (TrueI X name A) := hA
      have HAL : Hid (A.length ≤ j) := hAl
      clear hA hAl
      by_cases hlt : j < ss.length
      · obtain ⟨ad', cap', e', -, -, -, hrow⟩ := id hR.sites
        simp only [Value.slice.injEq] at e'
        obtain ⟨rfl, -, -⟩ := e'
        obtain ⟨b, o, rfl, -, v0, v1, v2⟩ := hrow j ss[j] (by simp)
        generalize ss[j] = s at *
        simp only [Nat.add_zero] at v0
        have hj0 : (0 : Int) ≤ (j : Int) := by omega
        have hj1 : (j : Int) < (ss.length : Int) := by omega
        have hbs := bel1 wr (Obj.cells #[Value.int IntKind.i64 s.cls, Value.string s.name, Value.int IntKind.i64 s.at'] 28)
        have hst := siteNew wr s 28
        clear hrow
        by_cases hjc : j < cs.length
        · have hjc' : (j : Int) < (cs.length : Int) := by omega
          obtain ⟨an', cn', e', -, -, -, hrow2⟩ := id hR.classes
          simp only [Value.slice.injEq] at e'
          obtain ⟨rfl, -, -⟩ := e'
          obtain ⟨b2, o2, rfl, -, y0⟩ := hrow2 j cs[j] (by simp)
          simp only [IntC, Nat.add_zero, Nat.mul_one] at y0
          generalize cs[j] = c at *
          have hR1 := hR.later hbs
          have y1 := cell_later hbs y0
          clear hrow2 y0 hR
          go_wp2
          generalize (wr.alloc (Obj.cells #[Value.int IntKind.i64 s.cls, Value.string s.name, Value.int IntKind.i64 s.at'] 28)) = W1 at *
          generalize wr.heap.size = SB at *
          clear v0 v1 v2 hbs
          have hS0 := trS TrR.later (And.intro hR1.w0 (And.intro hR1.w1 (And.intro hR1.w2 (And.intro hst.c0 (And.intro hst.c1 (And.intro hst.c2 (And.intro y1 hR1))))))) (Below.refl _ W1).drew
          have HF : Hid ((cfindE A X s c name).2.1 = findE X.classes c name ∧ TrueI X name (cfindE A X s c name).1 ∧ (cfindE A X s c name).1.length ≤ A.length + 1) := HA.out.find s c
          have HB : Hid ((A.length + 1) * 72 ≤ 140737488355328) := by show _ ≤ _; have := HAL.out; omega
          go_region_held3 (fun w' => w'.cell? ⟨w.heap.size, 0, none⟩ = some (.slice ac X.classes.length cc) ∧ w'.cell? ⟨w.heap.size, 1, none⟩ = some (.slice ah X.heap.length ch) ∧ w'.cell? ⟨w.heap.size, 2, none⟩ = some (.int .i64 X.epoch) ∧ w'.cell? ⟨SB, 0, none⟩ = some (.int .i64 s.cls) ∧ w'.cell? ⟨SB, 1, none⟩ = some (.string s.name) ∧ w'.cell? ⟨SB, 2, none⟩ = some (.int .i64 s.at') ∧ w'.cell? ⟨b2, o2 + j, none⟩ = some (.int .i64 c) ∧ TrR w P (.slice ac X.classes.length cc) (.slice ah X.heap.length ch) (.slice (some ⟨b, o, none⟩) ss.length cap) (.slice (some ⟨b2, o2, none⟩) cs.length cn) u9 X ss cs A w')
            (first | with_reducible exact hS0 | with_reducible exact hS1)
            (first | (go_at_call 16; refine (cfind_any A X s c name _ _ _ _ (hS0.2.2.2.2.2.2.2.cl.mono goodE (Q := fun _ => True) fun _ h => h) (hS0.2.2.2.2.2.2.2.hc.mono goodC (Q := fun _ => True) fun _ _ => trivial) (hS0.2.2.2.2.2.2.2.hh.mono goodO (Q := fun _ => True) fun _ _ => trivial) HB.out HA.out.small).mono ?_; rintro e w4 ⟨a4, k4, rfl, hZ4, hb4⟩; have hS1 := trS TrR.later hS0 hb4))
          have hR2 := hS1.2.2.2.2.2.2.2
          have y2 := hS1.2.2.2.2.2.2.1
          have hZ5 := hZ4.mono goodE (Q := fun _ => True) fun _ _ => trivial
          clear hS0 hS1 hZ4 hb4 hR1 hst y1
          generalize cfindE A X s c name = zz at *
          obtain ⟨zs, ⟨z1, z2⟩, zh⟩ := zz
          simp only at hZ5 ⊢
          obtain ⟨hz12, hz3, hz4⟩ := HF.out
          simp only at hz12 hz3 hz4
          clear HF
          have HZ3 : Hid (TrueI X name zs) := hz3
          have HZ4 : Hid (zs.length ≤ A.length + 1) := hz4
          have HZ12 : Hid (findE X.classes c name = (z1, z2)) := hz12.symm
          clear hz12 hz3 hz4
          go_wp2
          have hS0 := trS4 TrR.later (And.intro hR2.w0 (And.intro hR2.w1 (And.intro hR2.w2 (And.intro y2 hR2)))) (Below.refl _ w4).drew
          go_region_held3 (fun w' => w'.cell? ⟨w.heap.size, 0, none⟩ = some (.slice ac X.classes.length cc) ∧ w'.cell? ⟨w.heap.size, 1, none⟩ = some (.slice ah X.heap.length ch) ∧ w'.cell? ⟨w.heap.size, 2, none⟩ = some (.int .i64 X.epoch) ∧ w'.cell? ⟨b2, o2 + j, none⟩ = some (.int .i64 c) ∧ TrR w P (.slice ac X.classes.length cc) (.slice ah X.heap.length ch) (.slice (some ⟨b, o, none⟩) ss.length cap) (.slice (some ⟨b2, o2, none⟩) cs.length cn) u9 X ss cs A w')
            (first | with_reducible exact hS0 | with_reducible exact hS1)
            (first | (go_at_call 17; refine (rfind_any X c name _ _ _ hS0.2.2.2.2.hc hS0.2.2.2.2.hh).mono ?_; rintro e w5 ⟨he5, hb5⟩; rw [HZ12.out] at he5; subst he5; have hS1 := trS4 TrR.later hS0 hb5))
          have hR3 := hS1.2.2.2.2
          have hZ6 := (hZ5.later goodE (Below.refl _ w4).drew).later goodE hb5
          clear hS0 hS1 hb5 hZ5 hR2 y2
          go_wp2
          go_roundg (gk - 1)
          case measure => omega
          case rel => exact ⟨j + 1, zs, by omega, by go_num, HZ3.out, by have := HZ4.out; have := HAL.out; omega, hR3.bel, hR3.hc, hR3.hh, hR3.w0, hR3.w1, hR3.w2, hR3.sites, hR3.classes, hZ6⟩
        · have hjc' : (cs.length : Int) ≤ (j : Int) := by omega
          go_wp2
          go_ret
          exact ⟨rfl, nstep hR.bel hbs⟩
      · go_wp2
        go_ret
        exact ⟨rfl, hR.bel⟩
  · have hd : (rr != 0) = true := by simpa using hrr
    go_wp2
    go_ret
    exact ⟨rfl, hR0.bel⟩
end Go.Proofs.Ytidjpdpbjgnfkaa
