/- Package wire: wrongClasses. -/
import Derived.Test.YtjmidhghiahbaaaGreatDoorUe
import Derived.Maps.OwnSet
import Derived.Maps.OwnOps
import Derived.StringKeys
import Derived.Laws.Strings
namespace Go.Proofs.YtjmidhghiahbaaaGreatDoor
open Go.ChangeShapes Go.WideShapes Go.ChangeAt Go.RowKit Go.WideMaps Go.Maps
set_option linter.unusedSimpArgs false
set_option linter.unusedVariables false
set_option maxRecDepth 8000

theorem law9 : Keyed Tryz.prog 9 := string_keyed Tryz.underlying9
theorem zero3 (w : World) : (zeroValue 3).run Tryz.prog w = .ok (.int .i64 0) w := by kernel_rfl
theorem own_later {H : Type} {w w' : World} {k : TypeId} {R : Value → Option (DataW H × List MemPlace)} {b n : Nat} {D : DataW H} (h : w.ownsMap Tryz.prog k R b n D) (hb : Below w.heap.size w w') : w'.ownsMap Tryz.prog k R b n D := by
  obtain ⟨es, clock, h1, h2⟩ := h
  exact ⟨es, clock, (hb.block _ (blk_lt h1)).trans h1, h2⟩
/-- A map of names tells which are there. -/
def Names (D : DataW Unit) (l : List QC) : Prop := Maps.IsMap D ∧ ∀ s : ByteArray, Maps.has D (.string s.data.toList) = l.any fun d => eqN d.name s
theorem names_put {D : DataW Unit} {l : List QC} (h : Names D l) (x : QC) (d : DataW Unit) : Names (D.put (.string x.name.data.toList) d) (l ++ [x]) := by
  refine ⟨h.1.put _ _, fun s => ?_⟩
  rw [List.any_append]
  by_cases he : x.name.data.toList = s.data.toList
  · have e1 : eqN x.name s = true := by unfold eqN; rw [ByteArray.toList_eq, ByteArray.toList_eq, he]; simp
    rw [← he, Maps.has_put_same h.1 (by simp [WideAt.IsKeyLit]), List.any_cons, e1]
    simp
  · have e1 : eqN x.name s = false := by unfold eqN; rw [ByteArray.toList_eq, ByteArray.toList_eq]; simpa using he
    rw [Maps.has_put_other (by intro hc; injection hc with hc; exact he hc.symm), h.2 s]
    simp [e1]
theorem rc_dup7 {xs : List QC} {k : Nat} {x : QC} (hd : dupB xs k x.name = true) : rcE xs k x = 7 := by
  unfold rcE
  split
  · rfl
  · split
    · split
      · rfl
      · first | rfl | rw [if_pos hd]
    · first | rfl | rw [if_pos hd]
theorem rc_name {xs : List QC} {k : Nat} {x : QC} (h : nameB x.name = false) : rcE xs k x = 7 := by unfold rcE; rw [if_pos h]
theorem rc_first {xs : List QC} {k : Nat} {x y : QC} (h : nameB x.name = true) (hy : newC[k]? = some y) (he : eqN x.name y.name = false) : rcE xs k x = 7 := by
  unfold rcE; rw [if_neg (by simp [h]), hy]; simp only; rw [if_pos he]
theorem rc_old {xs : List QC} {k : Nat} {x y : QC} (h : nameB x.name = true) (hy : newC[k]? = some y) (he : eqN x.name y.name = true) (hd : dupB xs k x.name = false) : rcE xs k x = if x.super ≠ y.super then 3 else if x.slots < 0 ∨ 0 < x.slots then 3 else 0 := by
  unfold rcE; rw [if_neg (by simp [h]), hy]; simp only; rw [if_neg (by simp [he]), if_neg (by simp [hd])]
theorem rc_made {xs : List QC} {k : Nat} {x : QC} (h : nameB x.name = true) (hk : 4 ≤ k) (hd : dupB xs k x.name = false) : rcE xs k x = if belowB k x.super = false then 3 else if x.slots < 0 ∨ 6 < x.slots then 3 else 0 := by
  have hy : newC[k]? = none := List.getElem?_eq_none (by simpa [newC] using hk)
  unfold rcE; rw [if_neg (by simp [h]), hy]; simp only; rw [if_neg (by simp [hd])]

/-- The world's box, and the first classes. -/
structure WkS (w : World) (X : QW) (cv hv : Value) (bf og y1 Bm : Nat) (w' : World) : Prop where
  S : WbS w X cv hv w'
  fc : IsClasses (fun _ => True) w' (.slice (some ⟨bf, og, none⟩) 4 y1) newC
  lt : w.heap.size < Bm
theorem WkS.later {w : World} {X : QW} {cv hv : Value} {bf og y1 Bm : Nat} {w' w1 : World} (h : WkS w X cv hv bf og y1 Bm w') (hb : Below w'.heap.size w' w1) : WkS w X cv hv bf og y1 Bm w1 := ⟨h.S.later hb, h.fc.later goodC hb, h.lt⟩
theorem WkS.grown {w : World} {X : QW} {cv hv : Value} {bf og y1 Bm : Nat} {w' w1 : World} (h : WkS w X cv hv bf og y1 Bm w') (hg : w'.grownBy w1 (some Bm)) (hm : ∃ es c, w'.heap[Bm]? = some (.map es c)) : WkS w X cv hv bf og y1 Bm w1 := by
  obtain ⟨es, c, hm⟩ := hm
  have hl := h.lt
  refine ⟨⟨h.S.bel.grown hg h.S.bel.size (fun j hj => by cases hj; omega), hg.cell h.S.a0 (by simp; omega), hg.cell h.S.a1 (by simp; omega), hg.cell h.S.a2 (by simp; omega)⟩, h.fc.keep goodC (fun b o v hp hc => hg.cell hc (by
    intro he
    have e2 : b = Bm := by simpa using he
    subst e2
    unfold World.cell? at hc
    simp [hm] at hc)) fun _ h => h, hl⟩
theorem WkS.first {w : World} {X : QW} {cv hv : Value} {bf og y1 Bm : Nat} {w' : World} (h : WkS w X cv hv bf og y1 Bm w') {k : Nat} {y : QC} (hy : newC[k]? = some y) : w'.cell? ⟨bf, og + k * 4, none⟩ = some (.string y.name) ∧ w'.cell? ⟨bf, og + k * 4 + 1, none⟩ = some (.int .i64 y.super) := by
  obtain ⟨a, c', e, -, -, -, hr⟩ := h.fc
  simp only [Value.slice.injEq] at e
  obtain ⟨rfl, -, -⟩ := e
  obtain ⟨b, o, e2, -, v0, v1, -⟩ := hr k y hy
  cases e2
  exact ⟨v0, v1⟩
/-- .. with the map, and a class's box. -/
structure WkC (w : World) (X : QW) (cv hv : Value) (bf og y1 Bm j : Nat) (D : DataW Unit) (x : QC) (Bc : Nat) (w' : World) : Prop where
  K : WkS w X cv hv bf og y1 Bm w'
  own : w'.ownsMap Tryz.prog 9 (plainElem (H := Unit) Tryz.prog 3) Bm j D
  c0 : w'.cell? ⟨Bc, 0, none⟩ = some (.string x.name)
  c1 : w'.cell? ⟨Bc, 1, none⟩ = some (.int .i64 x.super)
  c2 : w'.cell? ⟨Bc, 2, none⟩ = some (.int .i64 x.slots)
theorem WkC.later {w : World} {X : QW} {cv hv : Value} {bf og y1 Bm j : Nat} {D : DataW Unit} {x : QC} {Bc : Nat} {w' w1 : World} (h : WkC w X cv hv bf og y1 Bm j D x Bc w') (hb : Below w'.heap.size w' w1) : WkC w X cv hv bf og y1 Bm j D x Bc w1 :=
  ⟨h.K.later hb, own_later h.own hb, cell_later hb h.c0, cell_later hb h.c1, cell_later hb h.c2⟩

set_option maxRecDepth 100000 in
set_option maxHeartbeats 4000000 in
theorem wrongClasses_any {P : Nat → Prop} (X : QW) (cv hv : Value) (w : World) (hh : IsClasses P w cv X.classes) (hH : IsHeap P w hv X.heap) (hn12 : X.classes.length ≤ 12) : Calls Tryz.prog 12 #[WV cv hv X.epoch] w fun e w' => e = .returned (.int .i64 (firstE (rcE X.classes) 0 X.classes)) ∧ Below w.heap.size w w' := by
  obtain ⟨ad, cap, rfl, hl, hcap, hby, hrow⟩ := id hh
  obtain ⟨ah, ch, rfl⟩ := hH.get
  unfold maxLen at hcap
  have HFA : Hid (∀ (j : Nat) x (v : Int), X.classes[j]? = some x → (∀ i y, i < j → X.classes[i]? = some y → rcE X.classes i y = 0) → rcE X.classes j x = v → v ≠ 0 → v = firstE (rcE X.classes) 0 X.classes) := fun j x v hx hD e hv => by
    subst e
    exact (firstE_at hx hv hD).symm
  have HF0 : Hid ((∀ i y, X.classes[i]? = some y → rcE X.classes i y = 0) → 0 = firstE (rcE X.classes) 0 X.classes) := fun h => (firstE_zero h).symm
  generalize firstE (rcE X.classes) 0 X.classes = R at *
  have hmm := @run_makeMap Tryz.prog
  have hf25 := field25
  go_enter Tryz.func12, Tryz.ntmps12
  go_upto_region 1 with (fail)
  have hS0 := wb_start w X (.slice ad X.classes.length cap) (.slice ah X.heap.length ch)
  generalize (w.alloc (Obj.cells #[Value.slice ad X.classes.length cap, Value.slice ah X.heap.length ch, Value.int IntKind.i64 X.epoch] 25)) = W0 at *
  go_wp2_with fail
  refine (new_any _).mono ?_
  rintro e w1 ⟨cvn, hvn, rfl, hCn, hHn, hbn⟩
  obtain ⟨bf, og, y1, b3, o3, c3, rfl, -, -⟩ := new_first hCn
  obtain ⟨x2, y2, rfl⟩ := hHn.get
  have hS1 := hS0.later hbn
  have a0 := fun z => cell_later (bel1 w1 z) hS1.a0
  go_wp2
  have hK0 : WkS w X (.slice ad X.classes.length cap) (.slice ah X.heap.length ch) bf og y1 w1.heap.size (w1.alloc (.map #[] 0)) := ⟨hS1.later (bel1 _ _), (hCn.mono goodC fun _ _ => trivial).later goodC (bel1 _ _), World.block_lt_of_cell? _ _ hS1.a0⟩
  have hO0 : (w1.alloc (.map #[] 0)).ownsMap Tryz.prog 9 (plainElem (H := Unit) Tryz.prog 3) w1.heap.size 0 (.map []) := World.ownsMap_made _ _ _ _
  clear a0 hS1 hCn hHn hbn hS0
  generalize (w1.alloc (.map #[] 0)) = W3 at *
  generalize w1.heap.size = Bm at *
  go_loopg [15] X.classes.length (fun g i wr => ∃ (j : Nat) (D : DataW Unit), j + g = X.classes.length ∧ i = .int .i64 j ∧ WkS w X (.slice ad X.classes.length cap) (.slice ah X.heap.length ch) bf og y1 Bm wr ∧ wr.ownsMap Tryz.prog 9 (plainElem (H := Unit) Tryz.prog 3) Bm j D ∧ Names D (X.classes.take j) ∧ ∀ i y, i < j → X.classes[i]? = some y → rcE X.classes i y = 0)
  case atStart => exact ⟨0, .map [], by omega, rfl, hK0, hO0, ⟨Maps.isMap_empty, fun s => rfl⟩, fun i x h => by omega⟩
  case round =>
    clear hK0 hO0
    obtain ⟨j, D, hg, rfl, hK, hown, hNm, hD⟩ := hrel
    have HD : Hid (∀ i y, i < j → X.classes[i]? = some y → rcE X.classes i y = 0) := hD
    have HNm : Hid (Names D (X.classes.take j)) := hNm
    clear hD hNm
    by_cases hj : j < X.classes.length
    · have hj1 : (j : Int) < (X.classes.length : Int) := by omega
      have hj0 : (0 : Int) ≤ (j : Int) := by omega
      obtain ⟨x, hx⟩ : ∃ x, X.classes[j]? = some x := ⟨_, List.getElem?_eq_getElem hj⟩
      obtain ⟨b, o, rfl, -, v0, v1, v2, hxn, mv, v3, hMs⟩ := hrow j x hx
      obtain ⟨ad2, cap2, rfl⟩ := hMs.get
      simp only [Nat.add_zero] at v0
      replace v0 := cell_later hK.S.bel v0
      replace v1 := cell_later hK.S.bel v1
      replace v2 := cell_later hK.S.bel v2
      replace v3 := cell_later hK.S.bel v3
      have HX : Hid (X.classes[j]? = some x) := hx
      clear hx
      have HBD : Hid (∀ v : Int, rcE X.classes j x = v → v ≠ 0 → v = R) := fun v e hv => HFA.out j x v HX.out HD.out e hv
      have HKO : Hid (rcE X.classes j x = 0 → ∀ i y, i < j + 1 → X.classes[i]? = some y → rcE X.classes i y = 0) := fun h i y hi hy => by
        by_cases hij : i = j
        · subst hij
          rw [HX.out] at hy
          cases hy
          exact h
        · exact HD.out i y (by omega) hy
      have hkey : keyOf Tryz.prog 9 (.string x.name) = some (.string x.name.data.toList) := keyOf_string_mk Tryz.underlying9 (by unfold maxLen; omega)
      have hb1 := bel1 wr (Obj.cells #[Value.string x.name, Value.int IntKind.i64 x.super, Value.int IntKind.i64 x.slots, Value.slice ad2 x.methods.length cap2] 38)
      have c0 : (wr.alloc (Obj.cells #[Value.string x.name, Value.int IntKind.i64 x.super, Value.int IntKind.i64 x.slots, Value.slice ad2 x.methods.length cap2] 38)).cell? ⟨wr.heap.size, 0, none⟩ = some (.string x.name) := by rw [cell_new _ _ _ _ rfl]; rfl
      have c1 : (wr.alloc (Obj.cells #[Value.string x.name, Value.int IntKind.i64 x.super, Value.int IntKind.i64 x.slots, Value.slice ad2 x.methods.length cap2] 38)).cell? ⟨wr.heap.size, 1, none⟩ = some (.int .i64 x.super) := by rw [cell_new _ _ _ _ rfl]; rfl
      have c2 : (wr.alloc (Obj.cells #[Value.string x.name, Value.int IntKind.i64 x.super, Value.int IntKind.i64 x.slots, Value.slice ad2 x.methods.length cap2] 38)).cell? ⟨wr.heap.size, 2, none⟩ = some (.int .i64 x.slots) := by rw [cell_new _ _ _ _ rfl]; rfl
      replace hK := hK.later hb1
      replace hown := own_later hown hb1
      go_upto_region 6 with (fail)
      clear v0 v1 v2 v3 hb1
      generalize wr.heap.size = Bc at *
      generalize (wr.alloc (Obj.cells #[Value.string x.name, Value.int IntKind.i64 x.super, Value.int IntKind.i64 x.slots, Value.slice ad2 x.methods.length cap2] 38)) = W4 at *
      have HDup : Hid (Maps.has D (.string x.name.data.toList) = dupB X.classes j x.name) := HNm.out.2 x.name
      cases hdup : Maps.has D (.string x.name.data.toList)
      case true =>
        have H7 : Hid (7 = R) := HBD.out 7 (rc_dup7 (by rw [← HDup.out]; exact hdup)) (by decide)
        go_wp2_with (at_lookup; refine wpList_lookup_own_ok_int _ rfl _ _ 76 rfl 9 3 .i64 law9 Tryz.underlying76 Tryz.underlying3 (zero3 _) Bm j D rfl hown _ _ rfl hkey ?_; intro cc hat hwc; rw [hdup])
        go_ret
        exact ⟨ret_i H7.out, hK.S.bel⟩
      have HDF : Hid (dupB X.classes j x.name = false) := by show _ = _; rw [← HDup.out]; exact hdup
      have HN9 : Hid (∀ d, Names (D.put (.string x.name.data.toList) d) (X.classes.take (j + 1))) := fun d => by
        rw [List.take_add_one, HX.out]
        exact names_put HNm.out x d
      have hwf : (Lit.int .i64 (j : Int)).wf = true := by
        have h := wrap64_wf (j : Int)
        rw [show wrap64 (j : Int) = (j : Int) by unfold wrap64; omega] at h
        exact h
      go_wp2_with (at_lookup; refine wpList_lookup_own_ok_int _ rfl _ _ 76 rfl 9 3 .i64 law9 Tryz.underlying76 Tryz.underlying3 (zero3 _) Bm j D rfl hown _ _ rfl hkey ?_; intro cc hat hwc; rw [hdup])
      refine (name_any x.name _ hxn).mono ?_
      rintro e w5 ⟨rfl, hb⟩
      replace hK := hK.later hb
      replace hown := own_later hown hb
      replace c0 := cell_later hb c0
      replace c1 := cell_later hb c1
      replace c2 := cell_later hb c2
      clear hb hat hwc HDup HNm
      cases hnb : nameB x.name
      · have H7 : Hid (7 = R) := HBD.out 7 (rc_name hnb) (by decide)
        go_wp2
        go_ret
        exact ⟨ret_i H7.out, hK.S.bel⟩
      have hQ : WkC w X (.slice (some ⟨b, o, none⟩) X.classes.length cap) (.slice ah X.heap.length ch) bf og y1 Bm j D x Bc w5 := ⟨hK, hown, c0, c1, c2⟩
      clear hown c1 c2
      by_cases hnw : ∃ y, newC[j]? = some y ∧ eqN x.name y.name = false
      · obtain ⟨y, hy, hne⟩ := hnw
        have j4 : j < 4 := lt_of_get hy
        have j4' : (j : Int) < 4 := by omega
        obtain ⟨u0, -⟩ := hK.first hy
        have H7 : Hid (7 = R) := HBD.out 7 (rc_first hnb hy hne) (by decide)
        have hne' : (x.name.toList == y.name.toList) = false := hne
        clear hy
        go_wp2
        go_quiet (fail)
        go_wp2
        go_ret
        exact ⟨ret_i H7.out, below_drewN hK.S.bel _⟩
      have HNW : Hid (∀ y, newC[j]? = some y → eqN x.name y.name = true) := fun y hy => by
        cases he : eqN x.name y.name
        · exact absurd ⟨y, hy, he⟩ hnw
        · rfl
      clear hnw
      go_upto_region 9 with (fail)
      go_cut [35] (fun s wx => s = .bool false ∧ WkC w X (.slice (some ⟨b, o, none⟩) X.classes.length cap) (.slice ah X.heap.length ch) bf og y1 Bm j D x Bc wx)
      case first =>
        by_cases j4 : j < 4
        · obtain ⟨y, hy⟩ : ∃ y, newC[j]? = some y := ⟨_, List.getElem?_eq_getElem (show j < newC.length from j4)⟩
          have j4' : (j : Int) < 4 := by omega
          obtain ⟨u0, -⟩ := hK.first hy
          have hne' : (x.name.toList == y.name.toList) = true := HNW.out y hy
          clear hy
          go_quiet (fail)
          go_wp2_with fail
          go_meet
          case rel => exact ⟨rfl, hQ.later (below_drewN (Below.refl _ _) _)⟩
        · have j4' : decide ((j : Int) < 4) = false := by simp; omega
          go_quiet (fail)
          go_wp2_with fail
          go_meet
          case rel => exact ⟨rfl, hQ.later (below_drewN (Below.refl _ _) _)⟩
      case rest =>
        clear hQ hK c0
        obtain ⟨rfl, hQ⟩ := hcut
        have c1 := hQ.c1
        have c2 := hQ.c2
        by_cases hbad : ∃ y, newC[j]? = some y ∧ (x.super ≠ y.super ∨ x.slots ≠ 0)
        · obtain ⟨y, hy, hsb⟩ := hbad
          have j4 : j < 4 := lt_of_get hy
          have j4' : (j : Int) < 4 := by omega
          obtain ⟨-, u1⟩ := hQ.K.first hy
          have H3 : Hid (3 = R) := HBD.out 3 (by
            rw [rc_old hnb hy (HNW.out y hy) HDF.out]
            rcases hsb with h | h
            · rw [if_pos h]
            · by_cases h2 : x.super ≠ y.super
              · rw [if_pos h2]
              · rw [if_neg h2, if_pos (by omega)]) (by decide)
          clear hy
          by_cases s1 : x.super = y.super
          · have s1' : (x.super != y.super) = false := by simp [s1]
            have s2' : (x.slots != 0) = true := by
              rcases hsb with h | h
              · exact absurd s1 h
              · simpa using h
            clear hsb s1
            go_wp2
            go_quiet (fail)
            go_wp2
            go_ret
            exact ⟨ret_i H3.out, below_drewN hQ.K.S.bel _⟩
          · have s1' : (x.super != y.super) = true := by simpa using s1
            clear hsb s1
            go_wp2
            go_quiet (fail)
            go_wp2
            go_ret
            exact ⟨ret_i H3.out, below_drewN hQ.K.S.bel _⟩
        have HOK : Hid (∀ y, newC[j]? = some y → x.super = y.super ∧ x.slots = 0) := fun y hy => by
          refine ⟨?_, ?_⟩
          · by_cases h : x.super = y.super
            · exact h
            · exact absurd ⟨y, hy, Or.inl h⟩ hbad
          · by_cases h : x.slots = 0
            · exact h
            · exact absurd ⟨y, hy, Or.inr h⟩ hbad
        clear hbad
        go_upto_region 11 with (fail)
        go_cut [50] (fun s wx => s = .bool false ∧ WkC w X (.slice (some ⟨b, o, none⟩) X.classes.length cap) (.slice ah X.heap.length ch) bf og y1 Bm j D x Bc wx)
        case first =>
          by_cases j4 : j < 4
          · obtain ⟨y, hy⟩ : ∃ y, newC[j]? = some y := ⟨_, List.getElem?_eq_getElem (show j < newC.length from j4)⟩
            have j4' : (j : Int) < 4 := by omega
            obtain ⟨-, u1⟩ := hQ.K.first hy
            obtain ⟨e1, e2⟩ := HOK.out y hy
            have s1' : (x.super != y.super) = false := by simp [e1]
            have s2' : (x.slots != 0) = false := by simp [e2]
            clear hy e1 e2
            go_quiet (fail)
            go_wp2_with fail
            go_meet
            case rel => exact ⟨rfl, hQ.later (below_drewN (Below.refl _ _) _)⟩
          · have j4' : decide ((j : Int) < 4) = false := by simp; omega
            go_quiet (fail)
            go_wp2_with fail
            go_meet
            case rel => exact ⟨rfl, hQ.later (below_drewN (Below.refl _ _) _)⟩
        case rest =>
          clear hQ c1 c2
          obtain ⟨rfl, hQ⟩ := hcut
          have c1 := hQ.c1
          have c2 := hQ.c2
          by_cases j4 : j < 4
          · obtain ⟨y, hy⟩ : ∃ y, newC[j]? = some y := ⟨_, List.getElem?_eq_getElem (show j < newC.length from j4)⟩
            obtain ⟨e1, e2⟩ := HOK.out y hy
            have HE0 : Hid (rcE X.classes j x = 0) := by show _ = _; rw [rc_old hnb hy (HNW.out y hy) HDF.out, if_neg (by simp [e1]), if_neg (by omega)]
            have hin : inR x.slots 0 6 = true := by unfold inR; simp; omega
            have j4'' : decide ((4 : Int) ≤ (j : Int)) = false := by simp; omega
            clear hy e1 e2
            go_wp2_with fail
            refine (wwithin_any _ 0 6 _).mono ?_
            rw [hin]
            rintro e w6 ⟨rfl, hw⟩
            subst hw
            clear c1 c2
            have c0 := hQ.c0
            go_wp2_with (at_mapUpdate; refine wpList_mapUpdate_own _ rfl _ _ _ 76 rfl 9 3 law9 Tryz.underlying76 _ Bm j D rfl hQ.own (by unfold maxLen; omega) _ _ _ rfl rfl hkey _ [] (plainElem_int Tryz.underlying3 hwf) ?_; intro w9 hown9 hgr9)
            obtain ⟨es, clk, hmb, -⟩ := hQ.own
            have hK9 := hQ.K.grown hgr9 ⟨es, clk, hmb⟩
            clear hQ hgr9 c0
            go_wp2
            go_roundg (gk - 1)
            case measure => omega
            case rel => exact ⟨j + 1, _, by omega, by go_num, hK9, hown9, HN9.out _, HKO.out HE0.out⟩
          · have j4'' : (4 : Int) ≤ (j : Int) := by omega
            have HRM : Hid (rcE X.classes j x = if belowB j x.super = false then 3 else if x.slots < 0 ∨ 6 < x.slots then 3 else 0) := rc_made hnb (by omega) HDF.out
            go_wp2_with fail
            refine (madeBelow_any j x.super _ ⟨by omega, by omega⟩).mono ?_
            rintro e w6 ⟨rfl, hw⟩
            subst hw
            cases hbl : belowB (j : Int) x.super
            · have H3 : Hid (3 = R) := HBD.out 3 (by rw [HRM.out, if_pos hbl]) (by decide)
              go_wp2
              go_ret
              exact ⟨ret_i H3.out, hQ.K.S.bel⟩
            go_wp2_with fail
            refine (wwithin_any _ 0 6 _).mono ?_
            rintro e w7 ⟨rfl, hw⟩
            subst hw
            cases hin : inR x.slots 0 6
            · have hin' : ¬ (0 ≤ x.slots ∧ x.slots ≤ 6) := by simpa [inR] using hin
              have H3 : Hid (3 = R) := HBD.out 3 (by rw [HRM.out, if_neg (by simp [hbl]), if_pos (by omega)]) (by decide)
              go_wp2
              go_ret
              exact ⟨ret_i H3.out, hQ.K.S.bel⟩
            have hin' : 0 ≤ x.slots ∧ x.slots ≤ 6 := by simpa [inR] using hin
            have HE0 : Hid (rcE X.classes j x = 0) := by show _ = _; rw [HRM.out, if_neg (by simp [hbl]), if_neg (by omega)]
            clear c1 c2 hin'
            have c0 := hQ.c0
            go_wp2_with (at_mapUpdate; refine wpList_mapUpdate_own _ rfl _ _ _ 76 rfl 9 3 law9 Tryz.underlying76 _ Bm j D rfl hQ.own (by unfold maxLen; omega) _ _ _ rfl rfl hkey _ [] (plainElem_int Tryz.underlying3 hwf) ?_; intro w9 hown9 hgr9)
            obtain ⟨es, clk, hmb, -⟩ := hQ.own
            have hK9 := hQ.K.grown hgr9 ⟨es, clk, hmb⟩
            clear hQ hgr9 c0
            go_wp2
            go_roundg (gk - 1)
            case measure => omega
            case rel => exact ⟨j + 1, _, by omega, by go_num, hK9, hown9, HN9.out _, HKO.out HE0.out⟩
    · obtain rfl : j = X.classes.length := by omega
      have HOK : Hid (0 = R) := HF0.out fun i y hy => HD.out i y (lt_of_get hy) hy
      go_wp2
      go_ret
      exact ⟨ret_i HOK.out, hK.S.bel⟩
end Go.Proofs.YtjmidhghiahbaaaGreatDoor
