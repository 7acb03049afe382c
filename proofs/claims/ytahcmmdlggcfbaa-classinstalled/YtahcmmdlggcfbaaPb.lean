/- ClassNearest: the walk. -/
import Derived.Test.YtahcmmdlggcfbaaPa
import Derived.Test.YtahcmmdlggcfbaaNb
namespace Go.Proofs.Ytahcmmdlggcfbaa
open Go.ChangeShapes Go.WideShapes Go.ChangeAt Go.RowKit
set_option linter.unusedSimpArgs false
set_option linter.unusedVariables false
set_option maxRecDepth 8000

theorem upsE_out {xs : List QC} {n : Nat} {c : Int} (h : clsAt xs c = none) : upsE xs n c = [] := by cases n <;> simp [upsE, h]
theorem upsE_in {xs : List QC} {n : Nat} {c : Int} {x : QC} (h : clsAt xs c = some x) : upsE xs (n + 1) c = c :: upsE xs n x.super := by simp [upsE, h]
theorem right_rises {X : QW} (h : rightE X = 0) : RisesC X.classes := fun i x hx => by
  obtain ⟨-, -, hm, -⟩ := right_is h
  have h1 := hm i x (lt_of_get hx) hx
  unfold rkE at h1
  split at h1
  · cases h1
  split at h1
  · cases h1
  have h2 := firstE_all h1
  intro k a b ha hb
  have h3 := h2 (k + 1) b hb
  unfold rmE at h3
  split at h3
  · cases h3
  · rename_i h4
    rw [aheadB_succ ha] at h4
    simpa using h4
theorem right_super {X : QW} (h : rightE X = 0) {k : Nat} {x : QC} (hx : X.classes[k]? = some x) : x.super < k := by
  obtain ⟨-, hc, -, -⟩ := right_is h
  exact rcE_super (hc k x (lt_of_get hx) hx)
theorem rises_lt {ms : List QM} (hr : RisesM ms) {i : Nat} {a : QM} (ha : ms[i]? = some a) : ∀ (d : Nat) {b : QM}, ms[i + d + 1]? = some b → ltN a.name b.name = true
  | 0, b, hb => hr i a b ha hb
  | d + 1, b, hb => by
    have hl := lt_of_get hb
    obtain ⟨z, hz⟩ : ∃ z, ms[i + d + 1]? = some z := ⟨_, List.getElem?_eq_getElem (by omega)⟩
    exact ltN_trans (rises_lt hr ha d hz) (hr (i + d + 1) z b hz hb)
theorem num_unique {ms : List QM} (hr : RisesM ms) {t : Nat} {y : QM} {name : ByteArray} (hy : ms[t]? = some y) (he : eqN y.name name = true) : numI ms name = (t : Int) := by
  refine findI_at hy he fun i z hi hz => ?_
  have h1 : ltN z.name y.name = true := rises_lt hr hz (t - i - 1) (by rw [show i + (t - i - 1) + 1 = t by omega]; exact hy)
  cases h2 : eqN z.name name
  · rfl
  · exfalso
    have e1 := eqN_iff.1 he
    have e2 := eqN_iff.1 h2
    unfold ltN at h1
    rw [e2, ← e1, less_irr] at h1
    cases h1
theorem num_none {ms : List QM} {name : ByteArray} (h : (ms.any fun y => eqN y.name name) = false) : numI ms name < 0 := by
  have : numI ms name = -1 := findI_none fun i y hy => by
    have := List.any_eq_false.1 h y (List.mem_of_getElem? hy)
    simpa using this
  omega
/-- The world's box. -/
structure NeS (w : World) (X : QW) (cv hv : Value) (w' : World) : Prop where
  bel : Below w.heap.size w w'
  a0 : w'.cell? ⟨w.heap.size, 0, none⟩ = some cv
  a1 : w'.cell? ⟨w.heap.size, 1, none⟩ = some hv
  a2 : w'.cell? ⟨w.heap.size, 2, none⟩ = some (.int .i64 X.epoch)
theorem NeS.later {w : World} {X : QW} {cv hv : Value} {w' w1 : World} (h : NeS w X cv hv w') (hb : Below w'.heap.size w' w1) : NeS w X cv hv w1 :=
  ⟨nstep h.bel hb, cell_later hb h.a0, cell_later hb h.a1, cell_later hb h.a2⟩

set_option maxRecDepth 100000 in
set_option maxHeartbeats 4000000 in
theorem nearest_walk {P : Nat → Prop} (X : QW) (c : Int) (name : ByteArray) (cv hv : Value) (w : World) (hn : name.size ≤ 140737488351232) (hh : IsClasses P w cv X.classes) (hH : IsHeap P w hv X.heap) : Calls Try.prog 4 #[WV cv hv X.epoch, .int .i64 c, .string name] w fun e w' => e = .returned (.bool true) ∧ Below w.heap.size w w' := by
  obtain ⟨ad, cap, rfl, hl, hcap, hby, hrow⟩ := id hh
  obtain ⟨ah, ch, rfl, -, -, -, -⟩ := id hH
  unfold maxLen at hcap
  go_enter Try.func4, Try.ntmps4
  go_upto_region 1 with (fail)
  have hS : NeS w X (.slice ad X.classes.length cap) (.slice ah X.heap.length ch) (w.alloc (Obj.cells #[Value.slice ad X.classes.length cap, Value.slice ah X.heap.length ch, Value.int IntKind.i64 X.epoch] 25)) :=
    ⟨bel1 _ _, by rw [cell_new _ _ _ _ rfl]; rfl, by rw [cell_new _ _ _ _ rfl]; rfl, by rw [cell_new _ _ _ _ rfl]; rfl⟩
  generalize (w.alloc (Obj.cells #[Value.slice ad X.classes.length cap, Value.slice ah X.heap.length ch, Value.int IntKind.i64 X.epoch] 25)) = W0 at *
  go_wp2_with fail
  refine (alive2_any _).mono ?_
  rintro e w1 ⟨rfl, hb⟩
  replace hS := hS.later hb
  clear hb
  have a0 := hS.a0
  have a1 := hS.a1
  have a2 := hS.a2
  go_wp2_with fail
  refine (rright_any X _ _ _ (hh.later goodC hS.bel) (hH.later goodO hS.bel)).mono ?_
  rintro e w2 ⟨rfl, hb⟩
  replace hS := hS.later hb
  clear hb a0 a1 a2
  have HR : Hid (rightE X = 0 → (∀ (k : Nat) x, X.classes[k]? = some x → x.super < k ∧ RisesM x.methods)) := fun h k x hx => ⟨right_super h hx, right_rises h k x hx⟩
  generalize rightE X = r at *
  by_cases r0 : r = 0
  case neg =>
    have r0' : (r != 0) = true := by simpa using r0
    go_wp2
    go_ret
    exact ⟨rfl, hS.bel⟩
  have r0' : (r != 0) = false := by simp [r0]
  have HRX : Hid (∀ (k : Nat) x, X.classes[k]? = some x → x.super < k ∧ RisesM x.methods) := HR.out r0
  clear HR r0
  have a0 := hS.a0
  have a1 := hS.a1
  have a2 := hS.a2
  obtain ⟨fk, fi, hf⟩ : ∃ a b, findE X.classes c name = (a, b) := ⟨_, _, rfl⟩
  go_wp2_with fail
  refine (find_c X c name _ _ _ (hh.later goodC hS.bel) (hH.later goodO hS.bel) fk fi hf).mono ?_
  rintro e w3 ⟨rfl, hb⟩
  replace hS := hS.later hb
  rw [findE_L] at hf
  have HF0 : Hid (findL X.classes name (upsE X.classes (X.classes.length + 1) c) = (fk, fi)) := hf
  clear hb a0 a1 a2 hf r0'
  go_wp2
  go_loopg [9] (X.classes.length + 1) (fun g i wr => ∃ a : Int, i = .int .i64 a ∧ NeS w X (.slice ad X.classes.length cap) (.slice ah X.heap.length ch) wr ∧ findL X.classes name (upsE X.classes g a) = (fk, fi) ∧ (a < g ∨ (X.classes.length : Int) ≤ a))
  case atStart => exact ⟨c, rfl, hS, HF0.out, by omega⟩
  case round =>
    clear hS HF0
    obtain ⟨a, rfl, hS, hf, hag⟩ := hrel
    have HF : Hid (findL X.classes name (upsE X.classes gk a) = (fk, fi)) := hf
    have HAG : Hid (a < gk ∨ (X.classes.length : Int) ≤ a) := hag
    clear hf hag
    have a0 := hS.a0
    cases hx : clsAt X.classes a with
    | none =>
      have hk := HF.out
      rw [upsE_out hx] at hk
      cases hk
      have hh' := clsAt_has (xs := X.classes) (c := a)
      rw [hx] at hh'
      simp [hasB] at hh'
      by_cases h0 : 0 ≤ a
      · have h1 : decide (a < (X.classes.length : Int)) = false := by simp; omega
        go_wp2
        go_ret
        exact ⟨rfl, hS.bel⟩
      · have h1 : decide (0 ≤ a) = false := by simpa using h0
        go_wp2
        go_ret
        exact ⟨rfl, hS.bel⟩
    | some x =>
      obtain ⟨q, rfl, hq⟩ := clsAt_some hx
      have hql := lt_of_get hq
      obtain ⟨hsup, hris⟩ := HRX.out q x hq
      have HSU : Hid (x.super < (q : Int)) := hsup
      obtain ⟨g', rfl⟩ : ∃ g', gk = g' + 1 := ⟨gk - 1, by have := HAG.out; omega⟩
      have HF2 : Hid ((if 0 ≤ numI x.methods name then ((q : Int), numI x.methods name) else findL X.classes name (upsE X.classes g' x.super)) = (fk, fi)) := by
        have h := HF.out
        rw [upsE_in hx] at h
        have hm : methsOf X.classes (q : Int) = x.methods := by simp [methsOf, hx]
        unfold findL at h
        rw [hm] at h
        exact h
      have HU : Hid (∀ (t : Nat) y, x.methods[t]? = some y → eqN y.name name = true → fk = (q : Int) ∧ fi = (t : Int)) := fun t y hy he => by
        have h1 := num_unique hris hy he
        have h2 := HF2.out
        rw [if_pos (by omega), h1] at h2
        cases h2
        exact ⟨rfl, rfl⟩
      have HNO : Hid ((x.methods.any fun y => eqN y.name name) = false → findL X.classes name (upsE X.classes g' x.super) = (fk, fi)) := fun h => by
        have h2 := HF2.out
        rw [if_neg (by have := num_none h; omega)] at h2
        exact h2
      obtain ⟨b, o, rfl, -, v0, v1, v2, -, mv, v3, hMs⟩ := hrow q x hq
      obtain ⟨ad2, cap2, rfl, hl2, hcap2, hby2, hrow2⟩ := id hMs
      unfold maxLen at hcap2
      clear HF HF2 hx hq hsup hris v0 v2
      have HV1 : Hid (w.cell? ⟨b, o + q * 4 + 1, none⟩ = some (.int .i64 x.super)) := v1
      replace v3 := cell_later hS.bel v3
      clear v1
      have hq0 : (0 : Int) ≤ (q : Int) := by omega
      have hq1 : (q : Int) < (X.classes.length : Int) := by omega
      go_wp2
      clear v3 a0
      go_loopg [10, 48] x.methods.length (fun g hs i wi => ∃ t : Nat, t + g = x.methods.length ∧ hs = .bool ((x.methods.take t).any fun y => eqN y.name name) ∧ i = .int .i64 t ∧ NeS w X (.slice (some ⟨b, o, none⟩) X.classes.length cap) (.slice ah X.heap.length ch) wi)
      case atStart => exact ⟨0, by omega, rfl, rfl, hS⟩
      case round =>
        clear hS
        obtain ⟨t, ht, rfl, rfl, hS⟩ := hrel
        by_cases htl : t < x.methods.length
        · have ht1 : (t : Int) < (x.methods.length : Int) := by omega
          have ht0 : (0 : Int) ≤ (t : Int) := by omega
          obtain ⟨y, hy⟩ : ∃ y, x.methods[t]? = some y := ⟨_, List.getElem?_eq_getElem htl⟩
          obtain ⟨b2, o2, rfl, -, p0, p1, p2, p3, -, cv4, p4, hcc⟩ := hrow2 t y hy
          obtain ⟨ad4, cap4, rfl⟩ := hcc.get
          simp only [Nat.add_zero] at p0
          replace p0 := cell_later hS.bel p0
          replace p1 := cell_later hS.bel p1
          replace p2 := cell_later hS.bel p2
          replace p3 := cell_later hS.bel p3
          replace p4 := cell_later hS.bel p4
          have HY : Hid (x.methods[t]? = some y) := hy
          have HT : Hid ((x.methods.take (t + 1)).any (fun y => eqN y.name name) = ((x.methods.take t).any (fun y => eqN y.name name) || eqN y.name name)) := any_take_succ hy
          clear hy hcc
          have hb1 := bel1 wr (Obj.cells #[Value.string y.name, Value.int IntKind.i64 y.args, Value.int IntKind.i64 y.temps, Value.int IntKind.i64 y.prim, Value.slice ad4 y.code.length cap4] 28)
          generalize hhs : (x.methods.take t).any (fun y => eqN y.name name) = hs at *
          clear hhs
          cases he : eqN y.name name
          · have he' : (y.name.toList == name.toList) = false := he
            cases hs
            · go_wp2
              go_roundg (gk - 1)
              case measure => omega
              case rel => exact ⟨t + 1, by omega, by rw [HT.out, he]; rfl, by go_num, hS.later hb1⟩
            · go_wp2
              go_roundg (gk - 1)
              case measure => omega
              case rel => exact ⟨t + 1, by omega, by rw [HT.out, he]; rfl, by go_num, hS.later hb1⟩
          · have he' : (y.name.toList == name.toList) = true := he
            obtain ⟨e1, e2⟩ := HU.out t y HY.out he
            subst e1
            subst e2
            cases hs
            · go_wp2
              go_roundg (gk - 1)
              case measure => omega
              case rel => exact ⟨t + 1, by omega, by rw [HT.out, he]; rfl, by go_num, hS.later hb1⟩
            · go_wp2
              go_roundg (gk - 1)
              case measure => omega
              case rel => exact ⟨t + 1, by omega, by rw [HT.out, he]; rfl, by go_num, hS.later hb1⟩
        · obtain rfl : t = x.methods.length := by omega
          rw [List.take_length]
          cases hs : x.methods.any (fun y => eqN y.name name)
          · have HFN := HNO.out hs
            have HFH : Hid (findL X.classes name (upsE X.classes g' x.super) = (fk, fi)) := HFN
            have a0 := hS.a0
            have v1 := cell_later hS.bel HV1.out
            clear HFN
            go_wp2
            go_roundg g'
            case measure => omega
            case rel => exact ⟨x.super, rfl, hS, HFH.out, Or.inl (by have := HSU.out; have := HAG.out; omega)⟩
          · go_wp2
            go_ret
            exact ⟨rfl, hS.bel⟩
end Go.Proofs.Ytahcmmdlggcfbaa
