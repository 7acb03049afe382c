/- The reference: Find, Rises. -/
import Derived.Test.YtdfbgpiikeheiaaDa
namespace Go.Proofs.Ytdfbgpiikeheiaa
open Go.ChangeShapes Go.WideShapes Go.ChangeAt Go.RowKit
set_option linter.unusedSimpArgs false
set_option linter.unusedVariables false
set_option maxRecDepth 8000

theorem numI_neg {xs : List QM} {name : ByteArray} (h : numI xs name < 0) : numI xs name = -1 := by
  unfold numI findI at h ⊢
  cases hf : xs.findIdx? (fun m => eqN m.name name) with
  | none => simp
  | some i => rw [hf] at h; simp at h; omega
def methsOf (xs : List QC) (k : Int) : List QM := ((clsAt xs k).map QC.methods).getD []
def findL (xs : List QC) (name : ByteArray) : List Int → Int × Int
  | [] => (-1, -1)
  | k :: r => if 0 ≤ numI (methsOf xs k) name then (k, numI (methsOf xs k) name) else findL xs name r
theorem findL_up {xs : List QC} {name : ByteArray} : ∀ (n : Nat) (c : Int), upE (findV name) xs n c (-1, -1) = findL xs name (upsE xs n c)
  | 0, c => rfl
  | n + 1, c => by
    unfold upE upsE
    cases hx : clsAt xs c with
    | none => rfl
    | some x =>
      have hm : methsOf xs c = x.methods := by simp [methsOf, hx]
      obtain ⟨q, rfl, -⟩ := clsAt_some hx
      simp only [findL, hm, findV, Int.toNat_natCast]
      by_cases h : 0 ≤ numI x.methods name
      · have h' : ¬ numI x.methods name < 0 := by omega
        simp [h, h']
      · have h' : numI x.methods name < 0 := by omega
        rw [if_neg h, if_neg h, decide_eq_true h', if_pos rfl, numI_neg h']
        exact findL_up n x.super
theorem findE_L {xs : List QC} (c : Int) (name : ByteArray) : findE xs c name = findL xs name (upsE xs (xs.length + 1) c) := findL_up _ _
theorem findL_none {xs : List QC} {name : ByteArray} : ∀ {l : List Int}, (∀ (i : Nat) k, l[i]? = some k → numI (methsOf xs k) name < 0) → findL xs name l = (-1, -1)
  | [], _ => rfl
  | k :: r, h => by
    have h0 := h 0 k rfl
    unfold findL
    rw [if_neg (by omega)]
    exact findL_none fun i q hq => h (i + 1) q (by simpa using hq)
theorem findL_at {xs : List QC} {name : ByteArray} : ∀ {l : List Int} {j : Nat} {k : Int}, l[j]? = some k → 0 ≤ numI (methsOf xs k) name → (∀ (i : Nat) q, i < j → l[i]? = some q → numI (methsOf xs q) name < 0) → findL xs name l = (k, numI (methsOf xs k) name)
  | a :: r, 0, k, hk, h0, _ => by
    simp at hk
    subst hk
    unfold findL
    rw [if_pos h0]
  | a :: r, j + 1, k, hk, h0, h => by
    have h1 := h 0 a (by omega) rfl
    unfold findL
    rw [if_neg (by omega)]
    exact findL_at (by simpa using hk) h0 fun i q hi hq => h (i + 1) q (by omega) (by simpa using hq)

set_option maxHeartbeats 2000000 in
theorem rfind_any {P : Nat → Prop} (X : QW) (c : Int) (name : ByteArray) (cv hv : Value) (w : World) (hh : IsClasses P w cv X.classes) (hH : IsHeap P w hv X.heap) : Calls Try.prog 9 #[WV cv hv X.epoch, .int .i64 c, .string name] w fun e w' => e = .returned (.tuple #[.int .i64 (findE X.classes c name).1, .int .i64 (findE X.classes c name).2]) ∧ Below w.heap.size w w' := by
  obtain ⟨ad, cap, rfl, hl, hcap, hby, hrow⟩ := id hh
  obtain ⟨ah, ch, rfl⟩ := hH.get
  have hul := upsE_len (xs := X.classes) (X.classes.length + 1) c
  have HS : Hid (findE X.classes c name = findL X.classes name (upsE X.classes (X.classes.length + 1) c)) := findE_L c name
  have HM : Hid (∀ (i : Nat) (k : Int), (upsE X.classes (X.classes.length + 1) c)[i]? = some k → ∃ (q : Nat) (x : QC), k = (q : Int) ∧ X.classes[q]? = some x) := fun i k h => upsE_mem _ _ i k h
  go_enter Try.func9, Try.ntmps9
  go_wp2_with fail
  refine (ups_any X.classes c _ _ X.epoch _ (hh.later goodC (bel1 _ _)) ⟨_, _, _, rfl⟩).mono ?_
  rintro e w1 ⟨au, ku, rfl, hI, hb⟩
  have b0 : w1.cell? ⟨w.heap.size, 0, none⟩ = some (.slice ad X.classes.length cap) := cell_later hb (by rw [cell_new _ _ _ _ rfl]; rfl)
  have hB := nstep1 (Below.refl _ _) hb
  generalize upsE X.classes (X.classes.length + 1) c = us at *
  go_wp2
  go_loopg [16] us.length (fun g i wr => ∃ j : Nat, j + g = us.length ∧ i = .int .i64 j ∧ Below w1.heap.size w1 wr ∧ ∀ (i : Nat) q, i < j → us[i]? = some q → numI (methsOf X.classes q) name < 0)
  case atStart => exact ⟨0, by omega, rfl, Below.refl _ _, fun i q hi => by omega⟩
  case round =>
    obtain ⟨j, hj, rfl, hbel, hno⟩ := hrel
    have HN : Hid (∀ (i : Nat) q, i < j → us[i]? = some q → numI (methsOf X.classes q) name < 0) := hno
    clear hno
    have hB1 := nstep hB hbel
    by_cases hlt : j < us.length
    · have hus : us[j]? = some us[j] := by simp [hlt]
      obtain ⟨a', k', e', -, -, -, hru⟩ := hI.later goodN hbel
      simp only [Value.slice.injEq] at e'
      obtain ⟨rfl, -, rfl⟩ := e'
      obtain ⟨bu, ou, rfl, -, hu⟩ := hru j _ hus
      simp only [Nat.mul_one, Nat.add_zero] at hu
      obtain ⟨q, x, hkq, hxq⟩ := HM.out j _ hus
      have hq := lt_of_get hxq
      obtain ⟨b, o, rfl, -, -, -, -, -, sv, hv3, hms⟩ := hrow q x hxq
      have v3 := cell_later hB1 hv3
      have HMO : Hid (methsOf X.classes (q : Int) = x.methods) := by show _ = _; simp [methsOf, clsAt_nat, hxq]
      have hmsl := hms.later goodM hB1
      obtain ⟨am, km, rfl, hlm, hkm, hbm, -⟩ := id hmsl
      unfold maxLen at hkm
      replace hu : wr.cell? ⟨bu, ou + j, none⟩ = some (.int .i64 (q : Int)) := by rw [← hkq]; exact hu
      have HU : Hid (us[j]? = some (q : Int)) := by show _ = _; rw [hus, hkq]
      have b0' := cell_later hbel b0
      have hq0 : (0 : Int) ≤ (q : Int) := by omega
      have hq1 : (q : Int) < (X.classes.length : Int) := by omega
      have hj0 : (0 : Int) ≤ (j : Int) := by omega
      have hj1 : (j : Int) < (us.length : Int) := by omega
      clear hru hus hkq hxq hv3 hms
      go_wp2
      obtain ⟨go, hgo⟩ : ∃ go, go = gk := ⟨_, rfl⟩
      go_loopg [27] x.methods.length (fun g i wi => ∃ t : Nat, t + g = x.methods.length ∧ i = .int .i64 t ∧ Below wr.heap.size wr wi ∧ ∀ (i : Nat) y, i < t → x.methods[i]? = some y → eqN y.name name = false)
      case atStart => exact ⟨0, by omega, rfl, Below.refl _ _, fun i q hi => by omega⟩
      case round =>
        obtain ⟨t, ht, rfl, hbi, hnt⟩ := hrel
        have HT : Hid (∀ (i : Nat) y, i < t → x.methods[i]? = some y → eqN y.name name = false) := hnt
        clear hnt
        by_cases htl : t < x.methods.length
        · obtain ⟨a0, k0, e0, -, -, -, hrm⟩ := hmsl.later goodM hbi
          simp only [Value.slice.injEq] at e0
          obtain ⟨rfl, -, rfl⟩ := e0
          obtain ⟨b2, o2, rfl, -, p0, p1, p2, p3, -, sv, p4, hcc⟩ := hrm t x.methods[t] (by simp [htl])
          have hxt : Hid (x.methods[t]? = some x.methods[t]) := by show _ = _; simp [htl]
          generalize x.methods[t] = y at *
          simp only [Nat.add_zero] at p0
          obtain ⟨ac, kc, rfl⟩ := hcc.get
          have ht1 : (t : Int) < (x.methods.length : Int) := by omega
          have ht0 : (0 : Int) ≤ (t : Int) := by omega
          clear hrm
          cases he : eqN y.name name
          · have he' : (y.name.toList == name.toList) = false := he
            go_wp2
            go_roundg (gk - 1)
            case measure => omega
            case rel =>
              refine ⟨t + 1, by omega, by go_num, nstep hbi (bel1 _ _), fun i z hi hz => ?_⟩
              by_cases hit : i = t
              · subst hit; rw [hxt.out] at hz; cases hz; exact he
              · exact HT.out i z (by omega) hz
          · have he' : (y.name.toList == name.toList) = true := he
            have hnum : Hid (numI x.methods name = (t : Int)) := findI_at hxt.out he HT.out
            go_wp2
            refine bodyPost_ret (v := .tuple #[.int .i64 q, .int .i64 t]) (by simp [results, Try.results9, go_sem]) rfl ⟨?_, nstep hB1 (nstep hbi (bel1 _ _))⟩
            rw [HS.out, findL_at HU.out (by rw [HMO.out, hnum.out]; omega) HN.out, HMO.out, hnum.out]
        · have hnum : Hid (numI x.methods name < 0) := by
            show _ < _
            have : numI x.methods name = -1 := findI_none fun i y hy => HT.out i y (by have := lt_of_get hy; omega) hy
            omega
          go_wp2
          go_roundg (go - 1)
          case measure => omega
          case rel =>
            refine ⟨j + 1, by omega, by go_num, nstep hbel hbi, fun i z hi hz => ?_⟩
            by_cases hij : i = j
            · subst hij; rw [HU.out] at hz; cases hz; rw [HMO.out]; exact hnum.out
            · exact HN.out i z (by omega) hz
    · go_wp2
      refine bodyPost_ret (v := .tuple #[.int .i64 (-1), .int .i64 (-1)]) (by simp [results, Try.results9, go_sem]) rfl ⟨?_, hB1⟩
      rw [HS.out, findL_none fun i k hk => HN.out i k (by have := lt_of_get hk; omega) hk]
end Go.Proofs.Ytdfbgpiikeheiaa
