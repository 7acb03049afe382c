/- The reference: SameCode, Name, Ups. -/
import Derived.Test.YtjmidhghiahbaaaGreatDoorCh
import Derived.Deep.AppendLies
namespace Go.Proofs.YtjmidhghiahbaaaGreatDoor
open Go.ChangeShapes Go.WideShapes Go.ChangeAt Go.RowKit
set_option linter.unusedSimpArgs false
set_option linter.unusedVariables false
set_option maxRecDepth 8000

set_option maxHeartbeats 1000000 in
theorem rname_any (s : ByteArray) (w : World) (hs : s.size ≤ 140737488351232) : Calls Tryz.prog 16 #[.string s] w fun e w' => e = .returned (.bool (nameB s)) ∧ Below w.heap.size w w' := by
  have HN0 : Hid (okB s = false → nameB s = false) := fun h => by simp [nameB, h]
  go_enter Tryz.func16, Tryz.ntmps16
  go_wp2
  go_loopg [6] s.size (fun g c wr => ∃ j : Nat, j + g = s.size ∧ c = .int .i64 j ∧ wr = w ∧ ∀ i (hi : i < s.size), i < j → 33 ≤ s[i].toNat ∧ s[i].toNat ≤ 126)
  case atStart => exact ⟨0, by omega, rfl, rfl, fun i _ hi => by omega⟩
  case round =>
    obtain ⟨j, hj, rfl, rfl, hok⟩ := hrel
    have HO : Hid (∀ i (hi : i < s.size), i < j → 33 ≤ s[i].toNat ∧ s[i].toNat ≤ 126) := hok
    clear hok
    by_cases hlt : j < s.size
    · have hj0 : (0 : Int) ≤ (j : Int) := by omega
      have hj1 : (j : Int) < (s.size : Int) := by omega
      by_cases c1 : s[j].toNat < 33
      · have hn : Hid (okB s = false) := okB_no hlt (by omega)
        have c1' : ((s[j].toNat : Nat) : Int) < 33 := by omega
        go_wp2
        go_ret
        exact ⟨ret_b (by rw [HN0.out hn.out]), Below.refl _ _⟩
      · have c1' : (33 : Int) ≤ ((s[j].toNat : Nat) : Int) := by omega
        by_cases c2 : 126 < s[j].toNat
        · have hn : Hid (okB s = false) := okB_no hlt (by omega)
          have c2' : (126 : Int) < ((s[j].toNat : Nat) : Int) := by omega
          go_wp2
          go_ret
          exact ⟨ret_b (by rw [HN0.out hn.out]), Below.refl _ _⟩
        · have c2' : ((s[j].toNat : Nat) : Int) ≤ 126 := by omega
          have HT : Hid (33 ≤ s[j].toNat ∧ s[j].toNat ≤ 126) := by constructor <;> omega
          clear c1 c2
          go_wp2
          go_roundg (gk - 1)
          case measure => omega
          case rel =>
            refine ⟨j + 1, by omega, by go_num, rfl, fun i hi hij => ?_⟩
            by_cases he : i = j
            · subst he; exact HT.out
            · exact HO.out i hi (by omega)
    · have HK : Hid (okB s = true) := okB_yes fun i hi => HO.out i hi (by omega)
      by_cases h0 : 0 < s.size
      · have h0' : (0 : Int) < (s.size : Int) := by omega
        go_wp2
        go_ret
        exact ⟨ret_b (by unfold nameB; rw [HK.out, Bool.and_true, Bool.eq_iff_iff]; simp; omega), Below.refl _ _⟩
      · have h0' : (s.size : Int) ≤ 0 := by omega
        go_wp2
        go_ret
        exact ⟨ret_b (by unfold nameB; rw [HK.out, Bool.and_true, Bool.eq_iff_iff]; simp; omega), Below.refl _ _⟩

def IntC : Lay Int := fun _ _ f x => f 0 = some (.int .i64 x)
abbrev IsInts := IsRow IntC 1 8
theorem goodN : Good IntC 1 where
  move h _ _ hf := hf 0 (by omega) _ h
  there h k hk := by obtain rfl : k = 0 := by omega
                     exact ⟨_, h, rfl⟩
  pos := by omega
theorem intCells {P : Nat → Prop} {w : World} (l : List Int) : Cells IntC 1 P w (l.map fun x => .int .i64 x) l := by
  refine ⟨by simp, fun i x hx => ?_⟩
  show (l.map fun x => Value.int .i64 x)[i * 1 + 0]? = _
  simp [hx]
/-- A class, and all above it. -/
def upsE (xs : List QC) : Nat → Int → List Int
  | 0, _ => []
  | n + 1, c => match clsAt xs c with
    | none => []
    | some x => c :: upsE xs n x.super
theorem info3 : (Tryz.prog.info? 3).map (fun i => (i.zero, i.size, i.bytes)) = some (some (.int .i64 0), 1, 8) := by kernel_rfl

theorem grown_below {wr w2 : World} {B : Nat} {X : Obj} {a : Option Addr} {e : TypeId} {sz n k : Nat} {xs : List Value} (hown : wr.ownsRow B e sz (.slice a n k) n xs) (hB : B ≤ wr.heap.size) (hgr : (wr.alloc X).grownBy w2 (Value.ownBlock (.slice a n k))) : Below B wr w2 := by
  refine ((Below.refl B wr).alloc hB X).grown hgr (by simp; omega) (fun k' hk' => ?_)
  obtain ⟨-, ⟨e, -⟩ | ⟨g, c, cur, e, h1, -⟩⟩ := hown
  · rw [e] at hk'; cases hk'
  · rw [e] at hk'
    simp [Value.ownBlock] at hk'
    omega

set_option maxHeartbeats 2000000 in
theorem ups_any {P : Nat → Prop} (xs : List QC) (c0 : Int) (cv hv : Value) (ep : Int) (w : World) (hh : IsClasses P w cv xs) (hhv : ∃ a n c, hv = .slice a n c) : Calls Tryz.prog 36 #[WV cv hv ep, .int .i64 c0] w fun e w' => ∃ ad cap, e = .returned (.slice ad (upsE xs (xs.length + 1) c0).length cap) ∧ IsInts (fun b => w.heap.size ≤ b) w' (.slice ad (upsE xs (xs.length + 1) c0).length cap) (upsE xs (xs.length + 1) c0) ∧ Below w.heap.size w w' := by
  obtain ⟨ad, cap, rfl, hl, hcap, hby, hrow⟩ := id hh
  obtain ⟨ah, nh, ch, rfl⟩ := hhv
  obtain ⟨i0, hi, hz0, hz1, hz2⟩ := info_parts info3
  go_enter Tryz.func36, Tryz.ntmps36
  go_wp2
  go_loopg [1, 5] (xs.length + 1) (fun g c' l wr => ∃ (pre : List Int) (cc : Int) (a : Option Addr) (k : Nat), pre.length + g = xs.length + 1 ∧ c' = .int .i64 cc ∧ l = .slice a pre.length k ∧ Below (w.heap.size + 1) (w.alloc (Obj.cells #[.slice ad xs.length cap, .slice ah nh ch, .int .i64 ep] 25)) wr ∧ wr.ownsRow (w.heap.size + 1) 3 1 (.slice a pre.length k) pre.length (pre.map fun x => .int .i64 x) ∧ upsE xs (xs.length + 1) c0 = pre ++ upsE xs g cc)
  case atStart => exact ⟨[], c0, none, 0, by simp, rfl, rfl, (Below.refl _ _), ⟨by simp, Or.inl ⟨rfl, rfl⟩⟩, rfl⟩
  case round =>
    obtain ⟨pre, cc, a, k, hg, rfl, rfl, hbel, hown, hE⟩ := hrel
    have HE : Hid (upsE xs (xs.length + 1) c0 = pre ++ upsE xs gk cc) := hE
    clear hE
    have hbw : Below w.heap.size w wr := (bel1 _ _).trans (hbel.mono (by omega))
    have b0 : wr.cell? ⟨w.heap.size, 0, none⟩ = some (.slice ad xs.length cap) := by rw [hbel.cell (by simp)]; simp
    have hk' : pre.length ≤ xs.length + 1 := by omega
    have hkk : pre.length ≤ k := by obtain ⟨-, h | ⟨g, c, cur, e, -, -, h1, -⟩⟩ := hown; · omega
                                    · cases e; exact h1
    have hend : ∀ (hz : upsE xs gk cc = []), ∃ ad cap, Ending.returned (.slice a pre.length k) = .returned (.slice ad (upsE xs (xs.length + 1) c0).length cap) ∧ IsInts (fun b => w.heap.size ≤ b) wr (.slice ad (upsE xs (xs.length + 1) c0).length cap) (upsE xs (xs.length + 1) c0) ∧ Below w.heap.size w wr := fun hz => by
      rw [HE.out, hz, List.append_nil]
      refine ⟨a, k, rfl, ?_, hbw⟩
      obtain ⟨-, ⟨e, h0⟩ | ⟨g, c, cur, e, h1, h2, h3, h4, h5, h6⟩⟩ := hown
      · have : pre = [] := List.eq_nil_of_length_eq_zero h0
        subst this
        refine ⟨a, k, rfl, by simp, ?_, by simp, fun i x hx => by simp at hx⟩
        cases e; unfold maxLen; omega
      · cases e
        exact (intCells pre).row goodN (by omega) h2 h6 h3 h4 (by omega)
    cases hx : clsAt xs cc with
    | none =>
      have hz : Hid (upsE xs gk cc = []) := by show _ = _; cases gk <;> simp [upsE, hx]
      by_cases h0 : 0 ≤ cc
      · have h1 : (xs.length : Int) ≤ cc := by
          have := clsAt_has (xs := xs) (c := cc)
          rw [hx] at this
          simp [hasB] at this
          omega
        go_wp2
        go_ret
        exact hend hz.out
      · have h0' : cc < 0 := by omega
        have hd : decide (0 ≤ cc) = false := by simpa using h0
        go_wp2
        go_ret
        exact hend hz.out
    | some x =>
      obtain ⟨q, rfl, hxq⟩ := clsAt_some hx
      have hq := lt_of_get hxq
      have hq0 : (0 : Int) ≤ (q : Int) := by omega
      have hq1 : (q : Int) < (xs.length : Int) := by omega
      by_cases hfu : pre.length ≤ xs.length
      · obtain ⟨g', rfl⟩ : ∃ g', gk = g' + 1 := ⟨gk - 1, by omega⟩
        have HX : Hid (clsAt xs (q : Int) = some x) := hx
        obtain ⟨b, o, rfl, -, -, hv1, -⟩ := hrow q x hxq
        have v1 := cell_later hbw hv1
        have hf1 : (pre.length : Int) ≤ (xs.length : Int) := by omega
        have hbl : b < w.heap.size := World.block_lt_of_cell? _ _ hv1
        have hzr : w.heap.size + 1 ≤ wr.heap.size := by have := hbel.size; simpa using this
        clear hx hxq hend hrow
        go_wp2_with (at_builtin; refine wpList_append_lies _ rfl (.tmp 23) (.tmp 25) 58 rfl (w.heap.size + 1) 3 i0 _ 1 8 Tryz.underlying58 hi hz0 hz1 hz2 rfl (by decide) _ pre.length _ rfl (hown.alloc _) ⟨_, 0, none⟩ 1 1 [.int .i64 q] rfl rfl (fun j u hu => (by have := lt_of_get hu; simp at this; subst this; simp at hu; subst hu; rw [Addr.add_lit]; exact (cell_new wr _ 3 _ rfl 0).trans rfl)) (by simp; rfl) (by omega) (by unfold maxLen; omega) (by omega) (by simp; have := hbel.size; simp at this; omega) _ rfl ?_; intro gg cap2 w2 hown2 hgr hor hlt2; have hb2 := grown_below hown hzr hgr; have v1 := (hb2.cell (p := ⟨b, o + q * 4 + 1, none⟩) (by simp; omega)).trans v1; have b0 := (hb2.cell (p := ⟨w.heap.size, 0, none⟩) (by simp)).trans b0)
        go_roundg g'
        case measure => omega
        case rel =>
          refine ⟨pre ++ [(q : Int)], x.super, some ⟨gg, 0, none⟩, cap2, by simp; omega, rfl, by simp, hbel.trans hb2, ?_, ?_⟩
          · simpa using hown2
          · rw [HE.out]
            simp [upsE, HX.out]
      · obtain rfl : gk = 0 := by omega
        have hf1 : (xs.length : Int) < (pre.length : Int) := by omega
        go_wp2
        go_ret
        exact hend rfl

theorem upsE_mem {xs : List QC} : ∀ (n : Nat) (c : Int) (i : Nat) (k : Int), (upsE xs n c)[i]? = some k → ∃ (q : Nat) (x : QC), k = (q : Int) ∧ xs[q]? = some x
  | 0, c, i, k, h => by simp [upsE] at h
  | n + 1, c, i, k, h => by
    unfold upsE at h
    cases hx : clsAt xs c with
    | none => rw [hx] at h; simp at h
    | some x =>
      rw [hx] at h
      cases i with
      | zero =>
        simp at h
        subst h
        obtain ⟨q, rfl, hq⟩ := clsAt_some hx
        exact ⟨q, x, rfl, hq⟩
      | succ i => simp at h; exact upsE_mem n x.super i k h
def slotOf (xs : List QC) (k : Int) : Int := ((clsAt xs k).map QC.slots).getD 0
def sumS (xs : List QC) : List Int → Int
  | [] => 0
  | k :: r => slotOf xs k + sumS xs r
theorem sumS_up {xs : List QC} : ∀ (n : Nat) (c s : Int), upE slotsV xs n c s = s + sumS xs (upsE xs n c)
  | 0, c, s => by simp [upE, upsE, sumS]
  | n + 1, c, s => by
    unfold upE upsE
    cases hx : clsAt xs c with
    | none => simp [sumS]
    | some x =>
      have h1 : slotOf xs c = x.slots := by simp [slotOf, hx]
      have h2 := sumS_up (xs := xs) n x.super (s + x.slots)
      simp only [slotsV, if_true, sumS, h1] at h2 ⊢
      rw [h2]
      omega
theorem slotsE_sum {xs : List QC} (c : Int) : slotsE xs c = sumS xs (upsE xs (xs.length + 1) c) := by
  unfold slotsE
  rw [sumS_up]
  omega
theorem upsE_len {xs : List QC} : ∀ (n : Nat) (c : Int), (upsE xs n c).length ≤ n
  | 0, c => by simp [upsE]
  | n + 1, c => by
    unfold upsE
    cases hx : clsAt xs c with
    | none => simp
    | some x => simp; exact upsE_len n x.super
theorem sumS_append {xs : List QC} (l r : List Int) : sumS xs (l ++ r) = sumS xs l + sumS xs r := by
  induction l with
  | nil => simp [sumS]
  | cons a l ih => simp only [List.cons_append, sumS, ih]; omega
theorem sumS_range {xs : List QC} (ho : SlotsOk xs) (l : List Int) : 0 ≤ sumS xs l ∧ sumS xs l ≤ 6 * l.length := by
  induction l with
  | nil => simp [sumS]
  | cons a l ih =>
    have : 0 ≤ slotOf xs a ∧ slotOf xs a ≤ 6 := by
      unfold slotOf
      cases hx : clsAt xs a with
      | none => simp
      | some x =>
        obtain ⟨q, -, hq⟩ := clsAt_some hx
        simpa using ho q x hq
    simp only [sumS, List.length_cons]
    omega

set_option maxHeartbeats 2000000 in
theorem rslots_any {P : Nat → Prop} (X : QW) (c : Int) (cv hv : Value) (w : World) (hh : IsClasses P w cv X.classes) (hH : IsHeap P w hv X.heap) (ho : SlotsOk X.classes) : Calls Tryz.prog 17 #[WV cv hv X.epoch, .int .i64 c] w fun e w' => e = .returned (.int .i64 (slotsE X.classes c)) ∧ Below w.heap.size w w' := by
  obtain ⟨ad, cap, rfl, hl, hcap, hby, hrow⟩ := id hh
  obtain ⟨ah, ch, rfl⟩ := hH.get
  have hul := upsE_len (xs := X.classes) (X.classes.length + 1) c
  have HS : Hid (slotsE X.classes c = sumS X.classes (upsE X.classes (X.classes.length + 1) c)) := slotsE_sum c
  have HM : Hid (∀ (i : Nat) (k : Int), (upsE X.classes (X.classes.length + 1) c)[i]? = some k → ∃ (q : Nat) (x : QC), k = (q : Int) ∧ X.classes[q]? = some x) := fun i k h => upsE_mem _ _ i k h
  go_enter Tryz.func17, Tryz.ntmps17
  go_wp2_with fail
  refine (ups_any X.classes c _ _ X.epoch _ (hh.later goodC (bel1 _ _)) ⟨_, _, _, rfl⟩).mono ?_
  rintro e w1 ⟨au, ku, rfl, hI, hb⟩
  have b0 : w1.cell? ⟨w.heap.size, 0, none⟩ = some (.slice ad X.classes.length cap) := cell_later hb (by rw [cell_new _ _ _ _ rfl]; rfl)
  have hB := nstep1 (Below.refl _ _) hb
  generalize upsE X.classes (X.classes.length + 1) c = us at *
  obtain ⟨a', k', e', -, -, -, hru⟩ := hI
  simp only [Value.slice.injEq] at e'
  obtain ⟨rfl, -, rfl⟩ := e'
  go_wp2
  go_loopg [5, 12] us.length (fun g s i wr => ∃ j : Nat, j + g = us.length ∧ i = .int .i64 j ∧ s = .int .i64 (sumS X.classes (us.take j)) ∧ wr = w1)
  case atStart => exact ⟨0, by omega, rfl, rfl, rfl⟩
  case round =>
    obtain ⟨j, hj, rfl, rfl, rfl⟩ := hrel
    by_cases hlt : j < us.length
    · have hus : us[j]? = some us[j] := by simp [hlt]
      obtain ⟨bu, ou, rfl, -, hu⟩ := hru j _ hus
      simp only [Nat.mul_one, Nat.add_zero] at hu
      obtain ⟨q, x, hkq, hxq⟩ := HM.out j _ hus
      have hq := lt_of_get hxq
      obtain ⟨b, o, rfl, -, -, -, hv2, -⟩ := hrow q x hxq
      have v2 := cell_later hB hv2
      have HT : Hid (sumS X.classes (us.take (j + 1)) = sumS X.classes (us.take j) + x.slots) := by
        show _ = _
        rw [List.take_add_one, hus, sumS_append]
        simp [sumS, slotOf, hkq, clsAt_nat, hxq]
      obtain ⟨o1, o2⟩ := ho q x hxq
      have hr1 := sumS_range ho (us.take j)
      have hr2 : ((us.take j).length : Int) ≤ us.length := by simp; omega
      have hw : IntKind.i64.wrap (sumS X.classes (us.take j) + x.slots) = sumS X.classes (us.take j) + x.slots := by rw [IntKind.wrap_i64]; omega
      replace hu : wr.cell? ⟨bu, ou + j, none⟩ = some (.int .i64 (q : Int)) := by rw [← hkq]; exact hu
      have hq0 : (0 : Int) ≤ (q : Int) := by omega
      have hq1 : (q : Int) < (X.classes.length : Int) := by omega
      have hj0 : (0 : Int) ≤ (j : Int) := by omega
      have hj1 : (j : Int) < (us.length : Int) := by omega
      clear hrow hru hus hkq hxq hv2
      generalize sumS X.classes (us.take j) = sm at *
      go_wp2
      go_roundg (gk - 1)
      case measure => omega
      case rel => exact ⟨j + 1, by omega, by go_num, by rw [HT.out], rfl⟩
    · go_wp2
      go_ret
      refine ⟨ret_i ?_, hB⟩
      rw [HS.out, List.take_of_length_le (by omega)]
end Go.Proofs.YtjmidhghiahbaaaGreatDoor
