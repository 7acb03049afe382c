/- ValueTells: Bool, Wrong, Class, Own, New, Slot and Prim tell of any values, and objects, what they are. For every input. -/
import Derived.Test.YtlmejfipgingeaaVs
import Derived.Deep.DeepCutAuto
import Derived.Lib.SmallJoins
namespace Go.Proofs.Ytlmejfipgingeaa
open Go.ChangeShapes Go.WideShapes Go.ChangeAt Go.RowKit
set_option linter.unusedSimpArgs false
set_option linter.unusedVariables false

/-- What holds of memory all through the law: the objects, and the two values that are boxed at b1 and b2. -/
structure TellS (w : World) (v : Value) (hs : List QO) (b1 b2 : Nat) (ka na kb nb : Int) (w' : World) : Prop where
  bel : Below w.heap.size w w'
  heap : IsHeap 0 w' v hs
  a0 : w'.cell? ⟨b1, 0, none⟩ = some (.int .i64 ka)
  a1 : w'.cell? ⟨b1, 1, none⟩ = some (.int .i64 na)
  c0 : w'.cell? ⟨b2, 0, none⟩ = some (.int .i64 kb)
  c1 : w'.cell? ⟨b2, 1, none⟩ = some (.int .i64 nb)
theorem TellS.later {w : World} {v : Value} {hs : List QO} {b1 b2 : Nat} {ka na kb nb : Int} {w' w1 : World} (h : TellS w v hs b1 b2 ka na kb nb w') (hb : Below w'.heap.size w' w1) : TellS w v hs b1 b2 ka na kb nb w1 :=
  ⟨h.bel.trans (hb.mono h.bel.size), h.heap.later hb, cell_later hb h.a0, cell_later hb h.a1, cell_later hb h.c0, cell_later hb h.c1⟩
theorem tellY {p : World → Prop} {w' w1 : World} {a b : Addr} {x y : Value} (hp : ∀ {w' w1}, p w' → Below w'.heap.size w' w1 → p w1) (h : w'.cell? a = some x ∧ w'.cell? b = some y ∧ p w') (hb : Below w'.heap.size w' w1) : w1.cell? a = some x ∧ w1.cell? b = some y ∧ p w1 :=
  ⟨cell_later hb h.1, cell_later hb h.2.1, hp h.2.2 hb⟩

theorem OwnSt.heap {w : World} {B : Nat} {hs : List QO} (h : OwnSt w B hs hs.length) (hb : hs.length * 32 ≤ 140737488351232) : IsHeap 0 w (.slice (some ⟨B, 0, none⟩) hs.length hs.length) hs := by
  obtain ⟨cur, h1, h2⟩ := h.cells
  have hl : cur.toList.length = hs.length * 2 := h2.1
  refine cells_heap (Nat.zero_le _) h1 ?_ (Nat.le_refl _) (by unfold maxLen; omega) hb
  rw [List.take_of_length_le (by omega)]
  exact h2.mono (Nat.zero_le _)

theorem regB {W1 w' w'' : World} {a b : Addr} {x y : Value} (h : w'.cell? a = some x ∧ w'.cell? b = some y ∧ Below W1.heap.size W1 w') (hb : Below w'.heap.size w' w'') : w''.cell? a = some x ∧ w''.cell? b = some y ∧ Below W1.heap.size W1 w'' :=
  ⟨cell_later hb h.1, cell_later hb h.2.1, h.2.2.trans (hb.mono h.2.2.size)⟩
theorem regA {W1 w' : World} {a b : Addr} {x y : Value} (h : w'.cell? a = some x ∧ w'.cell? b = some y ∧ Below W1.heap.size W1 w') (o : Obj) : (w'.alloc o).cell? a = some x ∧ (w'.alloc o).cell? b = some y ∧ Below W1.heap.size W1 (w'.alloc o) := regB h (bel1 _ _)
theorem regSrc {W1 w' : World} {ad : Option Addr} {cs : List Value} (h : ∀ j u, cs[j]? = some u → ∃ a, ad = some a ∧ W1.cell? (a.add j) = some u) (hb : Below W1.heap.size W1 w') : ∀ j u, cs[j]? = some u → ∃ a, ad = some a ∧ w'.cell? (a.add j) = some u :=
  fun j u hu => by obtain ⟨a, e, h⟩ := h j u hu; exact ⟨a, e, cell_later hb h⟩
theorem right_bd {k n : Int} (h : wrongE k n 1000 = 0) : -1073741824 ≤ n ∧ n ≤ 1073741824 := by
  unfold wrongE at h
  (repeat' split at h) <;> omega

set_option maxRecDepth 100000 in
set_option maxHeartbeats 4000000 in
theorem tells_walk (hs : List QO) (v : Value) (kv nv n c s p ka na kb nb : Int) (w : World) (hh : IsHeap 0 w v hs) : Calls Try.prog 3 #[v, V2 kv nv, .int .i64 n, .int .i64 c, .int .i64 s, .int .i64 p, V2 ka na, V2 kb nb] w fun e w' => e = .returned (.bool true) ∧ Below w.heap.size w w' := by
  have hh0 := hh
  obtain ⟨ad, cap, rfl, hl, hcap, hby, hrow⟩ := hh
  go_enter Try.func3, Try.ntmps3
  go_upto_region 1 with (fail)
  have hS0 : (((w.alloc (Obj.cells #[Value.int IntKind.i64 kv, Value.int IntKind.i64 nv] 24)).alloc (Obj.cells #[Value.int IntKind.i64 ka, Value.int IntKind.i64 na] 24)).alloc (Obj.cells #[Value.int IntKind.i64 kb, Value.int IntKind.i64 nb] 24)).drew.cell? ⟨w.heap.size, 0, none⟩ = some (.int .i64 kv) ∧ (((w.alloc (Obj.cells #[Value.int IntKind.i64 kv, Value.int IntKind.i64 nv] 24)).alloc (Obj.cells #[Value.int IntKind.i64 ka, Value.int IntKind.i64 na] 24)).alloc (Obj.cells #[Value.int IntKind.i64 kb, Value.int IntKind.i64 nb] 24)).drew.cell? ⟨w.heap.size, 1, none⟩ = some (.int .i64 nv) ∧ TellS w (Value.slice ad hs.length cap) hs (w.heap.size + 1) (w.heap.size + 1 + 1) ka na kb nb (((w.alloc (Obj.cells #[Value.int IntKind.i64 kv, Value.int IntKind.i64 nv] 24)).alloc (Obj.cells #[Value.int IntKind.i64 ka, Value.int IntKind.i64 na] 24)).alloc (Obj.cells #[Value.int IntKind.i64 kb, Value.int IntKind.i64 nb] 24)).drew := by
    refine ⟨cell_later (bel2 _ _ _).drew (by rw [cell_new _ _ _ _ rfl]; rfl), cell_later (bel2 _ _ _).drew (by rw [cell_new _ _ _ _ rfl]; rfl), (bel3 _ _ _ _).drew, hh0.later (bel3 _ _ _ _).drew, cell_later (bel1 _ _).drew (by rw [cell_new _ _ _ _ (by simp)]; rfl), cell_later (bel1 _ _).drew (by rw [cell_new _ _ _ _ (by simp)]; rfl), ?_, ?_⟩
    · exact cell_new ((w.alloc (Obj.cells #[Value.int IntKind.i64 kv, Value.int IntKind.i64 nv] 24)).alloc (Obj.cells #[Value.int IntKind.i64 ka, Value.int IntKind.i64 na] 24)) _ 24 _ (by simp) 0
    · exact cell_new ((w.alloc (Obj.cells #[Value.int IntKind.i64 kv, Value.int IntKind.i64 nv] 24)).alloc (Obj.cells #[Value.int IntKind.i64 ka, Value.int IntKind.i64 na] 24)) _ 24 _ (by simp) 1
  generalize (((w.alloc (Obj.cells #[Value.int IntKind.i64 kv, Value.int IntKind.i64 nv] 24)).alloc (Obj.cells #[Value.int IntKind.i64 ka, Value.int IntKind.i64 na] 24)).alloc (Obj.cells #[Value.int IntKind.i64 kb, Value.int IntKind.i64 nb] 24)) = W0 at *
  clear hrow hh0
  go_cut [68] (fun s68 wx => s68 = .bool false ∧ TellS w (Value.slice ad hs.length cap) hs (w.heap.size + 1) (w.heap.size + 1 + 1) ka na kb nb wx)
  case first =>
    go_region_held3 (fun w' => w'.cell? ⟨w.heap.size, 0, none⟩ = some (.int .i64 kv) ∧ w'.cell? ⟨w.heap.size, 1, none⟩ = some (.int .i64 nv) ∧ TellS w (Value.slice ad hs.length cap) hs (w.heap.size + 1) (w.heap.size + 1 + 1) ka na kb nb w')
      (first | exact hS0 | exact tellY TellS.later (‹_ ∧ _ ∧ TellS _ _ _ _ _ _ _ _ _ _›) hb)
      (first
        | (go_at_call 6; refine (wrong_any _ _ _ _).mono ?_; rintro e w' ⟨rfl, hb⟩)
        | (go_at_call 7; refine (rwrong_any _ _ _ _).mono ?_; rintro e w' ⟨rfl, hb⟩)
        | (go_at_call 8; refine (class_any _ _ _ _ _ (‹_ ∧ _ ∧ TellS _ _ _ _ _ _ _ _ _ _›).2.2.heap).mono ?_; rintro e w' ⟨rfl, hb⟩)
        | (go_at_call 9; refine (rclass_any _ _ _ _ _ (‹_ ∧ _ ∧ TellS _ _ _ _ _ _ _ _ _ _›).2.2.heap).mono ?_; rintro e w' ⟨rfl, hb⟩)
        | (go_at_call 10; refine (slot_any _ _ _ _ _ _ (‹_ ∧ _ ∧ TellS _ _ _ _ _ _ _ _ _ _›).2.2.heap).mono ?_; rintro e w' ⟨rfl, hb⟩)
        | (go_at_call 11; refine (rslot_any _ _ _ _ _ _ (‹_ ∧ _ ∧ TellS _ _ _ _ _ _ _ _ _ _›).2.2.heap).mono ?_; rintro e w' ⟨rfl, hb⟩)
        | (go_at_call 12; refine (bool_any _ _).mono ?_; rintro e w' ⟨rfl, hb⟩)
        | (go_at_call 13; refine (rbool_any _ _).mono ?_; rintro e w' ⟨rfl, hb⟩)
        | (go_at_call 15; refine (own_any _ _ _ (‹_ ∧ _ ∧ TellS _ _ _ _ _ _ _ _ _ _›).2.2.heap).mono ?_; rintro e w' ⟨g', rfl, hown, hg', hb⟩)
        | (go_at_call 14; refine (same_heap hs _ _ _ (hown.heap hby) (‹_ ∧ _ ∧ TellS _ _ _ _ _ _ _ _ _ _›).2.2.heap).mono ?_; rintro e w' ⟨rfl, hb⟩))
    go_wp2_with fail
    go_meet
    case rel => exact ⟨rfl, (‹_ ∧ _ ∧ TellS w (Value.slice ad hs.length cap) hs (w.heap.size + 1) (w.heap.size + 1 + 1) ka na kb nb _›).2.2⟩
  case rest =>
    obtain ⟨rfl, hS⟩ := hcut
    clear hS0
    obtain ⟨w1, rfl⟩ : ∃ w1 : World, w1 = wc := ⟨_, rfl⟩
    go_upto_region 3 with (fail)
    go_cut [74] (fun s74 wx => s74 = .bool (decide (0 ≤ s ∧ s ≤ 100)) ∧ wx = w1)
    case first =>
      by_cases h1 : 0 ≤ s
      · by_cases h2 : s ≤ 100
        all_goals
          go_wp2_with fail
          go_meet
          case rel => exact ⟨by simp [h1, h2], rfl⟩
      · have h1' : s < 0 := by omega
        have hd : decide (0 ≤ s) = false := by simpa using h1
        go_wp2_with fail
        go_meet
        case rel => exact ⟨by simp; omega, rfl⟩
    case rest =>
      obtain ⟨rfl, rfl⟩ := hcut
      go_upto_if 74 with (fail)
      go_cut [] (fun wx => TellS w (Value.slice ad hs.length cap) hs (w.heap.size + 1) (w.heap.size + 1 + 1) ka na kb nb wx)
      case first =>
        by_cases hsr : 0 ≤ s ∧ s ≤ 100
        · have hd : decide (0 ≤ s ∧ s ≤ 100) = true := by simpa using hsr
          obtain ⟨m, rfl⟩ := Int.eq_ofNat_of_zero_le hsr.1
          have hm : m ≤ 100 := by omega
          by_cases hfu : 60 ≤ hs.length
          · have hf' : (60 : Int) ≤ (hs.length : Int) := by omega
            go_wp2_with fail
            refine (new_full hs c m _ _ hS.heap hm hfu).mono ?_
            rintro e w2 ⟨rfl, hb⟩
            replace hS := hS.later hb
            clear hb
            go_wp2_with fail
            go_meet
            case rel => exact hS.later (bel1 _ _)
          · have hf' : (hs.length : Int) < (60 : Int) := by omega
            go_wp2_with fail
            refine (new_room hs c m _ _ hS.heap hm (by omega)).mono ?_
            rintro e w2 ⟨g, cap2, rfl, hH, hb⟩
            replace hS := hS.later hb
            replace hH := hH.mono (Nat.zero_le _)
            clear hb
            go_wp2_with fail
            obtain ⟨cs, hoc, hsrc⟩ : ∃ cs, ObjCells 0 w2 cs hs ∧ ∀ j u, cs[j]? = some u → ∃ a, ad = some a ∧ w2.cell? (a.add j) = some u := by
              obtain ⟨ad', cap', e, -, -, -, hr⟩ := hS.heap
              simp only [Value.slice.injEq] at e
              obtain ⟨rfl, -, rfl⟩ := e
              exact heap_cells hr
            have e0 : (w2.alloc (Obj.cells #[Value.int IntKind.i64 4, Value.int IntKind.i64 ↑hs.length] 24)).cell? ⟨w2.heap.size, 0, none⟩ = some (.int .i64 4) := by simp
            have e1 : (w2.alloc (Obj.cells #[Value.int IntKind.i64 4, Value.int IntKind.i64 ↑hs.length] 24)).cell? ⟨w2.heap.size, 1, none⟩ = some (.int .i64 (hs.length : Int)) := by simp
            have hS1 := hS.later (bel1 w2 (Obj.cells #[Value.int IntKind.i64 4, Value.int IntKind.i64 ↑hs.length] 24))
            have hH1 := hH.later (bel1 w2 (Obj.cells #[Value.int IntKind.i64 4, Value.int IntKind.i64 ↑hs.length] 24))
            have hoc1 := hoc.later (bel1 w2 (Obj.cells #[Value.int IntKind.i64 4, Value.int IntKind.i64 ↑hs.length] 24))
            have hsrc1 : ∀ j u, cs[j]? = some u → ∃ a, ad = some a ∧ (w2.alloc (Obj.cells #[Value.int IntKind.i64 4, Value.int IntKind.i64 ↑hs.length] 24)).cell? (a.add j) = some u := fun j u hu => by obtain ⟨a, e, h⟩ := hsrc j u hu; exact ⟨a, e, cell_later (bel1 _ _) h⟩
            have HSRC : Hid (∀ j u, cs[j]? = some u → ∃ a, ad = some a ∧ (w2.alloc (Obj.cells #[Value.int IntKind.i64 4, Value.int IntKind.i64 ↑hs.length] 24)).cell? (a.add j) = some u) := hsrc1
            have hmk := make_vals m (by omega)
            have tokA : True := trivial
            have hl0 : hs.length < 1000 := by omega
            clear hsrc hsrc1 hoc hH hS
            generalize w2.heap.size = B18 at *
            generalize (w2.alloc (Obj.cells #[Value.int IntKind.i64 4, Value.int IntKind.i64 ↑hs.length] 24)) = W1 at *
            go_region_held3 (fun w' => w'.cell? ⟨B18, 0, none⟩ = some (.int .i64 4) ∧ w'.cell? ⟨B18, 1, none⟩ = some (.int .i64 (hs.length : Int)) ∧ Below W1.heap.size W1 w')
              (first | exact ⟨e0, e1, (Below.refl _ _).drew⟩ | exact hY | exact regA (‹_ ∧ _ ∧ Below W1.heap.size W1 _›) _)
              (first
                | (have _t := tokA; refine step_append_src rfl (.tmp 110) (.tmp 111) rfl _ rfl (by simp only [blk_drew, blk_at, siz_drew, siz_alloc]; (repeat' split) <;> first | rfl | omega) ad hs.length cap rfl cs hoc1.1 (regSrc HSRC.out (‹_ ∧ _ ∧ Below W1.heap.size W1 _›).2.2) hl0 ?_; intro gA capA wA hownA hgA hgAl hbA; have hY := regB (‹_ ∧ _ ∧ Below W1.heap.size W1 _›) hbA; have hzA := hbA.size; simp only [siz_drew, siz_alloc] at hzA; have tokB : True := trivial; clear tokA)
                | (have _t := tokB; refine step_append_made rfl (.tmp 112) (.tmp 117) (.tmp 115) rfl _ gA capA hs rfl cs (by first | exact hownA | exact hownA.alloc _ | exact (hownA.alloc _).alloc _) (by first | omega | (simp; done) | (simp; omega)) _ rfl _ m rfl c hm (by (try simp only [blk_drew, blk_at, siz_drew, siz_alloc]); (repeat' split) <;> first | rfl | omega | (rw [hbA.block _ (by first | omega | (simp; done) | (simp; omega))]; simp only [blk_drew, blk_at, siz_drew, siz_alloc]; (repeat' split) <;> first | rfl | omega)) (by (try simp only [blk_drew, blk_at, siz_drew, siz_alloc]); (repeat' split) <;> first | rfl | omega | (rw [hbA.block _ (by first | omega | (simp; done) | (simp; omega))]; simp only [blk_drew, blk_at, siz_drew, siz_alloc]; (repeat' split) <;> first | rfl | omega)) (by have h := hgA; simp only [siz_drew, siz_alloc] at h; omega) W1 (‹_ ∧ _ ∧ Below W1.heap.size W1 _›).2.2 (by omega) hoc1 hl0 ?_; intro g4 cap4 w4 hH4 hb4; have hZ := Below.trans (‹_ ∧ _ ∧ Below W1.heap.size W1 _›).2.2 (hb4.mono (by omega)); have hY := (⟨cell_later hZ e0, cell_later hZ e1, hZ⟩ : w4.cell? ⟨B18, 0, none⟩ = some (.int .i64 4) ∧ w4.cell? ⟨B18, 1, none⟩ = some (.int .i64 (hs.length : Int)) ∧ Below W1.heap.size W1 w4); clear tokB)
                | (go_at_call 14; refine (same_heap (hs ++ [⟨c, List.replicate m ⟨0, 0⟩⟩]) _ _ _ (hH1.later (‹_ ∧ _ ∧ Below W1.heap.size W1 _›).2.2) hH4).mono ?_; rintro e w5 ⟨rfl, hb5⟩; have hY := regB (‹_ ∧ _ ∧ Below W1.heap.size W1 _›) hb5))
            all_goals go_wp2_with fail
            all_goals go_meet
            all_goals (case rel => exact hS1.later (‹_ ∧ _ ∧ Below W1.heap.size W1 _›).2.2)
        · have hd : decide (0 ≤ s ∧ s ≤ 100) = false := by simpa using hsr
          go_wp2_with fail
          go_meet
          case rel => exact hS
      case rest =>
        replace hS := hcut
        clear hcut
        have d0 := hS.a0
        have d1 := hS.a1
        have d2 := hS.c0
        have d3 := hS.c1
        by_cases hwa : wrongE ka na 1000 = 0
        · by_cases hwb : wrongE kb nb 1000 = 0
          · have hra := right_bd hwa
            have hrb := right_bd hwb
            go_wp2_with fail
            refine (rwrong_any _ _ _ _).mono ?_
            rintro e w2 ⟨rfl, hb⟩
            replace hS := hS.later hb
            replace d2 := cell_later hb d2
            replace d3 := cell_later hb d3
            clear hb
            go_wp2_with fail
            refine (rwrong_any _ _ _ _).mono ?_
            rintro e w3 ⟨rfl, hb⟩
            replace hS := hS.later hb
            replace d0 := hS.a0
            replace d1 := hS.a1
            replace d2 := hS.c0
            replace d3 := hS.c1
            clear hb
            go_wp2_with fail
            refine (prim_any _ _ _ _ _ _ hra hrb).mono ?_
            rintro e w4 ⟨rfl, hb⟩
            replace hS := hS.later hb
            have f0 := fun x => (hS.later (bel1 _ x)).a0
            have f1 := fun x => (hS.later (bel1 _ x)).a1
            have f2 := fun x => (hS.later (bel1 _ x)).c0
            have f3 := fun x => (hS.later (bel1 _ x)).c1
            clear hb d0 d1 d2 d3
            go_wp2_with fail
            refine (rprim_any _ _ _ _ _ _ hra hrb).mono ?_
            rintro e w5 ⟨rfl, hb⟩
            replace hS := (hS.later (bel1 _ _)).later hb
            have g0 : w5.cell? ⟨w4.heap.size, 0, none⟩ = some (.int .i64 (primE p ka na kb nb).1) := cell_later hb (by simp)
            have g1 : w5.cell? ⟨w4.heap.size, 1, none⟩ = some (.int .i64 (primE p ka na kb nb).2.1) := cell_later hb (by simp)
            replace g0 := fun x => cell_later (bel1 w5 x) g0
            replace g1 := fun x => cell_later (bel1 w5 x) g1
            clear hb f0 f1 f2 f3
            go_wp2
            go_ret
            exact ⟨ret_b (by simp), hS.bel.alloc hS.bel.size _⟩
          · have hwb' : (wrongE kb nb 1000 != 0) = true := by simpa using hwb
            go_wp2_with fail
            refine (rwrong_any _ _ _ _).mono ?_
            rintro e w2 ⟨rfl, hb⟩
            replace hS := hS.later hb
            replace d2 := cell_later hb d2
            replace d3 := cell_later hb d3
            clear hb
            go_wp2_with fail
            refine (rwrong_any _ _ _ _).mono ?_
            rintro e w3 ⟨rfl, hb⟩
            replace hS := hS.later hb
            clear hb
            go_wp2
            go_ret
            exact ⟨rfl, hS.bel⟩
        · have hwa' : (wrongE ka na 1000 != 0) = true := by simpa using hwa
          go_wp2_with fail
          refine (rwrong_any _ _ _ _).mono ?_
          rintro e w2 ⟨rfl, hb⟩
          replace hS := hS.later hb
          clear hb
          go_wp2
          go_ret
          exact ⟨rfl, hS.bel⟩

theorem open_V2 {H : Type} {enc : TypeId × Value → H} {W : World} {r : Reach} {base lo : Nat} {sp : Nat → Bool} {held : Bool} {v : Value} {d : DataW H} {p : List MemPlace} (hok : Value.okWide Try.prog W r base 24 v) (h : DataW.Trod enc Try.prog W lo sp held 24 v d p) : ∃ k n, v = V2 k n := by
  obtain ⟨c0, c1, y0, y1, m, rfl, rfl, rfl, hy0, hy1⟩ := Joins.open_agg2 Try.underlying24 (by kernel_rfl) cells24 hok h
  obtain ⟨a, e0, -, -⟩ := DataW.trod_int Try.underlying3 hy0
  obtain ⟨b, e1, -, -⟩ := DataW.trod_int Try.underlying3 hy1
  simp at e0 e1
  subst e0 e1
  exact ⟨a, b, rfl⟩

set_option maxRecDepth 100000 in
theorem tells_lifted (os : Os) (started : os.Started) (H : Type) (enc : TypeId × Value → H) :
    ReturnsInHanded {} Try.checked os 3 .any (Rows.valueTellsSpec.pre6 enc Try.prog Try.f3 Rows.valueTellsRow.domain false) (Rows.valueTellsSpec.post enc Try.prog Try.f3 false true false false) := by
  refine returnsInHanded_of_change_sized (C := Try.checked) own started (by kernel_rfl) Try.func3
    (ChangeSpec.witness6 (enc := enc) (C := Try.checked) false ⟨#[], #[.slice none 0 0, V2 0 0, .int .i64 0, .int .i64 0, .int .i64 0, .int .i64 0, V2 0 0, V2 0 0], []⟩ 8 (by kernel_rfl) (by kernel_rfl) (by kernel_rfl) (by kernel_rfl)) ?_
  intro W base args ds gs before hval0 hW hcnd hsz0 _
  have hval : ∀ (j : Nat) t v, Try.f3.params[j]? = some t → args[j]? = some v → Value.okWide Try.prog W .any base t v := hval0
  have hsz : (DataW.weightsEach Try.prog (Try.f3.params.toList ++ Rows.valueTellsSpec.plain.varTypes Try.prog) (ds ++ gs)).all (· ≤ reachBytes) = true := hsz0
  have hW' := hW
  obtain ⟨p, q, hA0, hV, rfl, hfz, hnd⟩ := hW
  have hA : DataW.TrodAll enc Try.prog W 0 (fun _ => true) true Try.f3.params.toList args.toList ds p := hA0
  rw [Try.params3] at hA hval hsz
  obtain ⟨v0, vs0, d0, ds0, p0, q0, hargs, rfl, rfl, h0, r0⟩ := trodAll_cons hA
  obtain ⟨v1, vs1, d1, ds1, p1, q1, rfl, rfl, rfl, h1, r1⟩ := trodAll_cons r0
  obtain ⟨v2, vs2, d2, ds2, p2, q2, rfl, rfl, rfl, h2, r2⟩ := trodAll_cons r1
  obtain ⟨v3, vs3, d3, ds3, p3, q3, rfl, rfl, rfl, h3, r3⟩ := trodAll_cons r2
  obtain ⟨v4, vs4, d4, ds4, p4, q4, rfl, rfl, rfl, h4, r4⟩ := trodAll_cons r3
  obtain ⟨v5, vs5, d5, ds5, p5, q5, rfl, rfl, rfl, h5, r5⟩ := trodAll_cons r4
  obtain ⟨v6, vs6, d6, ds6, p6, q6, rfl, rfl, rfl, h6, r6⟩ := trodAll_cons r5
  obtain ⟨v7, vs7, d7, ds7, p7, q7, rfl, rfl, rfl, h7, r7⟩ := trodAll_cons r6
  obtain ⟨rfl, rfl, rfl⟩ := trodAll_nil r7
  obtain rfl : args = #[v0, v1, v2, v3, v4, v5, v6, v7] := by cases args; simp_all
  obtain ⟨rfl, rfl⟩ := trodVars_none hV
  have lt : ∀ {t : TypeId} {v : Value} {d : DataW H} {p : List MemPlace}, DataW.Trod enc Try.prog W 0 (fun _ => true) true t v d p → ∀ x ∈ p, x.block < W.heap.size := fun h => by obtain ⟨m, hm⟩ := h; exact DataW.trod_lt m _ _ _ hm
  obtain ⟨a0, len0, cap0, rfl⟩ := okWide_slice Try.underlying22 (hval 0 22 v0 rfl rfl)
  obtain ⟨hs, hh⟩ : ∃ hs, IsHeap 0 W (.slice a0 len0 cap0) hs := by
    obtain ⟨fuel, hf⟩ := h0
    refine read_heap (by simpa [Value.cells] using hf) fun n hn => ?_
    have := List.all_eq_true.1 hsz _ (DataW.weights_mem_each (j := 0) (t := 22) rfl rfl n hn)
    exact of_decide_eq_true this
  obtain ⟨kv, nv, rfl⟩ := open_V2 (hval 1 24 v1 rfl rfl) h1
  have k2 := h2
  have k3 := h3
  have k4 := h4
  have k5 := h5
  obtain ⟨a2, rfl, -, -, -⟩ := open_int Try.underlying3 (hval 2 3 v2 rfl rfl) h2
  obtain ⟨a3, rfl, -, -, -⟩ := open_int Try.underlying3 (hval 3 3 v3 rfl rfl) h3
  obtain ⟨a4, rfl, -, -, -⟩ := open_int Try.underlying3 (hval 4 3 v4 rfl rfl) h4
  obtain ⟨a5, rfl, -, -, -⟩ := open_int Try.underlying3 (hval 5 3 v5 rfl rfl) h5
  obtain ⟨ka, na, rfl⟩ := open_V2 (hval 6 24 v6 rfl rfl) h6
  obtain ⟨kb, nb, rfl⟩ := open_V2 (hval 7 24 v7 rfl rfl) h7
  clear hA0 hval0
  refine (tells_walk hs _ kv nv a2 a3 a4 a5 ka na kb nb W hh).mono fun e W' ⟨he, bel⟩ => ?_
  subst he
  have again : ∀ {t : TypeId} {v : Value} {d : DataW H} {p : List MemPlace}, Try.prog.readableRec t = true → t < Try.prog.types.size → DataW.Trod enc Try.prog W 0 (fun _ => true) true t v d p → DataW.Trod enc Try.prog W' 0 (fun b => decide (b < W.heap.size)) true t v d p := fun hr ht h => Below.trod laidOut hr ht h bel (lt h)
  exact ⟨_, rfl, _, _, _, [], _, [], hW', trodAll_mk1 (shut_bool Try.underlying4 _), (trodAll_cons_mk (again (by kernel_rfl) (of_decide_eq_true (by kernel_rfl)) h0) (trodAll_cons_mk (again (by kernel_rfl) (of_decide_eq_true (by kernel_rfl)) h1) (trodAll_cons_mk (again (by kernel_rfl) (of_decide_eq_true (by kernel_rfl)) k2) (trodAll_cons_mk (again (by kernel_rfl) (of_decide_eq_true (by kernel_rfl)) k3) (trodAll_cons_mk (again (by kernel_rfl) (of_decide_eq_true (by kernel_rfl)) k4) (trodAll_cons_mk (again (by kernel_rfl) (of_decide_eq_true (by kernel_rfl)) k5) (trodAll_cons_mk (again (by kernel_rfl) (of_decide_eq_true (by kernel_rfl)) h6) (trodAll_cons_mk (again (by kernel_rfl) (of_decide_eq_true (by kernel_rfl)) h7) trodAll_mk0)))))))), rfl, bel.frame _, fun h => by cases h⟩

theorem tells_over : Rows.valueTellsRow.holds Try.pinned (OpenSpec.ofChange Rows.valueTellsSpec) :=
  OpenClaim.holds_of_wide 3 Try.f3 rfl rfl rfl rfl rfl rfl rfl ⟨rfl, rfl, rfl, rfl, rfl⟩ rfl rfl rfl rfl rfl (by kernel_rfl) Try.func3 (by kernel_rfl)
    (of_decide_eq_true (by kernel_rfl)) (by unfold Func.isWrapper; first | (rw [if_pos (by decide +kernel)]; kernel_rfl) | (rw [if_neg (by decide +kernel)]; exact ⟨rfl, rfl⟩))
    (fun os started H enc _ => tells_lifted os started H enc)

/-- The statement. -/
theorem valueTells_holds : Rows.ValueTellsSaid := tells_over
#print axioms valueTells_holds

end Go.Proofs.Ytlmejfipgingeaa
