/- Package wire: a writer's worlds; Bytes. -/
import Derived.Test.YtjmidhghiahbaaaGreatDoorWf
namespace Go.Proofs.YtjmidhghiahbaaaGreatDoor
open Go.ChangeShapes Go.WideShapes Go.ChangeAt Go.RowKit
set_option linter.unusedSimpArgs false
set_option linter.unusedVariables false
set_option maxRecDepth 8000

/-! ### What lies in memory lies in blocks that are there -/
section
variable {α : Type} {E : Lay α} {sz bytes : Nat} {P : Nat → Prop} {w : World} {v : Value} {xs : List α} {f : Nat → Option Value}
theorem IsRow.lt (G : Good E sz) (hE : ∀ f x, E P w f x → E (fun b => b < w.heap.size) w f x) (h : IsRow E sz bytes P w v xs) : IsRow E sz bytes (fun b => b < w.heap.size) w v xs := by
  obtain ⟨ad, cap, h1, h2, h3, h4, h5⟩ := h
  refine ⟨ad, cap, h1, h2, h3, h4, fun i x hx => ?_⟩
  obtain ⟨b, o, e1, e2, e3⟩ := h5 i x hx
  obtain ⟨u, hu, -⟩ := G.there e3 0 G.pos
  exact ⟨b, o, e1, World.block_lt_of_cell? w _ hu, hE _ _ e3⟩
theorem ltI {x : QI} (h : InstrC P w f x) : InstrC (fun b => b < w.heap.size) w f x := h
theorem ltV {x : QV} (h : ValC P w f x) : ValC (fun b => b < w.heap.size) w f x := h
theorem ltM {x : QM} (h : MethC P w f x) : MethC (fun b => b < w.heap.size) w f x := by
  obtain ⟨h0, h1, h2, h3, h4, v, h5, h6⟩ := h
  exact ⟨h0, h1, h2, h3, h4, v, h5, h6.lt goodI fun _ _ => ltI⟩
theorem ltO {x : QO} (h : ObjC P w f x) : ObjC (fun b => b < w.heap.size) w f x := by
  obtain ⟨h0, v, h5, h6⟩ := h
  exact ⟨h0, v, h5, h6.lt goodV fun _ _ => ltV⟩
theorem ltC {x : QC} (h : ClassC P w f x) : ClassC (fun b => b < w.heap.size) w f x := by
  obtain ⟨h0, h1, h2, h4, v, h5, h6⟩ := h
  exact ⟨h0, h1, h2, h4, v, h5, h6.lt goodM fun _ _ => ltM⟩
end
set_option maxHeartbeats 2000000 in
theorem wworld_any {bt : Nat} {l : List UInt8} {w : World} (X : QW) (cv hv : Value) (h : WrS bt l w) (hC : IsClasses (fun b => b < bt) w cv X.classes) (hH : IsHeap (fun b => b < bt) w hv X.heap) (hx : WorldOkW X) (hs : ∀ c ∈ X.classes, ShortC c) (hlim : l.length + 2000000 ≤ 140737488355328) :
    Calls Tryz.prog 20 #[.pointer (some ⟨bt, 0, none⟩), WV cv hv X.epoch] w fun e w' => e = .returned (.tuple #[]) ∧ WrS bt (l ++ worldW X) w' ∧ WrK bt w w' := by
  obtain ⟨ad, cap, rfl, hl, hcap, hby, hrow⟩ := id hC
  obtain ⟨ah, ch, rfl, hlh, hch, hbh, hrowh⟩ := id hH
  unfold maxLen at hcap hch
  obtain ⟨h1, ⟨h2, h3⟩, h4, h5⟩ := hx
  have l1 := numW_len h1
  have l2 := numW_len (n := X.classes.length) ⟨by omega, by omega⟩
  have l3 := numW_len (n := X.heap.length) ⟨by omega, by omega⟩
  have HT := fun j => manyW_take (enc := classW) h2 (fun y hy => classW_len (h3 y hy) (hs y hy)) j
  have HTA : (manyW classW X.classes).length ≤ 12 * 30000 := by have := HT X.classes.length; rwa [manyW_all] at this
  have HTo := fun j => manyW_take (enc := objW) h4 (fun y hy => objW_len (h5 y hy)) j
  have HE : Hid (l ++ worldW X = l ++ numW X.epoch ++ numW X.classes.length ++ manyW classW X.classes ++ numW X.heap.length ++ manyW objW X.heap) := by show _ = _; unfold worldW listW; simp
  have HOK : Hid (∀ y ∈ X.classes, ClassOkW y ∧ ShortC y) := fun y hy => ⟨h3 y hy, hs y hy⟩
  have HOO : Hid (∀ y ∈ X.heap, ObjOkW y) := h5
  clear h5 hs h3
  generalize l ++ worldW X = R at *
  have hB := wsb_start h #[.slice ad X.classes.length cap, .slice ah X.heap.length ch, .int .i64 X.epoch] 25
  have hne : w.heap.size ≠ bt := by have := h.lt; omega
  clear h
  go_enter Tryz.func20, Tryz.ntmps20
  go_upto_region 1 with (fail)
  generalize (w.alloc (.cells #[.slice ad X.classes.length cap, .slice ah X.heap.length ch, .int .i64 X.epoch] 25)) = W0 at *
  generalize w.heap.size = bi at *
  have hS0 : W0.drew.cell? ⟨bi, 2, none⟩ = some (.int .i64 X.epoch) := hB.drew.c 2
  go_region_held3 (fun w' => w'.cell? ⟨bi, 2, none⟩ = some (.int .i64 X.epoch))
    (first | with_reducible exact hS0 | with_reducible exact hS1)
    (first | (go_at_call 39; refine (wnumber_any (X.epoch) hB.drew.S (h1) (by (try simp only [List.length_append]); omega)).mono ?_; rintro e w1 ⟨rfl, hs1, hk1⟩; have hB1 := hB.drew.step hs1 hk1 (by decide) hne; have hS1 : w1.cell? ⟨bi, 2, none⟩ = some (.int .i64 X.epoch) := hB1.c 2))
  replace hB := hB1
  clear hB1 hS0 hS1 hs1 hk1
  go_wp2_with (fail)
  have hS0 : w1.drew.cell? ⟨bi, 0, none⟩ = some (.slice ad X.classes.length cap) := hB.drew.c 0
  go_region_held3 (fun w' => w'.cell? ⟨bi, 0, none⟩ = some (.slice ad X.classes.length cap))
    (first | with_reducible exact hS0 | with_reducible exact hS1)
    (first | (go_at_call 39; refine (wnumber_any ((X.classes.length : Int)) hB.drew.S (⟨by omega, by omega⟩) (by (try simp only [List.length_append]); omega)).mono ?_; rintro e w2 ⟨rfl, hs1, hk1⟩; have hB1 := hB.drew.step hs1 hk1 (by decide) hne; have hS1 : w2.cell? ⟨bi, 0, none⟩ = some (.slice ad X.classes.length cap) := hB1.c 0))
  replace hB := hB1
  clear hB1 hS0 hS1 hs1 hk1
  have c1 : w2.cell? ⟨bi, 0, none⟩ = some (.slice ad X.classes.length cap) := hB.c 0
  obtain ⟨L, HL⟩ : ∃ L, L = l ++ numW X.epoch ++ numW X.classes.length := ⟨_, rfl⟩
  rw [← HL] at hB HE
  have hLl : L.length ≤ l.length + 100 := by rw [HL]; simp only [List.length_append]; omega
  clear HL l1 l2 h1
  go_wp2_with (fail)
  go_loopg [24] X.classes.length (fun g i wr => ∃ j : Nat, j + g = X.classes.length ∧ i = .int .i64 j ∧ WsB w bt bi #[.slice ad X.classes.length cap, .slice ah X.heap.length ch, .int .i64 X.epoch] 25 (L ++ manyW classW (X.classes.take j)) wr)
  case atStart => exact ⟨0, by omega, rfl, by simpa [manyW] using hB⟩
  case round =>
    clear hB c1
    obtain ⟨j, hg, rfl, hB⟩ := hrel
    by_cases hj : j < X.classes.length
    · have hj1 : (j : Int) < (X.classes.length : Int) := by omega
      have hj0 : (0 : Int) ≤ (j : Int) := by omega
      obtain ⟨y, hy⟩ : ∃ y, X.classes[j]? = some y := ⟨_, List.getElem?_eq_getElem hj⟩
      obtain ⟨b, o, rfl, hbl, v0, v1, v2, hyn, kv, v4, hM⟩ := hrow j y hy
      simp only [Nat.add_zero] at v0
      have kc := fun (o : Nat) => hB.K.bel.cell (p := ⟨b, o, none⟩) hbl
      replace v0 := (kc _).trans v0
      replace v1 := (kc _).trans v1
      replace v2 := (kc _).trans v2
      replace v4 := (kc _).trans v4
      clear kc
      have HY := hid (manyW_succ (enc := classW) hy)
      obtain ⟨hy1, hy2⟩ := HOK.out y (List.mem_of_getElem? hy)
      have hTj := HT j
      obtain ⟨ak, ck, rfl⟩ := hM.get
      have hB2 : WsB w bt bi _ 25 _ (wr.alloc (.cells #[.string y.name, .int .i64 y.super, .int .i64 y.slots, .slice ak y.methods.length ck] 38)) := hB.step (hB.S.later (bel1 _ _)) (WrK.of_below (Nat.le_of_lt hB.S.lt) (bel1 _ _)) (by decide) hne
      have hM2 := hM.keep goodM hB2.K.keeps fun _ h => h
      clear hy hM
      go_wp2_with (go_at_call 40; refine (wclass_any y _ hB2.S hM2 hy1 hy2 (by simp only [List.length_append]; omega)).mono ?_; rintro e w6 ⟨rfl, hs1, hk1⟩; refine Hid.out ?_)
      refine Lib.hid ?_
      have hB3 := hB2.step hs1 hk1 (by decide) hne
      rw [List.append_assoc, ← HY.out] at hB3
      clear hB2 hB hs1 hk1 v0 v1 v2 v4 hM2
      go_wp2
      go_roundg (gk - 1)
      case measure => omega
      case rel => exact ⟨j + 1, by omega, by go_num, hB3⟩
    · obtain rfl : j = X.classes.length := by omega
      rw [manyW_all] at hB
      go_wp2_with (fail)
      have hS0 : wr.drew.cell? ⟨bi, 1, none⟩ = some (.slice ah X.heap.length ch) := hB.drew.c 1
      go_region_held3 (fun w' => w'.cell? ⟨bi, 1, none⟩ = some (.slice ah X.heap.length ch))
        (first | with_reducible exact hS0 | with_reducible exact hS1)
        (first | (go_at_call 39; refine (wnumber_any ((X.heap.length : Int)) hB.drew.S (⟨by omega, by omega⟩) (by (try simp only [List.length_append]); omega)).mono ?_; rintro e w3 ⟨rfl, hs1, hk1⟩; have hB1 := hB.drew.step hs1 hk1 (by decide) hne; have hS1 : w3.cell? ⟨bi, 1, none⟩ = some (.slice ah X.heap.length ch) := hB1.c 1))
      replace hB := hB1
      clear hB1 hS0 hS1 hs1 hk1
      have c1 : w3.cell? ⟨bi, 1, none⟩ = some (.slice ah X.heap.length ch) := hB.c 1
      obtain ⟨L2, HL2⟩ : ∃ L2, L2 = L ++ manyW classW X.classes ++ numW X.heap.length := ⟨_, rfl⟩
      rw [← HL2] at hB HE
      have hLl2 : L2.length ≤ l.length + 500000 := by rw [HL2]; simp only [List.length_append]; omega
      clear HL2 l3 HT HTA hrow
      go_wp2_with (fail)
      go_loopg [42] X.heap.length (fun g i wr => ∃ j : Nat, j + g = X.heap.length ∧ i = .int .i64 j ∧ WsB w bt bi #[.slice ad X.classes.length cap, .slice ah X.heap.length ch, .int .i64 X.epoch] 25 (L2 ++ manyW objW (X.heap.take j)) wr)
      case atStart => exact ⟨0, by omega, rfl, by simpa [manyW] using hB⟩
      case round =>
        clear hB c1
        obtain ⟨j, hg2, rfl, hB⟩ := hrel
        by_cases hj2 : j < X.heap.length
        · have hj1 : (j : Int) < (X.heap.length : Int) := by omega
          have hj0 : (0 : Int) ≤ (j : Int) := by omega
          obtain ⟨y, hy⟩ : ∃ y, X.heap[j]? = some y := ⟨_, List.getElem?_eq_getElem hj2⟩
          obtain ⟨b, o, rfl, hbl, v0, kv, v4, hM⟩ := hrowh j y hy
          simp only [Nat.add_zero] at v0
          have kc := fun (o : Nat) => hB.K.bel.cell (p := ⟨b, o, none⟩) hbl
          replace v0 := (kc _).trans v0
          replace v4 := (kc _).trans v4
          clear kc
          have HY := hid (manyW_succ (enc := objW) hy)
          have hy1 := HOO.out y (List.mem_of_getElem? hy)
          have hTj := HTo j
          obtain ⟨ak, ck, rfl⟩ := hM.get
          have hB2 : WsB w bt bi _ 25 _ (wr.alloc (.cells #[.int .i64 y.cls, .slice ak y.slots.length ck] 49)) := hB.step (hB.S.later (bel1 _ _)) (WrK.of_below (Nat.le_of_lt hB.S.lt) (bel1 _ _)) (by decide) hne
          have hM2 := hM.keep goodV hB2.K.keeps fun _ h => h
          clear hy hM
          go_wp2_with (go_at_call 41; refine (wobject_any y _ hB2.S hM2 hy1 (by simp only [List.length_append]; omega)).mono ?_; rintro e w6 ⟨rfl, hs1, hk1⟩; refine Hid.out ?_)
          refine Lib.hid ?_
          have hB3 := hB2.step hs1 hk1 (by decide) hne
          rw [List.append_assoc, ← HY.out] at hB3
          clear hB2 hB hs1 hk1 v0 v4 hM2
          go_wp2
          go_roundg (gk - 1)
          case measure => omega
          case rel => exact ⟨j + 1, by omega, by go_num, hB3⟩
        · obtain rfl : j = X.heap.length := by omega
          rw [manyW_all] at hB
          go_wp2
          refine bodyPost_end (v := .tuple #[]) (by simp [results, Tryz.results20, go_sem]) rfl ⟨rfl, by rw [HE.out]; exact hB.S, hB.K⟩
theorem own_le {w : World} {B B' : Nat} {v : Value} {n : Nat} {xs : List Value} (h : w.ownsRow B 5 1 v n xs) (hb : B' ≤ B) : w.ownsRow B' 5 1 v n xs := ⟨h.1, h.2.imp id fun ⟨g, cap, cur, e, hg, r⟩ => ⟨g, cap, cur, e, by omega, r⟩⟩
/-- The bytes l, in memory of one's own. -/
def TextAt (w0 w : World) (v : Value) (l : List UInt8) : Prop := ∃ ad cap, v = .slice ad l.length cap ∧ w.ownsRow w0.heap.size 5 1 (.slice ad l.length cap) l.length (Lib.byteCells l)
set_option maxHeartbeats 2000000 in
theorem bytes_any {P : Nat → Prop} (X : QW) (cv hv : Value) (w : World) (hh : IsClasses P w cv X.classes) (hH : IsHeap P w hv X.heap) (hr : rightE X = 0) (hT : Lib.TabIs Tryz.prog w "internal/strconv.uint64pow10" .u64 Lib.pow10Tab) :
    Calls Tryz.prog 6 #[WV cv hv X.epoch] w fun e w' => ∃ v, e = .returned v ∧ TextAt w w' v (worldW X) ∧ Below w.heap.size w w' := by
  have hC := hh.lt goodC fun _ _ => ltC
  have hO := hH.lt goodO fun _ _ => ltO
  have hok := right_wok hr
  have hsh := right_short hr
  obtain ⟨ad, cap, rfl⟩ := hC.get
  obtain ⟨ah, ch, rfl⟩ := hO.get
  have hb1 := bel1 w (Obj.cells #[Value.slice ad X.classes.length cap, Value.slice ah X.heap.length ch, Value.int IntKind.i64 X.epoch] 25)
  have hb2 := bel2 w (Obj.cells #[Value.slice ad X.classes.length cap, Value.slice ah X.heap.length ch, Value.int IntKind.i64 X.epoch] 25) (Obj.cells #[.slice none 0 0] 56)
  have hbx := Below.heap_alloc (w.alloc (Obj.cells #[Value.slice ad X.classes.length cap, Value.slice ah X.heap.length ch, Value.int IntKind.i64 X.epoch] 25)) (Obj.cells #[.slice none 0 0] 56) w.heap.size (by simp)
  rw [heap_alloc_new] at hbx
  have hbw := heap_alloc_new (w.alloc (Obj.cells #[Value.slice ad X.classes.length cap, Value.slice ah X.heap.length ch, Value.int IntKind.i64 X.epoch] 25)) (Obj.cells #[.slice none 0 0] 56)
  rw [show (w.alloc (Obj.cells #[Value.slice ad X.classes.length cap, Value.slice ah X.heap.length ch, Value.int IntKind.i64 X.epoch] 25)).heap.size = w.heap.size + 1 by simp] at hbw
  have hT2 : Tab (w.heap.size) w := Lib.tabBelow_of_tabIs hT
  go_enter Tryz.func6, Tryz.ntmps6
  go_upto_region 2 with (fail)
  have c0 := hid hbx
  have hW : WrS (w.heap.size + 1) [] ((w.alloc (Obj.cells #[Value.slice ad X.classes.length cap, Value.slice ah X.heap.length ch, Value.int IntKind.i64 X.epoch] 25)).alloc (Obj.cells #[.slice none 0 0] 56)) := ⟨⟨none, 0, hbw, World.ownsRow_nil _ _ _ _⟩, Tab.mono (Lib.TabBelow.on hT2 hb2) (by omega)⟩
  have hC2 : IsClasses (fun b => b < w.heap.size + 1) _ _ _ := hC.keep goodC (.of_below hb2) (fun b h => by omega)
  have hO2 : IsHeap (fun b => b < w.heap.size + 1) _ _ _ := hO.keep goodO (.of_below hb2) (fun b h => by omega)
  have d0 := cell_of_row _ _ 0 _ _ _ hbx
  have d1 := cell_of_row _ _ 1 _ _ _ hbx
  have d2 := cell_of_row _ _ 2 _ _ _ hbx
  clear hbx hbw hb1 hC hO hh hH hT c0
  generalize ((w.alloc (Obj.cells #[Value.slice ad X.classes.length cap, Value.slice ah X.heap.length ch, Value.int IntKind.i64 X.epoch] 25)).alloc (Obj.cells #[.slice none 0 0] 56)) = W2 at *
  go_wp2_with (go_at_call 20; refine (wworld_any X _ _ hW hC2 hO2 hok hsh (by simp)).mono ?_; rintro e w3 ⟨rfl, hs3, hk3⟩; refine Hid.out ?_)
  refine Lib.hid ?_
  rw [List.nil_append] at hs3
  obtain ⟨a3, cp3, hb3, ho3⟩ := hs3.ex
  have e0 : w3.cell? ⟨w.heap.size + 1, 0, none⟩ = some (.slice a3 (worldW X).length cp3) := by rw [cell_of_row _ _ _ _ _ _ hb3]; rfl
  have hbel : Below w.heap.size w w3 := hb2.trans (hk3.bel.mono (by omega))
  clear d0 d1 d2 hW hC2 hO2 hk3
  go_wp2
  go_ret
  exact ⟨_, rfl, ⟨a3, cp3, rfl, own_le ho3 (by omega)⟩, hbel⟩
end Go.Proofs.YtjmidhghiahbaaaGreatDoor
