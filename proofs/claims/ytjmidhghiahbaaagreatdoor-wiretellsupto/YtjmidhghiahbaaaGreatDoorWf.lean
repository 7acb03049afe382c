/- Package wire: a writer's instructions, objects, methods, classes, worlds; Bytes. -/
import Derived.Test.YtjmidhghiahbaaaGreatDoorWe
import Derived.Test.YtjmidhghiahbaaaGreatDoorWd
import Derived.Test.YtjmidhghiahbaaaGreatDoorCh
namespace Go.Proofs.YtjmidhghiahbaaaGreatDoor
open Go.ChangeShapes Go.WideShapes Go.ChangeAt Go.RowKit
set_option linter.unusedSimpArgs false
set_option linter.unusedVariables false
set_option maxRecDepth 8000

theorem WrS.drew {bt : Nat} {l : List UInt8} {w : World} (h : WrS bt l w) : WrS bt l w.drew := h.later (Below.refl _ _).drew
/-- What a call of a writer's holds: its argument's box, the writer, what is kept. -/
structure WsB (w : World) (bt bi : Nat) (cs : Array Value) (t : TypeId) (l : List UInt8) (w' : World) : Prop where
  box : w'.heap[bi]? = some (.cells cs t (0, 0))
  S : WrS bt l w'
  K : WrK bt w w'
theorem WsB.drew {w : World} {bt bi : Nat} {cs : Array Value} {t : TypeId} {l : List UInt8} {w' : World} (h : WsB w bt bi cs t l w') : WsB w bt bi cs t l w'.drew := ⟨h.box, h.S.drew, h.K.drew⟩
theorem WsB.step {w : World} {bt bi : Nat} {cs : Array Value} {t : TypeId} {l l' : List UInt8} {w' w2 : World} (h : WsB w bt bi cs t l w') (hs : WrS bt l' w2) (hk : WrK bt w' w2) (ht : t ≠ 5) (hne : bi ≠ bt) : WsB w bt bi cs t l' w2 :=
  ⟨hk.cell h.box hne ht, hs, h.K.trans hk⟩
theorem wsb_start {w : World} {bt : Nat} {l : List UInt8} (h : WrS bt l w) (cs : Array Value) (t : TypeId) : WsB w bt w.heap.size cs t l (w.alloc (.cells cs t)) :=
  ⟨heap_alloc_new w _, h.later (bel1 _ _), WrK.of_below (Nat.le_of_lt h.lt) (bel1 _ _)⟩
theorem WsB.c {w : World} {bt bi : Nat} {cs : Array Value} {t : TypeId} {l : List UInt8} {w' : World} (h : WsB w bt bi cs t l w') (o : Nat) : w'.cell? ⟨bi, o, none⟩ = cs[o]? := cell_of_row _ _ _ _ _ _ h.box
set_option maxHeartbeats 1000000 in
theorem winstr_any {bt : Nat} {l : List UInt8} {w : World} (x : QI) (h : WrS bt l w) (hx : InstrOk x) (hlim : l.length + x.name.size + 200 ≤ 140737488355328) :
    Calls Tryz.prog 75 #[.pointer (some ⟨bt, 0, none⟩), IV x] w fun e w' => e = .returned (.tuple #[]) ∧ WrS bt (l ++ instrW x) w' ∧ WrK bt w w' := by
  obtain ⟨h1, h2, -, -, h5⟩ := hx
  have hl1 := numW_len h1
  have hl2 := numW_len h2
  have hB := wsb_start h #[.int .i64 x.op, .int .i64 x.a, .int .i64 x.b, .int .i64 x.c, .string x.name] 62
  have hne : w.heap.size ≠ bt := by have := h.lt; omega
  clear h
  go_enter Tryz.func75, Tryz.ntmps75
  go_upto_region 1 with (fail)
  generalize (w.alloc (.cells #[.int .i64 x.op, .int .i64 x.a, .int .i64 x.b, .int .i64 x.c, .string x.name] 62)) = W0 at *
  generalize w.heap.size = bi at *
  have hS0 : W0.drew.cell? ⟨bi, 0, none⟩ = some (.int .i64 x.op) := hB.drew.c 0
  go_region_held3 (fun w' => w'.cell? ⟨bi, 0, none⟩ = some (.int .i64 x.op))
    (first | with_reducible exact hS0 | with_reducible exact hS1)
    (first | (go_at_call 39; refine (wnumber_any x.op hB.drew.S h1 (by omega)).mono ?_; rintro e w1 ⟨rfl, hs1, hk1⟩; have hB1 := hB.drew.step hs1 hk1 (by decide) hne; have hS1 : w1.cell? ⟨bi, 0, none⟩ = some (.int .i64 x.op) := hB1.c 0))
  clear hB hS0 hS1 hs1 hk1
  go_wp2_with (fail)
  have hS0 : w1.drew.cell? ⟨bi, 1, none⟩ = some (.int .i64 x.a) := hB1.drew.c 1
  go_region_held3 (fun w' => w'.cell? ⟨bi, 1, none⟩ = some (.int .i64 x.a))
    (first | with_reducible exact hS0 | with_reducible exact hS1)
    (first | (go_at_call 39; refine (wnumber_any x.a hB1.drew.S h2 (by rw [List.length_append]; omega)).mono ?_; rintro e w2 ⟨rfl, hs1, hk1⟩; have hB2 := hB1.drew.step hs1 hk1 (by decide) hne; have hS1 : w2.cell? ⟨bi, 1, none⟩ = some (.int .i64 x.a) := hB2.c 1))
  clear hB1 hS0 hS1 hs1 hk1
  have c0 : w2.cell? ⟨bi, 0, none⟩ = some (.int .i64 x.op) := hB2.c 0
  by_cases h14 : x.op = 14
  · have h14' : (x.op == 14) = true := by simpa using h14
    have HE : Hid (l ++ instrW x = l ++ numW x.op ++ numW x.a ++ wordW x.name) := by show _ = _; unfold instrW; rw [if_pos h14]; simp
    clear h14 h5
    go_wp2_with (fail)
    have hS0 : w2.drew.cell? ⟨bi, 4, none⟩ = some (.string x.name) := hB2.drew.c 4
    go_region_held3 (fun w' => w'.cell? ⟨bi, 4, none⟩ = some (.string x.name))
      (first | with_reducible exact hS0 | with_reducible exact hS1)
      (first | (go_at_call 55; refine (wword_any x.name hB2.drew.S (by rw [List.length_append, List.length_append]; omega)).mono ?_; rintro e w3 ⟨rfl, hs1, hk1⟩; have hB3 := hB2.drew.step hs1 hk1 (by decide) hne; have hS1 : w3.cell? ⟨bi, 4, none⟩ = some (.string x.name) := hB3.c 4))
    clear c0
    go_wp2
    refine bodyPost_end (v := .tuple #[]) (by simp [results, Tryz.results75, go_sem]) rfl ⟨rfl, by rw [HE.out]; exact hB3.S, hB3.K⟩
  · have h14' : (x.op == 14) = false := by simpa using h14
    have HE : Hid (l ++ instrW x = l ++ numW x.op ++ numW x.a) := by show _ = _; unfold instrW; rw [if_neg h14]; simp
    clear h14 h5
    go_wp2
    refine bodyPost_end (v := .tuple #[]) (by simp [results, Tryz.results75, go_sem]) rfl ⟨rfl, by rw [HE.out]; exact hB2.S, hB2.K⟩

theorem manyW_take {α : Type} {enc : α → List UInt8} {k n : Nat} {xs : List α} (hn : xs.length ≤ n) (h : ∀ x ∈ xs, (enc x).length ≤ k) (j : Nat) : (manyW enc (xs.take j)).length ≤ n * k := by
  have h1 := manyW_len (enc := enc) (k := k) (xs := xs.take j) (fun x hx => h x (List.mem_of_mem_take hx))
  have h2 : (xs.take j).length ≤ n := by rw [List.length_take]; omega
  exact Nat.le_trans h1 (Nat.mul_le_mul_right k h2)
theorem manyW_succ {α : Type} {enc : α → List UInt8} {xs : List α} {j : Nat} {x : α} (hx : xs[j]? = some x) : manyW enc (xs.take (j + 1)) = manyW enc (xs.take j) ++ enc x := by
  rw [List.take_add_one, hx]
  simp [manyW]
theorem manyW_all {α : Type} {enc : α → List UInt8} {xs : List α} : manyW enc (xs.take xs.length) = manyW enc xs := by rw [List.take_length]
set_option maxHeartbeats 2000000 in
theorem wmethod_any {bt : Nat} {l : List UInt8} {w : World} (x : QM) (cv : Value) (h : WrS bt l w) (hC : IsCode (fun b => b < bt) w cv x.code) (hx : MethOkW x) (hs : ShortM x) (hlim : l.length + 10000 ≤ 140737488355328) :
    Calls Tryz.prog 56 #[.pointer (some ⟨bt, 0, none⟩), MV x cv] w fun e w' => e = .returned (.tuple #[]) ∧ WrS bt (l ++ methW x) w' ∧ WrK bt w w' := by
  obtain ⟨ad, cap, rfl, hl, hcap, hby, hrow⟩ := id hC
  unfold maxLen at hcap
  obtain ⟨-, h1, h2, h3, h4, h5⟩ := hx
  obtain ⟨hs1, hs2⟩ := hs
  have l1 := numW_len h1
  have l2 := numW_len h2
  have l3 := numW_len h3
  have l4 := numW_len (n := x.code.length) ⟨by omega, by omega⟩
  have l5 := wordW_len x.name
  have HI : Hid (∀ y ∈ x.code, (instrW y).length ≤ 57) := fun y hy => instrW_len (h5 y hy) (hs2 y hy)
  have HT := fun j => manyW_take (enc := instrW) h4 HI.out j
  have HE : Hid (l ++ methW x = l ++ wordW x.name ++ numW x.args ++ numW x.temps ++ numW x.prim ++ numW x.code.length ++ manyW instrW x.code) := by show _ = _; unfold methW listW; simp
  have HOK : Hid (∀ y ∈ x.code, InstrOk y ∧ ShortI y) := fun y hy => ⟨h5 y hy, hs2 y hy⟩
  clear h5 hs2 HI
  generalize l ++ methW x = R at *
  have hB := wsb_start h #[.string x.name, .int .i64 x.args, .int .i64 x.temps, .int .i64 x.prim, .slice ad x.code.length cap] 43
  have hne : w.heap.size ≠ bt := by have := h.lt; omega
  clear h
  go_enter Tryz.func56, Tryz.ntmps56
  go_upto_region 1 with (fail)
  generalize (w.alloc (.cells #[.string x.name, .int .i64 x.args, .int .i64 x.temps, .int .i64 x.prim, .slice ad x.code.length cap] 43)) = W0 at *
  generalize w.heap.size = bi at *
  have hS0 : W0.drew.cell? ⟨bi, 0, none⟩ = some (.string x.name) := hB.drew.c 0
  go_region_held3 (fun w' => w'.cell? ⟨bi, 0, none⟩ = some (.string x.name))
    (first | with_reducible exact hS0 | with_reducible exact hS1)
    (first | (go_at_call 55; refine (wword_any (x.name) hB.drew.S (by (try simp only [List.length_append]); omega)).mono ?_; rintro e w1 ⟨rfl, hs1, hk1⟩; have hB1 := hB.drew.step hs1 hk1 (by decide) hne; have hS1 : w1.cell? ⟨bi, 0, none⟩ = some (.string x.name) := hB1.c 0))
  replace hB := hB1
  clear hB1 hS0 hS1 hs1 hk1
  go_wp2_with (fail)
  have hS0 : w1.drew.cell? ⟨bi, 1, none⟩ = some (.int .i64 x.args) := hB.drew.c 1
  go_region_held3 (fun w' => w'.cell? ⟨bi, 1, none⟩ = some (.int .i64 x.args))
    (first | with_reducible exact hS0 | with_reducible exact hS1)
    (first | (go_at_call 39; refine (wnumber_any (x.args) hB.drew.S (h1) (by (try simp only [List.length_append]); omega)).mono ?_; rintro e w2 ⟨rfl, hs1, hk1⟩; have hB1 := hB.drew.step hs1 hk1 (by decide) hne; have hS1 : w2.cell? ⟨bi, 1, none⟩ = some (.int .i64 x.args) := hB1.c 1))
  replace hB := hB1
  clear hB1 hS0 hS1 hs1 hk1
  go_wp2_with (fail)
  have hS0 : w2.drew.cell? ⟨bi, 2, none⟩ = some (.int .i64 x.temps) := hB.drew.c 2
  go_region_held3 (fun w' => w'.cell? ⟨bi, 2, none⟩ = some (.int .i64 x.temps))
    (first | with_reducible exact hS0 | with_reducible exact hS1)
    (first | (go_at_call 39; refine (wnumber_any (x.temps) hB.drew.S (h2) (by (try simp only [List.length_append]); omega)).mono ?_; rintro e w3 ⟨rfl, hs1, hk1⟩; have hB1 := hB.drew.step hs1 hk1 (by decide) hne; have hS1 : w3.cell? ⟨bi, 2, none⟩ = some (.int .i64 x.temps) := hB1.c 2))
  replace hB := hB1
  clear hB1 hS0 hS1 hs1 hk1
  go_wp2_with (fail)
  have hS0 : w3.drew.cell? ⟨bi, 3, none⟩ = some (.int .i64 x.prim) := hB.drew.c 3
  go_region_held3 (fun w' => w'.cell? ⟨bi, 3, none⟩ = some (.int .i64 x.prim))
    (first | with_reducible exact hS0 | with_reducible exact hS1)
    (first | (go_at_call 39; refine (wnumber_any (x.prim) hB.drew.S (h3) (by (try simp only [List.length_append]); omega)).mono ?_; rintro e w4 ⟨rfl, hs1, hk1⟩; have hB1 := hB.drew.step hs1 hk1 (by decide) hne; have hS1 : w4.cell? ⟨bi, 3, none⟩ = some (.int .i64 x.prim) := hB1.c 3))
  replace hB := hB1
  clear hB1 hS0 hS1 hs1 hk1
  go_wp2_with (fail)
  have hS0 : w4.drew.cell? ⟨bi, 4, none⟩ = some (.slice ad x.code.length cap) := hB.drew.c 4
  go_region_held3 (fun w' => w'.cell? ⟨bi, 4, none⟩ = some (.slice ad x.code.length cap))
    (first | with_reducible exact hS0 | with_reducible exact hS1)
    (first | (go_at_call 39; refine (wnumber_any ((x.code.length : Int)) hB.drew.S (⟨by omega, by omega⟩) (by (try simp only [List.length_append]); omega)).mono ?_; rintro e w5 ⟨rfl, hs1, hk1⟩; have hB1 := hB.drew.step hs1 hk1 (by decide) hne; have hS1 : w5.cell? ⟨bi, 4, none⟩ = some (.slice ad x.code.length cap) := hB1.c 4))
  replace hB := hB1
  clear hB1 hS0 hS1 hs1 hk1
  have c4 : w5.cell? ⟨bi, 4, none⟩ = some (.slice ad x.code.length cap) := hB.c 4
  obtain ⟨L, HL⟩ : ∃ L, L = l ++ wordW x.name ++ numW x.args ++ numW x.temps ++ numW x.prim ++ numW x.code.length := ⟨_, rfl⟩
  rw [← HL] at hB HE
  have hLl : L.length ≤ l.length + 200 := by rw [HL]; simp only [List.length_append]; omega
  clear HL l1 l2 l3 l4 l5 h1 h2 h3
  go_wp2_with (fail)
  go_loopg [40] x.code.length (fun g i wr => ∃ j : Nat, j + g = x.code.length ∧ i = .int .i64 j ∧ WsB w bt bi #[.string x.name, .int .i64 x.args, .int .i64 x.temps, .int .i64 x.prim, .slice ad x.code.length cap] 43 (L ++ manyW instrW (x.code.take j)) wr)
  case atStart => exact ⟨0, by omega, rfl, by simpa [manyW] using hB⟩
  case round =>
    clear hB c4
    obtain ⟨j, hg, rfl, hB⟩ := hrel
    by_cases hj : j < x.code.length
    · have hj1 : (j : Int) < (x.code.length : Int) := by omega
      have hj0 : (0 : Int) ≤ (j : Int) := by omega
      obtain ⟨y, hy⟩ : ∃ y, x.code[j]? = some y := ⟨_, List.getElem?_eq_getElem hj⟩
      obtain ⟨b, o, rfl, hbl, v0, v1, v2, v3, v4, hyn⟩ := hrow j y hy
      simp only [Nat.add_zero] at v0
      have kc := fun (o : Nat) => hB.K.bel.cell (p := ⟨b, o, none⟩) hbl
      replace v0 := (kc _).trans v0
      replace v1 := (kc _).trans v1
      replace v2 := (kc _).trans v2
      replace v3 := (kc _).trans v3
      replace v4 := (kc _).trans v4
      clear kc
      have HY := hid (manyW_succ (enc := instrW) hy)
      obtain ⟨hy1, hy2⟩ := HOK.out y (List.mem_of_getElem? hy)
      have hTj := HT j
      have hB2 : WsB w bt bi _ 43 _ (wr.alloc (.cells #[.int .i64 y.op, .int .i64 y.a, .int .i64 y.b, .int .i64 y.c, .string y.name] 62)) := hB.step (hB.S.later (bel1 _ _)) (WrK.of_below (Nat.le_of_lt hB.S.lt) (bel1 _ _)) (by decide) hne
      unfold ShortI at hy2
      clear hy
      go_wp2_with (go_at_call 75; refine (winstr_any y hB2.S hy1 (by (try simp only [List.length_append]); omega)).mono ?_; rintro e w6 ⟨rfl, hs1, hk1⟩; refine Hid.out ?_)
      refine Lib.hid ?_
      have hB3 := hB2.step hs1 hk1 (by decide) hne
      rw [List.append_assoc, ← HY.out] at hB3
      clear hB2 hB hs1 hk1 v0 v1 v2 v3 v4
      go_wp2
      go_roundg (gk - 1)
      case measure => omega
      case rel => exact ⟨j + 1, by omega, by go_num, hB3⟩
    · obtain rfl : j = x.code.length := by omega
      rw [manyW_all] at hB
      go_wp2
      refine bodyPost_end (v := .tuple #[]) (by simp [results, Tryz.results56, go_sem]) rfl ⟨rfl, by rw [HE.out]; exact hB.S, hB.K⟩
theorem WrK.keeps {bt : Nat} {w w' : World} (h : WrK bt w w') : Keeps (fun b => b < bt) w w' := fun b o v hb hv => (h.bel.cell (p := ⟨b, o, none⟩) hb).trans hv
set_option maxHeartbeats 2000000 in
theorem wclass_any {bt : Nat} {l : List UInt8} {w : World} (x : QC) (mv : Value) (h : WrS bt l w) (hC : IsMeths (fun b => b < bt) w mv x.methods) (hx : ClassOkW x) (hs : ShortC x) (hlim : l.length + 100000 ≤ 140737488355328) :
    Calls Tryz.prog 40 #[.pointer (some ⟨bt, 0, none⟩), CV x mv] w fun e w' => e = .returned (.tuple #[]) ∧ WrS bt (l ++ classW x) w' ∧ WrK bt w w' := by
  obtain ⟨ad, cap, rfl, hl, hcap, hby, hrow⟩ := id hC
  unfold maxLen at hcap
  obtain ⟨-, h1, h2, h4, h5⟩ := hx
  obtain ⟨hs1, hs2⟩ := hs
  have l1 := numW_len h1
  have l2 := numW_len h2
  have l4 := numW_len (n := x.methods.length) ⟨by omega, by omega⟩
  have l5 := wordW_len x.name
  have HI : Hid (∀ y ∈ x.methods, (methW y).length ≤ 3600) := fun y hy => methW_len (h5 y hy) (hs2 y hy)
  have HT := fun j => manyW_take (enc := methW) h4 HI.out j
  have HE : Hid (l ++ classW x = l ++ wordW x.name ++ numW x.super ++ numW x.slots ++ numW x.methods.length ++ manyW methW x.methods) := by show _ = _; unfold classW listW; simp
  have HOK : Hid (∀ y ∈ x.methods, MethOkW y ∧ ShortM y) := fun y hy => ⟨h5 y hy, hs2 y hy⟩
  clear h5 hs2 HI
  generalize l ++ classW x = R at *
  have hB := wsb_start h #[.string x.name, .int .i64 x.super, .int .i64 x.slots, .slice ad x.methods.length cap] 38
  have hne : w.heap.size ≠ bt := by have := h.lt; omega
  clear h
  go_enter Tryz.func40, Tryz.ntmps40
  go_upto_region 1 with (fail)
  generalize (w.alloc (.cells #[.string x.name, .int .i64 x.super, .int .i64 x.slots, .slice ad x.methods.length cap] 38)) = W0 at *
  generalize w.heap.size = bi at *
  have hS0 : W0.drew.cell? ⟨bi, 0, none⟩ = some (.string x.name) := hB.drew.c 0
  go_region_held3 (fun w' => w'.cell? ⟨bi, 0, none⟩ = some (.string x.name))
    (first | with_reducible exact hS0 | with_reducible exact hS1)
    (first | (go_at_call 55; refine (wword_any (x.name) hB.drew.S (by (try simp only [List.length_append]); omega)).mono ?_; rintro e w1 ⟨rfl, hs1, hk1⟩; have hB1 := hB.drew.step hs1 hk1 (by decide) hne; have hS1 : w1.cell? ⟨bi, 0, none⟩ = some (.string x.name) := hB1.c 0))
  replace hB := hB1
  clear hB1 hS0 hS1 hs1 hk1
  go_wp2_with (fail)
  have hS0 : w1.drew.cell? ⟨bi, 1, none⟩ = some (.int .i64 x.super) := hB.drew.c 1
  go_region_held3 (fun w' => w'.cell? ⟨bi, 1, none⟩ = some (.int .i64 x.super))
    (first | with_reducible exact hS0 | with_reducible exact hS1)
    (first | (go_at_call 39; refine (wnumber_any (x.super) hB.drew.S (h1) (by (try simp only [List.length_append]); omega)).mono ?_; rintro e w2 ⟨rfl, hs1, hk1⟩; have hB1 := hB.drew.step hs1 hk1 (by decide) hne; have hS1 : w2.cell? ⟨bi, 1, none⟩ = some (.int .i64 x.super) := hB1.c 1))
  replace hB := hB1
  clear hB1 hS0 hS1 hs1 hk1
  go_wp2_with (fail)
  have hS0 : w2.drew.cell? ⟨bi, 2, none⟩ = some (.int .i64 x.slots) := hB.drew.c 2
  go_region_held3 (fun w' => w'.cell? ⟨bi, 2, none⟩ = some (.int .i64 x.slots))
    (first | with_reducible exact hS0 | with_reducible exact hS1)
    (first | (go_at_call 39; refine (wnumber_any (x.slots) hB.drew.S (h2) (by (try simp only [List.length_append]); omega)).mono ?_; rintro e w3 ⟨rfl, hs1, hk1⟩; have hB1 := hB.drew.step hs1 hk1 (by decide) hne; have hS1 : w3.cell? ⟨bi, 2, none⟩ = some (.int .i64 x.slots) := hB1.c 2))
  replace hB := hB1
  clear hB1 hS0 hS1 hs1 hk1
  go_wp2_with (fail)
  have hS0 : w3.drew.cell? ⟨bi, 3, none⟩ = some (.slice ad x.methods.length cap) := hB.drew.c 3
  go_region_held3 (fun w' => w'.cell? ⟨bi, 3, none⟩ = some (.slice ad x.methods.length cap))
    (first | with_reducible exact hS0 | with_reducible exact hS1)
    (first | (go_at_call 39; refine (wnumber_any ((x.methods.length : Int)) hB.drew.S (⟨by omega, by omega⟩) (by (try simp only [List.length_append]); omega)).mono ?_; rintro e w4 ⟨rfl, hs1, hk1⟩; have hB1 := hB.drew.step hs1 hk1 (by decide) hne; have hS1 : w4.cell? ⟨bi, 3, none⟩ = some (.slice ad x.methods.length cap) := hB1.c 3))
  replace hB := hB1
  clear hB1 hS0 hS1 hs1 hk1
  have c3 : w4.cell? ⟨bi, 3, none⟩ = some (.slice ad x.methods.length cap) := hB.c 3
  obtain ⟨L, HL⟩ : ∃ L, L = l ++ wordW x.name ++ numW x.super ++ numW x.slots ++ numW x.methods.length := ⟨_, rfl⟩
  rw [← HL] at hB HE
  have hLl : L.length ≤ l.length + 200 := by rw [HL]; simp only [List.length_append]; omega
  clear HL l1 l2 l4 l5 h1 h2
  go_wp2_with (fail)
  go_loopg [34] x.methods.length (fun g i wr => ∃ j : Nat, j + g = x.methods.length ∧ i = .int .i64 j ∧ WsB w bt bi #[.string x.name, .int .i64 x.super, .int .i64 x.slots, .slice ad x.methods.length cap] 38 (L ++ manyW methW (x.methods.take j)) wr)
  case atStart => exact ⟨0, by omega, rfl, by simpa [manyW] using hB⟩
  case round =>
    clear hB c3
    obtain ⟨j, hg, rfl, hB⟩ := hrel
    by_cases hj : j < x.methods.length
    · have hj1 : (j : Int) < (x.methods.length : Int) := by omega
      have hj0 : (0 : Int) ≤ (j : Int) := by omega
      obtain ⟨y, hy⟩ : ∃ y, x.methods[j]? = some y := ⟨_, List.getElem?_eq_getElem hj⟩
      obtain ⟨b, o, rfl, hbl, v0, v1, v2, v3, hyn, kv, v4, hM⟩ := hrow j y hy
      simp only [Nat.add_zero] at v0
      have kc := fun (o : Nat) => hB.K.bel.cell (p := ⟨b, o, none⟩) hbl
      replace v0 := (kc _).trans v0
      replace v1 := (kc _).trans v1
      replace v2 := (kc _).trans v2
      replace v3 := (kc _).trans v3
      replace v4 := (kc _).trans v4
      clear kc
      have HY := hid (manyW_succ (enc := methW) hy)
      obtain ⟨hy1, hy2⟩ := HOK.out y (List.mem_of_getElem? hy)
      have hTj := HT j
      obtain ⟨ak, ck, rfl⟩ := hM.get
      have hB2 : WsB w bt bi _ 38 _ (wr.alloc (.cells #[.string y.name, .int .i64 y.args, .int .i64 y.temps, .int .i64 y.prim, .slice ak y.code.length ck] 43)) := hB.step (hB.S.later (bel1 _ _)) (WrK.of_below (Nat.le_of_lt hB.S.lt) (bel1 _ _)) (by decide) hne
      have hM2 := hM.keep goodI hB2.K.keeps fun _ h => h
      clear hy hM
      go_wp2_with (go_at_call 56; refine (wmethod_any y _ hB2.S hM2 hy1 hy2 (by simp only [List.length_append]; omega)).mono ?_; rintro e w6 ⟨rfl, hs1, hk1⟩; refine Hid.out ?_)
      refine Lib.hid ?_
      have hB3 := hB2.step hs1 hk1 (by decide) hne
      rw [List.append_assoc, ← HY.out] at hB3
      clear hB2 hB hs1 hk1 v0 v1 v2 v3 v4 hM2
      go_wp2
      go_roundg (gk - 1)
      case measure => omega
      case rel => exact ⟨j + 1, by omega, by go_num, hB3⟩
    · obtain rfl : j = x.methods.length := by omega
      rw [manyW_all] at hB
      go_wp2
      refine bodyPost_end (v := .tuple #[]) (by simp [results, Tryz.results40, go_sem]) rfl ⟨rfl, by rw [HE.out]; exact hB.S, hB.K⟩
abbrev OV (x : QO) (sv : Value) : Value := .agg #[.int .i64 x.cls, sv]
theorem valW_len {v : QV} (h : ValOk v) : (valW v).length ≤ 44 := by
  have a := numW_len h.1
  have b := numW_len h.2
  unfold valW
  rw [List.length_append]
  omega
set_option maxHeartbeats 2000000 in
theorem wobject_any {bt : Nat} {l : List UInt8} {w : World} (x : QO) (sv : Value) (h : WrS bt l w) (hC : IsVals (fun b => b < bt) w sv x.slots) (hx : ObjOkW x) (hlim : l.length + 1000 ≤ 140737488355328) :
    Calls Tryz.prog 41 #[.pointer (some ⟨bt, 0, none⟩), OV x sv] w fun e w' => e = .returned (.tuple #[]) ∧ WrS bt (l ++ objW x) w' ∧ WrK bt w w' := by
  obtain ⟨ad, cap, rfl, hl, hcap, hby, hrow⟩ := id hC
  unfold maxLen at hcap
  obtain ⟨h1, h4, h5⟩ := hx
  have l1 := numW_len h1
  have l4 := numW_len (n := x.slots.length) ⟨by omega, by omega⟩
  have HI : Hid (∀ y ∈ x.slots, (valW y).length ≤ 44) := fun y hy => valW_len (h5 y hy)
  have HT := fun j => manyW_take (enc := valW) h4 HI.out j
  have HE : Hid (l ++ objW x = l ++ numW x.cls ++ numW x.slots.length ++ manyW valW x.slots) := by show _ = _; unfold objW listW; simp
  have HOK : Hid (∀ y ∈ x.slots, ValOk y) := h5
  clear h5 HI
  generalize l ++ objW x = R at *
  have hB := wsb_start h #[.int .i64 x.cls, .slice ad x.slots.length cap] 49
  have hne : w.heap.size ≠ bt := by have := h.lt; omega
  clear h
  go_enter Tryz.func41, Tryz.ntmps41
  go_upto_region 1 with (fail)
  generalize (w.alloc (.cells #[.int .i64 x.cls, .slice ad x.slots.length cap] 49)) = W0 at *
  generalize w.heap.size = bi at *
  have hS0 : W0.drew.cell? ⟨bi, 0, none⟩ = some (.int .i64 x.cls) := hB.drew.c 0
  go_region_held3 (fun w' => w'.cell? ⟨bi, 0, none⟩ = some (.int .i64 x.cls))
    (first | with_reducible exact hS0 | with_reducible exact hS1)
    (first | (go_at_call 39; refine (wnumber_any (x.cls) hB.drew.S (h1) (by (try simp only [List.length_append]); omega)).mono ?_; rintro e w1 ⟨rfl, hs1, hk1⟩; have hB1 := hB.drew.step hs1 hk1 (by decide) hne; have hS1 : w1.cell? ⟨bi, 0, none⟩ = some (.int .i64 x.cls) := hB1.c 0))
  replace hB := hB1
  clear hB1 hS0 hS1 hs1 hk1
  go_wp2_with (fail)
  have hS0 : w1.drew.cell? ⟨bi, 1, none⟩ = some (.slice ad x.slots.length cap) := hB.drew.c 1
  go_region_held3 (fun w' => w'.cell? ⟨bi, 1, none⟩ = some (.slice ad x.slots.length cap))
    (first | with_reducible exact hS0 | with_reducible exact hS1)
    (first | (go_at_call 39; refine (wnumber_any ((x.slots.length : Int)) hB.drew.S (⟨by omega, by omega⟩) (by (try simp only [List.length_append]); omega)).mono ?_; rintro e w2 ⟨rfl, hs1, hk1⟩; have hB1 := hB.drew.step hs1 hk1 (by decide) hne; have hS1 : w2.cell? ⟨bi, 1, none⟩ = some (.slice ad x.slots.length cap) := hB1.c 1))
  replace hB := hB1
  clear hB1 hS0 hS1 hs1 hk1
  have c1 : w2.cell? ⟨bi, 1, none⟩ = some (.slice ad x.slots.length cap) := hB.c 1
  obtain ⟨L, HL⟩ : ∃ L, L = l ++ numW x.cls ++ numW x.slots.length := ⟨_, rfl⟩
  rw [← HL] at hB HE
  have hLl : L.length ≤ l.length + 200 := by rw [HL]; simp only [List.length_append]; omega
  clear HL l1 l4 h1
  go_wp2_with (fail)
  go_loopg [22] x.slots.length (fun g i wr => ∃ j : Nat, j + g = x.slots.length ∧ i = .int .i64 j ∧ WsB w bt bi #[.int .i64 x.cls, .slice ad x.slots.length cap] 49 (L ++ manyW valW (x.slots.take j)) wr)
  case atStart => exact ⟨0, by omega, rfl, by simpa [manyW] using hB⟩
  case round =>
    clear hB c1
    obtain ⟨j, hg, rfl, hB⟩ := hrel
    by_cases hj : j < x.slots.length
    · have hj1 : (j : Int) < (x.slots.length : Int) := by omega
      have hj0 : (0 : Int) ≤ (j : Int) := by omega
      obtain ⟨y, hy⟩ : ∃ y, x.slots[j]? = some y := ⟨_, List.getElem?_eq_getElem hj⟩
      obtain ⟨b, o, rfl, hbl, v0, v1⟩ := hrow j y hy
      simp only [Nat.add_zero] at v0
      have kc := fun (o : Nat) => hB.K.bel.cell (p := ⟨b, o, none⟩) hbl
      replace v0 := (kc _).trans v0
      replace v1 := (kc _).trans v1
      clear kc
      have HY := hid (manyW_succ (enc := valW) hy)
      obtain ⟨hy1, hy2⟩ := HOK.out y (List.mem_of_getElem? hy)
      have hTj := HT j
      have ly1 := numW_len hy1
      have hV := wsb_start hB.S #[.int .i64 y.k, .int .i64 y.n] 51
      have hnv : wr.heap.size ≠ bt := by have := hB.S.lt; omega
      clear hy
      go_upto_region 6 with (fail)
      generalize (wr.alloc (.cells #[.int .i64 y.k, .int .i64 y.n] 51)) = W3 at *
      generalize wr.heap.size = bv at *
      clear v0 v1
      have hS0 : W3.drew.cell? ⟨bv, 0, none⟩ = some (.int .i64 y.k) := hV.drew.c 0
      go_region_held3 (fun w' => w'.cell? ⟨bv, 0, none⟩ = some (.int .i64 y.k))
        (first | with_reducible exact hS0 | with_reducible exact hS1)
        (first | (go_at_call 39; refine (wnumber_any (y.k) hV.drew.S (hy1) (by (try simp only [List.length_append]); omega)).mono ?_; rintro e w3 ⟨rfl, hs1, hk1⟩; have hB1 := hV.drew.step hs1 hk1 (by decide) hnv; have hS1 : w3.cell? ⟨bv, 0, none⟩ = some (.int .i64 y.k) := hB1.c 0))
      replace hV := hB1
      clear hB1 hS0 hS1 hs1 hk1
      go_wp2_with (fail)
      have hS0 : w3.drew.cell? ⟨bv, 1, none⟩ = some (.int .i64 y.n) := hV.drew.c 1
      go_region_held3 (fun w' => w'.cell? ⟨bv, 1, none⟩ = some (.int .i64 y.n))
        (first | with_reducible exact hS0 | with_reducible exact hS1)
        (first | (go_at_call 39; refine (wnumber_any (y.n) hV.drew.S (hy2) (by (try simp only [List.length_append]); omega)).mono ?_; rintro e w4 ⟨rfl, hs1, hk1⟩; have hB1 := hV.drew.step hs1 hk1 (by decide) hnv; have hS1 : w4.cell? ⟨bv, 1, none⟩ = some (.int .i64 y.n) := hB1.c 1))
      replace hV := hB1
      clear hB1 hS0 hS1 hs1 hk1
      have hB3 := hB.step hV.S hV.K (by decide) hne
      have e2 : L ++ manyW valW (x.slots.take j) ++ numW y.k ++ numW y.n = L ++ manyW valW (x.slots.take (j + 1)) := by rw [HY.out]; unfold valW; simp
      rw [e2] at hB3
      clear hV hB e2
      go_wp2
      go_roundg (gk - 1)
      case measure => omega
      case rel => exact ⟨j + 1, by omega, by go_num, hB3⟩
    · obtain rfl : j = x.slots.length := by omega
      rw [manyW_all] at hB
      go_wp2
      refine bodyPost_end (v := .tuple #[]) (by simp [results, Tryz.results41, go_sem]) rfl ⟨rfl, by rw [HE.out]; exact hB.S, hB.K⟩
end Go.Proofs.YtjmidhghiahbaaaGreatDoor
