/- Sites; where a frame begins; else. -/
import Derived.Test.YtdfbgpiikeheiaaZh
namespace Go.Proofs.Ytdfbgpiikeheiaa
open Go.ChangeShapes Go.WideShapes Go.ChangeAt Go.RowKit
set_option linter.unusedSimpArgs false
set_option linter.unusedVariables false
set_option maxRecDepth 8000

section
variable {σ : Type} {p : Mp σ} {T T' : Nat → Nat} {w w' : World} {mb : Nat} {m m' : Mc σ} {calls calls' : Int} {hv : Value} {g : Nat} {s : Nat → Nat} {K fb : Nat} {f : Fr} {cv av tv sv kv : Value}
set_option maxHeartbeats 1000000 in
theorem site_any (h : FrAt T K w fb f cv av tv sv kv) (a : Int) (x : QI) : Calls Try.prog 123 #[.pointer (some ⟨fb, 0, none⟩), .int .i64 a, IV x] w fun e w' => e = .returned (SV (f.site a x)) ∧ Below w.heap.size w w' := by
  have hlt := blk_lt h.box
  have hb2 := bel2 w (.cells #[.int .i64 x.op, .int .i64 x.a, .int .i64 x.b, .int .i64 x.c, .string x.name] 59) (.cells #[.int .i64 0, .string ⟨#[]⟩, .int .i64 0] 42)
  have h2 := h.later hb2
  have x3 : ((w.alloc (.cells #[.int .i64 x.op, .int .i64 x.a, .int .i64 x.b, .int .i64 x.c, .string x.name] 59)).alloc (.cells #[.int .i64 0, .string ⟨#[]⟩, .int .i64 0] 42)).cell? ⟨w.heap.size, 3, none⟩ = some (.int .i64 x.c) := cell_later (bel1 _ _) (cell_new _ _ _ _ rfl 3)
  have r0 : ((w.alloc (.cells #[.int .i64 x.op, .int .i64 x.a, .int .i64 x.b, .int .i64 x.c, .string x.name] 59)).alloc (.cells #[.int .i64 0, .string ⟨#[]⟩, .int .i64 0] 42)).cell? ⟨w.heap.size + 1, 0, none⟩ = some (.int .i64 0) := cell_new _ _ _ _ (by simp) 0
  have r1 : ((w.alloc (.cells #[.int .i64 x.op, .int .i64 x.a, .int .i64 x.b, .int .i64 x.c, .string x.name] 59)).alloc (.cells #[.int .i64 0, .string ⟨#[]⟩, .int .i64 0] 42)).cell? ⟨w.heap.size + 1, 1, none⟩ = some (.string ⟨#[]⟩) := cell_new _ _ _ _ (by simp) 1
  have r2 : ((w.alloc (.cells #[.int .i64 x.op, .int .i64 x.a, .int .i64 x.b, .int .i64 x.c, .string x.name] 59)).alloc (.cells #[.int .i64 0, .string ⟨#[]⟩, .int .i64 0] 42)).cell? ⟨w.heap.size + 1, 2, none⟩ = some (.int .i64 0) := cell_new _ _ _ _ (by simp) 2
  have rf : ∀ o, ((w.alloc (.cells #[.int .i64 x.op, .int .i64 x.a, .int .i64 x.b, .int .i64 x.c, .string x.name] 59)).alloc (.cells #[.int .i64 0, .string ⟨#[]⟩, .int .i64 0] 42)).frozen? ⟨w.heap.size + 1, o, none⟩ = false := fun o => row_free (cur := #[.int .i64 0, .string ⟨#[]⟩, .int .i64 0]) (t := 42) (by have := heap_alloc_new (w.alloc (.cells #[.int .i64 x.op, .int .i64 x.a, .int .i64 x.b, .int .i64 x.c, .string x.name] 59)) (.cells #[.int .i64 0, .string ⟨#[]⟩, .int .i64 0] 42); simpa using this) o
  clear h
  go_enter Try.func123, Try.ntmps123
  go_upto_region 1 with (fail)
  generalize ((w.alloc (.cells #[.int .i64 x.op, .int .i64 x.a, .int .i64 x.b, .int .i64 x.c, .string x.name] 59)).alloc (.cells #[.int .i64 0, .string ⟨#[]⟩, .int .i64 0] 42)) = W at *
  have c0 : W.cell? ⟨fb, 0, none⟩ = some (.int .i64 f.cls) := by rw [cell_of_row _ _ _ _ _ _ h2.box]; rfl
  have c1 : W.cell? ⟨fb, 1, none⟩ = some (.string f.meth.name) := by rw [cell_of_row _ _ _ _ _ _ h2.box]; rfl
  have c13 : W.cell? ⟨fb, 13, none⟩ = some (.bool f.fast) := by rw [cell_of_row _ _ _ _ _ _ h2.box]; rfl
  have hne : ¬ fb = w.heap.size + 1 := by omega
  have hne' : ¬ w.heap.size + 1 = fb := by omega
  have HB := hid hb2
  clear h2 hb2
  cases hf : f.fast with
  | false =>
    have HS : Hid (f.site a x = ⟨f.cls, f.meth.name, a⟩) := by show _ = _; unfold Fr.site; rw [hf]; rfl
    rw [hf] at c13
    go_wp2
    go_region
    all_goals (
      go_wp2
      refine bodyPost_ret (v := SV ⟨f.cls, f.meth.name, a⟩) ?_ rfl ⟨by rw [HS.out], (((HB.out.setCell (by simp) _).setCell (by simp) _).setCell (by simp) _).drew⟩
      simp [results, Try.results123, go_sem, r0, r1, r2])
  | true =>
    have HS : Hid (f.site a x = ⟨f.cls, f.meth.name, x.c⟩) := by show _ = _; unfold Fr.site; rw [hf]; rfl
    rw [hf] at c13
    go_wp2
    go_region
    all_goals (
      go_wp2
      refine bodyPost_ret (v := SV ⟨f.cls, f.meth.name, x.c⟩) ?_ rfl ⟨by rw [HS.out], (((HB.out.setCell (by simp) _).setCell (by simp) _).setCell (by simp) _).drew⟩
      simp [results, Try.results123, go_sem, r0, r1, r2])

abbrev FaV (c : Int) (nm : ByteArray) (e t : Int) (kv : Value) : Value := .agg #[.int .i64 c, .string nm, .int .i64 e, .int .i64 t, kv]
theorem fb_begin (h : w.heap[fb]? = some (FB f cv av tv sv kv)) (tv' kv' : Value) (t : List QV) (c : List QI) : ((w.setCell ⟨fb, 11, none⟩ kv').setCell ⟨fb, 9, none⟩ tv').heap[fb]? = some (FB { f with temps := t, code := c } cv av tv' sv kv') := by
  rw [setCell_same (setCell_same h _)]; rfl
theorem fb_beginF (h : w.heap[fb]? = some (FB f cv av tv sv kv)) (tv' kv' : Value) (t : List QV) (c : List QI) : (((w.setCell ⟨fb, 11, none⟩ kv').setCell ⟨fb, 9, none⟩ tv').setCell ⟨fb, 13, none⟩ (.bool true)).heap[fb]? = some (FB { f with temps := t, code := c, fast := true } cv av tv' sv kv') := by
  rw [setCell_same (setCell_same (setCell_same h _) _)]; rfl
/-- A frame before it begins. -/
structure FrNew (T : Nat → Nat) (K : Nat) (w : World) (fb : Nat) (f : Fr) (cv av : Value) : Prop where
  box : w.heap[fb]? = some (FB f cv av (.slice none 0 0) (.slice none 0 0) (.slice none 0 0))
  tag : T fb = K
  args : IsVals (Fx T w) w av f.args
  meth : IsCode (Fx T w) w cv f.meth.code
  pos : 5 ≤ K
  stack : f.stack = []
theorem roomsE_len (n : Int) : (roomsE n).length ≤ 40 := by unfold roomsE; simp; omega
/-- What begin leaves. -/
theorem FrNew.begun {w1 w2 : World} {tb : Nat} {t : List QV} {c : List QI} {fl : Bool} (h : FrNew T K w fb f cv av) (hb : Below w.heap.size w w1) (htb : w1.heap[tb]? = some (.cells (vcells t).toArray 27 (0, 0))) (hl : t.length ≤ 40) (hg : w.heap.size ≤ tb) (k : Kp (fun t => t = 1) (fun b => if b = fb then 1 else 0) w1 w2) (hx : w2.heap[fb]? = some (FB { f with temps := t, code := c, fast := fl } cv av (.slice (some ⟨tb, 0, none⟩) t.length t.length) (.slice none 0 0) kv)) (hk : IsCode (Fx T w) w kv c) :
    ∃ T', Ext T T' w ∧ FrAt T' K w2 fb { f with temps := t, code := c, fast := fl } cv av (.slice (some ⟨tb, 0, none⟩) t.length t.length) (.slice none 0 0) kv ∧ Kp (fun t => t = K) T w w2 := by
  have hlt := blk_lt h.box
  have hp := h.pos
  have e : Ext T (tag1 T tb (K + 1)) w := tag1_ext hg
  have kw : Kp (fun t => t = K) T w w2 := ⟨k.os.trans hb.os, k.tape.trans hb.tape, k.output.trans hb.output, Nat.le_trans hb.size k.size, fun b hb1 hs => by
    rw [k.blk b (Nat.lt_of_lt_of_le hb1 hb.size) (by have : b ≠ fb := fun e => hs (by rw [e]; exact h.tag); simp [this]), hb.block b hb1]⟩
  refine ⟨tag1 T tb (K + 1), e, ⟨hx, by rw [e _ hlt]; exact h.tag, h.args.fx goodV e kw (by omega), ⟨tb, rfl, ?_, tag1_self _ _ _, hl⟩, ?_, (fun g hg => by cases hg), ?_, hk.fx goodI e kw (by omega), h.meth.fx goodI e kw (by omega), hp⟩, kw⟩
  · exact k.held htb (by have : tb ≠ fb := by omega
                         simp [this])
  · show ownsAt w2 0 27 2 _ f.stack.length (vcells f.stack)
    rw [h.stack]
    exact ⟨rfl, Or.inl ⟨rfl, rfl⟩⟩
  · show f.stack.length ≤ _
    rw [h.stack]; simp

set_option maxHeartbeats 1000000 in
theorem begin_plain (h : FrNew T K w fb f cv av) (hf : f.fast = false) (qv : Value) (qc : Int) (qn : ByteArray) (qe qt : Int) : Calls Try.prog 83 #[.pointer (some ⟨fb, 0, none⟩), FaV qc qn qe qt qv, .bool false] w fun e w' => e = .returned (.tuple #[]) ∧ ∃ T' tv sv kv, Ext T T' w ∧ FrAt T' K w' fb { f with temps := roomsE f.meth.temps, code := f.meth.code, fast := false } cv av tv sv kv ∧ Kp (fun t => t = K) T w w' := by
  have hlt := blk_lt h.box
  have hb1 : Below w.heap.size w (w.alloc (.cells #[.int .i64 qc, .string qn, .int .i64 qe, .int .i64 qt, qv] 62)).drew := (bel1 _ _).drew
  have hx := box_later' h.box hb1
  have hS0 : (w.alloc (.cells #[.int .i64 qc, .string qn, .int .i64 qe, .int .i64 qt, qv] 62)).drew.cell? ⟨fb, 5, none⟩ = some cv ∧ (w.alloc (.cells #[.int .i64 qc, .string qn, .int .i64 qe, .int .i64 qt, qv] 62)).drew.cell? ⟨fb, 3, none⟩ = some (.int .i64 f.meth.temps) := ⟨by rw [cell_of_row _ _ _ _ _ _ hx]; rfl, by rw [cell_of_row _ _ _ _ _ _ hx]; rfl⟩
  obtain ⟨a, cap, rfl, -⟩ := id h.meth
  have H := hid h
  have HX := hid hx
  have HB := hid hb1
  have HFF : Hid (∀ t c, ({ f with temps := t, code := c } : Fr) = { f with temps := t, code := c, fast := false }) := fun t c => by rw [hf]
  clear h hx hb1 hf
  go_enter Try.func83, Try.ntmps83
  go_upto_region 1 with (fail)
  generalize (w.alloc (.cells #[.int .i64 qc, .string qn, .int .i64 qe, .int .i64 qt, qv] 62)) = W at *
  go_wp2
  go_region_held3 (fun w' => w'.cell? ⟨fb, 5, none⟩ = some (.slice a f.meth.code.length cap) ∧ w'.cell? ⟨fb, 3, none⟩ = some (.int .i64 f.meth.temps))
    (first | with_reducible exact hS0 | with_reducible exact hS1 | exact ⟨(World.cell?_setCell_other _ _ _ _ (by simp)).trans hS1.1, (World.cell?_setCell_other _ _ _ _ (by simp)).trans hS1.2⟩ | exact ⟨(World.cell?_setCell_other _ _ _ _ (by simp)).trans ((World.cell?_setCell_other _ _ _ _ (by simp)).trans hS1.1), (World.cell?_setCell_other _ _ _ _ (by simp)).trans ((World.cell?_setCell_other _ _ _ _ (by simp)).trans hS1.2)⟩)
    (first | (go_at_call 101; refine (rooms_any f.meth.temps _).mono ?_; rintro e w1 ⟨tb, rfl, htb, hgt, hb1⟩; have hS1 := And.intro (cell_later hb1 hS0.1) (cell_later hb1 hS0.2); have hx1 := box_later' HX.out hb1; have df := row_free hx1; have d11 : w1.cell? ⟨fb, 11, none⟩ = some (.slice none 0 0) := (by rw [cell_of_row _ _ _ _ _ _ hx1]; rfl); have d9 : w1.cell? ⟨fb, 9, none⟩ = some (.slice none 0 0) := (by rw [cell_of_row _ _ _ _ _ _ hx1]; rfl); have HX1 := hid hx1; clear hx1))
  all_goals (
    go_wp2
    have k : Kp (fun t => t = 1) (fun b => if b = fb then 1 else 0) w1 ((w1.setCell ⟨fb, 11, none⟩ (.slice a f.meth.code.length cap)).setCell ⟨fb, 9, none⟩ (.slice (some ⟨tb, 0, none⟩) (roomsE f.meth.temps).length (roomsE f.meth.temps).length)) := ((Kp.refl _ _ _).set (fun _ => by simp) _ _).set (fun _ => by simp) _ _
    have hx2 := fb_begin HX1.out (.slice (some ⟨tb, 0, none⟩) (roomsE f.meth.temps).length (roomsE f.meth.temps).length) (.slice a f.meth.code.length cap) (roomsE f.meth.temps) f.meth.code
    rw [HFF.out (roomsE f.meth.temps) f.meth.code] at hx2
    obtain ⟨T', q1, q2, q3⟩ := H.out.begun (nstep HB.out hb1) htb (roomsE_len _) (Nat.le_trans HB.out.size hgt) k hx2 H.out.meth
    exact bodyPost_end (v := .tuple #[]) (by simp [results, Try.results83, go_sem]) rfl ⟨rfl, T', _, _, _, q1, q2, q3⟩)

set_option maxHeartbeats 1000000 in
theorem begin_fast (h : FrNew T K w fb f cv av) (qv : Value) (qc : Int) (qn : ByteArray) (qe qt : Int) (code : List QI) (hq : IsCode (Fx T w) w qv code) : Calls Try.prog 83 #[.pointer (some ⟨fb, 0, none⟩), FaV qc qn qe qt qv, .bool true] w fun e w' => e = .returned (.tuple #[]) ∧ ∃ T' tv sv kv, Ext T T' w ∧ FrAt T' K w' fb { f with temps := roomsE qt, code := code, fast := true } cv av tv sv kv ∧ Kp (fun t => t = K) T w w' := by
  have hlt := blk_lt h.box
  have hb1 : Below w.heap.size w (w.alloc (.cells #[.int .i64 qc, .string qn, .int .i64 qe, .int .i64 qt, qv] 62)).drew := (bel1 _ _).drew
  have hx := box_later' h.box hb1
  have hS0 : (w.alloc (.cells #[.int .i64 qc, .string qn, .int .i64 qe, .int .i64 qt, qv] 62)).drew.cell? ⟨w.heap.size, 4, none⟩ = some qv ∧ (w.alloc (.cells #[.int .i64 qc, .string qn, .int .i64 qe, .int .i64 qt, qv] 62)).drew.cell? ⟨w.heap.size, 3, none⟩ = some (.int .i64 qt) := ⟨cell_new w #[.int .i64 qc, .string qn, .int .i64 qe, .int .i64 qt, qv] 62 _ rfl 4, cell_new w #[.int .i64 qc, .string qn, .int .i64 qe, .int .i64 qt, qv] 62 _ rfl 3⟩
  have H := hid h
  have HX := hid hx
  have HB := hid hb1
  have HQ := hid hq
  have hne : ¬ w.heap.size = fb := by omega
  have hne' : ¬ fb = w.heap.size := by omega
  obtain ⟨a, cap, rfl, -⟩ := id hq
  clear h hx hb1 hq
  go_enter Try.func83, Try.ntmps83
  go_upto_region 1 with (fail)
  generalize (w.alloc (.cells #[.int .i64 qc, .string qn, .int .i64 qe, .int .i64 qt, .slice a code.length cap] 62)) = W at *
  go_wp2
  go_region_held3 (fun w' => w'.cell? ⟨w.heap.size, 4, none⟩ = some (.slice a code.length cap) ∧ w'.cell? ⟨w.heap.size, 3, none⟩ = some (.int .i64 qt))
    (first | with_reducible exact hS0 | with_reducible exact hS1 | exact ⟨(World.cell?_setCell_far _ _ _ _ (by simp; omega)).trans hS1.1, (World.cell?_setCell_far _ _ _ _ (by simp; omega)).trans hS1.2⟩ | exact ⟨(World.cell?_setCell_far _ _ _ _ (by simp; omega)).trans ((World.cell?_setCell_far _ _ _ _ (by simp; omega)).trans hS1.1), (World.cell?_setCell_far _ _ _ _ (by simp; omega)).trans ((World.cell?_setCell_far _ _ _ _ (by simp; omega)).trans hS1.2)⟩ | exact ⟨(World.cell?_setCell_far _ _ _ _ (by simp; omega)).trans ((World.cell?_setCell_far _ _ _ _ (by simp; omega)).trans ((World.cell?_setCell_far _ _ _ _ (by simp; omega)).trans hS1.1)), (World.cell?_setCell_far _ _ _ _ (by simp; omega)).trans ((World.cell?_setCell_far _ _ _ _ (by simp; omega)).trans ((World.cell?_setCell_far _ _ _ _ (by simp; omega)).trans hS1.2))⟩)
    (first | (go_at_call 101; refine (rooms_any qt _).mono ?_; rintro e w1 ⟨tb, rfl, htb, hgt, hb1⟩; have hS1 := And.intro (cell_later hb1 hS0.1) (cell_later hb1 hS0.2); have hx1 := box_later' HX.out hb1; have df := row_free hx1; have d11 : w1.cell? ⟨fb, 11, none⟩ = some (.slice none 0 0) := (by rw [cell_of_row _ _ _ _ _ _ hx1]; rfl); have d9 : w1.cell? ⟨fb, 9, none⟩ = some (.slice none 0 0) := (by rw [cell_of_row _ _ _ _ _ _ hx1]; rfl); have d13 : w1.cell? ⟨fb, 13, none⟩ = some (.bool f.fast) := (by rw [cell_of_row _ _ _ _ _ _ hx1]; rfl); have HX1 := hid hx1; clear hx1))
  all_goals (
    go_wp2
    have k : Kp (fun t => t = 1) (fun b => if b = fb then 1 else 0) w1 (((w1.setCell ⟨fb, 11, none⟩ (.slice a code.length cap)).setCell ⟨fb, 9, none⟩ (.slice (some ⟨tb, 0, none⟩) (roomsE qt).length (roomsE qt).length)).setCell ⟨fb, 13, none⟩ (.bool true)) := (((Kp.refl _ _ _).set (fun _ => by simp) _ _).set (fun _ => by simp) _ _).set (fun _ => by simp) _ _
    have hx2 := fb_beginF HX1.out (.slice (some ⟨tb, 0, none⟩) (roomsE qt).length (roomsE qt).length) (.slice a code.length cap) (roomsE qt) code
    obtain ⟨T', q1, q2, q3⟩ := H.out.begun (nstep HB.out hb1) htb (roomsE_len _) (Nat.le_trans HB.out.size hgt) k hx2 HQ.out
    exact bodyPost_ret (v := .tuple #[]) (by simp [results, Try.results83, go_sem]) rfl ⟨rfl, T', _, _, _, q1, q2, q3⟩)
end
end Go.Proofs.Ytdfbgpiikeheiaa
