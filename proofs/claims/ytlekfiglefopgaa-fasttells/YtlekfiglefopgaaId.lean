/- A piece. -/
import Derived.Test.YtlekfiglefopgaaIc
import Derived.Deep.Light
namespace Go.Proofs.Ytlekfiglefopgaa
open Go.ChangeShapes Go.WideShapes Go.ChangeAt Go.RowKit
set_option linter.unusedSimpArgs false
set_option linter.unusedVariables false
set_option maxRecDepth 8000

/-- The boxes of piece. -/
structure PcB (w : World) (leaf : QM) (kv : Value) (sf args temps first behind : Int) (w' : World) : Prop where
  l1 : w'.cell? ⟨w.heap.size, 1, none⟩ = some (.int .i64 leaf.args)
  l2 : w'.cell? ⟨w.heap.size, 2, none⟩ = some (.int .i64 leaf.temps)
  l4 : w'.cell? ⟨w.heap.size, 4, none⟩ = some kv
  p0 : w'.cell? ⟨w.heap.size + 2, 0, none⟩ = some (.int .i64 sf)
  p1 : w'.cell? ⟨w.heap.size + 2, 1, none⟩ = some (.int .i64 args)
  p2 : w'.cell? ⟨w.heap.size + 2, 2, none⟩ = some (.int .i64 temps)
  p3 : w'.cell? ⟨w.heap.size + 2, 3, none⟩ = some (.int .i64 first)
  p4 : w'.cell? ⟨w.heap.size + 2, 4, none⟩ = some (.int .i64 behind)
theorem cellBel {lo : Nat} {w w' : World} (hb : Below lo w w') {b o : Nat} {v : Value} (hl : b < lo) (h : w.cell? ⟨b, o, none⟩ = some v) : w'.cell? ⟨b, o, none⟩ = some v := by
  unfold World.cell? at h ⊢
  rw [hb.block b hl]
  exact h
theorem PcB.below {w : World} {leaf : QM} {kv : Value} {self args temps first behind : Int} {w' w'' : World} (h : PcB w leaf kv self args temps first behind w') (hb : Below (w.heap.size + 3) w' w'') : PcB w leaf kv self args temps first behind w'' :=
  ⟨cellBel hb (by omega) h.l1, cellBel hb (by omega) h.l2, cellBel hb (by omega) h.l4, cellBel hb (by omega) h.p0, cellBel hb (by omega) h.p1, cellBel hb (by omega) h.p2, cellBel hb (by omega) h.p3, cellBel hb (by omega) h.p4⟩
theorem pcB_new (w : World) (leaf : QM) (kv : Value) (g : QI) (self args temps first behind : Int) : PcB w leaf kv self args temps first behind (((w.alloc (.cells #[.string leaf.name, .int .i64 leaf.args, .int .i64 leaf.temps, .int .i64 leaf.prim, kv] 44)).alloc (.cells #[.int .i64 g.op, .int .i64 g.a, .int .i64 g.b, .int .i64 g.c, .string g.name] 69)).alloc (.cells #[.int .i64 self, .int .i64 args, .int .i64 temps, .int .i64 first, .int .i64 behind] 80)) :=
  ⟨cell_later (bel2 _ _ _) (cell_new w #[.string leaf.name, .int .i64 leaf.args, .int .i64 leaf.temps, .int .i64 leaf.prim, kv] 44 _ rfl 1), cell_later (bel2 _ _ _) (cell_new w #[.string leaf.name, .int .i64 leaf.args, .int .i64 leaf.temps, .int .i64 leaf.prim, kv] 44 _ rfl 2), cell_later (bel2 _ _ _) (cell_new w #[.string leaf.name, .int .i64 leaf.args, .int .i64 leaf.temps, .int .i64 leaf.prim, kv] 44 _ rfl 4), cell_new _ _ _ _ (by simp) 0, cell_new _ _ _ _ (by simp) 1, cell_new _ _ _ _ (by simp) 2, cell_new _ _ _ _ (by simp) 3, cell_new _ _ _ _ (by simp) 4⟩
/-- Code so far, in a row of its own. -/
abbrev OwnI (w : World) (B : Nat) (a : Option Addr) (cap : Nat) (code : List QI) : Prop := ownsAt w B 69 5 (.slice a code.length cap) code.length (icells code)
theorem OwnI.more {w' : World} {B cap' : Nat} {a' : Option Addr} {code ys : List QI} {k : Nat} {vs : List Value} (h : ownsAt w' B 69 5 (.slice a' (code.length + k) cap') (code.length + k) (icells code ++ vs)) (hk : ys.length = k) (hv : icells ys = vs) : OwnI w' B a' cap' (code ++ ys) := by
  unfold OwnI
  rw [icells_append, List.length_append, hk, hv]
  exact h
theorem ownI_base {w : World} {B B' cap : Nat} {a : Option Addr} {code : List QI} (h : OwnI w B a cap code) (hb : B' ≤ B) : OwnI w B' a cap code := by
  obtain ⟨h1, h2 | ⟨g, o, c, cur, e, h3, h4⟩⟩ := h
  · exact ⟨h1, Or.inl h2⟩
  · exact ⟨h1, Or.inr ⟨g, o, c, cur, e, Nat.le_trans hb h3, h4⟩⟩
theorem bel_lo {lo : Nat} {w w' w'' : World} (h : Below lo w w') (k : Below w'.heap.size w' w'') (hl : lo ≤ w'.heap.size) : Below lo w w'' := h.trans ⟨k.os, k.tape, k.output, k.size, fun b hb => k.block b (by omega)⟩
theorem bel_al {lo : Nat} {w w' : World} (h : Below lo w w') (o : Obj) (hl : lo ≤ w'.heap.size) : Below lo w (w'.alloc o) := bel_lo h (bel1 _ _) hl
theorem isCode_below {P : Nat → Prop} {w w' : World} {kv : Value} {xs : List QI} {lo : Nat} (h : IsCode P w kv xs) (hb : Below lo w w') (hl : w.heap.size ≤ lo) : IsCode P w' kv xs := h.keep goodI (Keeps.of_below ⟨hb.os, hb.tape, hb.output, hb.size, fun b hb' => hb.block b (by omega)⟩) fun _ h => h

/-- One more, or two, behind the code so far. -/
theorem belW {lo : Nat} {w w' : World} (h : Below lo w w') : lo ≤ w.heap.size → lo ≤ w'.heap.size := fun hl => Nat.le_trans hl h.size
set_option maxHeartbeats 4000000 in
theorem pieceC_any {P : Nat → Prop} (lname : ByteArray) (A T : Nat) (lprim : Int) (lc : List QI) (g : QI) (self tm first behind : Int) (kv : Value) (w : World) (hk : IsCode P w kv lc) (hA4 : A ≤ 4) (hT6 : T ≤ 6) (hs : 0 ≤ self ∧ self ≤ 100) (htm : 0 ≤ tm ∧ tm ≤ 200) (hf : 0 ≤ first ∧ first ≤ 1000) (hl60 : lc.length ≤ 60)
    (hx : ∀ x ∈ lc, (x.op = 2 ∨ x.op = 3 ∨ x.op = 11 ∨ x.op = 15 ∨ x.op = 16) → 0 ≤ x.a ∧ x.a ≤ 1000) (R : List QI) (HR : Hid (R = [g, ins 21 0 0 0] ++ setsE (self + 1) A ++ [ins 11 self 0 0] ++ nilsE tm T ++ lc.map (standE self (self + 1) tm first behind))) :
    Calls Try.prog 26 #[MV ⟨lname, A, T, lprim, lc⟩ kv, IV g, PlV self (self + 1) tm first behind] w fun e w' => ∃ a cap, e = .returned (.slice a R.length cap) ∧ OwnI w' w.heap.size a cap R ∧ Below w.heap.size w w' := by
  obtain ⟨ak, ck, rfl, hlk, hck, -, hrow⟩ := id hk
  unfold maxLen at hck
  have hB0 := pcB_new w ⟨lname, A, T, lprim, lc⟩ (.slice ak lc.length ck) g self (self + 1) tm first behind
  have hb3 := bel3 w (.cells #[.string lname, .int .i64 (A : Int), .int .i64 (T : Int), .int .i64 lprim, .slice ak lc.length ck] 44) (.cells #[.int .i64 g.op, .int .i64 g.a, .int .i64 g.b, .int .i64 g.c, .string g.name] 69) (.cells #[.int .i64 self, .int .i64 (self + 1), .int .i64 tm, .int .i64 first, .int .i64 behind] 80)
  have hz3 : (((w.alloc (.cells #[.string lname, .int .i64 (A : Int), .int .i64 (T : Int), .int .i64 lprim, .slice ak lc.length ck] 44)).alloc (.cells #[.int .i64 g.op, .int .i64 g.a, .int .i64 g.b, .int .i64 g.c, .string g.name] 69)).alloc (.cells #[.int .i64 self, .int .i64 (self + 1), .int .i64 tm, .int .i64 first, .int .i64 behind] 80)).heap.size = w.heap.size + 3 := by simp
  go_enter Try.func26, Try.ntmps26
  go_upto_region 2 with (fail)
  generalize (((w.alloc (.cells #[.string lname, .int .i64 (A : Int), .int .i64 (T : Int), .int .i64 lprim, .slice ak lc.length ck] 44)).alloc (.cells #[.int .i64 g.op, .int .i64 g.a, .int .i64 g.b, .int .i64 g.c, .string g.name] 69)).alloc (.cells #[.int .i64 self, .int .i64 (self + 1), .int .i64 tm, .int .i64 first, .int .i64 behind] 80)) = W0 at *
  simp only [Nat.add_assoc, Nat.reduceAdd]
  have hb4 : Below (w.heap.size + 3) W0 (W0.alloc (.cells #[.int .i64 g.op, .int .i64 g.a, .int .i64 g.b, .int .i64 g.c, .string g.name, .int .i64 21, .int .i64 0, .int .i64 0, .int .i64 0, .string ⟨#[]⟩] 69)) := bel_al (Below.refl _ _) _ (by omega)
  have hz4 : w.heap.size + 4 ≤ (W0.alloc (.cells #[.int .i64 g.op, .int .i64 g.a, .int .i64 g.b, .int .i64 g.c, .string g.name, .int .i64 21, .int .i64 0, .int .i64 0, .int .i64 0, .string ⟨#[]⟩] 69)).heap.size := by simp; omega
  have hO : OwnI (W0.alloc (.cells #[.int .i64 g.op, .int .i64 g.a, .int .i64 g.b, .int .i64 g.c, .string g.name, .int .i64 21, .int .i64 0, .int .i64 0, .int .i64 0, .string ⟨#[]⟩] 69)) (w.heap.size + 3) (some ⟨w.heap.size + 3, 0, none⟩) 2 [g, ins 21 0 0 0] := by
    refine ⟨rfl, Or.inr ⟨w.heap.size + 3, 0, 2, _, rfl, Nat.le_refl _, by rw [← hz3]; exact heap_alloc_new W0 _, Nat.le_refl _, by unfold maxLen; omega, Nat.le_refl _, rfl⟩⟩
  have hB := hB0.below hb4
  have hbw : Below w.heap.size w (W0.alloc (.cells #[.int .i64 g.op, .int .i64 g.a, .int .i64 g.b, .int .i64 g.c, .string g.name, .int .i64 21, .int .i64 0, .int .i64 0, .int .i64 0, .string ⟨#[]⟩] 69)) := nstep hb3 (bel1 _ _)
  generalize (W0.alloc (.cells #[.int .i64 g.op, .int .i64 g.a, .int .i64 g.b, .int .i64 g.c, .string g.name, .int .i64 21, .int .i64 0, .int .i64 0, .int .i64 0, .string ⟨#[]⟩] 69)) = W at *
  clear hB0 hb3 hz3 hb4 hrow W0
  have hwA : IntKind.i64.wrap ((A : Int) - 1) = (A : Int) - 1 := wrap_of (by omega) (by omega)
  have l1 := hB.l1
  dsimp only at l1
  go_wp2
  clear l1
  go_loopg [7, 8] A (fun gk cv nv wr => ∃ (a : Option Addr) (cap : Nat) (code : List QI), nv = .int .i64 ((gk : Int) - 1) ∧ cv = .slice a code.length cap ∧ OwnI wr (w.heap.size + 3) a cap code ∧ Hid (code ++ setsE (self + 1) gk = [g, ins 21 0 0 0] ++ setsE (self + 1) A) ∧ Below (w.heap.size + 3) W wr ∧ code.length + gk = A + 2)
  case atStart => exact ⟨_, _, _, rfl, rfl, hO, rfl, Below.refl _ _, by simp; omega⟩
  case round =>
    clear hO
    obtain ⟨a, cap, code, rfl, rfl, hO, HC, hb, hcl⟩ := hrel
    have hzr : w.heap.size + 4 ≤ wr.heap.size := Nat.le_trans hz4 hb.size
    have hcap : code.length ≤ cap ∧ cap ≤ 9223372036854775807 := by
      obtain ⟨a', c', e, h1, h2⟩ := hO.form
      cases e; unfold maxLen at h2; omega
    cases gk with
    | zero =>
      have HC0 : Hid (code = [g, ins 21 0 0 0] ++ setsE (self + 1) A) := by show _ = _; rw [← HC.out]; simp [setsE]
      have hd0 : decide ((0 : Int) ≤ ((0 : Nat) : Int) - 1) = false := by decide
      have p0 := (hB.below hb).p0
      have l2 : wr.cell? ⟨w.heap.size, 2, none⟩ = some (.int .i64 (T : Int)) := (hB.below hb).l2
      go_upto_region 7 with (at_builtin; refine wpList_append_at rfl (.tmp 30) (.tmp 34) 33 69 _ 5 48 rfl Try.underlying33 info69 rfl (by omega) (w.heap.size + 3) code.length (.slice a code.length cap) (icells code) rfl (hO.alloc _) wr.heap.size rfl [.int .i64 11, .int .i64 self, .int .i64 0, .int .i64 0, .string ⟨#[]⟩] rfl (heap_alloc_new _ _) (by intro u hu; simp only [List.mem_cons, List.not_mem_nil, or_false] at hu; rcases hu with h | h | h | h | h <;> (subst h; rfl)) (by unfold maxLen; omega) (by omega) (by simp; omega) ?_; intro a1 cap1 w1 r1 r2 r3 r4)
      have hO1 := OwnI.more (ys := [ins 11 self 0 0]) r1 rfl rfl
      have hb1 := (bel_al hb (.cells #[.int .i64 11, .int .i64 self, .int .i64 0, .int .i64 0, .string ⟨#[]⟩] 69) (by omega)).trans r3
      have hz1 : w.heap.size + 4 ≤ w1.heap.size := Nat.le_trans hz4 hb1.size
      clear r1 r2 r3 r4 hO HC p0 l2
      obtain ⟨C1, hC1⟩ : ∃ C1, C1 = code ++ [ins 11 self 0 0] := ⟨_, rfl⟩
      have hl1 : code.length + 1 = C1.length := by rw [hC1]; simp
      have HLC : Hid (C1.length = A + 3) := by show _ = _; omega
      rw [← hC1] at hO1
      rw [hl1]
      have HC1 : Hid (C1 = [g, ins 21 0 0 0] ++ setsE (self + 1) A ++ [ins 11 self 0 0]) := by show _ = _; rw [hC1, HC0.out]
      clear hC1 HC0 hl1 hcl hzr hcap
      have l2 : w1.cell? ⟨w.heap.size, 2, none⟩ = some (.int .i64 (T : Int)) := (hB.below hb1).l2
      go_wp2
      clear l2
      go_loopg [7, 38] T (fun g2 cv iv wr => ∃ (i : Nat) (a : Option Addr) (cap : Nat), i + g2 = T ∧ iv = .int .i64 (i : Int) ∧ cv = .slice a (C1 ++ nilsE tm i).length cap ∧ OwnI wr (w.heap.size + 3) a cap (C1 ++ nilsE tm i) ∧ Below (w.heap.size + 3) W wr)
      case atStart => exact ⟨0, a1, cap1, by omega, rfl, by simp [nilsE], by simpa [nilsE] using hO1, hb1⟩
      case round =>
        clear hO1 hb1 hz1 hb
        obtain ⟨i, a, cap, hi, rfl, rfl, hO, hb⟩ := hrel
        have hzr : w.heap.size + 4 ≤ wr.heap.size := Nat.le_trans hz4 hb.size
        have HCL : Hid ((C1 ++ nilsE tm i).length = A + 3 + 2 * i) := by show _ = _; rw [List.length_append, nilsE_len, HLC.out]
        have hcl : (C1 ++ nilsE tm i).length ≤ 20 := by have := HCL.out; omega
        have hcap : (C1 ++ nilsE tm i).length ≤ cap ∧ cap ≤ 9223372036854775807 := by
          obtain ⟨a', c', e, h1, h2⟩ := hO.form
          cases e; unfold maxLen at h2; exact ⟨h1, by omega⟩
        by_cases hlt : i < T
        · have hd : decide ((i : Int) < (T : Int)) = true := by simp; omega
          have p2 := (hB.below hb).p2
          have hw1 : IntKind.i64.wrap (tm + (i : Int)) = tm + (i : Int) := wrap_of (by omega) (by omega)
          obtain ⟨cd, hcd⟩ : ∃ cd, cd = C1 ++ nilsE tm i := ⟨_, rfl⟩
          have HCD : Hid (cd ++ [ins 6 0 0 0, ins 11 (tm + (i : Int)) 0 0] = C1 ++ nilsE tm (i + 1)) := by show _ = _; rw [hcd, nilsE_succ]; simp
          rw [← hcd] at hO hcl hcap HCL ⊢
          clear hcd
          go_wp2_with (at_builtin; refine wpList_append_n rfl (.tmp 41) (.tmp 48) 33 69 _ 5 48 rfl Try.underlying33 info69 rfl (by omega) (w.heap.size + 3) cd.length (.slice a cd.length cap) (icells cd) rfl (hO.alloc _) ⟨wr.heap.size, 0, none⟩ 2 2 (by omega) rfl [.int .i64 6, .int .i64 0, .int .i64 0, .int .i64 0, .string ⟨#[]⟩, .int .i64 11, .int .i64 (tm + (i : Int)), .int .i64 0, .int .i64 0, .string ⟨#[]⟩] rfl (fun j u hj => by rw [Addr.add_lit, Nat.zero_add, cell_of_row _ _ _ _ _ _ (heap_alloc_new _ _)]; simpa using hj) (by intro u hu; simp only [List.mem_cons, List.not_mem_nil, or_false] at hu; rcases hu with h | h | h | h | h | h | h | h | h | h <;> (subst h; rfl)) (by unfold maxLen; omega) (by omega) (by simp; omega) ?_; intro a' cap' w' r1 r2 r3 r4; have hO' := hid (OwnI.more (ys := [ins 6 0 0 0, ins 11 (tm + (i : Int)) 0 0]) r1 rfl rfl); have hb' := hid ((bel_al hb (.cells #[.int .i64 6, .int .i64 0, .int .i64 0, .int .i64 0, .string ⟨#[]⟩, .int .i64 11, .int .i64 (tm + (i : Int)), .int .i64 0, .int .i64 0, .string ⟨#[]⟩] 69) (by omega)).trans r3); clear r1 r2 r3 r4)
          go_roundg (T - (i + 1))
          case measure => omega
          case rel =>
            refine ⟨i + 1, _, _, by omega, by go_num, ?_, by rw [← HCD.out]; exact hO'.out, hb'.out⟩
            rw [← HCD.out]; simp
        · obtain rfl : i = T := by omega
          have hd : decide ((i : Int) < (i : Int)) = false := by simp
          obtain ⟨C2, hC2⟩ : ∃ C2, C2 = C1 ++ nilsE tm i := ⟨_, rfl⟩
          have HC2 : Hid (C2 = [g, ins 21 0 0 0] ++ setsE (self + 1) A ++ [ins 11 self 0 0] ++ nilsE tm i) := by show _ = _; rw [hC2, HC1.out]
          rw [← hC2] at hO hcl hcap HCL ⊢
          clear hC2 HC1 HLC hlt hi
          have l4 : wr.cell? ⟨w.heap.size, 4, none⟩ = some (.slice ak lc.length ck) := (hB.below hb).l4
          go_wp2
          clear l4
          go_loopg [7, 54] lc.length (fun g3 cv iv wr => ∃ (k : Nat) (a : Option Addr) (cap : Nat), k + g3 = lc.length ∧ iv = .int .i64 (k : Int) ∧ cv = .slice a (C2 ++ (lc.take k).map (standE self (self + 1) tm first behind)).length cap ∧ OwnI wr (w.heap.size + 3) a cap (C2 ++ (lc.take k).map (standE self (self + 1) tm first behind)) ∧ Below (w.heap.size + 3) W wr)
          case atStart => exact ⟨0, a, cap, by omega, rfl, by simp, by simpa using hO, hb⟩
          case round =>
            clear hO hb hzr hcap
            obtain ⟨k, a, cap, hkk, rfl, rfl, hO, hb⟩ := hrel
            have hzr : w.heap.size + 4 ≤ wr.heap.size := Nat.le_trans hz4 hb.size
            have hcl2 : (C2 ++ (lc.take k).map (standE self (self + 1) tm first behind)).length ≤ 100 := by have := HCL.out; simp; omega
            have hcap : (C2 ++ (lc.take k).map (standE self (self + 1) tm first behind)).length ≤ cap ∧ cap ≤ 9223372036854775807 := by
              obtain ⟨a', c', e, h1, h2⟩ := hO.form
              cases e; unfold maxLen at h2; exact ⟨h1, by omega⟩
            have hbr : Below w.heap.size w wr := hbw.trans ⟨hb.os, hb.tape, hb.output, hb.size, fun b hb' => hb.block b (by omega)⟩
            by_cases hlt : k < lc.length
            · have hxk : lc[k]? = some lc[k] := by simp [hlt]
              obtain ⟨ad2, cap2, e2, -, -, -, hrow⟩ := hk.later goodI hbr
              cases e2
              obtain ⟨b, o, rfl, -, u0, u1, u2, u3, u4, -⟩ := hrow k lc[k] hxk
              have hxa := hx lc[k] (List.getElem_mem hlt)
              have HTK : Hid (C2 ++ (lc.take (k + 1)).map (standE self (self + 1) tm first behind) = C2 ++ (lc.take k).map (standE self (self + 1) tm first behind) ++ [standE self (self + 1) tm first behind lc[k]]) := by show _ = _; rw [List.take_add_one, hxk, List.map_append, ← List.append_assoc]; rfl
              generalize lc[k] = x at *
              simp only [Nat.add_zero] at u0
              obtain ⟨cd, hcd⟩ : ∃ cd, cd = C2 ++ (lc.take k).map (standE self (self + 1) tm first behind) := ⟨_, rfl⟩
              rw [← hcd] at hO hcl2 hcap HTK ⊢
              clear hcd hrow hxk
              have hk1 : (k : Int) < (lc.length : Int) := by omega
              have hk0 : (0 : Int) ≤ (k : Int) := by omega
              have hbx := bel1 wr (.cells #[.int .i64 x.op, .int .i64 x.a, .int .i64 x.b, .int .i64 x.c, .string x.name] 69)
              have hBx := (hB.below hb).below (⟨hbx.os, hbx.tape, hbx.output, hbx.size, fun b hb' => hbx.block b (by omega)⟩ : Below (w.heap.size + 3) _ _)
              obtain ⟨-, -, -, p0, p1, p2, p3, p4⟩ := hBx
              go_wp2_with fail
              refine (standIn_any self (self + 1) tm first behind x _ (by omega) (by omega) hf hxa).mono ?_
              rintro e w1 ⟨rfl, hb1⟩
              dsimp only
              generalize standE self (self + 1) tm first behind x = y at *
              have hO1 : OwnI w1 (w.heap.size + 3) a cap cd := hO.keep fun g hg => by rw [hb1.block g (by have := (hO.lt g hg).2; simp; omega), hbx.block g (hO.lt g hg).2]
              have hbB : Below (w.heap.size + 3) W w1 := bel_lo (bel_al hb (.cells #[.int .i64 x.op, .int .i64 x.a, .int .i64 x.b, .int .i64 x.c, .string x.name] 69) (by omega)) hb1 (by simp; omega)
              have hz1 : w.heap.size + 4 ≤ w1.heap.size := Nat.le_trans hz4 hbB.size
              clear p0 p1 p2 p3 p4 u0 u1 u2 u3 u4 hO hb hbx hb1
              go_wp2_with (at_builtin; refine wpList_append_at rfl (.tmp 58) (.tmp 62) 33 69 _ 5 48 rfl Try.underlying33 info69 rfl (by omega) (w.heap.size + 3) cd.length (.slice a cd.length cap) (icells cd) rfl (hO1.alloc _) w1.heap.size rfl [.int .i64 y.op, .int .i64 y.a, .int .i64 y.b, .int .i64 y.c, .string y.name] rfl (heap_alloc_new _ _) (by intro u hu; simp only [List.mem_cons, List.not_mem_nil, or_false] at hu; rcases hu with h | h | h | h | h <;> (subst h; rfl)) (by unfold maxLen; omega) (by omega) (by simp; omega) ?_; intro a' cap' w' r1 r2 r3 r4; have hO' := hid (OwnI.more (ys := [y]) r1 rfl rfl); have hb' := hid ((bel_al hbB (.cells #[.int .i64 y.op, .int .i64 y.a, .int .i64 y.b, .int .i64 y.c, .string y.name] 69) (by omega)).trans r3); clear r1 r2 r3 r4)
              go_roundg (lc.length - (k + 1))
              case measure => omega
              case rel =>
                refine ⟨k + 1, _, _, by omega, by go_num, ?_, by rw [HTK.out]; exact hO'.out, hb'.out⟩
                rw [HTK.out]; simp
            · obtain rfl : k = lc.length := by omega
              have HE : Hid (C2 ++ (lc.take lc.length).map (standE self (self + 1) tm first behind) = R) := by show _ = _; rw [HR.out, HC2.out, List.take_length]
              rw [HE.out] at hO ⊢
              have HO := hid (ownI_base (B' := w.heap.size) hO (by omega))
              have HBR := hid hbr
              clear hO hbr hcl2 hcap
              go_wp2
              go_ret
              exact ⟨_, _, rfl, HO.out, HBR.out⟩
    | succ j =>
      have hnn : (((j + 1 : Nat) : Int) - 1) = (j : Int) := by omega
      rw [hnn]
      have hd0 : decide ((0 : Int) ≤ (j : Int)) = true := by simp
      have p1 := (hB.below hb).p1
      have hw1 : IntKind.i64.wrap (self + 1 + (j : Int)) = self + 1 + (j : Int) := wrap_of (by omega) (by omega)
      have hw2 : IntKind.i64.wrap ((j : Int) - 1) = (j : Int) - 1 := wrap_of (by omega) (by omega)
      go_wp2_with (at_builtin; refine wpList_append_at rfl (.tmp 22) (.tmp 28) 33 69 _ 5 48 rfl Try.underlying33 info69 rfl (by omega) (w.heap.size + 3) code.length (.slice a code.length cap) (icells code) rfl (hO.alloc _) wr.heap.size rfl [.int .i64 11, .int .i64 (self + 1 + (j : Int)), .int .i64 0, .int .i64 0, .string ⟨#[]⟩] rfl (heap_alloc_new _ _) (by intro u hu; simp only [List.mem_cons, List.not_mem_nil, or_false] at hu; rcases hu with h | h | h | h | h <;> (subst h; rfl)) (by unfold maxLen; omega) (by omega) (by simp; omega) ?_; intro a' cap' w' r1 r2 r3 r4; have hO' := hid (OwnI.more (ys := [ins 11 (self + 1 + (j : Int)) 0 0]) r1 rfl rfl); have hb' := hid ((bel_al hb (.cells #[.int .i64 11, .int .i64 (self + 1 + (j : Int)), .int .i64 0, .int .i64 0, .string ⟨#[]⟩] 69) (by omega)).trans r3); clear r1 r2 r3 r4)
      go_roundg j
      case measure => omega
      case rel => exact ⟨_, _, _, by go_num, by simp, hO'.out, by show _ = _; rw [← HC.out]; simp [setsE], hb'.out, by simp; omega⟩
theorem piece_any {P : Nat → Prop} (leaf : QM) (g : QI) (self n : Int) (kv : Value) (w : World) (hk : IsCode P w kv leaf.code) (ha : 0 ≤ leaf.args ∧ leaf.args ≤ 4) (ht : 0 ≤ leaf.temps ∧ leaf.temps ≤ 6) (hs : 0 ≤ self ∧ self ≤ 100) (hn : 0 ≤ n ∧ n ≤ 300) (hl60 : leaf.code.length ≤ 60)
    (hx : ∀ x ∈ leaf.code, (x.op = 2 ∨ x.op = 3 ∨ x.op = 11 ∨ x.op = 15 ∨ x.op = 16) → 0 ≤ x.a ∧ x.a ≤ 1000) :
    Calls Try.prog 26 #[MV leaf kv, IV g, PlV self (self + 1) (self + 1 + leaf.args) (firstOf leaf n) (firstOf leaf n + leaf.code.length)] w fun e w' => ∃ a cap, e = .returned (.slice a (pieceE leaf g self n).length cap) ∧ OwnI w' w.heap.size a cap (pieceE leaf g self n) ∧ Below w.heap.size w w' := by
  obtain ⟨lname, largs, ltemps, lprim, lc⟩ := leaf
  obtain ⟨A, rfl⟩ : ∃ A : Nat, largs = (A : Int) := ⟨largs.toNat, by simp only at ha; omega⟩
  obtain ⟨T, rfl⟩ : ∃ T : Nat, ltemps = (T : Int) := ⟨ltemps.toNat, by simp only at ht; omega⟩
  simp only at ha ht hl60 hx hk
  refine pieceC_any lname A T lprim lc g self _ _ _ kv w hk (by omega) (by omega) hs (by simp only; omega) (by unfold firstOf; simp only; omega) hl60 hx _ ?_
  show _ = _
  unfold pieceE headE
  simp
end Go.Proofs.Ytlekfiglefopgaa
