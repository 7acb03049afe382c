/- FastTells: of every right world, and tallies with no number below 0 or above 1,000,000, All tells the fast code that the document tells, in its order. For every input. -/
import Derived.Test.YtlekfiglefopgaaPMid
import Derived.Deep.CutBlock
import Derived.Maps.OwnSet
import Derived.Maps.OwnOps
import Derived.Test.YtlekfiglefopgaaNb
import Derived.Test.YtlekfiglefopgaaDa
import Derived.Test.YtlekfiglefopgaaRa
import Derived.Test.YtlekfiglefopgaaTa
import Derived.ChangeMaps5
/- The reference's Piece. -/
namespace Go.Proofs.Ytlekfiglefopgaa
open Go.ChangeShapes Go.WideShapes Go.ChangeAt Go.RowKit
set_option linter.unusedSimpArgs false
set_option linter.unusedVariables false
set_option maxRecDepth 8000

/-- The box of the method. -/
structure PrB (w : World) (A T : Nat) (kv : Value) (w' : World) : Prop where
  l1 : w'.cell? ⟨w.heap.size, 1, none⟩ = some (.int .i64 (A : Int))
  l2 : w'.cell? ⟨w.heap.size, 2, none⟩ = some (.int .i64 (T : Int))
  l4 : w'.cell? ⟨w.heap.size, 4, none⟩ = some kv
theorem PrB.below {w : World} {A T : Nat} {kv : Value} {w' w'' : World} (h : PrB w A T kv w') (hb : Below (w.heap.size + 1) w' w'') : PrB w A T kv w'' :=
  ⟨cellBel hb (by omega) h.l1, cellBel hb (by omega) h.l2, cellBel hb (by omega) h.l4⟩
theorem prB_new (w : World) (nm : ByteArray) (A T : Nat) (pr : Int) (kv : Value) : PrB w A T kv (w.alloc (.cells #[.string nm, .int .i64 (A : Int), .int .i64 (T : Int), .int .i64 pr, kv] 44)) :=
  ⟨cell_new w #[.string nm, .int .i64 (A : Int), .int .i64 (T : Int), .int .i64 pr, kv] 44 _ rfl 1, cell_new w #[.string nm, .int .i64 (A : Int), .int .i64 (T : Int), .int .i64 pr, kv] 44 _ rfl 2, cell_new w #[.string nm, .int .i64 (A : Int), .int .i64 (T : Int), .int .i64 pr, kv] 44 _ rfl 4⟩

set_option maxHeartbeats 4000000 in
theorem pieceRC_any {P : Nat → Prop} (lname : ByteArray) (A T : Nat) (lprim : Int) (lc : List QI) (self cls att : Int) (kv : Value) (w : World) (hk : IsCode P w kv lc) (hA4 : A ≤ 4) (hT6 : T ≤ 6) (hs : 0 ≤ self ∧ self ≤ 100) (hl60 : lc.length ≤ 60)
    (hx : ∀ x ∈ lc, (x.op = 2 ∨ x.op = 3 ∨ x.op = 11 ∨ x.op = 15 ∨ x.op = 16) → 0 ≤ x.a ∧ x.a ≤ 1000) (g : QI) (hg : g = ins 18 cls A att) (tm frm : Int) (htm : Hid (tm = self + 1 + A)) (hfr : Hid (frm = 3 + A + 2 * T)) (R : List QI) (HR : Hid (R = [g, ins 21 0 0 0] ++ setsE (self + 1) A ++ [ins 11 self 0 0] ++ nilsE tm T ++ lc.map (standR self tm frm (frm + lc.length)))) :
    Calls Try.prog 35 #[MV ⟨lname, A, T, lprim, lc⟩ kv, .int .i64 self, .int .i64 cls, .int .i64 att] w fun e w' => ∃ a cap, e = .returned (.slice a R.length cap) ∧ OwnI w' w.heap.size a cap R ∧ Below w.heap.size w w' := by
  obtain ⟨ak, ck, rfl, hlk, hck, -, hrow⟩ := id hk
  unfold maxLen at hck
  have htm0 : 0 ≤ tm ∧ tm ≤ 200 := by have := htm.out; omega
  have hfr0 : 0 ≤ frm ∧ frm ≤ 100 := by have := hfr.out; omega
  have hB0 := prB_new w lname A T lprim (.slice ak lc.length ck)
  have hb1 := bel1 w (.cells #[.string lname, .int .i64 (A : Int), .int .i64 (T : Int), .int .i64 lprim, .slice ak lc.length ck] 44)
  clear hrow
  have hz0 : (w.alloc (.cells #[.string lname, .int .i64 (A : Int), .int .i64 (T : Int), .int .i64 lprim, .slice ak lc.length ck] 44)).heap.size = w.heap.size + 1 := by simp
  have l1 := hB0.l1
  go_enter Try.func35, Try.ntmps35
  go_upto_region 2 with (fail)
  generalize (w.alloc (.cells #[.string lname, .int .i64 (A : Int), .int .i64 (T : Int), .int .i64 lprim, .slice ak lc.length ck] 44)) = W0 at *
  have hb4 : Below (w.heap.size + 1) W0 (W0.alloc (.cells #[.int .i64 18, .int .i64 cls, .int .i64 (A : Int), .int .i64 att, .string ⟨#[]⟩, .int .i64 21, .int .i64 0, .int .i64 0, .int .i64 0, .string ⟨#[]⟩] 69)) := bel_al (Below.refl _ _) _ (by omega)
  have hz4 : w.heap.size + 2 ≤ (W0.alloc (.cells #[.int .i64 18, .int .i64 cls, .int .i64 (A : Int), .int .i64 att, .string ⟨#[]⟩, .int .i64 21, .int .i64 0, .int .i64 0, .int .i64 0, .string ⟨#[]⟩] 69)).heap.size := by simp; omega
  have hO : OwnI (W0.alloc (.cells #[.int .i64 18, .int .i64 cls, .int .i64 (A : Int), .int .i64 att, .string ⟨#[]⟩, .int .i64 21, .int .i64 0, .int .i64 0, .int .i64 0, .string ⟨#[]⟩] 69)) (w.heap.size + 1) (some ⟨w.heap.size + 1, 0, none⟩) 2 [g, ins 21 0 0 0] := by
    subst hg
    refine ⟨rfl, Or.inr ⟨w.heap.size + 1, 0, 2, _, rfl, Nat.le_refl _, by rw [← hz0]; exact heap_alloc_new W0 _, Nat.le_refl _, by unfold maxLen; omega, Nat.le_refl _, rfl⟩⟩
  have hB := hB0.below hb4
  have hbw : Below w.heap.size w (W0.alloc (.cells #[.int .i64 18, .int .i64 cls, .int .i64 (A : Int), .int .i64 att, .string ⟨#[]⟩, .int .i64 21, .int .i64 0, .int .i64 0, .int .i64 0, .string ⟨#[]⟩] 69)) := nstep hb1 (bel1 _ _)
  generalize (W0.alloc (.cells #[.int .i64 18, .int .i64 cls, .int .i64 (A : Int), .int .i64 att, .string ⟨#[]⟩, .int .i64 21, .int .i64 0, .int .i64 0, .int .i64 0, .string ⟨#[]⟩] 69)) = W at *
  clear hB0 hb1 hz0 hb4 l1 W0 hg
  have l1 := hB.l1
  go_wp2
  clear l1
  go_loopg [9, 25] A (fun gk cv nv wr => ∃ (i : Nat) (a : Option Addr) (cap : Nat) (code : List QI), i + gk = A ∧ nv = .int .i64 (i : Int) ∧ cv = .slice a code.length cap ∧ OwnI wr (w.heap.size + 1) a cap code ∧ Hid (code ++ setsE (self + 1) gk = [g, ins 21 0 0 0] ++ setsE (self + 1) A) ∧ Below (w.heap.size + 1) W wr ∧ code.length + gk = A + 2)
  case atStart => exact ⟨0, _, _, _, by omega, rfl, rfl, hO, rfl, Below.refl _ _, by simp; omega⟩
  case round =>
    clear hO
    obtain ⟨i, a, cap, code, hi, rfl, rfl, hO, HC, hb, hcl⟩ := hrel
    have hzr : w.heap.size + 2 ≤ wr.heap.size := Nat.le_trans hz4 hb.size
    have hcap : code.length ≤ cap ∧ cap ≤ 9223372036854775807 := by
      obtain ⟨a', c', e, h1, h2⟩ := hO.form
      cases e; unfold maxLen at h2; omega
    by_cases hlt : i < A
    · have hd : decide ((i : Int) < (A : Int)) = true := by simp; omega
      have l1 := (hB.below hb).l1
      have hw1 : IntKind.i64.wrap (self + (A : Int)) = self + (A : Int) := wrap_of (by omega) (by omega)
      have hw2 : IntKind.i64.wrap (self + (A : Int) - (i : Int)) = self + (A : Int) - (i : Int) := wrap_of (by omega) (by omega)
      go_wp2_with (at_builtin; refine wpList_append_at rfl (.tmp 28) (.tmp 36) 33 69 _ 5 48 rfl Try.underlying33 info69 rfl (by omega) (w.heap.size + 1) code.length (.slice a code.length cap) (icells code) rfl (hO.alloc _) wr.heap.size rfl [.int .i64 11, .int .i64 (self + (A : Int) - (i : Int)), .int .i64 0, .int .i64 0, .string ⟨#[]⟩] rfl (heap_alloc_new _ _) (by intro u hu; simp only [List.mem_cons, List.not_mem_nil, or_false] at hu; rcases hu with h | h | h | h | h <;> (subst h; rfl)) (by unfold maxLen; omega) (by omega) (by simp; omega) ?_; intro a1 cap1 w1 r1 r2 r3 r4; have hO' := hid (OwnI.more (ys := [ins 11 (self + (A : Int) - (i : Int)) 0 0]) r1 rfl rfl); have hb' := hid ((bel_al hb (.cells #[.int .i64 11, .int .i64 (self + (A : Int) - (i : Int)), .int .i64 0, .int .i64 0, .string ⟨#[]⟩] 69) (by omega)).trans r3); clear r1 r2 r3 r4)
      go_roundg (gk - 1)
      case measure => omega
      case rel =>
        refine ⟨i + 1, _, _, _, by omega, by go_num, by simp, hO'.out, ?_, hb'.out, by simp; omega⟩
        show _ = _
        rw [← HC.out]
        obtain ⟨j, hj⟩ : ∃ j, gk = j + 1 := ⟨gk - 1, by omega⟩
        subst hj
        have e : self + (A : Int) - (i : Int) = self + 1 + (j : Int) := by omega
        rw [e]
        simp [setsE]
    · obtain rfl : gk = 0 := by omega
      have HC0 : Hid (code = [g, ins 21 0 0 0] ++ setsE (self + 1) A) := by show _ = _; rw [← HC.out]; simp [setsE]
      have hd0 : decide ((i : Int) < (A : Int)) = false := by simp; omega
      have l1 : wr.cell? ⟨w.heap.size, 1, none⟩ = some (.int .i64 (A : Int)) := (hB.below hb).l1
      go_upto_region 8 with (at_builtin; refine wpList_append_at rfl (.tmp 39) (.tmp 42) 33 69 _ 5 48 rfl Try.underlying33 info69 rfl (by omega) (w.heap.size + 1) code.length (.slice a code.length cap) (icells code) rfl (hO.alloc _) wr.heap.size rfl [.int .i64 11, .int .i64 self, .int .i64 0, .int .i64 0, .string ⟨#[]⟩] rfl (heap_alloc_new _ _) (by intro u hu; simp only [List.mem_cons, List.not_mem_nil, or_false] at hu; rcases hu with h | h | h | h | h <;> (subst h; rfl)) (by unfold maxLen; omega) (by omega) (by simp; omega) ?_; intro a1 cap1 w1 r1 r2 r3 r4)
      have hO1 := OwnI.more (ys := [ins 11 self 0 0]) r1 rfl rfl
      have hb1 := (bel_al hb (.cells #[.int .i64 11, .int .i64 self, .int .i64 0, .int .i64 0, .string ⟨#[]⟩] 69) (by omega)).trans r3
      have hz1 : w.heap.size + 2 ≤ w1.heap.size := Nat.le_trans hz4 hb1.size
      clear r1 r2 r3 r4 hO HC l1
      obtain ⟨C1, hC1⟩ : ∃ C1, C1 = code ++ [ins 11 self 0 0] := ⟨_, rfl⟩
      have hl1 : code.length + 1 = C1.length := by rw [hC1]; simp
      have HLC : Hid (C1.length = A + 3) := by show _ = _; omega
      rw [← hC1] at hO1
      rw [hl1]
      have HC1 : Hid (C1 = [g, ins 21 0 0 0] ++ setsE (self + 1) A ++ [ins 11 self 0 0]) := by show _ = _; rw [hC1, HC0.out]
      clear hC1 HC0 hl1 hcl hzr hcap
      have l1 : w1.cell? ⟨w.heap.size, 1, none⟩ = some (.int .i64 (A : Int)) := (hB.below hb1).l1
      have l2 : w1.cell? ⟨w.heap.size, 2, none⟩ = some (.int .i64 (T : Int)) := (hB.below hb1).l2
      have hw1 : IntKind.i64.wrap (self + 1) = self + 1 := wrap_of (by omega) (by omega)
      have hw2 : IntKind.i64.wrap (self + 1 + (A : Int)) = tm := by rw [htm.out]; exact wrap_of (by omega) (by omega)
      go_wp2
      clear l1 l2
      go_loopg [9, 51] T (fun g2 cv iv wr => ∃ (i : Nat) (a : Option Addr) (cap : Nat), i + g2 = T ∧ iv = .int .i64 (i : Int) ∧ cv = .slice a (C1 ++ nilsE tm i).length cap ∧ OwnI wr (w.heap.size + 1) a cap (C1 ++ nilsE tm i) ∧ Below (w.heap.size + 1) W wr)
      case atStart => exact ⟨0, a1, cap1, by omega, rfl, by simp [nilsE], by simpa [nilsE] using hO1, hb1⟩
      case round =>
        clear hO1 hb1 hz1 hb hi hlt
        obtain ⟨i, a, cap, hi, rfl, rfl, hO, hb⟩ := hrel
        have hzr : w.heap.size + 2 ≤ wr.heap.size := Nat.le_trans hz4 hb.size
        have HCL : Hid ((C1 ++ nilsE tm i).length = A + 3 + 2 * i) := by show _ = _; rw [List.length_append, nilsE_len, HLC.out]
        have hcl : (C1 ++ nilsE tm i).length ≤ 20 := by have := HCL.out; omega
        have hcap : (C1 ++ nilsE tm i).length ≤ cap ∧ cap ≤ 9223372036854775807 := by
          obtain ⟨a', c', e, h1, h2⟩ := hO.form
          cases e; unfold maxLen at h2; exact ⟨h1, by omega⟩
        by_cases hlt : i < T
        · have hd : decide ((i : Int) < (T : Int)) = true := by simp; omega
          have hw1 : IntKind.i64.wrap (tm + (i : Int)) = tm + (i : Int) := wrap_of (by omega) (by omega)
          obtain ⟨cd, hcd⟩ : ∃ cd, cd = C1 ++ nilsE tm i := ⟨_, rfl⟩
          have HCD : Hid (cd ++ [ins 6 0 0 0, ins 11 (tm + (i : Int)) 0 0] = C1 ++ nilsE tm (i + 1)) := by show _ = _; rw [hcd, nilsE_succ]; simp
          rw [← hcd] at hO hcl hcap HCL ⊢
          clear hcd
          go_wp2_with (at_builtin; refine wpList_append_n rfl (.tmp 54) (.tmp 60) 33 69 _ 5 48 rfl Try.underlying33 info69 rfl (by omega) (w.heap.size + 1) cd.length (.slice a cd.length cap) (icells cd) rfl (hO.alloc _) ⟨wr.heap.size, 0, none⟩ 2 2 (by omega) rfl [.int .i64 6, .int .i64 0, .int .i64 0, .int .i64 0, .string ⟨#[]⟩, .int .i64 11, .int .i64 (tm + (i : Int)), .int .i64 0, .int .i64 0, .string ⟨#[]⟩] rfl (fun j u hj => by rw [Addr.add_lit, Nat.zero_add, cell_of_row _ _ _ _ _ _ (heap_alloc_new _ _)]; simpa using hj) (by intro u hu; simp only [List.mem_cons, List.not_mem_nil, or_false] at hu; rcases hu with h | h | h | h | h | h | h | h | h | h <;> (subst h; rfl)) (by unfold maxLen; omega) (by omega) (by simp; omega) ?_; intro a1 cap1 w1 r1 r2 r3 r4; have hO' := hid (OwnI.more (ys := [ins 6 0 0 0, ins 11 (tm + (i : Int)) 0 0]) r1 rfl rfl); have hb' := hid ((bel_al hb (.cells #[.int .i64 6, .int .i64 0, .int .i64 0, .int .i64 0, .string ⟨#[]⟩, .int .i64 11, .int .i64 (tm + (i : Int)), .int .i64 0, .int .i64 0, .string ⟨#[]⟩] 69) (by omega)).trans r3); clear r1 r2 r3 r4)
          go_roundg (T - (i + 1))
          case measure => omega
          case rel =>
            refine ⟨i + 1, _, _, by omega, by go_num, ?_, by rw [← HCD.out]; exact hO'.out, hb'.out⟩
            rw [← HCD.out]; simp
        · obtain rfl : i = T := by omega
          have hd : decide ((i : Int) < (i : Int)) = false := by simp
          obtain ⟨C2, hC2⟩ : ∃ C2, C2 = C1 ++ nilsE tm i := ⟨_, rfl⟩
          have HC2 : Hid (C2 = [g, ins 21 0 0 0] ++ setsE (self + 1) A ++ [ins 11 self 0 0] ++ nilsE tm i) := by show _ = _; rw [hC2, HC1.out]
          rw [← hC2] at hO hcl hcap HCL ⊢
          clear hC2 HC1 HLC hlt hi
          have l4 : wr.cell? ⟨w.heap.size, 4, none⟩ = some (.slice ak lc.length ck) := (hB.below hb).l4
          have hfl : Hid ((C2.length : Int) = frm) := by show _ = _; rw [HCL.out, hfr.out]; omega
          go_upto_region 15 with (fail)
          rw [hfl.out]
          have hwb : IntKind.i64.wrap (frm + (lc.length : Int)) = frm + (lc.length : Int) := wrap_of (by omega) (by omega)
          clear hfl hfr htm
          go_wp2
          clear l4
          go_loopg [9, 68] lc.length (fun g3 cv iv wr => ∃ (k : Nat) (a : Option Addr) (cap : Nat), k + g3 = lc.length ∧ iv = .int .i64 (k : Int) ∧ cv = .slice a (C2 ++ (lc.take k).map (standR self tm frm (frm + lc.length))).length cap ∧ OwnI wr (w.heap.size + 1) a cap (C2 ++ (lc.take k).map (standR self tm frm (frm + lc.length))) ∧ Below (w.heap.size + 1) W wr)
          case atStart => exact ⟨0, a, cap, by omega, rfl, by simp, by simpa using hO, hb⟩
          case round =>
            clear hO hb hzr hcap
            obtain ⟨k, a, cap, hkk, rfl, rfl, hO, hb⟩ := hrel
            have hzr : w.heap.size + 2 ≤ wr.heap.size := Nat.le_trans hz4 hb.size
            have hcl2 : (C2 ++ (lc.take k).map (standR self tm frm (frm + lc.length))).length ≤ 100 := by have := HCL.out; simp; omega
            have hcap : (C2 ++ (lc.take k).map (standR self tm frm (frm + lc.length))).length ≤ cap ∧ cap ≤ 9223372036854775807 := by
              obtain ⟨a', c', e, h1, h2⟩ := hO.form
              cases e; unfold maxLen at h2; exact ⟨h1, by omega⟩
            have hbr : Below w.heap.size w wr := hbw.trans ⟨hb.os, hb.tape, hb.output, hb.size, fun b hb' => hb.block b (by omega)⟩
            by_cases hlt : k < lc.length
            · have hxk : lc[k]? = some lc[k] := by simp [hlt]
              obtain ⟨ad2, cap2, e2, -, -, -, hrow⟩ := hk.later goodI hbr
              cases e2
              obtain ⟨b, o, rfl, -, u0, u1, u2, u3, u4, -⟩ := hrow k lc[k] hxk
              have hxa := hx lc[k] (List.getElem_mem hlt)
              have HTK : Hid (C2 ++ (lc.take (k + 1)).map (standR self tm frm (frm + lc.length)) = C2 ++ (lc.take k).map (standR self tm frm (frm + lc.length)) ++ [standR self tm frm (frm + lc.length) lc[k]]) := by show _ = _; rw [List.take_add_one, hxk, List.map_append, ← List.append_assoc]; rfl
              generalize lc[k] = x at *
              simp only [Nat.add_zero] at u0
              obtain ⟨cd, hcd⟩ : ∃ cd, cd = C2 ++ (lc.take k).map (standR self tm frm (frm + lc.length)) := ⟨_, rfl⟩
              rw [← hcd] at hO hcl2 hcap HTK ⊢
              clear hcd hrow hxk
              have hk1 : (k : Int) < (lc.length : Int) := by omega
              have hk0 : (0 : Int) ≤ (k : Int) := by omega
              have l4 : ∀ q, (wr.alloc q).cell? ⟨w.heap.size, 4, none⟩ = some (.slice (some ⟨b, o, none⟩) lc.length ck) := fun q => cell_later (bel1 _ _) (hB.below hb).l4
              obtain ⟨xop, xa, xb, xc, xn⟩ := x
              dsimp only at u0 u1 u2 u3 u4 hxa
              obtain ⟨y, HY⟩ : ∃ y, Hid (y = standR self tm frm (frm + lc.length) ⟨xop, xa, xb, xc, xn⟩) := ⟨_, rfl⟩
              rw [← HY.out] at HTK
              go_upto_block 6 with (fail)
              go_cut [] (fun wx => wx = wr.alloc (.cells #[.int .i64 y.op, .int .i64 y.a, .int .i64 y.b, .int .i64 y.c, .string y.name] 69))
              case first =>
                by_cases g1 : xop = 1
                · have hd : (xop == 1) = true := by simpa using g1
                  have HR : Hid (y = ins 3 self 0 0) := by show _ = _; rw [HY.out]; unfold standR; rw [if_pos (by simp only; omega)]
                  obtain rfl := HR.out
                  clear hxa HY HR HTK g1
                  go_wp2_with fail
                  go_meet
                  case rel => rfl
                have d1 : (xop == 1) = false := by simpa using g1
                by_cases g2 : xop = 2
                · have hd : (xop == 2) = true := by simpa using g2
                  have HR : Hid (y = ins 3 (self + 1 + xa) 0 0) := by show _ = _; rw [HY.out]; unfold standR; rw [if_neg (by simp only; omega), if_pos (by simp only; omega)]
                  obtain rfl := HR.out
                  have hxa2 := hxa (by omega)
                  have hw0 : IntKind.i64.wrap (self + 1) = self + 1 := wrap_of (by omega) (by omega)
                  have hw : IntKind.i64.wrap (self + 1 + xa) = self + 1 + xa := wrap_of (by omega) (by omega)
                  clear hxa HY HR HTK g1 g2
                  go_wp2_with fail
                  go_meet
                  case rel => rfl
                have d2 : (xop == 2) = false := by simpa using g2
                by_cases g3 : xop = 3
                · have hd : (xop == 3) = true := by simpa using g3
                  have HR : Hid (y = ⟨xop, xa + tm, xb, xc, xn⟩) := by show _ = _; rw [HY.out]; unfold standR; rw [if_neg (by simp only; omega), if_neg (by simp only; omega), if_pos (by simp only; omega)]
                  obtain rfl := HR.out
                  have hxa2 := hxa (by omega)
                  have hw : IntKind.i64.wrap (xa + tm) = xa + tm := wrap_of (by omega) (by omega)
                  clear hxa HY HR HTK g1 g2 g3
                  go_wp2_with fail
                  go_meet
                  case rel => rfl
                have d3 : (xop == 3) = false := by simpa using g3
                by_cases g11 : xop = 11
                · have hd : (xop == 11) = true := by simpa using g11
                  have HR : Hid (y = ⟨xop, xa + tm, xb, xc, xn⟩) := by show _ = _; rw [HY.out]; unfold standR; rw [if_neg (by simp only; omega), if_neg (by simp only; omega), if_pos (by simp only; omega)]
                  obtain rfl := HR.out
                  have hxa2 := hxa (by omega)
                  have hw : IntKind.i64.wrap (xa + tm) = xa + tm := wrap_of (by omega) (by omega)
                  clear hxa HY HR HTK g1 g2 g3 g11
                  go_wp2_with fail
                  go_meet
                  case rel => rfl
                have d11 : (xop == 11) = false := by simpa using g11
                by_cases g4 : xop = 4
                · have hd : (xop == 4) = true := by simpa using g4
                  have HR : Hid (y = ins 19 self xa 0) := by show _ = _; rw [HY.out]; unfold standR; rw [if_neg (by simp only; omega), if_neg (by simp only; omega), if_neg (by simp only; omega), if_pos (by simp only; omega)]
                  obtain rfl := HR.out
                  clear hxa HY HR HTK g1 g2 g3 g11 g4
                  go_wp2_with fail
                  go_meet
                  case rel => rfl
                have d4 : (xop == 4) = false := by simpa using g4
                by_cases g12 : xop = 12
                · have hd : (xop == 12) = true := by simpa using g12
                  have HR : Hid (y = ins 20 self xa 0) := by show _ = _; rw [HY.out]; unfold standR; rw [if_neg (by simp only; omega), if_neg (by simp only; omega), if_neg (by simp only; omega), if_neg (by simp only; omega), if_pos (by simp only; omega)]
                  obtain rfl := HR.out
                  clear hxa HY HR HTK g1 g2 g3 g11 g4 g12
                  go_wp2_with fail
                  go_meet
                  case rel => rfl
                have d12 : (xop == 12) = false := by simpa using g12
                by_cases g15 : xop = 15
                · have hd : (xop == 15) = true := by simpa using g15
                  have HR : Hid (y = ⟨xop, xa + frm, xb, xc, xn⟩) := by show _ = _; rw [HY.out]; unfold standR; rw [if_neg (by simp only; omega), if_neg (by simp only; omega), if_neg (by simp only; omega), if_neg (by simp only; omega), if_neg (by simp only; omega), if_pos (by simp only; omega)]
                  obtain rfl := HR.out
                  have hxa2 := hxa (by omega)
                  have hw : IntKind.i64.wrap (xa + frm) = xa + frm := wrap_of (by omega) (by omega)
                  clear hxa HY HR HTK g1 g2 g3 g11 g4 g12 g15
                  go_wp2_with fail
                  go_meet
                  case rel => rfl
                have d15 : (xop == 15) = false := by simpa using g15
                by_cases g16 : xop = 16
                · have hd : (xop == 16) = true := by simpa using g16
                  have HR : Hid (y = ⟨xop, xa + frm, xb, xc, xn⟩) := by show _ = _; rw [HY.out]; unfold standR; rw [if_neg (by simp only; omega), if_neg (by simp only; omega), if_neg (by simp only; omega), if_neg (by simp only; omega), if_neg (by simp only; omega), if_pos (by simp only; omega)]
                  obtain rfl := HR.out
                  have hxa2 := hxa (by omega)
                  have hw : IntKind.i64.wrap (xa + frm) = xa + frm := wrap_of (by omega) (by omega)
                  clear hxa HY HR HTK g1 g2 g3 g11 g4 g12 g15 g16
                  go_wp2_with fail
                  go_meet
                  case rel => rfl
                have d16 : (xop == 16) = false := by simpa using g16
                by_cases g17 : xop = 17
                · have hd : (xop == 17) = true := by simpa using g17
                  have HR : Hid (y = ins 15 (frm + lc.length) 0 0) := by show _ = _; rw [HY.out]; unfold standR; rw [if_neg (by simp only; omega), if_neg (by simp only; omega), if_neg (by simp only; omega), if_neg (by simp only; omega), if_neg (by simp only; omega), if_neg (by simp only; omega), if_pos (by simp only; omega)]
                  obtain rfl := HR.out
                  clear hxa HY HR HTK g1 g2 g3 g11 g4 g12 g15 g16 g17
                  go_wp2_with fail
                  go_meet
                  case rel => rfl
                have d17 : (xop == 17) = false := by simpa using g17
                have HR : Hid (y = ⟨xop, xa, xb, xc, xn⟩) := by show _ = _; rw [HY.out]; unfold standR; rw [if_neg (by simp only; omega), if_neg (by simp only; omega), if_neg (by simp only; omega), if_neg (by simp only; omega), if_neg (by simp only; omega), if_neg (by simp only; omega), if_neg (by simp only; omega)]
                obtain rfl := HR.out
                clear hxa HY HR HTK g1 g2 g3 g11 g4 g12 g15 g16 g17
                go_wp2_with fail
                go_meet
                case rel => rfl
              case rest =>
                subst hcut
                go_wp2_with (at_builtin; refine wpList_append_at rfl (.tmp 122) (.tmp 124) 33 69 _ 5 48 rfl Try.underlying33 info69 rfl (by omega) (w.heap.size + 1) cd.length (.slice a cd.length cap) (icells cd) rfl ((hO.alloc _).alloc _) (wr.heap.size + 1) rfl [.int .i64 y.op, .int .i64 y.a, .int .i64 y.b, .int .i64 y.c, .string y.name] rfl (by have e := heap_alloc_new (wr.alloc (.cells #[.int .i64 y.op, .int .i64 y.a, .int .i64 y.b, .int .i64 y.c, .string y.name] 69)) (.cells #[.int .i64 y.op, .int .i64 y.a, .int .i64 y.b, .int .i64 y.c, .string y.name] 69); simpa using e) (by intro u hu; simp only [List.mem_cons, List.not_mem_nil, or_false] at hu; rcases hu with h | h | h | h | h <;> (subst h; rfl)) (by unfold maxLen; omega) (by omega) (by simp; omega) ?_; intro a1 cap1 w1 r1 r2 r3 r4; have hO' := hid (OwnI.more (ys := [y]) r1 rfl rfl); have hb' := hid ((bel_al (bel_al hb (.cells #[.int .i64 y.op, .int .i64 y.a, .int .i64 y.b, .int .i64 y.c, .string y.name] 69) (by omega)) (.cells #[.int .i64 y.op, .int .i64 y.a, .int .i64 y.b, .int .i64 y.c, .string y.name] 69) (by simp; omega)).trans r3); clear r1 r2 r3 r4)
                go_roundg (lc.length - (k + 1))
                case measure => omega
                case rel =>
                  refine ⟨k + 1, _, _, by omega, by go_num, ?_, by rw [HTK.out]; exact hO'.out, hb'.out⟩
                  rw [HTK.out]; simp
            · obtain rfl : k = lc.length := by omega
              have HE : Hid (C2 ++ (lc.take lc.length).map (standR self tm frm (frm + lc.length)) = R) := by show _ = _; rw [HR.out, HC2.out, List.take_length]
              rw [HE.out] at hO ⊢
              have HO := hid (ownI_base (B' := w.heap.size) hO (by omega))
              have HBR := hid hbr
              clear hO hbr hcl2 hcap
              go_wp2
              go_ret
              exact ⟨_, _, rfl, HO.out, HBR.out⟩
theorem pieceR_any {P : Nat → Prop} (leaf : QM) (hsm : Sml leaf) (self cls att : Int) (kv : Value) (w : World) (hk : IsCode P w kv leaf.code) (hs : 0 ≤ self ∧ self ≤ 100) :
    Calls Try.prog 35 #[MV leaf kv, .int .i64 self, .int .i64 cls, .int .i64 att] w fun e w' => ∃ a cap, e = .returned (.slice a (pieceE leaf (ins 18 cls leaf.args att) self 0).length cap) ∧ OwnI w' w.heap.size a cap (pieceE leaf (ins 18 cls leaf.args att) self 0) ∧ Below w.heap.size w w' := by
  obtain ⟨lname, largs, ltemps, lprim, lc⟩ := leaf
  obtain ⟨A, rfl⟩ : ∃ A : Nat, largs = (A : Int) := ⟨largs.toNat, by have := hsm.args; simp only at this; omega⟩
  obtain ⟨T, rfl⟩ : ∃ T : Nat, ltemps = (T : Int) := ⟨ltemps.toNat, by have := hsm.temps; simp only at this; omega⟩
  have h1 := hsm.args
  have h2 := hsm.temps
  have h3 := hsm.len
  simp only at h1 h2 h3 hk
  refine pieceRC_any lname A T lprim lc self cls att kv w hk (by omega) (by omega) hs h3 (fun x hx ho => hsm.code x hx ho) _ rfl (self + 1 + A) (3 + A + 2 * T) rfl rfl _ ?_
  show _ = _
  unfold pieceE headE firstOf
  simp only [Int.toNat_natCast]
  congr 1
  apply List.map_congr_left
  intro x hx
  rw [standR_is hsm _ _ _ _ hx]
  congr 1 <;> omega
end Go.Proofs.Ytlekfiglefopgaa

/- The reference's Fast: what it holds in memory while it makes the pieces. -/
namespace Go.Proofs.Ytlekfiglefopgaa
open Go.ChangeShapes Go.WideShapes Go.ChangeAt Go.RowKit Go.WideMaps Go.Maps
set_option linter.unusedSimpArgs false
set_option linter.unusedVariables false
set_option maxRecDepth 8000

section
variable (xs : List QC) (sites : List Int) (m : QM)
/-- Who stands in for instruction k. -/
def whoAt (k : Nat) : Option QM := match m.code[k]? with
  | none => none
  | some x => whoE xs sites m.code.length (buildB xs sites m k).code.length (buildB xs sites m k).temps k x
/-- The piece that instruction k becomes, told from its beginning. -/
def pcK (k : Nat) : List QI := match m.code[k]? with
  | none => []
  | some x => match whoE xs sites m.code.length (buildB xs sites m k).code.length (buildB xs sites m k).temps k x with
    | none => [stayE x k]
    | some leaf => pieceE leaf (ins 18 (sites.getD k (-1)) leaf.args k) (buildB xs sites m k).temps 0
def ledK (B : List Int) (k : Nat) (y : QI) : QI := if (whoAt xs sites m k).isSome = true then shiftJ (buildB xs sites m k).code.length y else leadJ B y
end
section
variable {xs : List QC} {sites : List Int} {m : QM}
theorem out_succ {B : List Int} {k : Nat} (hk : k < m.code.length) : outR xs sites m B (k + 1) = outR xs sites m B k ++ (pcK xs sites m k).map (ledK xs sites m B k) := by
  have hx : m.code[k]? = some m.code[k] := List.getElem?_eq_getElem hk
  rw [outR, hx]
  unfold pcK ledK whoAt
  rw [hx]
  obtain ⟨o, ho⟩ : ∃ o, whoE xs sites m.code.length (buildB xs sites m k).code.length (buildB xs sites m k).temps k m.code[k] = o := ⟨_, rfl⟩
  simp only [ho]
  cases o with
  | none => simp
  | some leaf => simp
theorem who_none {k : Nat} {x : QI} (hx : m.code[k]? = some x) (h : whoE xs sites m.code.length (buildB xs sites m k).code.length (buildB xs sites m k).temps k x = none) : whoAt xs sites m k = none ∧ pcK xs sites m k = [stayE x k] ∧ (buildB xs sites m (k + 1)).temps = (buildB xs sites m k).temps ∧ (buildB xs sites m (k + 1)).code.length = (buildB xs sites m k).code.length + 1 ∧ (buildB xs sites m (k + 1)).begins = (buildB xs sites m k).begins ++ [((buildB xs sites m k).code.length : Int)] ∧ (buildB xs sites m (k + 1)).pieces = (buildB xs sites m k).pieces := by
  rw [buildB_succ hx]
  unfold whoAt pcK stepB
  simp only [hx, h]
  simp
theorem who_some {k : Nat} {x : QI} {leaf : QM} (hx : m.code[k]? = some x) (h : whoE xs sites m.code.length (buildB xs sites m k).code.length (buildB xs sites m k).temps k x = some leaf) : whoAt xs sites m k = some leaf ∧ pcK xs sites m k = pieceE leaf (ins 18 (sites.getD k (-1)) leaf.args k) (buildB xs sites m k).temps 0 ∧ (buildB xs sites m (k + 1)).temps = (buildB xs sites m k).temps + 1 + leaf.args + leaf.temps ∧ (buildB xs sites m (k + 1)).code.length = (buildB xs sites m k).code.length + (pieceE leaf (ins 18 (sites.getD k (-1)) leaf.args k) (buildB xs sites m k).temps 0).length ∧ (buildB xs sites m (k + 1)).begins = (buildB xs sites m k).begins ++ [((buildB xs sites m k).code.length : Int)] ∧ (buildB xs sites m (k + 1)).pieces = (buildB xs sites m k).pieces + 1 := by
  rw [buildB_succ hx]
  unfold whoAt pcK stepB
  simp only [hx, h]
  simp [pieceE_len]
theorem pc_len {k : Nat} (hk : k < m.code.length) : (buildB xs sites m (k + 1)).code.length = (buildB xs sites m k).code.length + (pcK xs sites m k).length := by
  have hx : m.code[k]? = some m.code[k] := List.getElem?_eq_getElem hk
  cases h : whoE xs sites m.code.length (buildB xs sites m k).code.length (buildB xs sites m k).temps k m.code[k] with
  | none => obtain ⟨-, e1, -, e2, -⟩ := who_none hx h; rw [e1, e2]; rfl
  | some leaf => obtain ⟨-, e1, -, e2, -⟩ := who_some hx h; rw [e1, e2]
/-- The map 'inner', behind k rounds. -/
structure InM (xs : List QC) (sites : List Int) (m : QM) (k : Nat) (D : DataW Unit) : Prop where
  tidy : Tidy D
  has : ∀ j : Nat, Maps.has D (.int .i64 (j : Int)) = (decide (j < k) && (whoAt xs sites m j).isSome)
  val : ∀ j : Nat, D.atKey (.int .i64 (j : Int)) (.lit (.bool false)) = .lit (.bool (decide (j < k) && (whoAt xs sites m j).isSome))
  size : Maps.size D = (buildB xs sites m k).pieces
theorem inM_start : InM xs sites m 0 (.map []) := ⟨tidy_empty, fun j => by simp [Maps.has], fun j => by simp [DataW.atKey], rfl⟩
theorem InM.none {k : Nat} {D : DataW Unit} {x : QI} (h : InM xs sites m k D) (hx : m.code[k]? = some x) (hw : whoE xs sites m.code.length (buildB xs sites m k).code.length (buildB xs sites m k).temps k x = none) : InM xs sites m (k + 1) D := by
  obtain ⟨e1, -, -, -, -, e2⟩ := who_none hx hw
  have hj : ∀ j : Nat, (decide (j < k + 1) && (whoAt xs sites m j).isSome) = (decide (j < k) && (whoAt xs sites m j).isSome) := fun j => by
    by_cases hjk : j = k
    · subst hjk; simp [e1]
    · have : decide (j < k + 1) = decide (j < k) := by congr 1; exact propext ⟨fun h => by omega, fun h => by omega⟩
      rw [this]
  exact ⟨h.tidy, fun j => by rw [hj]; exact h.has j, fun j => by rw [hj]; exact h.val j, by rw [e2]; exact h.size⟩
theorem InM.put {k : Nat} {D : DataW Unit} {x : QI} {leaf : QM} (h : InM xs sites m k D) (hx : m.code[k]? = some x) (hw : whoE xs sites m.code.length (buildB xs sites m k).code.length (buildB xs sites m k).temps k x = some leaf) : InM xs sites m (k + 1) (D.put (.int .i64 (k : Int)) (.lit (.bool true))) := by
  obtain ⟨e1, -, -, -, -, e2⟩ := who_some hx hw
  have hk : WideAt.IsKeyLit (.int .i64 (k : Int)) := trivial
  have hj : ∀ j : Nat, j ≠ k → (decide (j < k + 1) && (whoAt xs sites m j).isSome) = (decide (j < k) && (whoAt xs sites m j).isSome) := fun j hjk => by
    have : decide (j < k + 1) = decide (j < k) := by congr 1; exact propext ⟨fun h => by omega, fun h => by omega⟩
    rw [this]
  have hne : ∀ j : Nat, j ≠ k → (Lit.int .i64 (j : Int)) ≠ .int .i64 (k : Int) := fun j hjk e => by injection e with _ e; omega
  refine ⟨h.tidy.put hk _, fun j => ?_, fun j => ?_, ?_⟩
  · by_cases hjk : j = k
    · subst hjk; rw [has_put_same h.tidy.isMap hk]; simp [e1]
    · rw [has_put_other (hne j hjk), hj j hjk]; exact h.has j
  · by_cases hjk : j = k
    · subst hjk; rw [atKey_put_same h.tidy.isMap hk]; simp [e1]
    · rw [atKey_put_other (hne j hjk), hj j hjk]; exact h.val j
  · rw [size_put h.tidy, h.has k, e2, h.size]; simp
end
theorem law3 : Keyed Try.prog 3 := int_keyed Try.underlying3
theorem zero4 (w : World) : (zeroValue 4).run Try.prog w = .ok (.bool false) w := by kernel_rfl
theorem plainElem_bool_inv {H : Type} {v : Value} {b : Bool} {ps : List MemPlace} (h : plainElem (H := H) Try.prog 4 v = some (.lit (.bool b), ps)) : v = .bool b := by
  unfold plainElem at h
  rw [Try.underlying4] at h
  cases v <;> simp at h
  obtain ⟨rfl, -⟩ := h
  rfl
theorem wpList_lookup_bool {w : World} {ops : Array Oper} {rest : List Oper} {o : Oper} {a : Act} {Q : Exit → Act → World → Prop} (hg : o.guard = none) (m x : Operand) (hop : o.op = Op.lookup 87 m x false) (b n : Nat) (D : DataW Unit)
    (hm : a.eval m = .map (some b)) (hown : w.ownsMap Try.prog 3 (plainElem Try.prog 4) b n D) (key : Value) (kl : Lit) (hx : a.eval x = key) (hkey : keyOf Try.prog 3 key = some kl) (c : Bool) (hc : D.atKey kl (.lit (.bool false)) = .lit (.bool c))
    (hK : wpList Try.prog ops Q rest (a.put o.dst (.bool c)) w) :
    wpList Try.prog ops Q (o :: rest) a w := by
  refine wpList_plain hg fun K' hK' => ?_
  obtain ⟨v, ps, hrun, hv⟩ := hown.lookup law3 Try.underlying87 (zero4 w) (plainElem_bool Try.underlying4 false) hkey
  rw [hc] at hv
  obtain rfl := plainElem_bool_inv hv
  unfold Oper.wp
  simp [execOp, hop, hm, hx, hrun, Result.andThen]
  exact hK' _ _ hK
/-- What lies in memory while the pieces are made: the map, the row of begins, the row of pieces. -/
structure FrL (Z : World) (bm n : Nat) (D : DataW Unit) (pcs : List (List QI)) (pc : List Value) (bl : List Int) (pv bv : Value) (wr : World) : Prop where
  os : wr.os = Z.os
  tape : wr.tape = Z.tape
  output : wr.output = Z.output
  sz : bm + 4 ≤ wr.heap.size
  fix : ∀ b, b < bm + 3 → wr.heap[b]? = Z.heap[b]?
  map : wr.ownsMap Try.prog 3 (plainElem Try.prog 4) (bm + 3) n D
  ob : ownsAt wr (bm + 4) 3 1 bv bl.length (bl.map (Value.int .i64))
  op : ownsAt wr (bm + 4) 33 1 pv pcs.length pc
  ne : ∀ g, bv.ownBlock = some g → pv.ownBlock ≠ some g
  pcs : ∀ (i : Nat) p kv, pcs[i]? = some p → pc[i]? = some kv → IsCode (fun b => bm + 4 ≤ b ∧ bv.ownBlock ≠ some b ∧ pv.ownBlock ≠ some b) wr kv p
section
variable {Z : World} {bm n : Nat} {D : DataW Unit} {pcs : List (List QI)} {pc : List Value} {bl : List Int} {pv bv : Value} {wr w' : World}
theorem both_code {P : Nat → Prop} {w : World} {v : Value} {xs : List QI} (h : IsCode P w v xs) : IsCode (fun b => P b ∧ b < w.heap.size) w v xs := by
  obtain ⟨ad, cap, h1, h2, h3, h4, h5⟩ := h
  refine ⟨ad, cap, h1, h2, h3, h4, fun i x hx => ?_⟩
  obtain ⟨b, o, e1, e2, e3⟩ := h5 i x hx
  exact ⟨b, o, e1, ⟨e2, World.block_lt_of_cell? _ _ e3.1⟩, e3⟩
theorem FrL.later (h : FrL Z bm n D pcs pc bl pv bv wr) (hb : Below wr.heap.size wr w') : FrL Z bm n D pcs pc bl pv bv w' :=
  ⟨hb.os.trans h.os, hb.tape.trans h.tape, hb.output.trans h.output, Nat.le_trans h.sz hb.size, fun b hb' => (hb.block b (by have := h.sz; omega)).trans (h.fix b hb'), h.map.kept ⟨hb.os, hb.tape, hb.output, hb.size, fun k hk _ => hb.block k hk⟩ (row := none) (by simp), h.ob.keep fun g hg => hb.block g (h.ob.lt g hg).2, h.op.keep fun g hg => hb.block g (h.op.lt g hg).2, h.ne, fun i p kv h1 h2 => (h.pcs i p kv h1 h2).later goodI hb⟩
/-- One more beginning. -/
theorem FrL.addB (h : FrL Z bm n D pcs pc bl pv bv wr) {bv' : Value} {t : Int} (r1 : ownsAt w' (bm + 4) 3 1 bv' (bl.length + 1) (bl.map (Value.int .i64) ++ [.int .i64 t])) (r2 : bv'.ownBlock = bv.ownBlock ∨ ∃ g, bv'.ownBlock = some g ∧ wr.heap.size ≤ g) (r3 : Below (bm + 4) wr w') (r4 : ∀ b, b < wr.heap.size → some b ≠ bv.ownBlock → w'.heap[b]? = wr.heap[b]?) : FrL Z bm n D pcs pc (bl ++ [t]) pv bv' w' := by
  have hsz := h.sz
  refine ⟨r3.os.trans h.os, r3.tape.trans h.tape, r3.output.trans h.output, Nat.le_trans hsz r3.size, fun b hb => (r3.block b (by omega)).trans (h.fix b hb), ?_, by simpa using r1, h.op.keep fun g hg => r4 g (h.op.lt g hg).2 (fun e => h.ne g e.symm hg), ?_, ?_⟩
  · obtain ⟨es, clock, h1, h2⟩ := h.map
    exact ⟨es, clock, (r3.block _ (by omega)).trans h1, h2⟩
  · intro g hg hp
    rcases r2 with r2 | ⟨g', e, hl⟩
    · exact h.ne g (r2 ▸ hg) hp
    · rw [e] at hg; cases hg; have := (h.op.lt g hp).2; omega
  · intro i p kv h1 h2
    refine (both_code (h.pcs i p kv h1 h2)).keep goodI (Keeps.of_block fun b hb hl => r4 b hl fun e => hb.1.2.1 e.symm) fun b hb => ⟨hb.1.1, ?_, hb.1.2.2⟩
    rcases r2 with r2 | ⟨g', e, hl⟩
    · rw [r2]; exact hb.1.2.1
    · rw [e]; intro e'; cases e'; exact absurd hb.2 (by omega)
/-- One more piece. -/
theorem FrL.addP (h : FrL Z bm n D pcs pc bl pv bv wr) {pv' kv : Value} {p : List QI} {L : Nat} (hp : IsCode (fun b => L ≤ b) wr kv p) (hL : bm + 4 ≤ L) (hLb : ∀ g, bv.ownBlock = some g → g < L) (hLp : ∀ g, pv.ownBlock = some g → g < L) (r1 : ownsAt w' (bm + 4) 33 1 pv' (pcs.length + 1) (pc ++ [kv])) (r2 : pv'.ownBlock = pv.ownBlock ∨ ∃ g, pv'.ownBlock = some g ∧ wr.heap.size ≤ g) (r3 : Below (bm + 4) wr w') (r4 : ∀ b, b < wr.heap.size → some b ≠ pv.ownBlock → w'.heap[b]? = wr.heap[b]?) : FrL Z bm n D (pcs ++ [p]) (pc ++ [kv]) bl pv' bv w' := by
  have hsz := h.sz
  have hpl : pc.length = pcs.length := by have := h.op.1; omega
  have hnew : ∀ b, b < wr.heap.size → pv.ownBlock ≠ some b → pv'.ownBlock ≠ some b := fun b hb hne => by
    rcases r2 with r2 | ⟨g', e, hl⟩
    · rw [r2]; exact hne
    · rw [e]; intro e'; cases e'; exact absurd hb (by omega)
  refine ⟨r3.os.trans h.os, r3.tape.trans h.tape, r3.output.trans h.output, Nat.le_trans hsz r3.size, fun b hb => (r3.block b (by omega)).trans (h.fix b hb), ?_, h.ob.keep fun g hg => r4 g (h.ob.lt g hg).2 (fun e => h.ne g hg e.symm), by simpa using r1, fun g hg => hnew g (h.ob.lt g hg).2 (h.ne g hg), ?_⟩
  · obtain ⟨es, clock, h1, h2⟩ := h.map
    exact ⟨es, clock, (r3.block _ (by omega)).trans h1, h2⟩
  · intro i q kq h1 h2
    by_cases hi : i < pcs.length
    · rw [List.getElem?_append_left hi] at h1
      rw [List.getElem?_append_left (by omega)] at h2
      exact (both_code (h.pcs i q kq h1 h2)).keep goodI (Keeps.of_block fun b hb hl => r4 b hl fun e => hb.1.2.2 e.symm) fun b hb => ⟨hb.1.1, hb.1.2.1, hnew b hb.2 hb.1.2.2⟩
    · rw [List.getElem?_append_right (by omega)] at h1
      rw [List.getElem?_append_right (by omega)] at h2
      rw [hpl] at h2
      have hz : i - pcs.length = 0 := by
        rcases Nat.eq_zero_or_pos (i - pcs.length) with h' | h'
        · exact h'
        · rw [List.getElem?_eq_none (by simp; omega)] at h1; cases h1
      rw [hz] at h1 h2
      simp only [List.getElem?_cons_zero, Option.some.injEq] at h1 h2
      subst h1 h2
      exact (both_code hp).keep goodI (Keeps.of_block fun b hb hl => r4 b hl fun e => by have := hLp b e.symm; have := hb.1; omega) fun b hb => ⟨by have := hb.1; omega, fun e => by have := hLb b e; have := hb.1; omega, hnew b hb.2 fun e => by have := hLp b e; have := hb.1; omega⟩
/-- The map, changed. -/
theorem FrL.setM (h : FrL Z bm n D pcs pc bl pv bv wr) {n' : Nat} {D' : DataW Unit} (ho : w'.ownsMap Try.prog 3 (plainElem Try.prog 4) (bm + 3) n' D') (hg : wr.grownBy w' (some (bm + 3))) : FrL Z bm n' D' pcs pc bl pv bv w' := by
  have hsz := h.sz
  have hk : ∀ b, b < wr.heap.size → b ≠ bm + 3 → w'.heap[b]? = wr.heap[b]? := fun b hb hne => hg.block b hb (by simpa using hne)
  refine ⟨hg.os.trans h.os, hg.tape.trans h.tape, hg.output.trans h.output, Nat.le_trans hsz hg.size, fun b hb => (hk b (by omega) (by omega)).trans (h.fix b hb), ho, h.ob.keep fun g hg' => hk g (h.ob.lt g hg').2 (by have := (h.ob.lt g hg').1; omega), h.op.keep fun g hg' => hk g (h.op.lt g hg').2 (by have := (h.op.lt g hg').1; omega), h.ne, fun i p kv h1 h2 => (h.pcs i p kv h1 h2).keep goodI (Keeps.of_block fun b hb hl => hk b hl (by have := hb.1; omega)) fun _ h => h⟩
end
end Go.Proofs.Ytlekfiglefopgaa

/- Package fast: rows of fast code. -/
namespace Go.Proofs.Ytlekfiglefopgaa
open Go.ChangeShapes Go.WideShapes Go.ChangeAt Go.RowKit
set_option linter.unusedSimpArgs false
set_option linter.unusedVariables false
set_option maxRecDepth 8000

def FastC : Lay Fst := fun P w f x => f 0 = some (.int .i64 x.cls) ∧ f 1 = some (.string x.name) ∧ f 2 = some (.int .i64 x.epoch) ∧ f 3 = some (.int .i64 x.temps) ∧ ∃ v, f 4 = some v ∧ IsCode P w v x.code
abbrev IsFasts := IsRow FastC 5 64
theorem goodF : Good FastC 5 where
  move h hl hk hf := by
    obtain ⟨h0, h1, h2, h3, v, h5, h6⟩ := h
    exact ⟨hf 0 (by omega) _ h0, hf 1 (by omega) _ h1, hf 2 (by omega) _ h2, hf 3 (by omega) _ h3, v, hf 4 (by omega) _ h5, h6.keep goodI hk hl⟩
  there h k hk := by
    obtain ⟨h0, h1, h2, h3, v, h4, ⟨a, c, rfl, -⟩⟩ := h
    match k, hk with
    | 0, _ => exact ⟨_, h0, rfl⟩
    | 1, _ => exact ⟨_, h1, rfl⟩
    | 2, _ => exact ⟨_, h2, rfl⟩
    | 3, _ => exact ⟨_, h3, rfl⟩
    | 4, _ => exact ⟨_, h4, rfl⟩
  pos := by omega
theorem info35 : (Try.prog.info? 35).map (fun i => (i.zero, i.size, i.bytes)) = some (some (.agg #[.int .i64 0, .string ⟨#[]⟩, .int .i64 0, .int .i64 0, .slice none 0 0]), 5, 64) := by kernel_rfl
/-- Fast code of one method, if it is worth it. -/
def oneF (X : QW) (t : List QT) (c : Nat) (k : Nat) : List Fst := if (methodA X (c : Int) (k : Int) (sitesE X t (c : Int) (k : Int))).2 = true then [(methodA X (c : Int) (k : Int) (sitesE X t (c : Int) (k : Int))).1] else []
def clsF (X : QW) (t : List QT) (c n : Nat) : List Fst := (List.range n).flatMap (oneF X t c)
def nMeth (X : QW) (c : Nat) : Nat := match X.classes[c]? with
  | some x => x.methods.length
  | none => 0
def allF (X : QW) (t : List QT) (n : Nat) : List Fst := (List.range n).flatMap fun c => clsF X t c (nMeth X c)
section
variable {X : QW} {t : List QT}
theorem clsF_succ (c n : Nat) : clsF X t c (n + 1) = clsF X t c n ++ oneF X t c n := by
  unfold clsF; rw [List.range_succ, List.flatMap_append]; simp
theorem allF_succ (n : Nat) : allF X t (n + 1) = allF X t n ++ clsF X t n (nMeth X n) := by
  unfold allF; rw [List.range_succ, List.flatMap_append]; simp
theorem oneF_len (c k : Nat) : (oneF X t c k).length ≤ 1 := by unfold oneF; split <;> simp
theorem clsF_len (c : Nat) : ∀ n, (clsF X t c n).length ≤ n
  | 0 => by simp [clsF]
  | n + 1 => by rw [clsF_succ, List.length_append]; have := clsF_len c n; have := oneF_len (X := X) (t := t) c n; omega
theorem allF_len (h : ∀ c, nMeth X c ≤ 8) : ∀ n, (allF X t n).length ≤ n * 8
  | 0 => by simp [allF]
  | n + 1 => by rw [allF_succ, List.length_append]; have := allF_len h n; have := clsF_len (X := X) (t := t) n (nMeth X n); have := h n; omega
theorem oneF_yes {c k : Nat} {f : Fst} (h : methodA X (c : Int) (k : Int) (sitesE X t (c : Int) (k : Int)) = (f, true)) : oneF X t c k = [f] := by unfold oneF; rw [h]; rfl
theorem oneF_no {c k : Nat} {f : Fst} (h : methodA X (c : Int) (k : Int) (sitesE X t (c : Int) (k : Int)) = (f, false)) : oneF X t c k = [] := by unfold oneF; rw [h]; rfl
end
theorem nMeth_right {X : QW} (h : rightE X = 0) (c : Nat) : nMeth X c ≤ 8 := by
  unfold nMeth
  cases hx : X.classes[c]? with
  | none => simp
  | some x =>
    simp only
    obtain ⟨-, -, hM, -⟩ := right_is h
    have h1 := hM c x (lt_of_get hx) hx
    unfold rkE at h1
    split at h1
    · cases h1
    · split at h1
      · cases h1
      · omega
theorem right_len {X : QW} (h : rightE X = 0) : X.classes.length ≤ 12 := by
  unfold rightE at h
  split at h
  · cases h
  · omega
/-- Fast code so far, in a row of its own; each one's code elsewhere. -/
structure FaL (Z : World) (B : Nat) (fs : List Fst) (cs : List Value) (v : Value) (wr : World) : Prop where
  bel : Below B Z wr
  sz : B ≤ wr.heap.size
  own : ownsAt wr B 35 5 v fs.length cs
  row : Cells FastC 5 (fun b => B ≤ b ∧ v.ownBlock ≠ some b) wr cs fs
theorem cells_near {P Q : Nat → Prop} {wr w' : World} {cs : List Value} {fs : List Fst} (h : Cells FastC 5 P wr cs fs) (hk : ∀ b, P b → b < wr.heap.size → w'.heap[b]? = wr.heap[b]?) (hl : ∀ b, P b → b < wr.heap.size → Q b) : Cells FastC 5 Q w' cs fs :=
  ⟨h.1, fun i x hx => by
    obtain ⟨a0, a1, a2, a3, v, a4, hc⟩ := h.2 i x hx
    exact ⟨a0, a1, a2, a3, v, a4, (both_code hc).keep goodI (Keeps.of_block fun b hb hl' => hk b hb.1 hl') fun b hb => hl b hb.1 hb.2⟩⟩
section
variable {Z : World} {B : Nat} {fs : List Fst} {cs : List Value} {v : Value} {wr w' : World}
theorem faL_new (w : World) (o : Obj) : FaL (w.alloc o) (w.heap.size + 1) [] [] (.slice none 0 0) (w.alloc o) := ⟨Below.refl _ _, by simp, ⟨rfl, Or.inl ⟨rfl, rfl⟩⟩, Cells.nil⟩
theorem FaL.later (h : FaL Z B fs cs v wr) (hb : Below wr.heap.size wr w') : FaL Z B fs cs v w' :=
  ⟨h.bel.trans ⟨hb.os, hb.tape, hb.output, hb.size, fun b hb' => hb.block b (by have := h.sz; omega)⟩, Nat.le_trans h.sz hb.size, h.own.keep fun g hg => hb.block g (h.own.lt g hg).2, h.row.later goodF hb⟩
theorem FaL.add (h : FaL Z B fs cs v wr) {f : Fst} {kv v' : Value} {L : Nat} {P : Nat → Prop} (hkv : IsCode P wr kv f.code) (hP : ∀ b, P b → L ≤ b) (hL : B ≤ L) (hv : ∀ g, v.ownBlock = some g → g < L) (r1 : ownsAt w' B 35 5 v' (fs.length + 1) (cs ++ [.int .i64 f.cls, .string f.name, .int .i64 f.epoch, .int .i64 f.temps, kv])) (r2 : v'.ownBlock = v.ownBlock ∨ ∃ g, v'.ownBlock = some g ∧ wr.heap.size ≤ g) (r3 : Below B wr w') (r4 : ∀ b, b < wr.heap.size → some b ≠ v.ownBlock → w'.heap[b]? = wr.heap[b]?) : FaL Z B (fs ++ [f]) (cs ++ [.int .i64 f.cls, .string f.name, .int .i64 f.epoch, .int .i64 f.temps, kv]) v' w' := by
  have hnew : ∀ b, b < wr.heap.size → v.ownBlock ≠ some b → v'.ownBlock ≠ some b := fun b hb hne => by
    rcases r2 with r2 | ⟨g', e, hl⟩
    · rw [r2]; exact hne
    · rw [e]; intro e'; cases e'; exact absurd hb (by omega)
  refine ⟨h.bel.trans r3, Nat.le_trans h.sz r3.size, by simpa using r1, ?_⟩
  refine (cells_near h.row (fun b hb hl => r4 b hl fun e => hb.2 e.symm) fun b hb hl => ⟨hb.1, hnew b hl hb.2⟩).append goodF (Cells.one goodF rfl ?_)
  refine ⟨rfl, rfl, rfl, rfl, kv, rfl, (both_code hkv).keep goodI (Keeps.of_block fun b hb hl => r4 b hl fun e => by have := hv b e.symm; have := hP b hb.1; omega) fun b hb => ⟨by have := hP b hb.1; omega, hnew b hb.2 fun e => by have := hv b e; have := hP b hb.1; omega⟩⟩
theorem FaL.fasts (h : FaL Z B fs cs v wr) (hl : fs.length ≤ 1000) : IsFasts (fun b => B ≤ b) wr v fs :=
  own_rowAt goodF h.own (cells_near h.row (fun _ _ _ => rfl) fun b hb _ => hb.1) rfl (fun b h1 _ => h1) (by omega)
theorem FaL.form (h : FaL Z B fs cs v wr) : ∃ a cap, v = .slice a fs.length cap ∧ fs.length ≤ cap ∧ cap ≤ 9223372036854775807 := by
  obtain ⟨a, cap, e, h1, h2⟩ := h.own.form
  unfold maxLen at h2
  exact ⟨a, cap, e, h1, by omega⟩
end
end Go.Proofs.Ytlekfiglefopgaa

/- The reference's Fast. -/
namespace Go.Proofs.Ytlekfiglefopgaa
open Go.ChangeShapes Go.WideShapes Go.ChangeAt Go.RowKit Go.WideMaps Go.Maps
set_option linter.unusedSimpArgs false
set_option linter.unusedVariables false
set_option maxRecDepth 8000

theorem info33 : (Try.prog.info? 33).map (fun i => (i.zero, i.size, i.bytes)) = some (some (.slice none 0 0), 1, 24) := by kernel_rfl
/-- What the first loop's rounds keep. -/
def FsR (X : QW) (sites : List Int) (Z : World) (bm : Nat) (m : QM) (gk : Nat) (tv zv pv bv iv : Value) (wr : World) : Prop :=
  ∃ (j n : Nat) (D : DataW Unit) (pc : List Value), j + gk = m.code.length ∧ tv = .int .i64 (buildB X.classes sites m j).temps ∧ zv = .int .i64 ((buildB X.classes sites m j).code.length : Int) ∧ iv = .int .i64 (j : Int) ∧ n ≤ j ∧ InM X.classes sites m j D ∧ FrL Z bm n D ((List.range j).map (pcK X.classes sites m)) pc (buildB X.classes sites m j).begins pv bv wr
/-- Behind the piece of a round. -/
def FsC (X : QW) (sites : List Int) (Z : World) (bm : Nat) (m : QM) (j L : Nat) (pc : List Value) (pv bv : Value) (tv kv : Value) (wx : World) : Prop :=
  ∃ (pa : Option Addr) (pcap n : Nat) (D : DataW Unit), tv = .int .i64 (buildB X.classes sites m (j + 1)).temps ∧ kv = .slice pa (pcK X.classes sites m j).length pcap ∧ n ≤ j + 1 ∧ InM X.classes sites m (j + 1) D ∧ FrL Z bm n D ((List.range j).map (pcK X.classes sites m)) pc (buildB X.classes sites m (j + 1)).begins pv bv wx ∧ IsCode (fun b => L ≤ b) wx (.slice pa (pcK X.classes sites m j).length pcap) (pcK X.classes sites m j)
section
variable {X : QW} {sites : List Int} {Z : World} {bm : Nat} {m : QM} {j L n : Nat} {D : DataW Unit} {pc : List Value} {pv bv : Value} {wx : World} {x : QI}
theorem fs_none (hx : m.code[j]? = some x) (hw : whoE X.classes sites m.code.length (buildB X.classes sites m j).code.length (buildB X.classes sites m j).temps j x = none) (hnm : x.name.size ≤ 140737488351232) (hI : InM X.classes sites m j D) (hn : n ≤ j) (hL : FrL Z bm n D ((List.range j).map (pcK X.classes sites m)) pc ((buildB X.classes sites m j).begins ++ [((buildB X.classes sites m j).code.length : Int)]) pv bv wx)
    (hp : wx.heap[L]? = some (.cells (icells [stayE x (j : Int)]).toArray 69 (0, 0))) : FsC X sites Z bm m j L pc pv bv (.int .i64 (buildB X.classes sites m j).temps) (.slice (some ⟨L, 0, none⟩) 1 1) wx := by
  obtain ⟨-, e1, e2, -, e4, -⟩ := who_none hx hw
  have hO : ownsAt wx L 69 5 (.slice (some ⟨L, 0, none⟩) [stayE x (j : Int)].length 1) [stayE x (j : Int)].length (icells [stayE x (j : Int)]) := ⟨rfl, Or.inr ⟨L, 0, 1, _, rfl, Nat.le_refl _, hp, Nat.le_refl _, by unfold maxLen; omega, by simp [icells_len], by simp [icells]⟩⟩
  refine ⟨some ⟨L, 0, none⟩, 1, n, D, by rw [e2], by rw [e1]; rfl, by omega, hI.none hx hw, by rw [e4]; exact hL, ?_⟩
  rw [e1]
  refine ic_row hO (fun y hy => ?_) (fun b h1 h2 => h1) (by simp)
  simp only [List.mem_cons, List.not_mem_nil, or_false] at hy
  subst hy
  unfold stayE; split <;> exact hnm
theorem fs_some {leaf : QM} {ks : Int} {pa : Option Addr} {pcap : Nat} {B : Nat} (hx : m.code[j]? = some x) (hks : sites.getD j (-1) = ks) (hw : whoE X.classes sites m.code.length (buildB X.classes sites m j).code.length (buildB X.classes sites m j).temps j x = some leaf) (hs : Sml leaf) (hnm : NmOk leaf.code) (hI : InM X.classes sites m (j + 1) D) (hn : n ≤ j + 1) (hL : FrL Z bm n D ((List.range j).map (pcK X.classes sites m)) pc ((buildB X.classes sites m j).begins ++ [((buildB X.classes sites m j).code.length : Int)]) pv bv wx)
    (hO : OwnI wx B pa pcap (pieceE leaf (ins 18 ks leaf.args (j : Int)) (buildB X.classes sites m j).temps 0)) (hB : L ≤ B) : FsC X sites Z bm m j L pc pv bv (.int .i64 ((buildB X.classes sites m j).temps + 1 + leaf.args + leaf.temps)) (.slice pa (pieceE leaf (ins 18 ks leaf.args (j : Int)) (buildB X.classes sites m j).temps 0).length pcap) wx := by
  subst hks
  obtain ⟨-, e1, e2, -, e4, -⟩ := who_some hx hw
  have hl := pieceE_len leaf (ins 18 (sites.getD j (-1)) leaf.args (j : Int)) (buildB X.classes sites m j).temps 0
  refine ⟨pa, pcap, n, D, by rw [e2], by rw [e1], hn, hI, by rw [e4]; exact hL, ?_⟩
  rw [e1]
  exact ic_row hO (piece_nm hnm _ nm0 _ _) (fun b h1 h2 => by omega) (by have := hs.args; have := hs.temps; have := hs.len; omega)
end
theorem who_op {xs : List QC} {sites : List Int} {len : Nat} {n temps : Int} {at' : Nat} {x : QI} (h : x.op ≠ 14) : whoE xs sites len n temps at' x = none := by
  unfold whoE standsIn; rw [if_neg (fun h' => h h'.1)]
theorem who_site {xs : List QC} {sites : List Int} {len : Nat} {n temps : Int} {at' : Nat} {x : QI} (h : sites.getD at' (-1) < 0) : whoE xs sites len n temps at' x = none := by
  unfold whoE standsIn; rw [if_neg (fun h' => by omega)]
theorem who_find {xs : List QC} {sites : List Int} {len : Nat} {n temps : Int} {at' : Nat} {x : QI} (h : (findE xs (sites.getD at' (-1)) x.name).2 < 0) : whoE xs sites len n temps at' x = none := by
  unfold whoE standsIn methOf
  rw [if_pos h]
  split
  · rfl
  · rename_i h'
    split at h' <;> cases h'
theorem who_found {xs : List QC} {sites : List Int} {len : Nat} {n temps : Int} {at' : Nat} {x : QI} {q t : Nat} {xc : QC} {y : QM} (ho : x.op = 14) (hs : 0 ≤ sites.getD at' (-1)) (h : findE xs (sites.getD at' (-1)) x.name = ((q : Int), (t : Int))) (hx : xs[q]? = some xc) (hy : xc.methods[t]? = some y) : whoE xs sites len n temps at' x = if y.args = x.a ∧ leafE y = true ∧ roomE n temps y ((len : Int) - at') = true then some y else none := by
  unfold whoE standsIn methOf
  rw [if_pos ⟨ho, hs⟩, if_neg (by rw [h]; simp only; omega), h]
  simp only [Int.toNat_natCast, hx, hy, Option.bind_some]
  by_cases h1 : y.args = x.a ∧ leafE y = true
  · rw [if_pos h1]
    simp only
    by_cases h2 : roomE n temps y ((len : Int) - at') = true
    · rw [if_pos h2, if_pos ⟨h1.1, h1.2, h2⟩]
    · rw [if_neg h2, if_neg fun h => h2 h.2.2]
  · rw [if_neg h1, if_neg fun h => h1 ⟨h.1, h.2.1⟩]
theorem RbX.same {w Z wr : World} {cv hv : Value} {ep : Int} (h : RbX w cv hv ep Z) (hb : ∀ b, b < w.heap.size + 2 → wr.heap[b]? = Z.heap[b]?) (hs : w.heap.size + 2 ≤ wr.heap.size) : RbX w cv hv ep wr := by
  have e : ∀ b o, b < w.heap.size + 2 → wr.cell? ⟨b, o, none⟩ = Z.cell? ⟨b, o, none⟩ := fun b o hl => by unfold World.cell?; rw [hb b hl]
  have f : ∀ b o, b < w.heap.size + 2 → wr.frozen? ⟨b, o, none⟩ = Z.frozen? ⟨b, o, none⟩ := fun b o hl => by unfold World.frozen?; rw [hb b hl]
  obtain ⟨k0, k1, k2, q0, q1, q2, q3, q4, qf, hz⟩ := h
  exact ⟨by rw [e _ _ (by omega)]; exact k0, by rw [e _ _ (by omega)]; exact k1, by rw [e _ _ (by omega)]; exact k2, by rw [e _ _ (by omega)]; exact q0, by rw [e _ _ (by omega)]; exact q1, by rw [e _ _ (by omega)]; exact q2, by rw [e _ _ (by omega)]; exact q3, by rw [e _ _ (by omega)]; exact q4, fun o => by rw [f _ _ (by omega)]; exact qf o, hs⟩
/-- A row of pieces is read. -/
theorem own_cell1 {w : World} {B n : Nat} {e : TypeId} {ad : Option Addr} {k cap : Nat} {xs : List Value} (h : ownsAt w B e 1 (.slice ad k cap) n xs) {i : Nat} {u : Value} (hi : xs[i]? = some u) : ∃ b o, ad = some ⟨b, o, none⟩ ∧ w.cell? ⟨b, o + i, none⟩ = some u := by
  obtain ⟨h0, ⟨h1, h2⟩ | ⟨g, o, c, cur, e1, h3, h4, h5, h6, h7, h8⟩⟩ := h
  · have := lt_of_get hi; omega
  · cases e1
    refine ⟨g, o, rfl, ?_⟩
    rw [cell_of_row _ _ _ _ _ _ h4]
    rw [← h8, List.getElem?_take] at hi
    split at hi
    · rw [List.getElem?_drop] at hi; simpa using hi
    · cases hi
/-- What is put out so far. -/
structure OuS (Zr : World) (bo : Nat) (c : Int) (name : ByteArray) (ep tm : Int) (code : List QI) (a : Option Addr) (cap : Nat) (wr : World) : Prop where
  box : wr.heap[bo]? = some (.cells #[.int .i64 c, .string name, .int .i64 ep, .int .i64 tm, .slice a code.length cap] 35 (0, 0))
  own : OwnI wr (bo + 1) a cap code
  bel : Below bo Zr wr
  sz : bo + 1 ≤ wr.heap.size
theorem OuS.later {Zr : World} {bo : Nat} {c : Int} {name : ByteArray} {ep tm : Int} {code : List QI} {a : Option Addr} {cap : Nat} {wr w' : World} (h : OuS Zr bo c name ep tm code a cap wr) (hb : Below wr.heap.size wr w') : OuS Zr bo c name ep tm code a cap w' :=
  ⟨box_later' h.box hb, h.own.keep fun g hg => hb.block g (h.own.lt g hg).2, h.bel.trans ⟨hb.os, hb.tape, hb.output, hb.size, fun b hb' => hb.block b (by have := h.sz; omega)⟩, Nat.le_trans h.sz hb.size⟩
theorem OuS.add {Zr : World} {bo : Nat} {c : Int} {name : ByteArray} {ep tm : Int} {code ys : List QI} {a a' : Option Addr} {cap cap' : Nat} {wr w' : World} (h : OuS Zr bo c name ep tm code a cap wr) (r1 : OwnI w' (bo + 1) a' cap' (code ++ ys)) (r3 : Below (bo + 1) wr w') : OuS Zr bo c name ep tm (code ++ ys) a' cap' (w'.setCell ⟨bo, 4, none⟩ (.slice a' (code ++ ys).length cap')) := by
  have hd : Below bo w' (w'.setCell ⟨bo, 4, none⟩ (.slice a' (code ++ ys).length cap')) := (Below.refl bo w').setCell (Nat.le_refl _) _
  refine ⟨?_, r1.keep fun g hg => setCell_else (by have := (r1.lt g hg).1; omega) _, h.bel.trans (Below.trans ⟨r3.os, r3.tape, r3.output, r3.size, fun b hb' => r3.block b (by omega)⟩ hd), by rw [size_setCell]; exact Nat.le_trans h.sz r3.size⟩
  rw [setCell_same (show w'.heap[bo]? = _ by rw [r3.block _ (by omega)]; exact h.box)]; rfl
theorem OuS.cell {Zr : World} {bo : Nat} {c : Int} {name : ByteArray} {ep tm : Int} {code : List QI} {a : Option Addr} {cap : Nat} {wr : World} (h : OuS Zr bo c name ep tm code a cap wr) : wr.cell? ⟨bo, 0, none⟩ = some (.int .i64 c) ∧ wr.cell? ⟨bo, 1, none⟩ = some (.string name) ∧ wr.cell? ⟨bo, 2, none⟩ = some (.int .i64 ep) ∧ wr.cell? ⟨bo, 3, none⟩ = some (.int .i64 tm) ∧ wr.cell? ⟨bo, 4, none⟩ = some (.slice a code.length cap) := by
  refine ⟨?_, ?_, ?_, ?_, ?_⟩ <;> (rw [cell_of_row _ _ _ _ _ _ h.box]; rfl)
theorem ous_new {Zr : World} (c : Int) (name : ByteArray) (ep tm : Int) : OuS Zr Zr.heap.size c name ep tm [] none 0 (Zr.alloc (.cells #[.int .i64 c, .string name, .int .i64 ep, .int .i64 tm, .slice none 0 0] 35)) :=
  ⟨heap_alloc_new Zr _, ⟨rfl, Or.inl ⟨rfl, rfl⟩⟩, bel1 _ _, by simp⟩
theorem out_len {xs : List QC} {sites : List Int} {m : QM} (B : List Int) : ∀ {k : Nat}, k ≤ m.code.length → (outR xs sites m B k).length = (buildB xs sites m k).code.length
  | 0, _ => rfl
  | k + 1, h => by
    rw [out_succ (by omega), List.length_append, List.length_map, out_len B (k := k) (by omega), pc_len (by omega)]
theorem pc_jump {X : QW} (hX : rightE X = 0) {sites : List Int} {m : QM} (hm : Sml m) {k : Nat} (hk : k < m.code.length) {y : QI} (hy : y ∈ pcK X.classes sites m k) (hj : jmp y) : ((whoAt X.classes sites m k).isSome = true → 0 ≤ y.a ∧ y.a ≤ 240) ∧ ((whoAt X.classes sites m k).isSome = false → 0 ≤ y.a ∧ y.a < m.code.length) := by
  have hx : m.code[k]? = some m.code[k] := List.getElem?_eq_getElem hk
  cases h : whoE X.classes sites m.code.length (buildB X.classes sites m k).code.length (buildB X.classes sites m k).temps k m.code[k] with
  | none =>
    obtain ⟨e0, e1, -⟩ := who_none hx h
    rw [e1] at hy
    simp only [List.mem_cons, List.not_mem_nil, or_false] at hy
    refine ⟨fun h => by rw [e0] at h; simp at h, fun _ => ?_⟩
    subst hy
    unfold jmp at hj
    have ho : (stayE m.code[k] (k : Int)).op = m.code[k].op := by unfold stayE; split <;> rfl
    have ha : (stayE m.code[k] (k : Int)).a = m.code[k].a := by unfold stayE; split <;> rfl
    rw [ho] at hj
    rw [ha]
    exact hm.jump _ (List.getElem_mem hk) hj
  | some leaf =>
    obtain ⟨e0, e1, -, e3, -⟩ := who_some hx h
    refine ⟨fun _ => ?_, fun h => by rw [e0] at h; simp at h⟩
    have hst : standsIn X.classes sites k m.code[k] = some leaf := by
      unfold whoE at h
      split at h
      · cases h
      · rename_i l hl
        split at h
        · cases h; exact hl
        · cases h
    obtain ⟨hs, -⟩ := stands_small hX hst
    have hb := build_small hX (sites := sites) hm (k := k + 1) (by omega)
    rw [e1] at hy
    rcases piece_good hs _ _ 0 (Int.le_refl _) y hy with h1 | ⟨-, h1⟩
    · subst h1; unfold jmp at hj; simp at hj
    · have := h1 hj
      rw [e3] at hb
      omega
/-- The box of an instruction, led. -/
def ZbR (wr : World) (z : QI) (wx : World) : Prop := wx.heap[wr.heap.size]? = some (.cells #[.int .i64 z.op, .int .i64 z.a, .int .i64 z.b, .int .i64 z.c, .string z.name] 69 (0, 0)) ∧ Below wr.heap.size wr wx ∧ wr.heap.size + 1 ≤ wx.heap.size
theorem zb_new (wr : World) (z : QI) : ZbR wr z (wr.alloc (.cells #[.int .i64 z.op, .int .i64 z.a, .int .i64 z.b, .int .i64 z.c, .string z.name] 69)) := ⟨heap_alloc_new wr _, bel1 _ _, by simp⟩
theorem zb_drew (wr : World) (z : QI) : ZbR wr z (wr.alloc (.cells #[.int .i64 z.op, .int .i64 z.a, .int .i64 z.b, .int .i64 z.c, .string z.name] 69)).drew := ⟨heap_alloc_new wr _, (bel1 wr _).drew, (zb_new wr z).2.2⟩
set_option maxHeartbeats 4000000 in
theorem fastC_any {P Q : Nat → Prop} (X : QW) (hX : rightE X = 0) (c k : Int) (m : QM) (hm : methAt X.classes c k = some m) (sites : List Int) (cv hv sv : Value) (w : World) (hC : IsClasses P w cv X.classes) (hH : IsHeap P w hv X.heap) (hS : IsInts Q w sv sites) :
    Calls Try.prog 16 #[WV cv hv X.epoch, .int .i64 c, .int .i64 k, sv] w fun e w' => MtPost w (fastM X c m sites) e w' := by
  obtain ⟨ac, cc, rfl, -, hcc, -, hrowC⟩ := id (bound_classes hC)
  obtain ⟨ah, ch, rfl, -⟩ := id hH
  obtain ⟨asv, cs, rfl, hls, hcs, -, hrowS⟩ := id hS
  unfold maxLen at hcs hcc
  have hSm := meth_small hX hm
  obtain ⟨qc, tc, xc, rfl, rfl, hxc, hmt⟩ := meth_at hm
  obtain ⟨b1, o1, hb1e, -, -, -, -, -, mv, u3, hms⟩ := hrowC qc xc hxc
  obtain ⟨am, cm, rfl, hlm, hcm, -, hrm⟩ := hms
  obtain ⟨b2, o2, rfl, -, v0, v1, v2, v3, -, kv, v4, hco⟩ := hrm tc m hmt
  obtain ⟨ak, ck, rfl, hlk, hck, -, hrowK⟩ := id hco
  subst hb1e
  simp only [Nat.add_zero] at v0
  unfold maxLen at hcm hck
  have hq := lt_of_get hxc
  have ht := lt_of_get hmt
  have hq1 : (qc : Int) < (X.classes.length : Int) := by omega
  have hq0 : (0 : Int) ≤ (qc : Int) := by omega
  have ht1 : (tc : Int) < (xc.methods.length : Int) := by omega
  have ht0 : (0 : Int) ≤ (tc : Int) := by omega
  have hq2 : decide (X.classes.length ≤ qc) = false := by simp; omega
  have ht2 : decide (xc.methods.length ≤ tc) = false := by simp; omega
  have hq3 : decide ((qc : Int) < 0) = false := by simp
  have ht3 : decide ((tc : Int) < 0) = false := by simp
  have hbW := bel2 w (.cells #[.slice (some ⟨b1, o1, none⟩) X.classes.length cc, .slice ah X.heap.length ch, .int .i64 X.epoch] 25) (.cells #[.int .i64 0, .string ⟨#[]⟩, .int .i64 0, .int .i64 0, .slice none 0 0] 35)
  have hmm := @run_makeMap Try.prog
  replace u3 := cell_later hbW u3
  replace v0 := cell_later hbW v0
  replace v1 := cell_later hbW v1
  replace v2 := cell_later hbW v2
  replace v3 := cell_later hbW v3
  replace v4 := cell_later hbW v4
  obtain ⟨k0, k1, k2, q0, q1, q2, q3, q4, qf, hzz⟩ := rbx_new w (.slice (some ⟨b1, o1, none⟩) X.classes.length cc) (.slice ah X.heap.length ch) X.epoch
  go_enter Try.func16, Try.ntmps16
  go_upto_region 8 with (fail)
  have hZ : ∃ Z, Z = (((w.alloc (.cells #[.slice (some ⟨b1, o1, none⟩) X.classes.length cc, .slice ah X.heap.length ch, .int .i64 X.epoch] 25)).alloc (.cells #[.int .i64 0, .string ⟨#[]⟩, .int .i64 0, .int .i64 0, .slice none 0 0] 35)).alloc (.cells #[.string m.name, .int .i64 m.args, .int .i64 m.temps, .int .i64 m.prim, .slice ak m.code.length ck] 44)).alloc (.map #[] 0) := ⟨_, rfl⟩
  obtain ⟨Z, hZ⟩ := hZ
  have hbZ : Below w.heap.size w Z := by rw [hZ]; exact nstep hbW (bel2 _ _ _)
  have hrb : RbX w (.slice (some ⟨b1, o1, none⟩) X.classes.length cc) (.slice ah X.heap.length ch) X.epoch Z := by rw [hZ]; exact (rbx_new w _ _ _).later (bel2 _ _ _)
  have hmb : Z.heap[w.heap.size + 2]? = some (.cells #[.string m.name, .int .i64 m.args, .int .i64 m.temps, .int .i64 m.prim, .slice ak m.code.length ck] 44 (0, 0)) := by rw [hZ]; exact box_later' (by have := heap_alloc_new ((w.alloc (.cells #[.slice (some ⟨b1, o1, none⟩) X.classes.length cc, .slice ah X.heap.length ch, .int .i64 X.epoch] 25)).alloc (.cells #[.int .i64 0, .string ⟨#[]⟩, .int .i64 0, .int .i64 0, .slice none 0 0] 35)) (.cells #[.string m.name, .int .i64 m.args, .int .i64 m.temps, .int .i64 m.prim, .slice ak m.code.length ck] 44); simpa using this) (bel1 _ _)
  have hL0 : FrL Z w.heap.size 0 (.map []) [] [] [] (.slice none 0 0) (.slice none 0 0) Z := by
    refine ⟨rfl, rfl, rfl, by rw [hZ]; simp, fun _ _ => rfl, ?_, ⟨rfl, Or.inl ⟨rfl, rfl⟩⟩, ⟨rfl, Or.inl ⟨rfl, rfl⟩⟩, fun g hg => by simp [Value.ownBlock] at hg, fun i p kv h1 h2 => by simp at h1⟩
    rw [hZ]
    have := World.ownsMap_made (H := Unit) (P := Try.prog) (((w.alloc (.cells #[.slice (some ⟨b1, o1, none⟩) X.classes.length cc, .slice ah X.heap.length ch, .int .i64 X.epoch] 25)).alloc (.cells #[.int .i64 0, .string ⟨#[]⟩, .int .i64 0, .int .i64 0, .slice none 0 0] 35)).alloc (.cells #[.string m.name, .int .i64 m.args, .int .i64 m.temps, .int .i64 m.prim, .slice ak m.code.length ck] 44)) 3 (plainElem Try.prog 4)
    simpa using this
  rw [← hZ]
  clear hZ hmm k0 k1 k2 q0 q1 q2 q3 q4 qf hzz u3 v0 v1 v2 v3 v4 hbW hq2 ht2 hq3 ht3 hrm hrowC
  simp only [Nat.add_assoc, Nat.reduceAdd]
  have m4 : Z.cell? ⟨w.heap.size + 2, 4, none⟩ = some (.slice ak m.code.length ck) := by rw [cell_of_row _ _ _ _ _ _ hmb]; rfl
  have hn60 := hSm.len
  go_wp2
  clear m4
  go_loopg [11, 12, 13, 14, 68] m.code.length (fun gk tv zv pv bv iv wr => FsR X sites Z w.heap.size m gk tv zv pv bv iv wr)
  case atStart => exact ⟨0, 0, .map [], [], by omega, rfl, rfl, rfl, Nat.le_refl _, inM_start, hL0⟩
  case round =>
    clear hL0
    obtain ⟨j, n, D, pc, hj, rfl, rfl, rfl, hnj, hI, hL⟩ := hrel
    rename_i pv bv _
    obtain ⟨bap, bcp, rfl, hbl, hbc⟩ := hL.ob.form
    obtain ⟨pap, pcp, rfl, hpl, hpc⟩ := hL.op.form
    unfold maxLen at hbc hpc
    have hbsl := build_begins (xs := X.classes) (sites := sites) (m := m) (k := j) (by omega)
    obtain ⟨s, HS⟩ : ∃ s, Hid (s = buildB X.classes sites m j) := ⟨_, rfl⟩
    have hsm := build_small hX (sites := sites) hSm (k := j) (by omega)
    rw [← HS.out] at hL hbl hbsl hsm ⊢
    rw [hbsl] at hbl ⊢
    simp only [List.length_map, List.length_range] at hpl ⊢
    have hwZ := hL.sz
    by_cases hlt : j < m.code.length
    · obtain ⟨x, hxj⟩ : ∃ x, m.code[j]? = some x := ⟨_, List.getElem?_eq_getElem hlt⟩
      have HX := hid hxj
      have hbr : Below w.heap.size w wr := ⟨hL.os.trans hbZ.os, hL.tape.trans hbZ.tape, hL.output.trans hbZ.output, by omega, fun b hb => (hL.fix b (by omega)).trans (hbZ.block b hb)⟩
      obtain ⟨ad2, cap2, e2, -, -, -, hrow⟩ := hco.later goodI hbr
      cases e2
      obtain ⟨bk, ok, rfl, -, y0, y1, y2, y3, y4, hxn⟩ := hrow j x hxj
      simp only [Nat.add_zero] at y0
      clear hrow hxj
      have hj1 : (j : Int) < (m.code.length : Int) := by omega
      have hj0 : (0 : Int) ≤ (j : Int) := by omega
      have hob : ∀ o1 o2, ownsAt ((wr.alloc o1).alloc o2) (w.heap.size + 4) 3 1 (.slice bap j bcp) j (s.begins.map (Value.int .i64)) := fun o1 o2 => by have := (hL.ob.alloc o1).alloc o2; rwa [hbsl] at this
      have e1 : (wr.alloc (.cells #[.int .i64 x.op, .int .i64 x.a, .int .i64 x.b, .int .i64 x.c, .string x.name] 69)).heap.size = wr.heap.size + 1 := by simp
      go_upto_region 12 with (at_builtin; refine wpList_append_at rfl (.tmp 73) (.tmp 75) 63 3 _ 1 8 rfl Try.underlying63 info3 rfl (by omega) (w.heap.size + 4) j (.slice bap j bcp) (s.begins.map (Value.int .i64)) rfl (hob _ _) (wr.heap.size + 1) rfl [.int .i64 (s.code.length : Int)] rfl (by have := heap_alloc_new (wr.alloc (.cells #[.int .i64 x.op, .int .i64 x.a, .int .i64 x.b, .int .i64 x.c, .string x.name] 69)) (.cells #[.int .i64 (s.code.length : Int)] 3); simpa using this) (by intro u hu; simp only [List.mem_cons, List.not_mem_nil, or_false] at hu; subst hu; rfl) (by unfold maxLen; omega) (by omega) (by simp; omega) ?_; intro a1 cap1 w1 r1 r2 r3 r4)
      have hL1 : FrL Z w.heap.size n D ((List.range j).map (pcK X.classes sites m)) pc (s.begins ++ [(s.code.length : Int)]) (.slice pap j pcp) (.slice a1 (j + 1) cap1) w1 := by
        have hh := (hL.later (bel1 wr (.cells #[.int .i64 x.op, .int .i64 x.a, .int .i64 x.b, .int .i64 x.c, .string x.name] 69))).later (bel1 _ (.cells #[.int .i64 (s.code.length : Int)] 3))
        simp only [List.length_map, List.length_range] at hh
        rw [hbsl] at hh
        exact hh.addB (by rw [hbsl]; exact r1) r2 r3 r4
      have hw1 : wr.heap.size + 2 ≤ w1.heap.size := by have := r3.size; simp at this; omega
      have hxo : ∀ (o : Nat) (v : Value), (#[.int .i64 x.op, .int .i64 x.a, .int .i64 x.b, .int .i64 x.c, .string x.name] : Array Value)[o]? = some v → w1.cell? ⟨wr.heap.size, o, none⟩ = some v := fun o v hv => by
        unfold World.cell?
        rw [r4 wr.heap.size (by simp; omega) (fun e => by have := (hL.ob.lt wr.heap.size (by rw [hbsl]; exact e.symm)).2; omega), (bel1 _ (.cells #[.int .i64 (s.code.length : Int)] 3)).block _ (by simp), heap_alloc_new]
        exact hv
      have hbw1 : Below w.heap.size w w1 := ⟨hL1.os.trans hbZ.os, hL1.tape.trans hbZ.tape, hL1.output.trans hbZ.output, by have := hL1.sz; omega, fun b hb => (hL1.fix b (by omega)).trans (hbZ.block b hb)⟩
      have x0 := hxo 0 _ rfl
      have x1 := hxo 1 _ rfl
      have x2 := hxo 2 _ rfl
      have x3 := hxo 3 _ rfl
      have x4 := hxo 4 _ rfl
      have hLob := hL.ob.lt
      have hLop := fun g hg => Nat.lt_of_lt_of_le (hL.op.lt g hg).2 (show wr.heap.size ≤ w1.heap.size by omega)
      simp only [List.length_map, List.length_range] at hLop
      clear r1 r2 r3 r4 hob hxo hL hbl hbc y0 y1 y2 y3 y4 hbr hLob e1
      have x0' := fun o => cell_later (bel1 w1 o) x0
      have x1' := fun o => cell_later (bel1 w1 o) x1
      have x4' := fun o => cell_later (bel1 w1 o) x4
      generalize wr.heap.size = bx at *
      go_upto_if 81 with (fail)
      have hPB : (w1.alloc (.cells #[.int .i64 x.op, .int .i64 x.a, .int .i64 x.b, .int .i64 x.c, .string x.name] 69)).heap[w1.heap.size]? = some (.cells (icells [x]).toArray 69 (0, 0)) := heap_alloc_new w1 _
      have hbP := bel1 w1 (.cells #[.int .i64 x.op, .int .i64 x.a, .int .i64 x.b, .int .i64 x.c, .string x.name] 69)
      obtain ⟨L, HLe⟩ : ∃ L, Hid (L = w1.heap.size) := ⟨_, rfl⟩
      rw [← HLe.out] at hPB hw1 hLop ⊢
      go_cut [11, 18] (fun tv kv wx => FsC X sites Z w.heap.size m j L pc (.slice pap j pcp) (.slice a1 (j + 1) cap1) tv kv wx)
      case first =>
        have HNO : Hid (∀ wx, whoE X.classes sites m.code.length s.code.length s.temps j x = none → FrL Z w.heap.size n D ((List.range j).map (pcK X.classes sites m)) pc (s.begins ++ [(s.code.length : Int)]) (.slice pap j pcp) (.slice a1 (j + 1) cap1) wx → wx.heap[L]? = some (.cells (icells [stayE x (j : Int)]).toArray 69 (0, 0)) → FsC X sites Z w.heap.size m j L pc (.slice pap j pcp) (.slice a1 (j + 1) cap1) (.int .i64 s.temps) (.slice (some ⟨L, 0, none⟩) 1 1) wx) := fun wx h1 h2 h3 => by
          rw [HS.out] at h1 h2 ⊢
          exact fs_none HX.out h1 hxn hI hnj h2 h3
        by_cases h14 : x.op = 14
        · have hd : (x.op == 14) = true := by simpa using h14
          have HST : Hid (stayE x (j : Int) = { x with c := (j : Int) }) := by show _ = _; unfold stayE; rw [if_pos h14]
          have HO := hid h14
          clear h14
          have pf : ∀ o, (w1.alloc (.cells #[.int .i64 x.op, .int .i64 x.a, .int .i64 x.b, .int .i64 x.c, .string x.name] 69)).frozen? ⟨L, o, none⟩ = false := row_free hPB
          have p3 : (w1.alloc (.cells #[.int .i64 x.op, .int .i64 x.a, .int .i64 x.b, .int .i64 x.c, .string x.name] 69)).cell? ⟨L, 3, none⟩ = some (.int .i64 x.c) := by rw [cell_of_row _ _ _ _ _ _ hPB]; rfl
          go_upto_region 15 with (fail)
          clear p3
          have hPB2 : ((w1.alloc (.cells #[.int .i64 x.op, .int .i64 x.a, .int .i64 x.b, .int .i64 x.c, .string x.name] 69)).setCell ⟨L, 3, none⟩ (.int .i64 (j : Int))).heap[L]? = some (.cells (icells [stayE x (j : Int)]).toArray 69 (0, 0)) := by rw [HST.out, setCell_same hPB]; rfl
          have hbQ : Below w1.heap.size w1 ((w1.alloc (.cells #[.int .i64 x.op, .int .i64 x.a, .int .i64 x.b, .int .i64 x.c, .string x.name] 69)).setCell ⟨L, 3, none⟩ (.int .i64 (j : Int))) := hbP.setCell (by rw [HLe.out]; exact Nat.le_refl _) _
          have hL2 := hL1.later hbQ
          have hbw2 := nstep hbw1 hbQ
          have x0 := cell_later hbQ x0
          have x1 := cell_later hbQ x1
          have x2 := cell_later hbQ x2
          have x3 := cell_later hbQ x3
          have x4 := cell_later hbQ x4
          clear hPB hbP hL1 pf
          have hbxL : bx < L := by omega
          generalize hW2 : ((w1.alloc (.cells #[.int .i64 x.op, .int .i64 x.a, .int .i64 x.b, .int .i64 x.c, .string x.name] 69)).setCell ⟨L, 3, none⟩ (.int .i64 (j : Int))) = W2 at *
          have hszW : W2.heap.size = L + 1 := by rw [← hW2, size_setCell, HLe.out]; simp
          clear hW2 hbQ hbw1
          have HN2 : Hid (∀ wx, Below W2.heap.size W2 wx → whoE X.classes sites m.code.length s.code.length s.temps j x = none → FsC X sites Z w.heap.size m j L pc (.slice pap j pcp) (.slice a1 (j + 1) cap1) (.int .i64 s.temps) (.slice (some ⟨L, 0, none⟩) 1 1) wx) := fun wx hb h => HNO.out wx h (hL2.later hb) (by rw [hb.block _ (by omega)]; exact hPB2)
          by_cases hjs : j < sites.length
          · obtain ⟨bs, os, rfl, -, hsc⟩ := hrowS j sites[j] (List.getElem?_eq_getElem hjs)
            have hsc1 : W2.cell? ⟨bs, os + j, none⟩ = some (.int .i64 sites[j]) := by simpa [IntC] using cell_later hbw2 hsc
            have HKS : Hid (sites.getD j (-1) = sites[j]) := by show _ = _; rw [List.getD_eq_getElem?_getD, List.getElem?_eq_getElem hjs]; rfl
            clear hsc
            generalize sites[j] = ks at *
            have hd1 : decide ((j : Int) < (sites.length : Int)) = true := by simp; omega
            have hjs1 : (j : Int) < (sites.length : Int) := by omega
            by_cases hks : 0 ≤ ks
            · have hd2 : decide ((0 : Int) ≤ ks) = true := by simpa using hks
              go_upto_region 16 with (fail)
              obtain ⟨k0, k1, k2, -, -, -, -, -, -, -⟩ := hrb.same (wr := W2) (fun b hb => hL2.fix b (by omega)) (by omega)
              have hSl : ∀ w', Below W2.heap.size W2 w' → w'.cell? ⟨w.heap.size, 0, none⟩ = some (.slice (some ⟨b1, o1, none⟩) X.classes.length cc) ∧ w'.cell? ⟨w.heap.size, 1, none⟩ = some (.slice ah X.heap.length ch) ∧ w'.cell? ⟨w.heap.size, 2, none⟩ = some (.int .i64 X.epoch) ∧ w'.cell? ⟨bs, os + j, none⟩ = some (.int .i64 ks) ∧ w'.cell? ⟨bx, 4, none⟩ = some (.string x.name) := fun w' hb => ⟨cell_later hb k0, cell_later hb k1, cell_later hb k2, cell_later hb hsc1, cell_later hb x4⟩
              have hS0 := hSl _ (Below.refl _ W2).drew
              refine wp_region_late (S := fun w' => w'.cell? ⟨w.heap.size, 0, none⟩ = some (.slice (some ⟨b1, o1, none⟩) X.classes.length cc) ∧ w'.cell? ⟨w.heap.size, 1, none⟩ = some (.slice ah X.heap.length ch) ∧ w'.cell? ⟨w.heap.size, 2, none⟩ = some (.int .i64 X.epoch) ∧ w'.cell? ⟨bs, os + j, none⟩ = some (.int .i64 ks) ∧ w'.cell? ⟨bx, 4, none⟩ = some (.string x.name)) [] (by kernel_rfl) ?_
              refine wpAnyM_take (i := 0) (oi := { dst := some 98, op := Op.load 25 (Operand.tmp 4), type := 25, pos := "ref.go:239", after := #[], guard := none }) (v := WV (.slice (some ⟨b1, o1, none⟩) X.classes.length cc) (.slice ah X.heap.length ch) X.epoch) (by kernel_rfl) (by kernel_rfl) rfl (by kernel_rfl) (by kernel_rfl) (by kernel_rfl) (fun _ _ _ h => h) (Or.inl ⟨by rfl, ?_⟩) (hS0) ?_
              · intro w hSw
                obtain ⟨q0, q1, q2, q3, q4⟩ := hSw
                go_simp
              try simp only [Act.put, List.setIfInBounds_toArray, List.set_cons_zero, List.set_cons_succ]
              refine wpAnyM_take (i := 1) (oi := { dst := some 99, op := Op.move (Operand.tmp 3), type := 63, pos := "ref.go:239", after := #[], guard := none }) (v := .slice (some ⟨bs, os, none⟩) sites.length cs) (by kernel_rfl) (by kernel_rfl) rfl (by kernel_rfl) (by kernel_rfl) (by kernel_rfl) (fun _ _ _ h => h) (Or.inl ⟨by rfl, ?_⟩) (hS0) ?_
              · intro w hSw
                obtain ⟨q0, q1, q2, q3, q4⟩ := hSw
                go_simp
              try simp only [Act.put, List.setIfInBounds_toArray, List.set_cons_zero, List.set_cons_succ]
              refine wpAnyM_take (i := 2) (oi := { dst := some 100, op := Op.move (Operand.tmp 16), type := 3, pos := "ref.go:239", after := #[], guard := none }) (v := .int .i64 (j : Int)) (by kernel_rfl) (by kernel_rfl) rfl (by kernel_rfl) (by kernel_rfl) (by kernel_rfl) (fun _ _ _ h => h) (Or.inl ⟨by rfl, ?_⟩) (hS0) ?_
              · intro w hSw
                obtain ⟨q0, q1, q2, q3, q4⟩ := hSw
                go_simp
              try simp only [Act.put, List.setIfInBounds_toArray, List.set_cons_zero, List.set_cons_succ]
              refine wpAnyM_take (i := 3) (oi := { dst := some 101, op := Op.indexAddr 63 (Operand.tmp 99) (Operand.tmp 100), type := 0, pos := "ref.go:239", after := #[{ on := 1, ground := Ground.data }, { on := 2, ground := Ground.data }], guard := none }) (v := .pointer (some ⟨bs, os + j, none⟩)) (by kernel_rfl) (by kernel_rfl) rfl (by kernel_rfl) (by kernel_rfl) (by kernel_rfl) (fun _ _ _ h => h) (Or.inl ⟨by rfl, ?_⟩) (hS0) ?_
              · intro w hSw
                obtain ⟨q0, q1, q2, q3, q4⟩ := hSw
                go_simp
              try simp only [Act.put, List.setIfInBounds_toArray, List.set_cons_zero, List.set_cons_succ]
              refine wpAnyM_take (i := 4) (oi := { dst := some 102, op := Op.load 3 (Operand.tmp 101), type := 3, pos := "ref.go:239", after := #[{ on := 3, ground := Ground.data }], guard := none }) (v := .int .i64 ks) (by kernel_rfl) (by kernel_rfl) rfl (by kernel_rfl) (by kernel_rfl) (by kernel_rfl) (fun _ _ _ h => h) (Or.inl ⟨by rfl, ?_⟩) (hS0) ?_
              · intro w hSw
                obtain ⟨q0, q1, q2, q3, q4⟩ := hSw
                go_simp
              try simp only [Act.put, List.setIfInBounds_toArray, List.set_cons_zero, List.set_cons_succ]
              refine wpAnyM_take (i := 5) (oi := { dst := some 103, op := Op.fieldAddr 69 (Operand.tmp 17) 4, type := 0, pos := "ref.go:239", after := #[], guard := none }) (v := .pointer (some ⟨bx, 4, none⟩)) (by kernel_rfl) (by kernel_rfl) rfl (by kernel_rfl) (by kernel_rfl) (by kernel_rfl) (fun _ _ _ h => h) (Or.inl ⟨by rfl, ?_⟩) (hS0) ?_
              · intro w hSw
                obtain ⟨q0, q1, q2, q3, q4⟩ := hSw
                go_simp
              try simp only [Act.put, List.setIfInBounds_toArray, List.set_cons_zero, List.set_cons_succ]
              refine wpAnyM_take (i := 6) (oi := { dst := some 104, op := Op.load 9 (Operand.tmp 103), type := 9, pos := "ref.go:239", after := #[{ on := 5, ground := Ground.data }], guard := none }) (v := .string x.name) (by kernel_rfl) (by kernel_rfl) rfl (by kernel_rfl) (by kernel_rfl) (by kernel_rfl) (fun _ _ _ h => h) (Or.inl ⟨by rfl, ?_⟩) (hS0) ?_
              · intro w hSw
                obtain ⟨q0, q1, q2, q3, q4⟩ := hSw
                go_simp
              try simp only [Act.put, List.setIfInBounds_toArray, List.set_cons_zero, List.set_cons_succ]
              refine wpAnyM_ready (rs := [7]) (by kernel_rfl) (by simp) ?_
              intro i hi
              simp only [List.mem_cons, List.not_mem_nil, or_false] at hi
              subst hi
              refine stepM (o := { dst := some 105, op := Op.call { callee := Callee.value (Operand.func 33), args := #[Operand.tmp 98, Operand.tmp 102, Operand.tmp 104], argTypes := #[25, 3, 9] }, type := 88, pos := "ref.go:239", after := #[{ on := 0, ground := Ground.data }, { on := 4, ground := Ground.data }, { on := 6, ground := Ground.data }], guard := none }) rfl (fun K' hK => ?_)
              refine step_call rfl 33 (.func 33) #[.tmp 98, .tmp 102, .tmp 104] _ rfl #[] rfl #[WV (.slice (some ⟨b1, o1, none⟩) X.classes.length cc) (.slice ah X.heap.length ch) X.epoch, .int .i64 ks, .string x.name] (by simp [Act.eval, Act.put]) (cf11 _ _) ?_
              refine (show Calls Try.prog 33 #[WV (.slice (some ⟨b1, o1, none⟩) X.classes.length cc) (.slice ah X.heap.length ch) X.epoch, .int .i64 ks, .string x.name] W2.drew _ from (rfind_any X ks x.name _ _ W2.drew (hC.later goodC hbw2.drew) (hH.later goodO hbw2.drew)).mono ?_)
              rintro e w3 ⟨rfl, hb3⟩
              refine ⟨_, rfl, ?_⟩
              have hbW3 : Below W2.heap.size W2 w3 := nstep (Below.refl _ W2).drew hb3
              refine hK _ _ (fun _ => ?_) ?_
              · exact hSl _ hbW3
              clear hK K'
              try simp only [Act.put, List.setIfInBounds_toArray, List.set_cons_zero, List.set_cons_succ]
              obtain ⟨fc, fj, hf⟩ : ∃ fc fj, findE X.classes ks x.name = (fc, fj) := ⟨_, _, rfl⟩
              simp only [hf]
              refine wpAnyM_take (i := 8) (oi := { dst := some 97, op := Op.move (Operand.tmp 105), type := 88, pos := "ref.go:239", after := #[{ on := 7, ground := Ground.data }], guard := none }) (v := .tuple #[.int .i64 fc, .int .i64 fj]) (by kernel_rfl) (by kernel_rfl) rfl (by kernel_rfl) (by kernel_rfl) (by kernel_rfl) (fun _ _ _ h => h) (Or.inl ⟨by rfl, ?_⟩) (hSl _ hbW3) ?_
              · intro w hSw
                obtain ⟨q0, q1, q2, q3, q4⟩ := hSw
                go_simp
              try simp only [Act.put, List.setIfInBounds_toArray, List.set_cons_zero, List.set_cons_succ]
              refine wpAnyM_take (i := 9) (oi := { dst := some 106, op := Op.extract (Operand.tmp 97) 0, type := 3, pos := "ref.go:239", after := #[{ on := 8, ground := Ground.data }], guard := none }) (v := .int .i64 fc) (by kernel_rfl) (by kernel_rfl) rfl (by kernel_rfl) (by kernel_rfl) (by kernel_rfl) (fun _ _ _ h => h) (Or.inl ⟨by rfl, ?_⟩) (hSl _ hbW3) ?_
              · intro w hSw
                obtain ⟨q0, q1, q2, q3, q4⟩ := hSw
                go_simp
              try simp only [Act.put, List.setIfInBounds_toArray, List.set_cons_zero, List.set_cons_succ]
              refine wpAnyM_take (i := 10) (oi := { dst := some 107, op := Op.extract (Operand.tmp 97) 1, type := 3, pos := "ref.go:239", after := #[{ on := 8, ground := Ground.data }, { on := 11, ground := Ground.gcOnly Departure.lateStores }], guard := none }) (v := .int .i64 fj) (by kernel_rfl) (by kernel_rfl) rfl (by kernel_rfl) (by kernel_rfl) (by kernel_rfl) (fun _ _ _ h => h) (Or.inl ⟨by rfl, ?_⟩) (hSl _ hbW3) ?_
              · intro w hSw
                obtain ⟨q0, q1, q2, q3, q4⟩ := hSw
                go_simp
              try simp only [Act.put, List.setIfInBounds_toArray, List.set_cons_zero, List.set_cons_succ]
              refine wpAnyM_take (i := 11) (oi := { dst := some 19, op := Op.assign (Operand.tmp 106), type := 3, pos := "ref.go:239", after := #[{ on := 9, ground := Ground.data }, { on := 7, ground := Ground.chain }, { on := 0, ground := Ground.phase }, { on := 1, ground := Ground.phase }, { on := 2, ground := Ground.phase }, { on := 3, ground := Ground.phase }, { on := 4, ground := Ground.phase }, { on := 5, ground := Ground.phase }, { on := 6, ground := Ground.phase }, { on := 7, ground := Ground.phase }, { on := 8, ground := Ground.phase }, { on := 9, ground := Ground.phase }, { on := 10, ground := Ground.textOnly Departure.lateStores }], guard := none }) (v := .int .i64 fc) (by kernel_rfl) (by kernel_rfl) rfl (by kernel_rfl) (by kernel_rfl) (by kernel_rfl) (fun _ _ _ h => h) (Or.inl ⟨by rfl, ?_⟩) (hSl _ hbW3) ?_
              · intro w hSw
                obtain ⟨q0, q1, q2, q3, q4⟩ := hSw
                go_simp
              try simp only [Act.put, List.setIfInBounds_toArray, List.set_cons_zero, List.set_cons_succ]
              refine wpAnyM_take (i := 12) (oi := { dst := some 20, op := Op.assign (Operand.tmp 107), type := 3, pos := "ref.go:239", after := #[{ on := 10, ground := Ground.data }, { on := 11, ground := Ground.chain }, { on := 0, ground := Ground.phase }, { on := 1, ground := Ground.phase }, { on := 2, ground := Ground.phase }, { on := 3, ground := Ground.phase }, { on := 4, ground := Ground.phase }, { on := 5, ground := Ground.phase }, { on := 6, ground := Ground.phase }, { on := 7, ground := Ground.phase }, { on := 8, ground := Ground.phase }, { on := 9, ground := Ground.phase }, { on := 10, ground := Ground.phase }, { on := 11, ground := Ground.phase }], guard := none }) (v := .int .i64 fj) (by kernel_rfl) (by kernel_rfl) rfl (by kernel_rfl) (by kernel_rfl) (by kernel_rfl) (fun _ _ _ h => h) (Or.inl ⟨by rfl, ?_⟩) (hSl _ hbW3) ?_
              · intro w hSw
                obtain ⟨q0, q1, q2, q3, q4⟩ := hSw
                go_simp
              try simp only [Act.put, List.setIfInBounds_toArray, List.set_cons_zero, List.set_cons_succ]
              refine wpAnyM_done (by kernel_rfl) ?_ _
              try simp only [Act.put, List.setIfInBounds_toArray, List.set_cons_zero, List.set_cons_succ]

              rcases find_cases X.classes ks x.name with ⟨hf1, hf2⟩ | ⟨q2, xc2, t2, y, hfe, hxq, hyt⟩
              · rw [hf] at hf2
                have hd3 : decide ((0 : Int) ≤ fj) = false := by simp only [decide_eq_false_iff_not]; simp only at hf2; omega
                have HF := hid (HN2.out w3 hbW3 (who_find (by rw [HKS.out, hf]; exact hf2)))
                go_wp2_with fail
                go_meet
                case rel => exact HF.out
              · have HMO : Hid (methOf X.classes ks x.name = some y) := by show _ = _; unfold methOf; rw [if_neg (by rw [hfe]; simp only; omega), hfe]; simp [hxq, hyt]
                have HMA := hid (methOf_at HMO.out)
                have hSy := meth_small hX HMA.out
                have HNY := hid (nm_of hC HMA.out)
                have HWF := hid (who_found (len := m.code.length) (n := (s.code.length : Int)) (temps := s.temps) HO.out (by rw [HKS.out]; exact hks) (by rw [HKS.out]; exact hfe) hxq hyt)
                rw [hf] at hfe
                simp only [Prod.mk.injEq] at hfe
                obtain ⟨rfl, rfl⟩ := hfe
                have hbw3 := nstep hbw2 hbW3
                have hq2 := lt_of_get hxq
                have ht2 := lt_of_get hyt
                have hq21 : (q2 : Int) < (X.classes.length : Int) := by omega
                have hq20 : (0 : Int) ≤ (q2 : Int) := by omega
                have ht21 : (t2 : Int) < (xc2.methods.length : Int) := by omega
                have ht20 : (0 : Int) ≤ (t2 : Int) := by omega
                have hd3 : decide ((0 : Int) ≤ (t2 : Int)) = true := by simp
                obtain ⟨ac2, cc2, e2, -, -, -, hrowC⟩ := hC.later goodC hbw3
                cases e2
                obtain ⟨b3, o3, e3, -, -, -, -, -, mv2, u3, hms2⟩ := hrowC q2 xc2 hxq
                cases e3
                obtain ⟨am2, cm2, rfl, hlm2, hcm2, -, hrm2⟩ := hms2
                obtain ⟨b4, o4, rfl, -, z0, z1, z2, z3, -, kv2, z4, hcy⟩ := hrm2 t2 y hyt
                obtain ⟨ak2, ck2, rfl, hlk2, hck2, -, -⟩ := id hcy
                simp only [Nat.add_zero] at z0
                unfold maxLen at hcm2 hck2
                replace k0 := cell_later hbW3 k0
                clear hrowC hrm2 hxq hyt k1 k2
                go_upto_region 19 with (fail)
                have hb4 := bel1 w3 (.cells #[.string y.name, .int .i64 y.args, .int .i64 y.temps, .int .i64 y.prim, .slice ak2 y.code.length ck2] 44)
                have hbW4 := nstep hbW3 hb4
                have hcy4 := hcy.later goodI hb4
                have yb : ∀ (o : Nat), (w3.alloc (.cells #[.string y.name, .int .i64 y.args, .int .i64 y.temps, .int .i64 y.prim, .slice ak2 y.code.length ck2] 44)).cell? ⟨w3.heap.size, o, none⟩ = (#[.string y.name, .int .i64 y.args, .int .i64 y.temps, .int .i64 y.prim, .slice ak2 y.code.length ck2] : Array Value)[o]? := fun o => cell_new w3 _ _ _ rfl o
                have yb0 := yb 0
                have yb1 := yb 1
                have yb2 := yb 2
                have yb3 := yb 3
                have yb4 := yb 4
                have hbL : L + 1 ≤ w3.heap.size := by have := hbW3.size; omega
                clear z0 z1 z2 z3 z4 u3 k0 yb hb4 hcy
                simp only [List.getElem?_toArray, List.getElem?_cons_zero, List.getElem?_cons_succ] at yb0 yb1 yb2 yb3 yb4
                generalize w3.alloc (.cells #[.string y.name, .int .i64 y.args, .int .i64 y.temps, .int .i64 y.prim, .slice ak2 y.code.length ck2] 44) = W4 at *
                generalize w3.heap.size = bl at *
                obtain ⟨sy1, sy2, sy3, -, -, -⟩ := id hSy
                have hwA : IntKind.i64.wrap (3 + y.args) = 3 + y.args := wrap_of (by omega) (by omega)
                have hwB : IntKind.i64.wrap (2 * y.temps) = 2 * y.temps := wrap_of (by omega) (by omega)
                have hwC : IntKind.i64.wrap (3 + y.args + 2 * y.temps) = 3 + y.args + 2 * y.temps := wrap_of (by omega) (by omega)
                have hwD : IntKind.i64.wrap (3 + y.args + 2 * y.temps + (y.code.length : Int)) = 3 + y.args + 2 * y.temps + (y.code.length : Int) := wrap_of (by omega) (by omega)
                go_wp2_with fail
                refine (rleaf_any y _ _ hcy4).mono ?_
                rintro e w5 ⟨rfl, hb5⟩
                have hbW5 := nstep hbW4 hb5
                replace yb0 := cell_later hb5 yb0
                replace yb1 := cell_later hb5 yb1
                replace yb2 := cell_later hb5 yb2
                replace yb3 := cell_later hb5 yb3
                replace yb4 := cell_later hb5 yb4
                have hcy5 := hcy4.later goodI hb5
                have xa5 := cell_later hbW5 x1
                have m45 : w5.cell? ⟨w.heap.size + 2, 4, none⟩ = some (.slice (some ⟨bk, ok, none⟩) m.code.length ck) := by
                  have hf5 := (hL2.later hbW5).fix (w.heap.size + 2) (by omega)
                  rw [cell_of_row _ _ _ _ _ _ (hf5.trans hmb)]; rfl
                have hwE : IntKind.i64.wrap ((s.code.length : Int) + (3 + y.args + 2 * y.temps + (y.code.length : Int))) = (s.code.length : Int) + (3 + y.args + 2 * y.temps + (y.code.length : Int)) := wrap_of (by omega) (by omega)
                have hwF : IntKind.i64.wrap ((s.code.length : Int) + (3 + y.args + 2 * y.temps + (y.code.length : Int)) + (m.code.length : Int)) = (s.code.length : Int) + (3 + y.args + 2 * y.temps + (y.code.length : Int)) + (m.code.length : Int) := wrap_of (by omega) (by omega)
                have hwG : IntKind.i64.wrap ((s.code.length : Int) + (3 + y.args + 2 * y.temps + (y.code.length : Int)) + (m.code.length : Int) - (j : Int)) = (s.code.length : Int) + (3 + y.args + 2 * y.temps + (y.code.length : Int)) + (m.code.length : Int) - (j : Int) := wrap_of (by omega) (by omega)
                have hwH : IntKind.i64.wrap (s.temps + 1) = s.temps + 1 := wrap_of (by omega) (by omega)
                have hwI : IntKind.i64.wrap (s.temps + 1 + y.args) = s.temps + 1 + y.args := wrap_of (by omega) (by omega)
                have hwJ : IntKind.i64.wrap (s.temps + 1 + y.args + y.temps) = s.temps + 1 + y.args + y.temps := wrap_of (by omega) (by omega)
                by_cases c1 : leafE y = true
                · by_cases c2 : y.args = x.a
                  · have HC2 := hid c2
                    have hc2 : (y.args == x.a) = true := by simpa using c2
                    clear c2
                    by_cases c3 : (s.code.length : Int) + (3 + y.args + 2 * y.temps + (y.code.length : Int)) + (m.code.length : Int) - (j : Int) ≤ 240
                    · have hc3 : decide ((s.code.length : Int) + (3 + y.args + 2 * y.temps + (y.code.length : Int)) + (m.code.length : Int) - (j : Int) ≤ 240) = true := by simpa using c3
                      by_cases c4 : s.temps + 1 + y.args + y.temps ≤ 40
                      · have hc4 : decide (s.temps + 1 + y.args + y.temps ≤ 40) = true := by simpa using c4
                        have HW : Hid (whoE X.classes sites m.code.length s.code.length s.temps j x = some y) := by
                          show _ = _
                          rw [HWF.out, if_pos ⟨HC2.out, c1, by unfold roomE; simp only [decide_eq_true_eq]; omega⟩]
                        clear c3 c4
                        go_upto_region 21 with (fail)
                        have hSl1 : ∀ w', Below w5.heap.size w5 w' → w'.cell? ⟨bl, 0, none⟩ = some (.string y.name) ∧ w'.cell? ⟨bl, 1, none⟩ = some (.int .i64 y.args) ∧ w'.cell? ⟨bl, 2, none⟩ = some (.int .i64 y.temps) ∧ w'.cell? ⟨bl, 3, none⟩ = some (.int .i64 y.prim) ∧ w'.cell? ⟨bl, 4, none⟩ = some (.slice ak2 y.code.length ck2) ∧ w'.cell? ⟨bs, os + j, none⟩ = some (.int .i64 ks) := fun w' hb => ⟨cell_later hb yb0, cell_later hb yb1, cell_later hb yb2, cell_later hb yb3, cell_later hb yb4, cell_later hb (cell_later hbW5 hsc1)⟩
                        have hS1 := hSl1 _ (Below.refl _ w5).drew
                        refine wp_region_late (S := fun w' => w'.cell? ⟨bl, 0, none⟩ = some (.string y.name) ∧ w'.cell? ⟨bl, 1, none⟩ = some (.int .i64 y.args) ∧ w'.cell? ⟨bl, 2, none⟩ = some (.int .i64 y.temps) ∧ w'.cell? ⟨bl, 3, none⟩ = some (.int .i64 y.prim) ∧ w'.cell? ⟨bl, 4, none⟩ = some (.slice ak2 y.code.length ck2) ∧ w'.cell? ⟨bs, os + j, none⟩ = some (.int .i64 ks)) [8] (by kernel_rfl) ?_
                        refine wpAnyM_take (i := 0) (oi := { dst := some 162, op := Op.load 44 (Operand.tmp 21), type := 44, pos := "ref.go:243", after := #[], guard := none }) (v := MV y (.slice ak2 y.code.length ck2)) (by kernel_rfl) (by kernel_rfl) rfl (by kernel_rfl) (by kernel_rfl) (by kernel_rfl) (fun _ _ _ h => h) (Or.inl ⟨by rfl, ?_⟩) (hS1) ?_
                        · intro w hSw
                          obtain ⟨q0, q1, q2, q3, q4, q5⟩ := hSw
                          go_simp
                        try simp only [Act.put, List.setIfInBounds_toArray, List.set_cons_zero, List.set_cons_succ]
                        refine wpAnyM_take (i := 1) (oi := { dst := some 163, op := Op.move (Operand.tmp 11), type := 3, pos := "ref.go:243", after := #[], guard := none }) (v := .int .i64 s.temps) (by kernel_rfl) (by kernel_rfl) rfl (by kernel_rfl) (by kernel_rfl) (by kernel_rfl) (fun _ _ _ h => h) (Or.inl ⟨by rfl, ?_⟩) (hS1) ?_
                        · intro w hSw
                          obtain ⟨q0, q1, q2, q3, q4, q5⟩ := hSw
                          go_simp
                        try simp only [Act.put, List.setIfInBounds_toArray, List.set_cons_zero, List.set_cons_succ]
                        refine wpAnyM_take (i := 2) (oi := { dst := some 164, op := Op.move (Operand.tmp 3), type := 63, pos := "ref.go:243", after := #[], guard := none }) (v := .slice (some ⟨bs, os, none⟩) sites.length cs) (by kernel_rfl) (by kernel_rfl) rfl (by kernel_rfl) (by kernel_rfl) (by kernel_rfl) (fun _ _ _ h => h) (Or.inl ⟨by rfl, ?_⟩) (hS1) ?_
                        · intro w hSw
                          obtain ⟨q0, q1, q2, q3, q4, q5⟩ := hSw
                          go_simp
                        try simp only [Act.put, List.setIfInBounds_toArray, List.set_cons_zero, List.set_cons_succ]
                        refine wpAnyM_take (i := 3) (oi := { dst := some 165, op := Op.move (Operand.tmp 16), type := 3, pos := "ref.go:243", after := #[], guard := none }) (v := .int .i64 (j : Int)) (by kernel_rfl) (by kernel_rfl) rfl (by kernel_rfl) (by kernel_rfl) (by kernel_rfl) (fun _ _ _ h => h) (Or.inl ⟨by rfl, ?_⟩) (hS1) ?_
                        · intro w hSw
                          obtain ⟨q0, q1, q2, q3, q4, q5⟩ := hSw
                          go_simp
                        try simp only [Act.put, List.setIfInBounds_toArray, List.set_cons_zero, List.set_cons_succ]
                        refine wpAnyM_take (i := 4) (oi := { dst := some 166, op := Op.indexAddr 63 (Operand.tmp 164) (Operand.tmp 165), type := 0, pos := "ref.go:243", after := #[{ on := 2, ground := Ground.data }, { on := 3, ground := Ground.data }], guard := none }) (v := .pointer (some ⟨bs, os + j, none⟩)) (by kernel_rfl) (by kernel_rfl) rfl (by kernel_rfl) (by kernel_rfl) (by kernel_rfl) (fun _ _ _ h => h) (Or.inl ⟨by rfl, ?_⟩) (hS1) ?_
                        · intro w hSw
                          obtain ⟨q0, q1, q2, q3, q4, q5⟩ := hSw
                          go_simp
                        try simp only [Act.put, List.setIfInBounds_toArray, List.set_cons_zero, List.set_cons_succ]
                        refine wpAnyM_take (i := 5) (oi := { dst := some 167, op := Op.load 3 (Operand.tmp 166), type := 3, pos := "ref.go:243", after := #[{ on := 4, ground := Ground.data }], guard := none }) (v := .int .i64 ks) (by kernel_rfl) (by kernel_rfl) rfl (by kernel_rfl) (by kernel_rfl) (by kernel_rfl) (fun _ _ _ h => h) (Or.inl ⟨by rfl, ?_⟩) (hS1) ?_
                        · intro w hSw
                          obtain ⟨q0, q1, q2, q3, q4, q5⟩ := hSw
                          go_simp
                        try simp only [Act.put, List.setIfInBounds_toArray, List.set_cons_zero, List.set_cons_succ]
                        refine wpAnyM_take (i := 6) (oi := { dst := some 168, op := Op.move (Operand.tmp 16), type := 3, pos := "ref.go:243", after := #[], guard := none }) (v := .int .i64 (j : Int)) (by kernel_rfl) (by kernel_rfl) rfl (by kernel_rfl) (by kernel_rfl) (by kernel_rfl) (fun _ _ _ h => h) (Or.inl ⟨by rfl, ?_⟩) (hS1) ?_
                        · intro w hSw
                          obtain ⟨q0, q1, q2, q3, q4, q5⟩ := hSw
                          go_simp
                        try simp only [Act.put, List.setIfInBounds_toArray, List.set_cons_zero, List.set_cons_succ]
                        refine wpAnyM_ready (rs := [7]) (by kernel_rfl) (by simp) ?_
                        intro i hi
                        simp only [List.mem_cons, List.not_mem_nil, or_false] at hi
                        subst hi
                        refine stepM (o := { dst := some 169, op := Op.call { callee := Callee.value (Operand.func 35), args := #[Operand.tmp 162, Operand.tmp 163, Operand.tmp 167, Operand.tmp 168], argTypes := #[44, 3, 3, 3] }, type := 33, pos := "ref.go:243", after := #[{ on := 0, ground := Ground.data }, { on := 1, ground := Ground.data }, { on := 5, ground := Ground.data }, { on := 6, ground := Ground.data }], guard := none }) rfl (fun K' hK => ?_)
                        refine step_call rfl 35 (.func 35) #[.tmp 162, .tmp 163, .tmp 167, .tmp 168] _ rfl #[] rfl #[MV y (.slice ak2 y.code.length ck2), .int .i64 s.temps, .int .i64 ks, .int .i64 (j : Int)] (by simp [Act.eval, Act.put]) (cf30 _ _) ?_
                        refine (show Calls Try.prog 35 #[MV y (.slice ak2 y.code.length ck2), .int .i64 s.temps, .int .i64 ks, .int .i64 (j : Int)] w5.drew _ from (pieceR_any y hSy s.temps ks (j : Int) _ w5.drew (hcy5.later goodI (Below.refl _ w5).drew) (by omega)).mono ?_)
                        rintro e w6 ⟨ap, cp, rfl, hOp, hb6⟩
                        refine ⟨_, rfl, ?_⟩
                        have hbW6 : Below w5.heap.size w5 w6 := nstep (Below.refl _ w5).drew hb6
                        refine hK _ _ (fun _ => ?_) ?_
                        · exact hSl1 _ hbW6
                        clear hK K'
                        try simp only [Act.put, List.setIfInBounds_toArray, List.set_cons_zero, List.set_cons_succ]
                        refine wpAnyM_ready (rs := [8]) (by kernel_rfl) (by simp) ?_
                        intro i hi
                        simp only [List.mem_cons, List.not_mem_nil, or_false] at hi
                        subst hi
                        refine stepM (o := { dst := some 18, op := Op.assign (Operand.tmp 169), type := 33, pos := "ref.go:243", after := #[{ on := 7, ground := Ground.data }, { on := 7, ground := Ground.chain }, { on := 0, ground := Ground.phase }, { on := 1, ground := Ground.phase }, { on := 2, ground := Ground.phase }, { on := 3, ground := Ground.phase }, { on := 4, ground := Ground.phase }, { on := 5, ground := Ground.phase }, { on := 6, ground := Ground.phase }, { on := 7, ground := Ground.phase }], guard := none }) rfl (fun K' hK => ?_)
                        go_simp
                        refine hK _ _ (fun h => absurd h (by decide)) ?_
                        clear hK K'
                        try simp only [Act.put, List.setIfInBounds_toArray, List.set_cons_zero, List.set_cons_succ]
                        refine wpAnyM_done (by kernel_rfl) ?_ _
                        try simp only [Act.put, List.setIfInBounds_toArray, List.set_cons_zero, List.set_cons_succ]

                        obtain ⟨Pc, HPc⟩ : ∃ Pc, Hid (Pc = pieceE y (ins 18 ks y.args (j : Int)) s.temps 0) := ⟨_, rfl⟩
                        simp only [← HPc.out] at hOp ⊢
                        have yc1 := cell_later hbW6 yb1
                        have yc2 := cell_later hbW6 yb2
                        have hL6 := hL2.later (nstep hbW5 hbW6)
                        have HWFJ : Hid ((Lit.int .i64 (j : Int)).wf = true) := by
                          have h := wrap64_wf (j : Int)
                          rw [show wrap64 (j : Int) = (j : Int) by unfold wrap64; omega] at h
                          exact h
                        have hnm : n < maxLen := by unfold maxLen; omega
                        clear yb0 yb1 yb2 yb3 yb4 hSl1 hS1
                        go_wp2_with (at_mapUpdate; refine wpList_mapUpdate_own _ rfl _ _ _ 87 rfl 3 4 law3 Try.underlying87 _ (w.heap.size + 3) n D rfl hL6.map hnm _ _ (.int .i64 (j : Int)) rfl rfl (keyOf_int_mk Try.underlying3 HWFJ.out) (.lit (.bool true)) [] (plainElem_bool Try.underlying4 true) ?_; intro w7 hown7 hgrow7)
                        go_meet
                        case rel =>
                          have hL7 := hL6.setM hown7 hgrow7
                          have hOp6 : OwnI w6 w5.heap.size ap cp Pc := hOp
                          have hs5 := (hL2.later hbW5).sz
                          have hOp7 : OwnI w7 w5.heap.size ap cp Pc := hOp6.keep fun g hg => hgrow7.block g (hOp6.lt g hg).2 (by have := (hOp6.lt g hg).1; simp; omega)
                          rw [HPc.out] at hOp7 ⊢
                          have HW' := HW.out
                          rw [HS.out] at HW' hL7 hOp7 ⊢
                          exact fs_some HX.out HKS.out HW' hSy HNY.out (hI.put HX.out HW') (by omega) hL7 hOp7 (by have := hbW5.size; omega)
                      · have hc4 : decide (s.temps + 1 + y.args + y.temps ≤ 40) = false := by simpa using c4
                        have HF := hid (HN2.out w5 hbW5 (by rw [HWF.out, if_neg (fun h => by have := h.2.2; unfold roomE at this; simp only [decide_eq_true_eq] at this; omega)]))
                        go_wp2_with fail
                        go_meet
                        case rel => exact HF.out

                    · have hc3 : decide ((s.code.length : Int) + (3 + y.args + 2 * y.temps + (y.code.length : Int)) + (m.code.length : Int) - (j : Int) ≤ 240) = false := by simpa using c3
                      have HF := hid (HN2.out w5 hbW5 (by rw [HWF.out, if_neg (fun h => by have := h.2.2; unfold roomE at this; simp only [decide_eq_true_eq] at this; omega)]))
                      go_wp2_with fail
                      go_meet
                      case rel => exact HF.out

                  · have hc2 : (y.args == x.a) = false := by simpa using c2
                    have HC2 := hid c2
                    clear c2
                    have HF := hid (HN2.out w5 hbW5 (by rw [HWF.out, if_neg (fun h => HC2.out h.1)]))
                    go_wp2_with fail
                    go_meet
                    case rel => exact HF.out

                · have hc1 : leafE y = false := by simpa using c1
                  have HF := hid (HN2.out w5 hbW5 (by rw [HWF.out, if_neg (fun h => c1 h.2.1)]))
                  go_wp2_with fail
                  go_meet
                  case rel => exact HF.out



            · have hd2 : decide ((0 : Int) ≤ ks) = false := by simpa using hks
              have HF := hid (HN2.out W2 (Below.refl _ _) (who_site (by rw [HKS.out]; omega)))
              go_wp2_with fail
              go_meet
              case rel => exact HF.out
          · have hd1 : decide ((j : Int) < (sites.length : Int)) = false := by simp; omega
            have HF := hid (HN2.out W2 (Below.refl _ _) (who_site (by rw [List.getD_eq_getElem?_getD, List.getElem?_eq_none (by omega)]; simp)))
            go_wp2_with fail
            go_meet
            case rel => exact HF.out
        · have hd : (x.op == 14) = false := by simpa using h14
          have HST : Hid (stayE x (j : Int) = x) := by show _ = _; unfold stayE; rw [if_neg h14]
          have HF := hid (HNO.out (w1.alloc (.cells #[.int .i64 x.op, .int .i64 x.a, .int .i64 x.b, .int .i64 x.c, .string x.name] 69)) (who_op h14) (hL1.later hbP) (by rw [HST.out]; exact hPB))
          go_wp2_with fail
          go_meet
          case rel => exact HF.out
      case rest =>
        obtain ⟨pa, pcap, n2, D2, rfl, rfl, hn2, hI2, hL2, hpk⟩ := hcut
        have HPL := hid (pc_len (xs := X.classes) (sites := sites) (m := m) (k := j) hlt)
        have hsm2 := build_small hX (sites := sites) hSm (k := j + 1) (by omega)
        obtain ⟨Pj, HPj⟩ : ∃ Pj, Hid (Pj = pcK X.classes sites m j) := ⟨_, rfl⟩
        obtain ⟨sn, HSN⟩ : ∃ sn, Hid (sn = buildB X.classes sites m (j + 1)) := ⟨_, rfl⟩
        rw [← HPj.out] at HPL
        simp only [← HPj.out] at hpk ⊢
        rw [← HSN.out] at HPL hsm2 hL2 ⊢
        obtain ⟨pa', pcap', e, hpkl, hpkc, -, -⟩ := id hpk
        simp only [Value.slice.injEq] at e
        obtain ⟨rfl, -, rfl⟩ := e
        unfold maxLen at hpkc
        have hPl : sn.code.length = s.code.length + Pj.length := by have := HPL.out; rw [← HS.out] at this; exact this
        have HPl := hid hPl
        have hPl2 : Pj.length ≤ 240 := by omega
        clear hPl
        have hwS : IntKind.i64.wrap ((s.code.length : Int) + (Pj.length : Int)) = (s.code.length : Int) + (Pj.length : Int) := wrap_of (by omega) (by omega)
        have hop : ∀ o, ownsAt (wc.alloc o) (w.heap.size + 4) 33 1 (.slice pap j pcp) j pc := fun o => by have := hL2.op.alloc o; simpa using this
        have hLob : ∀ g, (Value.slice a1 (j + 1) cap1).ownBlock = some g → g < L := fun g hg => by rw [HLe.out]; exact (hL1.ob.lt g hg).2
        have hsz2 := hL2.sz
        clear hL1
        go_wp2_with (at_builtin; refine wpList_append_at rfl (.tmp 184) (.tmp 186) 86 33 _ 1 24 rfl Try.underlying86 info33 rfl (by omega) (w.heap.size + 4) j (.slice pap j pcp) pc rfl (hop _) wc.heap.size rfl [.slice pa Pj.length pcap] rfl (heap_alloc_new _ _) (by intro u hu; simp only [List.mem_cons, List.not_mem_nil, or_false] at hu; subst hu; rfl) (by unfold maxLen; omega) (by omega) (by simp; omega) ?_; intro a2 cap2 w2 r1 r2 r3 r4; have hR := hid (And.intro r1 (And.intro r2 (And.intro r3 r4))); clear r1 r2 r3 r4)
        go_roundg (m.code.length - (j + 1))
        case measure => omega
        case rel =>
          obtain ⟨r1, r2, r3, r4⟩ := hR.out
          have hh := (hL2.later (bel1 wc (.cells #[.slice pa Pj.length pcap] 33))).addP (hpk.later goodI (bel1 wc _)) (by omega) hLob hLop (by simpa using r1) r2 r3 r4
          refine ⟨j + 1, n2, D2, pc ++ [.slice pa Pj.length pcap], by omega, by rw [HSN.out], ?_, by go_num, hn2, hI2, ?_⟩
          · rw [← HSN.out, HPl.out]; go_num
          · rw [← HSN.out, List.range_succ, List.map_append, List.map_cons, List.map_nil, ← HPj.out]
            exact hh


    · obtain rfl : j = m.code.length := by omega
      clear hlt hj
      have HIn : Hid (Maps.size D = s.pieces) := by show _ = _; rw [HS.out]; exact hI.size
      have hbr : Below w.heap.size w wr := ⟨hL.os.trans hbZ.os, hL.tape.trans hbZ.tape, hL.output.trans hbZ.output, by omega, fun b hb => (hL.fix b (by omega)).trans (hbZ.block b hb)⟩
      have hR5 := hrb.same (wr := wr) (fun b hb => hL.fix b (by omega)) (by omega)
      have HFM : Hid (fastM X (qc : Int) m sites = if s.pieces = 0 then (noFast, false) else (⟨(qc : Int), m.name, X.epoch, s.temps, outR X.classes sites m s.begins m.code.length⟩, true)) := by
        show _ = _
        have := fast_out hX (sites := sites) hSm
        unfold fastM
        simp only
        rw [this, HS.out]
      by_cases hp : s.pieces = 0
      · have hsz0 : (((Maps.size D : Nat) : Int) == 0) = true := by rw [HIn.out, hp]; rfl
        obtain ⟨k0, k1, k2, q0, q1, q2, q3, q4, qf, hzz⟩ := id hR5
        have HQ : Hid (MtPost w (fastM X (qc : Int) m sites) (.returned (.tuple #[FsV noFast (.slice none 0 0), .bool false])) (set5 wr (w.heap.size + 1) (.int .i64 0) (.string ⟨#[]⟩) (.int .i64 0) (.int .i64 0) (.slice none 0 0))) := by
          show MtPost _ _ _ _
          rw [HFM.out, if_pos hp]
          exact mt_none hbr
        have hsz1 : Maps.size D = 0 := by rw [HIn.out]; exact hp
        go_wp2_with (at_len; refine wpList_len_own _ rfl _ 87 rfl 3 4 Try.underlying87 _ (w.heap.size + 3) n D rfl hL.map ?_)
        refine bodyPost_ret (v := .tuple #[FsV noFast (.slice none 0 0), .bool false]) ?_ rfl HQ.out
        simp [results, Try.results16, go_sem, q0, q1, q2, q3, q4, noFast]
      · have hsz0 : (((Maps.size D : Nat) : Int) == 0) = false := by rw [HIn.out]; simpa using hp
        have hsz1 : ¬ Maps.size D = 0 := by rw [HIn.out]; exact hp
        have HFN := hid (HFM.out.trans (if_neg hp))
        clear HFM hp
        have m0 : wr.cell? ⟨w.heap.size + 2, 0, none⟩ = some (.string m.name) := by rw [cell_of_row _ _ _ _ _ _ ((hL.fix (w.heap.size + 2) (by omega)).trans hmb)]; rfl
        have k2 := hR5.w2
        go_upto_region 30 with (at_len; refine wpList_len_own _ rfl _ 87 rfl 3 4 Try.underlying87 _ (w.heap.size + 3) n D rfl hL.map ?_)
        clear m0 k2
        have hO0 := ous_new (Zr := wr) (qc : Int) m.name X.epoch s.temps
        obtain ⟨Zr, hZr⟩ : ∃ Zr, Zr = wr := ⟨_, rfl⟩
        subst hZr
        generalize Zr.alloc (.cells #[.int .i64 (qc : Int), .string m.name, .int .i64 X.epoch, .int .i64 s.temps, .slice none 0 0] 35) = W3 at *
        have HNM : Hid (NmOk (outR X.classes sites m s.begins m.code.length)) := by
          show NmOk _
          rw [HS.out, ← fast_out hX (sites := sites) hSm]
          exact led_nm (build_nm hC (sites := sites) (nm_of hC hm) m.code.length) _
        have HLN : Hid ((outR X.classes sites m s.begins m.code.length).length ≤ 240) := by
          show _ ≤ _
          have h1 := fast_out hX (sites := sites) hSm
          have h2 := congrArg List.length h1
          rw [ledE_len] at h2
          rw [HS.out, ← h2]
          have := build_small hX (sites := sites) hSm (k := m.code.length) (Nat.le_refl _)
          omega
        have hpcl : pc.length = m.code.length := by have := hL.op.1; simpa using this
        have hNZ := hL.map
        clear hsz0 hsz1
        go_wp2
        go_loopg [202] m.code.length (fun g iv wr => ∃ (i : Nat) (a : Option Addr) (cap : Nat), i + g = m.code.length ∧ iv = .int .i64 (i : Int) ∧ OuS Zr Zr.heap.size (qc : Int) m.name X.epoch s.temps (outR X.classes sites m s.begins i) a cap wr)
        case atStart => exact ⟨0, none, 0, by omega, rfl, hO0⟩
        case round =>
          clear hO0
          obtain ⟨i, a, cap, hi, rfl, hO⟩ := hrel
          by_cases hlt : i < m.code.length
          · have hLi := hL.later hO.bel
            obtain ⟨kv, hkv⟩ : ∃ kv, pc[i]? = some kv := ⟨_, List.getElem?_eq_getElem (by omega)⟩
            have hpk := hLi.pcs i (pcK X.classes sites m i) kv (by simp [hlt]) hkv
            obtain ⟨bp, op, e, cpi⟩ := own_cell1 hLi.op hkv
            subst e
            obtain ⟨Pi, HPi⟩ : ∃ Pi, Hid (Pi = pcK X.classes sites m i) := ⟨_, rfl⟩
            rw [← HPi.out] at hpk
            obtain ⟨api, cpc, rfl, hpil, hpic, -, -⟩ := id hpk
            unfold maxLen at hpic
            have hi1 : (i : Int) < (m.code.length : Int) := by omega
            have hi0 : (0 : Int) ≤ (i : Int) := by omega
            have HLI := hid hi
            have HKV := hid hkv
            clear hkv hLi
            go_wp2
            clear cpi
            go_loopg [209] Pi.length (fun g2 iv wr2 => ∃ (i2 : Nat) (a : Option Addr) (cap : Nat), i2 + g2 = Pi.length ∧ iv = .int .i64 (i2 : Int) ∧ OuS Zr Zr.heap.size (qc : Int) m.name X.epoch s.temps (outR X.classes sites m s.begins i ++ (Pi.take i2).map (ledK X.classes sites m s.begins i)) a cap wr2)
            case atStart => exact ⟨0, a, cap, by omega, rfl, by simpa using hO⟩
            case round =>
              obtain ⟨i2, a2, cap2, hi2, rfl, hO2⟩ := hrel
              by_cases hlt2 : i2 < Pi.length
              · obtain ⟨y, hy⟩ : ∃ y, Pi[i2]? = some y := ⟨_, List.getElem?_eq_getElem hlt2⟩
                have hLi := hL.later hO2.bel
                have hpk2 := hLi.pcs i (pcK X.classes sites m i) _ (by simp [hlt]) HKV.out
                rw [← HPi.out] at hpk2
                obtain ⟨ad2, cp2, e2, -, -, -, hrow⟩ := hpk2
                cases e2
                obtain ⟨b, o, rfl, -, y0, y1, y2, y3, y4, -⟩ := hrow i2 y hy
                simp only [Nat.add_zero] at y0
                have HJ : Hid (jmp y → ((whoAt X.classes sites m i).isSome = true → 0 ≤ y.a ∧ y.a ≤ 240) ∧ ((whoAt X.classes sites m i).isSome = false → 0 ≤ y.a ∧ y.a < m.code.length)) := fun hj => pc_jump hX hSm hlt (by rw [← HPi.out]; exact List.mem_of_getElem? hy) hj
                have HBI := hid (begins_at (xs := X.classes) (sites := sites) (m := m) (Nat.le_refl _) i hlt)
                rw [← HS.out] at HBI
                obtain ⟨bi, HBIE⟩ : ∃ bi : Int, Hid (bi = ((buildB X.classes sites m i).code.length : Int)) := ⟨_, rfl⟩
                have hsi := build_small hX (sites := sites) hSm (k := i) (by omega)
                have hsi1 := build_small hX (sites := sites) hSm (k := i + 1) (by omega)
                have hbi : 0 ≤ bi ∧ bi ≤ 240 := by have := HBIE.out; omega
                have HCL : Hid ((outR X.classes sites m s.begins i ++ (Pi.take i2).map (ledK X.classes sites m s.begins i)).length ≤ 239) := by
                  show _ ≤ _
                  have h1 := pc_len (xs := X.classes) (sites := sites) (m := m) (k := i) hlt
                  rw [List.length_append, out_len s.begins (by omega), List.length_map, List.length_take]
                  rw [← HPi.out] at h1
                  omega
                rw [← HBIE.out] at HBI
                obtain ⟨bb, ob, e3, bbc0⟩ := own_cell1 hLi.ob (i := i) (u := .int .i64 bi) (by rw [List.getElem?_map, HBI.out]; rfl)
                cases e3
                obtain ⟨z, HZ⟩ : ∃ z, Hid (z = ledK X.classes sites m s.begins i y) := ⟨_, rfl⟩
                have HTK : Hid (outR X.classes sites m s.begins i ++ (Pi.take (i2 + 1)).map (ledK X.classes sites m s.begins i) = (outR X.classes sites m s.begins i ++ (Pi.take i2).map (ledK X.classes sites m s.begins i)) ++ [z]) := by show _ = _; rw [List.take_add_one, hy, List.map_append, ← List.append_assoc, HZ.out]; rfl
                have HWFI : Hid ((Lit.int .i64 (i : Int)).wf = true) := by
                  have h := wrap64_wf (i : Int)
                  rw [show wrap64 (i : Int) = (i : Int) by unfold wrap64; omega] at h
                  exact h
                obtain ⟨cd, HCD⟩ : ∃ cd, Hid (cd = (outR X.classes sites m s.begins i ++ (Pi.take i2).map (ledK X.classes sites m s.begins i))) := ⟨_, rfl⟩
                rw [← HCD.out] at hO2 HTK HCL
                obtain ⟨yop, ya, yb, yc, yn⟩ := y
                dsimp only at y0 y1 y2 y3 y4
                have hi21 : (i2 : Int) < (Pi.length : Int) := by omega
                have hi20 : (0 : Int) ≤ (i2 : Int) := by omega
                have hLx := hLi.later (bel1 wr (.cells #[.int .i64 yop, .int .i64 ya, .int .i64 yb, .int .i64 yc, .string yn] 69))
                have bbc := cell_later (bel1 wr (.cells #[.int .i64 yop, .int .i64 ya, .int .i64 yb, .int .i64 yc, .string yn] 69)) bbc0
                have xb : ∀ (o : Nat), (wr.alloc (.cells #[.int .i64 yop, .int .i64 ya, .int .i64 yb, .int .i64 yc, .string yn] 69)).cell? ⟨wr.heap.size, o, none⟩ = (#[.int .i64 yop, .int .i64 ya, .int .i64 yb, .int .i64 yc, .string yn] : Array Value)[o]? := fun o => cell_new wr _ _ _ rfl o
                have xb00 := xb 0
                have xb1 : (wr.alloc (.cells #[.int .i64 yop, .int .i64 ya, .int .i64 yb, .int .i64 yc, .string yn] 69)).cell? ⟨wr.heap.size, 1, none⟩ = some (.int .i64 ya) := xb 1
                have xbf : ∀ o, (wr.alloc (.cells #[.int .i64 yop, .int .i64 ya, .int .i64 yb, .int .i64 yc, .string yn] 69)).frozen? ⟨wr.heap.size, o, none⟩ = false := row_free (heap_alloc_new wr _)
                have HO := hid hO
                clear hrow hy hpk bbc0 hLi xb hO
                have xb0 : (wr.alloc (.cells #[.int .i64 yop, .int .i64 ya, .int .i64 yb, .int .i64 yc, .string yn] 69)).cell? ⟨wr.heap.size, 0, none⟩ = some (.int .i64 yop) := xb00
                obtain ⟨jb, HJB⟩ : ∃ jb, Hid (jb = decide (yop = 15 ∨ yop = 16)) := ⟨_, rfl⟩
                go_upto_region 36 with (fail)
                clear y0 y1 y2 y3 y4
                go_cut [220] (fun jv wx => jv = .bool jb ∧ wx = (wr.alloc (.cells #[.int .i64 yop, .int .i64 ya, .int .i64 yb, .int .i64 yc, .string yn] 69)))
                case first =>
                  by_cases h15 : yop = 15
                  · have hb15 : (yop == 15) = true := by simpa using h15
                    have HE : Hid (jb = true) := by show _ = _; rw [HJB.out]; simp [h15]
                    clear h15
                    go_wp2_with fail
                    go_meet
                    case rel => exact ⟨by rw [HE.out], rfl⟩
                  · have hb15 : (yop == 15) = false := by simpa using h15
                    have HE : Hid (jb = (yop == 16)) := by show _ = _; rw [HJB.out]; by_cases h16 : yop = 16 <;> simp [h15, h16]
                    clear h15
                    go_wp2_with fail
                    go_meet
                    case rel => exact ⟨by rw [HE.out], rfl⟩
                case rest =>
                obtain ⟨rfl, rfl⟩ := hcut
                go_upto_if 220 with (fail)
                go_cut [] (fun wx => ZbR wr z wx)
                case first =>
                  by_cases hjp : yop = 15 ∨ yop = 16
                  · replace HJ : Hid (((whoAt X.classes sites m i).isSome = true → 0 ≤ ya ∧ ya ≤ 240) ∧ ((whoAt X.classes sites m i).isSome = false → 0 ≤ ya ∧ ya < m.code.length)) := HJ.out hjp
                    obtain rfl : jb = true := by rw [HJB.out]; simpa using hjp
                    by_cases hin : (whoAt X.classes sites m i).isSome = true
                    · have hc : D.atKey (.int .i64 (i : Int)) (.lit (.bool false)) = .lit (.bool true) := by rw [hI.val i, hin]; simp [hlt]
                      have HZZ : Hid (z = ⟨yop, ya + bi, yb, yc, yn⟩) := by show _ = _; rw [HZ.out]; unfold ledK shiftJ; rw [if_pos hin, if_pos hjp, HBIE.out]
                      have hwz : IntKind.i64.wrap (ya + bi) = ya + bi := by have := HJ.out.1 hin; exact wrap_of (by omega) (by omega)
                      clear hjp
                      go_upto_region 38 with (at_lookup; refine wpList_lookup_bool rfl _ _ rfl (w.heap.size + 3) n D rfl (hLx.map) _ (.int .i64 (i : Int)) rfl (keyOf_int_mk Try.underlying3 HWFI.out) true hc ?_)
                      have hS0 : (wr.alloc (.cells #[.int .i64 yop, .int .i64 ya, .int .i64 yb, .int .i64 yc, .string yn] 69)).drew.cell? ⟨wr.heap.size, 1, none⟩ = some (.int .i64 ya) ∧ (wr.alloc (.cells #[.int .i64 yop, .int .i64 ya, .int .i64 yb, .int .i64 yc, .string yn] 69)).drew.cell? ⟨bb, ob + i, none⟩ = some (.int .i64 bi) := ⟨cell_later (Below.refl _ _).drew xb1, cell_later (Below.refl _ _).drew bbc⟩
                      have xbf' : ∀ o, (wr.alloc (.cells #[.int .i64 yop, .int .i64 ya, .int .i64 yb, .int .i64 yc, .string yn] 69)).drew.frozen? ⟨wr.heap.size, o, none⟩ = false := xbf
                      refine wp_region_late (S := fun w' => w'.cell? ⟨wr.heap.size, 1, none⟩ = some (.int .i64 ya) ∧ w'.cell? ⟨bb, ob + i, none⟩ = some (.int .i64 bi)) [8] (by kernel_rfl) ?_
                      refine wpAnyM_take (i := 0) (oi := { dst := some 224, op := Op.fieldAddr 69 (Operand.tmp 27) 1, type := 0, pos := "ref.go:261", after := #[], guard := none }) (v := .pointer (some ⟨wr.heap.size, 1, none⟩)) (by kernel_rfl) (by kernel_rfl) rfl (by kernel_rfl) (by kernel_rfl) (by kernel_rfl) (fun _ _ _ h => h) (Or.inl ⟨by rfl, ?_⟩) (hS0) ?_
                      · intro w hSw
                        obtain ⟨q0, q1⟩ := hSw
                        go_simp
                      try simp only [Act.put, List.setIfInBounds_toArray, List.set_cons_zero, List.set_cons_succ]
                      refine wpAnyM_take (i := 1) (oi := { dst := some 225, op := Op.load 3 (Operand.tmp 224), type := 3, pos := "ref.go:261", after := #[{ on := 0, ground := Ground.data }], guard := none }) (v := .int .i64 ya) (by kernel_rfl) (by kernel_rfl) rfl (by kernel_rfl) (by kernel_rfl) (by kernel_rfl) (fun _ _ _ h => h) (Or.inl ⟨by rfl, ?_⟩) (hS0) ?_
                      · intro w hSw
                        obtain ⟨q0, q1⟩ := hSw
                        go_simp
                      try simp only [Act.put, List.setIfInBounds_toArray, List.set_cons_zero, List.set_cons_succ]
                      refine wpAnyM_take (i := 2) (oi := { dst := some 226, op := Op.move (Operand.tmp 14), type := 63, pos := "ref.go:261", after := #[], guard := none }) (v := .slice (some ⟨bb, ob, none⟩) m.code.length bcp) (by kernel_rfl) (by kernel_rfl) rfl (by kernel_rfl) (by kernel_rfl) (by kernel_rfl) (fun _ _ _ h => h) (Or.inl ⟨by rfl, ?_⟩) (hS0) ?_
                      · intro w hSw
                        obtain ⟨q0, q1⟩ := hSw
                        go_simp
                      try simp only [Act.put, List.setIfInBounds_toArray, List.set_cons_zero, List.set_cons_succ]
                      refine wpAnyM_take (i := 3) (oi := { dst := some 227, op := Op.move (Operand.tmp 24), type := 3, pos := "ref.go:261", after := #[], guard := none }) (v := .int .i64 (i : Int)) (by kernel_rfl) (by kernel_rfl) rfl (by kernel_rfl) (by kernel_rfl) (by kernel_rfl) (fun _ _ _ h => h) (Or.inl ⟨by rfl, ?_⟩) (hS0) ?_
                      · intro w hSw
                        obtain ⟨q0, q1⟩ := hSw
                        go_simp
                      try simp only [Act.put, List.setIfInBounds_toArray, List.set_cons_zero, List.set_cons_succ]
                      refine wpAnyM_take (i := 4) (oi := { dst := some 228, op := Op.indexAddr 63 (Operand.tmp 226) (Operand.tmp 227), type := 0, pos := "ref.go:261", after := #[{ on := 2, ground := Ground.data }, { on := 3, ground := Ground.data }], guard := none }) (v := .pointer (some ⟨bb, ob + i, none⟩)) (by kernel_rfl) (by kernel_rfl) rfl (by kernel_rfl) (by kernel_rfl) (by kernel_rfl) (fun _ _ _ h => h) (Or.inl ⟨by rfl, ?_⟩) (hS0) ?_
                      · intro w hSw
                        obtain ⟨q0, q1⟩ := hSw
                        go_simp
                      try simp only [Act.put, List.setIfInBounds_toArray, List.set_cons_zero, List.set_cons_succ]
                      refine wpAnyM_take (i := 5) (oi := { dst := some 229, op := Op.load 3 (Operand.tmp 228), type := 3, pos := "ref.go:261", after := #[{ on := 4, ground := Ground.data }], guard := none }) (v := .int .i64 bi) (by kernel_rfl) (by kernel_rfl) rfl (by kernel_rfl) (by kernel_rfl) (by kernel_rfl) (fun _ _ _ h => h) (Or.inl ⟨by rfl, ?_⟩) (hS0) ?_
                      · intro w hSw
                        obtain ⟨q0, q1⟩ := hSw
                        go_simp
                      try simp only [Act.put, List.setIfInBounds_toArray, List.set_cons_zero, List.set_cons_succ]
                      refine wpAnyM_take (i := 6) (oi := { dst := some 230, op := Op.binOp BinOp.add 3 (Operand.tmp 225) (Operand.tmp 229) 3, type := 3, pos := "ref.go:261", after := #[{ on := 1, ground := Ground.data }, { on := 5, ground := Ground.data }], guard := none }) (v := .int .i64 (ya + bi)) (by kernel_rfl) (by kernel_rfl) rfl (by kernel_rfl) (by kernel_rfl) (by kernel_rfl) (fun _ _ _ h => h) (Or.inl ⟨by rfl, ?_⟩) (hS0) ?_
                      · intro w hSw
                        obtain ⟨q0, q1⟩ := hSw
                        go_simp
                      try simp only [Act.put, List.setIfInBounds_toArray, List.set_cons_zero, List.set_cons_succ]
                      refine wpAnyM_take (i := 7) (oi := { dst := some 231, op := Op.fieldAddr 69 (Operand.tmp 27) 1, type := 0, pos := "ref.go:261", after := #[{ on := 0, ground := Ground.phase }, { on := 1, ground := Ground.phase }, { on := 2, ground := Ground.phase }, { on := 3, ground := Ground.phase }, { on := 4, ground := Ground.phase }, { on := 5, ground := Ground.phase }, { on := 6, ground := Ground.phase }], guard := none }) (v := .pointer (some ⟨wr.heap.size, 1, none⟩)) (by kernel_rfl) (by kernel_rfl) rfl (by kernel_rfl) (by kernel_rfl) (by kernel_rfl) (fun _ _ _ h => h) (Or.inl ⟨by rfl, ?_⟩) (hS0) ?_
                      · intro w hSw
                        obtain ⟨q0, q1⟩ := hSw
                        go_simp
                      try simp only [Act.put, List.setIfInBounds_toArray, List.set_cons_zero, List.set_cons_succ]
                      refine wpAnyM_ready (rs := [8]) (by kernel_rfl) (by simp) ?_
                      intro i hi
                      simp only [List.mem_cons, List.not_mem_nil, or_false] at hi
                      subst hi
                      refine stepM (o := { dst := none, op := Op.store 3 (Operand.tmp 231) (Operand.tmp 230), type := 0, pos := "ref.go:261", after := #[{ on := 7, ground := Ground.data }, { on := 6, ground := Ground.data }, { on := 0, ground := Ground.phase }, { on := 1, ground := Ground.phase }, { on := 2, ground := Ground.phase }, { on := 3, ground := Ground.phase }, { on := 4, ground := Ground.phase }, { on := 5, ground := Ground.phase }, { on := 6, ground := Ground.phase }], guard := none }) rfl (fun K' hK => ?_)
                      obtain ⟨q0, q1⟩ := hS0
                      go_simp
                      refine hK _ _ (fun h => absurd h (by decide)) ?_
                      clear hK K'
                      try simp only [Act.put, List.setIfInBounds_toArray, List.set_cons_zero, List.set_cons_succ]
                      refine wpAnyM_done (by kernel_rfl) ?_ _
                      try simp only [Act.put, List.setIfInBounds_toArray, List.set_cons_zero, List.set_cons_succ]

                      have HZF : Hid (ZbR wr z ((wr.alloc (.cells #[.int .i64 yop, .int .i64 (ya + bi), .int .i64 yb, .int .i64 yc, .string yn] 69)).drew)) := by
                        show ZbR _ _ _
                        rw [HZZ.out]; exact zb_drew wr ⟨yop, ya + bi, yb, yc, yn⟩
                      go_wp2_with fail
                      go_meet
                      case rel => exact HZF.out
                    · have hin' : (whoAt X.classes sites m i).isSome = false := by simpa using hin
                      have hc : D.atKey (.int .i64 (i : Int)) (.lit (.bool false)) = .lit (.bool false) := by rw [hI.val i, hin']; simp
                      have hya := HJ.out.2 hin'
                      obtain ⟨t, rfl⟩ : ∃ t : Nat, ya = (t : Int) := ⟨ya.toNat, by omega⟩
                      have ht : t < m.code.length := by omega
                      have HBT := hid (begins_at (xs := X.classes) (sites := sites) (m := m) (Nat.le_refl _) t ht)
                      rw [← HS.out] at HBT
                      obtain ⟨bt, HBTE⟩ : ∃ bt : Int, Hid (bt = ((buildB X.classes sites m t).code.length : Int)) := ⟨_, rfl⟩
                      rw [← HBTE.out] at HBT
                      obtain ⟨bb', ob', e3, bbt⟩ := own_cell1 hLx.ob (i := t) (u := .int .i64 bt) (by rw [List.getElem?_map, HBT.out]; rfl)
                      cases e3
                      have HZZ : Hid (z = ⟨yop, bt, yb, yc, yn⟩) := by show _ = _; rw [HZ.out]; unfold ledK leadJ; rw [if_neg hin, if_pos hjp, List.getD_eq_getElem?_getD]; simp only [Int.toNat_natCast]; rw [HBT.out]; rfl
                      have ht1 : (t : Int) < (m.code.length : Int) := by omega
                      have ht0 : (0 : Int) ≤ (t : Int) := by omega
                      clear hjp
                      go_wp2_with (at_lookup; refine wpList_lookup_bool rfl _ _ rfl (w.heap.size + 3) n D rfl (hLx.map) _ (.int .i64 (i : Int)) rfl (keyOf_int_mk Try.underlying3 HWFI.out) false hc ?_)
                      go_meet
                      case rel => 
                        rw [HZZ.out]
                        exact zb_new wr ⟨yop, bt, yb, yc, yn⟩

                  · obtain rfl : jb = false := by rw [HJB.out]; simpa using hjp
                    have HZZ : Hid (z = ⟨yop, ya, yb, yc, yn⟩) := by
                      show _ = _
                      rw [HZ.out]
                      unfold ledK
                      split
                      · exact shift_no hjp
                      · unfold leadJ; exact if_neg hjp
                    clear hjp
                    go_wp2_with fail
                    go_meet
                    case rel =>
                      rw [HZZ.out]
                      exact zb_new wr ⟨yop, ya, yb, yc, yn⟩
                case rest =>
                  obtain ⟨hzb, hbz, hsz⟩ := hcut
                  have hO3 := hO2.later hbz
                  have zc : ∀ (o : Nat), wc.cell? ⟨wr.heap.size, o, none⟩ = (#[.int .i64 z.op, .int .i64 z.a, .int .i64 z.b, .int .i64 z.c, .string z.name] : Array Value)[o]? := fun o => by rw [cell_of_row _ _ _ _ _ _ hzb]
                  have zc0 : wc.cell? ⟨wr.heap.size, 0, none⟩ = some (.int .i64 z.op) := zc 0
                  have zc1 : wc.cell? ⟨wr.heap.size, 1, none⟩ = some (.int .i64 z.a) := zc 1
                  have zc2 : wc.cell? ⟨wr.heap.size, 2, none⟩ = some (.int .i64 z.b) := zc 2
                  have zc3 : wc.cell? ⟨wr.heap.size, 3, none⟩ = some (.int .i64 z.c) := zc 3
                  have zc4 : wc.cell? ⟨wr.heap.size, 4, none⟩ = some (.string z.name) := zc 4
                  obtain ⟨-, -, -, -, o4⟩ := hO3.cell
                  have hsz3 := hO3.sz
                  have hcl := HCL.out
                  clear zc hLx bbc xb1 xbf
                  go_wp2_with (at_builtin; refine wpList_append_at rfl (.tmp 239) (.tmp 241) 33 69 _ 5 48 rfl Try.underlying33 info69 rfl (by omega) (Zr.heap.size + 1) cd.length (.slice a2 cd.length cap2) (icells cd) rfl (hO3.own.alloc _) wc.heap.size rfl [.int .i64 z.op, .int .i64 z.a, .int .i64 z.b, .int .i64 z.c, .string z.name] rfl (heap_alloc_new _ _) (by intro u hu; simp only [List.mem_cons, List.not_mem_nil, or_false] at hu; rcases hu with h | h | h | h | h <;> (subst h; rfl)) (by unfold maxLen; omega) (by omega) (Nat.le_trans hsz3 (by simp)) ?_; intro a3 cap3 w3 r1 r2 r3 r4; have hN := hid ((hO3.later (bel1 wc (.cells #[.int .i64 z.op, .int .i64 z.a, .int .i64 z.b, .int .i64 z.c, .string z.name] 69))).add (OwnI.more (ys := [z]) r1 rfl rfl) r3); have hB := (hO3.later (bel1 wc (.cells #[.int .i64 z.op, .int .i64 z.a, .int .i64 z.b, .int .i64 z.c, .string z.name] 69))).box; have hB3 := (r3.block Zr.heap.size (by omega)).trans hB; have d4 : w3.cell? ⟨Zr.heap.size, 4, none⟩ = some (.slice a2 cd.length cap2) := (by first | (rw [cell_of_row _ _ _ _ _ _ hB3]; done) | (rw [cell_of_row _ _ _ _ _ _ hB3]; rfl)); have df : ∀ o, w3.frozen? ⟨Zr.heap.size, o, none⟩ = false := row_free hB3; clear r1 r2 r3 r4 hB hB3)
                  go_roundg (Pi.length - (i2 + 1))
                  case measure => omega
                  case rel =>
                    have hN' := hN.out
                    simp only [List.length_append, List.length_cons, List.length_nil, Nat.zero_add] at hN'
                    refine ⟨i2 + 1, a3, cap3, by omega, by go_num, ?_⟩
                    rw [HTK.out]
                    exact hN'
              · obtain rfl : i2 = Pi.length := by omega
                have HE : Hid (outR X.classes sites m s.begins i ++ (Pi.take Pi.length).map (ledK X.classes sites m s.begins i) = outR X.classes sites m s.begins (i + 1)) := by show _ = _; rw [List.take_length, HPi.out, out_succ hlt]
                rw [HE.out] at hO2
                go_wp2
                go_roundg (m.code.length - (i + 1))
                case measure => have := HLI.out; omega
                case rel => exact ⟨i + 1, _, _, by omega, by go_num, hO2⟩
          · obtain rfl : i = m.code.length := by omega
            obtain ⟨o0, o1, o2, o3, o4⟩ := hO.cell
            obtain ⟨k0, k1, k2, q0, q1, q2, q3, q4, qf, hzz⟩ := hR5.later hO.bel
            have HQ : Hid (MtPost w (fastM X (qc : Int) m sites) (.returned (.tuple #[FsV ⟨(qc : Int), m.name, X.epoch, s.temps, outR X.classes sites m s.begins m.code.length⟩ (.slice a (outR X.classes sites m s.begins m.code.length).length cap), .bool true])) (set5 wr (w.heap.size + 1) (.int .i64 (qc : Int)) (.string m.name) (.int .i64 X.epoch) (.int .i64 s.temps) (.slice a (outR X.classes sites m s.begins m.code.length).length cap))) := by
              show MtPost _ _ _ _
              rw [HFN.out]
              refine mt_fin (r := (⟨(qc : Int), m.name, X.epoch, s.temps, outR X.classes sites m s.begins m.code.length⟩, true)) (nstep hbr hO.bel) ?_
              exact ic_row hO.own HNM.out (fun b h1 h2 => ⟨by omega, h2⟩) (Nat.le_trans HLN.out (by omega))
            go_wp2
            refine bodyPost_ret (v := .tuple #[FsV ⟨(qc : Int), m.name, X.epoch, s.temps, outR X.classes sites m s.begins m.code.length⟩ (.slice a (outR X.classes sites m s.begins m.code.length).length cap), .bool true]) ?_ rfl HQ.out
            simp [results, Try.results16, go_sem, q0, q1, q2, q3, q4]
end Go.Proofs.Ytlekfiglefopgaa

/- InlineRoom's walk. -/
namespace Go.Proofs.Ytlekfiglefopgaa
open Go.ChangeShapes Go.WideShapes Go.ChangeAt Go.RowKit
set_option linter.unusedSimpArgs false
set_option linter.unusedVariables false
set_option maxRecDepth 8000

/-- What the law holds: the world's box, the input. -/
theorem bxl {w w' : World} {B : Nat} {o : Obj} (h : w.heap[B]? = some o) (hb : Below w.heap.size w w') : w'.heap[B]? = some o := by rw [hb.block _ (blk_lt h)]; exact h
theorem box3 {w : World} {B : Nat} {x y z : Value} {t : TypeId} (h : w.heap[B]? = some (.cells #[x, y, z] t (0, 0))) : (w.cell? ⟨B, 0, none⟩ = some x ∧ w.cell? ⟨B, 1, none⟩ = some y ∧ w.cell? ⟨B, 2, none⟩ = some z) ∧ (∀ o, w.frozen? ⟨B, o, none⟩ = false) := by
  refine ⟨⟨?_, ?_, ?_⟩, fun o => by unfold World.frozen?; simp [h]⟩ <;> rw [cell_of_row _ _ _ _ _ _ h] <;> rfl
structure Rm (P Q : Nat → Prop) (w : World) (cv hv sv : Value) (X : QW) (sites : List Int) (w' : World) : Prop where
  box : w'.heap[w.heap.size]? = some (.cells #[cv, hv, .int .i64 X.epoch] 25 (0, 0))
  C : IsClasses P w' cv X.classes
  H : IsHeap P w' hv X.heap
  S : IsInts Q w' sv sites
  bel : Below w.heap.size w w'
theorem Rm.later {P Q : Nat → Prop} {w : World} {cv hv sv : Value} {X : QW} {sites : List Int} {w' w'' : World} (h : Rm P Q w cv hv sv X sites w') (hb : Below w'.heap.size w' w'') : Rm P Q w cv hv sv X sites w'' :=
  ⟨bxl h.box hb, h.C.later goodC hb, h.H.later goodO hb, h.S.later goodN hb, nstep h.bel hb⟩
theorem bel_drew (w : World) : Below w.heap.size w w.drew := ⟨rfl, rfl, rfl, Nat.le_refl _, fun _ _ => rfl⟩
theorem box5 {w : World} {B : Nat} {x y z u v : Value} {t : TypeId} (h : w.heap[B]? = some (.cells #[x, y, z, u, v] t (0, 0))) : w.cell? ⟨B, 0, none⟩ = some x ∧ w.cell? ⟨B, 1, none⟩ = some y ∧ w.cell? ⟨B, 3, none⟩ = some u ∧ w.cell? ⟨B, 4, none⟩ = some v := by
  refine ⟨?_, ?_, ?_, ?_⟩ <;> rw [cell_of_row _ _ _ _ _ _ h] <;> rfl
/-- The fast code's box and row. -/
structure Rc (R : Nat → Prop) (BF : Nat) (c ep tm : Int) (nm : ByteArray) (a : Option Addr) (cap : Nat) (code : List QI) (w' : World) : Prop where
  box : w'.heap[BF]? = some (.cells #[.int .i64 c, .string nm, .int .i64 ep, .int .i64 tm, .slice a code.length cap] 35 (0, 0))
  K : IsCode R w' (.slice a code.length cap) code
theorem Rc.later {R : Nat → Prop} {BF : Nat} {c ep tm : Int} {nm : ByteArray} {a : Option Addr} {cap : Nat} {code : List QI} {w' w'' : World} (h : Rc R BF c ep tm nm a cap code w') (hb : Below w'.heap.size w' w'') : Rc R BF c ep tm nm a cap code w'' :=
  ⟨bxl h.box hb, h.K.later goodI hb⟩
def RmI (P Q : Nat → Prop) (w : World) (cv hv sv : Value) (X : QW) (sites : List Int) (R : Nat → Prop) (BF : Nat) (c ep tm : Int) (nm : ByteArray) (a : Option Addr) (cap : Nat) (code : List QI) (gk : Nat) (gv iv : Value) (wr : World) : Prop :=
  ∃ j n : Nat, j + gk = code.length ∧ iv = .int .i64 (j : Int) ∧ gv = .int .i64 (n : Int) ∧ n ≤ j ∧ (∀ i y, i < j → code[i]? = some y → y.op = 18 → 0 < n) ∧ Rm P Q w cv hv sv X sites wr ∧ Rc R BF c ep tm nm a cap code wr
end Go.Proofs.Ytlekfiglefopgaa

/- SameWorld of the reference, at worlds that are the same. -/
namespace Go.Proofs.Ytlekfiglefopgaa
open Go.ChangeShapes Go.WideShapes Go.ChangeAt Go.RowKit
set_option linter.unusedSimpArgs false
set_option linter.unusedVariables false
set_option maxRecDepth 8000

set_option maxHeartbeats 1000000 in
theorem sameCode_any {P Q : Nat → Prop} (xs : List QI) (va vb : Value) (w : World) (ha : IsCode P w va xs) (hb : IsCode Q w vb xs) : Calls Try.prog 18 #[va, vb] w fun e w' => e = .returned (.bool true) ∧ Below w.heap.size w w' := by
  obtain ⟨ad, cap, rfl, hl, hcap, hby, hrow⟩ := ha
  obtain ⟨ad', cap', rfl, hl', hcap', hby', hrow'⟩ := hb
  go_enter Try.func18, Try.ntmps18
  go_wp2
  go_loopg [13] xs.length (fun g c wr => ∃ j : Nat, j + g = xs.length ∧ c = .int .i64 j ∧ ∃ n, wr = w.drewN n)
  case atStart => exact ⟨0, by omega, rfl, 0, rfl⟩
  case round =>
    obtain ⟨j, hj, rfl, nn, rfl⟩ := hrel
    by_cases hlt : j < xs.length
    · obtain ⟨b, o, rfl, -, q0, q1, q2, q3, q4, -⟩ := hrow j xs[j] (by simp [hlt])
      obtain ⟨b', o', rfl, -, k0, k1, k2, k3, k4, -⟩ := hrow' j xs[j] (by simp [hlt])
      generalize xs[j] = x at *
      simp only [Nat.add_zero] at q0 k0
      have hj1 : (j : Int) < (xs.length : Int) := by omega
      have hj0 : (0 : Int) ≤ (j : Int) := by omega
      clear hrow hrow'
      go_wp2
      go_quiet (fail)
      go_wp2
      go_roundg (gk - 1)
      case measure => omega
      case rel => exact ⟨j + 1, by omega, by go_num, _, rfl⟩
    · go_wp2
      go_ret
      exact ⟨rfl, below_drewN (Below.refl _ _) _⟩

end Go.Proofs.Ytlekfiglefopgaa

/- SameFast of the same. -/
namespace Go.Proofs.Ytlekfiglefopgaa
open Go.ChangeShapes Go.WideShapes Go.ChangeAt Go.RowKit
set_option linter.unusedSimpArgs false
set_option linter.unusedVariables false
set_option maxRecDepth 8000

theorem sameFast_any {P Q : Nat → Prop} (f : Fst) (va vb : Value) (w : World) (ha : IsCode P w va f.code) (hb : IsCode Q w vb f.code) : Calls Try.prog 8 #[FsV f va, FsV f vb] w fun e w' => e = .returned (.bool true) ∧ Below w.heap.size w w' := by
  obtain ⟨fc, fn, fe, ft, code⟩ := f
  obtain ⟨aa, ca, rfl, -⟩ := id ha
  obtain ⟨ab, cb, rfl, -⟩ := id hb
  dsimp only at ha hb ⊢
  have hb2 := bel2 w (.cells #[.int .i64 fc, .string fn, .int .i64 fe, .int .i64 ft, .slice aa code.length ca] 35) (.cells #[.int .i64 fc, .string fn, .int .i64 fe, .int .i64 ft, .slice ab code.length cb] 35)
  go_enter Try.func8, Try.ntmps8
  go_wp2_with fail
  refine (sameCode_any code _ _ _ (ha.later goodI hb2) (hb.later goodI hb2)).mono ?_
  rintro e w1 ⟨rfl, hb3⟩
  go_wp2
  go_ret
  exact ⟨rfl, nstep hb2 hb3⟩
end Go.Proofs.Ytlekfiglefopgaa

/- InlineTells' walk. -/
namespace Go.Proofs.Ytlekfiglefopgaa
open Go.ChangeShapes Go.WideShapes Go.ChangeAt Go.RowKit
set_option linter.unusedSimpArgs false
set_option linter.unusedVariables false
set_option maxRecDepth 8000

theorem fastN_any {P Q : Nat → Prop} (X : QW) (c k : Int) (hm : methAt X.classes c k = none) (sites : List Int) (cv hv sv : Value) (w : World) (hC : IsClasses P w cv X.classes) (hH : IsHeap P w hv X.heap) (hS : IsInts Q w sv sites) :
    Calls Try.prog 16 #[WV cv hv X.epoch, .int .i64 c, .int .i64 k, sv] w fun e w' => MtPost w (noFast, false) e w' := by
  obtain ⟨ac, cc, rfl, hlc, hcc, -, hrowC⟩ := id hC
  obtain ⟨ah, ch, rfl, -⟩ := id hH
  unfold maxLen at hcc
  have hbW := bel2 w (.cells #[.slice ac X.classes.length cc, .slice ah X.heap.length ch, .int .i64 X.epoch] 25) (.cells #[.int .i64 0, .string ⟨#[]⟩, .int .i64 0, .int .i64 0, .slice none 0 0] 35)
  obtain ⟨k0, k1, k2, q0, q1, q2, q3, q4, qf, hzz⟩ := rbx_new w (.slice ac X.classes.length cc) (.slice ah X.heap.length ch) X.epoch
  have HQ := hid (mt_none (U := ((w.alloc (.cells #[.slice ac X.classes.length cc, .slice ah X.heap.length ch, .int .i64 X.epoch] 25)).alloc (.cells #[.int .i64 0, .string ⟨#[]⟩, .int .i64 0, .int .i64 0, .slice none 0 0] 35))) hbW)
  by_cases c1 : c < 0
  · have hd1 : decide (c < 0) = true := by simpa using c1
    clear c1
    go_enter Try.func16, Try.ntmps16
    go_upto_region 1 with (fail)
    generalize ((w.alloc (.cells #[.slice ac X.classes.length cc, .slice ah X.heap.length ch, .int .i64 X.epoch] 25)).alloc (.cells #[.int .i64 0, .string ⟨#[]⟩, .int .i64 0, .int .i64 0, .slice none 0 0] 35)) = U at *
    go_wp2
    refine bodyPost_ret (v := .tuple #[FsV noFast (.slice none 0 0), .bool false]) ?_ rfl HQ.out
    simp [results, Try.results16, go_sem, q0, q1, q2, q3, q4, noFast]
  · obtain ⟨qc, rfl⟩ : ∃ qc : Nat, c = (qc : Int) := ⟨c.toNat, by omega⟩
    have hd1 : decide ((qc : Int) < 0) = false := by simp
    by_cases c2 : X.classes.length ≤ qc
    · have hd2 : decide (X.classes.length ≤ qc) = true := by simpa using c2
      clear c1
      go_enter Try.func16, Try.ntmps16
      go_upto_region 1 with (fail)
      generalize ((w.alloc (.cells #[.slice ac X.classes.length cc, .slice ah X.heap.length ch, .int .i64 X.epoch] 25)).alloc (.cells #[.int .i64 0, .string ⟨#[]⟩, .int .i64 0, .int .i64 0, .slice none 0 0] 35)) = U at *
      go_wp2
      refine bodyPost_ret (v := .tuple #[FsV noFast (.slice none 0 0), .bool false]) ?_ rfl HQ.out
      simp [results, Try.results16, go_sem, q0, q1, q2, q3, q4, noFast]
    · have hd2 : decide (X.classes.length ≤ qc) = false := by simpa using c2
      by_cases c3 : k < 0
      · have hd3 : decide (k < 0) = true := by simpa using c3
        clear c1 c3
        go_enter Try.func16, Try.ntmps16
        go_upto_region 1 with (fail)
        generalize ((w.alloc (.cells #[.slice ac X.classes.length cc, .slice ah X.heap.length ch, .int .i64 X.epoch] 25)).alloc (.cells #[.int .i64 0, .string ⟨#[]⟩, .int .i64 0, .int .i64 0, .slice none 0 0] 35)) = U at *
        go_wp2
        refine bodyPost_ret (v := .tuple #[FsV noFast (.slice none 0 0), .bool false]) ?_ rfl HQ.out
        simp [results, Try.results16, go_sem, q0, q1, q2, q3, q4, noFast]
      · obtain ⟨tc, rfl⟩ : ∃ tc : Nat, k = (tc : Int) := ⟨k.toNat, by omega⟩
        have hd3 : decide ((tc : Int) < 0) = false := by simp
        obtain ⟨xc, hxc⟩ : ∃ xc, X.classes[qc]? = some xc := ⟨_, List.getElem?_eq_getElem (by omega)⟩
        obtain ⟨b1, o1, rfl, -, -, -, -, -, mv, u3, hms⟩ := hrowC qc xc hxc
        obtain ⟨am, cm, rfl, hlm, hcm, -, -⟩ := hms
        unfold maxLen at hcm
        have c4 : xc.methods.length ≤ tc := by
          unfold methAt clsAt at hm
          simp [hxc] at hm
          exact hm
        have hd4 : decide (xc.methods.length ≤ tc) = true := by simpa using c4
        replace u3 := cell_later hbW u3
        have hq1 : (qc : Int) < (X.classes.length : Int) := by omega
        have hq0 : (0 : Int) ≤ (qc : Int) := by omega
        clear c1 c3 hrowC hm
        go_enter Try.func16, Try.ntmps16
        go_upto_region 1 with (fail)
        generalize ((w.alloc (.cells #[.slice (some ⟨b1, o1, none⟩) X.classes.length cc, .slice ah X.heap.length ch, .int .i64 X.epoch] 25)).alloc (.cells #[.int .i64 0, .string ⟨#[]⟩, .int .i64 0, .int .i64 0, .slice none 0 0] 35)) = U at *
        go_wp2
        refine bodyPost_ret (v := .tuple #[FsV noFast (.slice none 0 0), .bool false]) ?_ rfl HQ.out
        simp [results, Try.results16, go_sem, q0, q1, q2, q3, q4, noFast]
theorem fast_any {P Q : Nat → Prop} (X : QW) (hX : rightE X = 0) (c k : Int) (sites : List Int) (cv hv sv : Value) (w : World) (hC : IsClasses P w cv X.classes) (hH : IsHeap P w hv X.heap) (hS : IsInts Q w sv sites) :
    Calls Try.prog 16 #[WV cv hv X.epoch, .int .i64 c, .int .i64 k, sv] w fun e w' => MtPost w (methodA X c k sites) e w' := by
  unfold methodA
  cases hm : methAt X.classes c k with
  | none => exact fastN_any X c k hm sites cv hv sv w hC hH hS
  | some m => exact fastC_any X hX c k m hm sites cv hv sv w hC hH hS
end Go.Proofs.Ytlekfiglefopgaa

/- All, of package fast and of the reference. -/
namespace Go.Proofs.Ytlekfiglefopgaa
open Go.ChangeShapes Go.WideShapes Go.ChangeAt Go.RowKit
set_option linter.unusedSimpArgs false
set_option linter.unusedVariables false
set_option maxRecDepth 8000

theorem cfx14 (args : Array Value) (w : World) : (callFunc 14 args).run Try.prog w = .ok (.enter 14 args) w := cf_of Try.func14 (by kernel_rfl) (by kernel_rfl) args w
theorem cfx15 (args : Array Value) (w : World) : (callFunc 15 args).run Try.prog w = .ok (.enter 15 args) w := cf_of Try.func15 (by kernel_rfl) (by kernel_rfl) args w
theorem cfx16 (args : Array Value) (w : World) : (callFunc 16 args).run Try.prog w = .ok (.enter 16 args) w := cf_of Try.func16 (by kernel_rfl) (by kernel_rfl) args w
theorem cfx17 (args : Array Value) (w : World) : (callFunc 17 args).run Try.prog w = .ok (.enter 17 args) w := cf_of Try.func17 (by kernel_rfl) (by kernel_rfl) args w
theorem box5x {w : World} {B : Nat} {x y z u v : Value} {t : TypeId} (h : w.heap[B]? = some (.cells #[x, y, z, u, v] t (0, 0))) : w.cell? ⟨B, 0, none⟩ = some x ∧ w.cell? ⟨B, 1, none⟩ = some y ∧ w.cell? ⟨B, 2, none⟩ = some z ∧ w.cell? ⟨B, 3, none⟩ = some u ∧ w.cell? ⟨B, 4, none⟩ = some v := by
  refine ⟨?_, ?_, ?_, ?_, ?_⟩ <;> rw [cell_of_row _ _ _ _ _ _ h] <;> rfl
/-- What a method's fast code is held in, behind its calls. -/
def AlC (wr : World) (r : Fst × Bool) (pv ov : Value) (wx : World) : Prop :=
  ∃ (bf : Nat) (a : Option Addr) (cap : Nat), pv = .pointer (some ⟨bf, 0, none⟩) ∧ ov = .bool r.2 ∧ wx.heap[bf]? = some (.cells #[.int .i64 r.1.cls, .string r.1.name, .int .i64 r.1.epoch, .int .i64 r.1.temps, .slice a r.1.code.length cap] 35 (0, 0)) ∧ Below wr.heap.size wr wx ∧ IsCode (fun b => wr.heap.size ≤ b) wx (.slice a r.1.code.length cap) r.1.code
theorem alc_mk {wr U : World} {r : Fst × Bool} {bf : Nat} {a : Option Addr} {cap : Nat} {P : Nat → Prop} {u0 u1 u2 u3 u4 : Value} (hb : Below wr.heap.size wr U) (hbf : wr.heap.size ≤ bf) (hU : U.heap[bf]? = some (.cells #[u0, u1, u2, u3, u4] 35 (0, 0))) (hc : IsCode P U (.slice a r.1.code.length cap) r.1.code) (hP : ∀ b, P b → wr.heap.size ≤ b ∧ b ≠ bf) : AlC wr r (.pointer (some ⟨bf, 0, none⟩)) (.bool r.2) (set5 U bf (.int .i64 r.1.cls) (.string r.1.name) (.int .i64 r.1.epoch) (.int .i64 r.1.temps) (.slice a r.1.code.length cap)) := by
  refine ⟨bf, a, cap, rfl, rfl, ?_, bel5 hb hbf, hc.keep goodI (Keeps.of_block fun b hb' _ => blk5 (hP b hb').2) fun b hb' => (hP b hb').1⟩
  unfold set5
  rw [setCell_same (setCell_same (setCell_same (setCell_same (setCell_same hU _) _) _) _) _]; rfl
set_option maxHeartbeats 4000000 in
theorem fall_any {P P2 : Nat → Prop} (X : QW) (hX : rightE X = 0) (t : List QT) (cv hv tv : Value) (w : World) (hC : IsClasses P w cv X.classes) (hH : IsHeap P w hv X.heap) (hT : IsTallies P2 w tv t) :
    Calls Try.prog 6 #[WV cv hv X.epoch, tv] w fun e w' => ∃ a cap, e = .returned (.slice a (allF X t X.classes.length).length cap) ∧ IsFasts (fun b => w.heap.size ≤ b) w' (.slice a (allF X t X.classes.length).length cap) (allF X t X.classes.length) ∧ Below w.heap.size w w' := by
  obtain ⟨ac, cc, rfl, hlc, hcc, -, hrowC0⟩ := id hC
  obtain ⟨ah, ch, rfl, -⟩ := id hH
  obtain ⟨att, ct, rfl, -⟩ := id hT
  unfold maxLen at hcc
  have h12 := right_len hX
  have h8 := nMeth_right hX
  obtain ⟨b1, o1, rfl⟩ : ∃ b1 o1, ac = some ⟨b1, o1, none⟩ := by
    have hl4 : 0 < X.classes.length := by
      unfold rightE at hX
      split at hX
      · cases hX
      · omega
    obtain ⟨b, o, e, -⟩ := hrowC0 0 X.classes[0] (List.getElem?_eq_getElem hl4)
    exact ⟨b, o, e⟩
  clear hrowC0
  have hL0 := faL_new w (.cells #[.slice (some ⟨b1, o1, none⟩) X.classes.length cc, .slice ah X.heap.length ch, .int .i64 X.epoch] 25)
  have hb0 := bel1 w (.cells #[.slice (some ⟨b1, o1, none⟩) X.classes.length cc, .slice ah X.heap.length ch, .int .i64 X.epoch] 25)
  have kb : (w.alloc (.cells #[.slice (some ⟨b1, o1, none⟩) X.classes.length cc, .slice ah X.heap.length ch, .int .i64 X.epoch] 25)).heap[w.heap.size]? = some (.cells #[.slice (some ⟨b1, o1, none⟩) X.classes.length cc, .slice ah X.heap.length ch, .int .i64 X.epoch] 25 (0, 0)) := heap_alloc_new _ _
  go_enter Try.func6, Try.ntmps6
  go_upto_region 2 with (fail)
  generalize w.alloc (.cells #[.slice (some ⟨b1, o1, none⟩) X.classes.length cc, .slice ah X.heap.length ch, .int .i64 X.epoch] 25) = W0 at *
  obtain ⟨⟨k0, k1, k2⟩, -⟩ := box3 kb
  go_wp2
  clear k0 k1 k2
  go_loopg [5, 13] X.classes.length (fun g v iv wr => ∃ (j : Nat) (cs : List Value), j + g = X.classes.length ∧ iv = .int .i64 (j : Int) ∧ FaL W0 (w.heap.size + 1) (allF X t j) cs v wr)
  case atStart => exact ⟨0, [], by omega, rfl, by simpa [allF] using hL0⟩
  case round =>
    clear hL0
    obtain ⟨j, cs, hj, rfl, hL⟩ := hrel
    rename_i vo _
    obtain ⟨a, cap, rfl, hal, hac⟩ := hL.form
    have hbw : Below w.heap.size w wr := hb0.trans ⟨hL.bel.os, hL.bel.tape, hL.bel.output, hL.bel.size, fun b hb => hL.bel.block b (by omega)⟩
    by_cases hlt : j < X.classes.length
    · obtain ⟨x, hx⟩ : ∃ x, X.classes[j]? = some x := ⟨_, List.getElem?_eq_getElem hlt⟩
      have HX := hid hx
      obtain ⟨ac2, cc2, e2, -, -, -, hrowC⟩ := hC.later goodC hbw
      cases e2
      obtain ⟨b2, o2, e3, -, u0, u1, u2, -, mv, u3, hms⟩ := hrowC j x hx
      cases e3
      obtain ⟨am, cm, rfl, hlm, hcm, -, -⟩ := hms
      simp only [Nat.add_zero] at u0
      unfold maxLen at hcm
      have HNM : Hid (nMeth X j = x.methods.length) := by show _ = _; unfold nMeth; rw [hx]
      have hm8 : x.methods.length ≤ 8 := by rw [← HNM.out]; exact h8 j
      have hj1 : (j : Int) < (X.classes.length : Int) := by omega
      have hj0 : (0 : Int) ≤ (j : Int) := by omega
      have kb1 := (hL.bel.block w.heap.size (by omega)).trans kb
      obtain ⟨⟨k0, k1, k2⟩, -⟩ := box3 kb1
      have HJ := hid hj
      have hL1 := hL
      clear hrowC hx
      go_wp2
      clear u0 u1 u2 u3 k0 k1 k2 kb1
      go_loopg [5, 23] x.methods.length (fun g v iv wr2 => ∃ (i : Nat) (cs : List Value), i + g = x.methods.length ∧ iv = .int .i64 (i : Int) ∧ FaL W0 (w.heap.size + 1) (allF X t j ++ clsF X t j i) cs v wr2)
      case atStart => exact ⟨0, cs, by omega, rfl, by simpa [clsF] using hL1⟩
      case round =>
        clear hL hL1 hbw
        obtain ⟨i, cs, hi, rfl, hL⟩ := hrel
        rename_i vo2 _
        obtain ⟨a, cap, e5, hal, hac⟩ := hL.form
        subst e5
        have hbw : Below w.heap.size w wr := hb0.trans ⟨hL.bel.os, hL.bel.tape, hL.bel.output, hL.bel.size, fun b hb => hL.bel.block b (by omega)⟩
        have hwl := hL.sz
        by_cases hlt2 : i < x.methods.length
        · have hln : (allF X t j ++ clsF X t j i).length ≤ 200 := by
            rw [List.length_append]
            have := allF_len (X := X) (t := t) h8 j
            have := clsF_len (X := X) (t := t) j i
            omega
          have kb1 := (hL.bel.block w.heap.size (by omega)).trans kb
          obtain ⟨⟨k0, k1, k2⟩, -⟩ := box3 kb1
          have HI := hid hi
          obtain ⟨fs, HFS⟩ : ∃ fs, Hid (fs = allF X t j ++ clsF X t j i) := ⟨_, rfl⟩
          rw [← HFS.out] at hL hln hal ⊢
          go_upto_region 8 with (fail)
          have hSl : ∀ w', Below wr.heap.size wr w' → w'.cell? ⟨w.heap.size, 0, none⟩ = some (.slice (some ⟨b1, o1, none⟩) X.classes.length cc) ∧ w'.cell? ⟨w.heap.size, 1, none⟩ = some (.slice ah X.heap.length ch) ∧ w'.cell? ⟨w.heap.size, 2, none⟩ = some (.int .i64 X.epoch) := fun w' hb => ⟨cell_later hb k0, cell_later hb k1, cell_later hb k2⟩
          have hd1 : Below wr.heap.size wr wr.drew := (Below.refl _ wr).drew
          have hS0 := hSl _ hd1
          clear k0 k1 k2 kb1
          go_cut [8, 9] (fun pv ov wx => AlC wr (methodA X (j : Int) (i : Int) (sitesE X t (j : Int) (i : Int))) pv ov wx)
          case first =>
            refine wp_region_late (S := fun w' => w'.cell? ⟨w.heap.size, 0, none⟩ = some (.slice (some ⟨b1, o1, none⟩) X.classes.length cc) ∧ w'.cell? ⟨w.heap.size, 1, none⟩ = some (.slice ah X.heap.length ch) ∧ w'.cell? ⟨w.heap.size, 2, none⟩ = some (.int .i64 X.epoch)) [] (by kernel_rfl) ?_
            refine wpAnyM_take (i := 0) (oi := { dst := some 27, op := Op.load 25 (Operand.tmp 2), type := 25, pos := "fast.go:17", after := #[], guard := none }) (v := WV (.slice (some ⟨b1, o1, none⟩) X.classes.length cc) (.slice ah X.heap.length ch) X.epoch) (by kernel_rfl) (by kernel_rfl) rfl (by kernel_rfl) (by kernel_rfl) (by kernel_rfl) (fun _ _ _ h => h) (Or.inl ⟨by rfl, ?_⟩) (hS0) ?_
            · intro w hSw
              obtain ⟨q0, q1, q2⟩ := hSw
              go_simp
            try simp only [Act.put, List.setIfInBounds_toArray, List.set_cons_zero, List.set_cons_succ]
            refine wpAnyM_take (i := 1) (oi := { dst := some 28, op := Op.move (Operand.tmp 6), type := 3, pos := "fast.go:17", after := #[], guard := none }) (v := .int .i64 (j : Int)) (by kernel_rfl) (by kernel_rfl) rfl (by kernel_rfl) (by kernel_rfl) (by kernel_rfl) (fun _ _ _ h => h) (Or.inl ⟨by rfl, ?_⟩) (hS0) ?_
            · intro w hSw
              obtain ⟨q0, q1, q2⟩ := hSw
              go_simp
            try simp only [Act.put, List.setIfInBounds_toArray, List.set_cons_zero, List.set_cons_succ]
            refine wpAnyM_take (i := 2) (oi := { dst := some 29, op := Op.move (Operand.tmp 7), type := 3, pos := "fast.go:17", after := #[], guard := none }) (v := .int .i64 (i : Int)) (by kernel_rfl) (by kernel_rfl) rfl (by kernel_rfl) (by kernel_rfl) (by kernel_rfl) (fun _ _ _ h => h) (Or.inl ⟨by rfl, ?_⟩) (hS0) ?_
            · intro w hSw
              obtain ⟨q0, q1, q2⟩ := hSw
              go_simp
            try simp only [Act.put, List.setIfInBounds_toArray, List.set_cons_zero, List.set_cons_succ]
            refine wpAnyM_take (i := 3) (oi := { dst := some 30, op := Op.load 25 (Operand.tmp 2), type := 25, pos := "fast.go:17", after := #[], guard := none }) (v := WV (.slice (some ⟨b1, o1, none⟩) X.classes.length cc) (.slice ah X.heap.length ch) X.epoch) (by kernel_rfl) (by kernel_rfl) rfl (by kernel_rfl) (by kernel_rfl) (by kernel_rfl) (fun _ _ _ h => h) (Or.inl ⟨by rfl, ?_⟩) (hS0) ?_
            · intro w hSw
              obtain ⟨q0, q1, q2⟩ := hSw
              go_simp
            try simp only [Act.put, List.setIfInBounds_toArray, List.set_cons_zero, List.set_cons_succ]
            refine wpAnyM_take (i := 4) (oi := { dst := some 31, op := Op.move (Operand.tmp 1), type := 26, pos := "fast.go:17", after := #[], guard := none }) (v := .slice att t.length ct) (by kernel_rfl) (by kernel_rfl) rfl (by kernel_rfl) (by kernel_rfl) (by kernel_rfl) (fun _ _ _ h => h) (Or.inl ⟨by rfl, ?_⟩) (hS0) ?_
            · intro w hSw
              obtain ⟨q0, q1, q2⟩ := hSw
              go_simp
            try simp only [Act.put, List.setIfInBounds_toArray, List.set_cons_zero, List.set_cons_succ]
            refine wpAnyM_take (i := 5) (oi := { dst := some 32, op := Op.move (Operand.tmp 6), type := 3, pos := "fast.go:17", after := #[], guard := none }) (v := .int .i64 (j : Int)) (by kernel_rfl) (by kernel_rfl) rfl (by kernel_rfl) (by kernel_rfl) (by kernel_rfl) (fun _ _ _ h => h) (Or.inl ⟨by rfl, ?_⟩) (hS0) ?_
            · intro w hSw
              obtain ⟨q0, q1, q2⟩ := hSw
              go_simp
            try simp only [Act.put, List.setIfInBounds_toArray, List.set_cons_zero, List.set_cons_succ]
            refine wpAnyM_take (i := 6) (oi := { dst := some 33, op := Op.move (Operand.tmp 7), type := 3, pos := "fast.go:17", after := #[], guard := none }) (v := .int .i64 (i : Int)) (by kernel_rfl) (by kernel_rfl) rfl (by kernel_rfl) (by kernel_rfl) (by kernel_rfl) (fun _ _ _ h => h) (Or.inl ⟨by rfl, ?_⟩) (hS0) ?_
            · intro w hSw
              obtain ⟨q0, q1, q2⟩ := hSw
              go_simp
            try simp only [Act.put, List.setIfInBounds_toArray, List.set_cons_zero, List.set_cons_succ]
            refine wpAnyM_ready (rs := [7, 12]) (by kernel_rfl) (by simp) ?_
            intro i hi
            simp only [List.mem_cons, List.not_mem_nil, or_false] at hi
            rcases hi with hi | hi
            · subst hi
              refine stepM (o := { dst := some 34, op := Op.call { callee := Callee.value (Operand.func 15), args := #[Operand.tmp 30, Operand.tmp 31, Operand.tmp 32, Operand.tmp 33], argTypes := #[25, 26, 3, 3] }, type := 63, pos := "fast.go:17", after := #[{ on := 3, ground := Ground.data }, { on := 4, ground := Ground.data }, { on := 5, ground := Ground.data }, { on := 6, ground := Ground.data }], guard := none }) rfl (fun K' hK => ?_)
              refine step_call rfl 15 (.func 15) #[.tmp 30, .tmp 31, .tmp 32, .tmp 33] _ rfl #[] rfl #[WV (.slice (some ⟨b1, o1, none⟩) X.classes.length cc) (.slice ah X.heap.length ch) X.epoch, .slice att t.length ct, .int .i64 (j : Int), .int .i64 (i : Int)] (by simp [Act.eval, Act.put]) (cfx15 _ _) ?_
              refine (show Calls Try.prog 15 #[WV (.slice (some ⟨b1, o1, none⟩) X.classes.length cc) (.slice ah X.heap.length ch) X.epoch, .slice att t.length ct, .int .i64 (j : Int), .int .i64 (i : Int)] wr.drew _ from (sites_any X t (j : Int) (i : Int) _ _ _ wr.drew (hC.later goodC (nstep hbw hd1)) (hH.later goodO (nstep hbw hd1)) (hT.later goodT (nstep hbw hd1))).mono ?_)
              rintro e w2 ⟨as_, cs, rfl, hSi, hbS⟩
              refine ⟨_, rfl, ?_⟩
              have hb2 : Below wr.heap.size wr w2 := nstep hd1 hbS
              refine hK _ _ (fun _ => ?_) ?_
              · exact hSl _ hb2
              clear hK K'
              try simp only [Act.put, List.setIfInBounds_toArray, List.set_cons_zero, List.set_cons_succ]
              refine wpAnyM_ready (rs := [8, 12]) (by kernel_rfl) (by simp) ?_
              intro i hi
              simp only [List.mem_cons, List.not_mem_nil, or_false] at hi
              rcases hi with hi | hi
              · subst hi
                refine stepM (o := { dst := some 35, op := Op.call { callee := Callee.value (Operand.func 14), args := #[Operand.tmp 27, Operand.tmp 28, Operand.tmp 29, Operand.tmp 34], argTypes := #[25, 3, 3, 63] }, type := 61, pos := "fast.go:17", after := #[{ on := 0, ground := Ground.data }, { on := 1, ground := Ground.data }, { on := 2, ground := Ground.data }, { on := 7, ground := Ground.data }, { on := 7, ground := Ground.chain }], guard := none }) rfl (fun K' hK => ?_)
                refine step_call rfl 14 (.func 14) #[.tmp 27, .tmp 28, .tmp 29, .tmp 34] _ rfl #[] rfl #[WV (.slice (some ⟨b1, o1, none⟩) X.classes.length cc) (.slice ah X.heap.length ch) X.epoch, .int .i64 (j : Int), .int .i64 (i : Int), .slice as_ (sitesE X t (j : Int) (i : Int)).length cs] (by simp [Act.eval, Act.put]) (cfx14 _ _) ?_
                refine (show Calls Try.prog 14 #[WV (.slice (some ⟨b1, o1, none⟩) X.classes.length cc) (.slice ah X.heap.length ch) X.epoch, .int .i64 (j : Int), .int .i64 (i : Int), .slice as_ (sitesE X t (j : Int) (i : Int)).length cs] w2 _ from (method_any X hX (j : Int) (i : Int) (sitesE X t (j : Int) (i : Int)) _ _ _ w2 (hC.later goodC (nstep hbw hb2)) (hH.later goodO (nstep hbw hb2)) hSi).mono ?_)
                rintro e w3 ⟨af, cf, rfl, hKf, hbF⟩
                refine ⟨_, rfl, ?_⟩
                have hb3 : Below wr.heap.size wr w3 := nstep hb2 hbF
                refine hK _ _ (fun _ => ?_) ?_
                · exact hSl _ hb3
                clear hK K'
                try simp only [Act.put, List.setIfInBounds_toArray, List.set_cons_zero, List.set_cons_succ]
                obtain ⟨R, HM⟩ : ∃ R, Hid (R = methodA X (j : Int) (i : Int) (sitesE X t (j : Int) (i : Int))) := ⟨_, rfl⟩
                simp only [← HM.out] at hKf ⊢
                refine wpAnyM_take (i := 9) (oi := { dst := some 26, op := Op.move (Operand.tmp 35), type := 61, pos := "fast.go:17", after := #[{ on := 8, ground := Ground.data }], guard := none }) (v := .tuple #[FsV R.1 (.slice af R.1.code.length cf), .bool R.2]) (by kernel_rfl) (by kernel_rfl) rfl (by kernel_rfl) (by kernel_rfl) (by kernel_rfl) (fun _ _ _ h => h) (Or.inl ⟨by rfl, ?_⟩) (hSl _ hb3) ?_
                · intro w hSw
                  obtain ⟨q0, q1, q2⟩ := hSw
                  go_simp
                try simp only [Act.put, List.setIfInBounds_toArray, List.set_cons_zero, List.set_cons_succ]
                refine wpAnyM_take (i := 10) (oi := { dst := some 36, op := Op.extract (Operand.tmp 26) 0, type := 35, pos := "fast.go:17", after := #[{ on := 9, ground := Ground.data }], guard := none }) (v := FsV R.1 (.slice af R.1.code.length cf)) (by kernel_rfl) (by kernel_rfl) rfl (by kernel_rfl) (by kernel_rfl) (by kernel_rfl) (fun _ _ _ h => h) (Or.inl ⟨by rfl, ?_⟩) (hSl _ hb3) ?_
                · intro w hSw
                  obtain ⟨q0, q1, q2⟩ := hSw
                  go_simp
                try simp only [Act.put, List.setIfInBounds_toArray, List.set_cons_zero, List.set_cons_succ]
                refine wpAnyM_take (i := 11) (oi := { dst := some 37, op := Op.extract (Operand.tmp 26) 1, type := 4, pos := "fast.go:17", after := #[{ on := 9, ground := Ground.data }, { on := 13, ground := Ground.gcOnly Departure.lateStores }], guard := none }) (v := .bool R.2) (by kernel_rfl) (by kernel_rfl) rfl (by kernel_rfl) (by kernel_rfl) (by kernel_rfl) (fun _ _ _ h => h) (Or.inl ⟨by rfl, ?_⟩) (hSl _ hb3) ?_
                · intro w hSw
                  obtain ⟨q0, q1, q2⟩ := hSw
                  go_simp
                try simp only [Act.put, List.setIfInBounds_toArray, List.set_cons_zero, List.set_cons_succ]
                refine wpAnyM_ready (rs := [12]) (by kernel_rfl) (by simp) ?_
                intro i hi
                simp only [List.mem_cons, List.not_mem_nil, or_false] at hi
                subst hi
                refine stepM (o := { dst := some 8, op := Op.alloc 35, type := 0, pos := "fast.go:17", after := #[], guard := none }) rfl (fun K' hK => ?_)
                go_simp
                refine hK _ _ (fun _ => ?_) ?_
                · exact hSl _ (nstep hb3 (bel1 _ _))
                clear hK K'
                try simp only [Act.put, List.setIfInBounds_toArray, List.set_cons_zero, List.set_cons_succ]
                have hUb : (w3.alloc (.cells #[.int .i64 0, .string ⟨#[]⟩, .int .i64 0, .int .i64 0, .slice none 0 0] 35)).heap[w3.heap.size]? = some (.cells #[.int .i64 0, .string ⟨#[]⟩, .int .i64 0, .int .i64 0, .slice none 0 0] 35 (0, 0)) := heap_alloc_new _ _
                have hbU : Below wr.heap.size wr (w3.alloc (.cells #[.int .i64 0, .string ⟨#[]⟩, .int .i64 0, .int .i64 0, .slice none 0 0] 35)) := nstep hb3 (bel1 _ _)
                have hUl : w3.heap.size < (w3.alloc (.cells #[.int .i64 0, .string ⟨#[]⟩, .int .i64 0, .int .i64 0, .slice none 0 0] 35)).heap.size := by simp
                have hUw : wr.heap.size ≤ w3.heap.size := hb3.size
                have hUk : Below w3.heap.size w3 (w3.alloc (.cells #[.int .i64 0, .string ⟨#[]⟩, .int .i64 0, .int .i64 0, .slice none 0 0] 35)) := bel1 _ _
                generalize w3.alloc (.cells #[.int .i64 0, .string ⟨#[]⟩, .int .i64 0, .int .i64 0, .slice none 0 0] 35) = U at *
                obtain ⟨bf, HBF⟩ : ∃ bf, Hid (bf = w3.heap.size) := ⟨_, rfl⟩
                rw [← HBF.out] at hUb hUl hUw ⊢
                obtain ⟨r0, r1, r2, r3, r4⟩ := box5x hUb
                have rf := fun o => row_free hUb o
                have HFIN : Hid (AlC wr R (.pointer (some ⟨bf, 0, none⟩)) (.bool R.2) (set5 U bf (.int .i64 R.1.cls) (.string R.1.name) (.int .i64 R.1.epoch) (.int .i64 R.1.temps) (.slice af R.1.code.length cf))) := alc_mk hbU hUw hUb (hKf.later goodI hUk) (fun b hb => ⟨by have := hb.1; have := hb2.size; omega, by have := hb.2; have := HBF.out; omega⟩)
                refine wpAnyM_ready (rs := [13]) (by kernel_rfl) (by simp) ?_
                intro i hi
                simp only [List.mem_cons, List.not_mem_nil, or_false] at hi
                subst hi
                refine stepM (o := { dst := none, op := Op.store 35 (Operand.tmp 8) (Operand.tmp 36), type := 0, pos := "fast.go:17", after := #[{ on := 12, ground := Ground.data }, { on := 10, ground := Ground.data }, { on := 8, ground := Ground.chain }, { on := 0, ground := Ground.phase }, { on := 1, ground := Ground.phase }, { on := 2, ground := Ground.phase }, { on := 3, ground := Ground.phase }, { on := 4, ground := Ground.phase }, { on := 5, ground := Ground.phase }, { on := 6, ground := Ground.phase }, { on := 7, ground := Ground.phase }, { on := 8, ground := Ground.phase }, { on := 9, ground := Ground.phase }, { on := 10, ground := Ground.phase }, { on := 11, ground := Ground.textOnly Departure.lateStores }, { on := 12, ground := Ground.phase }], guard := none }) rfl (fun K' hK => ?_)
                go_simp
                refine hK _ _ (fun _ => ?_) ?_
                · exact ⟨far5 (hSl _ hbU).1 (by have := hUw; have := hwl; omega), far5 (hSl _ hbU).2.1 (by have := hUw; have := hwl; omega), far5 (hSl _ hbU).2.2 (by have := hUw; have := hwl; omega)⟩
                clear hK K'
                try simp only [Act.put, List.setIfInBounds_toArray, List.set_cons_zero, List.set_cons_succ]
                refine wpAnyM_take (i := 14) (oi := { dst := some 9, op := Op.assign (Operand.tmp 37), type := 4, pos := "fast.go:17", after := #[{ on := 11, ground := Ground.data }, { on := 13, ground := Ground.chain }, { on := 0, ground := Ground.phase }, { on := 1, ground := Ground.phase }, { on := 2, ground := Ground.phase }, { on := 3, ground := Ground.phase }, { on := 4, ground := Ground.phase }, { on := 5, ground := Ground.phase }, { on := 6, ground := Ground.phase }, { on := 7, ground := Ground.phase }, { on := 8, ground := Ground.phase }, { on := 9, ground := Ground.phase }, { on := 10, ground := Ground.phase }, { on := 11, ground := Ground.phase }, { on := 12, ground := Ground.phase }, { on := 13, ground := Ground.phase }], guard := none }) (v := .bool R.2) (by kernel_rfl) (by kernel_rfl) rfl (by kernel_rfl) (by kernel_rfl) (by kernel_rfl) (fun _ _ _ h => h) (Or.inl ⟨by rfl, ?_⟩) (⟨far5 (hSl _ hbU).1 (by have := hUw; have := hwl; omega), far5 (hSl _ hbU).2.1 (by have := hUw; have := hwl; omega), far5 (hSl _ hbU).2.2 (by have := hUw; have := hwl; omega)⟩) ?_
                · intro w hSw
                  obtain ⟨q0, q1, q2⟩ := hSw
                  go_simp
                try simp only [Act.put, List.setIfInBounds_toArray, List.set_cons_zero, List.set_cons_succ]
                refine wpAnyM_done (by kernel_rfl) ?_ _
                try simp only [Act.put, List.setIfInBounds_toArray, List.set_cons_zero, List.set_cons_succ]
                go_wp2_with fail
                go_meet
                case rel => rw [← HM.out]; exact HFIN.out
              · subst hi
                refine stepM (o := { dst := some 8, op := Op.alloc 35, type := 0, pos := "fast.go:17", after := #[], guard := none }) rfl (fun K' hK => ?_)
                go_simp
                refine hK _ _ (fun _ => ?_) ?_
                · exact hSl _ (nstep hb2 (bel1 _ _))
                clear hK K'
                try simp only [Act.put, List.setIfInBounds_toArray, List.set_cons_zero, List.set_cons_succ]
                have hUb : (w2.alloc (.cells #[.int .i64 0, .string ⟨#[]⟩, .int .i64 0, .int .i64 0, .slice none 0 0] 35)).heap[w2.heap.size]? = some (.cells #[.int .i64 0, .string ⟨#[]⟩, .int .i64 0, .int .i64 0, .slice none 0 0] 35 (0, 0)) := heap_alloc_new _ _
                have hbU : Below wr.heap.size wr (w2.alloc (.cells #[.int .i64 0, .string ⟨#[]⟩, .int .i64 0, .int .i64 0, .slice none 0 0] 35)) := nstep hb2 (bel1 _ _)
                have hUl : w2.heap.size < (w2.alloc (.cells #[.int .i64 0, .string ⟨#[]⟩, .int .i64 0, .int .i64 0, .slice none 0 0] 35)).heap.size := by simp
                have hUw : wr.heap.size ≤ w2.heap.size := hb2.size
                have hUk : Below w2.heap.size w2 (w2.alloc (.cells #[.int .i64 0, .string ⟨#[]⟩, .int .i64 0, .int .i64 0, .slice none 0 0] 35)) := bel1 _ _
                generalize w2.alloc (.cells #[.int .i64 0, .string ⟨#[]⟩, .int .i64 0, .int .i64 0, .slice none 0 0] 35) = U at *
                obtain ⟨bf, HBF⟩ : ∃ bf, Hid (bf = w2.heap.size) := ⟨_, rfl⟩
                rw [← HBF.out] at hUb hUl hUw ⊢
                refine wpAnyM_ready (rs := [8]) (by kernel_rfl) (by simp) ?_
                intro i hi
                simp only [List.mem_cons, List.not_mem_nil, or_false] at hi
                subst hi
                refine stepM (o := { dst := some 35, op := Op.call { callee := Callee.value (Operand.func 14), args := #[Operand.tmp 27, Operand.tmp 28, Operand.tmp 29, Operand.tmp 34], argTypes := #[25, 3, 3, 63] }, type := 61, pos := "fast.go:17", after := #[{ on := 0, ground := Ground.data }, { on := 1, ground := Ground.data }, { on := 2, ground := Ground.data }, { on := 7, ground := Ground.data }, { on := 7, ground := Ground.chain }], guard := none }) rfl (fun K' hK => ?_)
                refine step_call rfl 14 (.func 14) #[.tmp 27, .tmp 28, .tmp 29, .tmp 34] _ rfl #[] rfl #[WV (.slice (some ⟨b1, o1, none⟩) X.classes.length cc) (.slice ah X.heap.length ch) X.epoch, .int .i64 (j : Int), .int .i64 (i : Int), .slice as_ (sitesE X t (j : Int) (i : Int)).length cs] (by simp [Act.eval, Act.put]) (cfx14 _ _) ?_
                refine (show Calls Try.prog 14 #[WV (.slice (some ⟨b1, o1, none⟩) X.classes.length cc) (.slice ah X.heap.length ch) X.epoch, .int .i64 (j : Int), .int .i64 (i : Int), .slice as_ (sitesE X t (j : Int) (i : Int)).length cs] U _ from (method_any X hX (j : Int) (i : Int) (sitesE X t (j : Int) (i : Int)) _ _ _ U (hC.later goodC (nstep hbw hbU)) (hH.later goodO (nstep hbw hbU)) (hSi.later goodN hUk)).mono ?_)
                rintro e w3 ⟨af, cf, rfl, hKf, hbF⟩
                refine ⟨_, rfl, ?_⟩
                have hb3 : Below wr.heap.size wr w3 := nstep hbU hbF
                refine hK _ _ (fun _ => ?_) ?_
                · exact hSl _ hb3
                clear hK K'
                try simp only [Act.put, List.setIfInBounds_toArray, List.set_cons_zero, List.set_cons_succ]
                obtain ⟨R, HM⟩ : ∃ R, Hid (R = methodA X (j : Int) (i : Int) (sitesE X t (j : Int) (i : Int))) := ⟨_, rfl⟩
                simp only [← HM.out] at hKf ⊢
                refine wpAnyM_take (i := 9) (oi := { dst := some 26, op := Op.move (Operand.tmp 35), type := 61, pos := "fast.go:17", after := #[{ on := 8, ground := Ground.data }], guard := none }) (v := .tuple #[FsV R.1 (.slice af R.1.code.length cf), .bool R.2]) (by kernel_rfl) (by kernel_rfl) rfl (by kernel_rfl) (by kernel_rfl) (by kernel_rfl) (fun _ _ _ h => h) (Or.inl ⟨by rfl, ?_⟩) (hSl _ hb3) ?_
                · intro w hSw
                  obtain ⟨q0, q1, q2⟩ := hSw
                  go_simp
                try simp only [Act.put, List.setIfInBounds_toArray, List.set_cons_zero, List.set_cons_succ]
                refine wpAnyM_take (i := 10) (oi := { dst := some 36, op := Op.extract (Operand.tmp 26) 0, type := 35, pos := "fast.go:17", after := #[{ on := 9, ground := Ground.data }], guard := none }) (v := FsV R.1 (.slice af R.1.code.length cf)) (by kernel_rfl) (by kernel_rfl) rfl (by kernel_rfl) (by kernel_rfl) (by kernel_rfl) (fun _ _ _ h => h) (Or.inl ⟨by rfl, ?_⟩) (hSl _ hb3) ?_
                · intro w hSw
                  obtain ⟨q0, q1, q2⟩ := hSw
                  go_simp
                try simp only [Act.put, List.setIfInBounds_toArray, List.set_cons_zero, List.set_cons_succ]
                refine wpAnyM_take (i := 11) (oi := { dst := some 37, op := Op.extract (Operand.tmp 26) 1, type := 4, pos := "fast.go:17", after := #[{ on := 9, ground := Ground.data }, { on := 13, ground := Ground.gcOnly Departure.lateStores }], guard := none }) (v := .bool R.2) (by kernel_rfl) (by kernel_rfl) rfl (by kernel_rfl) (by kernel_rfl) (by kernel_rfl) (fun _ _ _ h => h) (Or.inl ⟨by rfl, ?_⟩) (hSl _ hb3) ?_
                · intro w hSw
                  obtain ⟨q0, q1, q2⟩ := hSw
                  go_simp
                try simp only [Act.put, List.setIfInBounds_toArray, List.set_cons_zero, List.set_cons_succ]
                obtain ⟨r0, r1, r2, r3, r4⟩ := box5x (box_later' hUb hbF)
                have rf := fun o => row_free (box_later' hUb hbF) o
                have HFIN : Hid (AlC wr R (.pointer (some ⟨bf, 0, none⟩)) (.bool R.2) (set5 w3 bf (.int .i64 R.1.cls) (.string R.1.name) (.int .i64 R.1.epoch) (.int .i64 R.1.temps) (.slice af R.1.code.length cf))) := alc_mk hb3 hUw (box_later' hUb hbF) hKf (fun b hb => ⟨by have := hb.1; have := hbU.size; omega, by have := hb.1; omega⟩)
                refine wpAnyM_ready (rs := [13]) (by kernel_rfl) (by simp) ?_
                intro i hi
                simp only [List.mem_cons, List.not_mem_nil, or_false] at hi
                subst hi
                refine stepM (o := { dst := none, op := Op.store 35 (Operand.tmp 8) (Operand.tmp 36), type := 0, pos := "fast.go:17", after := #[{ on := 12, ground := Ground.data }, { on := 10, ground := Ground.data }, { on := 8, ground := Ground.chain }, { on := 0, ground := Ground.phase }, { on := 1, ground := Ground.phase }, { on := 2, ground := Ground.phase }, { on := 3, ground := Ground.phase }, { on := 4, ground := Ground.phase }, { on := 5, ground := Ground.phase }, { on := 6, ground := Ground.phase }, { on := 7, ground := Ground.phase }, { on := 8, ground := Ground.phase }, { on := 9, ground := Ground.phase }, { on := 10, ground := Ground.phase }, { on := 11, ground := Ground.textOnly Departure.lateStores }, { on := 12, ground := Ground.phase }], guard := none }) rfl (fun K' hK => ?_)
                go_simp
                refine hK _ _ (fun _ => ?_) ?_
                · exact ⟨far5 (hSl _ hb3).1 (by have := hUw; have := hwl; omega), far5 (hSl _ hb3).2.1 (by have := hUw; have := hwl; omega), far5 (hSl _ hb3).2.2 (by have := hUw; have := hwl; omega)⟩
                clear hK K'
                try simp only [Act.put, List.setIfInBounds_toArray, List.set_cons_zero, List.set_cons_succ]
                refine wpAnyM_take (i := 14) (oi := { dst := some 9, op := Op.assign (Operand.tmp 37), type := 4, pos := "fast.go:17", after := #[{ on := 11, ground := Ground.data }, { on := 13, ground := Ground.chain }, { on := 0, ground := Ground.phase }, { on := 1, ground := Ground.phase }, { on := 2, ground := Ground.phase }, { on := 3, ground := Ground.phase }, { on := 4, ground := Ground.phase }, { on := 5, ground := Ground.phase }, { on := 6, ground := Ground.phase }, { on := 7, ground := Ground.phase }, { on := 8, ground := Ground.phase }, { on := 9, ground := Ground.phase }, { on := 10, ground := Ground.phase }, { on := 11, ground := Ground.phase }, { on := 12, ground := Ground.phase }, { on := 13, ground := Ground.phase }], guard := none }) (v := .bool R.2) (by kernel_rfl) (by kernel_rfl) rfl (by kernel_rfl) (by kernel_rfl) (by kernel_rfl) (fun _ _ _ h => h) (Or.inl ⟨by rfl, ?_⟩) (⟨far5 (hSl _ hb3).1 (by have := hUw; have := hwl; omega), far5 (hSl _ hb3).2.1 (by have := hUw; have := hwl; omega), far5 (hSl _ hb3).2.2 (by have := hUw; have := hwl; omega)⟩) ?_
                · intro w hSw
                  obtain ⟨q0, q1, q2⟩ := hSw
                  go_simp
                try simp only [Act.put, List.setIfInBounds_toArray, List.set_cons_zero, List.set_cons_succ]
                refine wpAnyM_done (by kernel_rfl) ?_ _
                try simp only [Act.put, List.setIfInBounds_toArray, List.set_cons_zero, List.set_cons_succ]
                go_wp2_with fail
                go_meet
                case rel => rw [← HM.out]; exact HFIN.out
            · subst hi
              refine stepM (o := { dst := some 8, op := Op.alloc 35, type := 0, pos := "fast.go:17", after := #[], guard := none }) rfl (fun K' hK => ?_)
              go_simp
              refine hK _ _ (fun _ => ?_) ?_
              · exact hSl _ (bel1 wr (.cells #[.int .i64 0, .string ⟨#[]⟩, .int .i64 0, .int .i64 0, .slice none 0 0] 35)).drew
              clear hK K'
              try simp only [Act.put, List.setIfInBounds_toArray, List.set_cons_zero, List.set_cons_succ]
              have hUb : ((wr.alloc (.cells #[.int .i64 0, .string ⟨#[]⟩, .int .i64 0, .int .i64 0, .slice none 0 0] 35)).drew).heap[wr.heap.size]? = some (.cells #[.int .i64 0, .string ⟨#[]⟩, .int .i64 0, .int .i64 0, .slice none 0 0] 35 (0, 0)) := heap_alloc_new wr _
              have hbU : Below wr.heap.size wr ((wr.alloc (.cells #[.int .i64 0, .string ⟨#[]⟩, .int .i64 0, .int .i64 0, .slice none 0 0] 35)).drew) := (bel1 wr _).drew
              have hUl : wr.heap.size < ((wr.alloc (.cells #[.int .i64 0, .string ⟨#[]⟩, .int .i64 0, .int .i64 0, .slice none 0 0] 35)).drew).heap.size := by show wr.heap.size < (wr.alloc _).heap.size; simp
              generalize (wr.alloc (.cells #[.int .i64 0, .string ⟨#[]⟩, .int .i64 0, .int .i64 0, .slice none 0 0] 35)).drew = U at *
              obtain ⟨bf, HBF⟩ : ∃ bf, Hid (bf = wr.heap.size) := ⟨_, rfl⟩
              have hUw : wr.heap.size ≤ bf := by rw [HBF.out]; exact Nat.le_refl _
              rw [← HBF.out] at hUb hUl ⊢
              refine wpAnyM_ready (rs := [7]) (by kernel_rfl) (by simp) ?_
              intro i hi
              simp only [List.mem_cons, List.not_mem_nil, or_false] at hi
              subst hi
              refine stepM (o := { dst := some 34, op := Op.call { callee := Callee.value (Operand.func 15), args := #[Operand.tmp 30, Operand.tmp 31, Operand.tmp 32, Operand.tmp 33], argTypes := #[25, 26, 3, 3] }, type := 63, pos := "fast.go:17", after := #[{ on := 3, ground := Ground.data }, { on := 4, ground := Ground.data }, { on := 5, ground := Ground.data }, { on := 6, ground := Ground.data }], guard := none }) rfl (fun K' hK => ?_)
              refine step_call rfl 15 (.func 15) #[.tmp 30, .tmp 31, .tmp 32, .tmp 33] _ rfl #[] rfl #[WV (.slice (some ⟨b1, o1, none⟩) X.classes.length cc) (.slice ah X.heap.length ch) X.epoch, .slice att t.length ct, .int .i64 (j : Int), .int .i64 (i : Int)] (by simp [Act.eval, Act.put]) (cfx15 _ _) ?_
              refine (show Calls Try.prog 15 #[WV (.slice (some ⟨b1, o1, none⟩) X.classes.length cc) (.slice ah X.heap.length ch) X.epoch, .slice att t.length ct, .int .i64 (j : Int), .int .i64 (i : Int)] U _ from (sites_any X t (j : Int) (i : Int) _ _ _ U (hC.later goodC (nstep hbw hbU)) (hH.later goodO (nstep hbw hbU)) (hT.later goodT (nstep hbw hbU))).mono ?_)
              rintro e w2 ⟨as_, cs, rfl, hSi, hbS⟩
              refine ⟨_, rfl, ?_⟩
              have hb2 : Below wr.heap.size wr w2 := nstep hbU hbS
              refine hK _ _ (fun _ => ?_) ?_
              · exact hSl _ hb2
              clear hK K'
              try simp only [Act.put, List.setIfInBounds_toArray, List.set_cons_zero, List.set_cons_succ]
              refine wpAnyM_ready (rs := [8]) (by kernel_rfl) (by simp) ?_
              intro i hi
              simp only [List.mem_cons, List.not_mem_nil, or_false] at hi
              subst hi
              refine stepM (o := { dst := some 35, op := Op.call { callee := Callee.value (Operand.func 14), args := #[Operand.tmp 27, Operand.tmp 28, Operand.tmp 29, Operand.tmp 34], argTypes := #[25, 3, 3, 63] }, type := 61, pos := "fast.go:17", after := #[{ on := 0, ground := Ground.data }, { on := 1, ground := Ground.data }, { on := 2, ground := Ground.data }, { on := 7, ground := Ground.data }, { on := 7, ground := Ground.chain }], guard := none }) rfl (fun K' hK => ?_)
              refine step_call rfl 14 (.func 14) #[.tmp 27, .tmp 28, .tmp 29, .tmp 34] _ rfl #[] rfl #[WV (.slice (some ⟨b1, o1, none⟩) X.classes.length cc) (.slice ah X.heap.length ch) X.epoch, .int .i64 (j : Int), .int .i64 (i : Int), .slice as_ (sitesE X t (j : Int) (i : Int)).length cs] (by simp [Act.eval, Act.put]) (cfx14 _ _) ?_
              refine (show Calls Try.prog 14 #[WV (.slice (some ⟨b1, o1, none⟩) X.classes.length cc) (.slice ah X.heap.length ch) X.epoch, .int .i64 (j : Int), .int .i64 (i : Int), .slice as_ (sitesE X t (j : Int) (i : Int)).length cs] w2 _ from (method_any X hX (j : Int) (i : Int) (sitesE X t (j : Int) (i : Int)) _ _ _ w2 (hC.later goodC (nstep hbw hb2)) (hH.later goodO (nstep hbw hb2)) hSi).mono ?_)
              rintro e w3 ⟨af, cf, rfl, hKf, hbF⟩
              refine ⟨_, rfl, ?_⟩
              have hb3 : Below wr.heap.size wr w3 := nstep hb2 hbF
              refine hK _ _ (fun _ => ?_) ?_
              · exact hSl _ hb3
              clear hK K'
              try simp only [Act.put, List.setIfInBounds_toArray, List.set_cons_zero, List.set_cons_succ]
              obtain ⟨R, HM⟩ : ∃ R, Hid (R = methodA X (j : Int) (i : Int) (sitesE X t (j : Int) (i : Int))) := ⟨_, rfl⟩
              simp only [← HM.out] at hKf ⊢
              refine wpAnyM_take (i := 9) (oi := { dst := some 26, op := Op.move (Operand.tmp 35), type := 61, pos := "fast.go:17", after := #[{ on := 8, ground := Ground.data }], guard := none }) (v := .tuple #[FsV R.1 (.slice af R.1.code.length cf), .bool R.2]) (by kernel_rfl) (by kernel_rfl) rfl (by kernel_rfl) (by kernel_rfl) (by kernel_rfl) (fun _ _ _ h => h) (Or.inl ⟨by rfl, ?_⟩) (hSl _ hb3) ?_
              · intro w hSw
                obtain ⟨q0, q1, q2⟩ := hSw
                go_simp
              try simp only [Act.put, List.setIfInBounds_toArray, List.set_cons_zero, List.set_cons_succ]
              refine wpAnyM_take (i := 10) (oi := { dst := some 36, op := Op.extract (Operand.tmp 26) 0, type := 35, pos := "fast.go:17", after := #[{ on := 9, ground := Ground.data }], guard := none }) (v := FsV R.1 (.slice af R.1.code.length cf)) (by kernel_rfl) (by kernel_rfl) rfl (by kernel_rfl) (by kernel_rfl) (by kernel_rfl) (fun _ _ _ h => h) (Or.inl ⟨by rfl, ?_⟩) (hSl _ hb3) ?_
              · intro w hSw
                obtain ⟨q0, q1, q2⟩ := hSw
                go_simp
              try simp only [Act.put, List.setIfInBounds_toArray, List.set_cons_zero, List.set_cons_succ]
              refine wpAnyM_take (i := 11) (oi := { dst := some 37, op := Op.extract (Operand.tmp 26) 1, type := 4, pos := "fast.go:17", after := #[{ on := 9, ground := Ground.data }, { on := 13, ground := Ground.gcOnly Departure.lateStores }], guard := none }) (v := .bool R.2) (by kernel_rfl) (by kernel_rfl) rfl (by kernel_rfl) (by kernel_rfl) (by kernel_rfl) (fun _ _ _ h => h) (Or.inl ⟨by rfl, ?_⟩) (hSl _ hb3) ?_
              · intro w hSw
                obtain ⟨q0, q1, q2⟩ := hSw
                go_simp
              try simp only [Act.put, List.setIfInBounds_toArray, List.set_cons_zero, List.set_cons_succ]
              obtain ⟨r0, r1, r2, r3, r4⟩ := box5x (box_later' hUb (nstep hbS hbF))
              have rf := fun o => row_free (box_later' hUb (nstep hbS hbF)) o
              have HFIN : Hid (AlC wr R (.pointer (some ⟨bf, 0, none⟩)) (.bool R.2) (set5 w3 bf (.int .i64 R.1.cls) (.string R.1.name) (.int .i64 R.1.epoch) (.int .i64 R.1.temps) (.slice af R.1.code.length cf))) := alc_mk hb3 hUw (box_later' hUb (nstep hbS hbF)) hKf (fun b hb => ⟨by have := hb.1; have := hb2.size; omega, by have := hb.1; have := hbS.size; omega⟩)
              refine wpAnyM_ready (rs := [13]) (by kernel_rfl) (by simp) ?_
              intro i hi
              simp only [List.mem_cons, List.not_mem_nil, or_false] at hi
              subst hi
              refine stepM (o := { dst := none, op := Op.store 35 (Operand.tmp 8) (Operand.tmp 36), type := 0, pos := "fast.go:17", after := #[{ on := 12, ground := Ground.data }, { on := 10, ground := Ground.data }, { on := 8, ground := Ground.chain }, { on := 0, ground := Ground.phase }, { on := 1, ground := Ground.phase }, { on := 2, ground := Ground.phase }, { on := 3, ground := Ground.phase }, { on := 4, ground := Ground.phase }, { on := 5, ground := Ground.phase }, { on := 6, ground := Ground.phase }, { on := 7, ground := Ground.phase }, { on := 8, ground := Ground.phase }, { on := 9, ground := Ground.phase }, { on := 10, ground := Ground.phase }, { on := 11, ground := Ground.textOnly Departure.lateStores }, { on := 12, ground := Ground.phase }], guard := none }) rfl (fun K' hK => ?_)
              go_simp
              refine hK _ _ (fun _ => ?_) ?_
              · exact ⟨far5 (hSl _ hb3).1 (by have := hUw; have := hwl; omega), far5 (hSl _ hb3).2.1 (by have := hUw; have := hwl; omega), far5 (hSl _ hb3).2.2 (by have := hUw; have := hwl; omega)⟩
              clear hK K'
              try simp only [Act.put, List.setIfInBounds_toArray, List.set_cons_zero, List.set_cons_succ]
              refine wpAnyM_take (i := 14) (oi := { dst := some 9, op := Op.assign (Operand.tmp 37), type := 4, pos := "fast.go:17", after := #[{ on := 11, ground := Ground.data }, { on := 13, ground := Ground.chain }, { on := 0, ground := Ground.phase }, { on := 1, ground := Ground.phase }, { on := 2, ground := Ground.phase }, { on := 3, ground := Ground.phase }, { on := 4, ground := Ground.phase }, { on := 5, ground := Ground.phase }, { on := 6, ground := Ground.phase }, { on := 7, ground := Ground.phase }, { on := 8, ground := Ground.phase }, { on := 9, ground := Ground.phase }, { on := 10, ground := Ground.phase }, { on := 11, ground := Ground.phase }, { on := 12, ground := Ground.phase }, { on := 13, ground := Ground.phase }], guard := none }) (v := .bool R.2) (by kernel_rfl) (by kernel_rfl) rfl (by kernel_rfl) (by kernel_rfl) (by kernel_rfl) (fun _ _ _ h => h) (Or.inl ⟨by rfl, ?_⟩) (⟨far5 (hSl _ hb3).1 (by have := hUw; have := hwl; omega), far5 (hSl _ hb3).2.1 (by have := hUw; have := hwl; omega), far5 (hSl _ hb3).2.2 (by have := hUw; have := hwl; omega)⟩) ?_
              · intro w hSw
                obtain ⟨q0, q1, q2⟩ := hSw
                go_simp
              try simp only [Act.put, List.setIfInBounds_toArray, List.set_cons_zero, List.set_cons_succ]
              refine wpAnyM_done (by kernel_rfl) ?_ _
              try simp only [Act.put, List.setIfInBounds_toArray, List.set_cons_zero, List.set_cons_succ]
              go_wp2_with fail
              go_meet
              case rel => rw [← HM.out]; exact HFIN.out

          case rest =>
            obtain ⟨R, HM⟩ : ∃ R, Hid (methodA X (j : Int) (i : Int) (sitesE X t (j : Int) (i : Int)) = R) := ⟨_, rfl⟩
            rw [HM.out] at hcut
            obtain ⟨f, ok⟩ := R
            obtain ⟨bf, af, cf, rfl, rfl, hbx, hbc, hcf⟩ := hcut
            dsimp only at hbx hcf ⊢
            have hL2 := hL.later hbc
            have hsz2 := hL2.sz
            have hLv := fun g hg => (hL.own.lt g hg).2
            cases ok with
            | false =>
              have HE : Hid (fs = allF X t j ++ clsF X t j (i + 1)) := by show _ = _; rw [HFS.out, clsF_succ, oneF_no HM.out]; simp
              go_wp2
              go_roundg (x.methods.length - (i + 1))
              case measure => omega
              case rel => exact ⟨i + 1, cs, by omega, by go_num, by rw [← HE.out]; exact hL2⟩
            | true =>
              have HE : Hid (fs ++ [f] = allF X t j ++ clsF X t j (i + 1)) := by show _ = _; rw [HFS.out, clsF_succ, oneF_yes HM.out, List.append_assoc]
              obtain ⟨r0, r1, r2, r3, r4⟩ := box5x hbx
              go_wp2_with (at_builtin; refine wpList_append_at rfl (.tmp 39) (.tmp 41) 30 35 _ 5 64 rfl Try.underlying30 info35 rfl (by omega) (w.heap.size + 1) fs.length (.slice a fs.length cap) cs rfl (hL2.own.alloc _) wc.heap.size rfl [.int .i64 f.cls, .string f.name, .int .i64 f.epoch, .int .i64 f.temps, .slice af f.code.length cf] rfl (heap_alloc_new _ _) (by intro u hu; simp only [List.mem_cons, List.not_mem_nil, or_false] at hu; rcases hu with h | h | h | h | h <;> (subst h; rfl)) (by unfold maxLen; omega) (by omega) (Nat.le_trans hsz2 (by simp)) ?_; intro a3 cap3 w3 s1 s2 s3 s4; have hN := hid ((hL2.later (bel1 wc (.cells #[.int .i64 f.cls, .string f.name, .int .i64 f.epoch, .int .i64 f.temps, .slice af f.code.length cf] 35))).add (f := f) (kv := .slice af f.code.length cf) (L := wr.heap.size) (hcf.later goodI (bel1 wc _)) (fun b hb => hb) hwl hLv s1 s2 s3 s4); clear s1 s2 s3 s4)
              go_roundg (x.methods.length - (i + 1))
              case measure => omega
              case rel => exact ⟨i + 1, _, by omega, by go_num, by rw [← HE.out]; exact hN.out⟩
        · obtain rfl : i = x.methods.length := by omega
          have HE : Hid (allF X t j ++ clsF X t j x.methods.length = allF X t (j + 1)) := by show _ = _; rw [allF_succ, HNM.out]
          rw [HE.out] at hL ⊢
          go_wp2
          go_roundg (X.classes.length - (j + 1))
          case measure => have := HJ.out; omega
          case rel => exact ⟨j + 1, cs, by omega, by go_num, hL⟩
    · obtain rfl : j = X.classes.length := by omega
      have hF := hL.fasts (by have := allF_len (X := X) (t := t) h8 X.classes.length; omega)
      have HQ := hid (hF.mono goodF (Q := fun b => w.heap.size ≤ b) fun b hb => by omega)
      go_wp2
      go_ret
      exact ⟨a, cap, rfl, HQ.out, hbw⟩
set_option maxHeartbeats 4000000 in
theorem frall_any {P P2 : Nat → Prop} (X : QW) (hX : rightE X = 0) (t : List QT) (hM : ∀ s, (mostL (linesAt t s)).found ≤ 1000000) (cv hv tv : Value) (w : World) (hC : IsClasses P w cv X.classes) (hH : IsHeap P w hv X.heap) (hT : IsTallies P2 w tv t) :
    Calls Try.prog 7 #[WV cv hv X.epoch, tv] w fun e w' => ∃ a cap, e = .returned (.slice a (allF X t X.classes.length).length cap) ∧ IsFasts (fun b => w.heap.size ≤ b) w' (.slice a (allF X t X.classes.length).length cap) (allF X t X.classes.length) ∧ Below w.heap.size w w' := by
  obtain ⟨ac, cc, rfl, hlc, hcc, -, hrowC0⟩ := id hC
  obtain ⟨ah, ch, rfl, -⟩ := id hH
  obtain ⟨att, ct, rfl, -⟩ := id hT
  unfold maxLen at hcc
  have h12 := right_len hX
  have h8 := nMeth_right hX
  obtain ⟨b1, o1, rfl⟩ : ∃ b1 o1, ac = some ⟨b1, o1, none⟩ := by
    have hl4 : 0 < X.classes.length := by
      unfold rightE at hX
      split at hX
      · cases hX
      · omega
    obtain ⟨b, o, e, -⟩ := hrowC0 0 X.classes[0] (List.getElem?_eq_getElem hl4)
    exact ⟨b, o, e⟩
  clear hrowC0
  have hL0 := faL_new w (.cells #[.slice (some ⟨b1, o1, none⟩) X.classes.length cc, .slice ah X.heap.length ch, .int .i64 X.epoch] 25)
  have hb0 := bel1 w (.cells #[.slice (some ⟨b1, o1, none⟩) X.classes.length cc, .slice ah X.heap.length ch, .int .i64 X.epoch] 25)
  have kb : (w.alloc (.cells #[.slice (some ⟨b1, o1, none⟩) X.classes.length cc, .slice ah X.heap.length ch, .int .i64 X.epoch] 25)).heap[w.heap.size]? = some (.cells #[.slice (some ⟨b1, o1, none⟩) X.classes.length cc, .slice ah X.heap.length ch, .int .i64 X.epoch] 25 (0, 0)) := heap_alloc_new _ _
  go_enter Try.func7, Try.ntmps7
  go_upto_region 2 with (fail)
  generalize w.alloc (.cells #[.slice (some ⟨b1, o1, none⟩) X.classes.length cc, .slice ah X.heap.length ch, .int .i64 X.epoch] 25) = W0 at *
  obtain ⟨⟨k0, k1, k2⟩, -⟩ := box3 kb
  go_wp2
  clear k0 k1 k2
  go_loopg [5, 14] X.classes.length (fun g v iv wr => ∃ (j : Nat) (cs : List Value), j + g = X.classes.length ∧ iv = .int .i64 (j : Int) ∧ FaL W0 (w.heap.size + 1) (allF X t j) cs v wr)
  case atStart => exact ⟨0, [], by omega, rfl, by simpa [allF] using hL0⟩
  case round =>
    clear hL0
    obtain ⟨j, cs, hj, rfl, hL⟩ := hrel
    rename_i vo _
    obtain ⟨a, cap, rfl, hal, hac⟩ := hL.form
    have hbw : Below w.heap.size w wr := hb0.trans ⟨hL.bel.os, hL.bel.tape, hL.bel.output, hL.bel.size, fun b hb => hL.bel.block b (by omega)⟩
    by_cases hlt : j < X.classes.length
    · obtain ⟨x, hx⟩ : ∃ x, X.classes[j]? = some x := ⟨_, List.getElem?_eq_getElem hlt⟩
      have HX := hid hx
      obtain ⟨ac2, cc2, e2, -, -, -, hrowC⟩ := hC.later goodC hbw
      cases e2
      obtain ⟨b2, o2, e3, -, u0, u1, u2, -, mv, u3, hms⟩ := hrowC j x hx
      cases e3
      obtain ⟨am, cm, rfl, hlm, hcm, -, -⟩ := hms
      simp only [Nat.add_zero] at u0
      unfold maxLen at hcm
      have HNM : Hid (nMeth X j = x.methods.length) := by show _ = _; unfold nMeth; rw [hx]
      have hm8 : x.methods.length ≤ 8 := by rw [← HNM.out]; exact h8 j
      have hj1 : (j : Int) < (X.classes.length : Int) := by omega
      have hj0 : (0 : Int) ≤ (j : Int) := by omega
      have kb1 := (hL.bel.block w.heap.size (by omega)).trans kb
      obtain ⟨⟨k0, k1, k2⟩, -⟩ := box3 kb1
      have HJ := hid hj
      have hL1 := hL.later (bel1 wr (.cells #[.string x.name, .int .i64 x.super, .int .i64 x.slots, .slice am x.methods.length cm] 40))
      clear hrowC hx
      go_wp2
      clear u0 u1 u2 u3 k0 k1 k2 kb1
      go_loopg [5, 22] x.methods.length (fun g v iv wr2 => ∃ (i : Nat) (cs : List Value), i + g = x.methods.length ∧ iv = .int .i64 (i : Int) ∧ FaL W0 (w.heap.size + 1) (allF X t j ++ clsF X t j i) cs v wr2)
      case atStart => exact ⟨0, cs, by omega, rfl, by simpa [clsF] using hL1⟩
      case round =>
        clear hL hL1 hbw
        obtain ⟨i, cs, hi, rfl, hL⟩ := hrel
        rename_i vo2 _
        obtain ⟨a, cap, e5, hal, hac⟩ := hL.form
        subst e5
        have hbw : Below w.heap.size w wr := hb0.trans ⟨hL.bel.os, hL.bel.tape, hL.bel.output, hL.bel.size, fun b hb => hL.bel.block b (by omega)⟩
        have hwl := hL.sz
        by_cases hlt2 : i < x.methods.length
        · have hln : (allF X t j ++ clsF X t j i).length ≤ 200 := by
            rw [List.length_append]
            have := allF_len (X := X) (t := t) h8 j
            have := clsF_len (X := X) (t := t) j i
            omega
          have kb1 := (hL.bel.block w.heap.size (by omega)).trans kb
          obtain ⟨⟨k0, k1, k2⟩, -⟩ := box3 kb1
          have HI := hid hi
          obtain ⟨fs, HFS⟩ : ∃ fs, Hid (fs = allF X t j ++ clsF X t j i) := ⟨_, rfl⟩
          rw [← HFS.out] at hL hln hal ⊢
          go_upto_region 8 with (fail)
          have hSl : ∀ w', Below wr.heap.size wr w' → w'.cell? ⟨w.heap.size, 0, none⟩ = some (.slice (some ⟨b1, o1, none⟩) X.classes.length cc) ∧ w'.cell? ⟨w.heap.size, 1, none⟩ = some (.slice ah X.heap.length ch) ∧ w'.cell? ⟨w.heap.size, 2, none⟩ = some (.int .i64 X.epoch) := fun w' hb => ⟨cell_later hb k0, cell_later hb k1, cell_later hb k2⟩
          have hd1 : Below wr.heap.size wr wr.drew := (Below.refl _ wr).drew
          have hS0 := hSl _ hd1
          clear k0 k1 k2 kb1
          go_cut [9, 10] (fun pv ov wx => AlC wr (methodA X (j : Int) (i : Int) (sitesE X t (j : Int) (i : Int))) pv ov wx)
          case first =>
            refine wp_region_late (S := fun w' => w'.cell? ⟨w.heap.size, 0, none⟩ = some (.slice (some ⟨b1, o1, none⟩) X.classes.length cc) ∧ w'.cell? ⟨w.heap.size, 1, none⟩ = some (.slice ah X.heap.length ch) ∧ w'.cell? ⟨w.heap.size, 2, none⟩ = some (.int .i64 X.epoch)) [] (by kernel_rfl) ?_
            refine wpAnyM_take (i := 0) (oi := { dst := some 26, op := Op.load 25 (Operand.tmp 2), type := 25, pos := "ref.go:316", after := #[], guard := none }) (v := WV (.slice (some ⟨b1, o1, none⟩) X.classes.length cc) (.slice ah X.heap.length ch) X.epoch) (by kernel_rfl) (by kernel_rfl) rfl (by kernel_rfl) (by kernel_rfl) (by kernel_rfl) (fun _ _ _ h => h) (Or.inl ⟨by rfl, ?_⟩) (hS0) ?_
            · intro w hSw
              obtain ⟨q0, q1, q2⟩ := hSw
              go_simp
            try simp only [Act.put, List.setIfInBounds_toArray, List.set_cons_zero, List.set_cons_succ]
            refine wpAnyM_take (i := 1) (oi := { dst := some 27, op := Op.move (Operand.tmp 6), type := 3, pos := "ref.go:316", after := #[], guard := none }) (v := .int .i64 (j : Int)) (by kernel_rfl) (by kernel_rfl) rfl (by kernel_rfl) (by kernel_rfl) (by kernel_rfl) (fun _ _ _ h => h) (Or.inl ⟨by rfl, ?_⟩) (hS0) ?_
            · intro w hSw
              obtain ⟨q0, q1, q2⟩ := hSw
              go_simp
            try simp only [Act.put, List.setIfInBounds_toArray, List.set_cons_zero, List.set_cons_succ]
            refine wpAnyM_take (i := 2) (oi := { dst := some 28, op := Op.move (Operand.tmp 8), type := 3, pos := "ref.go:316", after := #[], guard := none }) (v := .int .i64 (i : Int)) (by kernel_rfl) (by kernel_rfl) rfl (by kernel_rfl) (by kernel_rfl) (by kernel_rfl) (fun _ _ _ h => h) (Or.inl ⟨by rfl, ?_⟩) (hS0) ?_
            · intro w hSw
              obtain ⟨q0, q1, q2⟩ := hSw
              go_simp
            try simp only [Act.put, List.setIfInBounds_toArray, List.set_cons_zero, List.set_cons_succ]
            refine wpAnyM_take (i := 3) (oi := { dst := some 29, op := Op.load 25 (Operand.tmp 2), type := 25, pos := "ref.go:316", after := #[], guard := none }) (v := WV (.slice (some ⟨b1, o1, none⟩) X.classes.length cc) (.slice ah X.heap.length ch) X.epoch) (by kernel_rfl) (by kernel_rfl) rfl (by kernel_rfl) (by kernel_rfl) (by kernel_rfl) (fun _ _ _ h => h) (Or.inl ⟨by rfl, ?_⟩) (hS0) ?_
            · intro w hSw
              obtain ⟨q0, q1, q2⟩ := hSw
              go_simp
            try simp only [Act.put, List.setIfInBounds_toArray, List.set_cons_zero, List.set_cons_succ]
            refine wpAnyM_take (i := 4) (oi := { dst := some 30, op := Op.move (Operand.tmp 1), type := 26, pos := "ref.go:316", after := #[], guard := none }) (v := .slice att t.length ct) (by kernel_rfl) (by kernel_rfl) rfl (by kernel_rfl) (by kernel_rfl) (by kernel_rfl) (fun _ _ _ h => h) (Or.inl ⟨by rfl, ?_⟩) (hS0) ?_
            · intro w hSw
              obtain ⟨q0, q1, q2⟩ := hSw
              go_simp
            try simp only [Act.put, List.setIfInBounds_toArray, List.set_cons_zero, List.set_cons_succ]
            refine wpAnyM_take (i := 5) (oi := { dst := some 31, op := Op.move (Operand.tmp 6), type := 3, pos := "ref.go:316", after := #[], guard := none }) (v := .int .i64 (j : Int)) (by kernel_rfl) (by kernel_rfl) rfl (by kernel_rfl) (by kernel_rfl) (by kernel_rfl) (fun _ _ _ h => h) (Or.inl ⟨by rfl, ?_⟩) (hS0) ?_
            · intro w hSw
              obtain ⟨q0, q1, q2⟩ := hSw
              go_simp
            try simp only [Act.put, List.setIfInBounds_toArray, List.set_cons_zero, List.set_cons_succ]
            refine wpAnyM_take (i := 6) (oi := { dst := some 32, op := Op.move (Operand.tmp 8), type := 3, pos := "ref.go:316", after := #[], guard := none }) (v := .int .i64 (i : Int)) (by kernel_rfl) (by kernel_rfl) rfl (by kernel_rfl) (by kernel_rfl) (by kernel_rfl) (fun _ _ _ h => h) (Or.inl ⟨by rfl, ?_⟩) (hS0) ?_
            · intro w hSw
              obtain ⟨q0, q1, q2⟩ := hSw
              go_simp
            try simp only [Act.put, List.setIfInBounds_toArray, List.set_cons_zero, List.set_cons_succ]
            refine wpAnyM_ready (rs := [7, 12]) (by kernel_rfl) (by simp) ?_
            intro i hi
            simp only [List.mem_cons, List.not_mem_nil, or_false] at hi
            rcases hi with hi | hi
            · subst hi
              refine stepM (o := { dst := some 33, op := Op.call { callee := Callee.value (Operand.func 17), args := #[Operand.tmp 29, Operand.tmp 30, Operand.tmp 31, Operand.tmp 32], argTypes := #[25, 26, 3, 3] }, type := 63, pos := "ref.go:316", after := #[{ on := 3, ground := Ground.data }, { on := 4, ground := Ground.data }, { on := 5, ground := Ground.data }, { on := 6, ground := Ground.data }], guard := none }) rfl (fun K' hK => ?_)
              refine step_call rfl 17 (.func 17) #[.tmp 29, .tmp 30, .tmp 31, .tmp 32] _ rfl #[] rfl #[WV (.slice (some ⟨b1, o1, none⟩) X.classes.length cc) (.slice ah X.heap.length ch) X.epoch, .slice att t.length ct, .int .i64 (j : Int), .int .i64 (i : Int)] (by simp [Act.eval, Act.put]) (cfx17 _ _) ?_
              refine (show Calls Try.prog 17 #[WV (.slice (some ⟨b1, o1, none⟩) X.classes.length cc) (.slice ah X.heap.length ch) X.epoch, .slice att t.length ct, .int .i64 (j : Int), .int .i64 (i : Int)] wr.drew _ from (rsites_any X t (j : Int) (i : Int) _ _ _ wr.drew (hC.later goodC (nstep hbw hd1)) (hH.later goodO (nstep hbw hd1)) (hT.later goodT (nstep hbw hd1)) hM).mono ?_)
              rintro e w2 ⟨as_, cs, rfl, hSi, hbS⟩
              refine ⟨_, rfl, ?_⟩
              have hb2 : Below wr.heap.size wr w2 := nstep hd1 hbS
              refine hK _ _ (fun _ => ?_) ?_
              · exact hSl _ hb2
              clear hK K'
              try simp only [Act.put, List.setIfInBounds_toArray, List.set_cons_zero, List.set_cons_succ]
              refine wpAnyM_ready (rs := [8, 12]) (by kernel_rfl) (by simp) ?_
              intro i hi
              simp only [List.mem_cons, List.not_mem_nil, or_false] at hi
              rcases hi with hi | hi
              · subst hi
                refine stepM (o := { dst := some 34, op := Op.call { callee := Callee.value (Operand.func 16), args := #[Operand.tmp 26, Operand.tmp 27, Operand.tmp 28, Operand.tmp 33], argTypes := #[25, 3, 3, 63] }, type := 61, pos := "ref.go:316", after := #[{ on := 0, ground := Ground.data }, { on := 1, ground := Ground.data }, { on := 2, ground := Ground.data }, { on := 7, ground := Ground.data }, { on := 7, ground := Ground.chain }], guard := none }) rfl (fun K' hK => ?_)
                refine step_call rfl 16 (.func 16) #[.tmp 26, .tmp 27, .tmp 28, .tmp 33] _ rfl #[] rfl #[WV (.slice (some ⟨b1, o1, none⟩) X.classes.length cc) (.slice ah X.heap.length ch) X.epoch, .int .i64 (j : Int), .int .i64 (i : Int), .slice as_ (sitesE X t (j : Int) (i : Int)).length cs] (by simp [Act.eval, Act.put]) (cfx16 _ _) ?_
                refine (show Calls Try.prog 16 #[WV (.slice (some ⟨b1, o1, none⟩) X.classes.length cc) (.slice ah X.heap.length ch) X.epoch, .int .i64 (j : Int), .int .i64 (i : Int), .slice as_ (sitesE X t (j : Int) (i : Int)).length cs] w2 _ from (fast_any X hX (j : Int) (i : Int) (sitesE X t (j : Int) (i : Int)) _ _ _ w2 (hC.later goodC (nstep hbw hb2)) (hH.later goodO (nstep hbw hb2)) hSi).mono ?_)
                rintro e w3 ⟨af, cf, rfl, hKf, hbF⟩
                refine ⟨_, rfl, ?_⟩
                have hb3 : Below wr.heap.size wr w3 := nstep hb2 hbF
                refine hK _ _ (fun _ => ?_) ?_
                · exact hSl _ hb3
                clear hK K'
                try simp only [Act.put, List.setIfInBounds_toArray, List.set_cons_zero, List.set_cons_succ]
                obtain ⟨R, HM⟩ : ∃ R, Hid (R = methodA X (j : Int) (i : Int) (sitesE X t (j : Int) (i : Int))) := ⟨_, rfl⟩
                simp only [← HM.out] at hKf ⊢
                refine wpAnyM_take (i := 9) (oi := { dst := some 25, op := Op.move (Operand.tmp 34), type := 61, pos := "ref.go:316", after := #[{ on := 8, ground := Ground.data }], guard := none }) (v := .tuple #[FsV R.1 (.slice af R.1.code.length cf), .bool R.2]) (by kernel_rfl) (by kernel_rfl) rfl (by kernel_rfl) (by kernel_rfl) (by kernel_rfl) (fun _ _ _ h => h) (Or.inl ⟨by rfl, ?_⟩) (hSl _ hb3) ?_
                · intro w hSw
                  obtain ⟨q0, q1, q2⟩ := hSw
                  go_simp
                try simp only [Act.put, List.setIfInBounds_toArray, List.set_cons_zero, List.set_cons_succ]
                refine wpAnyM_take (i := 10) (oi := { dst := some 35, op := Op.extract (Operand.tmp 25) 0, type := 35, pos := "ref.go:316", after := #[{ on := 9, ground := Ground.data }], guard := none }) (v := FsV R.1 (.slice af R.1.code.length cf)) (by kernel_rfl) (by kernel_rfl) rfl (by kernel_rfl) (by kernel_rfl) (by kernel_rfl) (fun _ _ _ h => h) (Or.inl ⟨by rfl, ?_⟩) (hSl _ hb3) ?_
                · intro w hSw
                  obtain ⟨q0, q1, q2⟩ := hSw
                  go_simp
                try simp only [Act.put, List.setIfInBounds_toArray, List.set_cons_zero, List.set_cons_succ]
                refine wpAnyM_take (i := 11) (oi := { dst := some 36, op := Op.extract (Operand.tmp 25) 1, type := 4, pos := "ref.go:316", after := #[{ on := 9, ground := Ground.data }, { on := 13, ground := Ground.gcOnly Departure.lateStores }], guard := none }) (v := .bool R.2) (by kernel_rfl) (by kernel_rfl) rfl (by kernel_rfl) (by kernel_rfl) (by kernel_rfl) (fun _ _ _ h => h) (Or.inl ⟨by rfl, ?_⟩) (hSl _ hb3) ?_
                · intro w hSw
                  obtain ⟨q0, q1, q2⟩ := hSw
                  go_simp
                try simp only [Act.put, List.setIfInBounds_toArray, List.set_cons_zero, List.set_cons_succ]
                refine wpAnyM_ready (rs := [12]) (by kernel_rfl) (by simp) ?_
                intro i hi
                simp only [List.mem_cons, List.not_mem_nil, or_false] at hi
                subst hi
                refine stepM (o := { dst := some 9, op := Op.alloc 35, type := 0, pos := "ref.go:316", after := #[], guard := none }) rfl (fun K' hK => ?_)
                go_simp
                refine hK _ _ (fun _ => ?_) ?_
                · exact hSl _ (nstep hb3 (bel1 _ _))
                clear hK K'
                try simp only [Act.put, List.setIfInBounds_toArray, List.set_cons_zero, List.set_cons_succ]
                have hUb : (w3.alloc (.cells #[.int .i64 0, .string ⟨#[]⟩, .int .i64 0, .int .i64 0, .slice none 0 0] 35)).heap[w3.heap.size]? = some (.cells #[.int .i64 0, .string ⟨#[]⟩, .int .i64 0, .int .i64 0, .slice none 0 0] 35 (0, 0)) := heap_alloc_new _ _
                have hbU : Below wr.heap.size wr (w3.alloc (.cells #[.int .i64 0, .string ⟨#[]⟩, .int .i64 0, .int .i64 0, .slice none 0 0] 35)) := nstep hb3 (bel1 _ _)
                have hUl : w3.heap.size < (w3.alloc (.cells #[.int .i64 0, .string ⟨#[]⟩, .int .i64 0, .int .i64 0, .slice none 0 0] 35)).heap.size := by simp
                have hUw : wr.heap.size ≤ w3.heap.size := hb3.size
                have hUk : Below w3.heap.size w3 (w3.alloc (.cells #[.int .i64 0, .string ⟨#[]⟩, .int .i64 0, .int .i64 0, .slice none 0 0] 35)) := bel1 _ _
                generalize w3.alloc (.cells #[.int .i64 0, .string ⟨#[]⟩, .int .i64 0, .int .i64 0, .slice none 0 0] 35) = U at *
                obtain ⟨bf, HBF⟩ : ∃ bf, Hid (bf = w3.heap.size) := ⟨_, rfl⟩
                rw [← HBF.out] at hUb hUl hUw ⊢
                obtain ⟨r0, r1, r2, r3, r4⟩ := box5x hUb
                have rf := fun o => row_free hUb o
                have HFIN : Hid (AlC wr R (.pointer (some ⟨bf, 0, none⟩)) (.bool R.2) (set5 U bf (.int .i64 R.1.cls) (.string R.1.name) (.int .i64 R.1.epoch) (.int .i64 R.1.temps) (.slice af R.1.code.length cf))) := alc_mk hbU hUw hUb (hKf.later goodI hUk) (fun b hb => ⟨by have := hb.1; have := hb2.size; omega, by have := hb.2; have := HBF.out; omega⟩)
                refine wpAnyM_ready (rs := [13]) (by kernel_rfl) (by simp) ?_
                intro i hi
                simp only [List.mem_cons, List.not_mem_nil, or_false] at hi
                subst hi
                refine stepM (o := { dst := none, op := Op.store 35 (Operand.tmp 9) (Operand.tmp 35), type := 0, pos := "ref.go:316", after := #[{ on := 12, ground := Ground.data }, { on := 10, ground := Ground.data }, { on := 8, ground := Ground.chain }, { on := 0, ground := Ground.phase }, { on := 1, ground := Ground.phase }, { on := 2, ground := Ground.phase }, { on := 3, ground := Ground.phase }, { on := 4, ground := Ground.phase }, { on := 5, ground := Ground.phase }, { on := 6, ground := Ground.phase }, { on := 7, ground := Ground.phase }, { on := 8, ground := Ground.phase }, { on := 9, ground := Ground.phase }, { on := 10, ground := Ground.phase }, { on := 11, ground := Ground.textOnly Departure.lateStores }, { on := 12, ground := Ground.phase }], guard := none }) rfl (fun K' hK => ?_)
                go_simp
                refine hK _ _ (fun _ => ?_) ?_
                · exact ⟨far5 (hSl _ hbU).1 (by have := hUw; have := hwl; omega), far5 (hSl _ hbU).2.1 (by have := hUw; have := hwl; omega), far5 (hSl _ hbU).2.2 (by have := hUw; have := hwl; omega)⟩
                clear hK K'
                try simp only [Act.put, List.setIfInBounds_toArray, List.set_cons_zero, List.set_cons_succ]
                refine wpAnyM_take (i := 14) (oi := { dst := some 10, op := Op.assign (Operand.tmp 36), type := 4, pos := "ref.go:316", after := #[{ on := 11, ground := Ground.data }, { on := 13, ground := Ground.chain }, { on := 0, ground := Ground.phase }, { on := 1, ground := Ground.phase }, { on := 2, ground := Ground.phase }, { on := 3, ground := Ground.phase }, { on := 4, ground := Ground.phase }, { on := 5, ground := Ground.phase }, { on := 6, ground := Ground.phase }, { on := 7, ground := Ground.phase }, { on := 8, ground := Ground.phase }, { on := 9, ground := Ground.phase }, { on := 10, ground := Ground.phase }, { on := 11, ground := Ground.phase }, { on := 12, ground := Ground.phase }, { on := 13, ground := Ground.phase }], guard := none }) (v := .bool R.2) (by kernel_rfl) (by kernel_rfl) rfl (by kernel_rfl) (by kernel_rfl) (by kernel_rfl) (fun _ _ _ h => h) (Or.inl ⟨by rfl, ?_⟩) (⟨far5 (hSl _ hbU).1 (by have := hUw; have := hwl; omega), far5 (hSl _ hbU).2.1 (by have := hUw; have := hwl; omega), far5 (hSl _ hbU).2.2 (by have := hUw; have := hwl; omega)⟩) ?_
                · intro w hSw
                  obtain ⟨q0, q1, q2⟩ := hSw
                  go_simp
                try simp only [Act.put, List.setIfInBounds_toArray, List.set_cons_zero, List.set_cons_succ]
                refine wpAnyM_done (by kernel_rfl) ?_ _
                try simp only [Act.put, List.setIfInBounds_toArray, List.set_cons_zero, List.set_cons_succ]
                go_wp2_with fail
                go_meet
                case rel => rw [← HM.out]; exact HFIN.out
              · subst hi
                refine stepM (o := { dst := some 9, op := Op.alloc 35, type := 0, pos := "ref.go:316", after := #[], guard := none }) rfl (fun K' hK => ?_)
                go_simp
                refine hK _ _ (fun _ => ?_) ?_
                · exact hSl _ (nstep hb2 (bel1 _ _))
                clear hK K'
                try simp only [Act.put, List.setIfInBounds_toArray, List.set_cons_zero, List.set_cons_succ]
                have hUb : (w2.alloc (.cells #[.int .i64 0, .string ⟨#[]⟩, .int .i64 0, .int .i64 0, .slice none 0 0] 35)).heap[w2.heap.size]? = some (.cells #[.int .i64 0, .string ⟨#[]⟩, .int .i64 0, .int .i64 0, .slice none 0 0] 35 (0, 0)) := heap_alloc_new _ _
                have hbU : Below wr.heap.size wr (w2.alloc (.cells #[.int .i64 0, .string ⟨#[]⟩, .int .i64 0, .int .i64 0, .slice none 0 0] 35)) := nstep hb2 (bel1 _ _)
                have hUl : w2.heap.size < (w2.alloc (.cells #[.int .i64 0, .string ⟨#[]⟩, .int .i64 0, .int .i64 0, .slice none 0 0] 35)).heap.size := by simp
                have hUw : wr.heap.size ≤ w2.heap.size := hb2.size
                have hUk : Below w2.heap.size w2 (w2.alloc (.cells #[.int .i64 0, .string ⟨#[]⟩, .int .i64 0, .int .i64 0, .slice none 0 0] 35)) := bel1 _ _
                generalize w2.alloc (.cells #[.int .i64 0, .string ⟨#[]⟩, .int .i64 0, .int .i64 0, .slice none 0 0] 35) = U at *
                obtain ⟨bf, HBF⟩ : ∃ bf, Hid (bf = w2.heap.size) := ⟨_, rfl⟩
                rw [← HBF.out] at hUb hUl hUw ⊢
                refine wpAnyM_ready (rs := [8]) (by kernel_rfl) (by simp) ?_
                intro i hi
                simp only [List.mem_cons, List.not_mem_nil, or_false] at hi
                subst hi
                refine stepM (o := { dst := some 34, op := Op.call { callee := Callee.value (Operand.func 16), args := #[Operand.tmp 26, Operand.tmp 27, Operand.tmp 28, Operand.tmp 33], argTypes := #[25, 3, 3, 63] }, type := 61, pos := "ref.go:316", after := #[{ on := 0, ground := Ground.data }, { on := 1, ground := Ground.data }, { on := 2, ground := Ground.data }, { on := 7, ground := Ground.data }, { on := 7, ground := Ground.chain }], guard := none }) rfl (fun K' hK => ?_)
                refine step_call rfl 16 (.func 16) #[.tmp 26, .tmp 27, .tmp 28, .tmp 33] _ rfl #[] rfl #[WV (.slice (some ⟨b1, o1, none⟩) X.classes.length cc) (.slice ah X.heap.length ch) X.epoch, .int .i64 (j : Int), .int .i64 (i : Int), .slice as_ (sitesE X t (j : Int) (i : Int)).length cs] (by simp [Act.eval, Act.put]) (cfx16 _ _) ?_
                refine (show Calls Try.prog 16 #[WV (.slice (some ⟨b1, o1, none⟩) X.classes.length cc) (.slice ah X.heap.length ch) X.epoch, .int .i64 (j : Int), .int .i64 (i : Int), .slice as_ (sitesE X t (j : Int) (i : Int)).length cs] U _ from (fast_any X hX (j : Int) (i : Int) (sitesE X t (j : Int) (i : Int)) _ _ _ U (hC.later goodC (nstep hbw hbU)) (hH.later goodO (nstep hbw hbU)) (hSi.later goodN hUk)).mono ?_)
                rintro e w3 ⟨af, cf, rfl, hKf, hbF⟩
                refine ⟨_, rfl, ?_⟩
                have hb3 : Below wr.heap.size wr w3 := nstep hbU hbF
                refine hK _ _ (fun _ => ?_) ?_
                · exact hSl _ hb3
                clear hK K'
                try simp only [Act.put, List.setIfInBounds_toArray, List.set_cons_zero, List.set_cons_succ]
                obtain ⟨R, HM⟩ : ∃ R, Hid (R = methodA X (j : Int) (i : Int) (sitesE X t (j : Int) (i : Int))) := ⟨_, rfl⟩
                simp only [← HM.out] at hKf ⊢
                refine wpAnyM_take (i := 9) (oi := { dst := some 25, op := Op.move (Operand.tmp 34), type := 61, pos := "ref.go:316", after := #[{ on := 8, ground := Ground.data }], guard := none }) (v := .tuple #[FsV R.1 (.slice af R.1.code.length cf), .bool R.2]) (by kernel_rfl) (by kernel_rfl) rfl (by kernel_rfl) (by kernel_rfl) (by kernel_rfl) (fun _ _ _ h => h) (Or.inl ⟨by rfl, ?_⟩) (hSl _ hb3) ?_
                · intro w hSw
                  obtain ⟨q0, q1, q2⟩ := hSw
                  go_simp
                try simp only [Act.put, List.setIfInBounds_toArray, List.set_cons_zero, List.set_cons_succ]
                refine wpAnyM_take (i := 10) (oi := { dst := some 35, op := Op.extract (Operand.tmp 25) 0, type := 35, pos := "ref.go:316", after := #[{ on := 9, ground := Ground.data }], guard := none }) (v := FsV R.1 (.slice af R.1.code.length cf)) (by kernel_rfl) (by kernel_rfl) rfl (by kernel_rfl) (by kernel_rfl) (by kernel_rfl) (fun _ _ _ h => h) (Or.inl ⟨by rfl, ?_⟩) (hSl _ hb3) ?_
                · intro w hSw
                  obtain ⟨q0, q1, q2⟩ := hSw
                  go_simp
                try simp only [Act.put, List.setIfInBounds_toArray, List.set_cons_zero, List.set_cons_succ]
                refine wpAnyM_take (i := 11) (oi := { dst := some 36, op := Op.extract (Operand.tmp 25) 1, type := 4, pos := "ref.go:316", after := #[{ on := 9, ground := Ground.data }, { on := 13, ground := Ground.gcOnly Departure.lateStores }], guard := none }) (v := .bool R.2) (by kernel_rfl) (by kernel_rfl) rfl (by kernel_rfl) (by kernel_rfl) (by kernel_rfl) (fun _ _ _ h => h) (Or.inl ⟨by rfl, ?_⟩) (hSl _ hb3) ?_
                · intro w hSw
                  obtain ⟨q0, q1, q2⟩ := hSw
                  go_simp
                try simp only [Act.put, List.setIfInBounds_toArray, List.set_cons_zero, List.set_cons_succ]
                obtain ⟨r0, r1, r2, r3, r4⟩ := box5x (box_later' hUb hbF)
                have rf := fun o => row_free (box_later' hUb hbF) o
                have HFIN : Hid (AlC wr R (.pointer (some ⟨bf, 0, none⟩)) (.bool R.2) (set5 w3 bf (.int .i64 R.1.cls) (.string R.1.name) (.int .i64 R.1.epoch) (.int .i64 R.1.temps) (.slice af R.1.code.length cf))) := alc_mk hb3 hUw (box_later' hUb hbF) hKf (fun b hb => ⟨by have := hb.1; have := hbU.size; omega, by have := hb.1; omega⟩)
                refine wpAnyM_ready (rs := [13]) (by kernel_rfl) (by simp) ?_
                intro i hi
                simp only [List.mem_cons, List.not_mem_nil, or_false] at hi
                subst hi
                refine stepM (o := { dst := none, op := Op.store 35 (Operand.tmp 9) (Operand.tmp 35), type := 0, pos := "ref.go:316", after := #[{ on := 12, ground := Ground.data }, { on := 10, ground := Ground.data }, { on := 8, ground := Ground.chain }, { on := 0, ground := Ground.phase }, { on := 1, ground := Ground.phase }, { on := 2, ground := Ground.phase }, { on := 3, ground := Ground.phase }, { on := 4, ground := Ground.phase }, { on := 5, ground := Ground.phase }, { on := 6, ground := Ground.phase }, { on := 7, ground := Ground.phase }, { on := 8, ground := Ground.phase }, { on := 9, ground := Ground.phase }, { on := 10, ground := Ground.phase }, { on := 11, ground := Ground.textOnly Departure.lateStores }, { on := 12, ground := Ground.phase }], guard := none }) rfl (fun K' hK => ?_)
                go_simp
                refine hK _ _ (fun _ => ?_) ?_
                · exact ⟨far5 (hSl _ hb3).1 (by have := hUw; have := hwl; omega), far5 (hSl _ hb3).2.1 (by have := hUw; have := hwl; omega), far5 (hSl _ hb3).2.2 (by have := hUw; have := hwl; omega)⟩
                clear hK K'
                try simp only [Act.put, List.setIfInBounds_toArray, List.set_cons_zero, List.set_cons_succ]
                refine wpAnyM_take (i := 14) (oi := { dst := some 10, op := Op.assign (Operand.tmp 36), type := 4, pos := "ref.go:316", after := #[{ on := 11, ground := Ground.data }, { on := 13, ground := Ground.chain }, { on := 0, ground := Ground.phase }, { on := 1, ground := Ground.phase }, { on := 2, ground := Ground.phase }, { on := 3, ground := Ground.phase }, { on := 4, ground := Ground.phase }, { on := 5, ground := Ground.phase }, { on := 6, ground := Ground.phase }, { on := 7, ground := Ground.phase }, { on := 8, ground := Ground.phase }, { on := 9, ground := Ground.phase }, { on := 10, ground := Ground.phase }, { on := 11, ground := Ground.phase }, { on := 12, ground := Ground.phase }, { on := 13, ground := Ground.phase }], guard := none }) (v := .bool R.2) (by kernel_rfl) (by kernel_rfl) rfl (by kernel_rfl) (by kernel_rfl) (by kernel_rfl) (fun _ _ _ h => h) (Or.inl ⟨by rfl, ?_⟩) (⟨far5 (hSl _ hb3).1 (by have := hUw; have := hwl; omega), far5 (hSl _ hb3).2.1 (by have := hUw; have := hwl; omega), far5 (hSl _ hb3).2.2 (by have := hUw; have := hwl; omega)⟩) ?_
                · intro w hSw
                  obtain ⟨q0, q1, q2⟩ := hSw
                  go_simp
                try simp only [Act.put, List.setIfInBounds_toArray, List.set_cons_zero, List.set_cons_succ]
                refine wpAnyM_done (by kernel_rfl) ?_ _
                try simp only [Act.put, List.setIfInBounds_toArray, List.set_cons_zero, List.set_cons_succ]
                go_wp2_with fail
                go_meet
                case rel => rw [← HM.out]; exact HFIN.out
            · subst hi
              refine stepM (o := { dst := some 9, op := Op.alloc 35, type := 0, pos := "ref.go:316", after := #[], guard := none }) rfl (fun K' hK => ?_)
              go_simp
              refine hK _ _ (fun _ => ?_) ?_
              · exact hSl _ (bel1 wr (.cells #[.int .i64 0, .string ⟨#[]⟩, .int .i64 0, .int .i64 0, .slice none 0 0] 35)).drew
              clear hK K'
              try simp only [Act.put, List.setIfInBounds_toArray, List.set_cons_zero, List.set_cons_succ]
              have hUb : ((wr.alloc (.cells #[.int .i64 0, .string ⟨#[]⟩, .int .i64 0, .int .i64 0, .slice none 0 0] 35)).drew).heap[wr.heap.size]? = some (.cells #[.int .i64 0, .string ⟨#[]⟩, .int .i64 0, .int .i64 0, .slice none 0 0] 35 (0, 0)) := heap_alloc_new wr _
              have hbU : Below wr.heap.size wr ((wr.alloc (.cells #[.int .i64 0, .string ⟨#[]⟩, .int .i64 0, .int .i64 0, .slice none 0 0] 35)).drew) := (bel1 wr _).drew
              have hUl : wr.heap.size < ((wr.alloc (.cells #[.int .i64 0, .string ⟨#[]⟩, .int .i64 0, .int .i64 0, .slice none 0 0] 35)).drew).heap.size := by show wr.heap.size < (wr.alloc _).heap.size; simp
              generalize (wr.alloc (.cells #[.int .i64 0, .string ⟨#[]⟩, .int .i64 0, .int .i64 0, .slice none 0 0] 35)).drew = U at *
              obtain ⟨bf, HBF⟩ : ∃ bf, Hid (bf = wr.heap.size) := ⟨_, rfl⟩
              have hUw : wr.heap.size ≤ bf := by rw [HBF.out]; exact Nat.le_refl _
              rw [← HBF.out] at hUb hUl ⊢
              refine wpAnyM_ready (rs := [7]) (by kernel_rfl) (by simp) ?_
              intro i hi
              simp only [List.mem_cons, List.not_mem_nil, or_false] at hi
              subst hi
              refine stepM (o := { dst := some 33, op := Op.call { callee := Callee.value (Operand.func 17), args := #[Operand.tmp 29, Operand.tmp 30, Operand.tmp 31, Operand.tmp 32], argTypes := #[25, 26, 3, 3] }, type := 63, pos := "ref.go:316", after := #[{ on := 3, ground := Ground.data }, { on := 4, ground := Ground.data }, { on := 5, ground := Ground.data }, { on := 6, ground := Ground.data }], guard := none }) rfl (fun K' hK => ?_)
              refine step_call rfl 17 (.func 17) #[.tmp 29, .tmp 30, .tmp 31, .tmp 32] _ rfl #[] rfl #[WV (.slice (some ⟨b1, o1, none⟩) X.classes.length cc) (.slice ah X.heap.length ch) X.epoch, .slice att t.length ct, .int .i64 (j : Int), .int .i64 (i : Int)] (by simp [Act.eval, Act.put]) (cfx17 _ _) ?_
              refine (show Calls Try.prog 17 #[WV (.slice (some ⟨b1, o1, none⟩) X.classes.length cc) (.slice ah X.heap.length ch) X.epoch, .slice att t.length ct, .int .i64 (j : Int), .int .i64 (i : Int)] U _ from (rsites_any X t (j : Int) (i : Int) _ _ _ U (hC.later goodC (nstep hbw hbU)) (hH.later goodO (nstep hbw hbU)) (hT.later goodT (nstep hbw hbU)) hM).mono ?_)
              rintro e w2 ⟨as_, cs, rfl, hSi, hbS⟩
              refine ⟨_, rfl, ?_⟩
              have hb2 : Below wr.heap.size wr w2 := nstep hbU hbS
              refine hK _ _ (fun _ => ?_) ?_
              · exact hSl _ hb2
              clear hK K'
              try simp only [Act.put, List.setIfInBounds_toArray, List.set_cons_zero, List.set_cons_succ]
              refine wpAnyM_ready (rs := [8]) (by kernel_rfl) (by simp) ?_
              intro i hi
              simp only [List.mem_cons, List.not_mem_nil, or_false] at hi
              subst hi
              refine stepM (o := { dst := some 34, op := Op.call { callee := Callee.value (Operand.func 16), args := #[Operand.tmp 26, Operand.tmp 27, Operand.tmp 28, Operand.tmp 33], argTypes := #[25, 3, 3, 63] }, type := 61, pos := "ref.go:316", after := #[{ on := 0, ground := Ground.data }, { on := 1, ground := Ground.data }, { on := 2, ground := Ground.data }, { on := 7, ground := Ground.data }, { on := 7, ground := Ground.chain }], guard := none }) rfl (fun K' hK => ?_)
              refine step_call rfl 16 (.func 16) #[.tmp 26, .tmp 27, .tmp 28, .tmp 33] _ rfl #[] rfl #[WV (.slice (some ⟨b1, o1, none⟩) X.classes.length cc) (.slice ah X.heap.length ch) X.epoch, .int .i64 (j : Int), .int .i64 (i : Int), .slice as_ (sitesE X t (j : Int) (i : Int)).length cs] (by simp [Act.eval, Act.put]) (cfx16 _ _) ?_
              refine (show Calls Try.prog 16 #[WV (.slice (some ⟨b1, o1, none⟩) X.classes.length cc) (.slice ah X.heap.length ch) X.epoch, .int .i64 (j : Int), .int .i64 (i : Int), .slice as_ (sitesE X t (j : Int) (i : Int)).length cs] w2 _ from (fast_any X hX (j : Int) (i : Int) (sitesE X t (j : Int) (i : Int)) _ _ _ w2 (hC.later goodC (nstep hbw hb2)) (hH.later goodO (nstep hbw hb2)) hSi).mono ?_)
              rintro e w3 ⟨af, cf, rfl, hKf, hbF⟩
              refine ⟨_, rfl, ?_⟩
              have hb3 : Below wr.heap.size wr w3 := nstep hb2 hbF
              refine hK _ _ (fun _ => ?_) ?_
              · exact hSl _ hb3
              clear hK K'
              try simp only [Act.put, List.setIfInBounds_toArray, List.set_cons_zero, List.set_cons_succ]
              obtain ⟨R, HM⟩ : ∃ R, Hid (R = methodA X (j : Int) (i : Int) (sitesE X t (j : Int) (i : Int))) := ⟨_, rfl⟩
              simp only [← HM.out] at hKf ⊢
              refine wpAnyM_take (i := 9) (oi := { dst := some 25, op := Op.move (Operand.tmp 34), type := 61, pos := "ref.go:316", after := #[{ on := 8, ground := Ground.data }], guard := none }) (v := .tuple #[FsV R.1 (.slice af R.1.code.length cf), .bool R.2]) (by kernel_rfl) (by kernel_rfl) rfl (by kernel_rfl) (by kernel_rfl) (by kernel_rfl) (fun _ _ _ h => h) (Or.inl ⟨by rfl, ?_⟩) (hSl _ hb3) ?_
              · intro w hSw
                obtain ⟨q0, q1, q2⟩ := hSw
                go_simp
              try simp only [Act.put, List.setIfInBounds_toArray, List.set_cons_zero, List.set_cons_succ]
              refine wpAnyM_take (i := 10) (oi := { dst := some 35, op := Op.extract (Operand.tmp 25) 0, type := 35, pos := "ref.go:316", after := #[{ on := 9, ground := Ground.data }], guard := none }) (v := FsV R.1 (.slice af R.1.code.length cf)) (by kernel_rfl) (by kernel_rfl) rfl (by kernel_rfl) (by kernel_rfl) (by kernel_rfl) (fun _ _ _ h => h) (Or.inl ⟨by rfl, ?_⟩) (hSl _ hb3) ?_
              · intro w hSw
                obtain ⟨q0, q1, q2⟩ := hSw
                go_simp
              try simp only [Act.put, List.setIfInBounds_toArray, List.set_cons_zero, List.set_cons_succ]
              refine wpAnyM_take (i := 11) (oi := { dst := some 36, op := Op.extract (Operand.tmp 25) 1, type := 4, pos := "ref.go:316", after := #[{ on := 9, ground := Ground.data }, { on := 13, ground := Ground.gcOnly Departure.lateStores }], guard := none }) (v := .bool R.2) (by kernel_rfl) (by kernel_rfl) rfl (by kernel_rfl) (by kernel_rfl) (by kernel_rfl) (fun _ _ _ h => h) (Or.inl ⟨by rfl, ?_⟩) (hSl _ hb3) ?_
              · intro w hSw
                obtain ⟨q0, q1, q2⟩ := hSw
                go_simp
              try simp only [Act.put, List.setIfInBounds_toArray, List.set_cons_zero, List.set_cons_succ]
              obtain ⟨r0, r1, r2, r3, r4⟩ := box5x (box_later' hUb (nstep hbS hbF))
              have rf := fun o => row_free (box_later' hUb (nstep hbS hbF)) o
              have HFIN : Hid (AlC wr R (.pointer (some ⟨bf, 0, none⟩)) (.bool R.2) (set5 w3 bf (.int .i64 R.1.cls) (.string R.1.name) (.int .i64 R.1.epoch) (.int .i64 R.1.temps) (.slice af R.1.code.length cf))) := alc_mk hb3 hUw (box_later' hUb (nstep hbS hbF)) hKf (fun b hb => ⟨by have := hb.1; have := hb2.size; omega, by have := hb.1; have := hbS.size; omega⟩)
              refine wpAnyM_ready (rs := [13]) (by kernel_rfl) (by simp) ?_
              intro i hi
              simp only [List.mem_cons, List.not_mem_nil, or_false] at hi
              subst hi
              refine stepM (o := { dst := none, op := Op.store 35 (Operand.tmp 9) (Operand.tmp 35), type := 0, pos := "ref.go:316", after := #[{ on := 12, ground := Ground.data }, { on := 10, ground := Ground.data }, { on := 8, ground := Ground.chain }, { on := 0, ground := Ground.phase }, { on := 1, ground := Ground.phase }, { on := 2, ground := Ground.phase }, { on := 3, ground := Ground.phase }, { on := 4, ground := Ground.phase }, { on := 5, ground := Ground.phase }, { on := 6, ground := Ground.phase }, { on := 7, ground := Ground.phase }, { on := 8, ground := Ground.phase }, { on := 9, ground := Ground.phase }, { on := 10, ground := Ground.phase }, { on := 11, ground := Ground.textOnly Departure.lateStores }, { on := 12, ground := Ground.phase }], guard := none }) rfl (fun K' hK => ?_)
              go_simp
              refine hK _ _ (fun _ => ?_) ?_
              · exact ⟨far5 (hSl _ hb3).1 (by have := hUw; have := hwl; omega), far5 (hSl _ hb3).2.1 (by have := hUw; have := hwl; omega), far5 (hSl _ hb3).2.2 (by have := hUw; have := hwl; omega)⟩
              clear hK K'
              try simp only [Act.put, List.setIfInBounds_toArray, List.set_cons_zero, List.set_cons_succ]
              refine wpAnyM_take (i := 14) (oi := { dst := some 10, op := Op.assign (Operand.tmp 36), type := 4, pos := "ref.go:316", after := #[{ on := 11, ground := Ground.data }, { on := 13, ground := Ground.chain }, { on := 0, ground := Ground.phase }, { on := 1, ground := Ground.phase }, { on := 2, ground := Ground.phase }, { on := 3, ground := Ground.phase }, { on := 4, ground := Ground.phase }, { on := 5, ground := Ground.phase }, { on := 6, ground := Ground.phase }, { on := 7, ground := Ground.phase }, { on := 8, ground := Ground.phase }, { on := 9, ground := Ground.phase }, { on := 10, ground := Ground.phase }, { on := 11, ground := Ground.phase }, { on := 12, ground := Ground.phase }, { on := 13, ground := Ground.phase }], guard := none }) (v := .bool R.2) (by kernel_rfl) (by kernel_rfl) rfl (by kernel_rfl) (by kernel_rfl) (by kernel_rfl) (fun _ _ _ h => h) (Or.inl ⟨by rfl, ?_⟩) (⟨far5 (hSl _ hb3).1 (by have := hUw; have := hwl; omega), far5 (hSl _ hb3).2.1 (by have := hUw; have := hwl; omega), far5 (hSl _ hb3).2.2 (by have := hUw; have := hwl; omega)⟩) ?_
              · intro w hSw
                obtain ⟨q0, q1, q2⟩ := hSw
                go_simp
              try simp only [Act.put, List.setIfInBounds_toArray, List.set_cons_zero, List.set_cons_succ]
              refine wpAnyM_done (by kernel_rfl) ?_ _
              try simp only [Act.put, List.setIfInBounds_toArray, List.set_cons_zero, List.set_cons_succ]
              go_wp2_with fail
              go_meet
              case rel => rw [← HM.out]; exact HFIN.out

          case rest =>
            obtain ⟨R, HM⟩ : ∃ R, Hid (methodA X (j : Int) (i : Int) (sitesE X t (j : Int) (i : Int)) = R) := ⟨_, rfl⟩
            rw [HM.out] at hcut
            obtain ⟨f, ok⟩ := R
            obtain ⟨bf, af, cf, rfl, rfl, hbx, hbc, hcf⟩ := hcut
            dsimp only at hbx hcf ⊢
            have hL2 := hL.later hbc
            have hsz2 := hL2.sz
            have hLv := fun g hg => (hL.own.lt g hg).2
            cases ok with
            | false =>
              have HE : Hid (fs = allF X t j ++ clsF X t j (i + 1)) := by show _ = _; rw [HFS.out, clsF_succ, oneF_no HM.out]; simp
              go_wp2
              go_roundg (x.methods.length - (i + 1))
              case measure => omega
              case rel => exact ⟨i + 1, cs, by omega, by go_num, by rw [← HE.out]; exact hL2⟩
            | true =>
              have HE : Hid (fs ++ [f] = allF X t j ++ clsF X t j (i + 1)) := by show _ = _; rw [HFS.out, clsF_succ, oneF_yes HM.out, List.append_assoc]
              obtain ⟨r0, r1, r2, r3, r4⟩ := box5x hbx
              go_wp2_with (at_builtin; refine wpList_append_at rfl (.tmp 38) (.tmp 40) 30 35 _ 5 64 rfl Try.underlying30 info35 rfl (by omega) (w.heap.size + 1) fs.length (.slice a fs.length cap) cs rfl (hL2.own.alloc _) wc.heap.size rfl [.int .i64 f.cls, .string f.name, .int .i64 f.epoch, .int .i64 f.temps, .slice af f.code.length cf] rfl (heap_alloc_new _ _) (by intro u hu; simp only [List.mem_cons, List.not_mem_nil, or_false] at hu; rcases hu with h | h | h | h | h <;> (subst h; rfl)) (by unfold maxLen; omega) (by omega) (Nat.le_trans hsz2 (by simp)) ?_; intro a3 cap3 w3 s1 s2 s3 s4; have hN := hid ((hL2.later (bel1 wc (.cells #[.int .i64 f.cls, .string f.name, .int .i64 f.epoch, .int .i64 f.temps, .slice af f.code.length cf] 35))).add (f := f) (kv := .slice af f.code.length cf) (L := wr.heap.size) (hcf.later goodI (bel1 wc _)) (fun b hb => hb) hwl hLv s1 s2 s3 s4); clear s1 s2 s3 s4)
              go_roundg (x.methods.length - (i + 1))
              case measure => omega
              case rel => exact ⟨i + 1, _, by omega, by go_num, by rw [← HE.out]; exact hN.out⟩
        · obtain rfl : i = x.methods.length := by omega
          have HE : Hid (allF X t j ++ clsF X t j x.methods.length = allF X t (j + 1)) := by show _ = _; rw [allF_succ, HNM.out]
          rw [HE.out] at hL ⊢
          go_wp2
          go_roundg (X.classes.length - (j + 1))
          case measure => have := HJ.out; omega
          case rel => exact ⟨j + 1, cs, by omega, by go_num, hL⟩
    · obtain rfl : j = X.classes.length := by omega
      have hF := hL.fasts (by have := allF_len (X := X) (t := t) h8 X.classes.length; omega)
      have HQ := hid (hF.mono goodF (Q := fun b => w.heap.size ≤ b) fun b hb => by omega)
      go_wp2
      go_ret
      exact ⟨a, cap, rfl, HQ.out, hbw⟩
end Go.Proofs.Ytlekfiglefopgaa

/- Tallies that may be; ChooseTells' walk. -/
namespace Go.Proofs.Ytlekfiglefopgaa
open Go.ChangeShapes Go.WideShapes Go.ChangeAt Go.RowKit
set_option linter.unusedSimpArgs false
set_option linter.unusedVariables false
set_option maxRecDepth 8000

def smallB (t : List QT) : Bool := t.all fun x => x.lines.all fun y => decide (0 ≤ y.found ∧ y.found ≤ 1000000)
theorem smallB_is {t : List QT} (h : smallB t = true) : ∀ x ∈ t, ∀ y ∈ x.lines, 0 ≤ y.found ∧ y.found ≤ 1000000 := by
  intro x hx y hy
  have := List.all_eq_true.1 (List.all_eq_true.1 h x hx) y hy
  simpa using this
theorem linesAt_mem {t : List QT} {s : QS} {y : QL} (h : y ∈ linesAt t s) : ∃ x ∈ t, y ∈ x.lines := by
  unfold linesAt at h
  rw [List.mem_flatMap] at h
  obtain ⟨x, hx, hy⟩ := h
  exact ⟨x, (List.mem_filter.1 hx).1, hy⟩
theorem small_most {t : List QT} (h : smallB t = true) (s : QS) : (mostL (linesAt t s)).found ≤ 1000000 :=
  mostL_high _ _ (by omega) fun y hy => by
    obtain ⟨x, hx, hy⟩ := linesAt_mem hy
    exact (smallB_is h x hx y hy).2
theorem small_no {t : List QT} {j q : Nat} {x : QT} {y : QL} (hx : t[j]? = some x) (hy : x.lines[q]? = some y) (h : ¬ (0 ≤ y.found ∧ y.found ≤ 1000000)) : smallB t = false := by
  cases hs : smallB t with
  | false => rfl
  | true => exact absurd (smallB_is hs x (List.mem_of_getElem? hx) y (List.mem_of_getElem? hy)) h
theorem small_yes {t : List QT} (h : ∀ (j : Nat) (x : QT), t[j]? = some x → ∀ (q : Nat) (y : QL), x.lines[q]? = some y → 0 ≤ y.found ∧ y.found ≤ 1000000) : smallB t = true := by
  refine List.all_eq_true.2 fun x hx => List.all_eq_true.2 fun y hy => ?_
  obtain ⟨j, hj, rfl⟩ := List.mem_iff_getElem.1 hx
  obtain ⟨q, hq, rfl⟩ := List.mem_iff_getElem.1 hy
  simpa using h j _ (by rw [List.getElem?_eq_getElem hj]) q _ (by rw [List.getElem?_eq_getElem hq])

set_option maxHeartbeats 1000000 in
theorem small_any {P : Nat → Prop} (xs : List QT) (v : Value) (w : World) (hh : IsTallies P w v xs) : Calls Try.prog 5 #[v] w fun e w' => e = .returned (.bool (smallB xs)) ∧ Below w.heap.size w w' := by
  obtain ⟨ad, cap, rfl, hl, hcap, -, hrow⟩ := hh
  unfold maxLen at hcap
  go_enter Try.func5, Try.ntmps5
  go_wp2
  go_loopg [9] xs.length (fun g i wr => ∃ j : Nat, j + g = xs.length ∧ i = .int .i64 j ∧ Below w.heap.size w wr ∧ ∀ (j' : Nat) (x : QT), j' < j → xs[j']? = some x → ∀ (q : Nat) (y : QL), x.lines[q]? = some y → 0 ≤ y.found ∧ y.found ≤ 1000000)
  case atStart => exact ⟨0, by omega, rfl, Below.refl _ _, fun j' x h => by omega⟩
  case round =>
    obtain ⟨j, hj, rfl, hR, hno⟩ := hrel
    have HN : Hid (∀ (j' : Nat) (x : QT), j' < j → xs[j']? = some x → ∀ (q : Nat) (y : QL), x.lines[q]? = some y → 0 ≤ y.found ∧ y.found ≤ 1000000) := hno
    clear hno
    by_cases hlt : j < xs.length
    · obtain ⟨b, o, rfl, -, q0, q1, q2, lv, q3, ql⟩ := hrow j xs[j] (by simp [hlt])
      have hxj : Hid (xs[j]? = some xs[j]) := by show _ = _; simp [hlt]
      generalize xs[j] = x at *
      simp only [Nat.add_zero] at q0
      obtain ⟨ad2, cap2, rfl, hl2, hcap2, -, -⟩ := id ql
      unfold maxLen at hcap2
      have hj1 : (j : Int) < (xs.length : Int) := by omega
      have hj0 : (0 : Int) ≤ (j : Int) := by omega
      have v0 := cell_later hR q0
      have v1 := cell_later hR q1
      have v2 := cell_later hR q2
      have v3 := cell_later hR q3
      have hbx := bel1 wr (Obj.cells #[Value.int IntKind.i64 x.site.cls, Value.string x.site.name, Value.int IntKind.i64 x.site.at', Value.slice ad2 x.lines.length cap2] 58)
      clear hrow
      go_wp2
      have hR1 := nstep hR hbx
      have hl1 := ql.later goodL hR1
      generalize (wr.alloc (Obj.cells #[Value.int IntKind.i64 x.site.cls, Value.string x.site.name, Value.int IntKind.i64 x.site.at', Value.slice ad2 x.lines.length cap2] 58)) = W1 at *
      clear q0 q1 q2 q3 ql hR v0 v1 v2 v3 hbx
      go_loopg [16] x.lines.length (fun g i wr => ∃ q : Nat, q + g = x.lines.length ∧ i = .int .i64 q ∧ Below w.heap.size w wr ∧ IsLines P wr (.slice ad2 x.lines.length cap2) x.lines ∧ ∀ (q' : Nat) (y : QL), q' < q → x.lines[q']? = some y → 0 ≤ y.found ∧ y.found ≤ 1000000)
      case atStart => exact ⟨0, by omega, rfl, hR1, hl1, fun q' y h => by omega⟩
      case round =>
        obtain ⟨q, hq, rfl, hR, hlq, hno⟩ := hrel
        have HQ : Hid (∀ (q' : Nat) (y : QL), q' < q → x.lines[q']? = some y → 0 ≤ y.found ∧ y.found ≤ 1000000) := hno
        clear hR1 hl1 hno
        by_cases hltq : q < x.lines.length
        · obtain ⟨ad3, cap3, e3, -, -, -, hrow3⟩ := id hlq
          simp only [Value.slice.injEq] at e3
          obtain ⟨rfl, -, -⟩ := e3
          obtain ⟨b3, o3, rfl, -, y0, y1⟩ := hrow3 q x.lines[q] (by simp [hltq])
          have hyq : Hid (x.lines[q]? = some x.lines[q]) := by show _ = _; simp [hltq]
          generalize x.lines[q] = y at *
          simp only [Nat.add_zero] at y0
          have hq1 : (q : Int) < (x.lines.length : Int) := by omega
          have hq0 : (0 : Int) ≤ (q : Int) := by omega
          have hby := bel1 wr (Obj.cells #[Value.int IntKind.i64 y.cls, Value.int IntKind.i64 y.found] 60)
          clear hrow3
          by_cases hA : y.found < 0
          · have hd : decide (y.found < 0) = true := by simpa using hA
            have HF : Hid (smallB xs = false) := small_no hxj.out hyq.out (by omega)
            clear hA
            go_wp2
            go_ret
            exact ⟨ret_b HF.out.symm, nstep hR hby⟩
          · have hd : decide (y.found < 0) = false := by simpa using hA
            by_cases hB : 1000000 < y.found
            · have hd2 : decide (1000000 < y.found) = true := by simpa using hB
              have HF : Hid (smallB xs = false) := small_no hxj.out hyq.out (by omega)
              clear hA hB
              go_wp2
              go_ret
              exact ⟨ret_b HF.out.symm, nstep hR hby⟩
            · have hd2 : decide (1000000 < y.found) = false := by simpa using hB
              have HF : Hid (0 ≤ y.found ∧ y.found ≤ 1000000) := ⟨by omega, by omega⟩
              clear hA hB
              go_wp2
              go_roundg (x.lines.length - (q + 1))
              case measure => omega
              case rel =>
                refine ⟨q + 1, by omega, by go_num, nstep hR hby, hlq.later goodL hby, fun q' z hq' hz => ?_⟩
                by_cases h : q' = q
                · subst h; rw [hyq.out] at hz; cases hz; exact HF.out
                · exact HQ.out q' z (by omega) hz
        · obtain rfl : q = x.lines.length := by omega
          go_wp2
          go_roundg (xs.length - (j + 1))
          case measure => omega
          case rel =>
            refine ⟨j + 1, by omega, by go_num, hR, fun j' z hj' hz => ?_⟩
            by_cases h : j' = j
            · subst h; rw [hxj.out] at hz; cases hz; exact fun q' y hy => HQ.out q' y (lt_of_get hy) hy
            · exact HN.out j' z (by omega) hz
    · obtain rfl : j = xs.length := by omega
      have HF : Hid (smallB xs = true) := small_yes fun j x hx => HN.out j x (lt_of_get hx) hx
      go_wp2
      go_ret
      exact ⟨ret_b HF.out.symm, hR⟩
end Go.Proofs.Ytlekfiglefopgaa

/- FastTells' walk. -/
namespace Go.Proofs.Ytlekfiglefopgaa
open Go.ChangeShapes Go.WideShapes Go.ChangeAt Go.RowKit
set_option linter.unusedSimpArgs false
set_option linter.unusedVariables false
set_option maxRecDepth 8000

theorem cfx6 (args : Array Value) (w : World) : (callFunc 6 args).run Try.prog w = .ok (.enter 6 args) w := cf_of Try.func6 (by kernel_rfl) (by kernel_rfl) args w
theorem cfx7 (args : Array Value) (w : World) : (callFunc 7 args).run Try.prog w = .ok (.enter 7 args) w := cf_of Try.func7 (by kernel_rfl) (by kernel_rfl) args w
theorem cfx8 (args : Array Value) (w : World) : (callFunc 8 args).run Try.prog w = .ok (.enter 8 args) w := cf_of Try.func8 (by kernel_rfl) (by kernel_rfl) args w
structure FtM (P P2 : Nat → Prop) (w : World) (cv hv tv : Value) (X : QW) (t : List QT) (w' : World) : Prop where
  box : w'.heap[w.heap.size]? = some (.cells #[cv, hv, .int .i64 X.epoch] 25 (0, 0))
  C : IsClasses P w' cv X.classes
  H : IsHeap P w' hv X.heap
  T : IsTallies P2 w' tv t
  bel : Below w.heap.size w w'
theorem FtM.later {P P2 : Nat → Prop} {w : World} {cv hv tv : Value} {X : QW} {t : List QT} {w' w'' : World} (h : FtM P P2 w cv hv tv X t w') (hb : Below w'.heap.size w' w'') : FtM P P2 w cv hv tv X t w'' :=
  ⟨bxl h.box hb, h.C.later goodC hb, h.H.later goodO hb, h.T.later goodT hb, nstep h.bel hb⟩
set_option maxHeartbeats 2000000 in
theorem fastTells_walk {P P2 : Nat → Prop} (X : QW) (t : List QT) (cv hv tv : Value) (w : World) (hC : IsClasses P w cv X.classes) (hH : IsHeap P w hv X.heap) (hT : IsTallies P2 w tv t) :
    Calls Try.prog 3 #[WV cv hv X.epoch, tv] w fun e w' => e = .returned (.bool true) ∧ Below w.heap.size w w' := by
  obtain ⟨ac, cc, rfl, -, hcc, -, -⟩ := id hC
  obtain ⟨ah, ch, rfl, -⟩ := id hH
  obtain ⟨att, ct, rfl, -⟩ := id hT
  have hb0 := bel1 w (.cells #[.slice ac X.classes.length cc, .slice ah X.heap.length ch, .int .i64 X.epoch] 25)
  have hB : FtM P P2 w (.slice ac X.classes.length cc) (.slice ah X.heap.length ch) (.slice att t.length ct) X t (w.alloc (.cells #[.slice ac X.classes.length cc, .slice ah X.heap.length ch, .int .i64 X.epoch] 25)) :=
    ⟨heap_alloc_new _ _, hC.later goodC hb0, hH.later goodO hb0, hT.later goodT hb0, hb0⟩
  clear hb0
  go_enter Try.func3, Try.ntmps3
  go_upto_region 1 with (fail)
  generalize (w.alloc (.cells #[.slice ac X.classes.length cc, .slice ah X.heap.length ch, .int .i64 X.epoch] 25)) = W0 at *
  clear hC hH hT
  obtain ⟨⟨k0, k1, k2⟩, -⟩ := box3 hB.box
  go_wp2_with fail
  refine (rright_any X _ _ _ hB.C hB.H).mono ?_
  rintro e w2 ⟨rfl, hb1⟩
  replace hB := hB.later hb1
  clear hb1 k0 k1 k2
  by_cases hr : rightE X = 0
  · have HR : Hid (rightE X = 0) := hr
    rw [hr]
    clear hr
    go_wp2_with fail
    refine (small_any t _ _ hB.T).mono ?_
    rintro e w3 ⟨rfl, hb1⟩
    replace hB := hB.later hb1
    clear hb1
    cases hs : smallB t with
    | false =>
      have hbel := hB.bel
      go_wp2
      go_ret
      exact ⟨rfl, hbel⟩
    | true =>
      have HSm := hid hs
      clear hs
      go_upto_region 3 with (fail)
      obtain ⟨⟨k0, k1, k2⟩, -⟩ := box3 hB.box
      have hSl : ∀ w', Below w3.heap.size w3 w' → w'.cell? ⟨w.heap.size, 0, none⟩ = some (.slice ac X.classes.length cc) ∧ w'.cell? ⟨w.heap.size, 1, none⟩ = some (.slice ah X.heap.length ch) ∧ w'.cell? ⟨w.heap.size, 2, none⟩ = some (.int .i64 X.epoch) := fun w' hb => ⟨cell_later hb k0, cell_later hb k1, cell_later hb k2⟩
      have hS0 := hSl _ (Below.refl _ w3).drew
      refine wp_region_late (S := fun w' => w'.cell? ⟨w.heap.size, 0, none⟩ = some (.slice ac X.classes.length cc) ∧ w'.cell? ⟨w.heap.size, 1, none⟩ = some (.slice ah X.heap.length ch) ∧ w'.cell? ⟨w.heap.size, 2, none⟩ = some (.int .i64 X.epoch)) [] (by kernel_rfl) ?_
      refine wpAnyM_take (i := 0) (oi := { dst := some 16, op := Op.load 25 (Operand.tmp 2), type := 25, pos := "law.go:39", after := #[], guard := none }) (v := WV (.slice ac X.classes.length cc) (.slice ah X.heap.length ch) X.epoch) (by kernel_rfl) (by kernel_rfl) rfl (by kernel_rfl) (by kernel_rfl) (by kernel_rfl) (fun _ _ _ h => h) (Or.inl ⟨by rfl, ?_⟩) (hS0) ?_
      · intro w hSw
        obtain ⟨q0, q1, q2⟩ := hSw
        go_simp
      try simp only [Act.put, List.setIfInBounds_toArray, List.set_cons_zero, List.set_cons_succ]
      refine wpAnyM_take (i := 1) (oi := { dst := some 17, op := Op.move (Operand.tmp 1), type := 26, pos := "law.go:39", after := #[], guard := none }) (v := .slice att t.length ct) (by kernel_rfl) (by kernel_rfl) rfl (by kernel_rfl) (by kernel_rfl) (by kernel_rfl) (fun _ _ _ h => h) (Or.inl ⟨by rfl, ?_⟩) (hS0) ?_
      · intro w hSw
        obtain ⟨q0, q1, q2⟩ := hSw
        go_simp
      try simp only [Act.put, List.setIfInBounds_toArray, List.set_cons_zero, List.set_cons_succ]
      refine wpAnyM_take (i := 3) (oi := { dst := some 19, op := Op.load 25 (Operand.tmp 2), type := 25, pos := "law.go:39", after := #[], guard := none }) (v := WV (.slice ac X.classes.length cc) (.slice ah X.heap.length ch) X.epoch) (by kernel_rfl) (by kernel_rfl) rfl (by kernel_rfl) (by kernel_rfl) (by kernel_rfl) (fun _ _ _ h => h) (Or.inl ⟨by rfl, ?_⟩) (hS0) ?_
      · intro w hSw
        obtain ⟨q0, q1, q2⟩ := hSw
        go_simp
      try simp only [Act.put, List.setIfInBounds_toArray, List.set_cons_zero, List.set_cons_succ]
      refine wpAnyM_take (i := 4) (oi := { dst := some 20, op := Op.move (Operand.tmp 1), type := 26, pos := "law.go:39", after := #[], guard := none }) (v := .slice att t.length ct) (by kernel_rfl) (by kernel_rfl) rfl (by kernel_rfl) (by kernel_rfl) (by kernel_rfl) (fun _ _ _ h => h) (Or.inl ⟨by rfl, ?_⟩) (hS0) ?_
      · intro w hSw
        obtain ⟨q0, q1, q2⟩ := hSw
        go_simp
      try simp only [Act.put, List.setIfInBounds_toArray, List.set_cons_zero, List.set_cons_succ]
      refine wpAnyM_ready (rs := [2]) (by kernel_rfl) (by simp) ?_
      intro i hi
      simp only [List.mem_cons, List.not_mem_nil, or_false] at hi
      subst hi
      refine stepM (o := { dst := some 18, op := Op.call { callee := Callee.value (Operand.func 6), args := #[Operand.tmp 16, Operand.tmp 17], argTypes := #[25, 26] }, type := 30, pos := "law.go:39", after := #[{ on := 0, ground := Ground.data }, { on := 1, ground := Ground.data }], guard := none }) rfl (fun K' hK => ?_)
      refine step_call rfl 6 (.func 6) #[.tmp 16, .tmp 17] _ rfl #[] rfl #[WV (.slice ac X.classes.length cc) (.slice ah X.heap.length ch) X.epoch, .slice att t.length ct] (by simp [Act.eval, Act.put]) (cfx6 _ _) ?_
      refine (show Calls Try.prog 6 #[WV (.slice ac X.classes.length cc) (.slice ah X.heap.length ch) X.epoch, .slice att t.length ct] w3.drew _ from (fall_any X HR.out t _ _ _ w3.drew (hB.C.later goodC (Below.refl _ w3).drew) (hB.H.later goodO (Below.refl _ w3).drew) (hB.T.later goodT (Below.refl _ w3).drew)).mono ?_)
      rintro e w4 ⟨a4, cap4, rfl, hF4, hb4⟩
      refine ⟨_, rfl, ?_⟩
      have hB4 := hB.later (nstep (Below.refl _ w3).drew hb4)
      refine hK _ _ (fun _ => ?_) ?_
      · exact hSl _ (nstep (Below.refl _ w3).drew hb4)
      clear hK K'
      try simp only [Act.put, List.setIfInBounds_toArray, List.set_cons_zero, List.set_cons_succ]
      refine wpAnyM_ready (rs := [5]) (by kernel_rfl) (by simp) ?_
      intro i hi
      simp only [List.mem_cons, List.not_mem_nil, or_false] at hi
      subst hi
      refine stepM (o := { dst := some 21, op := Op.call { callee := Callee.value (Operand.func 7), args := #[Operand.tmp 19, Operand.tmp 20], argTypes := #[25, 26] }, type := 30, pos := "law.go:39", after := #[{ on := 3, ground := Ground.data }, { on := 4, ground := Ground.data }, { on := 2, ground := Ground.chain }], guard := none }) rfl (fun K' hK => ?_)
      refine step_call rfl 7 (.func 7) #[.tmp 19, .tmp 20] _ rfl #[] rfl #[WV (.slice ac X.classes.length cc) (.slice ah X.heap.length ch) X.epoch, .slice att t.length ct] (by simp [Act.eval, Act.put]) (cfx7 _ _) ?_
      refine (show Calls Try.prog 7 #[WV (.slice ac X.classes.length cc) (.slice ah X.heap.length ch) X.epoch, .slice att t.length ct] w4 _ from (frall_any X HR.out t (small_most HSm.out) _ _ _ w4 hB4.C hB4.H hB4.T).mono ?_)
      rintro e w5 ⟨a5, cap5, rfl, hF5, hb5⟩
      refine ⟨_, rfl, ?_⟩
      have hB5 := hB4.later hb5
      have hF4' := hF4.later goodF hb5
      refine hK _ _ (fun _ => ?_) ?_
      · exact hSl _ (nstep (nstep (Below.refl _ w3).drew hb4) hb5)
      clear hK K'
      try simp only [Act.put, List.setIfInBounds_toArray, List.set_cons_zero, List.set_cons_succ]
      refine wpAnyM_take (i := 6) (oi := { dst := some 5, op := Op.assign (Operand.tmp 18), type := 30, pos := "law.go:39", after := #[{ on := 2, ground := Ground.data }, { on := 5, ground := Ground.chain }, { on := 0, ground := Ground.phase }, { on := 1, ground := Ground.phase }, { on := 2, ground := Ground.phase }, { on := 3, ground := Ground.textOnly Departure.lateStores }, { on := 4, ground := Ground.textOnly Departure.lateStores }, { on := 5, ground := Ground.textOnly Departure.lateStoresUnsure }], guard := none }) (v := .slice a4 (allF X t X.classes.length).length cap4) (by kernel_rfl) (by kernel_rfl) rfl (by kernel_rfl) (by kernel_rfl) (by kernel_rfl) (fun _ _ _ h => h) (Or.inl ⟨by rfl, ?_⟩) (hSl _ (nstep (nstep (Below.refl _ w3).drew hb4) hb5)) ?_
      · intro w hSw
        obtain ⟨q0, q1, q2⟩ := hSw
        go_simp
      try simp only [Act.put, List.setIfInBounds_toArray, List.set_cons_zero, List.set_cons_succ]
      refine wpAnyM_take (i := 7) (oi := { dst := some 6, op := Op.assign (Operand.tmp 21), type := 30, pos := "law.go:39", after := #[{ on := 5, ground := Ground.data }, { on := 6, ground := Ground.chain }, { on := 0, ground := Ground.phase }, { on := 1, ground := Ground.phase }, { on := 2, ground := Ground.phase }, { on := 3, ground := Ground.phase }, { on := 4, ground := Ground.phase }, { on := 5, ground := Ground.phase }, { on := 6, ground := Ground.phase }], guard := none }) (v := .slice a5 (allF X t X.classes.length).length cap5) (by kernel_rfl) (by kernel_rfl) rfl (by kernel_rfl) (by kernel_rfl) (by kernel_rfl) (fun _ _ _ h => h) (Or.inl ⟨by rfl, ?_⟩) (hSl _ (nstep (nstep (Below.refl _ w3).drew hb4) hb5)) ?_
      · intro w hSw
        obtain ⟨q0, q1, q2⟩ := hSw
        go_simp
      try simp only [Act.put, List.setIfInBounds_toArray, List.set_cons_zero, List.set_cons_succ]
      refine wpAnyM_done (by kernel_rfl) ?_ _
      try simp only [Act.put, List.setIfInBounds_toArray, List.set_cons_zero, List.set_cons_succ]

      obtain ⟨fs, HFS⟩ : ∃ fs, Hid (fs = allF X t X.classes.length) := ⟨_, rfl⟩
      rw [← HFS.out] at hF4' hF5
      simp only [← HFS.out]
      have hbel := hB5.bel
      clear hSl hS0 k0 k1 k2 hB4 hF4 hb4 hb5 hB5 hB
      obtain ⟨a4', c4', e4, hl4, hc4, -, -⟩ := id hF4'
      simp only [Value.slice.injEq] at e4
      obtain ⟨rfl, -, rfl⟩ := e4
      obtain ⟨a5', c5', e5, hl5, hc5, -, -⟩ := id hF5
      simp only [Value.slice.injEq] at e5
      obtain ⟨rfl, -, rfl⟩ := e5
      unfold maxLen at hc4 hc5
      go_wp2
      go_loopg [29] fs.length (fun g iv wr => ∃ i : Nat, i + g = fs.length ∧ iv = .int .i64 (i : Int) ∧ Below w5.heap.size w5 wr)
      case atStart => exact ⟨0, by omega, rfl, Below.refl _ _⟩
      case round =>
        obtain ⟨i, hi, rfl, hb⟩ := hrel
        by_cases hlt : i < fs.length
        · obtain ⟨f, hf⟩ : ∃ f, fs[i]? = some f := ⟨_, List.getElem?_eq_getElem hlt⟩
          obtain ⟨aa, ca, ea, -, -, -, hra⟩ := hF4'.later goodF hb
          simp only [Value.slice.injEq] at ea
          obtain ⟨rfl, -, rfl⟩ := ea
          obtain ⟨ab, cb, eb, -, -, -, hrb⟩ := hF5.later goodF hb
          simp only [Value.slice.injEq] at eb
          obtain ⟨rfl, -, rfl⟩ := eb
          obtain ⟨ba, oa, rfl, -, x0, x1, x2, x3, va, x4, hka⟩ := hra i f hf
          obtain ⟨bb, ob, rfl, -, y0, y1, y2, y3, vb, y4, hkb⟩ := hrb i f hf
          simp only [Nat.add_zero] at x0 y0
          have hi1 : (i : Int) < (fs.length : Int) := by omega
          have hi0 : (0 : Int) ≤ (i : Int) := by omega
          clear hra hrb
          go_upto_region 9 with (fail)
          have hSl : ∀ w', Below wr.heap.size wr w' → w'.cell? ⟨ba, oa + i * 5, none⟩ = some (.int .i64 f.cls) ∧ w'.cell? ⟨ba, oa + i * 5 + 1, none⟩ = some (.string f.name) ∧ w'.cell? ⟨ba, oa + i * 5 + 2, none⟩ = some (.int .i64 f.epoch) ∧ w'.cell? ⟨ba, oa + i * 5 + 3, none⟩ = some (.int .i64 f.temps) ∧ w'.cell? ⟨ba, oa + i * 5 + 4, none⟩ = some (va) ∧ w'.cell? ⟨bb, ob + i * 5, none⟩ = some (.int .i64 f.cls) ∧ w'.cell? ⟨bb, ob + i * 5 + 1, none⟩ = some (.string f.name) ∧ w'.cell? ⟨bb, ob + i * 5 + 2, none⟩ = some (.int .i64 f.epoch) ∧ w'.cell? ⟨bb, ob + i * 5 + 3, none⟩ = some (.int .i64 f.temps) ∧ w'.cell? ⟨bb, ob + i * 5 + 4, none⟩ = some (vb) := fun w' hb => ⟨cell_later hb x0, cell_later hb x1, cell_later hb x2, cell_later hb x3, cell_later hb x4, cell_later hb y0, cell_later hb y1, cell_later hb y2, cell_later hb y3, cell_later hb y4⟩
          have hS0 := hSl _ (Below.refl _ wr).drew
          refine wp_region_late (S := fun w' => w'.cell? ⟨ba, oa + i * 5, none⟩ = some (.int .i64 f.cls) ∧ w'.cell? ⟨ba, oa + i * 5 + 1, none⟩ = some (.string f.name) ∧ w'.cell? ⟨ba, oa + i * 5 + 2, none⟩ = some (.int .i64 f.epoch) ∧ w'.cell? ⟨ba, oa + i * 5 + 3, none⟩ = some (.int .i64 f.temps) ∧ w'.cell? ⟨ba, oa + i * 5 + 4, none⟩ = some (va) ∧ w'.cell? ⟨bb, ob + i * 5, none⟩ = some (.int .i64 f.cls) ∧ w'.cell? ⟨bb, ob + i * 5 + 1, none⟩ = some (.string f.name) ∧ w'.cell? ⟨bb, ob + i * 5 + 2, none⟩ = some (.int .i64 f.epoch) ∧ w'.cell? ⟨bb, ob + i * 5 + 3, none⟩ = some (.int .i64 f.temps) ∧ w'.cell? ⟨bb, ob + i * 5 + 4, none⟩ = some (vb)) [] (by kernel_rfl) ?_
          refine wpAnyM_take (i := 0) (oi := { dst := some 32, op := Op.move (Operand.tmp 5), type := 30, pos := "law.go:44", after := #[], guard := none }) (v := .slice (some ⟨ba, oa, none⟩) fs.length cap4) (by kernel_rfl) (by kernel_rfl) rfl (by kernel_rfl) (by kernel_rfl) (by kernel_rfl) (fun _ _ _ h => h) (Or.inl ⟨by rfl, ?_⟩) (hS0) ?_
          · intro w hSw
            obtain ⟨q0, q1, q2, q3, q4, q5, q6, q7, q8, q9⟩ := hSw
            go_simp
          try simp only [Act.put, List.setIfInBounds_toArray, List.set_cons_zero, List.set_cons_succ]
          refine wpAnyM_take (i := 1) (oi := { dst := some 33, op := Op.move (Operand.tmp 7), type := 3, pos := "law.go:44", after := #[], guard := none }) (v := .int .i64 (i : Int)) (by kernel_rfl) (by kernel_rfl) rfl (by kernel_rfl) (by kernel_rfl) (by kernel_rfl) (fun _ _ _ h => h) (Or.inl ⟨by rfl, ?_⟩) (hS0) ?_
          · intro w hSw
            obtain ⟨q0, q1, q2, q3, q4, q5, q6, q7, q8, q9⟩ := hSw
            go_simp
          try simp only [Act.put, List.setIfInBounds_toArray, List.set_cons_zero, List.set_cons_succ]
          refine wpAnyM_take (i := 2) (oi := { dst := some 34, op := Op.indexAddr 30 (Operand.tmp 32) (Operand.tmp 33), type := 0, pos := "law.go:44", after := #[{ on := 0, ground := Ground.data }, { on := 1, ground := Ground.data }], guard := none }) (v := .pointer (some ⟨ba, oa + i * 5, none⟩)) (by kernel_rfl) (by kernel_rfl) rfl (by kernel_rfl) (by kernel_rfl) (by kernel_rfl) (fun _ _ _ h => h) (Or.inl ⟨by rfl, ?_⟩) (hS0) ?_
          · intro w hSw
            obtain ⟨q0, q1, q2, q3, q4, q5, q6, q7, q8, q9⟩ := hSw
            go_simp
          try simp only [Act.put, List.setIfInBounds_toArray, List.set_cons_zero, List.set_cons_succ]
          refine wpAnyM_take (i := 3) (oi := { dst := some 35, op := Op.load 35 (Operand.tmp 34), type := 35, pos := "law.go:44", after := #[{ on := 2, ground := Ground.data }], guard := none }) (v := FsV f va) (by kernel_rfl) (by kernel_rfl) rfl (by kernel_rfl) (by kernel_rfl) (by kernel_rfl) (fun _ _ _ h => h) (Or.inl ⟨by rfl, ?_⟩) (hS0) ?_
          · intro w hSw
            obtain ⟨q0, q1, q2, q3, q4, q5, q6, q7, q8, q9⟩ := hSw
            go_simp
          try simp only [Act.put, List.setIfInBounds_toArray, List.set_cons_zero, List.set_cons_succ]
          refine wpAnyM_take (i := 4) (oi := { dst := some 36, op := Op.move (Operand.tmp 6), type := 30, pos := "law.go:44", after := #[], guard := none }) (v := .slice (some ⟨bb, ob, none⟩) fs.length cap5) (by kernel_rfl) (by kernel_rfl) rfl (by kernel_rfl) (by kernel_rfl) (by kernel_rfl) (fun _ _ _ h => h) (Or.inl ⟨by rfl, ?_⟩) (hS0) ?_
          · intro w hSw
            obtain ⟨q0, q1, q2, q3, q4, q5, q6, q7, q8, q9⟩ := hSw
            go_simp
          try simp only [Act.put, List.setIfInBounds_toArray, List.set_cons_zero, List.set_cons_succ]
          refine wpAnyM_take (i := 5) (oi := { dst := some 37, op := Op.move (Operand.tmp 7), type := 3, pos := "law.go:44", after := #[], guard := none }) (v := .int .i64 (i : Int)) (by kernel_rfl) (by kernel_rfl) rfl (by kernel_rfl) (by kernel_rfl) (by kernel_rfl) (fun _ _ _ h => h) (Or.inl ⟨by rfl, ?_⟩) (hS0) ?_
          · intro w hSw
            obtain ⟨q0, q1, q2, q3, q4, q5, q6, q7, q8, q9⟩ := hSw
            go_simp
          try simp only [Act.put, List.setIfInBounds_toArray, List.set_cons_zero, List.set_cons_succ]
          refine wpAnyM_take (i := 6) (oi := { dst := some 38, op := Op.indexAddr 30 (Operand.tmp 36) (Operand.tmp 37), type := 0, pos := "law.go:44", after := #[{ on := 4, ground := Ground.data }, { on := 5, ground := Ground.data }], guard := none }) (v := .pointer (some ⟨bb, ob + i * 5, none⟩)) (by kernel_rfl) (by kernel_rfl) rfl (by kernel_rfl) (by kernel_rfl) (by kernel_rfl) (fun _ _ _ h => h) (Or.inl ⟨by rfl, ?_⟩) (hS0) ?_
          · intro w hSw
            obtain ⟨q0, q1, q2, q3, q4, q5, q6, q7, q8, q9⟩ := hSw
            go_simp
          try simp only [Act.put, List.setIfInBounds_toArray, List.set_cons_zero, List.set_cons_succ]
          refine wpAnyM_take (i := 7) (oi := { dst := some 39, op := Op.load 35 (Operand.tmp 38), type := 35, pos := "law.go:44", after := #[{ on := 6, ground := Ground.data }], guard := none }) (v := FsV f vb) (by kernel_rfl) (by kernel_rfl) rfl (by kernel_rfl) (by kernel_rfl) (by kernel_rfl) (fun _ _ _ h => h) (Or.inl ⟨by rfl, ?_⟩) (hS0) ?_
          · intro w hSw
            obtain ⟨q0, q1, q2, q3, q4, q5, q6, q7, q8, q9⟩ := hSw
            go_simp
          try simp only [Act.put, List.setIfInBounds_toArray, List.set_cons_zero, List.set_cons_succ]
          refine wpAnyM_ready (rs := [8]) (by kernel_rfl) (by simp) ?_
          intro i hi
          simp only [List.mem_cons, List.not_mem_nil, or_false] at hi
          subst hi
          refine stepM (o := { dst := some 40, op := Op.call { callee := Callee.value (Operand.func 8), args := #[Operand.tmp 35, Operand.tmp 39], argTypes := #[35, 35] }, type := 4, pos := "law.go:44", after := #[{ on := 3, ground := Ground.data }, { on := 7, ground := Ground.data }], guard := none }) rfl (fun K' hK => ?_)
          refine step_call rfl 8 (.func 8) #[.tmp 35, .tmp 39] _ rfl #[] rfl #[FsV f va, FsV f vb] (by simp [Act.eval, Act.put]) (cfx8 _ _) ?_
          refine (show Calls Try.prog 8 #[FsV f va, FsV f vb] wr.drew _ from (sameFast_any f va vb wr.drew (hka.later goodI (Below.refl _ wr).drew) (hkb.later goodI (Below.refl _ wr).drew)).mono ?_)
          rintro e w7 ⟨rfl, hb7⟩
          refine ⟨_, rfl, ?_⟩
          have hb8 : Below wr.heap.size wr w7 := nstep (Below.refl _ wr).drew hb7
          refine hK _ _ (fun _ => ?_) ?_
          · exact hSl _ hb8
          clear hK K'
          try simp only [Act.put, List.setIfInBounds_toArray, List.set_cons_zero, List.set_cons_succ]
          refine wpAnyM_take (i := 9) (oi := { dst := some 41, op := Op.unOp UnOp.not 4 (Operand.tmp 40), type := 4, pos := "law.go:44", after := #[{ on := 8, ground := Ground.data }], guard := none }) (v := .bool false) (by kernel_rfl) (by kernel_rfl) rfl (by kernel_rfl) (by kernel_rfl) (by kernel_rfl) (fun _ _ _ h => h) (Or.inl ⟨by rfl, ?_⟩) (hSl _ hb8) ?_
          · intro w hSw
            obtain ⟨q0, q1, q2, q3, q4, q5, q6, q7, q8, q9⟩ := hSw
            go_simp
          try simp only [Act.put, List.setIfInBounds_toArray, List.set_cons_zero, List.set_cons_succ]
          refine wpAnyM_done (by kernel_rfl) ?_ _
          try simp only [Act.put, List.setIfInBounds_toArray, List.set_cons_zero, List.set_cons_succ]

          have hbN := nstep hb hb8
          go_wp2
          go_roundg (fs.length - (i + 1))
          case measure => omega
          case rel => exact ⟨i + 1, by omega, by go_num, hbN⟩
        · have hbN := nstep hbel hb
          go_wp2
          go_ret
          exact ⟨rfl, hbN⟩
  · have hbel := hB.bel
    have hrb : (rightE X != 0) = true := by simpa using hr
    go_wp2
    go_ret
    exact ⟨rfl, hbel⟩
end Go.Proofs.Ytlekfiglefopgaa

/- Sites, tallies, cells and numbers that came in, read. -/
namespace Go.Proofs.Ytlekfiglefopgaa
open Go.ChangeShapes Go.WideShapes Go.ChangeAt Go.RowKit Go.Deep
set_option linter.unusedSimpArgs false
set_option linter.unusedVariables false
set_option maxRecDepth 8000

theorem bytes55 : Try.prog.bytesOf 55 = 32 := by kernel_rfl
theorem bytes60 : Try.prog.bytesOf 60 = 16 := by kernel_rfl
theorem bytes58 : Try.prog.bytesOf 58 = 56 := by kernel_rfl
theorem bytes3 : Try.prog.bytesOf 3 = 8 := by kernel_rfl
theorem cells55 : Try.prog.cellsOf 55 = 3 := by kernel_rfl
theorem cells60 : Try.prog.cellsOf 60 = 2 := by kernel_rfl
theorem cells58 : Try.prog.cellsOf 58 = 4 := by kernel_rfl
theorem cells56 : Try.prog.cellsOf 56 = 1 := by kernel_rfl
theorem cells4 : Try.prog.cellsOf 4 = 1 := by kernel_rfl

theorem IsRow.weak {α : Type} {E : Lay α} {sz bytes : Nat} {P : Nat → Prop} {w : World} {v : Value} {xs : List α} (h : IsRow E sz bytes P w v xs) : IsRow E sz 0 P w v xs ∧ xs.length * bytes ≤ 140737488351232 := by
  obtain ⟨ad, cap, h1, h2, h3, h4, h5⟩ := h
  exact ⟨⟨ad, cap, h1, h2, h3, by simp, h5⟩, h4⟩
/-- Elements of which more is known. -/
def LayAnd {α : Type} (E : Lay α) (q : α → Prop) : Lay α := fun P w f x => E P w f x ∧ q x
theorem Good.and {α : Type} {E : Lay α} {sz : Nat} (G : Good E sz) (q : α → Prop) : Good (LayAnd E q) sz where
  move h hl hk hf := ⟨G.move h.1 hl hk hf, h.2⟩
  there h := G.there h.1
  pos := G.pos
theorem IsRow.split {α : Type} {E : Lay α} {q : α → Prop} {sz bytes : Nat} {P : Nat → Prop} {w : World} {v : Value} {xs : List α} (h : IsRow (LayAnd E q) sz bytes P w v xs) : IsRow E sz bytes P w v xs ∧ ∀ x ∈ xs, q x := by
  obtain ⟨ad, cap, h1, h2, h3, h4, h5⟩ := h
  refine ⟨⟨ad, cap, h1, h2, h3, h4, fun i x hx => ?_⟩, fun x hx => ?_⟩
  · obtain ⟨b, o, e1, e2, e3⟩ := h5 i x hx
    exact ⟨b, o, e1, e2, e3.1⟩
  · obtain ⟨i, hi, rfl⟩ := List.mem_iff_getElem.1 hx
    obtain ⟨b, o, e1, e2, e3⟩ := h5 i xs[i] (by simp)
    exact e3.2

section
variable {H : Type} {enc : TypeId × Value → H} {w : World} {base : Nat} {spare : Nat → Bool} {held : Bool}

theorem read_site {n : Nat} {cs : List Value} {x : DataW H × List MemPlace} (hl : cs.length = 3) (h : DataW.trod enc Try.prog w base spare held n 55 cs = some x) : ∃ y, SiteC Tru w (fun k => cs[k]?) y := by
  obtain ⟨xs, k, hk, hxy, _, hxl, hf⟩ := DataW.trod_struct Try.underlying55 h
  match xs, hxl, cs, hl with
  | [y0, y1, y2], _, [v0, v1, v2], _ =>
    have g0 := hf 0 _ rfl
    have g1 := hf 1 _ rfl
    have g2 := hf 2 _ rfl
    simp [cells3, cells9] at g0 g1 g2
    obtain ⟨a, e0, -, -⟩ := DataW.trod_int Try.underlying3 g0
    obtain ⟨s, e1, -, -⟩ := DataW.trod_string Try.underlying9 g1
    obtain ⟨b, e2, -, -⟩ := DataW.trod_int Try.underlying3 g2
    simp at e0 e1 e2
    subst e0 e1 e2
    exact ⟨⟨a, s, b⟩, rfl, rfl, rfl⟩
theorem read_line {n : Nat} {cs : List Value} {x : DataW H × List MemPlace} (hl : cs.length = 2) (h : DataW.trod enc Try.prog w base spare held n 60 cs = some x) : ∃ y, LineC Tru w (fun k => cs[k]?) y := by
  obtain ⟨xs, k, hk, hxy, _, hxl, hf⟩ := DataW.trod_struct Try.underlying60 h
  match xs, hxl, cs, hl with
  | [y0, y1], _, [v0, v1], _ =>
    have g0 := hf 0 _ rfl
    have g1 := hf 1 _ rfl
    simp [cells3] at g0 g1
    obtain ⟨a, e0, -, -⟩ := DataW.trod_int Try.underlying3 g0
    obtain ⟨b, e1, -, -⟩ := DataW.trod_int Try.underlying3 g1
    simp at e0 e1
    subst e0 e1
    exact ⟨⟨a, b⟩, rfl, rfl⟩
theorem read_int {n : Nat} {cs : List Value} {x : DataW H × List MemPlace} (hl : cs.length = 1) (h : DataW.trod enc Try.prog w base spare held n 3 cs = some x) : ∃ y, IntC Tru w (fun k => cs[k]?) y := by
  match cs, hl with
  | [v0], _ =>
    obtain ⟨a, e0, -, -⟩ := DataW.trod_int Try.underlying3 h
    simp at e0
    subst e0
    exact ⟨a, rfl⟩
theorem read_lines {fuel : Nat} {v : Value} {x : DataW H × List MemPlace} (h : DataW.trod enc Try.prog w base spare held fuel 56 [v] = some x) (hw : ∀ n ∈ x.1.weights Try.prog 56, n ≤ 140737488351232) : ∃ xs, IsRow LineC 2 16 Tru w v xs :=
  read_row goodL Try.underlying56 cells60 bytes60 (by omega) (fun n cs x hl h hw => read_line hl h) h hw
theorem read_ints {fuel : Nat} {v : Value} {x : DataW H × List MemPlace} (h : DataW.trod enc Try.prog w base spare held fuel 63 [v] = some x) (hw : ∀ n ∈ x.1.weights Try.prog 63, n ≤ 140737488351232) : ∃ xs, IsRow IntC 1 8 Tru w v xs :=
  read_row goodN Try.underlying63 cells3 bytes3 (by omega) (fun n cs x hl h hw => read_int hl h) h hw

abbrev TallyR : Lay QT := LayAnd TallyC fun x => x.lines.length * 16 ≤ 140737488351232
theorem read_tally {n : Nat} {cs : List Value} {x : DataW H × List MemPlace} (hl : cs.length = 4) (h : DataW.trod enc Try.prog w base spare held n 58 cs = some x) (hw : ∀ n ∈ x.1.weights Try.prog 58, n ≤ 140737488351232) : ∃ y, TallyR Tru w (fun k => cs[k]?) y := by
  obtain ⟨xs, k, hk, hxy, _, hxl, hf⟩ := DataW.trod_struct Try.underlying58 h
  match xs, hxl, cs, hl with
  | [y0, y1], _, [v0, v1, v2, v3], _ =>
    have g0 := hf 0 _ rfl
    have g1 := hf 1 _ rfl
    simp [cells55, cells56] at g0 g1
    obtain ⟨s, q0, q1, q2⟩ := read_site rfl g0
    rw [hxy] at hw
    obtain ⟨ls, hls⟩ := read_lines g1 (fun q hq => hw q (weights_at (j := 1) (xs := [y0, y1]) Try.underlying58 rfl rfl q hq))
    obtain ⟨k1, k2⟩ := hls.weak
    exact ⟨⟨s, ls⟩, ⟨q0, q1, q2, _, rfl, k1⟩, k2⟩
theorem read_tallies {fuel : Nat} {v : Value} {x : DataW H × List MemPlace} (h : DataW.trod enc Try.prog w base spare held fuel 26 [v] = some x) (hw : ∀ n ∈ x.1.weights Try.prog 26, n ≤ 140737488351232) : ∃ xs, IsTallies Tru w v xs ∧ xs.length * 56 ≤ 140737488351232 ∧ ∀ x ∈ xs, x.lines.length * 16 ≤ 140737488351232 := by
  obtain ⟨xs, hx⟩ := read_row (goodT.and _) Try.underlying26 cells58 bytes58 (by omega) (fun n cs x hl h hw => read_tally hl h hw) h hw
  obtain ⟨h1, h2⟩ := hx.split
  exact ⟨xs, h1.weak.1, h1.weak.2, h2⟩
/-- A site that came in. -/
theorem open_site {r : Reach} {b0 : Nat} {v : Value} {d : DataW H} {p : List MemPlace} (hv : Value.okWide Try.prog w r b0 55 v) (h : DataW.Trod enc Try.prog w base spare held 55 v d p) : ∃ s : QS, v = SV s := by
  obtain ⟨v0, v1, v2, y0, y1, y2, n, rfl, rfl, rfl, h0, h1, h2⟩ := Joins.open_agg3 Try.underlying55 (by kernel_rfl) cells55 hv h
  obtain ⟨a, e0, -, -⟩ := DataW.trod_int Try.underlying3 h0
  obtain ⟨s, e1, -, -⟩ := DataW.trod_string Try.underlying9 h1
  obtain ⟨b, e2, -, -⟩ := DataW.trod_int Try.underlying3 h2
  simp at e0 e1 e2
  subst e0 e1 e2
  exact ⟨⟨a, s, b⟩, rfl⟩
/-- The cells of a value of a slice's type. -/
theorem slice_cells {T e : TypeId} (ht : Try.prog.underlying T = some (.slice e)) {r : Reach} {b0 : Nat} {v : Value} {d : DataW H} {p : List MemPlace} (hv : Value.okWide Try.prog w r b0 T v) (h : DataW.Trod enc Try.prog w base spare held T v d p) : ∃ fuel, DataW.trod enc Try.prog w base spare held fuel T [v] = some (d, p) := by
  obtain ⟨fuel, hf⟩ := h
  obtain ⟨a, len, cap, rfl⟩ := okWide_slice ht hv
  exact ⟨fuel, hf⟩
/-- How much is counted at the least. -/
theorem bulk_len {H : Type} : ∀ l : List (DataW H), l.length ≤ Rows.uptoBulkAll l
  | [] => by simp
  | d :: r => by
    have ih := bulk_len r
    have h1 : 1 ≤ Rows.uptoBulk d := by
      cases d with
      | lit l => cases l <;> simp [Rows.uptoBulk]
      | nil => simp [Rows.uptoBulk]
      | ptr d => simp [Rows.uptoBulk]
      | slice elems spare => simp [Rows.uptoBulk]
      | agg parts => simp [Rows.uptoBulk]
      | iface t d => simp [Rows.uptoBulk]
      | map entries => simp [Rows.uptoBulk]
      | held h => simp [Rows.uptoBulk]
    simp only [Rows.uptoBulkAll, List.length_cons]
    omega
theorem bulk_slice {T e : TypeId} (ht : Try.prog.underlying T = some (.slice e)) {fuel : Nat} {a : Option Addr} {n c : Nat} {x : DataW H × List MemPlace} (h : DataW.trod enc Try.prog w base spare held fuel T [.slice a n c] = some x) : n ≤ Rows.uptoBulk x.1 := by
  rcases open_slice ht h with ⟨hcs, -⟩ | ⟨b, len, cap, m, k, D, Pl, hcs, -, hl, hm, hmm, rfl, hx⟩
  · simp at hcs; omega
  · simp at hcs
    obtain ⟨-, rfl, -⟩ := hcs
    have := bulk_len ((List.range n).map D)
    simp only [List.length_map, List.length_range] at this
    simp only [Rows.uptoBulk]
    omega
theorem bulk_row {α : Type} {E : Lay α} {sz bytes : Nat} {P : Nat → Prop} {T e : TypeId} (ht : Try.prog.underlying T = some (.slice e)) {fuel : Nat} {v : Value} {xs : List α} {x : DataW H × List MemPlace} (h : DataW.trod enc Try.prog w base spare held fuel T [v] = some x) (hr : IsRow E sz bytes P w v xs) : xs.length ≤ Rows.uptoBulk x.1 := by
  obtain ⟨ad, cap, rfl, -⟩ := hr
  exact bulk_slice ht h
end
end Go.Proofs.Ytlekfiglefopgaa

/- FastTells: of every right world, and tallies with no number below 0 or above 1,000,000, All tells the fast code that the document tells, in its order. For every input. -/
namespace Go.Proofs.Ytlekfiglefopgaa
open Go.ChangeShapes Go.WideShapes Go.ChangeAt Go.RowKit
set_option linter.unusedSimpArgs false
set_option linter.unusedVariables false
set_option maxRecDepth 8000

set_option maxRecDepth 100000 in
theorem ft_lifted (os : Os) (started : os.Started) (H : Type) (enc : TypeId × Value → H) :
    ReturnsInHanded {} Try.checked os 3 .any (Rows.fastTellsSpec.pre6 enc Try.prog Try.f3 Rows.fastTellsRow.domain false) (Rows.fastTellsSpec.post enc Try.prog Try.f3 false true false false) := by
  refine returnsInHanded_of_change_sized (C := Try.checked) own started (by kernel_rfl) Try.func3
    (ChangeSpec.witness6 (enc := enc) (C := Try.checked) false ⟨#[], #[WV (.slice none 0 0) (.slice none 0 0) 0, .slice none 0 0], []⟩ 8 (by kernel_rfl) (by kernel_rfl) (by kernel_rfl) (by kernel_rfl)) ?_
  intro W base args ds gs before hval0 hW hcnd hsz0 _
  have hval : ∀ (j : Nat) t v, Try.f3.params[j]? = some t → args[j]? = some v → Value.okWide Try.prog W .any base t v := hval0
  have hsz : (DataW.weightsEach Try.prog (Try.f3.params.toList ++ Rows.fastTellsSpec.plain.varTypes Try.prog) (ds ++ gs)).all (· ≤ reachBytes) = true := hsz0
  have hW' := hW
  obtain ⟨p, q, hA0, hV, rfl, hfz, hnd⟩ := hW
  have hA : DataW.TrodAll enc Try.prog W 0 (fun _ => true) true Try.f3.params.toList args.toList ds p := hA0
  rw [Try.params3] at hA hval hsz
  obtain ⟨v0, vs0, d0, ds0, p0, q0, hargs, rfl, rfl, h0, r0⟩ := trodAll_cons hA
  obtain ⟨v1, vs1, d1, ds1, p1, q1, rfl, rfl, rfl, h1, r1⟩ := trodAll_cons r0
  obtain ⟨rfl, rfl, rfl⟩ := trodAll_nil r1
  obtain rfl : args = #[v0, v1] := by cases args; simp_all
  obtain ⟨rfl, rfl⟩ := trodVars_none hV
  have lt : ∀ {t : TypeId} {v : Value} {d : DataW H} {p : List MemPlace}, DataW.Trod enc Try.prog W 0 (fun _ => true) true t v d p → ∀ x ∈ p, x.block < W.heap.size := fun h => by obtain ⟨m, hm⟩ := h; exact DataW.trod_lt m _ _ _ hm
  have big : ∀ {j : Nat} {t : TypeId} {d : DataW H}, ([25, 26] : List TypeId)[j]? = some t → [d0, d1][j]? = some d → ∀ n ∈ d.weights Try.prog t, n ≤ 140737488351232 := fun {j t d} ht hd n hn => by
    have := List.all_eq_true.1 hsz _ (DataW.weights_mem_each (j := j) (t := t) (by exact ht) (by exact hd) n hn)
    exact of_decide_eq_true this
  have k0 := h0
  have k1 := h1
  obtain ⟨X0, cv0, hv0, rfl, hC0, hH0⟩ := open_world (hval 0 25 v0 rfl rfl) h0 (big (j := 0) rfl rfl)
  obtain ⟨f1, g1⟩ := slice_cells Try.underlying26 (hval 1 26 v1 rfl rfl) h1
  obtain ⟨x1, m1, w1, y1⟩ := read_tallies g1 (big (j := 1) rfl rfl)
  clear hA0 hval0
  refine (fastTells_walk X0 x1 _ _ _ W hC0 hH0 m1).mono fun e W' ⟨he, bel⟩ => ?_
  subst he
  have again : ∀ {t : TypeId} {v : Value} {d : DataW H} {p : List MemPlace}, Try.prog.readableRec t = true → t < Try.prog.types.size → DataW.Trod enc Try.prog W 0 (fun _ => true) true t v d p → DataW.Trod enc Try.prog W' 0 (fun b => decide (b < W.heap.size)) true t v d p := fun hr ht h => Below.trod laidOut hr ht h bel (lt h)
  exact ⟨_, rfl, _, _, _, [], _, [], hW', trodAll_mk1 (shut_bool Try.underlying4 _), (trodAll_cons_mk (again (by kernel_rfl) (of_decide_eq_true (by kernel_rfl)) k0) (trodAll_cons_mk (again (by kernel_rfl) (of_decide_eq_true (by kernel_rfl)) k1) trodAll_mk0)), rfl, bel.frame _, fun h => by cases h⟩

theorem ft_over : Rows.fastTellsRow.holds Try.pinned (OpenSpec.ofChange Rows.fastTellsSpec) :=
  OpenClaim.holds_of_wide 3 Try.f3 rfl rfl rfl rfl rfl rfl rfl ⟨rfl, rfl, rfl, rfl, rfl⟩ rfl rfl rfl rfl rfl (by kernel_rfl) Try.func3 (by kernel_rfl)
    (of_decide_eq_true (by kernel_rfl)) (by unfold Func.isWrapper; first | (rw [if_pos (by decide +kernel)]; kernel_rfl) | (rw [if_neg (by decide +kernel)]; exact ⟨rfl, rfl⟩))
    (fun os started H enc _ => ft_lifted os started H enc)

/-- The statement. -/
theorem fastTells_holds : Rows.FastTellsSaid := ft_over
#print axioms fastTells_holds

end Go.Proofs.Ytlekfiglefopgaa

