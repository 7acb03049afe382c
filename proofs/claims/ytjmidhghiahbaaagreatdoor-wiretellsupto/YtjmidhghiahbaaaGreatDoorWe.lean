/- Package wire: a writer's text lies in a row of bytes of its own; words.number, words.word. -/
import Derived.Test.YtjmidhghiahbaaaGreatDoorWb
import Derived.Test.YtjmidhghiahbaaaGreatDoorSh
import Derived.Lib.AppendIntMem
import Derived.Lib.AppendStr
import Derived.Lib.OthersKept
import Derived.Lib.OwnKind
import Derived.Lib.ItoaLen
import Derived.Lib.Hide
import Derived.OwnWalk
namespace Go.Proofs.YtjmidhghiahbaaaGreatDoor
open Go.ChangeShapes Go.WideShapes Go.ChangeAt Go.RowKit
set_option linter.unusedSimpArgs false
set_option linter.unusedVariables false
set_option maxRecDepth 8000

theorem row_free {w : World} {b : Nat} {cur : Array Value} {t : TypeId} (h : w.heap[b]? = some (.cells cur t (0, 0))) (o : Nat) : w.frozen? ⟨b, o, none⟩ = false := by unfold World.frozen?; simp [h]
theorem hid {p : Prop} (h : p) : Hid p := h
abbrev Tab (B : Nat) (w : World) : Prop := Lib.TabBelow Tryz.prog B w "internal/strconv.uint64pow10" .u64 Lib.pow10Tab
theorem Tab.mono {B B' : Nat} {w : World} (h : Tab B w) (hB : B ≤ B') : Tab B' w := fun w' hb => h w' (hb.mono hB)
/-- Block bt holds a writer whose text is l. -/
structure WrS (bt : Nat) (l : List UInt8) (w : World) : Prop where
  ex : ∃ ad cap, w.heap[bt]? = some (.cells #[.slice ad l.length cap] 56 (0, 0)) ∧ w.ownsRow (bt + 1) 5 1 (.slice ad l.length cap) l.length (Lib.byteCells l)
  tab : Tab bt w
/-- What a writer's calls leave as it was: all but its box, and rows of bytes above it. -/
structure WrK (bt : Nat) (w w' : World) : Prop where
  bel : Below bt w w'
  oth : Lib.OthersKept 5 (some bt) w w'
theorem WrK.refl (bt : Nat) (w : World) : WrK bt w w := ⟨.refl _ _, .refl _ _ _⟩
theorem WrK.trans {bt : Nat} {a b c : World} (h : WrK bt a b) (k : WrK bt b c) : WrK bt a c := ⟨h.bel.trans k.bel, h.oth.trans k.oth⟩
theorem WrK.drew {bt : Nat} {a b : World} (h : WrK bt a b) : WrK bt a b.drew := ⟨h.bel.drew, h.oth.drew⟩
theorem WrK.of_below {bt : Nat} {a b : World} (hl : bt ≤ a.heap.size) (h : Below a.heap.size a b) : WrK bt a b :=
  ⟨h.mono hl, fun k o hk _ _ => (h.block k (blk_lt hk)).trans hk⟩
theorem WrK.cell {bt : Nat} {w w' : World} (h : WrK bt w w') {b : Nat} {cs : Array Value} {t : TypeId} {fr : Nat × Nat} (hb : w.heap[b]? = some (.cells cs t fr)) (h1 : b ≠ bt) (h2 : t ≠ 5) : w'.heap[b]? = some (.cells cs t fr) :=
  h.oth b _ hb (by simpa using h1) (fun c fz he => by injection he with _ he; exact h2 he)
theorem WrS.later {bt : Nat} {l : List UInt8} {w w' : World} (h : WrS bt l w) (hb : Below w.heap.size w w') : WrS bt l w' := by
  obtain ⟨ad, cap, h1, h2⟩ := h.ex
  refine ⟨⟨ad, cap, (hb.block _ (blk_lt h1)).trans h1, h2.1, ?_⟩, h.tab.on (hb.mono (Nat.le_of_lt (blk_lt h1)))⟩
  rcases h2.2 with h0 | ⟨g, c, cur, e, hg, hh, r⟩
  · exact .inl h0
  · exact .inr ⟨g, c, cur, e, hg, (hb.block _ (blk_lt hh)).trans hh, r⟩
theorem WrS.lt {bt : Nat} {l : List UInt8} {w : World} (h : WrS bt l w) : bt < w.heap.size := by obtain ⟨_, _, h1, -⟩ := h.ex; exact blk_lt h1
theorem owns_slice {w : World} {B : Nat} {v : Value} {n : Nat} {xs : List Value} (h : w.ownsRow B 5 1 v n xs) : ∃ ad cap, v = .slice ad n cap := by
  rcases h.2 with ⟨rfl, rfl⟩ | ⟨g, cap, cur, rfl, -⟩
  · exact ⟨_, _, rfl⟩
  · exact ⟨_, _, rfl⟩
theorem oth_none {e : TypeId} {b : Option Nat} {w w' : World} (h : Lib.OthersKept e none w w') : Lib.OthersKept e b w w' := fun k o hk _ ho => h k o hk (by simp) ho
theorem own_ne {w : World} {B : Nat} {v : Value} {n : Nat} {xs : List Value} (h : w.ownsRow (B + 1) 5 1 v n xs) : some B ≠ v.ownBlock := fun e => by
  have := (h.lt B e.symm).1
  omega
theorem info5 : (Tryz.prog.info? 5).map (fun i => (i.zero, i.size, i.bytes)) = some (some (.int .u8 0), 1, 1) := by kernel_rfl
/-- The text's row is another one: the box is turned to it. -/
theorem wr_turn {bt : Nat} {l l' : List UInt8} {w w1 w2 : World} {sv v2 : Value} {row : Option Nat} (h : WrS bt l w) (k : WrK bt w w1) (hbox : w1.heap[bt]? = some (.cells #[sv] 56 (0, 0)))
    (hg : w1.grownBy w2 row) (hne : some bt ≠ row) (hrow : ∀ g, row = some g → bt + 1 ≤ g ∧ ∃ c fz, w1.heap[g]? = some (.cells c 5 fz)) (hown : w2.ownsRow (bt + 1) 5 1 v2 l'.length (Lib.byteCells l')) :
    w2.heap[bt]? = some (.cells #[sv] 56 (0, 0)) ∧ WrS bt l' (w2.setCell ⟨bt, 0, none⟩ v2) ∧ WrK bt w (w2.setCell ⟨bt, 0, none⟩ v2) := by
  have hb1 := blk_lt hbox
  have e : w2.heap[bt]? = some (.cells #[sv] 56 (0, 0)) := (hg.block bt hb1 hne).trans hbox
  have bel : Below bt w w2 := k.bel.grown hg (by omega) (fun j hj => by have := (hrow j hj).1; omega)
  have oth : Lib.OthersKept 5 (some bt) w w2 := k.oth.grown hg (fun g hg => (hrow g hg).2)
  have K : WrK bt w (w2.setCell ⟨bt, 0, none⟩ v2) := ⟨bel.setCell (Nat.le_refl _) _, oth.setCell _ rfl _⟩
  obtain ⟨ad, cap, rfl⟩ := owns_slice hown
  refine ⟨e, ⟨⟨ad, cap, by rw [setCell_same e]; rfl, ownsRow_setCell_below hown (by simp) _⟩, h.tab.on K.bel⟩, K⟩
set_option maxHeartbeats 4000000 in
theorem wnumber_any {bt : Nat} {l : List UInt8} {w : World} (n : Int) (h : WrS bt l w) (hn : I64 n) (hlim : l.length + 64 ≤ 140737488355328) :
    Calls Tryz.prog 39 #[.pointer (some ⟨bt, 0, none⟩), .int .i64 n] w fun e w' => e = .returned (.tuple #[]) ∧ WrS bt (l ++ numW n) w' ∧ WrK bt w w' := by
  obtain ⟨ad, cap, hbox, hown⟩ := id h.ex
  have hlt := h.lt
  have c0 : w.cell? ⟨bt, 0, none⟩ = some (.slice ad l.length cap) := by rw [cell_of_row _ _ _ _ _ _ hbox]; rfl
  have cf := row_free hbox
  have hT : Tab (bt + 1) w := h.tab.mono (by omega)
  obtain ⟨i0, hi, hz0, hz1, hz2⟩ := info_parts info5
  have HL := hid (Lib.itoa_length_le n hn.1 hn.2)
  have HH := hid h
  clear h
  have hc := strconv_AppendInt_10 (bt + 1) l.length n hn.1 hn.2 _ _ w hown hlt (by omega) hT
  go_enter Tryz.func39, Tryz.ntmps39
  go_wp2_with (go_at_call 54; refine hc.mono ?_; rintro e w1 ⟨v1, rfl, hown1, hb1, ho1⟩; refine Hid.out ?_)
  refine Lib.hid ?_
  have hb0 : w1.heap[bt]? = some (.cells #[.slice ad l.length cap] 56 (0, 0)) := (hb1.block bt (by omega)).trans hbox
  have e1 : Lib.byteCells l ++ Lib.byteCells (Lib.itoa n) = Lib.byteCells (l ++ Lib.itoa n) := by simp [Lib.byteCells]
  have HN := HL.out
  obtain ⟨m, Hm⟩ : ∃ m, m = Lib.itoa n := ⟨_, rfl⟩
  have HM := hid Hm
  rw [← Hm] at hown1 e1 HN
  clear Hm HL hc c0 cf
  rw [e1, ← List.length_append] at hown1
  clear e1
  obtain ⟨q, Hq⟩ : ∃ q, q = l ++ m := ⟨_, rfl⟩
  rw [← Hq] at hown1
  have HQ := hid Hq
  have hql : q.length ≤ l.length + 21 := by rw [Hq, List.length_append]; omega
  clear Hq HN
  obtain ⟨a1, cp1, rfl⟩ := owns_slice hown1
  have hK1 : WrK bt w w1 := ⟨hb1.mono (by omega), oth_none ho1⟩
  obtain ⟨f0, S1, K1⟩ := wr_turn (l' := q) (v2 := .slice a1 q.length cp1) HH.out hK1 hb0 ⟨rfl, rfl, rfl, Nat.le_refl _, fun _ _ _ => rfl⟩ (row := none) (by simp) (fun g hg => by cases hg) hown1
  have c0 : w1.cell? ⟨bt, 0, none⟩ = some (.slice ad l.length cap) := by rw [cell_of_row _ _ _ _ _ _ hb0]; rfl
  have cf := row_free hb0
  have hb2 : (w1.setCell ⟨bt, 0, none⟩ (.slice a1 q.length cp1)).heap[bt]? = some (.cells #[.slice a1 q.length cp1] 56 (0, 0)) := by rw [setCell_same hb0]; rfl
  have hown2 := ownsRow_setCell_below hown1 (a := ⟨bt, 0, none⟩) (by simp) (.slice a1 q.length cp1)
  have HK1 := hid hK1
  clear hown1 hb1 ho1 hK1 hbox hown hT
  go_upto_region 1 with (fail)
  clear c0 cf
  have hs2 : bt < (w1.setCell ⟨bt, 0, none⟩ (.slice a1 q.length cp1)).heap.size := blk_lt hb2
  generalize (w1.setCell ⟨bt, 0, none⟩ (.slice a1 q.length cp1)) = W2 at *
  have c0 : W2.cell? ⟨bt, 0, none⟩ = some (.slice a1 q.length cp1) := by rw [cell_of_row _ _ _ _ _ _ hb2]; rfl
  go_wp2_with (at_builtin; refine wpList_append_own _ rfl _ _ 26 rfl (bt + 1) 5 i0 (.int .u8 0) 1 1 Tryz.underlying26 hi hz0 hz1 hz2 rfl (by decide) _ _ _ rfl (hown2.alloc _) ⟨W2.heap.size, 0, none⟩ 1 1 [Value.int .u8 32] rfl rfl (by intro j u' hj; match j, hj with | 0, hj => simp at hj; subst hj; simp [Addr.add]) (by intro u' hu'; simp at hu'; subst hu'; rfl) (by unfold maxLen; omega) (by omega) (by simp; omega) ?_; intro v3 w3 hown3 hg3 _; refine Hid.out ?_)
  refine Lib.hid ?_
  have hl3 : (q ++ [32]).length = q.length + 1 := by simp
  have e3 : Lib.byteCells q ++ [Value.int .u8 32] = Lib.byteCells (q ++ [32]) := by simp [Lib.byteCells]
  rw [e3, ← hl3] at hown3
  have hb2a : (W2.alloc (.cells #[.int .u8 32] 5)).heap[bt]? = some (.cells #[.slice a1 q.length cp1] 56 (0, 0)) := (Below.heap_alloc _ _ _ hs2).trans hb2
  obtain ⟨f3, S3, K3⟩ := wr_turn S1 (WrK.of_below (Nat.le_of_lt hs2) (bel1 W2 (.cells #[.int .u8 32] 5))) hb2a hg3 (own_ne hown2) (fun g hg => ⟨(hown2.lt g hg).1, Lib.ownsRow_kind (hown2.alloc _) g hg⟩) hown3
  obtain ⟨a3, cp3, rfl⟩ := owns_slice hown3
  have d0 : w3.cell? ⟨bt, 0, none⟩ = some (.slice a1 q.length cp1) := by rw [cell_of_row _ _ _ _ _ _ f3]; rfl
  have df := row_free f3
  rw [hl3] at S3 K3
  have HS3 := hid S3
  have HK3 := hid K3
  clear c0 hown2 hown3 e3 hl3 hg3 hb2a S3 K3
  go_wp2
  refine bodyPost_end (v := .tuple #[]) (by simp [results, Tryz.results39, go_sem]) rfl ⟨rfl, ?_, K1.trans HK3.out⟩
  have S3 := HS3.out
  have e := HQ.out
  have e2 := HM.out
  subst e2
  subst e
  unfold numW
  rw [← List.append_assoc]
  exact S3
set_option maxHeartbeats 4000000 in
theorem wword_any {bt : Nat} {l : List UInt8} {w : World} (s : ByteArray) (h : WrS bt l w) (hlim : l.length + s.size + 64 ≤ 140737488355328) :
    Calls Tryz.prog 55 #[.pointer (some ⟨bt, 0, none⟩), .string s] w fun e w' => e = .returned (.tuple #[]) ∧ WrS bt (l ++ wordW s) w' ∧ WrK bt w w' := by
  obtain ⟨ad, cap, hbox, hown⟩ := id h.ex
  have hlt := h.lt
  have c0 : w.cell? ⟨bt, 0, none⟩ = some (.slice ad l.length cap) := by rw [cell_of_row _ _ _ _ _ _ hbox]; rfl
  have cf := row_free hbox
  obtain ⟨i0, hi, hz0, hz1, hz2⟩ := info_parts info5
  have HH := hid h
  clear h
  go_enter Tryz.func55, Tryz.ntmps55
  go_wp2_with (at_builtin; refine Lib.wpList_append_own_string _ rfl _ _ 26 9 rfl (bt + 1) 5 i0 Tryz.underlying26 Tryz.underlying9 hi hz0 hz1 hz2 _ _ _ rfl hown s rfl (by unfold maxLen; omega) (by omega) hlt ?_; intro v1 w1 hown1 hg1 _; refine Hid.out ?_)
  refine Lib.hid ?_
  have hb0 : w1.heap[bt]? = some (.cells #[.slice ad l.length cap] 56 (0, 0)) := (hg1.block bt (by omega) (own_ne hown)).trans hbox
  have e1 : Lib.byteCells l ++ Lib.strCells s = Lib.byteCells (l ++ s.data.toList) := by simp [Lib.byteCells, Lib.strCells]
  have e2 : l.length + s.size = (l ++ s.data.toList).length := by rw [List.length_append]; rfl
  rw [e1, e2] at hown1
  clear e1
  obtain ⟨q, Hq⟩ : ∃ q, q = l ++ s.data.toList := ⟨_, rfl⟩
  rw [← Hq] at hown1 e2
  have HQ := hid Hq
  have hql : q.length ≤ l.length + s.size := by omega
  clear Hq e2
  obtain ⟨f0, S1, K1⟩ := wr_turn (l' := q) HH.out (.refl _ _) hbox hg1 (own_ne hown) (fun g hg => ⟨(hown.lt g hg).1, Lib.ownsRow_kind hown g hg⟩) hown1
  obtain ⟨a1, cp1, rfl⟩ := owns_slice hown1
  have hb2 : (w1.setCell ⟨bt, 0, none⟩ (.slice a1 q.length cp1)).heap[bt]? = some (.cells #[.slice a1 q.length cp1] 56 (0, 0)) := by rw [setCell_same hb0]; rfl
  have hown2 := ownsRow_setCell_below hown1 (a := ⟨bt, 0, none⟩) (by simp) (.slice a1 q.length cp1)
  clear c0 cf
  have c0 : w1.cell? ⟨bt, 0, none⟩ = some (.slice ad l.length cap) := by rw [cell_of_row _ _ _ _ _ _ hb0]; rfl
  have cf := row_free hb0
  clear hown1 hg1 hbox hown
  go_upto_region 1 with (fail)
  clear c0 cf
  have hs2 : bt < (w1.setCell ⟨bt, 0, none⟩ (.slice a1 q.length cp1)).heap.size := blk_lt hb2
  generalize (w1.setCell ⟨bt, 0, none⟩ (.slice a1 q.length cp1)) = W2 at *
  have c0 : W2.cell? ⟨bt, 0, none⟩ = some (.slice a1 q.length cp1) := by rw [cell_of_row _ _ _ _ _ _ hb2]; rfl
  go_wp2_with (at_builtin; refine wpList_append_own _ rfl _ _ 26 rfl (bt + 1) 5 i0 (.int .u8 0) 1 1 Tryz.underlying26 hi hz0 hz1 hz2 rfl (by decide) _ _ _ rfl (hown2.alloc _) ⟨W2.heap.size, 0, none⟩ 1 1 [Value.int .u8 32] rfl rfl (by intro j u' hj; match j, hj with | 0, hj => simp at hj; subst hj; simp [Addr.add]) (by intro u' hu'; simp at hu'; subst hu'; rfl) (by unfold maxLen; omega) (by omega) (by simp; omega) ?_; intro v3 w3 hown3 hg3 _; refine Hid.out ?_)
  refine Lib.hid ?_
  have hl3 : (q ++ [32]).length = q.length + 1 := by simp
  have e3 : Lib.byteCells q ++ [Value.int .u8 32] = Lib.byteCells (q ++ [32]) := by simp [Lib.byteCells]
  rw [e3, ← hl3] at hown3
  have hb2a : (W2.alloc (.cells #[.int .u8 32] 5)).heap[bt]? = some (.cells #[.slice a1 q.length cp1] 56 (0, 0)) := (Below.heap_alloc _ _ _ hs2).trans hb2
  obtain ⟨f3, S3, K3⟩ := wr_turn S1 (WrK.of_below (Nat.le_of_lt hs2) (bel1 W2 (.cells #[.int .u8 32] 5))) hb2a hg3 (own_ne hown2) (fun g hg => ⟨(hown2.lt g hg).1, Lib.ownsRow_kind (hown2.alloc _) g hg⟩) hown3
  obtain ⟨a3, cp3, rfl⟩ := owns_slice hown3
  have d0 : w3.cell? ⟨bt, 0, none⟩ = some (.slice a1 q.length cp1) := by rw [cell_of_row _ _ _ _ _ _ f3]; rfl
  have df := row_free f3
  rw [hl3] at S3 K3
  have HS3 := hid S3
  have HK3 := hid K3
  clear c0 hown2 hown3 e3 hl3 hg3 hb2a S3 K3
  go_wp2
  refine bodyPost_end (v := .tuple #[]) (by simp [results, Tryz.results55, go_sem]) rfl ⟨rfl, ?_, K1.trans HK3.out⟩
  have S3 := HS3.out
  have e := HQ.out
  subst e
  unfold wordW
  rw [← List.append_assoc]
  exact S3
end Go.Proofs.YtjmidhghiahbaaaGreatDoor
