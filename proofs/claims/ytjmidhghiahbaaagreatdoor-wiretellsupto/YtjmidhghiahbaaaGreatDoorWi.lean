/- Package wire: what a reader takes: values, instructions, methods, classes, objects; lists of them. -/
import Derived.Test.YtjmidhghiahbaaaGreatDoorWh
namespace Go.Proofs.YtjmidhghiahbaaaGreatDoor
open Go.ChangeShapes Go.WideShapes Go.ChangeAt Go.RowKit
set_option linter.unusedSimpArgs false
set_option linter.unusedVariables false
set_option maxRecDepth 8000

/-- What an element's reading holds: the result's box, the local one's, the reader. -/
structure ElS (w : World) (br : Nat) (t : TypeId) (zs cs : Array Value) (st : Option (List UInt8)) (w' : World) : Prop where
  res : w'.heap[w.heap.size]? = some (.cells zs t (0, 0))
  box : w'.heap[w.heap.size + 1]? = some (.cells cs t (0, 0))
  S : RdS br w' st
  K : RdK br w w'
  lt : br < w.heap.size
section
variable {w : World} {br : Nat} {t : TypeId} {zs cs : Array Value} {st st2 : Option (List UInt8)} {w' w2 : World}
theorem els_start (h : RdS br w st) (zs : Array Value) (t : TypeId) : ElS w br t zs zs st ((w.alloc (.cells zs t)).alloc (.cells zs t)) := by
  refine ⟨?_, ?_, h.later (bel2 _ _ _), .of_below (Nat.le_of_lt h.lt) (bel2 _ _ _), h.lt⟩
  · rw [Below.heap_alloc _ _ _ (by simp)]; exact heap_alloc_new w _
  · have := heap_alloc_new (w.alloc (.cells zs t)) (.cells zs t)
    simpa using this
theorem ElS.call (h : ElS w br t zs cs st w') (hs : RdS br w2 st2) (hk : RdK br w' w2) : ElS w br t zs cs st2 w2 :=
  ⟨(hk.oth _ (blk_lt h.res) (by have := h.lt; omega)).trans h.res, (hk.oth _ (blk_lt h.box) (by have := h.lt; omega)).trans h.box, hs, h.K.trans hk, h.lt⟩
theorem ElS.set (h : ElS w br t zs cs st w') (k : Nat) (v : Value) : ElS w br t zs (cs.setIfInBounds k v) st (w'.setCell ⟨w.heap.size + 1, k, none⟩ v) :=
  ⟨(setCell_else (by omega) v).trans h.res, setCell_same h.box v, h.S.setHi (by have := h.lt; omega) _ _, h.K.setHi (by omega) (by have := h.lt; omega) _ _, h.lt⟩
theorem ElS.c (h : ElS w br t zs cs st w') (k : Nat) : w'.cell? ⟨w.heap.size + 1, k, none⟩ = cs[k]? := cell_of_row _ _ _ _ _ _ h.box
theorem ElS.z (h : ElS w br t zs cs st w') (k : Nat) : w'.cell? ⟨w.heap.size, k, none⟩ = zs[k]? := cell_of_row _ _ _ _ _ _ h.res
theorem ElS.fin (h : ElS w br t zs cs st w') (vs : List Value) : RdS br (w'.setCells w.heap.size 0 vs) st ∧ RdK br w (w'.setCells w.heap.size 0 vs) := by
  have hl := h.lt
  have hS := h.S
  have hK := h.K
  clear h
  generalize 0 = o
  induction vs generalizing o w' with
  | nil => exact ⟨hS, hK⟩
  | cons v r ih => exact ih (hS.setHi hl _ _) (hK.setHi (Nat.le_refl _) (Nat.le_of_lt hl) _ _) (o + 1)
end
abbrev VW (x : QV) : Value := .agg #[.int .i64 x.k, .int .i64 x.n]
theorem rdr_val {st s1 s2 : Option (List UInt8)} {a b : Int} (h1 : RdR takeNum st a s1) (h2 : RdR takeNum s1 b s2) : RdR takeVal st ⟨a, b⟩ s2 := by
  rcases h1.cases with ⟨l, r, rfl, hf, rfl⟩ | ⟨rfl, hf⟩
  · rcases h2.cases with ⟨l2, r2, e, hf2, rfl⟩ | ⟨rfl, hf2⟩
    · cases e
      exact RdR.some (by unfold takeVal; rw [hf]; simp only [Option.bind_some]; rw [hf2]; rfl)
    · exact RdR.bad _ (by unfold takeVal; rw [hf]; simp only [Option.bind_some]; rw [hf2 _ rfl]; rfl)
  · obtain rfl : s2 = none := h2
    cases st with
    | none => exact RdR.none _
    | some l => exact RdR.bad _ (by unfold takeVal; rw [hf l rfl]; rfl)
set_option maxHeartbeats 1000000 in
theorem rvalue_any {br : Nat} {w : World} {st : Option (List UInt8)} (h : RdS br w st) : Calls Tryz.prog 64 #[.pointer (some ⟨br, 0, none⟩)] w fun e w' => ∃ (x : QV) (st' : Option (List UInt8)), e = .returned (VW x) ∧ RdR takeVal st x st' ∧ RdS br w' st' ∧ RdK br w w' := by
  have hE := els_start h #[.int .i64 0, .int .i64 0] 51
  clear h
  go_enter Tryz.func64, Tryz.ntmps64
  go_upto_region 2 with (fail)
  generalize ((w.alloc (.cells #[.int .i64 0, .int .i64 0] 51)).alloc (.cells #[.int .i64 0, .int .i64 0] 51)) = W0 at *
  go_wp2_with (go_at_call 43; refine (rnumber_any hE.S).mono ?_; rintro e w1 ⟨n1, s1, rfl, hR1, hn1, hS1, hK1⟩; refine Hid.out ?_)
  refine Lib.hid ?_
  replace hE := hE.call hS1 hK1
  have c0 : w1.cell? ⟨w.heap.size + 1, 0, none⟩ = some (.int .i64 0) := hE.c 0
  have cf := row_free hE.box
  replace hE := hE.set 0 (.int .i64 n1)
  clear hS1 hK1
  go_upto_region 3 with (fail)
  clear c0 cf
  generalize (w1.setCell ⟨w.heap.size + 1, 0, none⟩ (.int .i64 n1)) = W1 at *
  go_wp2_with (go_at_call 43; refine (rnumber_any hE.S).mono ?_; rintro e w2 ⟨n2, s2, rfl, hR2, hn2, hS1, hK1⟩; refine Hid.out ?_)
  refine Lib.hid ?_
  replace hE := hE.call hS1 hK1
  have c0 : w2.cell? ⟨w.heap.size + 1, 1, none⟩ = some (.int .i64 0) := hE.c 1
  have cf := row_free hE.box
  replace hE := hE.set 1 (.int .i64 n2)
  clear hS1 hK1
  go_upto_region 4 with (fail)
  clear c0 cf
  generalize (w2.setCell ⟨w.heap.size + 1, 1, none⟩ (.int .i64 n2)) = W2 at *
  have d0 : W2.cell? ⟨w.heap.size + 1, 0, none⟩ = some (.int .i64 n1) := hE.c 0
  have d1 : W2.cell? ⟨w.heap.size + 1, 1, none⟩ = some (.int .i64 n2) := hE.c 1
  have z0 : W2.cell? ⟨w.heap.size, 0, none⟩ = some (.int .i64 0) := hE.z 0
  have z1 : W2.cell? ⟨w.heap.size, 1, none⟩ = some (.int .i64 0) := hE.z 1
  have zf := row_free hE.res
  have hF := hid (hE.fin [.int .i64 n1, .int .i64 n2])
  go_wp2
  refine bodyPost_ret (v := VW ⟨n1, n2⟩) ?_ rfl ⟨⟨n1, n2⟩, s2, rfl, rdr_val hR1 hR2, hF.out.1, hF.out.2⟩
  simp [results, Tryz.results64, go_sem, z0, z1]

/-! ### Rows that are read, one element behind the other -/
/-- The row at block B, of n elements: the first ones are ys; what they reach lies in other blocks, from lo on. -/
def RowSt {α : Type} (E : Lay α) (sz : Nat) (t : TypeId) (lo : Nat) (w : World) (B n : Nat) (ys : List α) : Prop :=
  (∃ cur : Array Value, w.heap[B]? = some (.cells cur t (0, 0)) ∧ cur.size = n * sz) ∧ ∀ i x, ys[i]? = some x → E (fun b => lo ≤ b ∧ b ≠ B) w (fun k => w.cell? ⟨B, i * sz + k, none⟩) x
section
variable {α : Type} {E : Lay α} {sz : Nat} {t : TypeId} {lo br : Nat} {w w' : World} {B n : Nat} {ys : List α}
theorem RowSt.keep (h : RowSt E sz t lo w B n ys) (G : Good E sz) (hk : RdK br w w') (hl : br < lo) (hB : B ≠ br) : RowSt E sz t lo w' B n ys := by
  obtain ⟨⟨cur, h1, h2⟩, h3⟩ := h
  have e := (hk.oth B (blk_lt h1) hB).trans h1
  refine ⟨⟨cur, e, h2⟩, fun i x hx => ?_⟩
  refine G.move (h3 i x hx) (fun _ h => h) (Keeps.of_block fun b hb hl => hk.oth b hl (by omega)) fun k _ v hv => ?_
  rw [cell_of_row _ _ _ _ _ _ e]
  rw [cell_of_row _ _ _ _ _ _ h1] at hv
  exact hv
theorem RowSt.start (w : World) (lo : Nat) (c : Array Value) (hc : c.size = n * sz) : RowSt E sz t lo (w.alloc (.cells c t)) w.heap.size n ([] : List α) :=
  ⟨⟨c, heap_alloc_new w _, hc⟩, fun i x hx => by simp at hx⟩
theorem RowSt.step {x : α} {vs : List Value} (h : RowSt E sz t lo w B n ys) (G : Good E sz) (hn : ys.length < n) (hl : vs.length = sz) (hE : E (fun b => lo ≤ b ∧ b ≠ B) w (fun k => vs[k]?) x) : RowSt E sz t lo (w.setCells B (ys.length * sz) vs) B n (ys ++ [x]) := by
  obtain ⟨⟨cur, h1, h2⟩, h3⟩ := h
  have hK : Keeps (fun b => lo ≤ b ∧ b ≠ B) w (w.setCells B (ys.length * sz) vs) := Keeps.of_block fun b hb _ => setCells_else hb.2 _ _ _
  refine ⟨setCells_block vs _ w ⟨cur, h1, h2⟩, fun i y hy => ?_⟩
  have hin : ys.length * sz + sz ≤ n * sz := by
    have := Nat.mul_le_mul_right sz (show ys.length + 1 ≤ n by omega)
    rw [Nat.add_mul] at this; omega
  by_cases hij : i = ys.length
  · subst hij
    rw [List.getElem?_append_right (Nat.le_refl _)] at hy
    simp at hy
    subst hy
    refine G.move hE (fun _ h => h) hK fun k hk v hv => ?_
    have := World.cell?_setCells_in B vs (ys.length * sz) w (fun q hq => by rw [cell_of_row _ _ _ _ _ _ h1]; simp; omega) k (by omega)
    rw [this]
    rw [List.getElem?_eq_getElem (by omega)] at hv
    exact hv
  · have hi : i < ys.length := by
      have := lt_of_get hy
      simp at this
      omega
    rw [List.getElem?_append_left hi] at hy
    refine G.move (h3 i y hy) (fun _ h => h) hK fun k hk v hv => ?_
    rw [World.cell?_setCells_out B vs (ys.length * sz) w _ (fun _ _ => Or.inl ?_)]
    · exact hv
    · have := Nat.mul_le_mul_right sz (show i + 1 ≤ ys.length by omega)
      rw [Nat.add_mul] at this
      simp
      omega
theorem RowSt.row {bytes : Nat} (h : RowSt E sz t lo w B n ys) (G : Good E sz) (hn : ys.length = n) (hlo : lo ≤ B) (hb : n * bytes ≤ 140737488351232) (hp : 0 < bytes) : IsRow E sz bytes (fun b => lo ≤ b) w (.slice (some ⟨B, 0, none⟩) ys.length ys.length) ys := by
  obtain ⟨⟨cur, h1, h2⟩, h3⟩ := h
  subst hn
  have hn : ys.length ≤ ys.length * bytes := Nat.le_mul_of_pos_right _ hp
  refine ⟨_, _, rfl, Nat.le_refl _, by unfold maxLen; omega, hb, fun i x hx => ⟨B, 0, rfl, hlo, ?_⟩⟩
  exact G.move (h3 i x hx) (fun b h => h.1) (.refl _ _) fun k _ v hv => by rw [Nat.zero_add]; exact hv
theorem RdS.setsHi {st : Option (List UInt8)} {d : Nat} (hd : br < d) : ∀ (vs : List Value) (o : Nat) (w : World), RdS br w st → RdS br (w.setCells d o vs) st
  | [], _, _, h => h
  | v :: r, o, w, h => RdS.setsHi hd r (o + 1) _ (h.setHi hd _ _)
theorem RdK.setsHi {w : World} {d : Nat} (hd : w.heap.size ≤ d) (hb : br ≤ d) : ∀ (vs : List Value) (o : Nat) (w' : World), RdK br w w' → RdK br w (w'.setCells d o vs)
  | [], _, _, h => h
  | v :: r, o, w', h => RdK.setsHi hd hb r (o + 1) _ (h.setHi hd hb _ _)
end
theorem takeMany_snoc {α : Type} (f : List UInt8 → Option (α × List UInt8)) : ∀ (n : Nat) (l : List UInt8), takeMany f (n + 1) l = (takeMany f n l).bind fun p => (f p.2).bind fun q => some (p.1 ++ [q.1], q.2)
  | 0, l => by simp [takeMany]
  | n + 1, l => by
    rw [takeMany]
    cases hf : f l with
    | none => simp [takeMany, hf]
    | some p =>
      simp only [Option.bind_some]
      rw [takeMany_snoc f n p.2]
      conv => rhs; rw [takeMany, hf]
      simp only [Option.bind_some]
      cases hg : takeMany f n p.2 with
      | none => simp
      | some q =>
        simp only [Option.bind_some]
        cases f q.2 <;> simp
theorem rdr_snoc {α : Type} {f : List UInt8 → Option (α × List UInt8)} {n : Nat} {st s1 s2 : Option (List UInt8)} {ys : List α} {x : α} (h1 : RdR (takeMany f n) st ys s1) (h2 : RdR f s1 x s2) : RdR (takeMany f (n + 1)) st (ys ++ [x]) s2 := by
  rcases h1.cases with ⟨l, r, rfl, hf, rfl⟩ | ⟨rfl, hf⟩
  · rcases h2.cases with ⟨l2, r2, e, hf2, rfl⟩ | ⟨rfl, hf2⟩
    · cases e
      exact RdR.some (by rw [takeMany_snoc, hf]; simp only [Option.bind_some]; rw [hf2]; rfl)
    · exact RdR.bad _ (by rw [takeMany_snoc, hf]; simp only [Option.bind_some]; rw [hf2 _ rfl]; rfl)
  · obtain rfl : s2 = none := h2
    cases st with
    | none => exact RdR.none _
    | some l => exact RdR.bad _ (by rw [takeMany_snoc, hf l rfl]; rfl)
theorem rdr_list {α : Type} {f : List UInt8 → Option (α × List UInt8)} {most n : Nat} {st s1 s2 : Option (List UInt8)} {ys : List α} (h1 : RdR (takeCount most) st n s1) (h2 : RdR (takeMany f n) s1 ys s2) : RdR (takeList f most) st ys s2 := by
  rcases h1.cases with ⟨l, r, rfl, hf, rfl⟩ | ⟨rfl, hf⟩
  · rcases h2.cases with ⟨l2, r2, e, hf2, rfl⟩ | ⟨rfl, hf2⟩
    · cases e
      exact RdR.some (by unfold takeList; rw [hf]; simp only [Option.bind_some]; exact hf2)
    · exact RdR.bad _ (by unfold takeList; rw [hf]; simp only [Option.bind_some]; exact hf2 _ rfl)
  · obtain rfl : s2 = none := h2
    cases st with
    | none => exact RdR.none _
    | some l => exact RdR.bad _ (by unfold takeList; rw [hf l rfl]; rfl)
theorem rdr_many0 {α : Type} {f : List UInt8 → Option (α × List UInt8)} (st : Option (List UInt8)) : RdR (takeMany f 0) st [] st := by
  cases st with
  | none => rfl
  | some l => exact RdR.some rfl
set_option maxHeartbeats 1000000 in
theorem rvals_any {br : Nat} {w : World} {st : Option (List UInt8)} (most : Nat) (hm : most ≤ 1000) (h : RdS br w st) : Calls Tryz.prog 63 #[.pointer (some ⟨br, 0, none⟩), .int .i64 (most : Int), .func (.func 64) #[.pointer (some ⟨br, 0, none⟩)] #[]] w fun e w' => ∃ (xs : List QV) (g : Nat) (st' : Option (List UInt8)), e = .returned (.slice (some ⟨g, 0, none⟩) xs.length xs.length) ∧ IsRow ValC 2 16 (fun b => w.heap.size ≤ b) w' (.slice (some ⟨g, 0, none⟩) xs.length xs.length) xs ∧ RdR (takeList takeVal most) st xs st' ∧ RdS br w' st' ∧ RdK br w w' := by
  have hlt := h.lt
  go_enter Tryz.func63, Tryz.ntmps63
  go_wp2_with (go_at_call 60; refine (rcount_any most hm h).mono ?_; rintro e w1 ⟨n, st1, rfl, hR1, hn, hS1, hK1⟩; refine Hid.out ?_)
  refine Lib.hid ?_
  have hmk := make_vals n (by omega)
  have hz1 := hK1.bel.size
  have hR0 : RowSt ValC 2 51 w.heap.size (w1.alloc (.cells (madeCells #[.int .i64 0, .int .i64 0] (n * 2)) 51)) w1.heap.size n [] := RowSt.start _ _ _ (size_madeCells _ _)
  have hS0 := hS1.later (bel1 w1 (.cells (madeCells #[.int .i64 0, .int .i64 0] (n * 2)) 51))
  have hK0 := hK1.trans (.of_below (Nat.le_of_lt hS1.lt) (bel1 w1 (.cells (madeCells #[.int .i64 0, .int .i64 0] (n * 2)) 51)))
  clear hS1 hK1
  go_wp2_with (fail)
  generalize (w1.alloc (.cells (madeCells #[.int .i64 0, .int .i64 0] (n * 2)) 51)) = W1 at *
  generalize w1.heap.size = B at *
  go_loopg [15] n (fun g c wr => ∃ (ys : List QV) (stj : Option (List UInt8)), ys.length + g = n ∧ c = .int .i64 (ys.length : Int) ∧ RowSt ValC 2 51 w.heap.size wr B n ys ∧ RdR (takeMany takeVal ys.length) st1 ys stj ∧ RdS br wr stj ∧ RdK br w wr)
  case atStart => exact ⟨[], st1, by simp, rfl, hR0, rdr_many0 _, hS0, hK0⟩
  case round =>
    clear hR0 hS0 hK0 hmk
    obtain ⟨ys, stj, hg, rfl, hR, hRR, hS, hK⟩ := hrel
    by_cases hj : ys.length < n
    · have hj1 : (ys.length : Int) < (n : Int) := by omega
      have hj0 : (0 : Int) ≤ (ys.length : Int) := by omega
      have hBw : B < wr.heap.size := by obtain ⟨⟨c, hc, -⟩, -⟩ := id hR; exact blk_lt hc
      go_wp2_with (go_at_call 64; refine (rvalue_any hS).mono ?_; rintro e w2 ⟨x, st2, rfl, hR3, hS2, hK2⟩; refine Hid.out ?_)
      refine Lib.hid ?_
      have hR2 := hR.keep goodV hK2 hlt (by omega)
      have hlw := hK.bel.size
      obtain ⟨⟨cur, k1, k2⟩, k3⟩ := id hR2
      have f1 : ∀ o, w2.frozen? ⟨B, o, none⟩ = false := row_free k1
      have hin : ys.length * 2 + 2 ≤ n * 2 := by omega
      obtain ⟨q0, e0⟩ : ∃ q, w2.cell? ⟨B, ys.length * 2, none⟩ = some q := ⟨_, by rw [cell_of_row _ _ _ _ _ _ k1]; exact Array.getElem?_eq_getElem (by omega)⟩
      obtain ⟨q1, e1⟩ : ∃ q, w2.cell? ⟨B, ys.length * 2 + 1, none⟩ = some q := ⟨_, by rw [cell_of_row _ _ _ _ _ _ k1]; exact Array.getElem?_eq_getElem (by omega)⟩
      have HS := hid (RdS.setsHi (show br < B by omega) [.int .i64 x.k, .int .i64 x.n] (ys.length * 2) _ hS2)
      have HK := hid (RdK.setsHi (show w.heap.size ≤ B by omega) (show br ≤ B by omega) [.int .i64 x.k, .int .i64 x.n] (ys.length * 2) _ (hK.trans hK2))
      have HR := hid (hR2.step goodV hj (vs := [.int .i64 x.k, .int .i64 x.n]) rfl ⟨rfl, rfl⟩)
      have HQ := hid (rdr_snoc hRR hR3)
      have HG := hid hg
      clear hR2 hS2 hK2 hRR hR3 hS hK k3 hR hg
      go_wp2
      go_roundg (gk - 1)
      case measure => have := HG.out; omega
      case rel => exact ⟨ys ++ [x], st2, by have := HG.out; simp; omega, by simp; try go_num, HR.out, by rw [List.length_append]; exact HQ.out, HS.out, HK.out⟩
    · obtain rfl : n = ys.length := by omega
      go_wp2
      go_ret
      exact ⟨ys, B, stj, rfl, hR.row goodV rfl (by omega) (by omega) (by omega), rdr_list hR1 hRR, hS, hK⟩
end Go.Proofs.YtjmidhghiahbaaaGreatDoor
