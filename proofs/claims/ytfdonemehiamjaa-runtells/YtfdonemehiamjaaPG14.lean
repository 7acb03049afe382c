/- A new object in the reference's run; a row that is copied; a send's sites. -/
import Derived.Test.YtfdonemehiamjaaPG10
import Derived.Test.YtfdonemehiamjaaPG7
namespace Go.Proofs.Ytfdonemehiamjaa
open Go.ChangeShapes Go.WideShapes Go.ChangeAt Go.RowKit
set_option linter.unusedSimpArgs false
set_option linter.unusedVariables false
set_option maxRecDepth 8000

theorem run_append_src {w : World} (T ty e : TypeId) (z : Value) (sz bytes : Nat) (hT : Try.prog.underlying T = some (.slice e)) (hI : (Try.prog.info? e).map (fun i => (i.zero, i.size, i.bytes)) = some (some z, sz, bytes)) (hzs : z.cells.size = sz) (hsz : 0 < sz) (hbz : 0 < bytes)
    (B : Nat) (hB : w.heap[B]? = some (.cells #[] e (0, 0))) (ad : Option Addr) (n cap : Nat) (cs : List Value) (hlen : cs.length = n * sz) (hsrc : ∀ j u, cs[j]? = some u → ∃ b, ad = some b ∧ w.cell? (b.add j) = some u) (hn : n * bytes ≤ 140737488351232) :
    ∃ g cap' w', (Builtin.append_ #[T, T] ty #[.slice (some ⟨B, 0, none⟩) 0 0, .slice ad n cap]).run Try.prog w = .ok (.slice (some ⟨g, 0, none⟩) n cap') w' ∧ w'.ownsRow B e sz (.slice (some ⟨g, 0, none⟩) n cap') n cs ∧ (g = B ∨ w.heap.size ≤ g) ∧ g < w'.heap.size ∧ Below w.heap.size w w' := by
  obtain ⟨i0, hi, hz0, hz1, hz2⟩ := info_parts hI
  have hBl := blk_lt hB
  by_cases h0 : n = 0
  · subst h0
    have hcs : cs = [] := List.eq_nil_of_length_eq_zero (by simpa using hlen)
    refine ⟨B, 0, w, run_append_none (P := Try.prog) w T ty e i0 hT hi B ad cap, ?_, Or.inl rfl, hBl, Below.refl _ _⟩
    rw [hcs]
    exact ⟨by simp, .inr ⟨B, 0, #[], rfl, Nat.le_refl _, hB, Nat.le_refl _, by unfold maxLen; omega, by simp, by simp⟩⟩
  · obtain ⟨b, rfl⟩ : ∃ b, ad = some b := by
      have : 0 < cs.length := by rw [hlen]; exact Nat.mul_pos (by omega) hsz
      obtain ⟨b, e, -⟩ := hsrc 0 cs[0] (by simp [this])
      exact ⟨b, e⟩
    have hnb : n ≤ 140737488351232 := Nat.le_trans (Nat.le_mul_of_pos_right n hbz) hn
    obtain ⟨v', w', hrun, r1, r2⟩ := run_append_arg_grows (P := Try.prog) w T ty e i0 _ sz bytes hT hi hz0 hz1 hz2 hzs hsz ⟨B, 0, none⟩ 0 0 [] (by simp) (fun j u hu => by simp at hu) b n cap cs hlen (fun j u hu => by obtain ⟨b', e, h⟩ := hsrc j u hu; cases e; exact h) (by omega) (by unfold maxLen; omega) (by rw [Nat.zero_add]; omega)
    simp only [Nat.zero_add, List.nil_append] at r1
    obtain ⟨g, cap', rfl, hg, hgl⟩ := r1.form (by omega)
    refine ⟨g, cap', w', hrun, ?_, Or.inr hg, hgl, (Below.refl _ _).grown r2 (Nat.le_refl _) (fun k hk => by cases hk)⟩
    obtain ⟨q1, q2⟩ := r1
    refine ⟨q1, ?_⟩
    rcases q2 with q2 | ⟨g', c', cur, e, h1, h2⟩
    · exact .inl q2
    · exact .inr ⟨g', c', cur, e, by omega, h2⟩
/-- A row that is copied, as a step of a drawn region. -/
theorem step_append_src {ops : Array Oper} {o : Oper} {a : Act} {w : World} {K : Act → World → Prop} {Q : Exit → Act → World → Prop} {E : Prop} (hg : o.guard = none) (s x : Operand) (T e : TypeId) (z : Value) (sz bytes : Nat) (hop : o.op = Op.call { callee := Callee.builtin Builtin.append, args := #[s, x], argTypes := #[T, T] })
    (hT : Try.prog.underlying T = some (.slice e)) (hI : (Try.prog.info? e).map (fun i => (i.zero, i.size, i.bytes)) = some (some z, sz, bytes)) (hzs : z.cells.size = sz) (hsz : 0 < sz) (hbz : 0 < bytes)
    (B : Nat) (hs : a.eval s = .slice (some ⟨B, 0, none⟩) 0 0) (hB : w.heap[B]? = some (.cells #[] e (0, 0))) (ad : Option Addr) (n cap : Nat) (hx : a.eval x = .slice ad n cap) (cs : List Value) (hlen : cs.length = n * sz) (hsrc : ∀ j u, cs[j]? = some u → ∃ b, ad = some b ∧ w.cell? (b.add j) = some u) (hn : n * bytes ≤ 140737488351232)
    (hK : ∀ g cap' w', w'.ownsRow B e sz (.slice (some ⟨g, 0, none⟩) n cap') n cs → (g = B ∨ w.heap.size ≤ g) → g < w'.heap.size → Below w.heap.size w w' → K (a.put o.dst (.slice (some ⟨g, 0, none⟩) n cap')) w') : if Region.wanted o (yielded ops a.tmps) = true then Oper.wp Try.prog o a w K Q else E := by
  obtain ⟨g, cap', w', hrun, h1, h2, h3, h4⟩ := run_append_src (w := w) T o.type e z sz bytes hT hI hzs hsz hbz B hB ad n cap cs hlen hsrc hn
  exact step_append_run hg s x T hop _ _ _ hs hx hrun (hK g cap' w' h1 h2 h3 h4)
theorem own_rowAt {α : Type} {E : Lay α} {sz bytes : Nat} (G : Good E sz) {t : TypeId} {Q : Nat → Prop} {B n : Nat} {v : Value} {w : World} {cs : List Value} {xs : List α} (hown : ownsAt w B t sz v n cs) (hc : Cells E sz Q w cs xs) (hn : xs.length = n) (hQ : ∀ b, B ≤ b → b < w.heap.size → Q b) (hby : n * bytes ≤ 140737488351232) : IsRow E sz bytes Q w v xs := by
  obtain ⟨h0, ⟨rfl, h1⟩ | ⟨g, o, cap, cur, rfl, h3, h4, h5, h6, h7, h8⟩⟩ := hown
  · obtain rfl := List.eq_nil_of_length_eq_zero (hn.trans h1)
    exact row_none
  · subst hn
    refine ⟨_, _, rfl, h5, h6, hby, fun i x hx => ⟨g, o, rfl, hQ _ h3 (blk_lt h4), G.move (hc.2 i x hx) (fun _ h => h) (.refl _ _) fun k hk v hv => ?_⟩⟩
    rw [← h8, List.getElem?_take] at hv
    split at hv
    · rw [List.getElem?_drop] at hv
      rw [cell_of_row _ _ _ _ _ _ h4, Nat.add_assoc]
      simpa using hv
    · cases hv
theorem tk0 (k : Nat) : (List.replicate k nilV).length = k := List.length_replicate
section
variable {p : Rp} {T : Nat → Nat} {U w4 w5 : World} {mb : Nat} {m : Mc RSt} {deep err : Int} {hv sv ov : Value}
/-- One object more. -/
theorem new_fin {v0 v' : Value} {cs : List Value} {vb k : Nat} {c : Int} (h : RMac p T U mb m deep err hv sv ov) (hcs : Cells ObjC 2 (Fx T U) U cs m.heap) (hb4 : Below U.heap.size U w4) (hvb : U.heap.size ≤ vb) (hvw : w4.heap[vb]? = some (.cells (vcells (List.replicate k nilV)).toArray 27 (0, 0))) (hvg : some vb ≠ v0.ownBlock)
    (r1 : ownsAt w5 U.heap.size 59 2 v' (m.heap.length + 1) (cs ++ [.int .i64 c, .slice (some ⟨vb, 0, none⟩) k k])) (r3 : Below U.heap.size w4 w5) (r4 : ∀ b, b < w4.heap.size → some b ≠ v0.ownBlock → w5.heap[b]? = w4.heap[b]?) (hl : m.heap.length ≤ 1000) (hk : k ≤ 2147483647) :
    RMac p (tagged T U 0) (w5.setCell ⟨mb, 1, none⟩ v') mb { m with heap := m.heap ++ [⟨c, List.replicate k nilV⟩] } deep err v' sv ov ∧ Kp (fun t => t = 1) T U (w5.setCell ⟨mb, 1, none⟩ v') := by
  have hlm := blk_lt h.box
  have hb5 : Below U.heap.size U w5 := hb4.trans r3
  have k1 : Kp (fun t => t = 1) T U (w5.setCell ⟨mb, 1, none⟩ v') := (Kp.of_below hb5).set (fun _ => h.tag) _ _
  have hex := tagged_ext T U 0
  refine ⟨?_, k1⟩
  have hv5 : w5.heap[vb]? = some (.cells (vcells (List.replicate k nilV)).toArray 27 (0, 0)) := by rw [r4 vb (blk_lt hvw) hvg]; exact hvw
  have hbox : w5.heap[mb]? = some (RB p m deep err hv sv ov) := by rw [hb5.block _ hlm]; exact h.box
  have hb' := rb_set1 hbox (m.heap ++ [⟨c, List.replicate k nilV⟩]) v'
  have hv6 : (w5.setCell ⟨mb, 1, none⟩ v').heap[vb]? = some (.cells (vcells (List.replicate k nilV)).toArray 27 (0, 0)) := by rw [setCell_else (by omega)]; exact hv5
  have hr1 : ownsAt (w5.setCell ⟨mb, 1, none⟩ v') U.heap.size 59 2 v' (m.heap.length + 1) (cs ++ [.int .i64 c, .slice (some ⟨vb, 0, none⟩) k k]) := r1.keep fun g hg => setCell_else (by have := r1.lt g hg; omega) _
  generalize hU : w5.setCell ⟨mb, 1, none⟩ v' = V at *
  have hall : ∀ b, U.heap.size ≤ b → b < V.heap.size → Fx (tagged T U 0) V b := fun b h1 h2 => ⟨h2, tagged_new h1⟩
  have hsz : U.heap.size ≤ V.heap.size := k1.size
  have hc0 : Cells ObjC 2 (Fx (tagged T U 0) V) V cs m.heap := hcs.keep goodO (Keeps.of_block fun b hb hl => k1.blk b hl (by rw [hb.2]; omega)) fun b hb => ⟨by omega, by rw [hex b hb.1]; exact hb.2⟩
  have hv7 : IsVals (Fx (tagged T U 0) V) V (.slice (some ⟨vb, 0, none⟩) k k) (List.replicate k nilV) := by
    have := vals_row (P := Fx (tagged T U 0) V) hv6 (hall vb hvb (blk_lt hv6)) (by rw [tk0]; omega)
    rw [tk0] at this
    exact this
  have hc1 : Cells ObjC 2 (Fx (tagged T U 0) V) V [.int .i64 c, .slice (some ⟨vb, 0, none⟩) k k] [⟨c, List.replicate k nilV⟩] := Cells.one goodO rfl ⟨rfl, _, rfl, hv7⟩
  have hs1 := h.sites.keep (w' := V) fun b hg => k1.blk b (h.sites.lt b hg).2 (by rw [h.stag b hg]; omega)
  have ho1 := h.of.keep (w' := V) fun b hg => k1.blk b (h.of.lt b hg).2 (by rw [h.otag b hg]; omega)
  exact ⟨hb', by rw [hex _ hlm]; exact h.tag, h.cls.fx goodC hex k1 (by omega), own_rowAt goodO hr1 (hc0.append goodO hc1) (by simp) hall (by omega), hs1, fun b hg => by rw [hex _ (h.sites.lt b hg).2]; exact h.stag b hg, ho1, fun b hg => by rw [hex _ (h.of.lt b hg).2]; exact h.otag b hg⟩
end
section
variable {p : Rp} {d : Nat} {T T1 T2 : Nat → Nat} {w wr w2 : World} {mb K : Nat} {R : Mc RSt × QV × Int} {av kv : Value} {gk : Nat} {at' at2 : Value} {m : Mc RSt} {f : Fr}
variable {c : Int} {n1 n2 n3 G' k : Nat} {x : QI} {hv sv ov st st' : Value} {U w' : World}
theorem make_full (hX : Rx p) (hR : BdR p d T w mb K R av kv gk at' T1 m f 0 wr) (hg : gk = G' + 1) (hx : NxOk f k x) (hop : x.op = 13) (h6 : 60 ≤ m.heap.length) {W2 : World} (hE : Ext T1 T2 wr) (hK : Kp (All K) T1 wr W2) (hM : RMac p T2 W2 mb m (20 - (d : Int)) 15 hv sv ov) :
    BdX p d T w mb K R av kv c n1 n2 n3 G' (.int .i64 ((k : Int) + 1)) W2 := by
  have hr : mstepE (entE p.E d) p.E d m { f with pc := f.pc + 1 } f.pc x = (m, { f with pc := f.pc + 1 }, 15) := by
    rw [step_none _ _ (by omega)]; unfold noneE; rw [if_neg (by omega), if_neg (by omega), if_neg (by omega), if_neg (by omega), if_pos hop]
    unfold makeE
    rw [if_pos (Or.inl h6)]
  exact step_end hX hR hg hx (by omega) hr hE hK hM (fun h => by cases h) (fun h => by cases h) (fun h => by cases h)
theorem make_end (hX : Rx p) (hR : BdR p d T w mb K R av kv gk at' T1 m f 0 wr) (hg : gk = G' + 1) (hx : NxOk f k x) (hop : x.op = 13) (h6 : ¬ 60 ≤ m.heap.length) {sl : Nat} (hsl : slotsE p.X.classes x.a = (sl : Int)) (hs2 : sl ≤ 2147483647) (hL : Lens c n1 n2 n3 f) {W2 : World} (hE : Ext T1 T2 wr) (hK : Kp (All K) T1 wr W2) (hM : RMac p T2 W2 mb { m with heap := m.heap ++ [⟨x.a, List.replicate sl nilV⟩] } (20 - (d : Int)) 0 hv sv ov) (hF : RF T2 K W2 w.heap.size { f with stack := f.stack ++ [⟨4, (m.heap.length : Int)⟩] } av kv st) :
    BdX p d T w mb K R av kv c n1 n2 n3 G' (.int .i64 ((k : Int) + 1)) W2 := by
  have hr : mstepE (entE p.E d) p.E d m { f with pc := f.pc + 1 } f.pc x = ({ m with heap := m.heap ++ [⟨x.a, List.replicate sl nilV⟩] }, ({ f with pc := f.pc + 1 } : Fr).push ⟨4, (m.heap.length : Int)⟩, 0) := by
    rw [step_none _ _ (by omega)]; unfold noneE; rw [if_neg (by omega), if_neg (by omega), if_neg (by omega), if_neg (by omega), if_pos hop]
    unfold makeE
    have hc : ¬ (60 ≤ m.heap.length ∨ 2147483647 < slotsE p.E.classes x.a) := by
      show ¬ (60 ≤ m.heap.length ∨ 2147483647 < slotsE p.X.classes x.a)
      rw [hsl]; omega
    rw [if_neg hc]
    show (({ m with heap := m.heap ++ [⟨x.a, List.replicate (slotsE p.X.classes x.a).toNat nilV⟩] } : Mc RSt), _, _) = _
    rw [hsl]; rfl
  exact step_end hX hR hg hx (by omega) hr hE hK hM (fun _ => ⟨_, hF.at _⟩) (fun _ => by show f.pc + 1 = _; rw [hx.pc]) (fun _ => hL)
end
theorem right_sl {p : Rp} (hX : Rx p) (c : Int) : SlotsOk p.X.classes ∧ ∃ sl : Nat, slotsE p.X.classes c = (sl : Int) ∧ sl ≤ 1000 := by
  have ho := right_slotsOk hX.right
  obtain ⟨hs, -, -, -⟩ := right_is hX.right
  have hm := hs.many
  have h := slotsE_le ho (p.X.classes.length + 1) c 0 (Int.le_refl _)
  have e : slotsE p.X.classes c = upE slotsV p.X.classes (p.X.classes.length + 1) c 0 := rfl
  rw [← e] at h
  exact ⟨ho, (slotsE p.X.classes c).toNat, by omega, by omega⟩
end Go.Proofs.Ytfdonemehiamjaa
/- A send in the reference's run: what is put aside; sites that are remembered. -/
namespace Go.Proofs.Ytfdonemehiamjaa
open Go.ChangeShapes Go.WideShapes Go.ChangeAt Go.RowKit
set_option linter.unusedSimpArgs false
set_option linter.unusedVariables false
set_option maxRecDepth 8000

theorem findL_is {xs : List QC} {name : ByteArray} : ∀ (l : List Int), 0 ≤ (findL xs name l).2 → (findL xs name l).2 = numI (methsOf xs (findL xs name l).1) name
  | [], h => by simp [findL] at h
  | k :: r, h => by
    unfold findL at h ⊢
    by_cases hk : 0 ≤ numI (methsOf xs k) name
    · rw [if_pos hk]
    · rw [if_neg hk] at h ⊢
      exact findL_is r h
theorem find_meth {xs : List QC} {k : Int} {name : ByteArray} (h : 0 ≤ (findE xs k name).2) : ∃ mt, methAt xs (findE xs k name).1 (findE xs k name).2 = some mt := by
  rw [findE_L] at h ⊢
  generalize upsE xs (xs.length + 1) k = l at *
  have h1 := findL_is l h
  unfold methAt
  simp only [if_pos h]
  unfold methsOf at h1
  cases hx : clsAt xs (findL xs name l).1 with
  | none => rw [hx] at h1; simp [numI, findI] at h1; omega
  | some x =>
    rw [hx] at h1
    simp only [Option.map_some, Option.getD_some] at h1
    unfold numI findI at h1
    cases hf : x.methods.findIdx? (fun m => eqN m.name name) with
    | none => rw [hf] at h1; simp at h1; omega
    | some j =>
      rw [hf] at h1
      simp at h1
      rw [List.findIdx?_eq_some_iff_getElem] at hf
      obtain ⟨hj, -⟩ := hf
      refine ⟨x.methods[j], ?_⟩
      rw [h1]
      simp [hj]
/-- The value below the arguments in a box of its own, and a copy of the arguments. -/
theorem sd41 {W wz : World} {g xb cap' B n : Nat} {args : List QV} (xv : QV) (hb : Below W.heap.size W wz) (hown : wz.ownsRow B 27 2 (.slice (some ⟨g, 0, none⟩) n cap') n (vcells args)) (hn : args.length = n) (hnl : n ≤ 1000000) (hB : W.heap.size ≤ B) (hxb : W.heap.size ≤ xb) (hne : xb ≠ g) (hx : wz.heap[xb]? = some (.cells #[.int .i64 0, .int .i64 0] 27 (0, 0))) :
    Below W.heap.size W ((wz.setCell ⟨xb, 0, none⟩ (.int .i64 xv.k)).setCell ⟨xb, 1, none⟩ (.int .i64 xv.n)) ∧ ((wz.setCell ⟨xb, 0, none⟩ (.int .i64 xv.k)).setCell ⟨xb, 1, none⟩ (.int .i64 xv.n)).heap[xb]? = some (.cells #[.int .i64 xv.k, .int .i64 xv.n] 27 (0, 0)) ∧ IsVals (fun b => W.heap.size ≤ b ∧ b < ((wz.setCell ⟨xb, 0, none⟩ (.int .i64 xv.k)).setCell ⟨xb, 1, none⟩ (.int .i64 xv.n)).heap.size) ((wz.setCell ⟨xb, 0, none⟩ (.int .i64 xv.k)).setCell ⟨xb, 1, none⟩ (.int .i64 xv.n)) (.slice (some ⟨g, 0, none⟩) n cap') args := by
  have hrow : ((wz.setCell ⟨xb, 0, none⟩ (.int .i64 xv.k)).setCell ⟨xb, 1, none⟩ (.int .i64 xv.n)).heap[xb]? = some (.cells #[.int .i64 xv.k, .int .i64 xv.n] 27 (0, 0)) := by
    rw [setCell_same (setCell_same hx _)]; rfl
  have h1 := ownsRow_setCell_other (ownsRow_setCell_other hown (a := ⟨xb, 0, none⟩) (by simp [Value.ownBlock]; omega) (.int .i64 xv.k)) (a := ⟨xb, 1, none⟩) (by simp [Value.ownBlock]; omega) (.int .i64 xv.n)
  refine ⟨(hb.setCell hxb _).setCell hxb _, hrow, ?_⟩
  generalize ((wz.setCell ⟨xb, 0, none⟩ (.int .i64 xv.k)).setCell ⟨xb, 1, none⟩ (.int .i64 xv.n)) = V at *
  have hc : Cells ValC 2 (fun b => W.heap.size ≤ b ∧ b < V.heap.size) V (vcells args) args := ⟨vcells_len _, fun i y hy => by
    obtain ⟨d1, d2⟩ := vcells_get hy
    exact ⟨by simpa using d1, d2⟩⟩
  exact own_row goodV h1 hc hn (fun b h1 h2 => ⟨by omega, h2⟩) (by omega)
/-- What holds ahead of the cut of the stack. -/
structure SdA (wr V : World) (f : Fr) (x : QI) (nn na xb : Nat) (asv : Value) (xv : QV) : Prop where
  bel : Below wr.heap.size wr V
  inb : InB V wr.heap.size x
  xc : V.heap[xb]? = some (.cells #[.int .i64 xv.k, .int .i64 xv.n] 27 (0, 0))
  lo : wr.heap.size ≤ xb ∧ wr.heap.size < V.heap.size
  args : IsVals (fun b => wr.heap.size ≤ b ∧ b < V.heap.size) V asv (f.stack.drop (nn + 1))
  hna : x.a = (na : Int)
  len : f.stack.length = nn + 1 + na
  hxv : f.stack[nn]? = some xv
/-- What holds behind it. -/
structure SdB (p : Rp) (d : Nat) (mb K B b0 xb : Nat) (T : Nat → Nat) (U : World) (m : Mc RSt) (err : Int) (f : Fr) (name : ByteArray) (xv : QV) (args : List QV) (asv av kv st hv sv ov : Value) : Prop where
  mac : RMac p T U mb m (20 - (d : Int)) err hv sv ov
  fr : RF T K U B f av kv st
  nm : U.cell? ⟨b0, 4, none⟩ = some (.string name)
  tn : T b0 = 0
  x : U.heap[xb]? = some (.cells #[.int .i64 xv.k, .int .i64 xv.n] 27 (0, 0))
  tx : T xb = 0
  args : IsVals (Fx T U) U asv args
section
variable {p : Rp} {d : Nat} {mb K B b0 xb : Nat} {T T' : Nat → Nat} {U U' : World} {m m' : Mc RSt} {err err' : Int} {f f' : Fr} {name : ByteArray} {xv : QV} {args : List QV} {asv av kv st hv sv ov hv' sv' ov' : Value}
theorem SdB.keep {S : Nat → Prop} (h : SdB p d mb K B b0 xb T U m err f name xv args asv av kv st hv sv ov) (e : Ext T T' U) (k : Kp S T U U') (h0 : ¬ S 0) (h4 : ¬ S 4) (hK : ¬ S K) (h1 : ¬ S (K + 1)) (h2 : ¬ S (K + 2)) (hM : RMac p T' U' mb m' (20 - (d : Int)) err' hv' sv' ov') : SdB p d mb K B b0 xb T' U' m' err' f name xv args asv av kv st hv' sv' ov' :=
  ⟨hM, h.fr.keep e k h0 h4 hK h1 h2, k.cell h.nm (by rw [h.tn]; exact h0), by rw [e _ (World.block_lt_of_cell? U ⟨b0, 4, none⟩ h.nm)]; exact h.tn, k.held h.x (by rw [h.tx]; exact h0), by rw [e _ (blk_lt h.x)]; exact h.tx, h.args.fx goodV e k h0⟩
theorem SdB.later (h : SdB p d mb K B b0 xb T U m err f name xv args asv av kv st hv sv ov) (hb : Below U.heap.size U U') : SdB p d mb K B b0 xb T U' m err f name xv args asv av kv st hv sv ov := h.keep (S := fun _ => False) (.refl _ _) (.of_below hb) id id id id id (h.mac.later hb)
theorem SdB.x0 (h : SdB p d mb K B b0 xb T U m err f name xv args asv av kv st hv sv ov) : U.cell? ⟨xb, 0, none⟩ = some (.int .i64 xv.k) := by rw [cell_of_row _ _ _ _ _ _ h.x]; rfl
theorem SdB.x1 (h : SdB p d mb K B b0 xb T U m err f name xv args asv av kv st hv sv ov) : U.cell? ⟨xb, 1, none⟩ = some (.int .i64 xv.n) := by rw [cell_of_row _ _ _ _ _ _ h.x]; rfl
/-- The stack is cut. -/
theorem sd42 {wr w V : World} {x : QI} {nn na : Nat} {sa : Option Addr} {sc : Nat} (hM : RMac p T wr mb m (20 - (d : Int)) 0 hv sv ov) (hF : RF T K wr w.heap.size f av kv (.slice sa f.stack.length sc)) (hA : SdA wr V f x nn na xb asv xv) :
    SdB p d mb K w.heap.size wr.heap.size xb (tagged T wr 0) (V.setCell ⟨w.heap.size + 4, 0, none⟩ (.slice sa nn sc)) m 0 { f with stack := f.stack.take nn } x.name xv (f.stack.drop (nn + 1)) asv av kv (.slice sa nn sc) hv sv ov ∧ Kp (fun t => t = K) T wr (V.setCell ⟨w.heap.size + 4, 0, none⟩ (.slice sa nn sc)) := by
  have hp := hF.pos
  have hlt := blk_lt hF.sb
  have hlm := blk_lt hM.box
  obtain ⟨hl1, hl2⟩ := hA.lo
  have hlen := hA.len
  have ex := tagged_ext T wr 0
  have hMV := hM.keep (S := fun _ => False) ex (.of_below hA.bel) id id id id
  have hFV := hF.keep (S := fun _ => False) ex (.of_below hA.bel) id id id id id
  have hk : Kp (fun t => t = K) (tagged T wr 0) V (V.setCell ⟨w.heap.size + 4, 0, none⟩ (.slice sa nn sc)) := (Kp.refl _ _ _).set (fun _ => hFV.t4) _ _
  have hF2 := hFV.cut (n := nn) (by omega) hk (sb_set hFV.sb _)
  have hM2 := hMV.keep (.refl _ _) hk (by omega) (by omega) (by omega) (by omega)
  refine ⟨⟨hM2, hF2, hk.cell hA.inb.x4 (by rw [tagged_new (Nat.le_refl _)]; omega), tagged_new (Nat.le_refl _), hk.held hA.xc (by rw [tagged_new hl1]; omega), tagged_new hl1, ?_⟩, (Kp.of_below hA.bel).trans ex hk⟩
  exact hA.args.keep goodV (Keeps.of_block fun b hb _ => setCell_else (by omega) _) fun b hb => ⟨Nat.lt_of_lt_of_le hb.2 hk.size, tagged_new hb.1⟩
/-- Sites and classes, one more each. -/
theorem of_kept (h : RMac p T U mb m (20 - (d : Int)) err hv sv ov) {wz w12 w18 : World} (hbz : Below U.heap.size U wz) (r4 : ∀ b, b < wz.heap.size → some b ≠ sv.ownBlock → w12.heap[b]? = wz.heap[b]?) (hb18 : Below w12.heap.size w12 w18) (hz : wz.heap.size ≤ w12.heap.size) : ownsAt w18 0 3 1 ov m.st.length (ocells m.st) := by
  refine h.of.keep fun g hg => ?_
  have hl := (h.of.lt g hg).2
  have hs := hbz.size
  rw [hb18.block g (by omega), r4 g (by omega) (fun e => by have := h.stag g e.symm; rw [h.otag g hg] at this; omega), hbz.block g hl]
theorem sites_fin (h : RMac p T U mb m (20 - (d : Int)) 0 hv sv ov) {wz w12 w18 w19 : World} {q : QS × Int} (hbz : Below U.heap.size U wz)
    (r1 : ownsAt w12 0 92 3 sv' (m.st.length + 1) (scells m.st ++ [.int .i64 q.1.cls, .string q.1.name, .int .i64 q.1.at'])) (r2 : sv'.ownBlock = sv.ownBlock ∨ ∃ g, sv'.ownBlock = some g ∧ wz.heap.size ≤ g) (r3 : Below 0 wz w12) (r4 : ∀ b, b < wz.heap.size → some b ≠ sv.ownBlock → w12.heap[b]? = wz.heap[b]?) (hb18 : Below w12.heap.size w12 w18)
    (s1 : ownsAt w19 0 3 1 ov' (m.st.length + 1) (ocells m.st ++ [.int .i64 q.2])) (s2 : ov'.ownBlock = ov.ownBlock ∨ ∃ g, ov'.ownBlock = some g ∧ w18.heap.size ≤ g) (s3 : Below 0 w18 w19) (s4 : ∀ b, b < w18.heap.size → some b ≠ ov.ownBlock → w19.heap[b]? = w18.heap[b]?) :
    (∃ T', Ext T T' U ∧ RMac p T' ((w19.setCell ⟨mb, 8, none⟩ sv').setCell ⟨mb, 9, none⟩ ov') mb { m with st := m.st ++ [q] } (20 - (d : Int)) 0 hv sv' ov') ∧ Kp (fun t => t = 1 ∨ t = 2 ∨ t = 3) T U ((w19.setCell ⟨mb, 8, none⟩ sv').setCell ⟨mb, 9, none⟩ ov') := by
  have hlm := blk_lt h.box
  have z1 := hbz.size
  have z2 := r3.size
  have z3 := hb18.size
  have z4 := s3.size
  have hso : ∀ g, sv.ownBlock = some g → g < U.heap.size := fun g hg => (h.sites.lt g hg).2
  have hoo : ∀ g, ov.ownBlock = some g → g < U.heap.size := fun g hg => (h.of.lt g hg).2
  have k0 : Kp (fun t => t = 1 ∨ t = 2 ∨ t = 3) T U w19 := ⟨s3.os.trans (hb18.os.trans (r3.os.trans hbz.os)), s3.tape.trans (hb18.tape.trans (r3.tape.trans hbz.tape)), s3.output.trans (hb18.output.trans (r3.output.trans hbz.output)), by omega, fun b hb hs => by
    rw [s4 b (by omega) (fun e => hs (Or.inr (Or.inr (h.otag b e.symm)))), hb18.block b (by omega), r4 b (by omega) (fun e => hs (Or.inr (Or.inl (h.stag b e.symm)))), hbz.block b hb]⟩
  have k1 : Kp (fun t => t = 1 ∨ t = 2 ∨ t = 3) T U ((w19.setCell ⟨mb, 8, none⟩ sv').setCell ⟨mb, 9, none⟩ ov') := (k0.set (fun _ => Or.inl h.tag) _ _).set (fun _ => Or.inl h.tag) _ _
  refine ⟨?_, k1⟩
  have hbox : w19.heap[mb]? = some (RB p m (20 - (d : Int)) 0 hv sv ov) := by
    rw [s4 mb (by omega) (fun e => by have := h.otag mb e.symm; rw [h.tag] at this; omega), hb18.block mb (by omega), r4 mb (by omega) (fun e => by have := h.stag mb e.symm; rw [h.tag] at this; omega), hbz.block mb hlm]; exact h.box
  have hb' : ((w19.setCell ⟨mb, 8, none⟩ sv').setCell ⟨mb, 9, none⟩ ov').heap[mb]? = some (RB p { m with st := m.st ++ [q] } (20 - (d : Int)) 0 hv sv' ov') := rb_set9 (rb_set8 hbox sv') _ _
  -- the rows' blocks
  have hsb : ∀ g, sv'.ownBlock = some g → g ≠ mb ∧ some g ≠ ov'.ownBlock ∧ some g ≠ ov.ownBlock ∧ g < w12.heap.size ∧ (g < U.heap.size → T g = 2) := fun g hg => by
    have hlt := (r1.lt g hg).2
    rcases r2 with e | ⟨g', e, hg'⟩
    · rw [e] at hg
      have t := h.stag g hg
      have hl := hso g hg
      refine ⟨fun e => by rw [e, h.tag] at t; omega, fun e => ?_, fun e => by have := h.otag g e.symm; omega, hlt, fun _ => t⟩
      rcases s2 with e2 | ⟨g2, e2, hg2⟩
      · have := h.otag g (by rw [← e2]; exact e.symm); omega
      · rw [e2] at e; cases e; omega
    · rw [e] at hg; cases hg
      refine ⟨by omega, fun e => ?_, fun e => by have := hoo g e.symm; omega, hlt, fun h => by omega⟩
      rcases s2 with e2 | ⟨g2, e2, hg2⟩
      · have := hoo g (by rw [← e2]; exact e.symm); omega
      · rw [e2] at e; cases e; omega
  have hob : ∀ g, ov'.ownBlock = some g → g ≠ mb ∧ (g < U.heap.size → T g = 3) := fun g hg => by
    rcases s2 with e | ⟨g', e, hg'⟩
    · rw [e] at hg
      have t := h.otag g hg
      exact ⟨fun e => by rw [e, h.tag] at t; omega, fun _ => t⟩
    · rw [e] at hg; cases hg
      exact ⟨by omega, fun h => by omega⟩
  have hr1 : ownsAt ((w19.setCell ⟨mb, 8, none⟩ sv').setCell ⟨mb, 9, none⟩ ov') 0 92 3 sv' (m.st.length + 1) (scells m.st ++ [.int .i64 q.1.cls, .string q.1.name, .int .i64 q.1.at']) := r1.keep fun g hg => by
    obtain ⟨a1, a2, a3, a4, -⟩ := hsb g hg
    rw [setCell_else a1, setCell_else a1, s4 g (by omega) a3, hb18.block g a4]
  have hs1 : ownsAt ((w19.setCell ⟨mb, 8, none⟩ sv').setCell ⟨mb, 9, none⟩ ov') 0 3 1 ov' (m.st.length + 1) (ocells m.st ++ [.int .i64 q.2]) := s1.keep fun g hg => by
    rw [setCell_else (hob g hg).1, setCell_else (hob g hg).1]
  generalize ((w19.setCell ⟨mb, 8, none⟩ sv').setCell ⟨mb, 9, none⟩ ov') = V at *
  obtain ⟨T', hT, hT2, hT3⟩ : ∃ T', Ext T T' U ∧ (∀ g, sv'.ownBlock = some g → T' g = 2) ∧ (∀ g, ov'.ownBlock = some g → T' g = 3) := by
    refine ⟨fun b => if b < U.heap.size then T b else if sv'.ownBlock = some b then 2 else 3, fun b hb => by simp only [if_pos hb], fun g hg => ?_, fun g hg => ?_⟩
    · by_cases hl : g < U.heap.size
      · simp only [if_pos hl]; exact (hsb g hg).2.2.2.2 hl
      · simp only [if_neg hl, if_pos hg]
    · by_cases hl : g < U.heap.size
      · simp only [if_pos hl]; exact (hob g hg).2 hl
      · simp only [if_neg hl]
        rw [if_neg (fun e => (hsb g e).2.1 hg.symm)]
  refine ⟨T', hT, hb', by rw [hT _ hlm]; exact h.tag, h.cls.fx goodC hT k1 (by omega), h.heap.fx goodO hT k1 (by omega), ?_, hT2, ?_, hT3⟩
  · rw [scells_append, List.length_append]; exact hr1
  · rw [ocells_append, List.length_append]; exact hs1
end
section
variable {p : Rp} {d : Nat} {T T1 T2 : Nat → Nat} {w wr w2 : World} {mb K : Nat} {R : Mc RSt × QV × Int} {av kv : Value} {gk : Nat} {at' at2 : Value} {m : Mc RSt} {f : Fr}
variable {c : Int} {n1 n2 n3 G' k : Nat} {x : QI} {hv sv ov st st' : Value} {U w' : World}
/-- What a send comes to. -/
theorem send_val (hx : NxOk f k x) (hop : x.op = 14) (hfast : f.fast = false) (hc : f.cls = c) {nn na : Nat} (hna : x.a = (na : Int)) (hlen : f.stack.length = nn + 1 + na) {xv : QV} (hxv : f.stack[nn]? = some xv) {kl : Int} (hkl : classV m.heap xv = kl) {r : Mc RSt × QV × Int} (hr : entE p.E d { m with st := m.st ++ [(⟨c, f.meth.name, (k : Int)⟩, kl)] } (findE p.X.classes kl x.name).1 (findE p.X.classes kl x.name).2 xv (f.stack.drop (nn + 1)) = r) :
    mstepE (entE p.E d) p.E d m { f with pc := f.pc + 1 } f.pc x = if r.2.2 ≠ 0 then (r.1, { f with pc := f.pc + 1 }, r.2.2) else (r.1, { f with pc := f.pc + 1, stack := f.stack.take nn ++ [r.2.1] }, 0) := by
  have hk : fromE f.stack x.a = nn + 1 := by unfold fromE; rw [hna]; omega
  have hb : belowE (f.stack.take (nn + 1)) 0 = xv := by
    unfold belowE entryE
    have hl : (f.stack.take (nn + 1)).length = nn + 1 := by rw [List.length_take]; omega
    rw [hl, if_neg (by omega), show (((nn + 1 : Nat) : Int) - 1 - 0).toNat = nn by omega, List.getElem?_take, if_pos (by omega), hxv]
    rfl
  have hd : (f.stack.take (nn + 1)).dropLast = f.stack.take nn := by
    have hl : (f.stack.take (nn + 1)).length = nn + 1 := by rw [List.length_take]; omega
    rw [List.dropLast_eq_take, hl, List.take_take]
    congr 1
    omega
  rw [step_none _ _ (by omega)]; unfold noneE; rw [if_neg (by omega), if_neg (by omega), if_neg (by omega), if_neg (by omega), if_neg (by omega), if_pos hop]
  unfold sendE
  simp only [hk, hb, hkl, hd]
  have hs : Fr.site { f with pc := f.pc + 1 } f.pc x = ⟨c, f.meth.name, (k : Int)⟩ := by
    unfold Fr.site; simp only [hfast, hc, hx.pc]; rfl
  rw [hs]
  show (if (entE p.E d { m with st := m.st ++ [(⟨c, f.meth.name, (k : Int)⟩, kl)] } (findE p.X.classes kl x.name).1 (findE p.X.classes kl x.name).2 xv (f.stack.drop (nn + 1))).2.2 ≠ 0 then _ else _) = _
  rw [show entE p.E d { heap := m.heap, sends := m.sends, turns := m.turns, st := (p.E.look m.st ⟨c, f.meth.name, (k : Int)⟩ kl x.name).1 } (p.E.look m.st ⟨c, f.meth.name, (k : Int)⟩ kl x.name).2.1 (p.E.look m.st ⟨c, f.meth.name, (k : Int)⟩ kl x.name).2.2 xv (f.stack.drop (nn + 1)) = r from hr]
  rw [hr]
theorem send_end (hX : Rx p) (hR : BdR p d T w mb K R av kv gk at' T1 m f 0 wr) (hg : gk = G' + 1) (hx : NxOk f k x) (hop : x.op = 14) (hL : Lens c n1 n2 n3 f) {r : Mc RSt × QV × Int} {nn : Nat} (hr : mstepE (entE p.E d) p.E d m { f with pc := f.pc + 1 } f.pc x = if r.2.2 ≠ 0 then (r.1, { f with pc := f.pc + 1 }, r.2.2) else (r.1, { f with pc := f.pc + 1, stack := f.stack.take nn ++ [r.2.1] }, 0)) {W2 : World} (hE : Ext T1 T2 wr) (hK : Kp (All K) T1 wr W2) (hM : RMac p T2 W2 mb r.1 (20 - (d : Int)) r.2.2 hv sv ov) (hF : r.2.2 = 0 → RF T2 K W2 w.heap.size { f with stack := f.stack.take nn ++ [r.2.1] } av kv st) :
    BdX p d T w mb K R av kv c n1 n2 n3 G' (.int .i64 ((k : Int) + 1)) W2 := by
  by_cases h0 : r.2.2 = 0
  · rw [if_neg (by omega)] at hr
    rw [h0] at hM
    exact step_end hX hR hg hx (by omega) hr hE hK hM (fun _ => ⟨_, (hF h0).at _⟩) (fun _ => by show f.pc + 1 = _; rw [hx.pc]) (fun _ => hL)
  · rw [if_pos h0] at hr
    exact step_end hX hR hg hx (by omega) hr hE hK hM (fun h => absurd h h0) (fun h => absurd h h0) (fun h => absurd h h0)
theorem ent_none {at2' : Int} (hj : ¬ 0 ≤ (findE p.X.classes at2' x.name).2) {m4 : Mc RSt} {xv : QV} {args : List QV} : entE p.E d m4 (findE p.X.classes at2' x.name).1 (findE p.X.classes at2' x.name).2 xv args = (m4, nilV, 10) := by
  have h : methAt p.E.classes (findE p.X.classes at2' x.name).1 (findE p.X.classes at2' x.name).2 = none := by
    unfold methAt
    simp only [if_neg hj]
    cases clsAt p.E.classes (findE p.X.classes at2' x.name).1 <;> rfl
  cases d <;> (unfold entE enterE; rw [h])
end
end Go.Proofs.Ytfdonemehiamjaa
