/- Inline: Method. -/
import Derived.Test.YthaefhojnjdheaaIi
namespace Go.Proofs.Ythaefhojnjdheaa
open Go.ChangeShapes Go.WideShapes Go.ChangeAt Go.RowKit
set_option linter.unusedSimpArgs false
set_option linter.unusedVariables false
set_option maxRecDepth 8000

theorem meth_at {xs : List QC} {c n : Int} {mt : QM} (h : methAt xs c n = some mt) : ∃ (kc kn : Nat) (x : QC), c = (kc : Int) ∧ n = (kn : Int) ∧ xs[kc]? = some x ∧ x.methods[kn]? = some mt := by
  unfold methAt at h
  cases hc : clsAt xs c with
  | none => rw [hc] at h; cases h
  | some x =>
    rw [hc] at h
    obtain ⟨k, rfl, hk⟩ := clsAt_some hc
    simp only [Option.bind_some] at h
    split at h
    · exact ⟨k, n.toNat, x, rfl, by omega, hk, h⟩
    · cases h
/-- What Method's rounds keep. -/
def MtR (X : QW) (sites : List Int) (Z : World) (bm : Nat) (m : QM) (kv : Value) (c : Int) (gk : Nat) (pv iv : Value) (wr : World) : Prop :=
  ∃ (j : Nat) (a : Option Addr) (cap : Nat), j + gk = m.code.length ∧ iv = .int .i64 (j : Int) ∧ pv = .int .i64 ((buildB X.classes sites m j).pieces : Int) ∧ MtL Z bm m kv c X.epoch (buildB X.classes sites m j).temps (buildB X.classes sites m j).code ((buildB X.classes sites m j).begins ++ List.replicate (m.code.length - j) 0) a cap wr
theorem mt_stay {X : QW} {sites : List Int} {Z : World} {bm : Nat} {m : QM} {kv : Value} {c : Int} {j : Nat} {x : QI} (hx : m.code[j]? = some x) (hw : whoE X.classes sites m.code.length (buildB X.classes sites m j).code.length (buildB X.classes sites m j).temps j x = none) {a' : Option Addr} {cap' : Nat} {W : World}
    (h : MtL Z bm m kv c X.epoch (buildB X.classes sites m j).temps ((buildB X.classes sites m j).code ++ [stayE x (j : Int)]) (((buildB X.classes sites m j).begins ++ List.replicate (m.code.length - j) 0).set j ((buildB X.classes sites m j).code.length : Int)) a' cap' W) : MtR X sites Z bm m kv c (m.code.length - (j + 1)) (.int .i64 ((buildB X.classes sites m j).pieces : Int)) (.int .i64 ((j : Int) + 1)) W := by
  have hj := lt_of_get hx
  refine ⟨j + 1, a', cap', by omega, by go_num, ?_, ?_⟩
  · rw [buildB_succ hx]; unfold stepB; rw [hw]
  · rw [begins_set (build_begins (by omega)) hj] at h
    rw [buildB_succ hx]; unfold stepB; rw [hw]
    exact h
theorem mt_piece {X : QW} {sites : List Int} {Z : World} {bm : Nat} {m : QM} {kv : Value} {c : Int} {j : Nat} {x : QI} {leaf : QM} (hx : m.code[j]? = some x) (hw : whoE X.classes sites m.code.length (buildB X.classes sites m j).code.length (buildB X.classes sites m j).temps j x = some leaf) {a' : Option Addr} {cap' : Nat} {W : World}
    (h : MtL Z bm m kv c X.epoch ((buildB X.classes sites m j).temps + 1 + leaf.args + leaf.temps) ((buildB X.classes sites m j).code ++ pieceE leaf (ins 18 (sites.getD j (-1)) leaf.args j) (buildB X.classes sites m j).temps (buildB X.classes sites m j).code.length) (((buildB X.classes sites m j).begins ++ List.replicate (m.code.length - j) 0).set j ((buildB X.classes sites m j).code.length : Int)) a' cap' W) : MtR X sites Z bm m kv c (m.code.length - (j + 1)) (.int .i64 ((buildB X.classes sites m j).pieces + 1 : Int)) (.int .i64 ((j : Int) + 1)) W := by
  have hj := lt_of_get hx
  refine ⟨j + 1, a', cap', by omega, by go_num, ?_, ?_⟩
  · rw [buildB_succ hx]; unfold stepB; rw [hw]; rfl
  · rw [begins_set (build_begins (by omega)) hj] at h
    rw [buildB_succ hx]; unfold stepB; rw [hw]
    exact h
/-- The boxes of Method. -/
structure RbX (w : World) (cv hv : Value) (ep : Int) (w' : World) : Prop where
  w0 : w'.cell? ⟨w.heap.size, 0, none⟩ = some cv
  w1 : w'.cell? ⟨w.heap.size, 1, none⟩ = some hv
  w2 : w'.cell? ⟨w.heap.size, 2, none⟩ = some (.int .i64 ep)
  z0 : w'.cell? ⟨w.heap.size + 1, 0, none⟩ = some (.int .i64 0)
  z1 : w'.cell? ⟨w.heap.size + 1, 1, none⟩ = some (.string ⟨#[]⟩)
  z2 : w'.cell? ⟨w.heap.size + 1, 2, none⟩ = some (.int .i64 0)
  z3 : w'.cell? ⟨w.heap.size + 1, 3, none⟩ = some (.int .i64 0)
  z4 : w'.cell? ⟨w.heap.size + 1, 4, none⟩ = some (.slice none 0 0)
  zf : ∀ o, w'.frozen? ⟨w.heap.size + 1, o, none⟩ = false
  sz : w.heap.size + 2 ≤ w'.heap.size
theorem RbX.later {w : World} {cv hv : Value} {ep : Int} {w' w'' : World} (h : RbX w cv hv ep w') (hb : Below w'.heap.size w' w'') : RbX w cv hv ep w'' :=
  ⟨cell_later hb h.w0, cell_later hb h.w1, cell_later hb h.w2, cell_later hb h.z0, cell_later hb h.z1, cell_later hb h.z2, cell_later hb h.z3, cell_later hb h.z4, fun o => (hb.frozen (p := ⟨w.heap.size + 1, o, none⟩) (by have := h.sz; simp only; omega)).trans (h.zf o), Nat.le_trans h.sz hb.size⟩
theorem rbx_new (w : World) (cv hv : Value) (ep : Int) : RbX w cv hv ep ((w.alloc (.cells #[cv, hv, .int .i64 ep] 25)).alloc (.cells #[.int .i64 0, .string ⟨#[]⟩, .int .i64 0, .int .i64 0, .slice none 0 0] 31)) := by
  have e1 : (w.alloc (.cells #[cv, hv, .int .i64 ep] 25)).heap.size = w.heap.size + 1 := by simp
  exact ⟨cell_later (bel1 _ _) (cell_new w #[cv, hv, .int .i64 ep] 25 _ rfl 0), cell_later (bel1 _ _) (cell_new w #[cv, hv, .int .i64 ep] 25 _ rfl 1), cell_later (bel1 _ _) (cell_new w #[cv, hv, .int .i64 ep] 25 _ rfl 2), cell_new _ _ _ _ e1 0, cell_new _ _ _ _ e1 1, cell_new _ _ _ _ e1 2, cell_new _ _ _ _ e1 3, cell_new _ _ _ _ e1 4, row_free (cur := #[.int .i64 0, .string ⟨#[]⟩, .int .i64 0, .int .i64 0, .slice none 0 0]) (t := 31) (by rw [← e1]; exact heap_alloc_new _ _), by simp⟩
theorem mtL_new (w1 : World) (m : QM) (kv : Value) (c ep tm : Int) (n : Nat) (_ : Unit) : MtL (((w1.alloc (.cells #[.string m.name, .int .i64 m.args, .int .i64 m.temps, .int .i64 m.prim, kv] 48)).alloc (.cells #[.int .i64 c, .string m.name, .int .i64 ep, .int .i64 tm, .slice none 0 0] 31)).alloc (hRow (List.replicate n 0))) w1.heap.size m kv c ep tm [] (List.replicate n 0) none 0 (((w1.alloc (.cells #[.string m.name, .int .i64 m.args, .int .i64 m.temps, .int .i64 m.prim, kv] 48)).alloc (.cells #[.int .i64 c, .string m.name, .int .i64 ep, .int .i64 tm, .slice none 0 0] 31)).alloc (hRow (List.replicate n 0))) := by
  have e1 : (w1.alloc (.cells #[.string m.name, .int .i64 m.args, .int .i64 m.temps, .int .i64 m.prim, kv] 48)).heap.size = w1.heap.size + 1 := by simp
  have e2 : ((w1.alloc (.cells #[.string m.name, .int .i64 m.args, .int .i64 m.temps, .int .i64 m.prim, kv] 48)).alloc (.cells #[.int .i64 c, .string m.name, .int .i64 ep, .int .i64 tm, .slice none 0 0] 31)).heap.size = w1.heap.size + 2 := by simp
  refine ⟨rfl, rfl, rfl, by simp, fun _ _ => rfl, box_later' (heap_alloc_new w1 _) (bel2 _ _ _), box_later' (by rw [← e1]; exact heap_alloc_new _ _) (bel1 _ _), by rw [← e2]; exact heap_alloc_new _ _, ⟨rfl, Or.inl ⟨rfl, rfl⟩⟩⟩
theorem mt_fin {w U : World} {r : Fst × Bool} {a : Option Addr} {cap : Nat} (hb : Below w.heap.size w U) (hco : IsCode (fun b => w.heap.size + 2 ≤ b ∧ b < U.heap.size) U (.slice a r.1.code.length cap) r.1.code) : MtPost w r (.returned (.tuple #[FsV r.1 (.slice a r.1.code.length cap), .bool r.2])) (set5 U (w.heap.size + 1) (.int .i64 r.1.cls) (.string r.1.name) (.int .i64 r.1.epoch) (.int .i64 r.1.temps) (.slice a r.1.code.length cap)) := by
  refine ⟨a, cap, rfl, hco.keep goodI (Keeps.of_block fun b hb _ => blk5 (by omega)) fun b h => ⟨by omega, ?_⟩, bel5 hb (by omega)⟩
  simp only [size_setCell]; exact h.2
theorem mt_none {w U : World} (hb : Below w.heap.size w U) : MtPost w (noFast, false) (.returned (.tuple #[FsV noFast (.slice none 0 0), .bool false])) (set5 U (w.heap.size + 1) (.int .i64 0) (.string ⟨#[]⟩) (.int .i64 0) (.int .i64 0) (.slice none 0 0)) := mt_fin (r := (noFast, false)) (a := none) (cap := 0) hb row_none
theorem build_pieces {xs : List QC} {sites : List Int} {m : QM} : ∀ k : Nat, (buildB xs sites m k).pieces ≤ (buildB xs sites m k).code.length
  | 0 => Nat.le_refl _
  | k + 1 => by
    have ih := build_pieces (xs := xs) (sites := sites) (m := m) k
    unfold buildB
    split
    · exact ih
    · generalize buildB xs sites m k = s at *
      unfold stepB
      split
      · simp; omega
      · simp [pieceE_len]; omega
theorem build_in {xs : List QC} {sites : List Int} {m : QM} : ∀ k : Nat, ∀ b ∈ (buildB xs sites m k).begins, 0 ≤ b ∧ b < ((buildB xs sites m k).code.length : Int)
  | 0, b, hb => by simp [buildB] at hb
  | k + 1, b, hb => by
    have ih := build_in (xs := xs) (sites := sites) (m := m) k
    unfold buildB at hb ⊢
    split at hb
    · exact ih b hb
    · rename_i x h
      generalize buildB xs sites m k = s at *
      rw [step_begins] at hb
      have hl : s.code.length < (stepB xs sites m.code.length s k x).code.length := by
        unfold stepB
        split
        · simp
        · simp [pieceE_len]; omega
      rcases List.mem_append.1 hb with h' | h'
      · have := ih b h'; omega
      · simp at h'; omega
theorem nm_of {P : Nat → Prop} {w : World} {cv : Value} {xs : List QC} (hC : IsClasses P w cv xs) {c n : Int} {m : QM} (hm : methAt xs c n = some m) : NmOk m.code := by
  obtain ⟨q, t, x, rfl, rfl, hx, ht⟩ := meth_at hm
  obtain ⟨ac, cc, rfl, -, -, -, hrow⟩ := hC
  obtain ⟨b, o, -, -, -, -, -, -, mv, -, hms⟩ := hrow q x hx
  obtain ⟨am, cm, rfl, -, -, -, hrm⟩ := hms
  obtain ⟨b2, o2, -, -, -, -, -, -, -, kv, -, hco⟩ := hrm t m ht
  obtain ⟨ak, ck, rfl, -, -, -, hrk⟩ := hco
  intro y hy
  obtain ⟨i, hi, rfl⟩ := List.mem_iff_getElem.1 hy
  obtain ⟨b3, o3, -, -, -, -, -, -, -, hsz⟩ := hrk i m.code[i] (by simp)
  exact hsz
theorem nm0 : (⟨#[]⟩ : ByteArray).size ≤ 140737488351232 := by decide
theorem ins_nm (l : List QI) (h : ∀ x ∈ l, x.name = ⟨#[]⟩) : NmOk l := fun x hx => by rw [h x hx]; exact nm0
theorem piece_nm {leaf : QM} (h : NmOk leaf.code) (g : QI) (hg : g.name.size ≤ 140737488351232) (self n : Int) : NmOk (pieceE leaf g self n) := by
  have hs : ∀ (a : Int) (k : Nat), NmOk (setsE a k) := by
    intro a k
    induction k with
    | zero => exact ins_nm _ fun x hx => by simp [setsE] at hx
    | succ k ih =>
      intro x hx
      simp only [setsE, List.mem_cons] at hx
      rcases hx with rfl | hx
      · exact nm0
      · exact ih x hx
  have hn : ∀ (a : Int) (k : Nat), NmOk (nilsE a k) := by
    intro a k
    induction k with
    | zero => exact ins_nm _ fun x hx => by simp [nilsE] at hx
    | succ k ih =>
      rw [nilsE_succ]
      refine ih.append (ins_nm _ fun x hx => ?_)
      simp only [List.mem_cons, List.not_mem_nil, or_false] at hx
      rcases hx with rfl | rfl <;> rfl
  unfold pieceE headE
  refine ((((?_ : NmOk _).append (hs _ _)).append ?_).append (hn _ _)).append ?_
  · intro x hx
    simp only [List.mem_cons, List.not_mem_nil, or_false] at hx
    rcases hx with rfl | rfl
    · exact hg
    · exact nm0
  · intro x hx
    simp only [List.mem_cons, List.not_mem_nil, or_false] at hx
    subst hx
    exact nm0
  · intro x hx
    obtain ⟨y, hy, rfl⟩ := List.mem_map.1 hx
    unfold standE
    repeat' split
    all_goals first | exact nm0 | exact h y hy
theorem build_nm {P : Nat → Prop} {w : World} {cv : Value} {xs : List QC} (hC : IsClasses P w cv xs) {sites : List Int} {m : QM} (hm : NmOk m.code) : ∀ k : Nat, NmOk (buildB xs sites m k).code
  | 0 => fun x hx => by simp [buildB] at hx
  | k + 1 => by
    have ih := build_nm hC (sites := sites) hm k
    unfold buildB
    split
    · exact ih
    · rename_i x hx
      generalize buildB xs sites m k = s at *
      unfold stepB
      split
      · refine ih.append fun y hy => ?_
        simp at hy
        subst hy
        have := hm x (List.mem_of_getElem? hx)
        unfold stayE
        split <;> exact this
      · rename_i leaf hw
        refine ih.append (piece_nm ?_ _ nm0 _ _)
        unfold whoE at hw
        split at hw
        · cases hw
        · rename_i lf hst
          split at hw
          · cases hw
            unfold standsIn at hst
            split at hst
            · split at hst
              · cases hst
              · rename_i m' hm'
                split at hst
                · cases hst; exact nm_of hC (methOf_at hm')
                · cases hst
            · cases hst
          · cases hw
theorem led_nm {begins : List Int} {plain code : List QI} (h : NmOk code) : ∀ k, NmOk (ledE begins plain code k)
  | 0 => h
  | k + 1 => by
    have ih := led_nm (begins := begins) (plain := plain) h k
    unfold ledE
    split
    · split
      · intro x hx
        obtain ⟨i, hi⟩ := List.mem_iff_getElem?.1 hx
        rw [List.getElem?_modify] at hi
        cases hc : (ledE begins plain code k)[i]? with
        | none => rw [hc] at hi; simp at hi
        | some y =>
          rw [hc] at hi
          have := ih y (List.mem_of_getElem? hc)
          simp at hi
          split at hi <;> (rw [← hi]; exact this)
      · exact ih
    · exact ih
theorem ownI_src {w : World} {B cap : Nat} {ad : Addr} {code : List QI} (h : OwnI w B (some ad) cap code) : ∀ j u, (icells code)[j]? = some u → w.cell? (ad.add j) = some u := by
  obtain ⟨h1, h2 | ⟨g, o, c, cur, e, h3, h4, h5, h6, h7, h8⟩⟩ := h
  · cases h2.1
  · cases e
    intro j u hu
    rw [← h8, List.getElem?_take] at hu
    split at hu
    · rw [List.getElem?_drop] at hu
      rw [Addr.add_lit, cell_of_row _ _ _ _ _ _ h4]
      simpa using hu
    · cases hu
set_option maxHeartbeats 8000000 in
theorem methodC_any {P Q : Nat → Prop} (X : QW) (hX : rightE X = 0) (c k : Int) (m : QM) (hm : methAt X.classes c k = some m) (sites : List Int) (cv hv sv : Value) (w : World) (hC : IsClasses P w cv X.classes) (hH : IsHeap P w hv X.heap) (hS : IsInts Q w sv sites) :
    Calls Try.prog 7 #[WV cv hv X.epoch, .int .i64 c, .int .i64 k, sv] w fun e w' => MtPost w (fastM X c m sites) e w' := by
  obtain ⟨ac, cc, rfl, -, hcc, -, hrowC⟩ := id (bound_classes hC)
  obtain ⟨ah, ch, rfl, -⟩ := id hH
  obtain ⟨asv, cs, rfl, hls, hcs, -, hrowS⟩ := id hS
  unfold maxLen at hcs hcc
  have hSm := meth_small hX hm
  obtain ⟨qc, tc, xc, rfl, rfl, hxc, hmt⟩ := meth_at hm
  obtain ⟨b1, o1, hb1e, -, -, -, -, -, mv, u3, hms⟩ := hrowC qc xc hxc
  obtain ⟨am, cm, rfl, hlm, hcm, -, hrm⟩ := hms
  obtain ⟨b2, o2, rfl, -, v0, v1, v2, v3, -, kv, v4, hco⟩ := hrm tc m hmt
  obtain ⟨ak, ck, rfl, hlk, hck, -, hrowK⟩ := id hco
  subst hb1e
  simp only [Nat.add_zero] at v0
  unfold maxLen at hcm hck
  have hq := lt_of_get hxc
  have ht := lt_of_get hmt
  have hq1 : (qc : Int) < (X.classes.length : Int) := by omega
  have hq0 : (0 : Int) ≤ (qc : Int) := by omega
  have ht1 : (tc : Int) < (xc.methods.length : Int) := by omega
  have ht0 : (0 : Int) ≤ (tc : Int) := by omega
  have hmk := make_ints m.code.length (by have := hSm.len; omega)
  have hbW := bel2 w (.cells #[.slice (some ⟨b1, o1, none⟩) X.classes.length cc, .slice ah X.heap.length ch, .int .i64 X.epoch] 25) (.cells #[.int .i64 0, .string ⟨#[]⟩, .int .i64 0, .int .i64 0, .slice none 0 0] 31)
  go_enter Try.func7, Try.ntmps7
  go_wp2_with fail
  refine (ihas_any X (qc : Int) (tc : Int) _ _ _ (hC.later goodC hbW) (hH.later goodO hbW)).mono ?_
  rintro e w1 ⟨rfl, hb1⟩
  rw [show methQ X.classes (qc : Int) (tc : Int) = some m from hm]
  dsimp only
  have hB1 := nstep hbW hb1
  have zz := rbx_new w (.slice (some ⟨b1, o1, none⟩) X.classes.length cc) (.slice ah X.heap.length ch) X.epoch
  replace zz := zz.later hb1
  have zw := zz
  replace u3 := cell_later hB1 u3
  replace v0 := cell_later hB1 v0
  replace v1 := cell_later hB1 v1
  replace v2 := cell_later hB1 v2
  replace v3 := cell_later hB1 v3
  replace v4 := cell_later hB1 v4
  obtain ⟨k0, k1, k2, -, -, -, -, -, -, hzz⟩ := id zz
  have kk2 := cell_later (bel1 w1 (.cells #[.string m.name, .int .i64 m.args, .int .i64 m.temps, .int .i64 m.prim, .slice ak m.code.length ck] 48)) k2
  have hbZ : Below w1.heap.size w1 (((w1.alloc (.cells #[.string m.name, .int .i64 m.args, .int .i64 m.temps, .int .i64 m.prim, .slice ak m.code.length ck] 48)).alloc (.cells #[.int .i64 (qc : Int), .string m.name, .int .i64 X.epoch, .int .i64 m.temps, .slice none 0 0] 31)).alloc (hRow (List.replicate m.code.length 0))) := bel3 _ _ _ _
  have hL0 : MtL (((w1.alloc (.cells #[.string m.name, .int .i64 m.args, .int .i64 m.temps, .int .i64 m.prim, .slice ak m.code.length ck] 48)).alloc (.cells #[.int .i64 (qc : Int), .string m.name, .int .i64 X.epoch, .int .i64 m.temps, .slice none 0 0] 31)).alloc (hRow (List.replicate m.code.length 0))) w1.heap.size m (.slice ak m.code.length ck) (qc : Int) X.epoch m.temps [] (List.replicate m.code.length 0) none 0 (((w1.alloc (.cells #[.string m.name, .int .i64 m.args, .int .i64 m.temps, .int .i64 m.prim, .slice ak m.code.length ck] 48)).alloc (.cells #[.int .i64 (qc : Int), .string m.name, .int .i64 X.epoch, .int .i64 m.temps, .slice none 0 0] 31)).alloc (hRow (List.replicate m.code.length 0))) := mtL_new w1 m (.slice ak m.code.length ck) (qc : Int) X.epoch m.temps m.code.length ()
  go_upto_region 6 with (fail)
  clear hmk k0 k1 k2 kk2 u3 v0 v1 v2 v3 v4 hrowC hrm
  simp only [Nat.add_assoc, Nat.reduceAdd]
  generalize hZ : (((w1.alloc (.cells #[.string m.name, .int .i64 m.args, .int .i64 m.temps, .int .i64 m.prim, .slice ak m.code.length ck] 48)).alloc (.cells #[.int .i64 (qc : Int), .string m.name, .int .i64 X.epoch, .int .i64 m.temps, .slice none 0 0] 31)).alloc (hRow (List.replicate m.code.length 0))) = Z at *
  have hzZ := zz.later hbZ
  have hBZ := nstep hB1 hbZ
  have hwb : w.heap.size + 2 ≤ w1.heap.size := zz.sz
  clear hZ hbZ hbW hb1 hB1 zz zw
  generalize w1.heap.size = bm at *
  have hn60 := hSm.len
  have m4 := hL0.m4
  go_wp2
  clear m4
  go_loopg [13, 49] m.code.length (fun gk pv iv wr => MtR X sites Z bm m (.slice ak m.code.length ck) (qc : Int) gk pv iv wr)
  case atStart => exact ⟨0, none, 0, by omega, rfl, rfl, by simpa [buildB] using hL0⟩
  case round =>
    clear hL0
    obtain ⟨j, a, cap, hj, rfl, rfl, hL⟩ := hrel
    by_cases hlt : j < m.code.length
    · have hxj : m.code[j]? = some m.code[j] := by simp [hlt]
      obtain ⟨bk, ok, hke, hbk, u0, u1, u2, u3, u4, -⟩ := hrowK j _ hxj
      subst hke
      generalize m.code[j] = x at *
      have HXJ := hid hxj
      obtain ⟨i1, i2, i3, i4⟩ := build_small hX hSm (sites := sites) (k := j) (by omega)
      have HBG := hid (build_begins (xs := X.classes) (sites := sites) (m := m) (k := j) (by omega))
      have HST := hid (fun (hw : whoE X.classes sites m.code.length (buildB X.classes sites m j).code.length (buildB X.classes sites m j).temps j x = none) {a' : Option Addr} {cap' : Nat} {W : World} h => mt_stay (Z := Z) (bm := bm) (kv := .slice (some ⟨bk, ok, none⟩) m.code.length ck) (c := (qc : Int)) (a' := a') (cap' := cap') (W := W) hxj hw h)
      have HPC := hid (fun (leaf : QM) (hw : whoE X.classes sites m.code.length (buildB X.classes sites m j).code.length (buildB X.classes sites m j).temps j x = some leaf) {a' : Option Addr} {cap' : Nat} {W : World} h => mt_piece (Z := Z) (bm := bm) (kv := .slice (some ⟨bk, ok, none⟩) m.code.length ck) (c := (qc : Int)) (a' := a') (cap' := cap') (W := W) hxj hw h)
      have HWH : Hid (∀ st, standsIn X.classes sites j x = st → whoE X.classes sites m.code.length (buildB X.classes sites m j).code.length (buildB X.classes sites m j).temps j x = match st with | none => none | some leaf => if roomE (buildB X.classes sites m j).code.length (buildB X.classes sites m j).temps leaf ((m.code.length : Int) - j) = true then some leaf else none) := fun st h => by subst h; rfl
      generalize buildB X.classes sites m j = s at *
      clear hxj hrowK
      simp only [Nat.add_zero] at u0
      replace u0 := hL.old (by omega) (cell_later hBZ u0)
      replace u1 := hL.old (by omega) (cell_later hBZ u1)
      replace u2 := hL.old (by omega) (cell_later hBZ u2)
      replace u3 := hL.old (by omega) (cell_later hBZ u3)
      replace u4 := hL.old (by omega) (cell_later hBZ u4)
      have hszr := hL.sz
      have hj1 : (j : Int) < (m.code.length : Int) := by omega
      have hj0 : (0 : Int) ≤ (j : Int) := by omega
      have hbx := bel1 wr (.cells #[.int .i64 x.op, .int .i64 x.a, .int .i64 x.b, .int .i64 x.c, .string x.name] 54)
      have hLa := hL.later hbx
      have f4 := hLa.f4
      have hg0 : (s.begins ++ List.replicate (m.code.length - j) 0)[j]? = some 0 := by rw [List.getElem?_append_right (by have := HBG.out; omega), HBG.out, Nat.sub_self, List.getElem?_replicate, if_pos (by omega)]
      have gc := hLa.g hg0
      have gf := hLa.gf
      have hL1 := hLa.setG j (s.code.length : Int)
      have xbox : (wr.alloc (.cells #[.int .i64 x.op, .int .i64 x.a, .int .i64 x.b, .int .i64 x.c, .string x.name] 54)).heap[wr.heap.size]? = some (.cells #[.int .i64 x.op, .int .i64 x.a, .int .i64 x.b, .int .i64 x.c, .string x.name] 54 (0, 0)) := heap_alloc_new _ _
      have xbox1 : ((wr.alloc (.cells #[.int .i64 x.op, .int .i64 x.a, .int .i64 x.b, .int .i64 x.c, .string x.name] 54)).setCell ⟨bm + 2, j, none⟩ (.int .i64 (s.code.length : Int))).heap[wr.heap.size]? = some (.cells #[.int .i64 x.op, .int .i64 x.a, .int .i64 x.b, .int .i64 x.c, .string x.name] 54 (0, 0)) := by rw [setCell_else (by omega)]; exact xbox
      have HBX : Hid (some wr.heap.size ≠ (Value.slice a s.code.length cap).ownBlock) := fun e => by have := (hL.own.lt _ e.symm).2; omega
      have HCAP := hid hL.capOk
      clear hL hLa hbx xbox
      go_upto_region 11 with (fail)
      generalize ((wr.alloc (.cells #[.int .i64 x.op, .int .i64 x.a, .int .i64 x.b, .int .i64 x.c, .string x.name] 54)).setCell ⟨bm + 2, j, none⟩ (.int .i64 (s.code.length : Int))) = V0 at *
      generalize wr.heap.size = bx at *
      clear f4 gc gf u0 u1 u2 u3 u4
      have k0 := hL1.old (by omega) hzZ.w0
      have k1 := hL1.old (by omega) hzZ.w1
      have k2 := hL1.old (by omega) hzZ.w2
      have y0 : V0.cell? ⟨bx, 0, none⟩ = some (.int .i64 x.op) := by rw [cell_of_row _ _ _ _ _ _ xbox1]; rfl
      have y1 : V0.cell? ⟨bx, 1, none⟩ = some (.int .i64 x.a) := by rw [cell_of_row _ _ _ _ _ _ xbox1]; rfl
      have y2 : V0.cell? ⟨bx, 2, none⟩ = some (.int .i64 x.b) := by rw [cell_of_row _ _ _ _ _ _ xbox1]; rfl
      have y3 : V0.cell? ⟨bx, 3, none⟩ = some (.int .i64 x.c) := by rw [cell_of_row _ _ _ _ _ _ xbox1]; rfl
      have y4 : V0.cell? ⟨bx, 4, none⟩ = some (.string x.name) := by rw [cell_of_row _ _ _ _ _ _ xbox1]; rfl
      have hBV0 := hL1.below hBZ (by omega)
      go_wp2_with fail
      refine (leafAt_any X sites j x _ _ _ V0 (hC.later goodC hBV0) (hH.later goodO hBV0) (hS.later goodN hBV0)).mono ?_
      rintro e w3 ⟨leaf, al, cl, rfl, hlf, hlc, hb3⟩
      dsimp only
      have hbL := bel1 w3 (.cells #[.string leaf.name, .int .i64 leaf.args, .int .i64 leaf.temps, .int .i64 leaf.prim, .slice al leaf.code.length cl] 48)
      have hb0V := nstep hb3 hbL
      have hL := hL1.later hb0V
      have hlc' := hlc.later goodI hbL
      have lbox : (w3.alloc (.cells #[.string leaf.name, .int .i64 leaf.args, .int .i64 leaf.temps, .int .i64 leaf.prim, .slice al leaf.code.length cl] 48)).heap[w3.heap.size]? = some (.cells #[.string leaf.name, .int .i64 leaf.args, .int .i64 leaf.temps, .int .i64 leaf.prim, .slice al leaf.code.length cl] 48 (0, 0)) := heap_alloc_new _ _
      have xboxV := box_later' xbox1 hb0V
      have HBLw : Hid (V0.heap.size ≤ w3.heap.size) := hb3.size
      have hblm : bm + 3 ≤ w3.heap.size := by have := hL1.sz; have := hb3.size; omega
      have HV0 := hid hL1.own
      clear k0 k1 k2 y0 y1 y2 y3 y4 xbox1 hlc hL1 hBV0
      go_upto_region 12 with (fail)
      generalize (w3.alloc (.cells #[.string leaf.name, .int .i64 leaf.args, .int .i64 leaf.temps, .int .i64 leaf.prim, .slice al leaf.code.length cl] 48)) = V at *
      generalize hblw : w3.heap.size = bl at *
      have HBL : Hid (some bl ≠ (Value.slice a s.code.length cap).ownBlock) := fun e => by have := (HV0.out.lt _ e.symm).2; have := HBLw.out; omega
      have xb0 : V.cell? ⟨bx, 0, none⟩ = some (.int .i64 x.op) := by rw [cell_of_row _ _ _ _ _ _ xboxV]; rfl
      have xb1 : V.cell? ⟨bx, 1, none⟩ = some (.int .i64 x.a) := by rw [cell_of_row _ _ _ _ _ _ xboxV]; rfl
      have xb2 : V.cell? ⟨bx, 2, none⟩ = some (.int .i64 x.b) := by rw [cell_of_row _ _ _ _ _ _ xboxV]; rfl
      have xb3 : V.cell? ⟨bx, 3, none⟩ = some (.int .i64 x.c) := by rw [cell_of_row _ _ _ _ _ _ xboxV]; rfl
      have xb4 : V.cell? ⟨bx, 4, none⟩ = some (.string x.name) := by rw [cell_of_row _ _ _ _ _ _ xboxV]; rfl
      have hszV := hL.sz
      obtain ⟨hcp1, hcp2⟩ := HCAP.out
      cases hst : standsIn X.classes sites j x with
      | none =>
          have HSTAY : Hid (∀ y, stayE x (j : Int) = y → ∀ a' cap' W, MtL Z bm m (.slice (some ⟨bk, ok, none⟩) m.code.length ck) (qc : Int) X.epoch s.temps (s.code ++ [y]) ((s.begins ++ List.replicate (m.code.length - j) 0).set j (s.code.length : Int)) a' cap' W → MtR X sites Z bm m (.slice (some ⟨bk, ok, none⟩) m.code.length ck) (qc : Int) (m.code.length - (j + 1)) (.int .i64 (s.pieces : Int)) (.int .i64 ((j : Int) + 1)) W) := fun y hy a' cap' W h => by subst hy; exact HST.out (HWH.out _ hst) h
          simp only [Option.isSome]
          clear hst hlf
          go_upto_region 13 with (fail)
          have hSl : ∀ w', Below V.heap.size V w' → w'.cell? ⟨bm + 1, 4, none⟩ = some (.slice a s.code.length cap) ∧ w'.cell? ⟨bx, 0, none⟩ = some (.int .i64 x.op) ∧ w'.cell? ⟨bx, 1, none⟩ = some (.int .i64 x.a) ∧ w'.cell? ⟨bx, 2, none⟩ = some (.int .i64 x.b) ∧ w'.cell? ⟨bx, 3, none⟩ = some (.int .i64 x.c) ∧ w'.cell? ⟨bx, 4, none⟩ = some (.string x.name) := fun w' hb => ⟨(hL.later hb).f4, cell_later hb xb0, cell_later hb xb1, cell_later hb xb2, cell_later hb xb3, cell_later hb xb4⟩
          have hS0 := hSl _ (Below.refl _ V).drew
          refine wp_region_late (S := fun w' => w'.cell? ⟨bm + 1, 4, none⟩ = some (.slice a s.code.length cap) ∧ w'.cell? ⟨bx, 0, none⟩ = some (.int .i64 x.op) ∧ w'.cell? ⟨bx, 1, none⟩ = some (.int .i64 x.a) ∧ w'.cell? ⟨bx, 2, none⟩ = some (.int .i64 x.b) ∧ w'.cell? ⟨bx, 3, none⟩ = some (.int .i64 x.c) ∧ w'.cell? ⟨bx, 4, none⟩ = some (.string x.name)) [8] (by kernel_rfl) ?_
          refine wpAnyM_take (i := 0) (oi := { dst := some 81, op := Op.fieldAddr 31 (Operand.tmp 11) 4, type := 0, pos := "inline.go:27", after := #[], guard := none }) (v := .pointer (some ⟨bm + 1, 4, none⟩)) (by kernel_rfl) (by kernel_rfl) rfl (by kernel_rfl) (by kernel_rfl) (by kernel_rfl) (fun _ _ _ h => h) (Or.inl ⟨by rfl, ?_⟩) (hS0) ?_
          · intro w hSw
            obtain ⟨q0, q1, q2, q3, q4, q5⟩ := hSw
            go_simp
          try simp only [Act.put, List.setIfInBounds_toArray, List.set_cons_zero, List.set_cons_succ]
          refine wpAnyM_take (i := 1) (oi := { dst := some 82, op := Op.load 29 (Operand.tmp 81), type := 29, pos := "inline.go:27", after := #[{ on := 0, ground := Ground.data }], guard := none }) (v := .slice a s.code.length cap) (by kernel_rfl) (by kernel_rfl) rfl (by kernel_rfl) (by kernel_rfl) (by kernel_rfl) (fun _ _ _ h => h) (Or.inl ⟨by rfl, ?_⟩) (hS0) ?_
          · intro w hSw
            obtain ⟨q0, q1, q2, q3, q4, q5⟩ := hSw
            go_simp
          try simp only [Act.put, List.setIfInBounds_toArray, List.set_cons_zero, List.set_cons_succ]
          refine wpAnyM_take (i := 2) (oi := { dst := some 83, op := Op.load 54 (Operand.tmp 15), type := 54, pos := "inline.go:27", after := #[], guard := none }) (v := IV x) (by kernel_rfl) (by kernel_rfl) rfl (by kernel_rfl) (by kernel_rfl) (by kernel_rfl) (fun _ _ _ h => h) (Or.inl ⟨by rfl, ?_⟩) (hS0) ?_
          · intro w hSw
            obtain ⟨q0, q1, q2, q3, q4, q5⟩ := hSw
            go_simp
          try simp only [Act.put, List.setIfInBounds_toArray, List.set_cons_zero, List.set_cons_succ]
          refine wpAnyM_take (i := 3) (oi := { dst := some 84, op := Op.move (Operand.tmp 14), type := 3, pos := "inline.go:27", after := #[], guard := none }) (v := .int .i64 (j : Int)) (by kernel_rfl) (by kernel_rfl) rfl (by kernel_rfl) (by kernel_rfl) (by kernel_rfl) (fun _ _ _ h => h) (Or.inl ⟨by rfl, ?_⟩) (hS0) ?_
          · intro w hSw
            obtain ⟨q0, q1, q2, q3, q4, q5⟩ := hSw
            go_simp
          try simp only [Act.put, List.setIfInBounds_toArray, List.set_cons_zero, List.set_cons_succ]
          refine wpAnyM_ready (rs := [4]) (by kernel_rfl) (by simp) ?_
          intro i hi
          simp only [List.mem_cons, List.not_mem_nil, or_false] at hi
          subst hi
          refine stepM (o := { dst := some 85, op := Op.call { callee := Callee.value (Operand.func 26), args := #[Operand.tmp 83, Operand.tmp 84], argTypes := #[54, 3] }, type := 54, pos := "inline.go:27", after := #[{ on := 2, ground := Ground.data }, { on := 3, ground := Ground.data }], guard := none }) rfl (fun K' hK => ?_)
          refine step_call rfl 26 (.func 26) #[.tmp 83, .tmp 84] _ rfl #[] rfl #[IV x, .int .i64 (j : Int)] (by simp [Act.eval, Act.put]) (cf26 _ _) ?_
          refine (show Calls Try.prog 26 #[IV x, .int .i64 (j : Int)] V.drew _ from (staying_any x (j : Int) V.drew).mono ?_)
          rintro e w5 ⟨rfl, hb5⟩
          refine ⟨_, rfl, ?_⟩
          have hbV5 : Below V.heap.size V w5 := nstep (Below.refl _ V).drew hb5
          obtain ⟨y, hye⟩ : ∃ y, stayE x (j : Int) = y := ⟨_, rfl⟩
          simp only [hye]
          refine hK _ _ (fun _ => ?_) ?_
          · exact hSl _ hbV5
          clear hK K'
          try simp only [Act.put, List.setIfInBounds_toArray, List.set_cons_zero, List.set_cons_succ]
          refine wpAnyM_ready (rs := [5]) (by kernel_rfl) (by simp) ?_
          intro i hi
          simp only [List.mem_cons, List.not_mem_nil, or_false] at hi
          subst hi
          refine stepM (o := { dst := some 86, op := Op.buildSlice 29 1 #[(0, Operand.tmp 85)], type := 29, pos := "inline.go:27", after := #[{ on := 4, ground := Ground.data }], guard := none }) rfl (fun K' hK => ?_)
          go_simp
          refine hK _ _ (fun _ => ?_) ?_
          · exact hSl _ (nstep hbV5 (bel1 _ _))
          clear hK K'
          try simp only [Act.put, List.setIfInBounds_toArray, List.set_cons_zero, List.set_cons_succ]
          refine wpAnyM_ready (rs := [6]) (by kernel_rfl) (by simp) ?_
          intro i hi
          simp only [List.mem_cons, List.not_mem_nil, or_false] at hi
          subst hi
          refine stepM (o := { dst := some 87, op := Op.call { callee := Callee.builtin Builtin.append, args := #[Operand.tmp 82, Operand.tmp 86], argTypes := #[29, 29] }, type := 29, pos := "inline.go:27", after := #[{ on := 1, ground := Ground.data }, { on := 5, ground := Ground.data }, { on := 4, ground := Ground.chain }], guard := none }) rfl (fun K' hK => ?_)
          have hL5 := (hL.later hbV5).later (bel1 w5 (.cells #[.int .i64 y.op, .int .i64 y.a, .int .i64 y.b, .int .i64 y.c, .string y.name] 54))
          obtain ⟨v', w', hrun, r1, r2, r3, r4⟩ := run_append_at (w := w5.alloc (.cells #[.int .i64 y.op, .int .i64 y.a, .int .i64 y.b, .int .i64 y.c, .string y.name] 54)) 29 29 54 _ 5 48 Try.underlying29 info54 rfl (by omega) (bm + 3) s.code.length (.slice a s.code.length cap) (icells s.code) hL5.own w5.heap.size [.int .i64 y.op, .int .i64 y.a, .int .i64 y.b, .int .i64 y.c, .string y.name] rfl (heap_alloc_new w5 _) (by intro u hu; simp only [List.mem_cons, List.not_mem_nil, or_false] at hu; rcases hu with h | h | h | h | h <;> (subst h; rfl)) (by unfold maxLen; omega) (by omega) hL5.sz
          obtain ⟨a', cap', rfl, -⟩ := r1.form
          refine step_append_run rfl (.tmp 82) (.tmp 86) 29 rfl (.slice a s.code.length cap) (.slice (some ⟨w5.heap.size, 0, none⟩) 1 1) (.slice a' (s.code.length + 1) cap') (by simp [Act.eval, Act.put]) (by simp [Act.eval, Act.put]) hrun ?_
          have hO' := OwnI.more (ys := [y]) r1 rfl rfl
          have hN0 := hL5.setC hO' r3
          simp only [List.length_append, List.length_cons, List.length_nil, Nat.zero_add] at hN0
          have hN := hid hN0
          have d4 : w'.cell? ⟨bm + 1, 4, none⟩ = some (.slice a s.code.length cap) := by unfold World.cell?; rw [r3.block (bm + 1) (by omega)]; exact hL5.f4
          have df : ∀ o, w'.frozen? ⟨bm + 1, o, none⟩ = false := row_free (by rw [r3.block (bm + 1) (by omega)]; exact hL5.fb)
          have hS6 : w'.cell? ⟨bm + 1, 4, none⟩ = some (.slice a s.code.length cap) ∧ w'.cell? ⟨bx, 0, none⟩ = some (.int .i64 x.op) ∧ w'.cell? ⟨bx, 1, none⟩ = some (.int .i64 x.a) ∧ w'.cell? ⟨bx, 2, none⟩ = some (.int .i64 x.b) ∧ w'.cell? ⟨bx, 3, none⟩ = some (.int .i64 x.c) ∧ w'.cell? ⟨bx, 4, none⟩ = some (.string x.name) := by
            obtain ⟨e0, e1, e2, e3, e4, e5⟩ := hSl _ (nstep hbV5 (bel1 w5 (.cells #[.int .i64 y.op, .int .i64 y.a, .int .i64 y.b, .int .i64 y.c, .string y.name] 54)))
            have hxo : ∀ o v, (w5.alloc (.cells #[.int .i64 y.op, .int .i64 y.a, .int .i64 y.b, .int .i64 y.c, .string y.name] 54)).cell? ⟨bx, o, none⟩ = some v → w'.cell? ⟨bx, o, none⟩ = some v := fun o v h => by
              unfold World.cell? at h ⊢
              rw [r4 bx (World.block_lt_of_cell? _ ⟨bx, o, none⟩ h) HBX.out]
              exact h
            exact ⟨d4, hxo _ _ e1, hxo _ _ e2, hxo _ _ e3, hxo _ _ e4, hxo _ _ e5⟩
          refine hK _ _ (fun _ => ?_) ?_
          · exact hS6
          clear hK K'
          try simp only [Act.put, List.setIfInBounds_toArray, List.set_cons_zero, List.set_cons_succ]
          refine wpAnyM_take (i := 7) (oi := { dst := some 88, op := Op.fieldAddr 31 (Operand.tmp 11) 4, type := 0, pos := "inline.go:27", after := #[{ on := 0, ground := Ground.phase }, { on := 1, ground := Ground.phase }, { on := 2, ground := Ground.phase }, { on := 3, ground := Ground.phase }, { on := 4, ground := Ground.phase }, { on := 5, ground := Ground.phase }, { on := 6, ground := Ground.phase }], guard := none }) (v := .pointer (some ⟨bm + 1, 4, none⟩)) (by kernel_rfl) (by kernel_rfl) rfl (by kernel_rfl) (by kernel_rfl) (by kernel_rfl) (fun _ _ _ h => h) (Or.inl ⟨by rfl, ?_⟩) (hS6) ?_
          · intro w hSw
            obtain ⟨q0, q1, q2, q3, q4, q5⟩ := hSw
            go_simp
          try simp only [Act.put, List.setIfInBounds_toArray, List.set_cons_zero, List.set_cons_succ]
          refine wpAnyM_ready (rs := [8]) (by kernel_rfl) (by simp) ?_
          intro i hi
          simp only [List.mem_cons, List.not_mem_nil, or_false] at hi
          subst hi
          refine stepM (o := { dst := none, op := Op.store 29 (Operand.tmp 88) (Operand.tmp 87), type := 0, pos := "inline.go:27", after := #[{ on := 7, ground := Ground.data }, { on := 6, ground := Ground.data }, { on := 6, ground := Ground.chain }, { on := 0, ground := Ground.phase }, { on := 1, ground := Ground.phase }, { on := 2, ground := Ground.phase }, { on := 3, ground := Ground.phase }, { on := 4, ground := Ground.phase }, { on := 5, ground := Ground.phase }, { on := 6, ground := Ground.phase }], guard := none }) rfl (fun K' hK => ?_)
          go_simp
          refine hK _ _ (fun h => absurd h (by decide)) ?_
          clear hK K'
          try simp only [Act.put, List.setIfInBounds_toArray, List.set_cons_zero, List.set_cons_succ]
          refine wpAnyM_done (by kernel_rfl) ?_ _
          try simp only [Act.put, List.setIfInBounds_toArray, List.set_cons_zero, List.set_cons_succ]

          have HFin := hid ((HSTAY.out y hye _ _ _ hN.out))
          go_wp2
          go_roundg (m.code.length - (j + 1))
          case measure => omega
          case rel => exact HFin.out
      | some lf =>
          obtain rfl := hlf lf hst
          obtain ⟨hsm, -, -, hop14⟩ := stands_small hX hst
          have hla := hsm.args
          have hlt' := hsm.temps
          have hll := hsm.len
          have hlx := hsm.code
          have lb0 : V.cell? ⟨bl, 0, none⟩ = some (.string leaf.name) := by rw [cell_of_row _ _ _ _ _ _ lbox]; rfl
          have lb1 : V.cell? ⟨bl, 1, none⟩ = some (.int .i64 leaf.args) := by rw [cell_of_row _ _ _ _ _ _ lbox]; rfl
          have lb2 : V.cell? ⟨bl, 2, none⟩ = some (.int .i64 leaf.temps) := by rw [cell_of_row _ _ _ _ _ _ lbox]; rfl
          have lb3 : V.cell? ⟨bl, 3, none⟩ = some (.int .i64 leaf.prim) := by rw [cell_of_row _ _ _ _ _ _ lbox]; rfl
          have lb4 : V.cell? ⟨bl, 4, none⟩ = some (.slice al leaf.code.length cl) := by rw [cell_of_row _ _ _ _ _ _ lbox]; rfl
          have f0 := hL.f0
          have f1 := hL.f1
          have f2 := hL.f2
          have f3 := hL.f3
          have f4 := hL.f4
          have m4 := hL.m4
          have hwl : IntKind.i64.wrap ((m.code.length : Int) - (j : Int)) = (m.code.length : Int) - (j : Int) := wrap_of (by omega) (by omega)
          simp only [Option.isSome]
          go_wp2_with fail
          refine (show Calls Try.prog 25 #[FsV ⟨(qc : Int), m.name, X.epoch, s.temps, []⟩ (.slice a s.code.length cap), MV leaf (.slice al leaf.code.length cl), .int .i64 ((m.code.length : Int) - (j : Int))] V _ from (roomFor_any ⟨(qc : Int), m.name, X.epoch, s.temps, []⟩ a s.code.length cap leaf al cl ((m.code.length : Int) - (j : Int)) V hla hlt' (by simp only; omega) (by omega)).mono ?_)
          rintro e w4 ⟨rfl, hb4⟩
          dsimp only
          replace hL := hL.later hb4
          replace hlc' := hlc'.later goodI hb4
          replace xb0 := cell_later hb4 xb0
          replace xb1 := cell_later hb4 xb1
          replace xb2 := cell_later hb4 xb2
          replace xb3 := cell_later hb4 xb3
          replace xb4 := cell_later hb4 xb4
          replace lbox := box_later' lbox hb4
          clear lb0 lb1 lb2 lb3 lb4 f0 f1 f2 f3 f4 m4 hszV xboxV
          have hszV := hL.sz
          by_cases hroom : roomE s.code.length s.temps leaf ((m.code.length : Int) - j) = true
          · rw [hroom]
            have HWHO : Hid (whoE X.classes sites m.code.length s.code.length s.temps j x = some leaf) := by show _ = _; rw [HWH.out _ hst]; simp [hroom]
            have hks : 0 ≤ sites.getD j (-1) := by
              unfold standsIn at hst
              split at hst
              · rename_i h; exact h.2
              · cases hst
            obtain ⟨ks, hksj⟩ : ∃ ks, sites[j]? = some ks := by
              cases h : sites[j]? with
              | none => rw [List.getD_eq_getElem?_getD, h] at hks; simp at hks
              | some ks => exact ⟨ks, rfl⟩
            have HKS : Hid (sites.getD j (-1) = ks) := by show _ = _; rw [List.getD_eq_getElem?_getD, hksj]; rfl
            have hsl : j < sites.length := lt_of_get hksj
            obtain ⟨bs, os, hse, -, y0⟩ := hrowS j ks hksj
            subst hse
            have y0' : w.cell? ⟨bs, os + j, none⟩ = some (.int .i64 ks) := by simpa [IntC] using y0
            have hbsl : bs < w.heap.size := World.block_lt_of_cell? w ⟨bs, os + j, none⟩ y0'
            have y1 := hL.old (by omega) (cell_later hBZ y0')
            have hr240 := of_decide_eq_true hroom
            have hsj1 : (j : Int) < (sites.length : Int) := by omega
            clear hst hlf hroom hb4 hb0V hbL hb3 y0 y0' hksj hks
            generalize w4 = V at *
            have hSl : ∀ w', Below V.heap.size V w' → w'.cell? ⟨bs, os + j, none⟩ = some (.int .i64 ks) ∧ w'.cell? ⟨bl, 1, none⟩ = some (.int .i64 leaf.args) := fun w' hb => ⟨cell_later hb y1, by rw [cell_of_row _ _ _ _ _ _ (box_later' lbox hb)]; rfl⟩
            have hS0 := hSl _ (Below.refl _ V).drew
            go_upto_region 14 with (fail)
            refine wp_region_late (S := fun w' => w'.cell? ⟨bs, os + j, none⟩ = some (.int .i64 ks) ∧ w'.cell? ⟨bl, 1, none⟩ = some (.int .i64 leaf.args)) [9] (by kernel_rfl) ?_
            refine wpAnyM_take (i := 0) (oi := { dst := some 89, op := Op.move (Operand.tmp 3), type := 26, pos := "inline.go:30", after := #[], guard := none }) (v := .slice (some ⟨bs, os, none⟩) sites.length cs) (by kernel_rfl) (by kernel_rfl) rfl (by kernel_rfl) (by kernel_rfl) (by kernel_rfl) (fun _ _ _ h => h) (Or.inl ⟨by rfl, ?_⟩) (hS0) ?_
            · intro w hSw
              obtain ⟨q0, q1⟩ := hSw
              go_simp
            try simp only [Act.put, List.setIfInBounds_toArray, List.set_cons_zero, List.set_cons_succ]
            refine wpAnyM_take (i := 1) (oi := { dst := some 90, op := Op.move (Operand.tmp 14), type := 3, pos := "inline.go:30", after := #[], guard := none }) (v := .int .i64 (j : Int)) (by kernel_rfl) (by kernel_rfl) rfl (by kernel_rfl) (by kernel_rfl) (by kernel_rfl) (fun _ _ _ h => h) (Or.inl ⟨by rfl, ?_⟩) (hS0) ?_
            · intro w hSw
              obtain ⟨q0, q1⟩ := hSw
              go_simp
            try simp only [Act.put, List.setIfInBounds_toArray, List.set_cons_zero, List.set_cons_succ]
            refine wpAnyM_take (i := 2) (oi := { dst := some 91, op := Op.indexAddr 26 (Operand.tmp 89) (Operand.tmp 90), type := 0, pos := "inline.go:30", after := #[{ on := 0, ground := Ground.data }, { on := 1, ground := Ground.data }], guard := none }) (v := .pointer (some ⟨bs, os + j, none⟩)) (by kernel_rfl) (by kernel_rfl) rfl (by kernel_rfl) (by kernel_rfl) (by kernel_rfl) (fun _ _ _ h => h) (Or.inl ⟨by rfl, ?_⟩) (hS0) ?_
            · intro w hSw
              obtain ⟨q0, q1⟩ := hSw
              go_simp
            try simp only [Act.put, List.setIfInBounds_toArray, List.set_cons_zero, List.set_cons_succ]
            refine wpAnyM_take (i := 3) (oi := { dst := some 92, op := Op.load 3 (Operand.tmp 91), type := 3, pos := "inline.go:30", after := #[{ on := 2, ground := Ground.data }], guard := none }) (v := .int .i64 ks) (by kernel_rfl) (by kernel_rfl) rfl (by kernel_rfl) (by kernel_rfl) (by kernel_rfl) (fun _ _ _ h => h) (Or.inl ⟨by rfl, ?_⟩) (hS0) ?_
            · intro w hSw
              obtain ⟨q0, q1⟩ := hSw
              go_simp
            try simp only [Act.put, List.setIfInBounds_toArray, List.set_cons_zero, List.set_cons_succ]
            refine wpAnyM_take (i := 4) (oi := { dst := some 93, op := Op.fieldAddr 48 (Operand.tmp 16) 1, type := 0, pos := "inline.go:30", after := #[], guard := none }) (v := .pointer (some ⟨bl, 1, none⟩)) (by kernel_rfl) (by kernel_rfl) rfl (by kernel_rfl) (by kernel_rfl) (by kernel_rfl) (fun _ _ _ h => h) (Or.inl ⟨by rfl, ?_⟩) (hS0) ?_
            · intro w hSw
              obtain ⟨q0, q1⟩ := hSw
              go_simp
            try simp only [Act.put, List.setIfInBounds_toArray, List.set_cons_zero, List.set_cons_succ]
            refine wpAnyM_take (i := 5) (oi := { dst := some 94, op := Op.load 3 (Operand.tmp 93), type := 3, pos := "inline.go:30", after := #[{ on := 4, ground := Ground.data }], guard := none }) (v := .int .i64 leaf.args) (by kernel_rfl) (by kernel_rfl) rfl (by kernel_rfl) (by kernel_rfl) (by kernel_rfl) (fun _ _ _ h => h) (Or.inl ⟨by rfl, ?_⟩) (hS0) ?_
            · intro w hSw
              obtain ⟨q0, q1⟩ := hSw
              go_simp
            try simp only [Act.put, List.setIfInBounds_toArray, List.set_cons_zero, List.set_cons_succ]
            refine wpAnyM_take (i := 6) (oi := { dst := some 95, op := Op.move (Operand.tmp 14), type := 3, pos := "inline.go:30", after := #[], guard := none }) (v := .int .i64 (j : Int)) (by kernel_rfl) (by kernel_rfl) rfl (by kernel_rfl) (by kernel_rfl) (by kernel_rfl) (fun _ _ _ h => h) (Or.inl ⟨by rfl, ?_⟩) (hS0) ?_
            · intro w hSw
              obtain ⟨q0, q1⟩ := hSw
              go_simp
            try simp only [Act.put, List.setIfInBounds_toArray, List.set_cons_zero, List.set_cons_succ]
            refine wpAnyM_take (i := 7) (oi := { dst := some 96, op := Op.build 54 #[(0, Operand.const (Value.int IntKind.i64 18)), (1, Operand.tmp 92), (2, Operand.tmp 94), (3, Operand.tmp 95)], type := 54, pos := "inline.go:30", after := #[{ on := 3, ground := Ground.data }, { on := 5, ground := Ground.data }, { on := 6, ground := Ground.data }], guard := none }) (v := .agg #[.int .i64 18, .int .i64 ks, .int .i64 leaf.args, .int .i64 (j : Int), .string ⟨#[]⟩]) (by kernel_rfl) (by kernel_rfl) rfl (by kernel_rfl) (by kernel_rfl) (by kernel_rfl) (fun _ _ _ h => h) (Or.inl ⟨by rfl, ?_⟩) (hS0) ?_
            · intro w hSw
              obtain ⟨q0, q1⟩ := hSw
              go_simp
            try simp only [Act.put, List.setIfInBounds_toArray, List.set_cons_zero, List.set_cons_succ]
            refine wpAnyM_ready (rs := [8]) (by kernel_rfl) (by simp) ?_
            intro i hi
            simp only [List.mem_cons, List.not_mem_nil, or_false] at hi
            subst hi
            refine stepM (o := { dst := some 18, op := Op.alloc 54, type := 0, pos := "inline.go:30", after := #[], guard := none }) rfl (fun K' hK => ?_)
            go_simp
            refine hK _ _ (fun _ => ?_) ?_
            · exact hSl _ (nstep (Below.refl _ V).drew (bel1 _ _))
            clear hK K'
            try simp only [Act.put, List.setIfInBounds_toArray, List.set_cons_zero, List.set_cons_succ]
            refine wpAnyM_ready (rs := [9]) (by kernel_rfl) (by simp) ?_
            intro i hi
            simp only [List.mem_cons, List.not_mem_nil, or_false] at hi
            subst hi
            refine stepM (o := { dst := none, op := Op.store 54 (Operand.tmp 18) (Operand.tmp 96), type := 0, pos := "inline.go:30", after := #[{ on := 8, ground := Ground.data }, { on := 7, ground := Ground.data }, { on := 0, ground := Ground.phase }, { on := 1, ground := Ground.phase }, { on := 2, ground := Ground.phase }, { on := 3, ground := Ground.phase }, { on := 4, ground := Ground.phase }, { on := 5, ground := Ground.phase }, { on := 6, ground := Ground.phase }, { on := 7, ground := Ground.phase }, { on := 8, ground := Ground.phase }], guard := none }) rfl (fun K' hK => ?_)
            go_simp
            refine hK _ _ (fun h => absurd h (by decide)) ?_
            clear hK K'
            try simp only [Act.put, List.setIfInBounds_toArray, List.set_cons_zero, List.set_cons_succ]
            refine wpAnyM_done (by kernel_rfl) ?_ _
            try simp only [Act.put, List.setIfInBounds_toArray, List.set_cons_zero, List.set_cons_succ]
            have hbU : Below V.heap.size V (V.alloc (.cells #[.int .i64 18, .int .i64 ks, .int .i64 leaf.args, .int .i64 (j : Int), .string ⟨#[]⟩] 54)).drew := (bel1 _ _).drew
            have gbox : (V.alloc (.cells #[.int .i64 18, .int .i64 ks, .int .i64 leaf.args, .int .i64 (j : Int), .string ⟨#[]⟩] 54)).drew.heap[V.heap.size]? = some (.cells #[.int .i64 18, .int .i64 ks, .int .i64 leaf.args, .int .i64 (j : Int), .string ⟨#[]⟩] 54 (0, 0)) := heap_alloc_new V _
            have HBQ : Hid (some V.heap.size ≠ (Value.slice a s.code.length cap).ownBlock) := fun e => by have := (hL.own.lt _ e.symm).2; omega
            replace hL := hL.later hbU
            have hlc := hlc'.later goodI hbU
            replace lbox := box_later' lbox hbU
            clear hSl hS0 y1 hbU hlc' xb0 xb1 xb2 xb3 xb4
            go_upto_region 15 with (fail)
            generalize hU : (V.alloc (.cells #[.int .i64 18, .int .i64 ks, .int .i64 leaf.args, .int .i64 (j : Int), .string ⟨#[]⟩] 54)).drew = U at *
            generalize V.heap.size = bq at *
            have hSl : ∀ w', Below U.heap.size U w' → w'.cell? ⟨bm + 1, 0, none⟩ = some (.int .i64 (qc : Int)) ∧ w'.cell? ⟨bm + 1, 1, none⟩ = some (.string m.name) ∧ w'.cell? ⟨bm + 1, 2, none⟩ = some (.int .i64 X.epoch) ∧ w'.cell? ⟨bm + 1, 3, none⟩ = some (.int .i64 s.temps) ∧ w'.cell? ⟨bm + 1, 4, none⟩ = some (.slice a s.code.length cap) ∧ w'.cell? ⟨bl, 0, none⟩ = some (.string leaf.name) ∧ w'.cell? ⟨bl, 1, none⟩ = some (.int .i64 leaf.args) ∧ w'.cell? ⟨bl, 2, none⟩ = some (.int .i64 leaf.temps) ∧ w'.cell? ⟨bl, 3, none⟩ = some (.int .i64 leaf.prim) ∧ w'.cell? ⟨bl, 4, none⟩ = some (.slice al leaf.code.length cl) ∧ w'.cell? ⟨bq, 0, none⟩ = some (.int .i64 18) ∧ w'.cell? ⟨bq, 1, none⟩ = some (.int .i64 ks) ∧ w'.cell? ⟨bq, 2, none⟩ = some (.int .i64 leaf.args) ∧ w'.cell? ⟨bq, 3, none⟩ = some (.int .i64 (j : Int)) ∧ w'.cell? ⟨bq, 4, none⟩ = some (.string ⟨#[]⟩) := fun w' hb => by
              have h1 := hL.later hb
              have h2 := box_later' lbox hb
              have h3 := box_later' gbox hb
              exact ⟨h1.f0, h1.f1, h1.f2, h1.f3, h1.f4, by rw [cell_of_row _ _ _ _ _ _ h2]; rfl, by rw [cell_of_row _ _ _ _ _ _ h2]; rfl, by rw [cell_of_row _ _ _ _ _ _ h2]; rfl, by rw [cell_of_row _ _ _ _ _ _ h2]; rfl, by rw [cell_of_row _ _ _ _ _ _ h2]; rfl, by rw [cell_of_row _ _ _ _ _ _ h3]; rfl, by rw [cell_of_row _ _ _ _ _ _ h3]; rfl, by rw [cell_of_row _ _ _ _ _ _ h3]; rfl, by rw [cell_of_row _ _ _ _ _ _ h3]; rfl, by rw [cell_of_row _ _ _ _ _ _ h3]; rfl⟩
            have hS0 := hSl _ (Below.refl _ U).drew
            refine wp_region_late (S := fun w' => w'.cell? ⟨bm + 1, 0, none⟩ = some (.int .i64 (qc : Int)) ∧ w'.cell? ⟨bm + 1, 1, none⟩ = some (.string m.name) ∧ w'.cell? ⟨bm + 1, 2, none⟩ = some (.int .i64 X.epoch) ∧ w'.cell? ⟨bm + 1, 3, none⟩ = some (.int .i64 s.temps) ∧ w'.cell? ⟨bm + 1, 4, none⟩ = some (.slice a s.code.length cap) ∧ w'.cell? ⟨bl, 0, none⟩ = some (.string leaf.name) ∧ w'.cell? ⟨bl, 1, none⟩ = some (.int .i64 leaf.args) ∧ w'.cell? ⟨bl, 2, none⟩ = some (.int .i64 leaf.temps) ∧ w'.cell? ⟨bl, 3, none⟩ = some (.int .i64 leaf.prim) ∧ w'.cell? ⟨bl, 4, none⟩ = some (.slice al leaf.code.length cl) ∧ w'.cell? ⟨bq, 0, none⟩ = some (.int .i64 18) ∧ w'.cell? ⟨bq, 1, none⟩ = some (.int .i64 ks) ∧ w'.cell? ⟨bq, 2, none⟩ = some (.int .i64 leaf.args) ∧ w'.cell? ⟨bq, 3, none⟩ = some (.int .i64 (j : Int)) ∧ w'.cell? ⟨bq, 4, none⟩ = some (.string ⟨#[]⟩)) [10] (by kernel_rfl) ?_
            refine wpAnyM_take (i := 0) (oi := { dst := some 97, op := Op.fieldAddr 31 (Operand.tmp 11) 4, type := 0, pos := "inline.go:31", after := #[], guard := none }) (v := .pointer (some ⟨bm + 1, 4, none⟩)) (by kernel_rfl) (by kernel_rfl) rfl (by kernel_rfl) (by kernel_rfl) (by kernel_rfl) (fun _ _ _ h => h) (Or.inl ⟨by rfl, ?_⟩) (hS0) ?_
            · intro w hSw
              obtain ⟨q0, q1, q2, q3, q4, q5, q6, q7, q8, q9, q10, q11, q12, q13, q14⟩ := hSw
              go_simp
            try simp only [Act.put, List.setIfInBounds_toArray, List.set_cons_zero, List.set_cons_succ]
            refine wpAnyM_take (i := 1) (oi := { dst := some 98, op := Op.load 29 (Operand.tmp 97), type := 29, pos := "inline.go:31", after := #[{ on := 0, ground := Ground.data }], guard := none }) (v := .slice a s.code.length cap) (by kernel_rfl) (by kernel_rfl) rfl (by kernel_rfl) (by kernel_rfl) (by kernel_rfl) (fun _ _ _ h => h) (Or.inl ⟨by rfl, ?_⟩) (hS0) ?_
            · intro w hSw
              obtain ⟨q0, q1, q2, q3, q4, q5, q6, q7, q8, q9, q10, q11, q12, q13, q14⟩ := hSw
              go_simp
            try simp only [Act.put, List.setIfInBounds_toArray, List.set_cons_zero, List.set_cons_succ]
            refine wpAnyM_take (i := 2) (oi := { dst := some 99, op := Op.load 48 (Operand.tmp 16), type := 48, pos := "inline.go:31", after := #[], guard := none }) (v := MV leaf (.slice al leaf.code.length cl)) (by kernel_rfl) (by kernel_rfl) rfl (by kernel_rfl) (by kernel_rfl) (by kernel_rfl) (fun _ _ _ h => h) (Or.inl ⟨by rfl, ?_⟩) (hS0) ?_
            · intro w hSw
              obtain ⟨q0, q1, q2, q3, q4, q5, q6, q7, q8, q9, q10, q11, q12, q13, q14⟩ := hSw
              go_simp
            try simp only [Act.put, List.setIfInBounds_toArray, List.set_cons_zero, List.set_cons_succ]
            refine wpAnyM_take (i := 3) (oi := { dst := some 100, op := Op.load 54 (Operand.tmp 18), type := 54, pos := "inline.go:31", after := #[], guard := none }) (v := IV (ins 18 ks leaf.args (j : Int))) (by kernel_rfl) (by kernel_rfl) rfl (by kernel_rfl) (by kernel_rfl) (by kernel_rfl) (fun _ _ _ h => h) (Or.inl ⟨by rfl, ?_⟩) (hS0) ?_
            · intro w hSw
              obtain ⟨q0, q1, q2, q3, q4, q5, q6, q7, q8, q9, q10, q11, q12, q13, q14⟩ := hSw
              go_simp
            try simp only [Act.put, List.setIfInBounds_toArray, List.set_cons_zero, List.set_cons_succ]
            refine wpAnyM_take (i := 4) (oi := { dst := some 101, op := Op.load 31 (Operand.tmp 11), type := 31, pos := "inline.go:31", after := #[], guard := none }) (v := FsV ⟨(qc : Int), m.name, X.epoch, s.temps, []⟩ (.slice a s.code.length cap)) (by kernel_rfl) (by kernel_rfl) rfl (by kernel_rfl) (by kernel_rfl) (by kernel_rfl) (fun _ _ _ h => h) (Or.inl ⟨by rfl, ?_⟩) (hS0) ?_
            · intro w hSw
              obtain ⟨q0, q1, q2, q3, q4, q5, q6, q7, q8, q9, q10, q11, q12, q13, q14⟩ := hSw
              go_simp
            try simp only [Act.put, List.setIfInBounds_toArray, List.set_cons_zero, List.set_cons_succ]
            refine wpAnyM_take (i := 5) (oi := { dst := some 102, op := Op.load 48 (Operand.tmp 16), type := 48, pos := "inline.go:31", after := #[], guard := none }) (v := MV leaf (.slice al leaf.code.length cl)) (by kernel_rfl) (by kernel_rfl) rfl (by kernel_rfl) (by kernel_rfl) (by kernel_rfl) (fun _ _ _ h => h) (Or.inl ⟨by rfl, ?_⟩) (hS0) ?_
            · intro w hSw
              obtain ⟨q0, q1, q2, q3, q4, q5, q6, q7, q8, q9, q10, q11, q12, q13, q14⟩ := hSw
              go_simp
            try simp only [Act.put, List.setIfInBounds_toArray, List.set_cons_zero, List.set_cons_succ]
            refine wpAnyM_ready (rs := [6]) (by kernel_rfl) (by simp) ?_
            intro i hi
            simp only [List.mem_cons, List.not_mem_nil, or_false] at hi
            subst hi
            refine stepM (o := { dst := some 103, op := Op.call { callee := Callee.value (Operand.func 28), args := #[Operand.tmp 101, Operand.tmp 102], argTypes := #[31, 48] }, type := 83, pos := "inline.go:31", after := #[{ on := 4, ground := Ground.data }, { on := 5, ground := Ground.data }], guard := none }) rfl (fun K' hK => ?_)
            refine step_call rfl 28 (.func 28) #[.tmp 101, .tmp 102] _ rfl #[] rfl #[FsV ⟨(qc : Int), m.name, X.epoch, s.temps, []⟩ (.slice a s.code.length cap), MV leaf (.slice al leaf.code.length cl)] (by simp [Act.eval, Act.put]) (cf28 _ _) ?_
            refine (show Calls Try.prog 28 #[FsV ⟨(qc : Int), m.name, X.epoch, s.temps, []⟩ (.slice a s.code.length cap), MV leaf (.slice al leaf.code.length cl)] U.drew _ from (placeOf_any ⟨(qc : Int), m.name, X.epoch, s.temps, []⟩ a s.code.length cap leaf al cl U.drew hla hlt' (by simp only; omega) (by omega) hll).mono ?_)
            rintro e w5 ⟨rfl, hb5⟩
            refine ⟨_, rfl, ?_⟩
            have hbV5 : Below U.heap.size U w5 := nstep (Below.refl _ U).drew hb5
            simp only
            refine hK _ _ (fun _ => ?_) ?_
            · exact hSl _ hbV5
            clear hK K'
            try simp only [Act.put, List.setIfInBounds_toArray, List.set_cons_zero, List.set_cons_succ]
            refine wpAnyM_ready (rs := [7]) (by kernel_rfl) (by simp) ?_
            intro i hi
            simp only [List.mem_cons, List.not_mem_nil, or_false] at hi
            subst hi
            refine stepM (o := { dst := some 104, op := Op.call { callee := Callee.value (Operand.func 27), args := #[Operand.tmp 99, Operand.tmp 100, Operand.tmp 103], argTypes := #[48, 54, 83] }, type := 29, pos := "inline.go:31", after := #[{ on := 2, ground := Ground.data }, { on := 3, ground := Ground.data }, { on := 6, ground := Ground.data }, { on := 6, ground := Ground.chain }], guard := none }) rfl (fun K' hK => ?_)
            refine step_call rfl 27 (.func 27) #[.tmp 99, .tmp 100, .tmp 103] _ rfl #[] rfl #[MV leaf (.slice al leaf.code.length cl), IV (ins 18 ks leaf.args (j : Int)), PlV s.temps (s.temps + 1) (s.temps + 1 + leaf.args) (firstOf leaf s.code.length) (firstOf leaf s.code.length + leaf.code.length)] (by simp [Act.eval, Act.put]) (cf27 _ _) ?_
            refine (show Calls Try.prog 27 #[MV leaf (.slice al leaf.code.length cl), IV (ins 18 ks leaf.args (j : Int)), PlV s.temps (s.temps + 1) (s.temps + 1 + leaf.args) (firstOf leaf s.code.length) (firstOf leaf s.code.length + leaf.code.length)] w5 _ from (piece_any leaf (ins 18 ks leaf.args (j : Int)) s.temps s.code.length _ w5 (hlc.later goodI hbV5) hla hlt' (by omega) (by omega) hll hlx).mono ?_)
            rintro e w6 ⟨ap, cp, rfl, hOp, hb6⟩
            refine ⟨_, rfl, ?_⟩
            have hbV6 : Below U.heap.size U w6 := nstep hbV5 hb6
            refine hK _ _ (fun _ => ?_) ?_
            · exact hSl _ hbV6
            clear hK K'
            try simp only [Act.put, List.setIfInBounds_toArray, List.set_cons_zero, List.set_cons_succ]
            have HPL := hid (pieceE_len leaf (ins 18 ks leaf.args (j : Int)) s.temps s.code.length)
            obtain ⟨Pc, HPc⟩ : ∃ Pc, Hid (Pc = pieceE leaf (ins 18 ks leaf.args (j : Int)) s.temps s.code.length) := ⟨_, rfl⟩
            simp only [← HPc.out] at hOp HPL ⊢
            refine wpAnyM_ready (rs := [8]) (by kernel_rfl) (by simp) ?_
            intro i hi
            simp only [List.mem_cons, List.not_mem_nil, or_false] at hi
            subst hi
            refine stepM (o := { dst := some 105, op := Op.call { callee := Callee.builtin Builtin.append, args := #[Operand.tmp 98, Operand.tmp 104], argTypes := #[29, 29] }, type := 29, pos := "inline.go:31", after := #[{ on := 1, ground := Ground.data }, { on := 7, ground := Ground.data }, { on := 7, ground := Ground.chain }], guard := none }) rfl (fun K' hK => ?_)
            have hL6 := hL.later hbV6
            have hp3 : 0 < Pc.length := by have := HPL.out; omega
            have hpl : Pc.length ≤ 100 := by have := HPL.out; omega
            obtain ⟨adp, hap⟩ : ∃ adp, ap = some adp := by
              obtain ⟨-, h | ⟨g', o', c', cur, e, -⟩⟩ := hOp
              · have := h.2; omega
              · cases e; exact ⟨_, rfl⟩
            subst hap
            obtain ⟨v', w', hrun, r1, r2, r3, r4⟩ := run_append_n (w := w6) 29 29 54 _ 5 48 Try.underlying29 info54 rfl (by omega) (bm + 3) s.code.length (.slice a s.code.length cap) (icells s.code) hL6.own adp Pc.length cp hp3 (icells Pc) (icells_len _) (ownI_src hOp) (icells_one _) (by unfold maxLen; omega) (by omega) hL6.sz
            obtain ⟨a', cap', rfl, -⟩ := r1.form
            refine step_append_run rfl (.tmp 98) (.tmp 104) 29 rfl (.slice a s.code.length cap) (.slice (some adp) Pc.length cp) (.slice a' (s.code.length + Pc.length) cap') (by simp [Act.eval, Act.put]) (by simp [Act.eval, Act.put]) hrun ?_
            have hO' := OwnI.more (ys := Pc) r1 rfl rfl
            have hN0 := hL6.setC hO' r3
            simp only [List.length_append] at hN0
            have hN := hid hN0
            have d4 : w'.cell? ⟨bm + 1, 4, none⟩ = some (.slice a s.code.length cap) := by unfold World.cell?; rw [r3.block (bm + 1) (by omega)]; exact hL6.f4
            have df : ∀ o, w'.frozen? ⟨bm + 1, o, none⟩ = false := row_free (by rw [r3.block (bm + 1) (by omega)]; exact hL6.fb)
            have hS6 : w'.cell? ⟨bm + 1, 0, none⟩ = some (.int .i64 (qc : Int)) ∧ w'.cell? ⟨bm + 1, 1, none⟩ = some (.string m.name) ∧ w'.cell? ⟨bm + 1, 2, none⟩ = some (.int .i64 X.epoch) ∧ w'.cell? ⟨bm + 1, 3, none⟩ = some (.int .i64 s.temps) ∧ w'.cell? ⟨bm + 1, 4, none⟩ = some (.slice a s.code.length cap) ∧ w'.cell? ⟨bl, 0, none⟩ = some (.string leaf.name) ∧ w'.cell? ⟨bl, 1, none⟩ = some (.int .i64 leaf.args) ∧ w'.cell? ⟨bl, 2, none⟩ = some (.int .i64 leaf.temps) ∧ w'.cell? ⟨bl, 3, none⟩ = some (.int .i64 leaf.prim) ∧ w'.cell? ⟨bl, 4, none⟩ = some (.slice al leaf.code.length cl) ∧ w'.cell? ⟨bq, 0, none⟩ = some (.int .i64 18) ∧ w'.cell? ⟨bq, 1, none⟩ = some (.int .i64 ks) ∧ w'.cell? ⟨bq, 2, none⟩ = some (.int .i64 leaf.args) ∧ w'.cell? ⟨bq, 3, none⟩ = some (.int .i64 (j : Int)) ∧ w'.cell? ⟨bq, 4, none⟩ = some (.string ⟨#[]⟩) := by
              obtain ⟨e0, e1, e2, e3, e4, l0, l1, l2, l3, l4, g0, g1, g2, g3, g4⟩ := hSl _ hbV6
              have hxo : ∀ b, some b ≠ (Value.slice a s.code.length cap).ownBlock → ∀ o v, w6.cell? ⟨b, o, none⟩ = some v → w'.cell? ⟨b, o, none⟩ = some v := fun b hb o v h => by
                unfold World.cell? at h ⊢
                rw [r4 b (World.block_lt_of_cell? _ ⟨b, o, none⟩ h) hb]
                exact h
              have hf : ∀ o v, w6.cell? ⟨bm + 1, o, none⟩ = some v → w'.cell? ⟨bm + 1, o, none⟩ = some v := fun o v h => by unfold World.cell? at h ⊢; rw [r3.block (bm + 1) (by omega)]; exact h
              exact ⟨hf _ _ e0, hf _ _ e1, hf _ _ e2, hf _ _ e3, hf _ _ e4, hxo _ HBL.out _ _ l0, hxo _ HBL.out _ _ l1, hxo _ HBL.out _ _ l2, hxo _ HBL.out _ _ l3, hxo _ HBL.out _ _ l4, hxo _ HBQ.out _ _ g0, hxo _ HBQ.out _ _ g1, hxo _ HBQ.out _ _ g2, hxo _ HBQ.out _ _ g3, hxo _ HBQ.out _ _ g4⟩
            refine hK _ _ (fun _ => ?_) ?_
            · exact hS6
            clear hK K'
            try simp only [Act.put, List.setIfInBounds_toArray, List.set_cons_zero, List.set_cons_succ]
            refine wpAnyM_take (i := 9) (oi := { dst := some 106, op := Op.fieldAddr 31 (Operand.tmp 11) 4, type := 0, pos := "inline.go:31", after := #[{ on := 0, ground := Ground.phase }, { on := 1, ground := Ground.phase }, { on := 2, ground := Ground.phase }, { on := 3, ground := Ground.phase }, { on := 4, ground := Ground.phase }, { on := 5, ground := Ground.phase }, { on := 6, ground := Ground.phase }, { on := 7, ground := Ground.phase }, { on := 8, ground := Ground.phase }], guard := none }) (v := .pointer (some ⟨bm + 1, 4, none⟩)) (by kernel_rfl) (by kernel_rfl) rfl (by kernel_rfl) (by kernel_rfl) (by kernel_rfl) (fun _ _ _ h => h) (Or.inl ⟨by rfl, ?_⟩) (hS6) ?_
            · intro w hSw
              obtain ⟨q0, q1, q2, q3, q4, q5, q6, q7, q8, q9, q10, q11, q12, q13, q14⟩ := hSw
              go_simp
            try simp only [Act.put, List.setIfInBounds_toArray, List.set_cons_zero, List.set_cons_succ]
            refine wpAnyM_ready (rs := [10]) (by kernel_rfl) (by simp) ?_
            intro i hi
            simp only [List.mem_cons, List.not_mem_nil, or_false] at hi
            subst hi
            refine stepM (o := { dst := none, op := Op.store 29 (Operand.tmp 106) (Operand.tmp 105), type := 0, pos := "inline.go:31", after := #[{ on := 9, ground := Ground.data }, { on := 8, ground := Ground.data }, { on := 8, ground := Ground.chain }, { on := 0, ground := Ground.phase }, { on := 1, ground := Ground.phase }, { on := 2, ground := Ground.phase }, { on := 3, ground := Ground.phase }, { on := 4, ground := Ground.phase }, { on := 5, ground := Ground.phase }, { on := 6, ground := Ground.phase }, { on := 7, ground := Ground.phase }, { on := 8, ground := Ground.phase }], guard := none }) rfl (fun K' hK => ?_)
            go_simp
            refine hK _ _ (fun h => absurd h (by decide)) ?_
            clear hK K'
            try simp only [Act.put, List.setIfInBounds_toArray, List.set_cons_zero, List.set_cons_succ]
            refine wpAnyM_done (by kernel_rfl) ?_ _
            try simp only [Act.put, List.setIfInBounds_toArray, List.set_cons_zero, List.set_cons_succ]
            have hMN := hN.out
            have f3 := hMN.f3
            have ff := hMN.ff
            obtain ⟨-, -, -, -, -, -, l1', l2', -, -, -, -, -, -, -⟩ := hS6
            have l1 := cfar (b' := bm + 1) (o' := 4) (u := .slice a' (s.code.length + Pc.length) cap') l1' (by omega)
            have l2 := cfar (b' := bm + 1) (o' := 4) (u := .slice a' (s.code.length + Pc.length) cap') l2' (by omega)
            have h1 : IntKind.i64.wrap (1 + leaf.args) = 1 + leaf.args := wrap_of (by omega) (by omega)
            have h2 : IntKind.i64.wrap (1 + leaf.args + leaf.temps) = 1 + leaf.args + leaf.temps := wrap_of (by omega) (by omega)
            have h3 : IntKind.i64.wrap (s.temps + (1 + leaf.args + leaf.temps)) = s.temps + 1 + leaf.args + leaf.temps := by rw [wrap_of (by omega) (by omega)]; omega
            have h4 : IntKind.i64.wrap ((s.pieces : Int) + 1) = (s.pieces : Int) + 1 := wrap_of (by omega) (by omega)
            have HFin := hid (HPC.out leaf HWHO.out (by rw [HKS.out, ← HPc.out]; exact hMN.setT (s.temps + 1 + leaf.args + leaf.temps)))
            generalize (w'.setCell ⟨bm + 1, 4, none⟩ (.slice a' (s.code.length + Pc.length) cap')) = W6 at *
            clear hN hMN hN0 hL6 hOp r1 r2 r3 r4 hO' d4 df l1' l2' hSl hS0
            go_wp2
            go_roundg (m.code.length - (j + 1))
            case measure => omega
            case rel => exact HFin.out
          · have hroom' : roomE s.code.length s.temps leaf ((m.code.length : Int) - j) = false := by simpa using hroom
            rw [hroom']
            have HSTAY : Hid (∀ y, stayE x (j : Int) = y → ∀ a' cap' W, MtL Z bm m (.slice (some ⟨bk, ok, none⟩) m.code.length ck) (qc : Int) X.epoch s.temps (s.code ++ [y]) ((s.begins ++ List.replicate (m.code.length - j) 0).set j (s.code.length : Int)) a' cap' W → MtR X sites Z bm m (.slice (some ⟨bk, ok, none⟩) m.code.length ck) (qc : Int) (m.code.length - (j + 1)) (.int .i64 (s.pieces : Int)) (.int .i64 ((j : Int) + 1)) W) := fun y hy a' cap' W h => by subst hy; exact HST.out (by rw [HWH.out _ hst]; simp [hroom']) h
            clear hst hlf hroom hroom' hb4 hb0V hbL hb3
            generalize w4 = V at *
            go_upto_region 13 with (fail)
            have hSl : ∀ w', Below V.heap.size V w' → w'.cell? ⟨bm + 1, 4, none⟩ = some (.slice a s.code.length cap) ∧ w'.cell? ⟨bx, 0, none⟩ = some (.int .i64 x.op) ∧ w'.cell? ⟨bx, 1, none⟩ = some (.int .i64 x.a) ∧ w'.cell? ⟨bx, 2, none⟩ = some (.int .i64 x.b) ∧ w'.cell? ⟨bx, 3, none⟩ = some (.int .i64 x.c) ∧ w'.cell? ⟨bx, 4, none⟩ = some (.string x.name) := fun w' hb => ⟨(hL.later hb).f4, cell_later hb xb0, cell_later hb xb1, cell_later hb xb2, cell_later hb xb3, cell_later hb xb4⟩
            have hS0 := hSl _ (Below.refl _ V).drew
            refine wp_region_late (S := fun w' => w'.cell? ⟨bm + 1, 4, none⟩ = some (.slice a s.code.length cap) ∧ w'.cell? ⟨bx, 0, none⟩ = some (.int .i64 x.op) ∧ w'.cell? ⟨bx, 1, none⟩ = some (.int .i64 x.a) ∧ w'.cell? ⟨bx, 2, none⟩ = some (.int .i64 x.b) ∧ w'.cell? ⟨bx, 3, none⟩ = some (.int .i64 x.c) ∧ w'.cell? ⟨bx, 4, none⟩ = some (.string x.name)) [8] (by kernel_rfl) ?_
            refine wpAnyM_take (i := 0) (oi := { dst := some 81, op := Op.fieldAddr 31 (Operand.tmp 11) 4, type := 0, pos := "inline.go:27", after := #[], guard := none }) (v := .pointer (some ⟨bm + 1, 4, none⟩)) (by kernel_rfl) (by kernel_rfl) rfl (by kernel_rfl) (by kernel_rfl) (by kernel_rfl) (fun _ _ _ h => h) (Or.inl ⟨by rfl, ?_⟩) (hS0) ?_
            · intro w hSw
              obtain ⟨q0, q1, q2, q3, q4, q5⟩ := hSw
              go_simp
            try simp only [Act.put, List.setIfInBounds_toArray, List.set_cons_zero, List.set_cons_succ]
            refine wpAnyM_take (i := 1) (oi := { dst := some 82, op := Op.load 29 (Operand.tmp 81), type := 29, pos := "inline.go:27", after := #[{ on := 0, ground := Ground.data }], guard := none }) (v := .slice a s.code.length cap) (by kernel_rfl) (by kernel_rfl) rfl (by kernel_rfl) (by kernel_rfl) (by kernel_rfl) (fun _ _ _ h => h) (Or.inl ⟨by rfl, ?_⟩) (hS0) ?_
            · intro w hSw
              obtain ⟨q0, q1, q2, q3, q4, q5⟩ := hSw
              go_simp
            try simp only [Act.put, List.setIfInBounds_toArray, List.set_cons_zero, List.set_cons_succ]
            refine wpAnyM_take (i := 2) (oi := { dst := some 83, op := Op.load 54 (Operand.tmp 15), type := 54, pos := "inline.go:27", after := #[], guard := none }) (v := IV x) (by kernel_rfl) (by kernel_rfl) rfl (by kernel_rfl) (by kernel_rfl) (by kernel_rfl) (fun _ _ _ h => h) (Or.inl ⟨by rfl, ?_⟩) (hS0) ?_
            · intro w hSw
              obtain ⟨q0, q1, q2, q3, q4, q5⟩ := hSw
              go_simp
            try simp only [Act.put, List.setIfInBounds_toArray, List.set_cons_zero, List.set_cons_succ]
            refine wpAnyM_take (i := 3) (oi := { dst := some 84, op := Op.move (Operand.tmp 14), type := 3, pos := "inline.go:27", after := #[], guard := none }) (v := .int .i64 (j : Int)) (by kernel_rfl) (by kernel_rfl) rfl (by kernel_rfl) (by kernel_rfl) (by kernel_rfl) (fun _ _ _ h => h) (Or.inl ⟨by rfl, ?_⟩) (hS0) ?_
            · intro w hSw
              obtain ⟨q0, q1, q2, q3, q4, q5⟩ := hSw
              go_simp
            try simp only [Act.put, List.setIfInBounds_toArray, List.set_cons_zero, List.set_cons_succ]
            refine wpAnyM_ready (rs := [4]) (by kernel_rfl) (by simp) ?_
            intro i hi
            simp only [List.mem_cons, List.not_mem_nil, or_false] at hi
            subst hi
            refine stepM (o := { dst := some 85, op := Op.call { callee := Callee.value (Operand.func 26), args := #[Operand.tmp 83, Operand.tmp 84], argTypes := #[54, 3] }, type := 54, pos := "inline.go:27", after := #[{ on := 2, ground := Ground.data }, { on := 3, ground := Ground.data }], guard := none }) rfl (fun K' hK => ?_)
            refine step_call rfl 26 (.func 26) #[.tmp 83, .tmp 84] _ rfl #[] rfl #[IV x, .int .i64 (j : Int)] (by simp [Act.eval, Act.put]) (cf26 _ _) ?_
            refine (show Calls Try.prog 26 #[IV x, .int .i64 (j : Int)] V.drew _ from (staying_any x (j : Int) V.drew).mono ?_)
            rintro e w5 ⟨rfl, hb5⟩
            refine ⟨_, rfl, ?_⟩
            have hbV5 : Below V.heap.size V w5 := nstep (Below.refl _ V).drew hb5
            obtain ⟨y, hye⟩ : ∃ y, stayE x (j : Int) = y := ⟨_, rfl⟩
            simp only [hye]
            refine hK _ _ (fun _ => ?_) ?_
            · exact hSl _ hbV5
            clear hK K'
            try simp only [Act.put, List.setIfInBounds_toArray, List.set_cons_zero, List.set_cons_succ]
            refine wpAnyM_ready (rs := [5]) (by kernel_rfl) (by simp) ?_
            intro i hi
            simp only [List.mem_cons, List.not_mem_nil, or_false] at hi
            subst hi
            refine stepM (o := { dst := some 86, op := Op.buildSlice 29 1 #[(0, Operand.tmp 85)], type := 29, pos := "inline.go:27", after := #[{ on := 4, ground := Ground.data }], guard := none }) rfl (fun K' hK => ?_)
            go_simp
            refine hK _ _ (fun _ => ?_) ?_
            · exact hSl _ (nstep hbV5 (bel1 _ _))
            clear hK K'
            try simp only [Act.put, List.setIfInBounds_toArray, List.set_cons_zero, List.set_cons_succ]
            refine wpAnyM_ready (rs := [6]) (by kernel_rfl) (by simp) ?_
            intro i hi
            simp only [List.mem_cons, List.not_mem_nil, or_false] at hi
            subst hi
            refine stepM (o := { dst := some 87, op := Op.call { callee := Callee.builtin Builtin.append, args := #[Operand.tmp 82, Operand.tmp 86], argTypes := #[29, 29] }, type := 29, pos := "inline.go:27", after := #[{ on := 1, ground := Ground.data }, { on := 5, ground := Ground.data }, { on := 4, ground := Ground.chain }], guard := none }) rfl (fun K' hK => ?_)
            have hL5 := (hL.later hbV5).later (bel1 w5 (.cells #[.int .i64 y.op, .int .i64 y.a, .int .i64 y.b, .int .i64 y.c, .string y.name] 54))
            obtain ⟨v', w', hrun, r1, r2, r3, r4⟩ := run_append_at (w := w5.alloc (.cells #[.int .i64 y.op, .int .i64 y.a, .int .i64 y.b, .int .i64 y.c, .string y.name] 54)) 29 29 54 _ 5 48 Try.underlying29 info54 rfl (by omega) (bm + 3) s.code.length (.slice a s.code.length cap) (icells s.code) hL5.own w5.heap.size [.int .i64 y.op, .int .i64 y.a, .int .i64 y.b, .int .i64 y.c, .string y.name] rfl (heap_alloc_new w5 _) (by intro u hu; simp only [List.mem_cons, List.not_mem_nil, or_false] at hu; rcases hu with h | h | h | h | h <;> (subst h; rfl)) (by unfold maxLen; omega) (by omega) hL5.sz
            obtain ⟨a', cap', rfl, -⟩ := r1.form
            refine step_append_run rfl (.tmp 82) (.tmp 86) 29 rfl (.slice a s.code.length cap) (.slice (some ⟨w5.heap.size, 0, none⟩) 1 1) (.slice a' (s.code.length + 1) cap') (by simp [Act.eval, Act.put]) (by simp [Act.eval, Act.put]) hrun ?_
            have hO' := OwnI.more (ys := [y]) r1 rfl rfl
            have hN0 := hL5.setC hO' r3
            simp only [List.length_append, List.length_cons, List.length_nil, Nat.zero_add] at hN0
            have hN := hid hN0
            have d4 : w'.cell? ⟨bm + 1, 4, none⟩ = some (.slice a s.code.length cap) := by unfold World.cell?; rw [r3.block (bm + 1) (by omega)]; exact hL5.f4
            have df : ∀ o, w'.frozen? ⟨bm + 1, o, none⟩ = false := row_free (by rw [r3.block (bm + 1) (by omega)]; exact hL5.fb)
            have hS6 : w'.cell? ⟨bm + 1, 4, none⟩ = some (.slice a s.code.length cap) ∧ w'.cell? ⟨bx, 0, none⟩ = some (.int .i64 x.op) ∧ w'.cell? ⟨bx, 1, none⟩ = some (.int .i64 x.a) ∧ w'.cell? ⟨bx, 2, none⟩ = some (.int .i64 x.b) ∧ w'.cell? ⟨bx, 3, none⟩ = some (.int .i64 x.c) ∧ w'.cell? ⟨bx, 4, none⟩ = some (.string x.name) := by
              obtain ⟨e0, e1, e2, e3, e4, e5⟩ := hSl _ (nstep hbV5 (bel1 w5 (.cells #[.int .i64 y.op, .int .i64 y.a, .int .i64 y.b, .int .i64 y.c, .string y.name] 54)))
              have hxo : ∀ o v, (w5.alloc (.cells #[.int .i64 y.op, .int .i64 y.a, .int .i64 y.b, .int .i64 y.c, .string y.name] 54)).cell? ⟨bx, o, none⟩ = some v → w'.cell? ⟨bx, o, none⟩ = some v := fun o v h => by
                unfold World.cell? at h ⊢
                rw [r4 bx (World.block_lt_of_cell? _ ⟨bx, o, none⟩ h) HBX.out]
                exact h
              exact ⟨d4, hxo _ _ e1, hxo _ _ e2, hxo _ _ e3, hxo _ _ e4, hxo _ _ e5⟩
            refine hK _ _ (fun _ => ?_) ?_
            · exact hS6
            clear hK K'
            try simp only [Act.put, List.setIfInBounds_toArray, List.set_cons_zero, List.set_cons_succ]
            refine wpAnyM_take (i := 7) (oi := { dst := some 88, op := Op.fieldAddr 31 (Operand.tmp 11) 4, type := 0, pos := "inline.go:27", after := #[{ on := 0, ground := Ground.phase }, { on := 1, ground := Ground.phase }, { on := 2, ground := Ground.phase }, { on := 3, ground := Ground.phase }, { on := 4, ground := Ground.phase }, { on := 5, ground := Ground.phase }, { on := 6, ground := Ground.phase }], guard := none }) (v := .pointer (some ⟨bm + 1, 4, none⟩)) (by kernel_rfl) (by kernel_rfl) rfl (by kernel_rfl) (by kernel_rfl) (by kernel_rfl) (fun _ _ _ h => h) (Or.inl ⟨by rfl, ?_⟩) (hS6) ?_
            · intro w hSw
              obtain ⟨q0, q1, q2, q3, q4, q5⟩ := hSw
              go_simp
            try simp only [Act.put, List.setIfInBounds_toArray, List.set_cons_zero, List.set_cons_succ]
            refine wpAnyM_ready (rs := [8]) (by kernel_rfl) (by simp) ?_
            intro i hi
            simp only [List.mem_cons, List.not_mem_nil, or_false] at hi
            subst hi
            refine stepM (o := { dst := none, op := Op.store 29 (Operand.tmp 88) (Operand.tmp 87), type := 0, pos := "inline.go:27", after := #[{ on := 7, ground := Ground.data }, { on := 6, ground := Ground.data }, { on := 6, ground := Ground.chain }, { on := 0, ground := Ground.phase }, { on := 1, ground := Ground.phase }, { on := 2, ground := Ground.phase }, { on := 3, ground := Ground.phase }, { on := 4, ground := Ground.phase }, { on := 5, ground := Ground.phase }, { on := 6, ground := Ground.phase }], guard := none }) rfl (fun K' hK => ?_)
            go_simp
            refine hK _ _ (fun h => absurd h (by decide)) ?_
            clear hK K'
            try simp only [Act.put, List.setIfInBounds_toArray, List.set_cons_zero, List.set_cons_succ]
            refine wpAnyM_done (by kernel_rfl) ?_ _
            try simp only [Act.put, List.setIfInBounds_toArray, List.set_cons_zero, List.set_cons_succ]

            have HFin := hid ((HSTAY.out y hye _ _ _ hN.out))
            go_wp2
            go_roundg (m.code.length - (j + 1))
            case measure => omega
            case rel => exact HFin.out
    · obtain rfl : j = m.code.length := by omega
      have HFM : Hid (fastM X (qc : Int) m sites = if (buildB X.classes sites m m.code.length).pieces = 0 then (noFast, false) else (⟨(qc : Int), m.name, X.epoch, (buildB X.classes sites m m.code.length).temps, ledE (buildB X.classes sites m m.code.length).begins m.code (buildB X.classes sites m m.code.length).code m.code.length⟩, true)) := rfl
      have HBG := hid (build_begins (xs := X.classes) (sites := sites) (m := m) (k := m.code.length) (Nat.le_refl _))
      have HPS := hid (build_pieces (xs := X.classes) (sites := sites) (m := m) m.code.length)
      have HIN := hid (build_in (xs := X.classes) (sites := sites) (m := m) m.code.length)
      have HNM := hid (build_nm hC (sites := sites) (nm_of hC hm) m.code.length)
      obtain ⟨i1, i2, i3, i4⟩ := build_small hX hSm (sites := sites) (k := m.code.length) (Nat.le_refl _)
      simp only [Nat.sub_self, List.replicate_zero, List.append_nil] at hL
      generalize buildB X.classes sites m m.code.length = s at *
      have hBr := hL.below hBZ (by omega)
      have q0 := hL.old (by omega) hzZ.z0
      have q1 := hL.old (by omega) hzZ.z1
      have q2 := hL.old (by omega) hzZ.z2
      have q3 := hL.old (by omega) hzZ.z3
      have q4 := hL.old (by omega) hzZ.z4
      have qf : ∀ o, wr.frozen? ⟨w.heap.size + 1, o, none⟩ = false := fun o => by
        have := hzZ.zf o
        unfold World.frozen? at this ⊢
        rw [hL.fix (w.heap.size + 1) (by omega)]; exact this
      by_cases hp : s.pieces = 0
      · have HZ : Hid (fastM X (qc : Int) m sites = (noFast, false)) := by show _ = _; rw [HFM.out, if_pos hp]
        have hp' : ((s.pieces : Int) == 0) = true := by simp [hp]
        have HQ := hid (mt_none (U := wr) hBr)
        clear HFM hp
        go_wp2
        rw [HZ.out]
        refine bodyPost_ret (v := .tuple #[FsV noFast (.slice none 0 0), .bool false]) ?_ rfl HQ.out
        simp [results, Try.results7, go_sem, q0, q1, q2, q3, q4, noFast]
      · have hpn : ((s.pieces : Int) == 0) = false := by simp; omega
        have hcl : 0 < s.code.length := by have := HPS.out; omega
        have HZ : Hid (fastM X (qc : Int) m sites = (⟨(qc : Int), m.name, X.epoch, s.temps, ledE s.begins m.code s.code m.code.length⟩, true)) := by show _ = _; rw [HFM.out, if_neg hp]
        obtain ⟨g, o, hao⟩ : ∃ g o, a = some ⟨g, o, none⟩ := by
          obtain ⟨-, h | ⟨g', o', c', cur, e, -⟩⟩ := hL.own
          · have := h.2; omega
          · cases e; exact ⟨_, _, rfl⟩
        subst hao
        have hgo := hL.own.lt g rfl
        have f4 := hL.f4
        have m4 := hL.m4
        have hints : IsInts (fun b => b = bm + 2) wr (.slice (some ⟨bm + 2, 0, none⟩) m.code.length m.code.length) s.begins := by
          have hl := HBG.out
          refine ⟨_, _, by rw [hl], by omega, by unfold maxLen; omega, by omega, fun i x hx => ⟨bm + 2, 0, rfl, rfl, ?_⟩⟩
          show wr.cell? ⟨bm + 2, 0 + i * 1 + 0, none⟩ = _
          rw [show 0 + i * 1 + 0 = i by omega]
          exact hL.g hx
        clear hp HFM HPS
        go_wp2_with fail
        refine (lead_any s.code m.code s.begins g o cap (bm + 3) _ _ wr hL.own (hco.later goodI hBr) hints (fun b hb => by omega) (fun b hb => by omega) HBG.out hn60 HIN.out).mono ?_
        rintro e w5 ⟨rfl, hO5, hb5, hblk5⟩
        dsimp only
        have hs5 := hb5.size
        have hszw := hL.sz
        have hfb5 : w5.heap[bm + 1]? = some (.cells #[.int .i64 (qc : Int), .string m.name, .int .i64 X.epoch, .int .i64 s.temps, .slice (some ⟨g, o, none⟩) s.code.length cap] 31 (0, 0)) := by rw [hblk5 (bm + 1) (by omega) (by omega)]; exact hL.fb
        have hold : ∀ k v, wr.cell? ⟨w.heap.size + 1, k, none⟩ = some v → w5.cell? ⟨w.heap.size + 1, k, none⟩ = some v := fun k v h => by unfold World.cell? at h ⊢; rw [hblk5 (w.heap.size + 1) (by omega) (by omega)]; exact h
        replace q0 := hold _ _ q0
        replace q1 := hold _ _ q1
        replace q2 := hold _ _ q2
        replace q3 := hold _ _ q3
        replace q4 := hold _ _ q4
        replace qf : ∀ o, w5.frozen? ⟨w.heap.size + 1, o, none⟩ = false := fun o => by have := qf o; unfold World.frozen? at this ⊢; rw [hblk5 (w.heap.size + 1) (by omega) (by omega)]; exact this
        have p0 : w5.cell? ⟨bm + 1, 0, none⟩ = some (.int .i64 (qc : Int)) := by rw [cell_of_row _ _ _ _ _ _ hfb5]; rfl
        have p1 : w5.cell? ⟨bm + 1, 1, none⟩ = some (.string m.name) := by rw [cell_of_row _ _ _ _ _ _ hfb5]; rfl
        have p2 : w5.cell? ⟨bm + 1, 2, none⟩ = some (.int .i64 X.epoch) := by rw [cell_of_row _ _ _ _ _ _ hfb5]; rfl
        have p3 : w5.cell? ⟨bm + 1, 3, none⟩ = some (.int .i64 s.temps) := by rw [cell_of_row _ _ _ _ _ _ hfb5]; rfl
        have p4 : w5.cell? ⟨bm + 1, 4, none⟩ = some (.slice (some ⟨g, o, none⟩) s.code.length cap) := by rw [cell_of_row _ _ _ _ _ _ hfb5]; rfl
        have hLed := ledE_len s.begins m.code s.code m.code.length
        have hrow5 : IsCode (fun b => w.heap.size + 2 ≤ b ∧ b < w5.heap.size) w5 (.slice (some ⟨g, o, none⟩) (ledE s.begins m.code s.code m.code.length).length cap) (ledE s.begins m.code s.code m.code.length) := ic_row hO5 (led_nm HNM.out _) (fun b h1 h2 => ⟨by omega, h2⟩) (by omega)
        have hB5 : Below w.heap.size w w5 := hBr.trans ⟨hb5.os, hb5.tape, hb5.output, hb5.size, fun b hb => hb5.block b (by omega)⟩
        have HQ := hid (mt_fin (U := w5) (r := (⟨(qc : Int), m.name, X.epoch, s.temps, ledE s.begins m.code s.code m.code.length⟩, true)) hB5 hrow5)
        simp only [hLed] at HQ
        clear hold hrow5 hO5 hfb5 hblk5 hb5 f4 m4 hints hLed
        go_wp2
        rw [HZ.out]
        refine bodyPost_ret (v := .tuple #[FsV ⟨(qc : Int), m.name, X.epoch, s.temps, ledE s.begins m.code s.code m.code.length⟩ (.slice (some ⟨g, o, none⟩) s.code.length cap), .bool true]) ?_ rfl HQ.out
        simp [results, Try.results7, go_sem, q0, q1, q2, q3, q4]
end Go.Proofs.Ythaefhojnjdheaa
