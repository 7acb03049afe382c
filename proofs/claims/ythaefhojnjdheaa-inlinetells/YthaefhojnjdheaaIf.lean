/- Inline: who may stand in. -/
import Derived.Test.YthaefhojnjdheaaXj
import Derived.Test.YthaefhojnjdheaaCe
namespace Go.Proofs.Ythaefhojnjdheaa
open Go.ChangeShapes Go.WideShapes Go.ChangeAt Go.RowKit
set_option linter.unusedSimpArgs false
set_option linter.unusedVariables false
set_option maxRecDepth 8000

/-- What leafAt leaves. -/
def LfPost (w : World) (st : Option QM) (e : Ending) (w' : World) : Prop :=
  ∃ m a c, e = .returned (.tuple #[MV m (.slice a m.code.length c), .bool st.isSome]) ∧ (∀ m', st = some m' → m = m') ∧ IsCode (fun b => b < w.heap.size) w' (.slice a m.code.length c) m.code ∧ Below w.heap.size w w'
theorem LfPost.drew {w w' : World} {st : Option QM} {e : Ending} (h : LfPost w st e w') : LfPost w st e w'.drew := by
  obtain ⟨m, a, c, h1, h2, h3, h4⟩ := h
  exact ⟨m, a, c, h1, h2, h3.later goodI (Below.refl _ _).drew, h4.drew⟩
theorem LfPost.later {w w' w'' : World} {st : Option QM} {e : Ending} (h : LfPost w st e w') (hb : Below w'.heap.size w' w'') : LfPost w st e w'' := by
  obtain ⟨m, a, c, h1, h2, h3, h4⟩ := h
  exact ⟨m, a, c, h1, h2, h3.later goodI hb, nstep h4 hb⟩
theorem set5_cells {U : World} {b : Nat} {r0 r1 r2 r3 r4 u0 u1 u2 u3 u4 : Value} (h0 : U.cell? ⟨b, 0, none⟩ = some r0) (h1 : U.cell? ⟨b, 1, none⟩ = some r1) (h2 : U.cell? ⟨b, 2, none⟩ = some r2) (h3 : U.cell? ⟨b, 3, none⟩ = some r3) (h4 : U.cell? ⟨b, 4, none⟩ = some r4) : (set5 U b u0 u1 u2 u3 u4).cell? ⟨b, 0, none⟩ = some u0 ∧ (set5 U b u0 u1 u2 u3 u4).cell? ⟨b, 1, none⟩ = some u1 ∧ (set5 U b u0 u1 u2 u3 u4).cell? ⟨b, 2, none⟩ = some u2 ∧ (set5 U b u0 u1 u2 u3 u4).cell? ⟨b, 3, none⟩ = some u3 ∧ (set5 U b u0 u1 u2 u3 u4).cell? ⟨b, 4, none⟩ = some u4 := by
  simp [World.cell?_setCell_same, World.cell?_setCell_other, h0, h1, h2, h3, h4]
theorem lf_fin {w U : World} {st : Option QM} {m : QM} {a : Option Addr} {c : Nat} {b : Bool} (hst : st = if b then some m else none) (hb : Below w.heap.size w U) (hco : IsCode (fun b => b < w.heap.size) U (.slice a m.code.length c) m.code) : LfPost w st (.returned (.tuple #[MV m (.slice a m.code.length c), .bool b])) (set5 U (w.heap.size + 2) (.string m.name) (.int .i64 m.args) (.int .i64 m.temps) (.int .i64 m.prim) (.slice a m.code.length c)) := by
  refine ⟨m, a, c, ?_, ?_, hco.keep goodI (Keeps.of_block fun b hb _ => blk5 (by omega)) fun _ h => h, bel5 hb (by omega)⟩
  · cases b <;> simp [hst]
  · intro m' h
    rw [hst] at h
    cases b
    · cases h
    · cases h; rfl
abbrev zM0 : QM := ⟨⟨#[]⟩, 0, 0, 0, []⟩
theorem lf_none {w U : World} (hb : Below w.heap.size w U) : LfPost w none (.returned (.tuple #[MV zM0 (.slice none 0 0), .bool false])) (set5 U (w.heap.size + 2) (.string ⟨#[]⟩) (.int .i64 0) (.int .i64 0) (.int .i64 0) (.slice none 0 0)) :=
  lf_fin (m := zM0) (a := none) (c := 0) (b := false) rfl hb row_none
/-- The boxes of leafAt. -/
structure LfB (w : World) (cv hv : Value) (ep : Int) (x : QI) (w' : World) : Prop where
  w0 : w'.cell? ⟨w.heap.size, 0, none⟩ = some cv
  w1 : w'.cell? ⟨w.heap.size, 1, none⟩ = some hv
  w2 : w'.cell? ⟨w.heap.size, 2, none⟩ = some (.int .i64 ep)
  x0 : w'.cell? ⟨w.heap.size + 1, 0, none⟩ = some (.int .i64 x.op)
  x1 : w'.cell? ⟨w.heap.size + 1, 1, none⟩ = some (.int .i64 x.a)
  x4 : w'.cell? ⟨w.heap.size + 1, 4, none⟩ = some (.string x.name)
  z0 : w'.cell? ⟨w.heap.size + 2, 0, none⟩ = some (.string ⟨#[]⟩)
  z1 : w'.cell? ⟨w.heap.size + 2, 1, none⟩ = some (.int .i64 0)
  z2 : w'.cell? ⟨w.heap.size + 2, 2, none⟩ = some (.int .i64 0)
  z3 : w'.cell? ⟨w.heap.size + 2, 3, none⟩ = some (.int .i64 0)
  z4 : w'.cell? ⟨w.heap.size + 2, 4, none⟩ = some (.slice none 0 0)
  zf : ∀ o, w'.frozen? ⟨w.heap.size + 2, o, none⟩ = false
  sz : w.heap.size + 3 ≤ w'.heap.size
theorem LfB.later {w : World} {cv hv : Value} {ep : Int} {x : QI} {w' w'' : World} (h : LfB w cv hv ep x w') (hb : Below w'.heap.size w' w'') : LfB w cv hv ep x w'' :=
  ⟨cell_later hb h.w0, cell_later hb h.w1, cell_later hb h.w2, cell_later hb h.x0, cell_later hb h.x1, cell_later hb h.x4, cell_later hb h.z0, cell_later hb h.z1, cell_later hb h.z2, cell_later hb h.z3, cell_later hb h.z4, fun o => (hb.frozen (p := ⟨w.heap.size + 2, o, none⟩) (by have := h.sz; simp only; omega)).trans (h.zf o), Nat.le_trans h.sz hb.size⟩
theorem lfB_new (w : World) (cv hv : Value) (ep : Int) (x : QI) : LfB w cv hv ep x (((w.alloc (.cells #[cv, hv, .int .i64 ep] 25)).alloc (.cells #[.int .i64 x.op, .int .i64 x.a, .int .i64 x.b, .int .i64 x.c, .string x.name] 54)).alloc (.cells #[.string ⟨#[]⟩, .int .i64 0, .int .i64 0, .int .i64 0, .slice none 0 0] 48)) := by
  have e1 : (w.alloc (.cells #[cv, hv, .int .i64 ep] 25)).heap.size = w.heap.size + 1 := by simp
  have e2 : ((w.alloc (.cells #[cv, hv, .int .i64 ep] 25)).alloc (.cells #[.int .i64 x.op, .int .i64 x.a, .int .i64 x.b, .int .i64 x.c, .string x.name] 54)).heap.size = w.heap.size + 2 := by simp
  exact ⟨cell_later (bel2 _ _ _) (cell_new w #[cv, hv, .int .i64 ep] 25 _ rfl 0), cell_later (bel2 _ _ _) (cell_new w #[cv, hv, .int .i64 ep] 25 _ rfl 1), cell_later (bel2 _ _ _) (cell_new w #[cv, hv, .int .i64 ep] 25 _ rfl 2), cell_later (bel1 _ _) (cell_new _ _ _ _ e1 0), cell_later (bel1 _ _) (cell_new _ _ _ _ e1 1), cell_later (bel1 _ _) (cell_new _ _ _ _ e1 4), cell_new _ _ _ _ e2 0, cell_new _ _ _ _ e2 1, cell_new _ _ _ _ e2 2, cell_new _ _ _ _ e2 3, cell_new _ _ _ _ e2 4, row_free (cur := #[.string ⟨#[]⟩, .int .i64 0, .int .i64 0, .int .i64 0, .slice none 0 0]) (t := 48) (by rw [← e2]; exact heap_alloc_new _ _), by simp⟩
set_option maxHeartbeats 4000000 in
theorem leafAt_any {P Q : Nat → Prop} (X : QW) (sites : List Int) (at' : Nat) (x : QI) (cv hv sv : Value) (w : World) (hC : IsClasses P w cv X.classes) (hH : IsHeap P w hv X.heap) (hS : IsInts Q w sv sites) :
    Calls Try.prog 24 #[WV cv hv X.epoch, sv, .int .i64 (at' : Int), IV x] w fun e w' => LfPost w (standsIn X.classes sites at' x) e w' := by
  obtain ⟨ac, cc, rfl, -, hcc, -, hrowC⟩ := id (bound_classes hC)
  obtain ⟨ah, ch, rfl, -⟩ := id hH
  obtain ⟨asv, cs, rfl, hls, hcs, -, hrow⟩ := id hS
  unfold maxLen at hcs hcc
  have hB0 := lfB_new w (.slice ac X.classes.length cc) (.slice ah X.heap.length ch) X.epoch x
  have hbW := bel3 w (.cells #[.slice ac X.classes.length cc, .slice ah X.heap.length ch, .int .i64 X.epoch] 25) (.cells #[.int .i64 x.op, .int .i64 x.a, .int .i64 x.b, .int .i64 x.c, .string x.name] 54) (.cells #[.string ⟨#[]⟩, .int .i64 0, .int .i64 0, .int .i64 0, .slice none 0 0] 48)
  go_enter Try.func24, Try.ntmps24
  go_upto_region 1 with (fail)
  simp only [Nat.add_assoc, Nat.reduceAdd]
  generalize (((w.alloc (.cells #[.slice ac X.classes.length cc, .slice ah X.heap.length ch, .int .i64 X.epoch] 25)).alloc (.cells #[.int .i64 x.op, .int .i64 x.a, .int .i64 x.b, .int .i64 x.c, .string x.name] 54)).alloc (.cells #[.string ⟨#[]⟩, .int .i64 0, .int .i64 0, .int .i64 0, .slice none 0 0] 48)) = W at *
  have HN : Hid (∀ U, Below w.heap.size w U → standsIn X.classes sites at' x = none → LfPost w (standsIn X.classes sites at' x) (.returned (.tuple #[MV zM0 (.slice none 0 0), .bool false])) (set5 U (w.heap.size + 2) (.string ⟨#[]⟩) (.int .i64 0) (.int .i64 0) (.int .i64 0) (.slice none 0 0))) := fun U hb h => by rw [h]; exact lf_none hb
  obtain ⟨k0, k1, k2, x0, x1, x4, z0, z1, z2, z3, z4, zf, sz⟩ := id hB0
  by_cases hop : x.op = 14
  · have hd : (x.op == 14) = true := by simpa using hop
    have hdn : (x.op != 14) = false := by simpa using hop
    have HOP := hid hop
    rw [hop] at x0
    clear hop hd hdn
    by_cases hlt : at' < sites.length
    · obtain ⟨k, hk⟩ : ∃ k, sites[at']? = some k := ⟨sites[at'], by simp [hlt]⟩
      have HK : Hid (sites.getD at' (-1) = k) := by show _ = _; rw [List.getD_eq_getElem?_getD, hk]; rfl
      obtain ⟨bs, os, rfl, -, y0⟩ := hrow at' k hk
      replace y0 : w.cell? ⟨bs, os + at', none⟩ = some (.int .i64 k) := by simpa [IntC] using y0
      have y1 := cell_later hbW y0
      have hj1 : (at' : Int) < (sites.length : Int) := by omega
      have hj0 : (0 : Int) ≤ (at' : Int) := by omega
      have hge : ¬ ((sites.length : Int) ≤ (at' : Int)) := by omega
      clear hrow hk
      by_cases hk0 : k < 0
      · have hkd : decide (k < 0) = true := by simpa using hk0
        have HZ := hid (HN.out W hbW (by unfold standsIn; rw [if_neg (by rw [HK.out]; omega)]))
        clear hk0
        go_wp2
        refine bodyPost_ret (v := .tuple #[MV zM0 (.slice none 0 0), .bool false]) ?_ rfl HZ.out
        simp [results, Try.results24, go_sem, z0, z1, z2, z3, z4]
      · have hkd : decide (k < 0) = false := by simpa using hk0
        have HK0 := hid hk0
        have hSl : ∀ w', Below W.heap.size W w' → w'.cell? ⟨w.heap.size, 0, none⟩ = some (.slice ac X.classes.length cc) ∧ w'.cell? ⟨w.heap.size, 1, none⟩ = some (.slice ah X.heap.length ch) ∧ w'.cell? ⟨w.heap.size, 2, none⟩ = some (.int .i64 X.epoch) ∧ w'.cell? ⟨bs, os + at', none⟩ = some (.int .i64 k) ∧ w'.cell? ⟨w.heap.size + 1, 4, none⟩ = some (.string x.name) := fun w' hb => by
          have h := hB0.later hb
          exact ⟨h.w0, h.w1, h.w2, cell_later hb y1, h.x4⟩
        have hS0 := hSl _ (Below.refl _ W).drew
        clear hk0
        go_upto_region 3 with (fail)
        refine wp_region_late (S := fun w' => w'.cell? ⟨w.heap.size, 0, none⟩ = some (.slice ac X.classes.length cc) ∧ w'.cell? ⟨w.heap.size, 1, none⟩ = some (.slice ah X.heap.length ch) ∧ w'.cell? ⟨w.heap.size, 2, none⟩ = some (.int .i64 X.epoch) ∧ w'.cell? ⟨bs, os + at', none⟩ = some (.int .i64 k) ∧ w'.cell? ⟨w.heap.size + 1, 4, none⟩ = some (.string x.name)) [] (by kernel_rfl) ?_
        refine wpAnyM_take (i := 0) (oi := { dst := some 31, op := Op.load 25 (Operand.tmp 4), type := 25, pos := "inline.go:51", after := #[], guard := none }) (v := WV (.slice ac X.classes.length cc) (.slice ah X.heap.length ch) X.epoch) (by kernel_rfl) (by kernel_rfl) rfl (by kernel_rfl) (by kernel_rfl) (by kernel_rfl) (fun _ _ _ h => h) (Or.inl ⟨by rfl, ?_⟩) (hS0) ?_
        · intro w hSw
          obtain ⟨q0, q1, q2, q3, q4⟩ := hSw
          go_simp
        try simp only [Act.put, List.setIfInBounds_toArray, List.set_cons_zero, List.set_cons_succ]
        refine wpAnyM_take (i := 1) (oi := { dst := some 32, op := Op.move (Operand.tmp 1), type := 26, pos := "inline.go:51", after := #[], guard := none }) (v := .slice (some ⟨bs, os, none⟩) sites.length cs) (by kernel_rfl) (by kernel_rfl) rfl (by kernel_rfl) (by kernel_rfl) (by kernel_rfl) (fun _ _ _ h => h) (Or.inl ⟨by rfl, ?_⟩) (hS0) ?_
        · intro w hSw
          obtain ⟨q0, q1, q2, q3, q4⟩ := hSw
          go_simp
        try simp only [Act.put, List.setIfInBounds_toArray, List.set_cons_zero, List.set_cons_succ]
        refine wpAnyM_take (i := 2) (oi := { dst := some 33, op := Op.move (Operand.tmp 2), type := 3, pos := "inline.go:51", after := #[], guard := none }) (v := .int .i64 (at' : Int)) (by kernel_rfl) (by kernel_rfl) rfl (by kernel_rfl) (by kernel_rfl) (by kernel_rfl) (fun _ _ _ h => h) (Or.inl ⟨by rfl, ?_⟩) (hS0) ?_
        · intro w hSw
          obtain ⟨q0, q1, q2, q3, q4⟩ := hSw
          go_simp
        try simp only [Act.put, List.setIfInBounds_toArray, List.set_cons_zero, List.set_cons_succ]
        refine wpAnyM_take (i := 3) (oi := { dst := some 34, op := Op.indexAddr 26 (Operand.tmp 32) (Operand.tmp 33), type := 0, pos := "inline.go:51", after := #[{ on := 1, ground := Ground.data }, { on := 2, ground := Ground.data }], guard := none }) (v := .pointer (some ⟨bs, os + at', none⟩)) (by kernel_rfl) (by kernel_rfl) rfl (by kernel_rfl) (by kernel_rfl) (by kernel_rfl) (fun _ _ _ h => h) (Or.inl ⟨by rfl, ?_⟩) (hS0) ?_
        · intro w hSw
          obtain ⟨q0, q1, q2, q3, q4⟩ := hSw
          go_simp
        try simp only [Act.put, List.setIfInBounds_toArray, List.set_cons_zero, List.set_cons_succ]
        refine wpAnyM_take (i := 4) (oi := { dst := some 35, op := Op.load 3 (Operand.tmp 34), type := 3, pos := "inline.go:51", after := #[{ on := 3, ground := Ground.data }], guard := none }) (v := .int .i64 k) (by kernel_rfl) (by kernel_rfl) rfl (by kernel_rfl) (by kernel_rfl) (by kernel_rfl) (fun _ _ _ h => h) (Or.inl ⟨by rfl, ?_⟩) (hS0) ?_
        · intro w hSw
          obtain ⟨q0, q1, q2, q3, q4⟩ := hSw
          go_simp
        try simp only [Act.put, List.setIfInBounds_toArray, List.set_cons_zero, List.set_cons_succ]
        refine wpAnyM_take (i := 5) (oi := { dst := some 36, op := Op.fieldAddr 54 (Operand.tmp 7) 4, type := 0, pos := "inline.go:51", after := #[], guard := none }) (v := .pointer (some ⟨w.heap.size + 1, 4, none⟩)) (by kernel_rfl) (by kernel_rfl) rfl (by kernel_rfl) (by kernel_rfl) (by kernel_rfl) (fun _ _ _ h => h) (Or.inl ⟨by rfl, ?_⟩) (hS0) ?_
        · intro w hSw
          obtain ⟨q0, q1, q2, q3, q4⟩ := hSw
          go_simp
        try simp only [Act.put, List.setIfInBounds_toArray, List.set_cons_zero, List.set_cons_succ]
        refine wpAnyM_take (i := 6) (oi := { dst := some 37, op := Op.load 9 (Operand.tmp 36), type := 9, pos := "inline.go:51", after := #[{ on := 5, ground := Ground.data }], guard := none }) (v := .string x.name) (by kernel_rfl) (by kernel_rfl) rfl (by kernel_rfl) (by kernel_rfl) (by kernel_rfl) (fun _ _ _ h => h) (Or.inl ⟨by rfl, ?_⟩) (hS0) ?_
        · intro w hSw
          obtain ⟨q0, q1, q2, q3, q4⟩ := hSw
          go_simp
        try simp only [Act.put, List.setIfInBounds_toArray, List.set_cons_zero, List.set_cons_succ]
        refine wpAnyM_ready (rs := [7]) (by kernel_rfl) (by simp) ?_
        intro i hi
        simp only [List.mem_cons, List.not_mem_nil, or_false] at hi
        subst hi
        refine stepM (o := { dst := some 38, op := Op.call { callee := Callee.value (Operand.func 45), args := #[Operand.tmp 31, Operand.tmp 35, Operand.tmp 37], argTypes := #[25, 3, 9] }, type := 51, pos := "inline.go:51", after := #[{ on := 0, ground := Ground.data }, { on := 4, ground := Ground.data }, { on := 6, ground := Ground.data }], guard := none }) rfl (fun K' hK => ?_)
        refine step_call rfl 45 (.func 45) #[.tmp 31, .tmp 35, .tmp 37] _ rfl #[] rfl #[WV (.slice ac X.classes.length cc) (.slice ah X.heap.length ch) X.epoch, .int .i64 k, .string x.name] (by simp [Act.eval, Act.put]) (cf45 _ _) ?_
        refine (show Calls Try.prog 45 #[WV (.slice ac X.classes.length cc) (.slice ah X.heap.length ch) X.epoch, .int .i64 k, .string x.name] W.drew _ from (find_any X k x.name _ _ W.drew (hC.later goodC hbW.drew) (hH.later goodO hbW.drew)).mono ?_)
        rintro e w1 ⟨rfl, hb1⟩
        refine ⟨_, rfl, ?_⟩
        have hbW1 : Below W.heap.size W w1 := nstep (Below.refl _ W).drew hb1
        refine hK _ _ (fun _ => ?_) ?_
        · exact hSl _ hbW1
        clear hK K'
        try simp only [Act.put, List.setIfInBounds_toArray, List.set_cons_zero, List.set_cons_succ]
        obtain ⟨fc, fj, hf⟩ : ∃ fc fj, findE X.classes k x.name = (fc, fj) := ⟨_, _, rfl⟩
        simp only [hf]
        refine wpAnyM_take (i := 8) (oi := { dst := some 30, op := Op.move (Operand.tmp 38), type := 51, pos := "inline.go:51", after := #[{ on := 7, ground := Ground.data }], guard := none }) (v := .tuple #[.int .i64 fc, .int .i64 fj]) (by kernel_rfl) (by kernel_rfl) rfl (by kernel_rfl) (by kernel_rfl) (by kernel_rfl) (fun _ _ _ h => h) (Or.inl ⟨by rfl, ?_⟩) (hSl _ hbW1) ?_
        · intro w hSw
          obtain ⟨q0, q1, q2, q3, q4⟩ := hSw
          go_simp
        try simp only [Act.put, List.setIfInBounds_toArray, List.set_cons_zero, List.set_cons_succ]
        refine wpAnyM_take (i := 9) (oi := { dst := some 39, op := Op.extract (Operand.tmp 30) 0, type := 3, pos := "inline.go:51", after := #[{ on := 8, ground := Ground.data }], guard := none }) (v := .int .i64 fc) (by kernel_rfl) (by kernel_rfl) rfl (by kernel_rfl) (by kernel_rfl) (by kernel_rfl) (fun _ _ _ h => h) (Or.inl ⟨by rfl, ?_⟩) (hSl _ hbW1) ?_
        · intro w hSw
          obtain ⟨q0, q1, q2, q3, q4⟩ := hSw
          go_simp
        try simp only [Act.put, List.setIfInBounds_toArray, List.set_cons_zero, List.set_cons_succ]
        refine wpAnyM_take (i := 10) (oi := { dst := some 40, op := Op.extract (Operand.tmp 30) 1, type := 3, pos := "inline.go:51", after := #[{ on := 8, ground := Ground.data }, { on := 11, ground := Ground.gcOnly Departure.lateStores }], guard := none }) (v := .int .i64 fj) (by kernel_rfl) (by kernel_rfl) rfl (by kernel_rfl) (by kernel_rfl) (by kernel_rfl) (fun _ _ _ h => h) (Or.inl ⟨by rfl, ?_⟩) (hSl _ hbW1) ?_
        · intro w hSw
          obtain ⟨q0, q1, q2, q3, q4⟩ := hSw
          go_simp
        try simp only [Act.put, List.setIfInBounds_toArray, List.set_cons_zero, List.set_cons_succ]
        refine wpAnyM_take (i := 11) (oi := { dst := some 10, op := Op.assign (Operand.tmp 39), type := 3, pos := "inline.go:51", after := #[{ on := 9, ground := Ground.data }, { on := 7, ground := Ground.chain }, { on := 0, ground := Ground.phase }, { on := 1, ground := Ground.phase }, { on := 2, ground := Ground.phase }, { on := 3, ground := Ground.phase }, { on := 4, ground := Ground.phase }, { on := 5, ground := Ground.phase }, { on := 6, ground := Ground.phase }, { on := 7, ground := Ground.phase }, { on := 8, ground := Ground.phase }, { on := 9, ground := Ground.phase }, { on := 10, ground := Ground.textOnly Departure.lateStores }], guard := none }) (v := .int .i64 fc) (by kernel_rfl) (by kernel_rfl) rfl (by kernel_rfl) (by kernel_rfl) (by kernel_rfl) (fun _ _ _ h => h) (Or.inl ⟨by rfl, ?_⟩) (hSl _ hbW1) ?_
        · intro w hSw
          obtain ⟨q0, q1, q2, q3, q4⟩ := hSw
          go_simp
        try simp only [Act.put, List.setIfInBounds_toArray, List.set_cons_zero, List.set_cons_succ]
        refine wpAnyM_take (i := 12) (oi := { dst := some 11, op := Op.assign (Operand.tmp 40), type := 3, pos := "inline.go:51", after := #[{ on := 10, ground := Ground.data }, { on := 11, ground := Ground.chain }, { on := 0, ground := Ground.phase }, { on := 1, ground := Ground.phase }, { on := 2, ground := Ground.phase }, { on := 3, ground := Ground.phase }, { on := 4, ground := Ground.phase }, { on := 5, ground := Ground.phase }, { on := 6, ground := Ground.phase }, { on := 7, ground := Ground.phase }, { on := 8, ground := Ground.phase }, { on := 9, ground := Ground.phase }, { on := 10, ground := Ground.phase }, { on := 11, ground := Ground.phase }], guard := none }) (v := .int .i64 fj) (by kernel_rfl) (by kernel_rfl) rfl (by kernel_rfl) (by kernel_rfl) (by kernel_rfl) (fun _ _ _ h => h) (Or.inl ⟨by rfl, ?_⟩) (hSl _ hbW1) ?_
        · intro w hSw
          obtain ⟨q0, q1, q2, q3, q4⟩ := hSw
          go_simp
        try simp only [Act.put, List.setIfInBounds_toArray, List.set_cons_zero, List.set_cons_succ]
        refine wpAnyM_done (by kernel_rfl) ?_ _
        try simp only [Act.put, List.setIfInBounds_toArray, List.set_cons_zero, List.set_cons_succ]

        have hb1w : Below w.heap.size w w1 := nstep hbW hbW1
        replace hB0 := hB0.later hbW1
        clear k0 k1 k2 x0 x1 x4 z0 z1 z2 z3 z4 zf sz hSl hS0 hb1 y0 y1
        obtain ⟨k0, k1, k2, x0, x1, x4, z0, z1, z2, z3, z4, zf, sz⟩ := id hB0
        have HSI : Hid (standsIn X.classes sites at' x = match methOf X.classes k x.name with | none => none | some m => if m.args = x.a ∧ leafE m = true then some m else none) := by show _ = _; unfold standsIn; rw [HK.out, if_pos ⟨HOP.out, by have := HK0.out; omega⟩]; cases methOf X.classes k x.name <;> rfl
        rcases find_cases X.classes k x.name with ⟨h1, h2⟩ | ⟨qc, xc, tc, m, he, hxc, hm⟩
        · rw [hf] at h1 h2
          simp only at h1 h2
          have hfd : decide (fc < 0) = true := by simpa using h1
          have HZ := hid (HN.out w1 hb1w (by rw [HSI.out]; unfold methOf; rw [hf, if_pos h2]))
          clear h1 h2
          go_wp2
          refine bodyPost_ret (v := .tuple #[MV zM0 (.slice none 0 0), .bool false]) ?_ rfl HZ.out
          simp [results, Try.results24, go_sem, z0, z1, z2, z3, z4]
        · have HSM : Hid (standsIn X.classes sites at' x = if m.args = x.a ∧ leafE m = true then some m else none) := by
            show _ = _
            rw [HSI.out]
            have : methOf X.classes k x.name = some m := by unfold methOf; rw [he]; simp [hxc, hm]
            rw [this]
          rw [hf] at he
          obtain ⟨rfl, rfl⟩ : fc = (qc : Int) ∧ fj = (tc : Int) := by cases he; exact ⟨rfl, rfl⟩
          obtain ⟨b1, o1, rfl, -, -, -, -, -, mv, u3, hms⟩ := hrowC qc xc hxc
          obtain ⟨am, cm, rfl, hlm, hcm, -, hrm⟩ := hms
          obtain ⟨b2, o2, rfl, -, v0, v1, v2, v3, -, kv, v4, hco0⟩ := hrm tc m hm
          obtain ⟨ak, ck, rfl, -⟩ := id hco0
          simp only [Nat.add_zero] at v0
          unfold maxLen at hcm
          have hq := lt_of_get hxc
          have ht := lt_of_get hm
          have hq1 : (qc : Int) < (X.classes.length : Int) := by omega
          have hq0 : (0 : Int) ≤ (qc : Int) := by omega
          have ht1 : (tc : Int) < (xc.methods.length : Int) := by omega
          have ht0 : (0 : Int) ≤ (tc : Int) := by omega
          have hqn : decide ((qc : Int) < 0) = false := by simp
          replace u3 := cell_later hb1w u3
          replace v0 := cell_later hb1w v0
          replace v1 := cell_later hb1w v1
          replace v2 := cell_later hb1w v2
          replace v3 := cell_later hb1w v3
          replace v4 := cell_later hb1w v4
          have hbV1 := bel1 w1 (.cells #[.string m.name, .int .i64 m.args, .int .i64 m.temps, .int .i64 m.prim, .slice ak m.code.length ck] 48)
          have hco := (hco0.later goodI hb1w).later goodI hbV1
          have hbV := nstep hb1w hbV1
          have hBV := hB0.later hbV1
          have hS12 : (w1.alloc (.cells #[.string m.name, .int .i64 m.args, .int .i64 m.temps, .int .i64 m.prim, .slice ak m.code.length ck] 48)).heap[w1.heap.size]? = some (.cells #[.string m.name, .int .i64 m.args, .int .i64 m.temps, .int .i64 m.prim, .slice ak m.code.length ck] 48 (0, 0)) := heap_alloc_new _ _
          have hszz := hB0.sz
          clear hrowC hrm hxc hm he hf
          go_upto_region 7 with (fail)
          generalize (w1.alloc (.cells #[.string m.name, .int .i64 m.args, .int .i64 m.temps, .int .i64 m.prim, .slice ak m.code.length ck] 48)) = V at *
          generalize hb12 : w1.heap.size = b12 at *
          have hSl : ∀ w', Below V.heap.size V w' → w'.cell? ⟨b12, 0, none⟩ = some (.string m.name) ∧ w'.cell? ⟨b12, 1, none⟩ = some (.int .i64 m.args) ∧ w'.cell? ⟨b12, 2, none⟩ = some (.int .i64 m.temps) ∧ w'.cell? ⟨b12, 3, none⟩ = some (.int .i64 m.prim) ∧ w'.cell? ⟨b12, 4, none⟩ = some (.slice ak m.code.length ck) ∧ w'.cell? ⟨w.heap.size + 1, 1, none⟩ = some (.int .i64 x.a) := fun w' hb => by
            have h := box_later' hS12 hb
            exact ⟨by rw [cell_of_row _ _ _ _ _ _ h]; rfl, by rw [cell_of_row _ _ _ _ _ _ h]; rfl, by rw [cell_of_row _ _ _ _ _ _ h]; rfl, by rw [cell_of_row _ _ _ _ _ _ h]; rfl, by rw [cell_of_row _ _ _ _ _ _ h]; rfl, (hBV.later hb).x1⟩
          have hZ : ∀ w', Below V.heap.size V w' → w'.cell? ⟨w.heap.size + 2, 0, none⟩ = some (.string ⟨#[]⟩) ∧ w'.cell? ⟨w.heap.size + 2, 1, none⟩ = some (.int .i64 0) ∧ w'.cell? ⟨w.heap.size + 2, 2, none⟩ = some (.int .i64 0) ∧ w'.cell? ⟨w.heap.size + 2, 3, none⟩ = some (.int .i64 0) ∧ w'.cell? ⟨w.heap.size + 2, 4, none⟩ = some (.slice none 0 0) ∧ ∀ o, w'.frozen? ⟨w.heap.size + 2, o, none⟩ = false := fun w' hb => by
            have h := hBV.later hb
            exact ⟨h.z0, h.z1, h.z2, h.z3, h.z4, h.zf⟩
          have hS7 := hSl _ (Below.refl _ V).drew
          clear k0 k1 k2 x0 x1 x4 z0 z1 z2 z3 z4 zf sz u3 v0 v1 v2 v3 v4
          by_cases hea : m.args = x.a
          · have heb : (m.args == x.a) = true := by simpa using hea
            have HST : Hid (standsIn X.classes sites at' x = if leafE m then some m else none) := by show _ = _; rw [HSM.out]; simp [hea]
            clear hea
            refine wp_region_late (S := fun w' => w'.cell? ⟨b12, 0, none⟩ = some (.string m.name) ∧ w'.cell? ⟨b12, 1, none⟩ = some (.int .i64 m.args) ∧ w'.cell? ⟨b12, 2, none⟩ = some (.int .i64 m.temps) ∧ w'.cell? ⟨b12, 3, none⟩ = some (.int .i64 m.prim) ∧ w'.cell? ⟨b12, 4, none⟩ = some (.slice ak m.code.length ck) ∧ w'.cell? ⟨w.heap.size + 1, 1, none⟩ = some (.int .i64 x.a)) [] (by kernel_rfl) ?_
            refine wpAnyM_take (i := 0) (oi := { dst := some 53, op := Op.load 48 (Operand.tmp 12), type := 48, pos := "inline.go:56", after := #[], guard := none }) (v := MV m (.slice ak m.code.length ck)) (by kernel_rfl) (by kernel_rfl) rfl (by kernel_rfl) (by kernel_rfl) (by kernel_rfl) (fun _ _ _ h => h) (Or.inl ⟨by rfl, ?_⟩) (hS7) ?_
            · intro w hSw
              obtain ⟨q0, q1, q2, q3, q4, q5⟩ := hSw
              go_simp
            try simp only [Act.put, List.setIfInBounds_toArray, List.set_cons_zero, List.set_cons_succ]
            refine wpAnyM_take (i := 1) (oi := { dst := some 54, op := Op.fieldAddr 48 (Operand.tmp 12) 1, type := 0, pos := "inline.go:56", after := #[], guard := none }) (v := .pointer (some ⟨b12, 1, none⟩)) (by kernel_rfl) (by kernel_rfl) rfl (by kernel_rfl) (by kernel_rfl) (by kernel_rfl) (fun _ _ _ h => h) (Or.inl ⟨by rfl, ?_⟩) (hS7) ?_
            · intro w hSw
              obtain ⟨q0, q1, q2, q3, q4, q5⟩ := hSw
              go_simp
            try simp only [Act.put, List.setIfInBounds_toArray, List.set_cons_zero, List.set_cons_succ]
            refine wpAnyM_take (i := 2) (oi := { dst := some 55, op := Op.load 3 (Operand.tmp 54), type := 3, pos := "inline.go:56", after := #[{ on := 1, ground := Ground.data }], guard := none }) (v := .int .i64 m.args) (by kernel_rfl) (by kernel_rfl) rfl (by kernel_rfl) (by kernel_rfl) (by kernel_rfl) (fun _ _ _ h => h) (Or.inl ⟨by rfl, ?_⟩) (hS7) ?_
            · intro w hSw
              obtain ⟨q0, q1, q2, q3, q4, q5⟩ := hSw
              go_simp
            try simp only [Act.put, List.setIfInBounds_toArray, List.set_cons_zero, List.set_cons_succ]
            refine wpAnyM_take (i := 3) (oi := { dst := some 56, op := Op.fieldAddr 54 (Operand.tmp 7) 1, type := 0, pos := "inline.go:56", after := #[], guard := none }) (v := .pointer (some ⟨w.heap.size + 1, 1, none⟩)) (by kernel_rfl) (by kernel_rfl) rfl (by kernel_rfl) (by kernel_rfl) (by kernel_rfl) (fun _ _ _ h => h) (Or.inl ⟨by rfl, ?_⟩) (hS7) ?_
            · intro w hSw
              obtain ⟨q0, q1, q2, q3, q4, q5⟩ := hSw
              go_simp
            try simp only [Act.put, List.setIfInBounds_toArray, List.set_cons_zero, List.set_cons_succ]
            refine wpAnyM_take (i := 4) (oi := { dst := some 57, op := Op.load 3 (Operand.tmp 56), type := 3, pos := "inline.go:56", after := #[{ on := 3, ground := Ground.data }], guard := none }) (v := .int .i64 x.a) (by kernel_rfl) (by kernel_rfl) rfl (by kernel_rfl) (by kernel_rfl) (by kernel_rfl) (fun _ _ _ h => h) (Or.inl ⟨by rfl, ?_⟩) (hS7) ?_
            · intro w hSw
              obtain ⟨q0, q1, q2, q3, q4, q5⟩ := hSw
              go_simp
            try simp only [Act.put, List.setIfInBounds_toArray, List.set_cons_zero, List.set_cons_succ]
            refine wpAnyM_take (i := 5) (oi := { dst := some 58, op := Op.binOp BinOp.eql 3 (Operand.tmp 55) (Operand.tmp 57) 3, type := 4, pos := "inline.go:56", after := #[{ on := 2, ground := Ground.data }, { on := 4, ground := Ground.data }], guard := none }) (v := .bool true) (by kernel_rfl) (by kernel_rfl) rfl (by kernel_rfl) (by kernel_rfl) (by kernel_rfl) (fun _ _ _ h => h) (Or.inl ⟨by rfl, ?_⟩) (hS7) ?_
            · intro w hSw
              obtain ⟨q0, q1, q2, q3, q4, q5⟩ := hSw
              go_simp
            try simp only [Act.put, List.setIfInBounds_toArray, List.set_cons_zero, List.set_cons_succ]
            refine wpAnyM_take (i := 6) (oi := { dst := some 59, op := Op.move (Operand.tmp 58), type := 4, pos := "inline.go:56", after := #[{ on := 5, ground := Ground.data }], guard := none }) (v := .bool true) (by kernel_rfl) (by kernel_rfl) rfl (by kernel_rfl) (by kernel_rfl) (by kernel_rfl) (fun _ _ _ h => h) (Or.inl ⟨by rfl, ?_⟩) (hS7) ?_
            · intro w hSw
              obtain ⟨q0, q1, q2, q3, q4, q5⟩ := hSw
              go_simp
            try simp only [Act.put, List.setIfInBounds_toArray, List.set_cons_zero, List.set_cons_succ]
            refine wpAnyM_take (i := 7) (oi := { dst := some 60, op := Op.load 48 (Operand.tmp 12), type := 48, pos := "inline.go:56", after := #[{ on := 6, ground := Ground.guard }], guard := some (6, true) }) (v := MV m (.slice ak m.code.length ck)) (by kernel_rfl) (by kernel_rfl) rfl (by kernel_rfl) (by kernel_rfl) (by kernel_rfl) (fun _ _ _ h => h) (Or.inl ⟨by rfl, ?_⟩) (hS7) ?_
            · intro w hSw
              obtain ⟨q0, q1, q2, q3, q4, q5⟩ := hSw
              go_simp
            try simp only [Act.put, List.setIfInBounds_toArray, List.set_cons_zero, List.set_cons_succ]
            refine wpAnyM_ready (rs := [8]) (by kernel_rfl) (by simp) ?_
            intro i hi
            simp only [List.mem_cons, List.not_mem_nil, or_false] at hi
            subst hi
            refine stepM (o := { dst := some 61, op := Op.call { callee := Callee.value (Operand.func 46), args := #[Operand.tmp 60], argTypes := #[48] }, type := 4, pos := "inline.go:56", after := #[{ on := 7, ground := Ground.data }, { on := 6, ground := Ground.chain }, { on := 6, ground := Ground.guard }], guard := some (6, true) }) rfl (fun K' hK => ?_)
            refine step_callG (by rfl) 46 (.func 46) #[.tmp 60] _ rfl #[] rfl #[MV m (.slice ak m.code.length ck)] (by simp [Act.eval, Act.put]) (cf46 _ _) ?_
            refine (show Calls Try.prog 46 #[MV m (.slice ak m.code.length ck)] V.drew _ from (leaf_any m _ V.drew (hco.later goodI (Below.refl _ V).drew)).mono ?_)
            rintro e w5 ⟨rfl, hb5⟩
            refine ⟨_, rfl, ?_⟩
            have hbV5 : Below V.heap.size V w5 := nstep (Below.refl _ V).drew hb5
            obtain ⟨r0, r1, r2, r3, r4, rf⟩ := hZ _ hbV5
            obtain ⟨z0, z1, z2, z3, z4, z5⟩ := hSl _ hbV5
            refine hK _ _ (fun _ => ?_) ?_
            · exact hSl _ hbV5
            clear hK K'
            try simp only [Act.put, List.setIfInBounds_toArray, List.set_cons_zero, List.set_cons_succ]
            refine wpAnyM_take (i := 9) (oi := { dst := some 62, op := Op.pick (Operand.tmp 59) (Operand.tmp 61) (Operand.const (Value.bool false)), type := 4, pos := "inline.go:56", after := #[{ on := 6, ground := Ground.data }, { on := 8, ground := Ground.data }, { on := 10, ground := Ground.gcOnly Departure.lateStores }], guard := none }) (v := .bool (leafE m)) (by kernel_rfl) (by kernel_rfl) rfl (by kernel_rfl) (by kernel_rfl) (by kernel_rfl) (fun _ _ _ h => h) (Or.inl ⟨by rfl, ?_⟩) (hSl _ hbV5) ?_
            · intro w hSw
              obtain ⟨q0, q1, q2, q3, q4, q5⟩ := hSw
              go_simp
            try simp only [Act.put, List.setIfInBounds_toArray, List.set_cons_zero, List.set_cons_succ]
            refine wpAnyM_ready (rs := [10]) (by kernel_rfl) (by simp) ?_
            intro i hi
            simp only [List.mem_cons, List.not_mem_nil, or_false] at hi
            subst hi
            refine stepM (o := { dst := none, op := Op.store 48 (Operand.tmp 8) (Operand.tmp 53), type := 0, pos := "inline.go:56", after := #[{ on := 0, ground := Ground.data }, { on := 8, ground := Ground.chain }, { on := 0, ground := Ground.phase }, { on := 1, ground := Ground.textOnly Departure.lateStores }, { on := 2, ground := Ground.textOnly Departure.lateStores }, { on := 3, ground := Ground.textOnly Departure.lateStores }, { on := 4, ground := Ground.textOnly Departure.lateStores }, { on := 5, ground := Ground.textOnly Departure.lateStores }, { on := 6, ground := Ground.textOnly Departure.lateStores }, { on := 7, ground := Ground.textOnly Departure.lateStores }, { on := 8, ground := Ground.textOnly Departure.lateStoresUnsure }, { on := 9, ground := Ground.textOnly Departure.lateStores }], guard := none }) rfl (fun K' hK => ?_)
            go_simp
            refine hK _ _ (fun _ => ?_) ?_
            · exact ⟨far5 z0 (by omega), far5 z1 (by omega), far5 z2 (by omega), far5 z3 (by omega), far5 z4 (by omega), far5 z5 (by omega)⟩
            clear hK K'
            try simp only [Act.put, List.setIfInBounds_toArray, List.set_cons_zero, List.set_cons_succ]
            refine wpAnyM_take (i := 11) (oi := { dst := some 9, op := Op.assign (Operand.tmp 62), type := 4, pos := "inline.go:56", after := #[{ on := 9, ground := Ground.data }, { on := 10, ground := Ground.chain }, { on := 0, ground := Ground.phase }, { on := 1, ground := Ground.phase }, { on := 2, ground := Ground.phase }, { on := 3, ground := Ground.phase }, { on := 4, ground := Ground.phase }, { on := 5, ground := Ground.phase }, { on := 6, ground := Ground.phase }, { on := 7, ground := Ground.phase }, { on := 8, ground := Ground.phase }, { on := 9, ground := Ground.phase }, { on := 10, ground := Ground.phase }], guard := none }) (v := .bool (leafE m)) (by kernel_rfl) (by kernel_rfl) rfl (by kernel_rfl) (by kernel_rfl) (by kernel_rfl) (fun _ _ _ h => h) (Or.inl ⟨by rfl, ?_⟩) (⟨far5 z0 (by omega), far5 z1 (by omega), far5 z2 (by omega), far5 z3 (by omega), far5 z4 (by omega), far5 z5 (by omega)⟩) ?_
            · intro w hSw
              obtain ⟨q0, q1, q2, q3, q4, q5⟩ := hSw
              go_simp
            try simp only [Act.put, List.setIfInBounds_toArray, List.set_cons_zero, List.set_cons_succ]
            refine wpAnyM_done (by kernel_rfl) ?_ _
            try simp only [Act.put, List.setIfInBounds_toArray, List.set_cons_zero, List.set_cons_succ]
            have HQ := hid (lf_fin (U := w5) (m := m) (a := ak) (c := ck) HST.out (nstep hbV hbV5) (hco.later goodI hbV5))
            go_wp2
            refine bodyPost_ret (v := .tuple #[MV m (.slice ak m.code.length ck), .bool (leafE m)]) ?_ rfl HQ.out
            simp [results, Try.results24, go_sem, r0, r1, r2, r3, r4]

          · have heb : (m.args == x.a) = false := by simpa using hea
            have HST : Hid (standsIn X.classes sites at' x = if false then some m else none) := by show _ = _; rw [HSM.out]; simp [hea]
            clear hea
            refine wp_region_late (S := fun w' => w'.cell? ⟨b12, 0, none⟩ = some (.string m.name) ∧ w'.cell? ⟨b12, 1, none⟩ = some (.int .i64 m.args) ∧ w'.cell? ⟨b12, 2, none⟩ = some (.int .i64 m.temps) ∧ w'.cell? ⟨b12, 3, none⟩ = some (.int .i64 m.prim) ∧ w'.cell? ⟨b12, 4, none⟩ = some (.slice ak m.code.length ck) ∧ w'.cell? ⟨w.heap.size + 1, 1, none⟩ = some (.int .i64 x.a)) [] (by kernel_rfl) ?_
            refine wpAnyM_take (i := 0) (oi := { dst := some 53, op := Op.load 48 (Operand.tmp 12), type := 48, pos := "inline.go:56", after := #[], guard := none }) (v := MV m (.slice ak m.code.length ck)) (by kernel_rfl) (by kernel_rfl) rfl (by kernel_rfl) (by kernel_rfl) (by kernel_rfl) (fun _ _ _ h => h) (Or.inl ⟨by rfl, ?_⟩) (hS7) ?_
            · intro w hSw
              obtain ⟨q0, q1, q2, q3, q4, q5⟩ := hSw
              go_simp
            try simp only [Act.put, List.setIfInBounds_toArray, List.set_cons_zero, List.set_cons_succ]
            refine wpAnyM_take (i := 1) (oi := { dst := some 54, op := Op.fieldAddr 48 (Operand.tmp 12) 1, type := 0, pos := "inline.go:56", after := #[], guard := none }) (v := .pointer (some ⟨b12, 1, none⟩)) (by kernel_rfl) (by kernel_rfl) rfl (by kernel_rfl) (by kernel_rfl) (by kernel_rfl) (fun _ _ _ h => h) (Or.inl ⟨by rfl, ?_⟩) (hS7) ?_
            · intro w hSw
              obtain ⟨q0, q1, q2, q3, q4, q5⟩ := hSw
              go_simp
            try simp only [Act.put, List.setIfInBounds_toArray, List.set_cons_zero, List.set_cons_succ]
            refine wpAnyM_take (i := 2) (oi := { dst := some 55, op := Op.load 3 (Operand.tmp 54), type := 3, pos := "inline.go:56", after := #[{ on := 1, ground := Ground.data }], guard := none }) (v := .int .i64 m.args) (by kernel_rfl) (by kernel_rfl) rfl (by kernel_rfl) (by kernel_rfl) (by kernel_rfl) (fun _ _ _ h => h) (Or.inl ⟨by rfl, ?_⟩) (hS7) ?_
            · intro w hSw
              obtain ⟨q0, q1, q2, q3, q4, q5⟩ := hSw
              go_simp
            try simp only [Act.put, List.setIfInBounds_toArray, List.set_cons_zero, List.set_cons_succ]
            refine wpAnyM_take (i := 3) (oi := { dst := some 56, op := Op.fieldAddr 54 (Operand.tmp 7) 1, type := 0, pos := "inline.go:56", after := #[], guard := none }) (v := .pointer (some ⟨w.heap.size + 1, 1, none⟩)) (by kernel_rfl) (by kernel_rfl) rfl (by kernel_rfl) (by kernel_rfl) (by kernel_rfl) (fun _ _ _ h => h) (Or.inl ⟨by rfl, ?_⟩) (hS7) ?_
            · intro w hSw
              obtain ⟨q0, q1, q2, q3, q4, q5⟩ := hSw
              go_simp
            try simp only [Act.put, List.setIfInBounds_toArray, List.set_cons_zero, List.set_cons_succ]
            refine wpAnyM_take (i := 4) (oi := { dst := some 57, op := Op.load 3 (Operand.tmp 56), type := 3, pos := "inline.go:56", after := #[{ on := 3, ground := Ground.data }], guard := none }) (v := .int .i64 x.a) (by kernel_rfl) (by kernel_rfl) rfl (by kernel_rfl) (by kernel_rfl) (by kernel_rfl) (fun _ _ _ h => h) (Or.inl ⟨by rfl, ?_⟩) (hS7) ?_
            · intro w hSw
              obtain ⟨q0, q1, q2, q3, q4, q5⟩ := hSw
              go_simp
            try simp only [Act.put, List.setIfInBounds_toArray, List.set_cons_zero, List.set_cons_succ]
            refine wpAnyM_take (i := 5) (oi := { dst := some 58, op := Op.binOp BinOp.eql 3 (Operand.tmp 55) (Operand.tmp 57) 3, type := 4, pos := "inline.go:56", after := #[{ on := 2, ground := Ground.data }, { on := 4, ground := Ground.data }], guard := none }) (v := .bool false) (by kernel_rfl) (by kernel_rfl) rfl (by kernel_rfl) (by kernel_rfl) (by kernel_rfl) (fun _ _ _ h => h) (Or.inl ⟨by rfl, ?_⟩) (hS7) ?_
            · intro w hSw
              obtain ⟨q0, q1, q2, q3, q4, q5⟩ := hSw
              go_simp
            try simp only [Act.put, List.setIfInBounds_toArray, List.set_cons_zero, List.set_cons_succ]
            refine wpAnyM_take (i := 6) (oi := { dst := some 59, op := Op.move (Operand.tmp 58), type := 4, pos := "inline.go:56", after := #[{ on := 5, ground := Ground.data }], guard := none }) (v := .bool false) (by kernel_rfl) (by kernel_rfl) rfl (by kernel_rfl) (by kernel_rfl) (by kernel_rfl) (fun _ _ _ h => h) (Or.inl ⟨by rfl, ?_⟩) (hS7) ?_
            · intro w hSw
              obtain ⟨q0, q1, q2, q3, q4, q5⟩ := hSw
              go_simp
            try simp only [Act.put, List.setIfInBounds_toArray, List.set_cons_zero, List.set_cons_succ]
            refine wpAnyM_take (i := 7) (oi := { dst := some 60, op := Op.load 48 (Operand.tmp 12), type := 48, pos := "inline.go:56", after := #[{ on := 6, ground := Ground.guard }], guard := some (6, true) }) (v := undef) (by kernel_rfl) (by kernel_rfl) rfl (by kernel_rfl) (by kernel_rfl) (by kernel_rfl) (fun _ _ _ h => h) (Or.inr ⟨by rfl, rfl⟩) (hS7) ?_
            try simp only [Act.put, List.setIfInBounds_toArray, List.set_cons_zero, List.set_cons_succ]
            refine wpAnyM_take (i := 8) (oi := { dst := some 61, op := Op.call { callee := Callee.value (Operand.func 46), args := #[Operand.tmp 60], argTypes := #[48] }, type := 4, pos := "inline.go:56", after := #[{ on := 7, ground := Ground.data }, { on := 6, ground := Ground.chain }, { on := 6, ground := Ground.guard }], guard := some (6, true) }) (v := undef) (by kernel_rfl) (by kernel_rfl) rfl (by kernel_rfl) (by kernel_rfl) (by kernel_rfl) (fun _ _ _ h => h) (Or.inr ⟨by rfl, rfl⟩) (hS7) ?_
            try simp only [Act.put, List.setIfInBounds_toArray, List.set_cons_zero, List.set_cons_succ]
            refine wpAnyM_take (i := 9) (oi := { dst := some 62, op := Op.pick (Operand.tmp 59) (Operand.tmp 61) (Operand.const (Value.bool false)), type := 4, pos := "inline.go:56", after := #[{ on := 6, ground := Ground.data }, { on := 8, ground := Ground.data }, { on := 10, ground := Ground.gcOnly Departure.lateStores }], guard := none }) (v := .bool false) (by kernel_rfl) (by kernel_rfl) rfl (by kernel_rfl) (by kernel_rfl) (by kernel_rfl) (fun _ _ _ h => h) (Or.inl ⟨by rfl, ?_⟩) (hS7) ?_
            · intro w hSw
              obtain ⟨q0, q1, q2, q3, q4, q5⟩ := hSw
              go_simp
            try simp only [Act.put, List.setIfInBounds_toArray, List.set_cons_zero, List.set_cons_succ]
            refine wpAnyM_ready (rs := [10]) (by kernel_rfl) (by simp) ?_
            intro i hi
            simp only [List.mem_cons, List.not_mem_nil, or_false] at hi
            subst hi
            refine stepM (o := { dst := none, op := Op.store 48 (Operand.tmp 8) (Operand.tmp 53), type := 0, pos := "inline.go:56", after := #[{ on := 0, ground := Ground.data }, { on := 8, ground := Ground.chain }, { on := 0, ground := Ground.phase }, { on := 1, ground := Ground.textOnly Departure.lateStores }, { on := 2, ground := Ground.textOnly Departure.lateStores }, { on := 3, ground := Ground.textOnly Departure.lateStores }, { on := 4, ground := Ground.textOnly Departure.lateStores }, { on := 5, ground := Ground.textOnly Departure.lateStores }, { on := 6, ground := Ground.textOnly Departure.lateStores }, { on := 7, ground := Ground.textOnly Departure.lateStores }, { on := 8, ground := Ground.textOnly Departure.lateStoresUnsure }, { on := 9, ground := Ground.textOnly Departure.lateStores }], guard := none }) rfl (fun K' hK => ?_)
            obtain ⟨r0, r1, r2, r3, r4, rf⟩ := hZ _ (Below.refl _ V)
            obtain ⟨z0, z1, z2, z3, z4, z5⟩ := hSl _ (Below.refl _ V)
            go_simp
            refine hK _ _ (fun _ => ?_) ?_
            · exact ⟨cell_later (Below.refl _ _).drew (far5 z0 (by omega)), cell_later (Below.refl _ _).drew (far5 z1 (by omega)), cell_later (Below.refl _ _).drew (far5 z2 (by omega)), cell_later (Below.refl _ _).drew (far5 z3 (by omega)), cell_later (Below.refl _ _).drew (far5 z4 (by omega)), cell_later (Below.refl _ _).drew (far5 z5 (by omega))⟩
            clear hK K'
            try simp only [Act.put, List.setIfInBounds_toArray, List.set_cons_zero, List.set_cons_succ]
            refine wpAnyM_take (i := 11) (oi := { dst := some 9, op := Op.assign (Operand.tmp 62), type := 4, pos := "inline.go:56", after := #[{ on := 9, ground := Ground.data }, { on := 10, ground := Ground.chain }, { on := 0, ground := Ground.phase }, { on := 1, ground := Ground.phase }, { on := 2, ground := Ground.phase }, { on := 3, ground := Ground.phase }, { on := 4, ground := Ground.phase }, { on := 5, ground := Ground.phase }, { on := 6, ground := Ground.phase }, { on := 7, ground := Ground.phase }, { on := 8, ground := Ground.phase }, { on := 9, ground := Ground.phase }, { on := 10, ground := Ground.phase }], guard := none }) (v := .bool false) (by kernel_rfl) (by kernel_rfl) rfl (by kernel_rfl) (by kernel_rfl) (by kernel_rfl) (fun _ _ _ h => h) (Or.inl ⟨by rfl, ?_⟩) (⟨cell_later (Below.refl _ _).drew (far5 z0 (by omega)), cell_later (Below.refl _ _).drew (far5 z1 (by omega)), cell_later (Below.refl _ _).drew (far5 z2 (by omega)), cell_later (Below.refl _ _).drew (far5 z3 (by omega)), cell_later (Below.refl _ _).drew (far5 z4 (by omega)), cell_later (Below.refl _ _).drew (far5 z5 (by omega))⟩) ?_
            · intro w hSw
              obtain ⟨q0, q1, q2, q3, q4, q5⟩ := hSw
              go_simp
            try simp only [Act.put, List.setIfInBounds_toArray, List.set_cons_zero, List.set_cons_succ]
            refine wpAnyM_done (by kernel_rfl) ?_ _
            try simp only [Act.put, List.setIfInBounds_toArray, List.set_cons_zero, List.set_cons_succ]
            have HQ := hid (lf_fin (U := V) (m := m) (a := ak) (c := ck) (b := false) HST.out hbV hco)
            obtain ⟨r0, r1, r2, r3, r4, rf⟩ := hZ _ (Below.refl _ V)
            go_wp2
            refine bodyPost_ret (v := .tuple #[MV m (.slice ak m.code.length ck), .bool false]) ?_ rfl HQ.out.drew
            simp [results, Try.results24, go_sem, r0, r1, r2, r3, r4]

    · have hge : (sites.length : Int) ≤ (at' : Int) := by omega
      have HZ := hid (HN.out W hbW (by unfold standsIn; rw [if_neg (by rw [List.getD_eq_getElem?_getD, List.getElem?_eq_none (by omega)]; simp)]))
      clear hrow
      go_wp2
      refine bodyPost_ret (v := .tuple #[MV zM0 (.slice none 0 0), .bool false]) ?_ rfl HZ.out
      simp [results, Try.results24, go_sem, z0, z1, z2, z3, z4]
  · have hd : (x.op == 14) = false := by simpa using hop
    have hdn : (x.op != 14) = true := by simpa using hop
    have HZ := hid (HN.out W hbW (by unfold standsIn; rw [if_neg (by omega)]))
    clear hop
    go_wp2
    refine bodyPost_ret (v := .tuple #[MV zM0 (.slice none 0 0), .bool false]) ?_ rfl HZ.out
    simp [results, Try.results24, go_sem, z0, z1, z2, z3, z4]
end Go.Proofs.Ythaefhojnjdheaa
