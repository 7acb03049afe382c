/- Inline: has, lead. -/
import Derived.Test.YthaefhojnjdheaaId
import Derived.Test.YthaefhojnjdheaaXj
namespace Go.Proofs.Ythaefhojnjdheaa
open Go.ChangeShapes Go.WideShapes Go.ChangeAt Go.RowKit
set_option linter.unusedSimpArgs false
set_option linter.unusedVariables false
set_option maxRecDepth 8000

def methQ (xs : List QC) (c k : Int) : Option QM := (clsAt xs c).bind fun x => if 0 ≤ k then x.methods[k.toNat]? else none
theorem ihas_any {P : Nat → Prop} (X : QW) (c k : Int) (cv hv : Value) (w : World) (hC : IsClasses P w cv X.classes) (hH : IsHeap P w hv X.heap) : Calls Try.prog 23 #[WV cv hv X.epoch, .int .i64 c, .int .i64 k] w fun e w' => e = .returned (.bool (methQ X.classes c k).isSome) ∧ Below w.heap.size w w' := by
  obtain ⟨ac, cc, rfl, hl, hcc, -, hrow⟩ := id hC
  obtain ⟨ah, ch, rfl, -⟩ := id hH
  unfold maxLen at hcc
  have hb0 := bel1 w (.cells #[.slice ac X.classes.length cc, .slice ah X.heap.length ch, .int .i64 X.epoch] 25)
  by_cases hc0 : 0 ≤ c
  · obtain ⟨q, rfl⟩ : ∃ q : Nat, c = (q : Int) := ⟨c.toNat, by omega⟩
    have hd0 : decide ((0 : Int) ≤ (q : Int)) = true := by simp
    by_cases hq : q < X.classes.length
    · have hx : X.classes[q]? = some X.classes[q] := by simp [hq]
      have HM : Hid (methQ X.classes (q : Int) k = if 0 ≤ k then X.classes[q].methods[k.toNat]? else none) := by show _ = _; unfold methQ; rw [clsAt_nat, hx]; rfl
      obtain ⟨b, o, rfl, -, -, -, -, -, mv, y3, hms⟩ := hrow q _ hx
      generalize X.classes[q] = xc at *
      obtain ⟨am, cm, rfl, -⟩ := id hms
      have u3 := cell_later hb0 y3
      have hq1 : (q : Int) < (X.classes.length : Int) := by omega
      have hq0 : (0 : Int) ≤ (q : Int) := by omega
      clear hrow y3 hms
      by_cases hk : 0 ≤ k
      · have HM2 : Hid ((methQ X.classes (q : Int) k).isSome = decide (k < (xc.methods.length : Int))) := by
          show _ = _
          rw [HM.out, if_pos hk]
          by_cases h : k < (xc.methods.length : Int)
          · rw [List.getElem?_eq_getElem (by omega)]; simp [h]
          · rw [List.getElem?_eq_none (by omega)]; simp [h]
        go_enter Try.func23, Try.ntmps23
        go_wp2
        go_ret
        exact ⟨ret_b HM2.out.symm, hb0⟩
      · have HM2 : Hid ((methQ X.classes (q : Int) k).isSome = false) := by show _ = _; rw [HM.out, if_neg hk]; rfl
        have hkn : ¬ (0 ≤ k) := hk
        go_enter Try.func23, Try.ntmps23
        go_wp2
        go_ret
        exact ⟨ret_b HM2.out.symm, hb0⟩
    · have HM2 : Hid ((methQ X.classes (q : Int) k).isSome = false) := by show _ = _; unfold methQ; rw [clsAt_nat, List.getElem?_eq_none (by omega)]; rfl
      have hqn : ¬ ((q : Int) < (X.classes.length : Int)) := by omega
      clear hrow
      go_enter Try.func23, Try.ntmps23
      go_wp2
      go_ret
      exact ⟨ret_b HM2.out.symm, hb0⟩
  · have HM2 : Hid ((methQ X.classes c k).isSome = false) := by show _ = _; unfold methQ clsAt; rw [if_neg hc0]; rfl
    clear hrow
    go_enter Try.func23, Try.ntmps23
    go_wp2
    go_ret
    exact ⟨ret_b HM2.out.symm, hb0⟩
theorem icells_setA : ∀ (q : List QI) (i : Nat) (t : Int), (icells q).set (i * 5 + 1) (.int .i64 t) = icells (q.modify i fun y => { y with a := t })
  | [], i, t => by simp [icells]
  | p :: q, 0, t => by simp [icells]
  | p :: q, i + 1, t => by
    rw [show (i + 1) * 5 + 1 = i * 5 + 1 + 1 + 1 + 1 + 1 + 1 by omega]
    simp only [icells, List.set_cons_succ, List.modify_succ_cons]
    rw [icells_setA q i t]
theorem OwnI.setA {w : World} {B g o cap : Nat} {code : List QI} (h : OwnI w B (some ⟨g, o, none⟩) cap code) {p : Nat} (hp : p < code.length) (t : Int) : OwnI (w.setCell ⟨g, o + p * 5 + 1, none⟩ (.int .i64 t)) B (some ⟨g, o, none⟩) cap (code.modify p fun y => { y with a := t }) := by
  obtain ⟨h1, h2 | ⟨g', o', c', cur, e, h3, h4, h5, h6, h7, h8⟩⟩ := h
  · have := h2.2; omega
  · cases e
    unfold OwnI
    rw [List.length_modify]
    refine ⟨by rw [icells_len, List.length_modify], Or.inr ⟨g, o, cap, _, rfl, h3, setCell_same h4 _, h5, h6, by simpa using h7, ?_⟩⟩
    rw [← icells_setA, ← h8]
    simp only [Array.toList_setIfInBounds, List.drop_set, List.take_set]
    rw [if_neg (by omega), show o + p * 5 + 1 - o = p * 5 + 1 by omega, List.take_set]
set_option maxHeartbeats 2000000 in
theorem lead_any {P Q : Nat → Prop} (code plain : List QI) (begins : List Int) (g o cap B : Nat) (kv bv : Value) (w : World) (hO : OwnI w B (some ⟨g, o, none⟩) cap code) (hP : IsCode P w kv plain) (hQ : IsInts Q w bv begins) (hPg : ∀ b, P b → b ≠ g) (hQg : ∀ b, Q b → b ≠ g) (hlen : begins.length = plain.length) (hl60 : plain.length ≤ 60) (hin : ∀ b ∈ begins, 0 ≤ b ∧ b < (code.length : Int)) :
    Calls Try.prog 29 #[.slice (some ⟨g, o, none⟩) code.length cap, kv, bv] w fun e w' => e = .returned (.tuple #[]) ∧ OwnI w' B (some ⟨g, o, none⟩) cap (ledE begins plain code plain.length) ∧ Below B w w' ∧ ∀ b, b < w.heap.size → b ≠ g → w'.heap[b]? = w.heap[b]? := by
  obtain ⟨ak, ck, rfl, -, hck, -, hrowP⟩ := id hP
  obtain ⟨ab, cb, rfl, -, hcb, -, hrowQ⟩ := id hQ
  have hcap : code.length ≤ cap ∧ cap ≤ 9223372036854775807 := by
    obtain ⟨a', c', e, h1, h2⟩ := hO.form
    cases e; unfold maxLen at h2; omega
  unfold maxLen at hck hcb
  have hBg : B ≤ g := (hO.lt g rfl).1
  have hgw : g < w.heap.size := (hO.lt g rfl).2
  generalize hn : code.length = n at *
  have HIN := hid hin
  have HLEN := hid hlen
  clear hin hlen
  go_enter Try.func29, Try.ntmps29
  go_wp2
  go_loopg [10] plain.length (fun gk iv wr => ∃ j : Nat, j + gk = plain.length ∧ iv = .int .i64 (j : Int) ∧ OwnI wr B (some ⟨g, o, none⟩) cap (ledE begins plain code j) ∧ Below B w wr ∧ (∀ b, b < w.heap.size → b ≠ g → wr.heap[b]? = w.heap[b]?) ∧ w.heap.size ≤ wr.heap.size)
  case atStart => exact ⟨0, by omega, rfl, hO, Below.refl _ _, fun _ _ _ => rfl, Nat.le_refl _⟩
  case round =>
    clear hO
    obtain ⟨j, hj, rfl, hO, hb, hblk, hsz⟩ := hrel
    have hlj : (ledE begins plain code j).length = n := by rw [ledE_len, hn]
    by_cases hlt : j < plain.length
    · have hxj : plain[j]? = some plain[j] := by simp [hlt]
      obtain ⟨pz, hbj⟩ : ∃ pz, begins[j]? = some pz := ⟨begins[j]'(by have := HLEN.out; omega), by simp⟩
      have hpz := HIN.out pz (List.mem_of_getElem? hbj)
      obtain ⟨p, rfl⟩ : ∃ p : Nat, pz = (p : Int) := ⟨pz.toNat, by omega⟩
      obtain ⟨b1, o1, rfl, hPb, u0, u1, u2, u3, u4, -⟩ := hrowP j _ hxj
      obtain ⟨bb, ob, rfl, hQb, y0⟩ := hrowQ j _ hbj
      generalize plain[j] = x at *
      have hb1l : b1 < w.heap.size := World.block_lt_of_cell? w _ u0
      have hbbl : bb < w.heap.size := World.block_lt_of_cell? w _ y0
      have hcell : ∀ (b o : Nat) v, b < w.heap.size → b ≠ g → w.cell? ⟨b, o, none⟩ = some v → wr.cell? ⟨b, o, none⟩ = some v := fun b o v h1 h2 h => by unfold World.cell? at h ⊢; rw [hblk b h1 h2]; exact h
      simp only [Nat.add_zero] at u0
      replace u0 := hcell _ _ _ hb1l (hPg _ hPb) u0
      replace u1 := hcell _ _ _ hb1l (hPg _ hPb) u1
      replace u2 := hcell _ _ _ hb1l (hPg _ hPb) u2
      replace u3 := hcell _ _ _ hb1l (hPg _ hPb) u3
      replace u4 := hcell _ _ _ hb1l (hPg _ hPb) u4
      replace y0 : wr.cell? ⟨bb, ob + j, none⟩ = some (.int .i64 (p : Int)) := hcell _ _ _ hbbl (hQg _ hQb) (by simpa [IntC] using y0)
      have hj1 : (j : Int) < (plain.length : Int) := by omega
      have hj0 : (0 : Int) ≤ (j : Int) := by omega
      have hjb : (j : Int) < (begins.length : Int) := by have := HLEN.out; omega
      have hbx := bel1 wr (.cells #[.int .i64 x.op, .int .i64 x.a, .int .i64 x.b, .int .i64 x.c, .string x.name] 54)
      have HLS : Hid (ledE begins plain code (j + 1) = match leadE begins x with | some t => (ledE begins plain code j).modify p (fun y => { y with a := t }) | none => ledE begins plain code j) := by
        show _ = _
        conv => lhs; unfold ledE
        rw [hxj, hbj]
        cases h : leadE begins x with
        | none => simp only [h]
        | some t => simp only [h, Int.toNat_natCast]
      have HNX : Hid (leadE begins x = none → ∃ j' : Nat, j' + (plain.length - (j + 1)) = plain.length ∧ Value.int .i64 ((j : Int) + 1) = .int .i64 (j' : Int) ∧ OwnI (wr.alloc (.cells #[.int .i64 x.op, .int .i64 x.a, .int .i64 x.b, .int .i64 x.c, .string x.name] 54)) B (some ⟨g, o, none⟩) cap (ledE begins plain code j') ∧ Below B w (wr.alloc (.cells #[.int .i64 x.op, .int .i64 x.a, .int .i64 x.b, .int .i64 x.c, .string x.name] 54)) ∧ (∀ b, b < w.heap.size → b ≠ g → (wr.alloc (.cells #[.int .i64 x.op, .int .i64 x.a, .int .i64 x.b, .int .i64 x.c, .string x.name] 54)).heap[b]? = w.heap[b]?) ∧ w.heap.size ≤ (wr.alloc (.cells #[.int .i64 x.op, .int .i64 x.a, .int .i64 x.b, .int .i64 x.c, .string x.name] 54)).heap.size) := fun h => by
        refine ⟨j + 1, by omega, by go_num, ?_, bel_al hb _ (by omega), fun b h1 h2 => by rw [hbx.block b (by omega)]; exact hblk b h1 h2, by simp; omega⟩
        rw [HLS.out, h]
        exact hO.alloc _
      have hwj : IntKind.i64.wrap ((j : Int) + 1) = (j : Int) + 1 := wrap_of (by omega) (by omega)
      clear hxj hbj hcell
      by_cases hjp : (x.op = 15 ∨ x.op = 16) ∧ 0 ≤ x.a ∧ x.a < (begins.length : Int)
      · obtain ⟨hop, ha0, ha1⟩ := hjp
        obtain ⟨xa, hxa⟩ : ∃ xa : Nat, x.a = (xa : Int) := ⟨x.a.toNat, by omega⟩
        obtain ⟨tt, htt⟩ : ∃ tt, begins[xa]? = some tt := ⟨begins[xa]'(by omega), by simp⟩
        have HLD : Hid (leadE begins x = some tt) := by show _ = _; unfold leadE; rw [if_pos ⟨hop, ha0⟩, hxa]; simpa using htt
        obtain ⟨bb', ob', eb, -, t0⟩ := hrowQ xa tt htt
        cases eb
        replace t0 : wr.cell? ⟨bb, ob + xa, none⟩ = some (.int .i64 tt) := by
          have h : w.cell? ⟨bb, ob + xa, none⟩ = some (.int .i64 tt) := by simpa [IntC] using t0
          unfold World.cell? at h ⊢; rw [hblk bb hbbl (hQg _ hQb)]; exact h
        have hxa1 : (xa : Int) < (begins.length : Int) := by omega
        have hxa0 : (0 : Int) ≤ (xa : Int) := by omega
        have hda : decide ((0 : Int) ≤ (xa : Int)) = true := by simp
        have hdb : decide ((xa : Int) < (begins.length : Int)) = true := by simp; omega
        have hp1 : (p : Int) < (n : Int) := by omega
        have hp0 : (0 : Int) ≤ (p : Int) := by omega
        rw [hxa] at u1
        have hO1 : OwnI (wr.alloc (.cells #[.int .i64 x.op, .int .i64 (xa : Int), .int .i64 x.b, .int .i64 x.c, .string x.name] 54)) B (some ⟨g, o, none⟩) cap (ledE begins plain code j) := hO.alloc _
        have hset := hid (OwnI.setA hO1 (p := p) (by omega) tt)
        have hgr : g < wr.heap.size := (hO.lt g rfl).2
        have hcg : ∃ u, (wr.alloc (.cells #[.int .i64 x.op, .int .i64 (xa : Int), .int .i64 x.b, .int .i64 x.c, .string x.name] 54)).cell? ⟨g, o + p * 5 + 1, none⟩ = some u ∧ ∀ k, (wr.alloc (.cells #[.int .i64 x.op, .int .i64 (xa : Int), .int .i64 x.b, .int .i64 x.c, .string x.name] 54)).frozen? ⟨g, k, none⟩ = false := by
          obtain ⟨h1, h2 | ⟨g', o', c', cur, e, h3, h4, h5, h6, h7, h8⟩⟩ := hO1
          · have := h2.2; omega
          · cases e
            refine ⟨_, by rw [cell_of_row _ _ _ _ _ _ h4]; exact Array.getElem?_eq_getElem (by omega), row_free h4⟩
        obtain ⟨ug, hug, hgf⟩ := hcg
        have hbx' := bel1 wr (.cells #[.int .i64 x.op, .int .i64 (xa : Int), .int .i64 x.b, .int .i64 x.c, .string x.name] 54)
        have y0' := cell_later hbx' y0
        have t0' := cell_later hbx' t0
        have x1' : (wr.alloc (.cells #[.int .i64 x.op, .int .i64 (xa : Int), .int .i64 x.b, .int .i64 x.c, .string x.name] 54)).cell? ⟨wr.heap.size, 1, none⟩ = some (.int .i64 (xa : Int)) := cell_new _ _ _ _ rfl 1
        have HXA := hid hxa
        have HBB := hid (And.intro hblk (And.intro hb hsz))
        clear hxa ha0 ha1 htt hO hO1 HNX hrowQ hrowP
        have hfin : Hid (∃ j' : Nat, j' + (plain.length - (j + 1)) = plain.length ∧ Value.int .i64 ((j : Int) + 1) = .int .i64 (j' : Int) ∧ OwnI (((wr.alloc (.cells #[.int .i64 x.op, .int .i64 (xa : Int), .int .i64 x.b, .int .i64 x.c, .string x.name] 54))).setCell ⟨g, o + p * 5 + 1, none⟩ (.int .i64 tt)).drew B (some ⟨g, o, none⟩) cap (ledE begins plain code j') ∧ Below B w (((wr.alloc (.cells #[.int .i64 x.op, .int .i64 (xa : Int), .int .i64 x.b, .int .i64 x.c, .string x.name] 54))).setCell ⟨g, o + p * 5 + 1, none⟩ (.int .i64 tt)).drew ∧ (∀ b, b < w.heap.size → b ≠ g → (((wr.alloc (.cells #[.int .i64 x.op, .int .i64 (xa : Int), .int .i64 x.b, .int .i64 x.c, .string x.name] 54))).setCell ⟨g, o + p * 5 + 1, none⟩ (.int .i64 tt)).drew.heap[b]? = w.heap[b]?) ∧ w.heap.size ≤ (((wr.alloc (.cells #[.int .i64 x.op, .int .i64 (xa : Int), .int .i64 x.b, .int .i64 x.c, .string x.name] 54))).setCell ⟨g, o + p * 5 + 1, none⟩ (.int .i64 tt)).drew.heap.size) := by
          obtain ⟨h1, h2, h3⟩ := HBB.out
          refine ⟨j + 1, by omega, by go_num, ?_, ((bel_al h2 _ (by omega)).setCell hBg _).drew, fun b hb1 hb2 => ?_, by simp; omega⟩
          · rw [HLS.out, HLD.out]
            exact hset.out.keep fun g hg => rfl
          · show (World.setCell _ _ _).heap[b]? = _
            rw [setCell_else hb2, hbx'.block b (by omega)]
            exact h1 b hb1 hb2
        rcases hop with hop | hop
        · have hd15 : (x.op == 15) = true := by simpa using hop
          clear hop
          go_upto_region 4 with (fail)
          generalize (wr.alloc (.cells #[.int .i64 x.op, .int .i64 (xa : Int), .int .i64 x.b, .int .i64 x.c, .string x.name] 54)) = V at *
          have hS0 : V.drew.cell? ⟨bb, ob + j, none⟩ = some (.int .i64 (p : Int)) ∧ V.drew.cell? ⟨wr.heap.size, 1, none⟩ = some (.int .i64 (xa : Int)) ∧ V.drew.cell? ⟨bb, ob + xa, none⟩ = some (.int .i64 tt) := ⟨y0', x1', t0'⟩
          refine wp_region_late (S := fun w' => w'.cell? ⟨bb, ob + j, none⟩ = some (.int .i64 (p : Int)) ∧ w'.cell? ⟨wr.heap.size, 1, none⟩ = some (.int .i64 (xa : Int)) ∧ w'.cell? ⟨bb, ob + xa, none⟩ = some (.int .i64 tt)) [12] (by kernel_rfl) ?_
          refine wpAnyM_take (i := 0) (oi := { dst := some 35, op := Op.move (Operand.tmp 0), type := 29, pos := "inline.go:89", after := #[], guard := none }) (v := .slice (some ⟨g, o, none⟩) n cap) (by kernel_rfl) (by kernel_rfl) rfl (by kernel_rfl) (by kernel_rfl) (by kernel_rfl) (fun _ _ _ h => h) (Or.inl ⟨by rfl, ?_⟩) (hS0) ?_
          · intro w hSw
            obtain ⟨q0, q1, q2⟩ := hSw
            go_simp
          try simp only [Act.put, List.setIfInBounds_toArray, List.set_cons_zero, List.set_cons_succ]
          refine wpAnyM_take (i := 1) (oi := { dst := some 36, op := Op.move (Operand.tmp 2), type := 26, pos := "inline.go:89", after := #[], guard := none }) (v := .slice (some ⟨bb, ob, none⟩) begins.length cb) (by kernel_rfl) (by kernel_rfl) rfl (by kernel_rfl) (by kernel_rfl) (by kernel_rfl) (fun _ _ _ h => h) (Or.inl ⟨by rfl, ?_⟩) (hS0) ?_
          · intro w hSw
            obtain ⟨q0, q1, q2⟩ := hSw
            go_simp
          try simp only [Act.put, List.setIfInBounds_toArray, List.set_cons_zero, List.set_cons_succ]
          refine wpAnyM_take (i := 2) (oi := { dst := some 37, op := Op.move (Operand.tmp 6), type := 3, pos := "inline.go:89", after := #[], guard := none }) (v := .int .i64 (j : Int)) (by kernel_rfl) (by kernel_rfl) rfl (by kernel_rfl) (by kernel_rfl) (by kernel_rfl) (fun _ _ _ h => h) (Or.inl ⟨by rfl, ?_⟩) (hS0) ?_
          · intro w hSw
            obtain ⟨q0, q1, q2⟩ := hSw
            go_simp
          try simp only [Act.put, List.setIfInBounds_toArray, List.set_cons_zero, List.set_cons_succ]
          refine wpAnyM_take (i := 3) (oi := { dst := some 38, op := Op.indexAddr 26 (Operand.tmp 36) (Operand.tmp 37), type := 0, pos := "inline.go:89", after := #[{ on := 1, ground := Ground.data }, { on := 2, ground := Ground.data }], guard := none }) (v := .pointer (some ⟨bb, ob + j, none⟩)) (by kernel_rfl) (by kernel_rfl) rfl (by kernel_rfl) (by kernel_rfl) (by kernel_rfl) (fun _ _ _ h => h) (Or.inl ⟨by rfl, ?_⟩) (hS0) ?_
          · intro w hSw
            obtain ⟨q0, q1, q2⟩ := hSw
            go_simp
          try simp only [Act.put, List.setIfInBounds_toArray, List.set_cons_zero, List.set_cons_succ]
          refine wpAnyM_take (i := 4) (oi := { dst := some 39, op := Op.load 3 (Operand.tmp 38), type := 3, pos := "inline.go:89", after := #[{ on := 3, ground := Ground.data }], guard := none }) (v := .int .i64 (p : Int)) (by kernel_rfl) (by kernel_rfl) rfl (by kernel_rfl) (by kernel_rfl) (by kernel_rfl) (fun _ _ _ h => h) (Or.inl ⟨by rfl, ?_⟩) (hS0) ?_
          · intro w hSw
            obtain ⟨q0, q1, q2⟩ := hSw
            go_simp
          try simp only [Act.put, List.setIfInBounds_toArray, List.set_cons_zero, List.set_cons_succ]
          refine wpAnyM_take (i := 5) (oi := { dst := some 40, op := Op.move (Operand.tmp 2), type := 26, pos := "inline.go:89", after := #[], guard := none }) (v := .slice (some ⟨bb, ob, none⟩) begins.length cb) (by kernel_rfl) (by kernel_rfl) rfl (by kernel_rfl) (by kernel_rfl) (by kernel_rfl) (fun _ _ _ h => h) (Or.inl ⟨by rfl, ?_⟩) (hS0) ?_
          · intro w hSw
            obtain ⟨q0, q1, q2⟩ := hSw
            go_simp
          try simp only [Act.put, List.setIfInBounds_toArray, List.set_cons_zero, List.set_cons_succ]
          refine wpAnyM_take (i := 6) (oi := { dst := some 41, op := Op.fieldAddr 54 (Operand.tmp 7) 1, type := 0, pos := "inline.go:89", after := #[], guard := none }) (v := .pointer (some ⟨wr.heap.size, 1, none⟩)) (by kernel_rfl) (by kernel_rfl) rfl (by kernel_rfl) (by kernel_rfl) (by kernel_rfl) (fun _ _ _ h => h) (Or.inl ⟨by rfl, ?_⟩) (hS0) ?_
          · intro w hSw
            obtain ⟨q0, q1, q2⟩ := hSw
            go_simp
          try simp only [Act.put, List.setIfInBounds_toArray, List.set_cons_zero, List.set_cons_succ]
          refine wpAnyM_take (i := 7) (oi := { dst := some 42, op := Op.load 3 (Operand.tmp 41), type := 3, pos := "inline.go:89", after := #[{ on := 6, ground := Ground.data }], guard := none }) (v := .int .i64 (xa : Int)) (by kernel_rfl) (by kernel_rfl) rfl (by kernel_rfl) (by kernel_rfl) (by kernel_rfl) (fun _ _ _ h => h) (Or.inl ⟨by rfl, ?_⟩) (hS0) ?_
          · intro w hSw
            obtain ⟨q0, q1, q2⟩ := hSw
            go_simp
          try simp only [Act.put, List.setIfInBounds_toArray, List.set_cons_zero, List.set_cons_succ]
          refine wpAnyM_take (i := 8) (oi := { dst := some 43, op := Op.indexAddr 26 (Operand.tmp 40) (Operand.tmp 42), type := 0, pos := "inline.go:89", after := #[{ on := 5, ground := Ground.data }, { on := 7, ground := Ground.data }], guard := none }) (v := .pointer (some ⟨bb, ob + xa, none⟩)) (by kernel_rfl) (by kernel_rfl) rfl (by kernel_rfl) (by kernel_rfl) (by kernel_rfl) (fun _ _ _ h => h) (Or.inl ⟨by rfl, ?_⟩) (hS0) ?_
          · intro w hSw
            obtain ⟨q0, q1, q2⟩ := hSw
            go_simp
          try simp only [Act.put, List.setIfInBounds_toArray, List.set_cons_zero, List.set_cons_succ]
          refine wpAnyM_take (i := 9) (oi := { dst := some 44, op := Op.load 3 (Operand.tmp 43), type := 3, pos := "inline.go:89", after := #[{ on := 8, ground := Ground.data }], guard := none }) (v := .int .i64 tt) (by kernel_rfl) (by kernel_rfl) rfl (by kernel_rfl) (by kernel_rfl) (by kernel_rfl) (fun _ _ _ h => h) (Or.inl ⟨by rfl, ?_⟩) (hS0) ?_
          · intro w hSw
            obtain ⟨q0, q1, q2⟩ := hSw
            go_simp
          try simp only [Act.put, List.setIfInBounds_toArray, List.set_cons_zero, List.set_cons_succ]
          refine wpAnyM_take (i := 10) (oi := { dst := some 45, op := Op.indexAddr 29 (Operand.tmp 35) (Operand.tmp 39), type := 0, pos := "inline.go:89", after := #[{ on := 0, ground := Ground.data }, { on := 4, ground := Ground.data }, { on := 0, ground := Ground.phase }, { on := 1, ground := Ground.phase }, { on := 2, ground := Ground.phase }, { on := 3, ground := Ground.phase }, { on := 4, ground := Ground.phase }, { on := 5, ground := Ground.phase }, { on := 6, ground := Ground.phase }, { on := 7, ground := Ground.phase }, { on := 8, ground := Ground.phase }, { on := 9, ground := Ground.phase }], guard := none }) (v := .pointer (some ⟨g, o + p * 5, none⟩)) (by kernel_rfl) (by kernel_rfl) rfl (by kernel_rfl) (by kernel_rfl) (by kernel_rfl) (fun _ _ _ h => h) (Or.inl ⟨by rfl, ?_⟩) (hS0) ?_
          · intro w hSw
            obtain ⟨q0, q1, q2⟩ := hSw
            go_simp
          try simp only [Act.put, List.setIfInBounds_toArray, List.set_cons_zero, List.set_cons_succ]
          refine wpAnyM_take (i := 11) (oi := { dst := some 46, op := Op.fieldAddr 54 (Operand.tmp 45) 1, type := 0, pos := "inline.go:89", after := #[{ on := 10, ground := Ground.data }, { on := 0, ground := Ground.phase }, { on := 1, ground := Ground.phase }, { on := 2, ground := Ground.phase }, { on := 3, ground := Ground.phase }, { on := 4, ground := Ground.phase }, { on := 5, ground := Ground.phase }, { on := 6, ground := Ground.phase }, { on := 7, ground := Ground.phase }, { on := 8, ground := Ground.phase }, { on := 9, ground := Ground.phase }], guard := none }) (v := .pointer (some ⟨g, o + p * 5 + 1, none⟩)) (by kernel_rfl) (by kernel_rfl) rfl (by kernel_rfl) (by kernel_rfl) (by kernel_rfl) (fun _ _ _ h => h) (Or.inl ⟨by rfl, ?_⟩) (hS0) ?_
          · intro w hSw
            obtain ⟨q0, q1, q2⟩ := hSw
            go_simp
          try simp only [Act.put, List.setIfInBounds_toArray, List.set_cons_zero, List.set_cons_succ]
          refine wpAnyM_ready (rs := [12]) (by kernel_rfl) (by simp) ?_
          intro i hi
          simp only [List.mem_cons, List.not_mem_nil, or_false] at hi
          subst hi
          refine stepM (o := { dst := none, op := Op.store 3 (Operand.tmp 46) (Operand.tmp 44), type := 0, pos := "inline.go:89", after := #[{ on := 11, ground := Ground.data }, { on := 9, ground := Ground.data }, { on := 0, ground := Ground.phase }, { on := 1, ground := Ground.phase }, { on := 2, ground := Ground.phase }, { on := 3, ground := Ground.phase }, { on := 4, ground := Ground.phase }, { on := 5, ground := Ground.phase }, { on := 6, ground := Ground.phase }, { on := 7, ground := Ground.phase }, { on := 8, ground := Ground.phase }, { on := 9, ground := Ground.phase }], guard := none }) rfl (fun K' hK => ?_)
          go_simp
          refine hK _ _ (fun h => absurd h (by decide)) ?_
          clear hK K'
          try simp only [Act.put, List.setIfInBounds_toArray, List.set_cons_zero, List.set_cons_succ]
          refine wpAnyM_done (by kernel_rfl) ?_ _
          try simp only [Act.put, List.setIfInBounds_toArray, List.set_cons_zero, List.set_cons_succ]

          go_wp2
          go_roundg (plain.length - (j + 1))
          case measure => omega
          case rel => exact hfin.out
        · have hd15 : (x.op == 15) = false := by simp [hop]
          have hd16 : (x.op == 16) = true := by simpa using hop
          clear hop
          go_upto_region 4 with (fail)
          generalize (wr.alloc (.cells #[.int .i64 x.op, .int .i64 (xa : Int), .int .i64 x.b, .int .i64 x.c, .string x.name] 54)) = V at *
          have hS0 : V.drew.cell? ⟨bb, ob + j, none⟩ = some (.int .i64 (p : Int)) ∧ V.drew.cell? ⟨wr.heap.size, 1, none⟩ = some (.int .i64 (xa : Int)) ∧ V.drew.cell? ⟨bb, ob + xa, none⟩ = some (.int .i64 tt) := ⟨y0', x1', t0'⟩
          refine wp_region_late (S := fun w' => w'.cell? ⟨bb, ob + j, none⟩ = some (.int .i64 (p : Int)) ∧ w'.cell? ⟨wr.heap.size, 1, none⟩ = some (.int .i64 (xa : Int)) ∧ w'.cell? ⟨bb, ob + xa, none⟩ = some (.int .i64 tt)) [12] (by kernel_rfl) ?_
          refine wpAnyM_take (i := 0) (oi := { dst := some 35, op := Op.move (Operand.tmp 0), type := 29, pos := "inline.go:89", after := #[], guard := none }) (v := .slice (some ⟨g, o, none⟩) n cap) (by kernel_rfl) (by kernel_rfl) rfl (by kernel_rfl) (by kernel_rfl) (by kernel_rfl) (fun _ _ _ h => h) (Or.inl ⟨by rfl, ?_⟩) (hS0) ?_
          · intro w hSw
            obtain ⟨q0, q1, q2⟩ := hSw
            go_simp
          try simp only [Act.put, List.setIfInBounds_toArray, List.set_cons_zero, List.set_cons_succ]
          refine wpAnyM_take (i := 1) (oi := { dst := some 36, op := Op.move (Operand.tmp 2), type := 26, pos := "inline.go:89", after := #[], guard := none }) (v := .slice (some ⟨bb, ob, none⟩) begins.length cb) (by kernel_rfl) (by kernel_rfl) rfl (by kernel_rfl) (by kernel_rfl) (by kernel_rfl) (fun _ _ _ h => h) (Or.inl ⟨by rfl, ?_⟩) (hS0) ?_
          · intro w hSw
            obtain ⟨q0, q1, q2⟩ := hSw
            go_simp
          try simp only [Act.put, List.setIfInBounds_toArray, List.set_cons_zero, List.set_cons_succ]
          refine wpAnyM_take (i := 2) (oi := { dst := some 37, op := Op.move (Operand.tmp 6), type := 3, pos := "inline.go:89", after := #[], guard := none }) (v := .int .i64 (j : Int)) (by kernel_rfl) (by kernel_rfl) rfl (by kernel_rfl) (by kernel_rfl) (by kernel_rfl) (fun _ _ _ h => h) (Or.inl ⟨by rfl, ?_⟩) (hS0) ?_
          · intro w hSw
            obtain ⟨q0, q1, q2⟩ := hSw
            go_simp
          try simp only [Act.put, List.setIfInBounds_toArray, List.set_cons_zero, List.set_cons_succ]
          refine wpAnyM_take (i := 3) (oi := { dst := some 38, op := Op.indexAddr 26 (Operand.tmp 36) (Operand.tmp 37), type := 0, pos := "inline.go:89", after := #[{ on := 1, ground := Ground.data }, { on := 2, ground := Ground.data }], guard := none }) (v := .pointer (some ⟨bb, ob + j, none⟩)) (by kernel_rfl) (by kernel_rfl) rfl (by kernel_rfl) (by kernel_rfl) (by kernel_rfl) (fun _ _ _ h => h) (Or.inl ⟨by rfl, ?_⟩) (hS0) ?_
          · intro w hSw
            obtain ⟨q0, q1, q2⟩ := hSw
            go_simp
          try simp only [Act.put, List.setIfInBounds_toArray, List.set_cons_zero, List.set_cons_succ]
          refine wpAnyM_take (i := 4) (oi := { dst := some 39, op := Op.load 3 (Operand.tmp 38), type := 3, pos := "inline.go:89", after := #[{ on := 3, ground := Ground.data }], guard := none }) (v := .int .i64 (p : Int)) (by kernel_rfl) (by kernel_rfl) rfl (by kernel_rfl) (by kernel_rfl) (by kernel_rfl) (fun _ _ _ h => h) (Or.inl ⟨by rfl, ?_⟩) (hS0) ?_
          · intro w hSw
            obtain ⟨q0, q1, q2⟩ := hSw
            go_simp
          try simp only [Act.put, List.setIfInBounds_toArray, List.set_cons_zero, List.set_cons_succ]
          refine wpAnyM_take (i := 5) (oi := { dst := some 40, op := Op.move (Operand.tmp 2), type := 26, pos := "inline.go:89", after := #[], guard := none }) (v := .slice (some ⟨bb, ob, none⟩) begins.length cb) (by kernel_rfl) (by kernel_rfl) rfl (by kernel_rfl) (by kernel_rfl) (by kernel_rfl) (fun _ _ _ h => h) (Or.inl ⟨by rfl, ?_⟩) (hS0) ?_
          · intro w hSw
            obtain ⟨q0, q1, q2⟩ := hSw
            go_simp
          try simp only [Act.put, List.setIfInBounds_toArray, List.set_cons_zero, List.set_cons_succ]
          refine wpAnyM_take (i := 6) (oi := { dst := some 41, op := Op.fieldAddr 54 (Operand.tmp 7) 1, type := 0, pos := "inline.go:89", after := #[], guard := none }) (v := .pointer (some ⟨wr.heap.size, 1, none⟩)) (by kernel_rfl) (by kernel_rfl) rfl (by kernel_rfl) (by kernel_rfl) (by kernel_rfl) (fun _ _ _ h => h) (Or.inl ⟨by rfl, ?_⟩) (hS0) ?_
          · intro w hSw
            obtain ⟨q0, q1, q2⟩ := hSw
            go_simp
          try simp only [Act.put, List.setIfInBounds_toArray, List.set_cons_zero, List.set_cons_succ]
          refine wpAnyM_take (i := 7) (oi := { dst := some 42, op := Op.load 3 (Operand.tmp 41), type := 3, pos := "inline.go:89", after := #[{ on := 6, ground := Ground.data }], guard := none }) (v := .int .i64 (xa : Int)) (by kernel_rfl) (by kernel_rfl) rfl (by kernel_rfl) (by kernel_rfl) (by kernel_rfl) (fun _ _ _ h => h) (Or.inl ⟨by rfl, ?_⟩) (hS0) ?_
          · intro w hSw
            obtain ⟨q0, q1, q2⟩ := hSw
            go_simp
          try simp only [Act.put, List.setIfInBounds_toArray, List.set_cons_zero, List.set_cons_succ]
          refine wpAnyM_take (i := 8) (oi := { dst := some 43, op := Op.indexAddr 26 (Operand.tmp 40) (Operand.tmp 42), type := 0, pos := "inline.go:89", after := #[{ on := 5, ground := Ground.data }, { on := 7, ground := Ground.data }], guard := none }) (v := .pointer (some ⟨bb, ob + xa, none⟩)) (by kernel_rfl) (by kernel_rfl) rfl (by kernel_rfl) (by kernel_rfl) (by kernel_rfl) (fun _ _ _ h => h) (Or.inl ⟨by rfl, ?_⟩) (hS0) ?_
          · intro w hSw
            obtain ⟨q0, q1, q2⟩ := hSw
            go_simp
          try simp only [Act.put, List.setIfInBounds_toArray, List.set_cons_zero, List.set_cons_succ]
          refine wpAnyM_take (i := 9) (oi := { dst := some 44, op := Op.load 3 (Operand.tmp 43), type := 3, pos := "inline.go:89", after := #[{ on := 8, ground := Ground.data }], guard := none }) (v := .int .i64 tt) (by kernel_rfl) (by kernel_rfl) rfl (by kernel_rfl) (by kernel_rfl) (by kernel_rfl) (fun _ _ _ h => h) (Or.inl ⟨by rfl, ?_⟩) (hS0) ?_
          · intro w hSw
            obtain ⟨q0, q1, q2⟩ := hSw
            go_simp
          try simp only [Act.put, List.setIfInBounds_toArray, List.set_cons_zero, List.set_cons_succ]
          refine wpAnyM_take (i := 10) (oi := { dst := some 45, op := Op.indexAddr 29 (Operand.tmp 35) (Operand.tmp 39), type := 0, pos := "inline.go:89", after := #[{ on := 0, ground := Ground.data }, { on := 4, ground := Ground.data }, { on := 0, ground := Ground.phase }, { on := 1, ground := Ground.phase }, { on := 2, ground := Ground.phase }, { on := 3, ground := Ground.phase }, { on := 4, ground := Ground.phase }, { on := 5, ground := Ground.phase }, { on := 6, ground := Ground.phase }, { on := 7, ground := Ground.phase }, { on := 8, ground := Ground.phase }, { on := 9, ground := Ground.phase }], guard := none }) (v := .pointer (some ⟨g, o + p * 5, none⟩)) (by kernel_rfl) (by kernel_rfl) rfl (by kernel_rfl) (by kernel_rfl) (by kernel_rfl) (fun _ _ _ h => h) (Or.inl ⟨by rfl, ?_⟩) (hS0) ?_
          · intro w hSw
            obtain ⟨q0, q1, q2⟩ := hSw
            go_simp
          try simp only [Act.put, List.setIfInBounds_toArray, List.set_cons_zero, List.set_cons_succ]
          refine wpAnyM_take (i := 11) (oi := { dst := some 46, op := Op.fieldAddr 54 (Operand.tmp 45) 1, type := 0, pos := "inline.go:89", after := #[{ on := 10, ground := Ground.data }, { on := 0, ground := Ground.phase }, { on := 1, ground := Ground.phase }, { on := 2, ground := Ground.phase }, { on := 3, ground := Ground.phase }, { on := 4, ground := Ground.phase }, { on := 5, ground := Ground.phase }, { on := 6, ground := Ground.phase }, { on := 7, ground := Ground.phase }, { on := 8, ground := Ground.phase }, { on := 9, ground := Ground.phase }], guard := none }) (v := .pointer (some ⟨g, o + p * 5 + 1, none⟩)) (by kernel_rfl) (by kernel_rfl) rfl (by kernel_rfl) (by kernel_rfl) (by kernel_rfl) (fun _ _ _ h => h) (Or.inl ⟨by rfl, ?_⟩) (hS0) ?_
          · intro w hSw
            obtain ⟨q0, q1, q2⟩ := hSw
            go_simp
          try simp only [Act.put, List.setIfInBounds_toArray, List.set_cons_zero, List.set_cons_succ]
          refine wpAnyM_ready (rs := [12]) (by kernel_rfl) (by simp) ?_
          intro i hi
          simp only [List.mem_cons, List.not_mem_nil, or_false] at hi
          subst hi
          refine stepM (o := { dst := none, op := Op.store 3 (Operand.tmp 46) (Operand.tmp 44), type := 0, pos := "inline.go:89", after := #[{ on := 11, ground := Ground.data }, { on := 9, ground := Ground.data }, { on := 0, ground := Ground.phase }, { on := 1, ground := Ground.phase }, { on := 2, ground := Ground.phase }, { on := 3, ground := Ground.phase }, { on := 4, ground := Ground.phase }, { on := 5, ground := Ground.phase }, { on := 6, ground := Ground.phase }, { on := 7, ground := Ground.phase }, { on := 8, ground := Ground.phase }, { on := 9, ground := Ground.phase }], guard := none }) rfl (fun K' hK => ?_)
          go_simp
          refine hK _ _ (fun h => absurd h (by decide)) ?_
          clear hK K'
          try simp only [Act.put, List.setIfInBounds_toArray, List.set_cons_zero, List.set_cons_succ]
          refine wpAnyM_done (by kernel_rfl) ?_ _
          try simp only [Act.put, List.setIfInBounds_toArray, List.set_cons_zero, List.set_cons_succ]

          go_wp2
          go_roundg (plain.length - (j + 1))
          case measure => omega
          case rel => exact hfin.out
      · have HLD : Hid (leadE begins x = none) := by
          show _ = _
          unfold leadE
          by_cases h1 : (x.op = 15 ∨ x.op = 16) ∧ 0 ≤ x.a
          · rw [if_pos h1, List.getElem?_eq_none (by omega)]
          · rw [if_neg h1]
        have hfin := hid (HNX.out HLD.out)
        by_cases h15 : x.op = 15
        · have hd15 : (x.op == 15) = true := by simpa using h15
          by_cases ha0 : 0 ≤ x.a
          · have hlt2 : ¬ (x.a < (begins.length : Int)) := fun h => hjp ⟨Or.inl h15, ha0, h⟩
            clear h15 hjp HNX
            go_wp2
            go_roundg (plain.length - (j + 1))
            case measure => omega
            case rel => exact hfin.out
          · clear h15 hjp HNX
            go_wp2
            go_roundg (plain.length - (j + 1))
            case measure => omega
            case rel => exact hfin.out
        · have hd15 : (x.op == 15) = false := by simpa using h15
          by_cases h16 : x.op = 16
          · have hd16 : (x.op == 16) = true := by simpa using h16
            by_cases ha0 : 0 ≤ x.a
            · have hlt2 : ¬ (x.a < (begins.length : Int)) := fun h => hjp ⟨Or.inr h16, ha0, h⟩
              clear h15 h16 hjp HNX
              go_wp2
              go_roundg (plain.length - (j + 1))
              case measure => omega
              case rel => exact hfin.out
            · clear h15 h16 hjp HNX
              go_wp2
              go_roundg (plain.length - (j + 1))
              case measure => omega
              case rel => exact hfin.out
          · have hd16 : (x.op == 16) = false := by simpa using h16
            clear h15 h16 hjp HNX
            go_wp2
            go_roundg (plain.length - (j + 1))
            case measure => omega
            case rel => exact hfin.out
    · obtain rfl : j = plain.length := by omega
      have HF := hid (And.intro hO (And.intro hb hblk))
      clear hO hb hblk
      go_wp2
      exact bodyPost_end (v := .tuple #[]) (by simp [results, Try.results29, go_sem]) rfl ⟨rfl, HF.out.1, HF.out.2.1, HF.out.2.2⟩
end Go.Proofs.Ythaefhojnjdheaa
