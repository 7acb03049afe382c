/- Several texts in one. -/
import Derived.Test.YtlekfiglefopgaaId
import Derived.Test.YtlekfiglefopgaaXj
import Derived.Test.YtlekfiglefopgaaIc
import Derived.Test.YtlekfiglefopgaaCe
import Derived.Test.YtlekfiglefopgaaIa
import Derived.Test.YtlekfiglefopgaaYd
import Derived.Test.YtlekfiglefopgaaKf
import Derived.Test.YtlekfiglefopgaaSb
import Derived.Test.YtlekfiglefopgaaKj
/- Inline: has, lead. -/
namespace Go.Proofs.Ytlekfiglefopgaa
open Go.ChangeShapes Go.WideShapes Go.ChangeAt Go.RowKit
set_option linter.unusedSimpArgs false
set_option linter.unusedVariables false
set_option maxRecDepth 8000

def methQ (xs : List QC) (c k : Int) : Option QM := (clsAt xs c).bind fun x => if 0 ≤ k then x.methods[k.toNat]? else none
theorem ihas_any {P : Nat → Prop} (X : QW) (c k : Int) (cv hv : Value) (w : World) (hC : IsClasses P w cv X.classes) (hH : IsHeap P w hv X.heap) : Calls Try.prog 22 #[WV cv hv X.epoch, .int .i64 c, .int .i64 k] w fun e w' => e = .returned (.bool (methQ X.classes c k).isSome) ∧ Below w.heap.size w w' := by
  obtain ⟨ac, cc, rfl, hl, hcc, -, hrow⟩ := id hC
  obtain ⟨ah, ch, rfl, -⟩ := id hH
  unfold maxLen at hcc
  have hb0 := bel1 w (.cells #[.slice ac X.classes.length cc, .slice ah X.heap.length ch, .int .i64 X.epoch] 25)
  by_cases hc0 : 0 ≤ c
  · obtain ⟨q, rfl⟩ : ∃ q : Nat, c = (q : Int) := ⟨c.toNat, by omega⟩
    have hd0 : decide ((0 : Int) ≤ (q : Int)) = true := by simp
    by_cases hq : q < X.classes.length
    · have hx : X.classes[q]? = some X.classes[q] := by simp [hq]
      have HM : Hid (methQ X.classes (q : Int) k = if 0 ≤ k then X.classes[q].methods[k.toNat]? else none) := by show _ = _; unfold methQ; rw [clsAt_nat, hx]; rfl
      obtain ⟨b, o, rfl, -, -, -, -, -, mv, y3, hms⟩ := hrow q _ hx
      generalize X.classes[q] = xc at *
      obtain ⟨am, cm, rfl, -⟩ := id hms
      have u3 := cell_later hb0 y3
      have hq1 : (q : Int) < (X.classes.length : Int) := by omega
      have hq0 : (0 : Int) ≤ (q : Int) := by omega
      clear hrow y3 hms
      by_cases hk : 0 ≤ k
      · have HM2 : Hid ((methQ X.classes (q : Int) k).isSome = decide (k < (xc.methods.length : Int))) := by
          show _ = _
          rw [HM.out, if_pos hk]
          by_cases h : k < (xc.methods.length : Int)
          · rw [List.getElem?_eq_getElem (by omega)]; simp [h]
          · rw [List.getElem?_eq_none (by omega)]; simp [h]
        go_enter Try.func22, Try.ntmps22
        go_wp2
        go_ret
        exact ⟨ret_b HM2.out.symm, hb0⟩
      · have HM2 : Hid ((methQ X.classes (q : Int) k).isSome = false) := by show _ = _; rw [HM.out, if_neg hk]; rfl
        have hkn : ¬ (0 ≤ k) := hk
        go_enter Try.func22, Try.ntmps22
        go_wp2
        go_ret
        exact ⟨ret_b HM2.out.symm, hb0⟩
    · have HM2 : Hid ((methQ X.classes (q : Int) k).isSome = false) := by show _ = _; unfold methQ; rw [clsAt_nat, List.getElem?_eq_none (by omega)]; rfl
      have hqn : ¬ ((q : Int) < (X.classes.length : Int)) := by omega
      clear hrow
      go_enter Try.func22, Try.ntmps22
      go_wp2
      go_ret
      exact ⟨ret_b HM2.out.symm, hb0⟩
  · have HM2 : Hid ((methQ X.classes c k).isSome = false) := by show _ = _; unfold methQ clsAt; rw [if_neg hc0]; rfl
    clear hrow
    go_enter Try.func22, Try.ntmps22
    go_wp2
    go_ret
    exact ⟨ret_b HM2.out.symm, hb0⟩
theorem icells_setA : ∀ (q : List QI) (i : Nat) (t : Int), (icells q).set (i * 5 + 1) (.int .i64 t) = icells (q.modify i fun y => { y with a := t })
  | [], i, t => by simp [icells]
  | p :: q, 0, t => by simp [icells]
  | p :: q, i + 1, t => by
    rw [show (i + 1) * 5 + 1 = i * 5 + 1 + 1 + 1 + 1 + 1 + 1 by omega]
    simp only [icells, List.set_cons_succ, List.modify_succ_cons]
    rw [icells_setA q i t]
theorem OwnI.setA {w : World} {B g o cap : Nat} {code : List QI} (h : OwnI w B (some ⟨g, o, none⟩) cap code) {p : Nat} (hp : p < code.length) (t : Int) : OwnI (w.setCell ⟨g, o + p * 5 + 1, none⟩ (.int .i64 t)) B (some ⟨g, o, none⟩) cap (code.modify p fun y => { y with a := t }) := by
  obtain ⟨h1, h2 | ⟨g', o', c', cur, e, h3, h4, h5, h6, h7, h8⟩⟩ := h
  · have := h2.2; omega
  · cases e
    unfold OwnI
    rw [List.length_modify]
    refine ⟨by rw [icells_len, List.length_modify], Or.inr ⟨g, o, cap, _, rfl, h3, setCell_same h4 _, h5, h6, by simpa using h7, ?_⟩⟩
    rw [← icells_setA, ← h8]
    simp only [Array.toList_setIfInBounds, List.drop_set, List.take_set]
    rw [if_neg (by omega), show o + p * 5 + 1 - o = p * 5 + 1 by omega, List.take_set]
set_option maxHeartbeats 2000000 in
theorem lead_any {P Q : Nat → Prop} (code plain : List QI) (begins : List Int) (g o cap B : Nat) (kv bv : Value) (w : World) (hO : OwnI w B (some ⟨g, o, none⟩) cap code) (hP : IsCode P w kv plain) (hQ : IsInts Q w bv begins) (hPg : ∀ b, P b → b ≠ g) (hQg : ∀ b, Q b → b ≠ g) (hlen : begins.length = plain.length) (hl60 : plain.length ≤ 60) (hin : ∀ b ∈ begins, 0 ≤ b ∧ b < (code.length : Int)) :
    Calls Try.prog 28 #[.slice (some ⟨g, o, none⟩) code.length cap, kv, bv] w fun e w' => e = .returned (.tuple #[]) ∧ OwnI w' B (some ⟨g, o, none⟩) cap (ledE begins plain code plain.length) ∧ Below B w w' ∧ ∀ b, b < w.heap.size → b ≠ g → w'.heap[b]? = w.heap[b]? := by
  obtain ⟨ak, ck, rfl, -, hck, -, hrowP⟩ := id hP
  obtain ⟨ab, cb, rfl, -, hcb, -, hrowQ⟩ := id hQ
  have hcap : code.length ≤ cap ∧ cap ≤ 9223372036854775807 := by
    obtain ⟨a', c', e, h1, h2⟩ := hO.form
    cases e; unfold maxLen at h2; omega
  unfold maxLen at hck hcb
  have hBg : B ≤ g := (hO.lt g rfl).1
  have hgw : g < w.heap.size := (hO.lt g rfl).2
  generalize hn : code.length = n at *
  have HIN := hid hin
  have HLEN := hid hlen
  clear hin hlen
  go_enter Try.func28, Try.ntmps28
  go_wp2
  go_loopg [10] plain.length (fun gk iv wr => ∃ j : Nat, j + gk = plain.length ∧ iv = .int .i64 (j : Int) ∧ OwnI wr B (some ⟨g, o, none⟩) cap (ledE begins plain code j) ∧ Below B w wr ∧ (∀ b, b < w.heap.size → b ≠ g → wr.heap[b]? = w.heap[b]?) ∧ w.heap.size ≤ wr.heap.size)
  case atStart => exact ⟨0, by omega, rfl, hO, Below.refl _ _, fun _ _ _ => rfl, Nat.le_refl _⟩
  case round =>
    clear hO
    obtain ⟨j, hj, rfl, hO, hb, hblk, hsz⟩ := hrel
    have hlj : (ledE begins plain code j).length = n := by rw [ledE_len, hn]
    by_cases hlt : j < plain.length
    · have hxj : plain[j]? = some plain[j] := by simp [hlt]
      obtain ⟨pz, hbj⟩ : ∃ pz, begins[j]? = some pz := ⟨begins[j]'(by have := HLEN.out; omega), by simp⟩
      have hpz := HIN.out pz (List.mem_of_getElem? hbj)
      obtain ⟨p, rfl⟩ : ∃ p : Nat, pz = (p : Int) := ⟨pz.toNat, by omega⟩
      obtain ⟨b1, o1, rfl, hPb, u0, u1, u2, u3, u4, -⟩ := hrowP j _ hxj
      obtain ⟨bb, ob, rfl, hQb, y0⟩ := hrowQ j _ hbj
      generalize plain[j] = x at *
      have hb1l : b1 < w.heap.size := World.block_lt_of_cell? w _ u0
      have hbbl : bb < w.heap.size := World.block_lt_of_cell? w _ y0
      have hcell : ∀ (b o : Nat) v, b < w.heap.size → b ≠ g → w.cell? ⟨b, o, none⟩ = some v → wr.cell? ⟨b, o, none⟩ = some v := fun b o v h1 h2 h => by unfold World.cell? at h ⊢; rw [hblk b h1 h2]; exact h
      simp only [Nat.add_zero] at u0
      replace u0 := hcell _ _ _ hb1l (hPg _ hPb) u0
      replace u1 := hcell _ _ _ hb1l (hPg _ hPb) u1
      replace u2 := hcell _ _ _ hb1l (hPg _ hPb) u2
      replace u3 := hcell _ _ _ hb1l (hPg _ hPb) u3
      replace u4 := hcell _ _ _ hb1l (hPg _ hPb) u4
      replace y0 : wr.cell? ⟨bb, ob + j, none⟩ = some (.int .i64 (p : Int)) := hcell _ _ _ hbbl (hQg _ hQb) (by simpa [IntC] using y0)
      have hj1 : (j : Int) < (plain.length : Int) := by omega
      have hj0 : (0 : Int) ≤ (j : Int) := by omega
      have hjb : (j : Int) < (begins.length : Int) := by have := HLEN.out; omega
      have hbx := bel1 wr (.cells #[.int .i64 x.op, .int .i64 x.a, .int .i64 x.b, .int .i64 x.c, .string x.name] 69)
      have HLS : Hid (ledE begins plain code (j + 1) = match leadE begins x with | some t => (ledE begins plain code j).modify p (fun y => { y with a := t }) | none => ledE begins plain code j) := by
        show _ = _
        conv => lhs; unfold ledE
        rw [hxj, hbj]
        cases h : leadE begins x with
        | none => simp only [h]
        | some t => simp only [h, Int.toNat_natCast]
      have HNX : Hid (leadE begins x = none → ∃ j' : Nat, j' + (plain.length - (j + 1)) = plain.length ∧ Value.int .i64 ((j : Int) + 1) = .int .i64 (j' : Int) ∧ OwnI (wr.alloc (.cells #[.int .i64 x.op, .int .i64 x.a, .int .i64 x.b, .int .i64 x.c, .string x.name] 69)) B (some ⟨g, o, none⟩) cap (ledE begins plain code j') ∧ Below B w (wr.alloc (.cells #[.int .i64 x.op, .int .i64 x.a, .int .i64 x.b, .int .i64 x.c, .string x.name] 69)) ∧ (∀ b, b < w.heap.size → b ≠ g → (wr.alloc (.cells #[.int .i64 x.op, .int .i64 x.a, .int .i64 x.b, .int .i64 x.c, .string x.name] 69)).heap[b]? = w.heap[b]?) ∧ w.heap.size ≤ (wr.alloc (.cells #[.int .i64 x.op, .int .i64 x.a, .int .i64 x.b, .int .i64 x.c, .string x.name] 69)).heap.size) := fun h => by
        refine ⟨j + 1, by omega, by go_num, ?_, bel_al hb _ (by omega), fun b h1 h2 => by rw [hbx.block b (by omega)]; exact hblk b h1 h2, by simp; omega⟩
        rw [HLS.out, h]
        exact hO.alloc _
      have hwj : IntKind.i64.wrap ((j : Int) + 1) = (j : Int) + 1 := wrap_of (by omega) (by omega)
      clear hxj hbj hcell
      by_cases hjp : (x.op = 15 ∨ x.op = 16) ∧ 0 ≤ x.a ∧ x.a < (begins.length : Int)
      · obtain ⟨hop, ha0, ha1⟩ := hjp
        obtain ⟨xa, hxa⟩ : ∃ xa : Nat, x.a = (xa : Int) := ⟨x.a.toNat, by omega⟩
        obtain ⟨tt, htt⟩ : ∃ tt, begins[xa]? = some tt := ⟨begins[xa]'(by omega), by simp⟩
        have HLD : Hid (leadE begins x = some tt) := by show _ = _; unfold leadE; rw [if_pos ⟨hop, ha0⟩, hxa]; simpa using htt
        obtain ⟨bb', ob', eb, -, t0⟩ := hrowQ xa tt htt
        cases eb
        replace t0 : wr.cell? ⟨bb, ob + xa, none⟩ = some (.int .i64 tt) := by
          have h : w.cell? ⟨bb, ob + xa, none⟩ = some (.int .i64 tt) := by simpa [IntC] using t0
          unfold World.cell? at h ⊢; rw [hblk bb hbbl (hQg _ hQb)]; exact h
        have hxa1 : (xa : Int) < (begins.length : Int) := by omega
        have hxa0 : (0 : Int) ≤ (xa : Int) := by omega
        have hda : decide ((0 : Int) ≤ (xa : Int)) = true := by simp
        have hdb : decide ((xa : Int) < (begins.length : Int)) = true := by simp; omega
        have hp1 : (p : Int) < (n : Int) := by omega
        have hp0 : (0 : Int) ≤ (p : Int) := by omega
        rw [hxa] at u1
        have hO1 : OwnI (wr.alloc (.cells #[.int .i64 x.op, .int .i64 (xa : Int), .int .i64 x.b, .int .i64 x.c, .string x.name] 69)) B (some ⟨g, o, none⟩) cap (ledE begins plain code j) := hO.alloc _
        have hset := hid (OwnI.setA hO1 (p := p) (by omega) tt)
        have hgr : g < wr.heap.size := (hO.lt g rfl).2
        have hcg : ∃ u, (wr.alloc (.cells #[.int .i64 x.op, .int .i64 (xa : Int), .int .i64 x.b, .int .i64 x.c, .string x.name] 69)).cell? ⟨g, o + p * 5 + 1, none⟩ = some u ∧ ∀ k, (wr.alloc (.cells #[.int .i64 x.op, .int .i64 (xa : Int), .int .i64 x.b, .int .i64 x.c, .string x.name] 69)).frozen? ⟨g, k, none⟩ = false := by
          obtain ⟨h1, h2 | ⟨g', o', c', cur, e, h3, h4, h5, h6, h7, h8⟩⟩ := hO1
          · have := h2.2; omega
          · cases e
            refine ⟨_, by rw [cell_of_row _ _ _ _ _ _ h4]; exact Array.getElem?_eq_getElem (by omega), row_free h4⟩
        obtain ⟨ug, hug, hgf⟩ := hcg
        have hbx' := bel1 wr (.cells #[.int .i64 x.op, .int .i64 (xa : Int), .int .i64 x.b, .int .i64 x.c, .string x.name] 69)
        have y0' := cell_later hbx' y0
        have t0' := cell_later hbx' t0
        have x1' : (wr.alloc (.cells #[.int .i64 x.op, .int .i64 (xa : Int), .int .i64 x.b, .int .i64 x.c, .string x.name] 69)).cell? ⟨wr.heap.size, 1, none⟩ = some (.int .i64 (xa : Int)) := cell_new _ _ _ _ rfl 1
        have HXA := hid hxa
        have HBB := hid (And.intro hblk (And.intro hb hsz))
        clear hxa ha0 ha1 htt hO hO1 HNX hrowQ hrowP
        have hfin : Hid (∃ j' : Nat, j' + (plain.length - (j + 1)) = plain.length ∧ Value.int .i64 ((j : Int) + 1) = .int .i64 (j' : Int) ∧ OwnI (((wr.alloc (.cells #[.int .i64 x.op, .int .i64 (xa : Int), .int .i64 x.b, .int .i64 x.c, .string x.name] 69))).setCell ⟨g, o + p * 5 + 1, none⟩ (.int .i64 tt)).drew B (some ⟨g, o, none⟩) cap (ledE begins plain code j') ∧ Below B w (((wr.alloc (.cells #[.int .i64 x.op, .int .i64 (xa : Int), .int .i64 x.b, .int .i64 x.c, .string x.name] 69))).setCell ⟨g, o + p * 5 + 1, none⟩ (.int .i64 tt)).drew ∧ (∀ b, b < w.heap.size → b ≠ g → (((wr.alloc (.cells #[.int .i64 x.op, .int .i64 (xa : Int), .int .i64 x.b, .int .i64 x.c, .string x.name] 69))).setCell ⟨g, o + p * 5 + 1, none⟩ (.int .i64 tt)).drew.heap[b]? = w.heap[b]?) ∧ w.heap.size ≤ (((wr.alloc (.cells #[.int .i64 x.op, .int .i64 (xa : Int), .int .i64 x.b, .int .i64 x.c, .string x.name] 69))).setCell ⟨g, o + p * 5 + 1, none⟩ (.int .i64 tt)).drew.heap.size) := by
          obtain ⟨h1, h2, h3⟩ := HBB.out
          refine ⟨j + 1, by omega, by go_num, ?_, ((bel_al h2 _ (by omega)).setCell hBg _).drew, fun b hb1 hb2 => ?_, by simp; omega⟩
          · rw [HLS.out, HLD.out]
            exact hset.out.keep fun g hg => rfl
          · show (World.setCell _ _ _).heap[b]? = _
            rw [setCell_else hb2, hbx'.block b (by omega)]
            exact h1 b hb1 hb2
        rcases hop with hop | hop
        · have hd15 : (x.op == 15) = true := by simpa using hop
          clear hop
          go_upto_region 4 with (fail)
          generalize (wr.alloc (.cells #[.int .i64 x.op, .int .i64 (xa : Int), .int .i64 x.b, .int .i64 x.c, .string x.name] 69)) = V at *
          have hS0 : V.drew.cell? ⟨bb, ob + j, none⟩ = some (.int .i64 (p : Int)) ∧ V.drew.cell? ⟨wr.heap.size, 1, none⟩ = some (.int .i64 (xa : Int)) ∧ V.drew.cell? ⟨bb, ob + xa, none⟩ = some (.int .i64 tt) := ⟨y0', x1', t0'⟩
          refine wp_region_late (S := fun w' => w'.cell? ⟨bb, ob + j, none⟩ = some (.int .i64 (p : Int)) ∧ w'.cell? ⟨wr.heap.size, 1, none⟩ = some (.int .i64 (xa : Int)) ∧ w'.cell? ⟨bb, ob + xa, none⟩ = some (.int .i64 tt)) [12] (by kernel_rfl) ?_
          refine wpAnyM_take (i := 0) (oi := { dst := some 35, op := Op.move (Operand.tmp 0), type := 33, pos := "inline.go:89", after := #[], guard := none }) (v := .slice (some ⟨g, o, none⟩) n cap) (by kernel_rfl) (by kernel_rfl) rfl (by kernel_rfl) (by kernel_rfl) (by kernel_rfl) (fun _ _ _ h => h) (Or.inl ⟨by rfl, ?_⟩) (hS0) ?_
          · intro w hSw
            obtain ⟨q0, q1, q2⟩ := hSw
            go_simp
          try simp only [Act.put, List.setIfInBounds_toArray, List.set_cons_zero, List.set_cons_succ]
          refine wpAnyM_take (i := 1) (oi := { dst := some 36, op := Op.move (Operand.tmp 2), type := 63, pos := "inline.go:89", after := #[], guard := none }) (v := .slice (some ⟨bb, ob, none⟩) begins.length cb) (by kernel_rfl) (by kernel_rfl) rfl (by kernel_rfl) (by kernel_rfl) (by kernel_rfl) (fun _ _ _ h => h) (Or.inl ⟨by rfl, ?_⟩) (hS0) ?_
          · intro w hSw
            obtain ⟨q0, q1, q2⟩ := hSw
            go_simp
          try simp only [Act.put, List.setIfInBounds_toArray, List.set_cons_zero, List.set_cons_succ]
          refine wpAnyM_take (i := 2) (oi := { dst := some 37, op := Op.move (Operand.tmp 6), type := 3, pos := "inline.go:89", after := #[], guard := none }) (v := .int .i64 (j : Int)) (by kernel_rfl) (by kernel_rfl) rfl (by kernel_rfl) (by kernel_rfl) (by kernel_rfl) (fun _ _ _ h => h) (Or.inl ⟨by rfl, ?_⟩) (hS0) ?_
          · intro w hSw
            obtain ⟨q0, q1, q2⟩ := hSw
            go_simp
          try simp only [Act.put, List.setIfInBounds_toArray, List.set_cons_zero, List.set_cons_succ]
          refine wpAnyM_take (i := 3) (oi := { dst := some 38, op := Op.indexAddr 63 (Operand.tmp 36) (Operand.tmp 37), type := 0, pos := "inline.go:89", after := #[{ on := 1, ground := Ground.data }, { on := 2, ground := Ground.data }], guard := none }) (v := .pointer (some ⟨bb, ob + j, none⟩)) (by kernel_rfl) (by kernel_rfl) rfl (by kernel_rfl) (by kernel_rfl) (by kernel_rfl) (fun _ _ _ h => h) (Or.inl ⟨by rfl, ?_⟩) (hS0) ?_
          · intro w hSw
            obtain ⟨q0, q1, q2⟩ := hSw
            go_simp
          try simp only [Act.put, List.setIfInBounds_toArray, List.set_cons_zero, List.set_cons_succ]
          refine wpAnyM_take (i := 4) (oi := { dst := some 39, op := Op.load 3 (Operand.tmp 38), type := 3, pos := "inline.go:89", after := #[{ on := 3, ground := Ground.data }], guard := none }) (v := .int .i64 (p : Int)) (by kernel_rfl) (by kernel_rfl) rfl (by kernel_rfl) (by kernel_rfl) (by kernel_rfl) (fun _ _ _ h => h) (Or.inl ⟨by rfl, ?_⟩) (hS0) ?_
          · intro w hSw
            obtain ⟨q0, q1, q2⟩ := hSw
            go_simp
          try simp only [Act.put, List.setIfInBounds_toArray, List.set_cons_zero, List.set_cons_succ]
          refine wpAnyM_take (i := 5) (oi := { dst := some 40, op := Op.move (Operand.tmp 2), type := 63, pos := "inline.go:89", after := #[], guard := none }) (v := .slice (some ⟨bb, ob, none⟩) begins.length cb) (by kernel_rfl) (by kernel_rfl) rfl (by kernel_rfl) (by kernel_rfl) (by kernel_rfl) (fun _ _ _ h => h) (Or.inl ⟨by rfl, ?_⟩) (hS0) ?_
          · intro w hSw
            obtain ⟨q0, q1, q2⟩ := hSw
            go_simp
          try simp only [Act.put, List.setIfInBounds_toArray, List.set_cons_zero, List.set_cons_succ]
          refine wpAnyM_take (i := 6) (oi := { dst := some 41, op := Op.fieldAddr 69 (Operand.tmp 7) 1, type := 0, pos := "inline.go:89", after := #[], guard := none }) (v := .pointer (some ⟨wr.heap.size, 1, none⟩)) (by kernel_rfl) (by kernel_rfl) rfl (by kernel_rfl) (by kernel_rfl) (by kernel_rfl) (fun _ _ _ h => h) (Or.inl ⟨by rfl, ?_⟩) (hS0) ?_
          · intro w hSw
            obtain ⟨q0, q1, q2⟩ := hSw
            go_simp
          try simp only [Act.put, List.setIfInBounds_toArray, List.set_cons_zero, List.set_cons_succ]
          refine wpAnyM_take (i := 7) (oi := { dst := some 42, op := Op.load 3 (Operand.tmp 41), type := 3, pos := "inline.go:89", after := #[{ on := 6, ground := Ground.data }], guard := none }) (v := .int .i64 (xa : Int)) (by kernel_rfl) (by kernel_rfl) rfl (by kernel_rfl) (by kernel_rfl) (by kernel_rfl) (fun _ _ _ h => h) (Or.inl ⟨by rfl, ?_⟩) (hS0) ?_
          · intro w hSw
            obtain ⟨q0, q1, q2⟩ := hSw
            go_simp
          try simp only [Act.put, List.setIfInBounds_toArray, List.set_cons_zero, List.set_cons_succ]
          refine wpAnyM_take (i := 8) (oi := { dst := some 43, op := Op.indexAddr 63 (Operand.tmp 40) (Operand.tmp 42), type := 0, pos := "inline.go:89", after := #[{ on := 5, ground := Ground.data }, { on := 7, ground := Ground.data }], guard := none }) (v := .pointer (some ⟨bb, ob + xa, none⟩)) (by kernel_rfl) (by kernel_rfl) rfl (by kernel_rfl) (by kernel_rfl) (by kernel_rfl) (fun _ _ _ h => h) (Or.inl ⟨by rfl, ?_⟩) (hS0) ?_
          · intro w hSw
            obtain ⟨q0, q1, q2⟩ := hSw
            go_simp
          try simp only [Act.put, List.setIfInBounds_toArray, List.set_cons_zero, List.set_cons_succ]
          refine wpAnyM_take (i := 9) (oi := { dst := some 44, op := Op.load 3 (Operand.tmp 43), type := 3, pos := "inline.go:89", after := #[{ on := 8, ground := Ground.data }], guard := none }) (v := .int .i64 tt) (by kernel_rfl) (by kernel_rfl) rfl (by kernel_rfl) (by kernel_rfl) (by kernel_rfl) (fun _ _ _ h => h) (Or.inl ⟨by rfl, ?_⟩) (hS0) ?_
          · intro w hSw
            obtain ⟨q0, q1, q2⟩ := hSw
            go_simp
          try simp only [Act.put, List.setIfInBounds_toArray, List.set_cons_zero, List.set_cons_succ]
          refine wpAnyM_take (i := 10) (oi := { dst := some 45, op := Op.indexAddr 33 (Operand.tmp 35) (Operand.tmp 39), type := 0, pos := "inline.go:89", after := #[{ on := 0, ground := Ground.data }, { on := 4, ground := Ground.data }, { on := 0, ground := Ground.phase }, { on := 1, ground := Ground.phase }, { on := 2, ground := Ground.phase }, { on := 3, ground := Ground.phase }, { on := 4, ground := Ground.phase }, { on := 5, ground := Ground.phase }, { on := 6, ground := Ground.phase }, { on := 7, ground := Ground.phase }, { on := 8, ground := Ground.phase }, { on := 9, ground := Ground.phase }], guard := none }) (v := .pointer (some ⟨g, o + p * 5, none⟩)) (by kernel_rfl) (by kernel_rfl) rfl (by kernel_rfl) (by kernel_rfl) (by kernel_rfl) (fun _ _ _ h => h) (Or.inl ⟨by rfl, ?_⟩) (hS0) ?_
          · intro w hSw
            obtain ⟨q0, q1, q2⟩ := hSw
            go_simp
          try simp only [Act.put, List.setIfInBounds_toArray, List.set_cons_zero, List.set_cons_succ]
          refine wpAnyM_take (i := 11) (oi := { dst := some 46, op := Op.fieldAddr 69 (Operand.tmp 45) 1, type := 0, pos := "inline.go:89", after := #[{ on := 10, ground := Ground.data }, { on := 0, ground := Ground.phase }, { on := 1, ground := Ground.phase }, { on := 2, ground := Ground.phase }, { on := 3, ground := Ground.phase }, { on := 4, ground := Ground.phase }, { on := 5, ground := Ground.phase }, { on := 6, ground := Ground.phase }, { on := 7, ground := Ground.phase }, { on := 8, ground := Ground.phase }, { on := 9, ground := Ground.phase }], guard := none }) (v := .pointer (some ⟨g, o + p * 5 + 1, none⟩)) (by kernel_rfl) (by kernel_rfl) rfl (by kernel_rfl) (by kernel_rfl) (by kernel_rfl) (fun _ _ _ h => h) (Or.inl ⟨by rfl, ?_⟩) (hS0) ?_
          · intro w hSw
            obtain ⟨q0, q1, q2⟩ := hSw
            go_simp
          try simp only [Act.put, List.setIfInBounds_toArray, List.set_cons_zero, List.set_cons_succ]
          refine wpAnyM_ready (rs := [12]) (by kernel_rfl) (by simp) ?_
          intro i hi
          simp only [List.mem_cons, List.not_mem_nil, or_false] at hi
          subst hi
          refine stepM (o := { dst := none, op := Op.store 3 (Operand.tmp 46) (Operand.tmp 44), type := 0, pos := "inline.go:89", after := #[{ on := 11, ground := Ground.data }, { on := 9, ground := Ground.data }, { on := 0, ground := Ground.phase }, { on := 1, ground := Ground.phase }, { on := 2, ground := Ground.phase }, { on := 3, ground := Ground.phase }, { on := 4, ground := Ground.phase }, { on := 5, ground := Ground.phase }, { on := 6, ground := Ground.phase }, { on := 7, ground := Ground.phase }, { on := 8, ground := Ground.phase }, { on := 9, ground := Ground.phase }], guard := none }) rfl (fun K' hK => ?_)
          go_simp
          refine hK _ _ (fun h => absurd h (by decide)) ?_
          clear hK K'
          try simp only [Act.put, List.setIfInBounds_toArray, List.set_cons_zero, List.set_cons_succ]
          refine wpAnyM_done (by kernel_rfl) ?_ _
          try simp only [Act.put, List.setIfInBounds_toArray, List.set_cons_zero, List.set_cons_succ]

          go_wp2
          go_roundg (plain.length - (j + 1))
          case measure => omega
          case rel => exact hfin.out
        · have hd15 : (x.op == 15) = false := by simp [hop]
          have hd16 : (x.op == 16) = true := by simpa using hop
          clear hop
          go_upto_region 4 with (fail)
          generalize (wr.alloc (.cells #[.int .i64 x.op, .int .i64 (xa : Int), .int .i64 x.b, .int .i64 x.c, .string x.name] 69)) = V at *
          have hS0 : V.drew.cell? ⟨bb, ob + j, none⟩ = some (.int .i64 (p : Int)) ∧ V.drew.cell? ⟨wr.heap.size, 1, none⟩ = some (.int .i64 (xa : Int)) ∧ V.drew.cell? ⟨bb, ob + xa, none⟩ = some (.int .i64 tt) := ⟨y0', x1', t0'⟩
          refine wp_region_late (S := fun w' => w'.cell? ⟨bb, ob + j, none⟩ = some (.int .i64 (p : Int)) ∧ w'.cell? ⟨wr.heap.size, 1, none⟩ = some (.int .i64 (xa : Int)) ∧ w'.cell? ⟨bb, ob + xa, none⟩ = some (.int .i64 tt)) [12] (by kernel_rfl) ?_
          refine wpAnyM_take (i := 0) (oi := { dst := some 35, op := Op.move (Operand.tmp 0), type := 33, pos := "inline.go:89", after := #[], guard := none }) (v := .slice (some ⟨g, o, none⟩) n cap) (by kernel_rfl) (by kernel_rfl) rfl (by kernel_rfl) (by kernel_rfl) (by kernel_rfl) (fun _ _ _ h => h) (Or.inl ⟨by rfl, ?_⟩) (hS0) ?_
          · intro w hSw
            obtain ⟨q0, q1, q2⟩ := hSw
            go_simp
          try simp only [Act.put, List.setIfInBounds_toArray, List.set_cons_zero, List.set_cons_succ]
          refine wpAnyM_take (i := 1) (oi := { dst := some 36, op := Op.move (Operand.tmp 2), type := 63, pos := "inline.go:89", after := #[], guard := none }) (v := .slice (some ⟨bb, ob, none⟩) begins.length cb) (by kernel_rfl) (by kernel_rfl) rfl (by kernel_rfl) (by kernel_rfl) (by kernel_rfl) (fun _ _ _ h => h) (Or.inl ⟨by rfl, ?_⟩) (hS0) ?_
          · intro w hSw
            obtain ⟨q0, q1, q2⟩ := hSw
            go_simp
          try simp only [Act.put, List.setIfInBounds_toArray, List.set_cons_zero, List.set_cons_succ]
          refine wpAnyM_take (i := 2) (oi := { dst := some 37, op := Op.move (Operand.tmp 6), type := 3, pos := "inline.go:89", after := #[], guard := none }) (v := .int .i64 (j : Int)) (by kernel_rfl) (by kernel_rfl) rfl (by kernel_rfl) (by kernel_rfl) (by kernel_rfl) (fun _ _ _ h => h) (Or.inl ⟨by rfl, ?_⟩) (hS0) ?_
          · intro w hSw
            obtain ⟨q0, q1, q2⟩ := hSw
            go_simp
          try simp only [Act.put, List.setIfInBounds_toArray, List.set_cons_zero, List.set_cons_succ]
          refine wpAnyM_take (i := 3) (oi := { dst := some 38, op := Op.indexAddr 63 (Operand.tmp 36) (Operand.tmp 37), type := 0, pos := "inline.go:89", after := #[{ on := 1, ground := Ground.data }, { on := 2, ground := Ground.data }], guard := none }) (v := .pointer (some ⟨bb, ob + j, none⟩)) (by kernel_rfl) (by kernel_rfl) rfl (by kernel_rfl) (by kernel_rfl) (by kernel_rfl) (fun _ _ _ h => h) (Or.inl ⟨by rfl, ?_⟩) (hS0) ?_
          · intro w hSw
            obtain ⟨q0, q1, q2⟩ := hSw
            go_simp
          try simp only [Act.put, List.setIfInBounds_toArray, List.set_cons_zero, List.set_cons_succ]
          refine wpAnyM_take (i := 4) (oi := { dst := some 39, op := Op.load 3 (Operand.tmp 38), type := 3, pos := "inline.go:89", after := #[{ on := 3, ground := Ground.data }], guard := none }) (v := .int .i64 (p : Int)) (by kernel_rfl) (by kernel_rfl) rfl (by kernel_rfl) (by kernel_rfl) (by kernel_rfl) (fun _ _ _ h => h) (Or.inl ⟨by rfl, ?_⟩) (hS0) ?_
          · intro w hSw
            obtain ⟨q0, q1, q2⟩ := hSw
            go_simp
          try simp only [Act.put, List.setIfInBounds_toArray, List.set_cons_zero, List.set_cons_succ]
          refine wpAnyM_take (i := 5) (oi := { dst := some 40, op := Op.move (Operand.tmp 2), type := 63, pos := "inline.go:89", after := #[], guard := none }) (v := .slice (some ⟨bb, ob, none⟩) begins.length cb) (by kernel_rfl) (by kernel_rfl) rfl (by kernel_rfl) (by kernel_rfl) (by kernel_rfl) (fun _ _ _ h => h) (Or.inl ⟨by rfl, ?_⟩) (hS0) ?_
          · intro w hSw
            obtain ⟨q0, q1, q2⟩ := hSw
            go_simp
          try simp only [Act.put, List.setIfInBounds_toArray, List.set_cons_zero, List.set_cons_succ]
          refine wpAnyM_take (i := 6) (oi := { dst := some 41, op := Op.fieldAddr 69 (Operand.tmp 7) 1, type := 0, pos := "inline.go:89", after := #[], guard := none }) (v := .pointer (some ⟨wr.heap.size, 1, none⟩)) (by kernel_rfl) (by kernel_rfl) rfl (by kernel_rfl) (by kernel_rfl) (by kernel_rfl) (fun _ _ _ h => h) (Or.inl ⟨by rfl, ?_⟩) (hS0) ?_
          · intro w hSw
            obtain ⟨q0, q1, q2⟩ := hSw
            go_simp
          try simp only [Act.put, List.setIfInBounds_toArray, List.set_cons_zero, List.set_cons_succ]
          refine wpAnyM_take (i := 7) (oi := { dst := some 42, op := Op.load 3 (Operand.tmp 41), type := 3, pos := "inline.go:89", after := #[{ on := 6, ground := Ground.data }], guard := none }) (v := .int .i64 (xa : Int)) (by kernel_rfl) (by kernel_rfl) rfl (by kernel_rfl) (by kernel_rfl) (by kernel_rfl) (fun _ _ _ h => h) (Or.inl ⟨by rfl, ?_⟩) (hS0) ?_
          · intro w hSw
            obtain ⟨q0, q1, q2⟩ := hSw
            go_simp
          try simp only [Act.put, List.setIfInBounds_toArray, List.set_cons_zero, List.set_cons_succ]
          refine wpAnyM_take (i := 8) (oi := { dst := some 43, op := Op.indexAddr 63 (Operand.tmp 40) (Operand.tmp 42), type := 0, pos := "inline.go:89", after := #[{ on := 5, ground := Ground.data }, { on := 7, ground := Ground.data }], guard := none }) (v := .pointer (some ⟨bb, ob + xa, none⟩)) (by kernel_rfl) (by kernel_rfl) rfl (by kernel_rfl) (by kernel_rfl) (by kernel_rfl) (fun _ _ _ h => h) (Or.inl ⟨by rfl, ?_⟩) (hS0) ?_
          · intro w hSw
            obtain ⟨q0, q1, q2⟩ := hSw
            go_simp
          try simp only [Act.put, List.setIfInBounds_toArray, List.set_cons_zero, List.set_cons_succ]
          refine wpAnyM_take (i := 9) (oi := { dst := some 44, op := Op.load 3 (Operand.tmp 43), type := 3, pos := "inline.go:89", after := #[{ on := 8, ground := Ground.data }], guard := none }) (v := .int .i64 tt) (by kernel_rfl) (by kernel_rfl) rfl (by kernel_rfl) (by kernel_rfl) (by kernel_rfl) (fun _ _ _ h => h) (Or.inl ⟨by rfl, ?_⟩) (hS0) ?_
          · intro w hSw
            obtain ⟨q0, q1, q2⟩ := hSw
            go_simp
          try simp only [Act.put, List.setIfInBounds_toArray, List.set_cons_zero, List.set_cons_succ]
          refine wpAnyM_take (i := 10) (oi := { dst := some 45, op := Op.indexAddr 33 (Operand.tmp 35) (Operand.tmp 39), type := 0, pos := "inline.go:89", after := #[{ on := 0, ground := Ground.data }, { on := 4, ground := Ground.data }, { on := 0, ground := Ground.phase }, { on := 1, ground := Ground.phase }, { on := 2, ground := Ground.phase }, { on := 3, ground := Ground.phase }, { on := 4, ground := Ground.phase }, { on := 5, ground := Ground.phase }, { on := 6, ground := Ground.phase }, { on := 7, ground := Ground.phase }, { on := 8, ground := Ground.phase }, { on := 9, ground := Ground.phase }], guard := none }) (v := .pointer (some ⟨g, o + p * 5, none⟩)) (by kernel_rfl) (by kernel_rfl) rfl (by kernel_rfl) (by kernel_rfl) (by kernel_rfl) (fun _ _ _ h => h) (Or.inl ⟨by rfl, ?_⟩) (hS0) ?_
          · intro w hSw
            obtain ⟨q0, q1, q2⟩ := hSw
            go_simp
          try simp only [Act.put, List.setIfInBounds_toArray, List.set_cons_zero, List.set_cons_succ]
          refine wpAnyM_take (i := 11) (oi := { dst := some 46, op := Op.fieldAddr 69 (Operand.tmp 45) 1, type := 0, pos := "inline.go:89", after := #[{ on := 10, ground := Ground.data }, { on := 0, ground := Ground.phase }, { on := 1, ground := Ground.phase }, { on := 2, ground := Ground.phase }, { on := 3, ground := Ground.phase }, { on := 4, ground := Ground.phase }, { on := 5, ground := Ground.phase }, { on := 6, ground := Ground.phase }, { on := 7, ground := Ground.phase }, { on := 8, ground := Ground.phase }, { on := 9, ground := Ground.phase }], guard := none }) (v := .pointer (some ⟨g, o + p * 5 + 1, none⟩)) (by kernel_rfl) (by kernel_rfl) rfl (by kernel_rfl) (by kernel_rfl) (by kernel_rfl) (fun _ _ _ h => h) (Or.inl ⟨by rfl, ?_⟩) (hS0) ?_
          · intro w hSw
            obtain ⟨q0, q1, q2⟩ := hSw
            go_simp
          try simp only [Act.put, List.setIfInBounds_toArray, List.set_cons_zero, List.set_cons_succ]
          refine wpAnyM_ready (rs := [12]) (by kernel_rfl) (by simp) ?_
          intro i hi
          simp only [List.mem_cons, List.not_mem_nil, or_false] at hi
          subst hi
          refine stepM (o := { dst := none, op := Op.store 3 (Operand.tmp 46) (Operand.tmp 44), type := 0, pos := "inline.go:89", after := #[{ on := 11, ground := Ground.data }, { on := 9, ground := Ground.data }, { on := 0, ground := Ground.phase }, { on := 1, ground := Ground.phase }, { on := 2, ground := Ground.phase }, { on := 3, ground := Ground.phase }, { on := 4, ground := Ground.phase }, { on := 5, ground := Ground.phase }, { on := 6, ground := Ground.phase }, { on := 7, ground := Ground.phase }, { on := 8, ground := Ground.phase }, { on := 9, ground := Ground.phase }], guard := none }) rfl (fun K' hK => ?_)
          go_simp
          refine hK _ _ (fun h => absurd h (by decide)) ?_
          clear hK K'
          try simp only [Act.put, List.setIfInBounds_toArray, List.set_cons_zero, List.set_cons_succ]
          refine wpAnyM_done (by kernel_rfl) ?_ _
          try simp only [Act.put, List.setIfInBounds_toArray, List.set_cons_zero, List.set_cons_succ]

          go_wp2
          go_roundg (plain.length - (j + 1))
          case measure => omega
          case rel => exact hfin.out
      · have HLD : Hid (leadE begins x = none) := by
          show _ = _
          unfold leadE
          by_cases h1 : (x.op = 15 ∨ x.op = 16) ∧ 0 ≤ x.a
          · rw [if_pos h1, List.getElem?_eq_none (by omega)]
          · rw [if_neg h1]
        have hfin := hid (HNX.out HLD.out)
        by_cases h15 : x.op = 15
        · have hd15 : (x.op == 15) = true := by simpa using h15
          by_cases ha0 : 0 ≤ x.a
          · have hlt2 : ¬ (x.a < (begins.length : Int)) := fun h => hjp ⟨Or.inl h15, ha0, h⟩
            clear h15 hjp HNX
            go_wp2
            go_roundg (plain.length - (j + 1))
            case measure => omega
            case rel => exact hfin.out
          · clear h15 hjp HNX
            go_wp2
            go_roundg (plain.length - (j + 1))
            case measure => omega
            case rel => exact hfin.out
        · have hd15 : (x.op == 15) = false := by simpa using h15
          by_cases h16 : x.op = 16
          · have hd16 : (x.op == 16) = true := by simpa using h16
            by_cases ha0 : 0 ≤ x.a
            · have hlt2 : ¬ (x.a < (begins.length : Int)) := fun h => hjp ⟨Or.inr h16, ha0, h⟩
              clear h15 h16 hjp HNX
              go_wp2
              go_roundg (plain.length - (j + 1))
              case measure => omega
              case rel => exact hfin.out
            · clear h15 h16 hjp HNX
              go_wp2
              go_roundg (plain.length - (j + 1))
              case measure => omega
              case rel => exact hfin.out
          · have hd16 : (x.op == 16) = false := by simpa using h16
            clear h15 h16 hjp HNX
            go_wp2
            go_roundg (plain.length - (j + 1))
            case measure => omega
            case rel => exact hfin.out
    · obtain rfl : j = plain.length := by omega
      have HF := hid (And.intro hO (And.intro hb hblk))
      clear hO hb hblk
      go_wp2
      exact bodyPost_end (v := .tuple #[]) (by simp [results, Try.results28, go_sem]) rfl ⟨rfl, HF.out.1, HF.out.2.1, HF.out.2.2⟩
end Go.Proofs.Ytlekfiglefopgaa

/- Inline: placeOf, roomFor. -/
namespace Go.Proofs.Ytlekfiglefopgaa
open Go.ChangeShapes Go.WideShapes Go.ChangeAt Go.RowKit
set_option linter.unusedSimpArgs false
set_option linter.unusedVariables false
set_option maxRecDepth 8000

theorem fits_sum : ∀ (ps : List Int) (m : Int), (∀ p ∈ ps, 0 ≤ p) → 0 ≤ m → fitsE m ps = decide (ps.sum ≤ m)
  | [], m, _, hm => by simp [fitsE, hm]
  | p :: r, m, h, hm => by
    have hp := h p (by simp)
    have hr : ∀ q ∈ r, 0 ≤ q := fun q hq => h q (by simp [hq])
    have hs : ∀ l : List Int, (∀ q ∈ l, 0 ≤ q) → 0 ≤ l.sum := by
      intro l
      induction l with
      | nil => intro _; simp
      | cons a l ih => intro hl; have := ih fun q hq => hl q (by simp [hq]); have := hl a (by simp); simp; omega
    have h0 := hs r hr
    unfold fitsE
    by_cases hc : m < p
    · rw [if_pos (Or.inr hc)]
      have : ¬ (p :: r).sum ≤ m := by simp; omega
      simp only [this, decide_false]
    · rw [if_neg (by omega), fits_sum r (m - p) hr (by omega)]
      have : (r.sum ≤ m - p) ↔ ((p :: r).sum ≤ m) := by simp; omega
      simp only [this]
theorem ints_made (w : World) (ps : List Int) (t : TypeId) (hl : ps.length ≤ 1000) : IsInts (fun _ => True) (w.alloc (.cells (ps.map (Value.int .i64)).toArray t)) (.slice (some ⟨w.heap.size, 0, none⟩) ps.length ps.length) ps := by
  refine ⟨_, _, rfl, Nat.le_refl _, by unfold maxLen; omega, by omega, fun i x hx => ⟨w.heap.size, 0, rfl, trivial, ?_⟩⟩
  show World.cell? _ ⟨w.heap.size, 0 + i * 1 + 0, none⟩ = _
  rw [cell_new _ _ _ _ rfl]
  simp [hx]
set_option maxHeartbeats 1000000 in
theorem placeOf_any (f : Fst) (a : Option Addr) (n cap : Nat) (leaf : QM) (ka : Option Addr) (kc : Nat) (w : World) (ha : 0 ≤ leaf.args ∧ leaf.args ≤ 4) (ht : 0 ≤ leaf.temps ∧ leaf.temps ≤ 6) (hs : 0 ≤ f.temps ∧ f.temps ≤ 100) (hn : n ≤ 300) (hl60 : leaf.code.length ≤ 60) :
    Calls Try.prog 27 #[FsV f (.slice a n cap), MV leaf (.slice ka leaf.code.length kc)] w fun e w' => e = .returned (PlV f.temps (f.temps + 1) (f.temps + 1 + leaf.args) (firstOf leaf n) (firstOf leaf n + leaf.code.length)) ∧ Below w.heap.size w w' := by
  have h1 : IntKind.i64.wrap (f.temps + 1) = f.temps + 1 := wrap_of (by omega) (by omega)
  have h2 : IntKind.i64.wrap (f.temps + 1 + leaf.args) = f.temps + 1 + leaf.args := wrap_of (by omega) (by omega)
  have h3 : IntKind.i64.wrap ((n : Int) + 3) = (n : Int) + 3 := wrap_of (by omega) (by omega)
  have h4 : IntKind.i64.wrap ((n : Int) + 3 + leaf.args) = (n : Int) + 3 + leaf.args := wrap_of (by omega) (by omega)
  have h5 : IntKind.i64.wrap (2 * leaf.temps) = 2 * leaf.temps := wrap_of (by omega) (by omega)
  have h6 : IntKind.i64.wrap ((n : Int) + 3 + leaf.args + 2 * leaf.temps) = (n : Int) + 3 + leaf.args + 2 * leaf.temps := wrap_of (by omega) (by omega)
  have h7 : IntKind.i64.wrap ((n : Int) + 3 + leaf.args + 2 * leaf.temps + (leaf.code.length : Int)) = (n : Int) + 3 + leaf.args + 2 * leaf.temps + (leaf.code.length : Int) := wrap_of (by omega) (by omega)
  go_enter Try.func27, Try.ntmps27
  go_wp2
  refine bodyPost_ret (v := PlV f.temps (f.temps + 1) (f.temps + 1 + leaf.args) (firstOf leaf n) (firstOf leaf n + leaf.code.length)) ?_ rfl ⟨rfl, ?_⟩
  · simp [results, Try.results27, go_sem, firstOf]
  · exact bel3 _ _ _ _
theorem room_is (n : Nat) (temps : Int) (leaf : QM) (left : Int) (ha : 0 ≤ leaf.args ∧ leaf.args ≤ 4) (ht : 0 ≤ leaf.temps ∧ leaf.temps ≤ 6) (hs : 0 ≤ temps) (hl : 0 ≤ left) : roomE n temps leaf left = (fitsE 240 [(n : Int), 3, leaf.args, leaf.temps, leaf.temps, (leaf.code.length : Int), left] && fitsE 40 [temps, 1, leaf.args, leaf.temps]) := by
  rw [fits_sum _ _ (by intro p hp; simp at hp; rcases hp with rfl | rfl | rfl | rfl | rfl | rfl <;> omega) (by omega), fits_sum _ _ (by intro p hp; simp at hp; rcases hp with rfl | rfl | rfl | rfl <;> omega) (by omega)]
  unfold roomE
  rw [Bool.eq_iff_iff]
  simp
  omega
set_option maxHeartbeats 1000000 in
theorem roomFor_any (f : Fst) (a : Option Addr) (n cap : Nat) (leaf : QM) (ka : Option Addr) (kc : Nat) (left : Int) (w : World) (ha : 0 ≤ leaf.args ∧ leaf.args ≤ 4) (ht : 0 ≤ leaf.temps ∧ leaf.temps ≤ 6) (hs : 0 ≤ f.temps) (hl : 0 ≤ left) :
    Calls Try.prog 24 #[FsV f (.slice a n cap), MV leaf (.slice ka leaf.code.length kc), .int .i64 left] w fun e w' => e = .returned (.bool (roomE n f.temps leaf left)) ∧ Below w.heap.size w w' := by
  have HRM := hid (room_is n f.temps leaf left ha ht hs hl)
  have hb2 := bel2 w (.cells #[.int .i64 f.cls, .string f.name, .int .i64 f.epoch, .int .i64 f.temps, .slice a n cap] 35) (.cells #[.string leaf.name, .int .i64 leaf.args, .int .i64 leaf.temps, .int .i64 leaf.prim, .slice ka leaf.code.length kc] 44)
  have c0 : ((w.alloc (.cells #[.int .i64 f.cls, .string f.name, .int .i64 f.epoch, .int .i64 f.temps, .slice a n cap] 35)).alloc (.cells #[.string leaf.name, .int .i64 leaf.args, .int .i64 leaf.temps, .int .i64 leaf.prim, .slice ka leaf.code.length kc] 44)).cell? ⟨w.heap.size, 4, none⟩ = some (.slice a n cap) := cell_later (bel1 _ _) (cell_new w #[.int .i64 f.cls, .string f.name, .int .i64 f.epoch, .int .i64 f.temps, .slice a n cap] 35 _ rfl 4)
  have c3 : ((w.alloc (.cells #[.int .i64 f.cls, .string f.name, .int .i64 f.epoch, .int .i64 f.temps, .slice a n cap] 35)).alloc (.cells #[.string leaf.name, .int .i64 leaf.args, .int .i64 leaf.temps, .int .i64 leaf.prim, .slice ka leaf.code.length kc] 44)).cell? ⟨w.heap.size, 3, none⟩ = some (.int .i64 f.temps) := cell_later (bel1 _ _) (cell_new w #[.int .i64 f.cls, .string f.name, .int .i64 f.epoch, .int .i64 f.temps, .slice a n cap] 35 _ rfl 3)
  have l1 : ((w.alloc (.cells #[.int .i64 f.cls, .string f.name, .int .i64 f.epoch, .int .i64 f.temps, .slice a n cap] 35)).alloc (.cells #[.string leaf.name, .int .i64 leaf.args, .int .i64 leaf.temps, .int .i64 leaf.prim, .slice ka leaf.code.length kc] 44)).cell? ⟨w.heap.size + 1, 1, none⟩ = some (.int .i64 leaf.args) := cell_new _ _ _ _ (by simp) 1
  have l2 : ((w.alloc (.cells #[.int .i64 f.cls, .string f.name, .int .i64 f.epoch, .int .i64 f.temps, .slice a n cap] 35)).alloc (.cells #[.string leaf.name, .int .i64 leaf.args, .int .i64 leaf.temps, .int .i64 leaf.prim, .slice ka leaf.code.length kc] 44)).cell? ⟨w.heap.size + 1, 2, none⟩ = some (.int .i64 leaf.temps) := cell_new _ _ _ _ (by simp) 2
  have l4 : ((w.alloc (.cells #[.int .i64 f.cls, .string f.name, .int .i64 f.epoch, .int .i64 f.temps, .slice a n cap] 35)).alloc (.cells #[.string leaf.name, .int .i64 leaf.args, .int .i64 leaf.temps, .int .i64 leaf.prim, .slice ka leaf.code.length kc] 44)).cell? ⟨w.heap.size + 1, 4, none⟩ = some (.slice ka leaf.code.length kc) := cell_new _ _ _ _ (by simp) 4
  go_enter Try.func24, Try.ntmps24
  go_upto_region 1 with (fail)
  generalize ((w.alloc (.cells #[.int .i64 f.cls, .string f.name, .int .i64 f.epoch, .int .i64 f.temps, .slice a n cap] 35)).alloc (.cells #[.string leaf.name, .int .i64 leaf.args, .int .i64 leaf.temps, .int .i64 leaf.prim, .slice ka leaf.code.length kc] 44)) = W at *
  go_wp2_with fail
  refine (fits_any [(n : Int), 3, leaf.args, leaf.temps, leaf.temps, (leaf.code.length : Int), left] _ 240 _ (by omega) (ints_made W [(n : Int), 3, leaf.args, leaf.temps, leaf.temps, (leaf.code.length : Int), left] 3 (by simp))).mono ?_
  rintro e w1 ⟨rfl, rfl⟩
  have hb1 := bel1 W (.cells #[.int .i64 (n : Int), .int .i64 3, .int .i64 leaf.args, .int .i64 leaf.temps, .int .i64 leaf.temps, .int .i64 (leaf.code.length : Int), .int .i64 left] 3)
  by_cases h1 : fitsE 240 [(n : Int), 3, leaf.args, leaf.temps, leaf.temps, (leaf.code.length : Int), left] = true
  · have HV : Hid (roomE n f.temps leaf left = fitsE 40 [f.temps, 1, leaf.args, leaf.temps]) := by show _ = _; rw [HRM.out, h1]; rfl
    rw [h1]
    have d3 := cell_later hb1 c3
    have e1 := cell_later hb1 l1
    have e2 := cell_later hb1 l2
    have HB := hid (nstep hb2 hb1)
    clear h1 c0 c3 l1 l2 l4 hb2
    generalize hW1 : W.alloc _ = W1 at *
    go_wp2_with fail
    refine (fits_any [f.temps, 1, leaf.args, leaf.temps] _ 40 _ (by omega) (ints_made W1 [f.temps, 1, leaf.args, leaf.temps] 3 (by simp))).mono ?_
    rintro e w2 ⟨rfl, rfl⟩
    have HB2 := hid (nstep HB.out (bel1 W1 (.cells ([f.temps, 1, leaf.args, leaf.temps].map (Value.int .i64)).toArray 3)))
    go_wp2
    go_ret
    exact ⟨ret_b HV.out.symm, HB2.out⟩
  · have h1' : fitsE 240 [(n : Int), 3, leaf.args, leaf.temps, leaf.temps, (leaf.code.length : Int), left] = false := by simpa using h1
    have HV : Hid (roomE n f.temps leaf left = false) := by show _ = _; rw [HRM.out, h1']; rfl
    rw [h1']
    have HB := hid (nstep hb2 hb1)
    clear h1 h1'
    go_wp2
    go_ret
    exact ⟨ret_b HV.out.symm, HB.out⟩
end Go.Proofs.Ytlekfiglefopgaa

/- Inline: who may stand in. -/
namespace Go.Proofs.Ytlekfiglefopgaa
open Go.ChangeShapes Go.WideShapes Go.ChangeAt Go.RowKit
set_option linter.unusedSimpArgs false
set_option linter.unusedVariables false
set_option maxRecDepth 8000

/-- What leafAt leaves. -/
def LfPost (w : World) (st : Option QM) (e : Ending) (w' : World) : Prop :=
  ∃ m a c, e = .returned (.tuple #[MV m (.slice a m.code.length c), .bool st.isSome]) ∧ (∀ m', st = some m' → m = m') ∧ IsCode (fun b => b < w.heap.size) w' (.slice a m.code.length c) m.code ∧ Below w.heap.size w w'
theorem LfPost.drew {w w' : World} {st : Option QM} {e : Ending} (h : LfPost w st e w') : LfPost w st e w'.drew := by
  obtain ⟨m, a, c, h1, h2, h3, h4⟩ := h
  exact ⟨m, a, c, h1, h2, h3.later goodI (Below.refl _ _).drew, h4.drew⟩
theorem LfPost.later {w w' w'' : World} {st : Option QM} {e : Ending} (h : LfPost w st e w') (hb : Below w'.heap.size w' w'') : LfPost w st e w'' := by
  obtain ⟨m, a, c, h1, h2, h3, h4⟩ := h
  exact ⟨m, a, c, h1, h2, h3.later goodI hb, nstep h4 hb⟩
theorem set5_cells {U : World} {b : Nat} {r0 r1 r2 r3 r4 u0 u1 u2 u3 u4 : Value} (h0 : U.cell? ⟨b, 0, none⟩ = some r0) (h1 : U.cell? ⟨b, 1, none⟩ = some r1) (h2 : U.cell? ⟨b, 2, none⟩ = some r2) (h3 : U.cell? ⟨b, 3, none⟩ = some r3) (h4 : U.cell? ⟨b, 4, none⟩ = some r4) : (set5 U b u0 u1 u2 u3 u4).cell? ⟨b, 0, none⟩ = some u0 ∧ (set5 U b u0 u1 u2 u3 u4).cell? ⟨b, 1, none⟩ = some u1 ∧ (set5 U b u0 u1 u2 u3 u4).cell? ⟨b, 2, none⟩ = some u2 ∧ (set5 U b u0 u1 u2 u3 u4).cell? ⟨b, 3, none⟩ = some u3 ∧ (set5 U b u0 u1 u2 u3 u4).cell? ⟨b, 4, none⟩ = some u4 := by
  simp [World.cell?_setCell_same, World.cell?_setCell_other, h0, h1, h2, h3, h4]
theorem lf_fin {w U : World} {st : Option QM} {m : QM} {a : Option Addr} {c : Nat} {b : Bool} (hst : st = if b then some m else none) (hb : Below w.heap.size w U) (hco : IsCode (fun b => b < w.heap.size) U (.slice a m.code.length c) m.code) : LfPost w st (.returned (.tuple #[MV m (.slice a m.code.length c), .bool b])) (set5 U (w.heap.size + 2) (.string m.name) (.int .i64 m.args) (.int .i64 m.temps) (.int .i64 m.prim) (.slice a m.code.length c)) := by
  refine ⟨m, a, c, ?_, ?_, hco.keep goodI (Keeps.of_block fun b hb _ => blk5 (by omega)) fun _ h => h, bel5 hb (by omega)⟩
  · cases b <;> simp [hst]
  · intro m' h
    rw [hst] at h
    cases b
    · cases h
    · cases h; rfl
abbrev zM0 : QM := ⟨⟨#[]⟩, 0, 0, 0, []⟩
theorem lf_none {w U : World} (hb : Below w.heap.size w U) : LfPost w none (.returned (.tuple #[MV zM0 (.slice none 0 0), .bool false])) (set5 U (w.heap.size + 2) (.string ⟨#[]⟩) (.int .i64 0) (.int .i64 0) (.int .i64 0) (.slice none 0 0)) :=
  lf_fin (m := zM0) (a := none) (c := 0) (b := false) rfl hb row_none
/-- The boxes of leafAt. -/
structure LfB (w : World) (cv hv : Value) (ep : Int) (x : QI) (w' : World) : Prop where
  w0 : w'.cell? ⟨w.heap.size, 0, none⟩ = some cv
  w1 : w'.cell? ⟨w.heap.size, 1, none⟩ = some hv
  w2 : w'.cell? ⟨w.heap.size, 2, none⟩ = some (.int .i64 ep)
  x0 : w'.cell? ⟨w.heap.size + 1, 0, none⟩ = some (.int .i64 x.op)
  x1 : w'.cell? ⟨w.heap.size + 1, 1, none⟩ = some (.int .i64 x.a)
  x4 : w'.cell? ⟨w.heap.size + 1, 4, none⟩ = some (.string x.name)
  z0 : w'.cell? ⟨w.heap.size + 2, 0, none⟩ = some (.string ⟨#[]⟩)
  z1 : w'.cell? ⟨w.heap.size + 2, 1, none⟩ = some (.int .i64 0)
  z2 : w'.cell? ⟨w.heap.size + 2, 2, none⟩ = some (.int .i64 0)
  z3 : w'.cell? ⟨w.heap.size + 2, 3, none⟩ = some (.int .i64 0)
  z4 : w'.cell? ⟨w.heap.size + 2, 4, none⟩ = some (.slice none 0 0)
  zf : ∀ o, w'.frozen? ⟨w.heap.size + 2, o, none⟩ = false
  sz : w.heap.size + 3 ≤ w'.heap.size
theorem LfB.later {w : World} {cv hv : Value} {ep : Int} {x : QI} {w' w'' : World} (h : LfB w cv hv ep x w') (hb : Below w'.heap.size w' w'') : LfB w cv hv ep x w'' :=
  ⟨cell_later hb h.w0, cell_later hb h.w1, cell_later hb h.w2, cell_later hb h.x0, cell_later hb h.x1, cell_later hb h.x4, cell_later hb h.z0, cell_later hb h.z1, cell_later hb h.z2, cell_later hb h.z3, cell_later hb h.z4, fun o => (hb.frozen (p := ⟨w.heap.size + 2, o, none⟩) (by have := h.sz; simp only; omega)).trans (h.zf o), Nat.le_trans h.sz hb.size⟩
theorem lfB_new (w : World) (cv hv : Value) (ep : Int) (x : QI) : LfB w cv hv ep x (((w.alloc (.cells #[cv, hv, .int .i64 ep] 25)).alloc (.cells #[.int .i64 x.op, .int .i64 x.a, .int .i64 x.b, .int .i64 x.c, .string x.name] 69)).alloc (.cells #[.string ⟨#[]⟩, .int .i64 0, .int .i64 0, .int .i64 0, .slice none 0 0] 44)) := by
  have e1 : (w.alloc (.cells #[cv, hv, .int .i64 ep] 25)).heap.size = w.heap.size + 1 := by simp
  have e2 : ((w.alloc (.cells #[cv, hv, .int .i64 ep] 25)).alloc (.cells #[.int .i64 x.op, .int .i64 x.a, .int .i64 x.b, .int .i64 x.c, .string x.name] 69)).heap.size = w.heap.size + 2 := by simp
  exact ⟨cell_later (bel2 _ _ _) (cell_new w #[cv, hv, .int .i64 ep] 25 _ rfl 0), cell_later (bel2 _ _ _) (cell_new w #[cv, hv, .int .i64 ep] 25 _ rfl 1), cell_later (bel2 _ _ _) (cell_new w #[cv, hv, .int .i64 ep] 25 _ rfl 2), cell_later (bel1 _ _) (cell_new _ _ _ _ e1 0), cell_later (bel1 _ _) (cell_new _ _ _ _ e1 1), cell_later (bel1 _ _) (cell_new _ _ _ _ e1 4), cell_new _ _ _ _ e2 0, cell_new _ _ _ _ e2 1, cell_new _ _ _ _ e2 2, cell_new _ _ _ _ e2 3, cell_new _ _ _ _ e2 4, row_free (cur := #[.string ⟨#[]⟩, .int .i64 0, .int .i64 0, .int .i64 0, .slice none 0 0]) (t := 44) (by rw [← e2]; exact heap_alloc_new _ _), by simp⟩
set_option maxHeartbeats 4000000 in
theorem leafAt_any {P Q : Nat → Prop} (X : QW) (sites : List Int) (at' : Nat) (x : QI) (cv hv sv : Value) (w : World) (hC : IsClasses P w cv X.classes) (hH : IsHeap P w hv X.heap) (hS : IsInts Q w sv sites) :
    Calls Try.prog 23 #[WV cv hv X.epoch, sv, .int .i64 (at' : Int), IV x] w fun e w' => LfPost w (standsIn X.classes sites at' x) e w' := by
  obtain ⟨ac, cc, rfl, -, hcc, -, hrowC⟩ := id (bound_classes hC)
  obtain ⟨ah, ch, rfl, -⟩ := id hH
  obtain ⟨asv, cs, rfl, hls, hcs, -, hrow⟩ := id hS
  unfold maxLen at hcs hcc
  have hB0 := lfB_new w (.slice ac X.classes.length cc) (.slice ah X.heap.length ch) X.epoch x
  have hbW := bel3 w (.cells #[.slice ac X.classes.length cc, .slice ah X.heap.length ch, .int .i64 X.epoch] 25) (.cells #[.int .i64 x.op, .int .i64 x.a, .int .i64 x.b, .int .i64 x.c, .string x.name] 69) (.cells #[.string ⟨#[]⟩, .int .i64 0, .int .i64 0, .int .i64 0, .slice none 0 0] 44)
  go_enter Try.func23, Try.ntmps23
  go_upto_region 1 with (fail)
  simp only [Nat.add_assoc, Nat.reduceAdd]
  generalize (((w.alloc (.cells #[.slice ac X.classes.length cc, .slice ah X.heap.length ch, .int .i64 X.epoch] 25)).alloc (.cells #[.int .i64 x.op, .int .i64 x.a, .int .i64 x.b, .int .i64 x.c, .string x.name] 69)).alloc (.cells #[.string ⟨#[]⟩, .int .i64 0, .int .i64 0, .int .i64 0, .slice none 0 0] 44)) = W at *
  have HN : Hid (∀ U, Below w.heap.size w U → standsIn X.classes sites at' x = none → LfPost w (standsIn X.classes sites at' x) (.returned (.tuple #[MV zM0 (.slice none 0 0), .bool false])) (set5 U (w.heap.size + 2) (.string ⟨#[]⟩) (.int .i64 0) (.int .i64 0) (.int .i64 0) (.slice none 0 0))) := fun U hb h => by rw [h]; exact lf_none hb
  obtain ⟨k0, k1, k2, x0, x1, x4, z0, z1, z2, z3, z4, zf, sz⟩ := id hB0
  by_cases hop : x.op = 14
  · have hd : (x.op == 14) = true := by simpa using hop
    have hdn : (x.op != 14) = false := by simpa using hop
    have HOP := hid hop
    rw [hop] at x0
    clear hop hd hdn
    by_cases hlt : at' < sites.length
    · obtain ⟨k, hk⟩ : ∃ k, sites[at']? = some k := ⟨sites[at'], by simp [hlt]⟩
      have HK : Hid (sites.getD at' (-1) = k) := by show _ = _; rw [List.getD_eq_getElem?_getD, hk]; rfl
      obtain ⟨bs, os, rfl, -, y0⟩ := hrow at' k hk
      replace y0 : w.cell? ⟨bs, os + at', none⟩ = some (.int .i64 k) := by simpa [IntC] using y0
      have y1 := cell_later hbW y0
      have hj1 : (at' : Int) < (sites.length : Int) := by omega
      have hj0 : (0 : Int) ≤ (at' : Int) := by omega
      have hge : ¬ ((sites.length : Int) ≤ (at' : Int)) := by omega
      clear hrow hk
      by_cases hk0 : k < 0
      · have hkd : decide (k < 0) = true := by simpa using hk0
        have HZ := hid (HN.out W hbW (by unfold standsIn; rw [if_neg (by rw [HK.out]; omega)]))
        clear hk0
        go_wp2
        refine bodyPost_ret (v := .tuple #[MV zM0 (.slice none 0 0), .bool false]) ?_ rfl HZ.out
        simp [results, Try.results23, go_sem, z0, z1, z2, z3, z4]
      · have hkd : decide (k < 0) = false := by simpa using hk0
        have HK0 := hid hk0
        have hSl : ∀ w', Below W.heap.size W w' → w'.cell? ⟨w.heap.size, 0, none⟩ = some (.slice ac X.classes.length cc) ∧ w'.cell? ⟨w.heap.size, 1, none⟩ = some (.slice ah X.heap.length ch) ∧ w'.cell? ⟨w.heap.size, 2, none⟩ = some (.int .i64 X.epoch) ∧ w'.cell? ⟨bs, os + at', none⟩ = some (.int .i64 k) ∧ w'.cell? ⟨w.heap.size + 1, 4, none⟩ = some (.string x.name) := fun w' hb => by
          have h := hB0.later hb
          exact ⟨h.w0, h.w1, h.w2, cell_later hb y1, h.x4⟩
        have hS0 := hSl _ (Below.refl _ W).drew
        clear hk0
        go_upto_region 3 with (fail)
        refine wp_region_late (S := fun w' => w'.cell? ⟨w.heap.size, 0, none⟩ = some (.slice ac X.classes.length cc) ∧ w'.cell? ⟨w.heap.size, 1, none⟩ = some (.slice ah X.heap.length ch) ∧ w'.cell? ⟨w.heap.size, 2, none⟩ = some (.int .i64 X.epoch) ∧ w'.cell? ⟨bs, os + at', none⟩ = some (.int .i64 k) ∧ w'.cell? ⟨w.heap.size + 1, 4, none⟩ = some (.string x.name)) [] (by kernel_rfl) ?_
        refine wpAnyM_take (i := 0) (oi := { dst := some 31, op := Op.load 25 (Operand.tmp 4), type := 25, pos := "inline.go:51", after := #[], guard := none }) (v := WV (.slice ac X.classes.length cc) (.slice ah X.heap.length ch) X.epoch) (by kernel_rfl) (by kernel_rfl) rfl (by kernel_rfl) (by kernel_rfl) (by kernel_rfl) (fun _ _ _ h => h) (Or.inl ⟨by rfl, ?_⟩) (hS0) ?_
        · intro w hSw
          obtain ⟨q0, q1, q2, q3, q4⟩ := hSw
          go_simp
        try simp only [Act.put, List.setIfInBounds_toArray, List.set_cons_zero, List.set_cons_succ]
        refine wpAnyM_take (i := 1) (oi := { dst := some 32, op := Op.move (Operand.tmp 1), type := 63, pos := "inline.go:51", after := #[], guard := none }) (v := .slice (some ⟨bs, os, none⟩) sites.length cs) (by kernel_rfl) (by kernel_rfl) rfl (by kernel_rfl) (by kernel_rfl) (by kernel_rfl) (fun _ _ _ h => h) (Or.inl ⟨by rfl, ?_⟩) (hS0) ?_
        · intro w hSw
          obtain ⟨q0, q1, q2, q3, q4⟩ := hSw
          go_simp
        try simp only [Act.put, List.setIfInBounds_toArray, List.set_cons_zero, List.set_cons_succ]
        refine wpAnyM_take (i := 2) (oi := { dst := some 33, op := Op.move (Operand.tmp 2), type := 3, pos := "inline.go:51", after := #[], guard := none }) (v := .int .i64 (at' : Int)) (by kernel_rfl) (by kernel_rfl) rfl (by kernel_rfl) (by kernel_rfl) (by kernel_rfl) (fun _ _ _ h => h) (Or.inl ⟨by rfl, ?_⟩) (hS0) ?_
        · intro w hSw
          obtain ⟨q0, q1, q2, q3, q4⟩ := hSw
          go_simp
        try simp only [Act.put, List.setIfInBounds_toArray, List.set_cons_zero, List.set_cons_succ]
        refine wpAnyM_take (i := 3) (oi := { dst := some 34, op := Op.indexAddr 63 (Operand.tmp 32) (Operand.tmp 33), type := 0, pos := "inline.go:51", after := #[{ on := 1, ground := Ground.data }, { on := 2, ground := Ground.data }], guard := none }) (v := .pointer (some ⟨bs, os + at', none⟩)) (by kernel_rfl) (by kernel_rfl) rfl (by kernel_rfl) (by kernel_rfl) (by kernel_rfl) (fun _ _ _ h => h) (Or.inl ⟨by rfl, ?_⟩) (hS0) ?_
        · intro w hSw
          obtain ⟨q0, q1, q2, q3, q4⟩ := hSw
          go_simp
        try simp only [Act.put, List.setIfInBounds_toArray, List.set_cons_zero, List.set_cons_succ]
        refine wpAnyM_take (i := 4) (oi := { dst := some 35, op := Op.load 3 (Operand.tmp 34), type := 3, pos := "inline.go:51", after := #[{ on := 3, ground := Ground.data }], guard := none }) (v := .int .i64 k) (by kernel_rfl) (by kernel_rfl) rfl (by kernel_rfl) (by kernel_rfl) (by kernel_rfl) (fun _ _ _ h => h) (Or.inl ⟨by rfl, ?_⟩) (hS0) ?_
        · intro w hSw
          obtain ⟨q0, q1, q2, q3, q4⟩ := hSw
          go_simp
        try simp only [Act.put, List.setIfInBounds_toArray, List.set_cons_zero, List.set_cons_succ]
        refine wpAnyM_take (i := 5) (oi := { dst := some 36, op := Op.fieldAddr 69 (Operand.tmp 7) 4, type := 0, pos := "inline.go:51", after := #[], guard := none }) (v := .pointer (some ⟨w.heap.size + 1, 4, none⟩)) (by kernel_rfl) (by kernel_rfl) rfl (by kernel_rfl) (by kernel_rfl) (by kernel_rfl) (fun _ _ _ h => h) (Or.inl ⟨by rfl, ?_⟩) (hS0) ?_
        · intro w hSw
          obtain ⟨q0, q1, q2, q3, q4⟩ := hSw
          go_simp
        try simp only [Act.put, List.setIfInBounds_toArray, List.set_cons_zero, List.set_cons_succ]
        refine wpAnyM_take (i := 6) (oi := { dst := some 37, op := Op.load 9 (Operand.tmp 36), type := 9, pos := "inline.go:51", after := #[{ on := 5, ground := Ground.data }], guard := none }) (v := .string x.name) (by kernel_rfl) (by kernel_rfl) rfl (by kernel_rfl) (by kernel_rfl) (by kernel_rfl) (fun _ _ _ h => h) (Or.inl ⟨by rfl, ?_⟩) (hS0) ?_
        · intro w hSw
          obtain ⟨q0, q1, q2, q3, q4⟩ := hSw
          go_simp
        try simp only [Act.put, List.setIfInBounds_toArray, List.set_cons_zero, List.set_cons_succ]
        refine wpAnyM_ready (rs := [7]) (by kernel_rfl) (by simp) ?_
        intro i hi
        simp only [List.mem_cons, List.not_mem_nil, or_false] at hi
        subst hi
        refine stepM (o := { dst := some 38, op := Op.call { callee := Callee.value (Operand.func 38), args := #[Operand.tmp 31, Operand.tmp 35, Operand.tmp 37], argTypes := #[25, 3, 9] }, type := 88, pos := "inline.go:51", after := #[{ on := 0, ground := Ground.data }, { on := 4, ground := Ground.data }, { on := 6, ground := Ground.data }], guard := none }) rfl (fun K' hK => ?_)
        refine step_call rfl 38 (.func 38) #[.tmp 31, .tmp 35, .tmp 37] _ rfl #[] rfl #[WV (.slice ac X.classes.length cc) (.slice ah X.heap.length ch) X.epoch, .int .i64 k, .string x.name] (by simp [Act.eval, Act.put]) (cf45 _ _) ?_
        refine (show Calls Try.prog 38 #[WV (.slice ac X.classes.length cc) (.slice ah X.heap.length ch) X.epoch, .int .i64 k, .string x.name] W.drew _ from (find_any X k x.name _ _ W.drew (hC.later goodC hbW.drew) (hH.later goodO hbW.drew)).mono ?_)
        rintro e w1 ⟨rfl, hb1⟩
        refine ⟨_, rfl, ?_⟩
        have hbW1 : Below W.heap.size W w1 := nstep (Below.refl _ W).drew hb1
        refine hK _ _ (fun _ => ?_) ?_
        · exact hSl _ hbW1
        clear hK K'
        try simp only [Act.put, List.setIfInBounds_toArray, List.set_cons_zero, List.set_cons_succ]
        obtain ⟨fc, fj, hf⟩ : ∃ fc fj, findE X.classes k x.name = (fc, fj) := ⟨_, _, rfl⟩
        simp only [hf]
        refine wpAnyM_take (i := 8) (oi := { dst := some 30, op := Op.move (Operand.tmp 38), type := 88, pos := "inline.go:51", after := #[{ on := 7, ground := Ground.data }], guard := none }) (v := .tuple #[.int .i64 fc, .int .i64 fj]) (by kernel_rfl) (by kernel_rfl) rfl (by kernel_rfl) (by kernel_rfl) (by kernel_rfl) (fun _ _ _ h => h) (Or.inl ⟨by rfl, ?_⟩) (hSl _ hbW1) ?_
        · intro w hSw
          obtain ⟨q0, q1, q2, q3, q4⟩ := hSw
          go_simp
        try simp only [Act.put, List.setIfInBounds_toArray, List.set_cons_zero, List.set_cons_succ]
        refine wpAnyM_take (i := 9) (oi := { dst := some 39, op := Op.extract (Operand.tmp 30) 0, type := 3, pos := "inline.go:51", after := #[{ on := 8, ground := Ground.data }], guard := none }) (v := .int .i64 fc) (by kernel_rfl) (by kernel_rfl) rfl (by kernel_rfl) (by kernel_rfl) (by kernel_rfl) (fun _ _ _ h => h) (Or.inl ⟨by rfl, ?_⟩) (hSl _ hbW1) ?_
        · intro w hSw
          obtain ⟨q0, q1, q2, q3, q4⟩ := hSw
          go_simp
        try simp only [Act.put, List.setIfInBounds_toArray, List.set_cons_zero, List.set_cons_succ]
        refine wpAnyM_take (i := 10) (oi := { dst := some 40, op := Op.extract (Operand.tmp 30) 1, type := 3, pos := "inline.go:51", after := #[{ on := 8, ground := Ground.data }, { on := 11, ground := Ground.gcOnly Departure.lateStores }], guard := none }) (v := .int .i64 fj) (by kernel_rfl) (by kernel_rfl) rfl (by kernel_rfl) (by kernel_rfl) (by kernel_rfl) (fun _ _ _ h => h) (Or.inl ⟨by rfl, ?_⟩) (hSl _ hbW1) ?_
        · intro w hSw
          obtain ⟨q0, q1, q2, q3, q4⟩ := hSw
          go_simp
        try simp only [Act.put, List.setIfInBounds_toArray, List.set_cons_zero, List.set_cons_succ]
        refine wpAnyM_take (i := 11) (oi := { dst := some 10, op := Op.assign (Operand.tmp 39), type := 3, pos := "inline.go:51", after := #[{ on := 9, ground := Ground.data }, { on := 7, ground := Ground.chain }, { on := 0, ground := Ground.phase }, { on := 1, ground := Ground.phase }, { on := 2, ground := Ground.phase }, { on := 3, ground := Ground.phase }, { on := 4, ground := Ground.phase }, { on := 5, ground := Ground.phase }, { on := 6, ground := Ground.phase }, { on := 7, ground := Ground.phase }, { on := 8, ground := Ground.phase }, { on := 9, ground := Ground.phase }, { on := 10, ground := Ground.textOnly Departure.lateStores }], guard := none }) (v := .int .i64 fc) (by kernel_rfl) (by kernel_rfl) rfl (by kernel_rfl) (by kernel_rfl) (by kernel_rfl) (fun _ _ _ h => h) (Or.inl ⟨by rfl, ?_⟩) (hSl _ hbW1) ?_
        · intro w hSw
          obtain ⟨q0, q1, q2, q3, q4⟩ := hSw
          go_simp
        try simp only [Act.put, List.setIfInBounds_toArray, List.set_cons_zero, List.set_cons_succ]
        refine wpAnyM_take (i := 12) (oi := { dst := some 11, op := Op.assign (Operand.tmp 40), type := 3, pos := "inline.go:51", after := #[{ on := 10, ground := Ground.data }, { on := 11, ground := Ground.chain }, { on := 0, ground := Ground.phase }, { on := 1, ground := Ground.phase }, { on := 2, ground := Ground.phase }, { on := 3, ground := Ground.phase }, { on := 4, ground := Ground.phase }, { on := 5, ground := Ground.phase }, { on := 6, ground := Ground.phase }, { on := 7, ground := Ground.phase }, { on := 8, ground := Ground.phase }, { on := 9, ground := Ground.phase }, { on := 10, ground := Ground.phase }, { on := 11, ground := Ground.phase }], guard := none }) (v := .int .i64 fj) (by kernel_rfl) (by kernel_rfl) rfl (by kernel_rfl) (by kernel_rfl) (by kernel_rfl) (fun _ _ _ h => h) (Or.inl ⟨by rfl, ?_⟩) (hSl _ hbW1) ?_
        · intro w hSw
          obtain ⟨q0, q1, q2, q3, q4⟩ := hSw
          go_simp
        try simp only [Act.put, List.setIfInBounds_toArray, List.set_cons_zero, List.set_cons_succ]
        refine wpAnyM_done (by kernel_rfl) ?_ _
        try simp only [Act.put, List.setIfInBounds_toArray, List.set_cons_zero, List.set_cons_succ]

        have hb1w : Below w.heap.size w w1 := nstep hbW hbW1
        replace hB0 := hB0.later hbW1
        clear k0 k1 k2 x0 x1 x4 z0 z1 z2 z3 z4 zf sz hSl hS0 hb1 y0 y1
        obtain ⟨k0, k1, k2, x0, x1, x4, z0, z1, z2, z3, z4, zf, sz⟩ := id hB0
        have HSI : Hid (standsIn X.classes sites at' x = match methOf X.classes k x.name with | none => none | some m => if m.args = x.a ∧ leafE m = true then some m else none) := by show _ = _; unfold standsIn; rw [HK.out, if_pos ⟨HOP.out, by have := HK0.out; omega⟩]; cases methOf X.classes k x.name <;> rfl
        rcases find_cases X.classes k x.name with ⟨h1, h2⟩ | ⟨qc, xc, tc, m, he, hxc, hm⟩
        · rw [hf] at h1 h2
          simp only at h1 h2
          have hfd : decide (fc < 0) = true := by simpa using h1
          have HZ := hid (HN.out w1 hb1w (by rw [HSI.out]; unfold methOf; rw [hf, if_pos h2]))
          clear h1 h2
          go_wp2
          refine bodyPost_ret (v := .tuple #[MV zM0 (.slice none 0 0), .bool false]) ?_ rfl HZ.out
          simp [results, Try.results23, go_sem, z0, z1, z2, z3, z4]
        · have HSM : Hid (standsIn X.classes sites at' x = if m.args = x.a ∧ leafE m = true then some m else none) := by
            show _ = _
            rw [HSI.out]
            have : methOf X.classes k x.name = some m := by unfold methOf; rw [he]; simp [hxc, hm]
            rw [this]
          rw [hf] at he
          obtain ⟨rfl, rfl⟩ : fc = (qc : Int) ∧ fj = (tc : Int) := by cases he; exact ⟨rfl, rfl⟩
          obtain ⟨b1, o1, rfl, -, -, -, -, -, mv, u3, hms⟩ := hrowC qc xc hxc
          obtain ⟨am, cm, rfl, hlm, hcm, -, hrm⟩ := hms
          obtain ⟨b2, o2, rfl, -, v0, v1, v2, v3, -, kv, v4, hco0⟩ := hrm tc m hm
          obtain ⟨ak, ck, rfl, -⟩ := id hco0
          simp only [Nat.add_zero] at v0
          unfold maxLen at hcm
          have hq := lt_of_get hxc
          have ht := lt_of_get hm
          have hq1 : (qc : Int) < (X.classes.length : Int) := by omega
          have hq0 : (0 : Int) ≤ (qc : Int) := by omega
          have ht1 : (tc : Int) < (xc.methods.length : Int) := by omega
          have ht0 : (0 : Int) ≤ (tc : Int) := by omega
          have hqn : decide ((qc : Int) < 0) = false := by simp
          replace u3 := cell_later hb1w u3
          replace v0 := cell_later hb1w v0
          replace v1 := cell_later hb1w v1
          replace v2 := cell_later hb1w v2
          replace v3 := cell_later hb1w v3
          replace v4 := cell_later hb1w v4
          have hbV1 := bel1 w1 (.cells #[.string m.name, .int .i64 m.args, .int .i64 m.temps, .int .i64 m.prim, .slice ak m.code.length ck] 44)
          have hco := (hco0.later goodI hb1w).later goodI hbV1
          have hbV := nstep hb1w hbV1
          have hBV := hB0.later hbV1
          have hS12 : (w1.alloc (.cells #[.string m.name, .int .i64 m.args, .int .i64 m.temps, .int .i64 m.prim, .slice ak m.code.length ck] 44)).heap[w1.heap.size]? = some (.cells #[.string m.name, .int .i64 m.args, .int .i64 m.temps, .int .i64 m.prim, .slice ak m.code.length ck] 44 (0, 0)) := heap_alloc_new _ _
          have hszz := hB0.sz
          clear hrowC hrm hxc hm he hf
          go_upto_region 7 with (fail)
          generalize (w1.alloc (.cells #[.string m.name, .int .i64 m.args, .int .i64 m.temps, .int .i64 m.prim, .slice ak m.code.length ck] 44)) = V at *
          generalize hb12 : w1.heap.size = b12 at *
          have hSl : ∀ w', Below V.heap.size V w' → w'.cell? ⟨b12, 0, none⟩ = some (.string m.name) ∧ w'.cell? ⟨b12, 1, none⟩ = some (.int .i64 m.args) ∧ w'.cell? ⟨b12, 2, none⟩ = some (.int .i64 m.temps) ∧ w'.cell? ⟨b12, 3, none⟩ = some (.int .i64 m.prim) ∧ w'.cell? ⟨b12, 4, none⟩ = some (.slice ak m.code.length ck) ∧ w'.cell? ⟨w.heap.size + 1, 1, none⟩ = some (.int .i64 x.a) := fun w' hb => by
            have h := box_later' hS12 hb
            exact ⟨by rw [cell_of_row _ _ _ _ _ _ h]; rfl, by rw [cell_of_row _ _ _ _ _ _ h]; rfl, by rw [cell_of_row _ _ _ _ _ _ h]; rfl, by rw [cell_of_row _ _ _ _ _ _ h]; rfl, by rw [cell_of_row _ _ _ _ _ _ h]; rfl, (hBV.later hb).x1⟩
          have hZ : ∀ w', Below V.heap.size V w' → w'.cell? ⟨w.heap.size + 2, 0, none⟩ = some (.string ⟨#[]⟩) ∧ w'.cell? ⟨w.heap.size + 2, 1, none⟩ = some (.int .i64 0) ∧ w'.cell? ⟨w.heap.size + 2, 2, none⟩ = some (.int .i64 0) ∧ w'.cell? ⟨w.heap.size + 2, 3, none⟩ = some (.int .i64 0) ∧ w'.cell? ⟨w.heap.size + 2, 4, none⟩ = some (.slice none 0 0) ∧ ∀ o, w'.frozen? ⟨w.heap.size + 2, o, none⟩ = false := fun w' hb => by
            have h := hBV.later hb
            exact ⟨h.z0, h.z1, h.z2, h.z3, h.z4, h.zf⟩
          have hS7 := hSl _ (Below.refl _ V).drew
          clear k0 k1 k2 x0 x1 x4 z0 z1 z2 z3 z4 zf sz u3 v0 v1 v2 v3 v4
          by_cases hea : m.args = x.a
          · have heb : (m.args == x.a) = true := by simpa using hea
            have HST : Hid (standsIn X.classes sites at' x = if leafE m then some m else none) := by show _ = _; rw [HSM.out]; simp [hea]
            clear hea
            refine wp_region_late (S := fun w' => w'.cell? ⟨b12, 0, none⟩ = some (.string m.name) ∧ w'.cell? ⟨b12, 1, none⟩ = some (.int .i64 m.args) ∧ w'.cell? ⟨b12, 2, none⟩ = some (.int .i64 m.temps) ∧ w'.cell? ⟨b12, 3, none⟩ = some (.int .i64 m.prim) ∧ w'.cell? ⟨b12, 4, none⟩ = some (.slice ak m.code.length ck) ∧ w'.cell? ⟨w.heap.size + 1, 1, none⟩ = some (.int .i64 x.a)) [] (by kernel_rfl) ?_
            refine wpAnyM_take (i := 0) (oi := { dst := some 53, op := Op.load 44 (Operand.tmp 12), type := 44, pos := "inline.go:56", after := #[], guard := none }) (v := MV m (.slice ak m.code.length ck)) (by kernel_rfl) (by kernel_rfl) rfl (by kernel_rfl) (by kernel_rfl) (by kernel_rfl) (fun _ _ _ h => h) (Or.inl ⟨by rfl, ?_⟩) (hS7) ?_
            · intro w hSw
              obtain ⟨q0, q1, q2, q3, q4, q5⟩ := hSw
              go_simp
            try simp only [Act.put, List.setIfInBounds_toArray, List.set_cons_zero, List.set_cons_succ]
            refine wpAnyM_take (i := 1) (oi := { dst := some 54, op := Op.fieldAddr 44 (Operand.tmp 12) 1, type := 0, pos := "inline.go:56", after := #[], guard := none }) (v := .pointer (some ⟨b12, 1, none⟩)) (by kernel_rfl) (by kernel_rfl) rfl (by kernel_rfl) (by kernel_rfl) (by kernel_rfl) (fun _ _ _ h => h) (Or.inl ⟨by rfl, ?_⟩) (hS7) ?_
            · intro w hSw
              obtain ⟨q0, q1, q2, q3, q4, q5⟩ := hSw
              go_simp
            try simp only [Act.put, List.setIfInBounds_toArray, List.set_cons_zero, List.set_cons_succ]
            refine wpAnyM_take (i := 2) (oi := { dst := some 55, op := Op.load 3 (Operand.tmp 54), type := 3, pos := "inline.go:56", after := #[{ on := 1, ground := Ground.data }], guard := none }) (v := .int .i64 m.args) (by kernel_rfl) (by kernel_rfl) rfl (by kernel_rfl) (by kernel_rfl) (by kernel_rfl) (fun _ _ _ h => h) (Or.inl ⟨by rfl, ?_⟩) (hS7) ?_
            · intro w hSw
              obtain ⟨q0, q1, q2, q3, q4, q5⟩ := hSw
              go_simp
            try simp only [Act.put, List.setIfInBounds_toArray, List.set_cons_zero, List.set_cons_succ]
            refine wpAnyM_take (i := 3) (oi := { dst := some 56, op := Op.fieldAddr 69 (Operand.tmp 7) 1, type := 0, pos := "inline.go:56", after := #[], guard := none }) (v := .pointer (some ⟨w.heap.size + 1, 1, none⟩)) (by kernel_rfl) (by kernel_rfl) rfl (by kernel_rfl) (by kernel_rfl) (by kernel_rfl) (fun _ _ _ h => h) (Or.inl ⟨by rfl, ?_⟩) (hS7) ?_
            · intro w hSw
              obtain ⟨q0, q1, q2, q3, q4, q5⟩ := hSw
              go_simp
            try simp only [Act.put, List.setIfInBounds_toArray, List.set_cons_zero, List.set_cons_succ]
            refine wpAnyM_take (i := 4) (oi := { dst := some 57, op := Op.load 3 (Operand.tmp 56), type := 3, pos := "inline.go:56", after := #[{ on := 3, ground := Ground.data }], guard := none }) (v := .int .i64 x.a) (by kernel_rfl) (by kernel_rfl) rfl (by kernel_rfl) (by kernel_rfl) (by kernel_rfl) (fun _ _ _ h => h) (Or.inl ⟨by rfl, ?_⟩) (hS7) ?_
            · intro w hSw
              obtain ⟨q0, q1, q2, q3, q4, q5⟩ := hSw
              go_simp
            try simp only [Act.put, List.setIfInBounds_toArray, List.set_cons_zero, List.set_cons_succ]
            refine wpAnyM_take (i := 5) (oi := { dst := some 58, op := Op.binOp BinOp.eql 3 (Operand.tmp 55) (Operand.tmp 57) 3, type := 4, pos := "inline.go:56", after := #[{ on := 2, ground := Ground.data }, { on := 4, ground := Ground.data }], guard := none }) (v := .bool true) (by kernel_rfl) (by kernel_rfl) rfl (by kernel_rfl) (by kernel_rfl) (by kernel_rfl) (fun _ _ _ h => h) (Or.inl ⟨by rfl, ?_⟩) (hS7) ?_
            · intro w hSw
              obtain ⟨q0, q1, q2, q3, q4, q5⟩ := hSw
              go_simp
            try simp only [Act.put, List.setIfInBounds_toArray, List.set_cons_zero, List.set_cons_succ]
            refine wpAnyM_take (i := 6) (oi := { dst := some 59, op := Op.move (Operand.tmp 58), type := 4, pos := "inline.go:56", after := #[{ on := 5, ground := Ground.data }], guard := none }) (v := .bool true) (by kernel_rfl) (by kernel_rfl) rfl (by kernel_rfl) (by kernel_rfl) (by kernel_rfl) (fun _ _ _ h => h) (Or.inl ⟨by rfl, ?_⟩) (hS7) ?_
            · intro w hSw
              obtain ⟨q0, q1, q2, q3, q4, q5⟩ := hSw
              go_simp
            try simp only [Act.put, List.setIfInBounds_toArray, List.set_cons_zero, List.set_cons_succ]
            refine wpAnyM_take (i := 7) (oi := { dst := some 60, op := Op.load 44 (Operand.tmp 12), type := 44, pos := "inline.go:56", after := #[{ on := 6, ground := Ground.guard }], guard := some (6, true) }) (v := MV m (.slice ak m.code.length ck)) (by kernel_rfl) (by kernel_rfl) rfl (by kernel_rfl) (by kernel_rfl) (by kernel_rfl) (fun _ _ _ h => h) (Or.inl ⟨by rfl, ?_⟩) (hS7) ?_
            · intro w hSw
              obtain ⟨q0, q1, q2, q3, q4, q5⟩ := hSw
              go_simp
            try simp only [Act.put, List.setIfInBounds_toArray, List.set_cons_zero, List.set_cons_succ]
            refine wpAnyM_ready (rs := [8]) (by kernel_rfl) (by simp) ?_
            intro i hi
            simp only [List.mem_cons, List.not_mem_nil, or_false] at hi
            subst hi
            refine stepM (o := { dst := some 61, op := Op.call { callee := Callee.value (Operand.func 39), args := #[Operand.tmp 60], argTypes := #[44] }, type := 4, pos := "inline.go:56", after := #[{ on := 7, ground := Ground.data }, { on := 6, ground := Ground.chain }, { on := 6, ground := Ground.guard }], guard := some (6, true) }) rfl (fun K' hK => ?_)
            refine step_callG (by rfl) 39 (.func 39) #[.tmp 60] _ rfl #[] rfl #[MV m (.slice ak m.code.length ck)] (by simp [Act.eval, Act.put]) (cf46 _ _) ?_
            refine (show Calls Try.prog 39 #[MV m (.slice ak m.code.length ck)] V.drew _ from (leaf_any m _ V.drew (hco.later goodI (Below.refl _ V).drew)).mono ?_)
            rintro e w5 ⟨rfl, hb5⟩
            refine ⟨_, rfl, ?_⟩
            have hbV5 : Below V.heap.size V w5 := nstep (Below.refl _ V).drew hb5
            obtain ⟨r0, r1, r2, r3, r4, rf⟩ := hZ _ hbV5
            obtain ⟨z0, z1, z2, z3, z4, z5⟩ := hSl _ hbV5
            refine hK _ _ (fun _ => ?_) ?_
            · exact hSl _ hbV5
            clear hK K'
            try simp only [Act.put, List.setIfInBounds_toArray, List.set_cons_zero, List.set_cons_succ]
            refine wpAnyM_take (i := 9) (oi := { dst := some 62, op := Op.pick (Operand.tmp 59) (Operand.tmp 61) (Operand.const (Value.bool false)), type := 4, pos := "inline.go:56", after := #[{ on := 6, ground := Ground.data }, { on := 8, ground := Ground.data }, { on := 10, ground := Ground.gcOnly Departure.lateStores }], guard := none }) (v := .bool (leafE m)) (by kernel_rfl) (by kernel_rfl) rfl (by kernel_rfl) (by kernel_rfl) (by kernel_rfl) (fun _ _ _ h => h) (Or.inl ⟨by rfl, ?_⟩) (hSl _ hbV5) ?_
            · intro w hSw
              obtain ⟨q0, q1, q2, q3, q4, q5⟩ := hSw
              go_simp
            try simp only [Act.put, List.setIfInBounds_toArray, List.set_cons_zero, List.set_cons_succ]
            refine wpAnyM_ready (rs := [10]) (by kernel_rfl) (by simp) ?_
            intro i hi
            simp only [List.mem_cons, List.not_mem_nil, or_false] at hi
            subst hi
            refine stepM (o := { dst := none, op := Op.store 44 (Operand.tmp 8) (Operand.tmp 53), type := 0, pos := "inline.go:56", after := #[{ on := 0, ground := Ground.data }, { on := 8, ground := Ground.chain }, { on := 0, ground := Ground.phase }, { on := 1, ground := Ground.textOnly Departure.lateStores }, { on := 2, ground := Ground.textOnly Departure.lateStores }, { on := 3, ground := Ground.textOnly Departure.lateStores }, { on := 4, ground := Ground.textOnly Departure.lateStores }, { on := 5, ground := Ground.textOnly Departure.lateStores }, { on := 6, ground := Ground.textOnly Departure.lateStores }, { on := 7, ground := Ground.textOnly Departure.lateStores }, { on := 8, ground := Ground.textOnly Departure.lateStoresUnsure }, { on := 9, ground := Ground.textOnly Departure.lateStores }], guard := none }) rfl (fun K' hK => ?_)
            go_simp
            refine hK _ _ (fun _ => ?_) ?_
            · exact ⟨far5 z0 (by omega), far5 z1 (by omega), far5 z2 (by omega), far5 z3 (by omega), far5 z4 (by omega), far5 z5 (by omega)⟩
            clear hK K'
            try simp only [Act.put, List.setIfInBounds_toArray, List.set_cons_zero, List.set_cons_succ]
            refine wpAnyM_take (i := 11) (oi := { dst := some 9, op := Op.assign (Operand.tmp 62), type := 4, pos := "inline.go:56", after := #[{ on := 9, ground := Ground.data }, { on := 10, ground := Ground.chain }, { on := 0, ground := Ground.phase }, { on := 1, ground := Ground.phase }, { on := 2, ground := Ground.phase }, { on := 3, ground := Ground.phase }, { on := 4, ground := Ground.phase }, { on := 5, ground := Ground.phase }, { on := 6, ground := Ground.phase }, { on := 7, ground := Ground.phase }, { on := 8, ground := Ground.phase }, { on := 9, ground := Ground.phase }, { on := 10, ground := Ground.phase }], guard := none }) (v := .bool (leafE m)) (by kernel_rfl) (by kernel_rfl) rfl (by kernel_rfl) (by kernel_rfl) (by kernel_rfl) (fun _ _ _ h => h) (Or.inl ⟨by rfl, ?_⟩) (⟨far5 z0 (by omega), far5 z1 (by omega), far5 z2 (by omega), far5 z3 (by omega), far5 z4 (by omega), far5 z5 (by omega)⟩) ?_
            · intro w hSw
              obtain ⟨q0, q1, q2, q3, q4, q5⟩ := hSw
              go_simp
            try simp only [Act.put, List.setIfInBounds_toArray, List.set_cons_zero, List.set_cons_succ]
            refine wpAnyM_done (by kernel_rfl) ?_ _
            try simp only [Act.put, List.setIfInBounds_toArray, List.set_cons_zero, List.set_cons_succ]
            have HQ := hid (lf_fin (U := w5) (m := m) (a := ak) (c := ck) HST.out (nstep hbV hbV5) (hco.later goodI hbV5))
            go_wp2
            refine bodyPost_ret (v := .tuple #[MV m (.slice ak m.code.length ck), .bool (leafE m)]) ?_ rfl HQ.out
            simp [results, Try.results23, go_sem, r0, r1, r2, r3, r4]

          · have heb : (m.args == x.a) = false := by simpa using hea
            have HST : Hid (standsIn X.classes sites at' x = if false then some m else none) := by show _ = _; rw [HSM.out]; simp [hea]
            clear hea
            refine wp_region_late (S := fun w' => w'.cell? ⟨b12, 0, none⟩ = some (.string m.name) ∧ w'.cell? ⟨b12, 1, none⟩ = some (.int .i64 m.args) ∧ w'.cell? ⟨b12, 2, none⟩ = some (.int .i64 m.temps) ∧ w'.cell? ⟨b12, 3, none⟩ = some (.int .i64 m.prim) ∧ w'.cell? ⟨b12, 4, none⟩ = some (.slice ak m.code.length ck) ∧ w'.cell? ⟨w.heap.size + 1, 1, none⟩ = some (.int .i64 x.a)) [] (by kernel_rfl) ?_
            refine wpAnyM_take (i := 0) (oi := { dst := some 53, op := Op.load 44 (Operand.tmp 12), type := 44, pos := "inline.go:56", after := #[], guard := none }) (v := MV m (.slice ak m.code.length ck)) (by kernel_rfl) (by kernel_rfl) rfl (by kernel_rfl) (by kernel_rfl) (by kernel_rfl) (fun _ _ _ h => h) (Or.inl ⟨by rfl, ?_⟩) (hS7) ?_
            · intro w hSw
              obtain ⟨q0, q1, q2, q3, q4, q5⟩ := hSw
              go_simp
            try simp only [Act.put, List.setIfInBounds_toArray, List.set_cons_zero, List.set_cons_succ]
            refine wpAnyM_take (i := 1) (oi := { dst := some 54, op := Op.fieldAddr 44 (Operand.tmp 12) 1, type := 0, pos := "inline.go:56", after := #[], guard := none }) (v := .pointer (some ⟨b12, 1, none⟩)) (by kernel_rfl) (by kernel_rfl) rfl (by kernel_rfl) (by kernel_rfl) (by kernel_rfl) (fun _ _ _ h => h) (Or.inl ⟨by rfl, ?_⟩) (hS7) ?_
            · intro w hSw
              obtain ⟨q0, q1, q2, q3, q4, q5⟩ := hSw
              go_simp
            try simp only [Act.put, List.setIfInBounds_toArray, List.set_cons_zero, List.set_cons_succ]
            refine wpAnyM_take (i := 2) (oi := { dst := some 55, op := Op.load 3 (Operand.tmp 54), type := 3, pos := "inline.go:56", after := #[{ on := 1, ground := Ground.data }], guard := none }) (v := .int .i64 m.args) (by kernel_rfl) (by kernel_rfl) rfl (by kernel_rfl) (by kernel_rfl) (by kernel_rfl) (fun _ _ _ h => h) (Or.inl ⟨by rfl, ?_⟩) (hS7) ?_
            · intro w hSw
              obtain ⟨q0, q1, q2, q3, q4, q5⟩ := hSw
              go_simp
            try simp only [Act.put, List.setIfInBounds_toArray, List.set_cons_zero, List.set_cons_succ]
            refine wpAnyM_take (i := 3) (oi := { dst := some 56, op := Op.fieldAddr 69 (Operand.tmp 7) 1, type := 0, pos := "inline.go:56", after := #[], guard := none }) (v := .pointer (some ⟨w.heap.size + 1, 1, none⟩)) (by kernel_rfl) (by kernel_rfl) rfl (by kernel_rfl) (by kernel_rfl) (by kernel_rfl) (fun _ _ _ h => h) (Or.inl ⟨by rfl, ?_⟩) (hS7) ?_
            · intro w hSw
              obtain ⟨q0, q1, q2, q3, q4, q5⟩ := hSw
              go_simp
            try simp only [Act.put, List.setIfInBounds_toArray, List.set_cons_zero, List.set_cons_succ]
            refine wpAnyM_take (i := 4) (oi := { dst := some 57, op := Op.load 3 (Operand.tmp 56), type := 3, pos := "inline.go:56", after := #[{ on := 3, ground := Ground.data }], guard := none }) (v := .int .i64 x.a) (by kernel_rfl) (by kernel_rfl) rfl (by kernel_rfl) (by kernel_rfl) (by kernel_rfl) (fun _ _ _ h => h) (Or.inl ⟨by rfl, ?_⟩) (hS7) ?_
            · intro w hSw
              obtain ⟨q0, q1, q2, q3, q4, q5⟩ := hSw
              go_simp
            try simp only [Act.put, List.setIfInBounds_toArray, List.set_cons_zero, List.set_cons_succ]
            refine wpAnyM_take (i := 5) (oi := { dst := some 58, op := Op.binOp BinOp.eql 3 (Operand.tmp 55) (Operand.tmp 57) 3, type := 4, pos := "inline.go:56", after := #[{ on := 2, ground := Ground.data }, { on := 4, ground := Ground.data }], guard := none }) (v := .bool false) (by kernel_rfl) (by kernel_rfl) rfl (by kernel_rfl) (by kernel_rfl) (by kernel_rfl) (fun _ _ _ h => h) (Or.inl ⟨by rfl, ?_⟩) (hS7) ?_
            · intro w hSw
              obtain ⟨q0, q1, q2, q3, q4, q5⟩ := hSw
              go_simp
            try simp only [Act.put, List.setIfInBounds_toArray, List.set_cons_zero, List.set_cons_succ]
            refine wpAnyM_take (i := 6) (oi := { dst := some 59, op := Op.move (Operand.tmp 58), type := 4, pos := "inline.go:56", after := #[{ on := 5, ground := Ground.data }], guard := none }) (v := .bool false) (by kernel_rfl) (by kernel_rfl) rfl (by kernel_rfl) (by kernel_rfl) (by kernel_rfl) (fun _ _ _ h => h) (Or.inl ⟨by rfl, ?_⟩) (hS7) ?_
            · intro w hSw
              obtain ⟨q0, q1, q2, q3, q4, q5⟩ := hSw
              go_simp
            try simp only [Act.put, List.setIfInBounds_toArray, List.set_cons_zero, List.set_cons_succ]
            refine wpAnyM_take (i := 7) (oi := { dst := some 60, op := Op.load 44 (Operand.tmp 12), type := 44, pos := "inline.go:56", after := #[{ on := 6, ground := Ground.guard }], guard := some (6, true) }) (v := undef) (by kernel_rfl) (by kernel_rfl) rfl (by kernel_rfl) (by kernel_rfl) (by kernel_rfl) (fun _ _ _ h => h) (Or.inr ⟨by rfl, rfl⟩) (hS7) ?_
            try simp only [Act.put, List.setIfInBounds_toArray, List.set_cons_zero, List.set_cons_succ]
            refine wpAnyM_take (i := 8) (oi := { dst := some 61, op := Op.call { callee := Callee.value (Operand.func 39), args := #[Operand.tmp 60], argTypes := #[44] }, type := 4, pos := "inline.go:56", after := #[{ on := 7, ground := Ground.data }, { on := 6, ground := Ground.chain }, { on := 6, ground := Ground.guard }], guard := some (6, true) }) (v := undef) (by kernel_rfl) (by kernel_rfl) rfl (by kernel_rfl) (by kernel_rfl) (by kernel_rfl) (fun _ _ _ h => h) (Or.inr ⟨by rfl, rfl⟩) (hS7) ?_
            try simp only [Act.put, List.setIfInBounds_toArray, List.set_cons_zero, List.set_cons_succ]
            refine wpAnyM_take (i := 9) (oi := { dst := some 62, op := Op.pick (Operand.tmp 59) (Operand.tmp 61) (Operand.const (Value.bool false)), type := 4, pos := "inline.go:56", after := #[{ on := 6, ground := Ground.data }, { on := 8, ground := Ground.data }, { on := 10, ground := Ground.gcOnly Departure.lateStores }], guard := none }) (v := .bool false) (by kernel_rfl) (by kernel_rfl) rfl (by kernel_rfl) (by kernel_rfl) (by kernel_rfl) (fun _ _ _ h => h) (Or.inl ⟨by rfl, ?_⟩) (hS7) ?_
            · intro w hSw
              obtain ⟨q0, q1, q2, q3, q4, q5⟩ := hSw
              go_simp
            try simp only [Act.put, List.setIfInBounds_toArray, List.set_cons_zero, List.set_cons_succ]
            refine wpAnyM_ready (rs := [10]) (by kernel_rfl) (by simp) ?_
            intro i hi
            simp only [List.mem_cons, List.not_mem_nil, or_false] at hi
            subst hi
            refine stepM (o := { dst := none, op := Op.store 44 (Operand.tmp 8) (Operand.tmp 53), type := 0, pos := "inline.go:56", after := #[{ on := 0, ground := Ground.data }, { on := 8, ground := Ground.chain }, { on := 0, ground := Ground.phase }, { on := 1, ground := Ground.textOnly Departure.lateStores }, { on := 2, ground := Ground.textOnly Departure.lateStores }, { on := 3, ground := Ground.textOnly Departure.lateStores }, { on := 4, ground := Ground.textOnly Departure.lateStores }, { on := 5, ground := Ground.textOnly Departure.lateStores }, { on := 6, ground := Ground.textOnly Departure.lateStores }, { on := 7, ground := Ground.textOnly Departure.lateStores }, { on := 8, ground := Ground.textOnly Departure.lateStoresUnsure }, { on := 9, ground := Ground.textOnly Departure.lateStores }], guard := none }) rfl (fun K' hK => ?_)
            obtain ⟨r0, r1, r2, r3, r4, rf⟩ := hZ _ (Below.refl _ V)
            obtain ⟨z0, z1, z2, z3, z4, z5⟩ := hSl _ (Below.refl _ V)
            go_simp
            refine hK _ _ (fun _ => ?_) ?_
            · exact ⟨cell_later (Below.refl _ _).drew (far5 z0 (by omega)), cell_later (Below.refl _ _).drew (far5 z1 (by omega)), cell_later (Below.refl _ _).drew (far5 z2 (by omega)), cell_later (Below.refl _ _).drew (far5 z3 (by omega)), cell_later (Below.refl _ _).drew (far5 z4 (by omega)), cell_later (Below.refl _ _).drew (far5 z5 (by omega))⟩
            clear hK K'
            try simp only [Act.put, List.setIfInBounds_toArray, List.set_cons_zero, List.set_cons_succ]
            refine wpAnyM_take (i := 11) (oi := { dst := some 9, op := Op.assign (Operand.tmp 62), type := 4, pos := "inline.go:56", after := #[{ on := 9, ground := Ground.data }, { on := 10, ground := Ground.chain }, { on := 0, ground := Ground.phase }, { on := 1, ground := Ground.phase }, { on := 2, ground := Ground.phase }, { on := 3, ground := Ground.phase }, { on := 4, ground := Ground.phase }, { on := 5, ground := Ground.phase }, { on := 6, ground := Ground.phase }, { on := 7, ground := Ground.phase }, { on := 8, ground := Ground.phase }, { on := 9, ground := Ground.phase }, { on := 10, ground := Ground.phase }], guard := none }) (v := .bool false) (by kernel_rfl) (by kernel_rfl) rfl (by kernel_rfl) (by kernel_rfl) (by kernel_rfl) (fun _ _ _ h => h) (Or.inl ⟨by rfl, ?_⟩) (⟨cell_later (Below.refl _ _).drew (far5 z0 (by omega)), cell_later (Below.refl _ _).drew (far5 z1 (by omega)), cell_later (Below.refl _ _).drew (far5 z2 (by omega)), cell_later (Below.refl _ _).drew (far5 z3 (by omega)), cell_later (Below.refl _ _).drew (far5 z4 (by omega)), cell_later (Below.refl _ _).drew (far5 z5 (by omega))⟩) ?_
            · intro w hSw
              obtain ⟨q0, q1, q2, q3, q4, q5⟩ := hSw
              go_simp
            try simp only [Act.put, List.setIfInBounds_toArray, List.set_cons_zero, List.set_cons_succ]
            refine wpAnyM_done (by kernel_rfl) ?_ _
            try simp only [Act.put, List.setIfInBounds_toArray, List.set_cons_zero, List.set_cons_succ]
            have HQ := hid (lf_fin (U := V) (m := m) (a := ak) (c := ck) (b := false) HST.out hbV hco)
            obtain ⟨r0, r1, r2, r3, r4, rf⟩ := hZ _ (Below.refl _ V)
            go_wp2
            refine bodyPost_ret (v := .tuple #[MV m (.slice ak m.code.length ck), .bool false]) ?_ rfl HQ.out.drew
            simp [results, Try.results23, go_sem, r0, r1, r2, r3, r4]

    · have hge : (sites.length : Int) ≤ (at' : Int) := by omega
      have HZ := hid (HN.out W hbW (by unfold standsIn; rw [if_neg (by rw [List.getD_eq_getElem?_getD, List.getElem?_eq_none (by omega)]; simp)]))
      clear hrow
      go_wp2
      refine bodyPost_ret (v := .tuple #[MV zM0 (.slice none 0 0), .bool false]) ?_ rfl HZ.out
      simp [results, Try.results23, go_sem, z0, z1, z2, z3, z4]
  · have hd : (x.op == 14) = false := by simpa using hop
    have hdn : (x.op != 14) = true := by simpa using hop
    have HZ := hid (HN.out W hbW (by unfold standsIn; rw [if_neg (by omega)]))
    clear hop
    go_wp2
    refine bodyPost_ret (v := .tuple #[MV zM0 (.slice none 0 0), .bool false]) ?_ rfl HZ.out
    simp [results, Try.results23, go_sem, z0, z1, z2, z3, z4]
end Go.Proofs.Ytlekfiglefopgaa

/- Inline: what is known of a right world's methods; code that is built stays small. -/
namespace Go.Proofs.Ytlekfiglefopgaa
open Go.ChangeShapes Go.WideShapes Go.ChangeAt Go.RowKit
set_option linter.unusedSimpArgs false
set_option linter.unusedVariables false

/-- A method of a right world is small. -/
structure Sml (m : QM) : Prop where
  args : 0 ≤ m.args ∧ m.args ≤ 4
  temps : 0 ≤ m.temps ∧ m.temps ≤ 6
  len : m.code.length ≤ 60
  code : ∀ x ∈ m.code, (x.op = 2 ∨ x.op = 3 ∨ x.op = 11 ∨ x.op = 15 ∨ x.op = 16) → 0 ≤ x.a ∧ x.a ≤ 1000
  jump : ∀ x ∈ m.code, (x.op = 15 ∨ x.op = 16) → 0 ≤ x.a ∧ x.a < m.code.length
  plain : ∀ x ∈ m.code, 1 ≤ x.op ∧ x.op ≤ 17 ∧ x.b = 0 ∧ x.c = 0 ∧ (x.op ≠ 14 → emptyB x.name = true)
theorem meth_prim {X : QW} (h : rightE X = 0) {c n : Int} {m : QM} (hm : methAt X.classes c n = some m) (hp0 : m.prim ≠ 0) : m.args = 1 ∧ m.temps = 0 ∧ m.code = [] := by
  rcases right_meth h hm with ⟨-, -⟩ | ⟨h0, -⟩
  · obtain ⟨hs, -, hk, -⟩ := right_is h
    unfold methAt at hm
    cases hx : clsAt X.classes c with
    | none => rw [hx] at hm; cases hm
    | some x =>
      rw [hx] at hm
      simp only [Option.bind_some] at hm
      obtain ⟨k, rfl, hx'⟩ := clsAt_some hx
      split at hm
      · have hr := hk k x (lt_of_get hx') hx'
        unfold rkE at hr
        split at hr
        · cases hr
        · split at hr
          · cases hr
          · have hq := firstE_all hr _ _ hm
            unfold rmE at hq
            split at hq
            · cases hq
            · split at hq
              · rename_i hp
                unfold primB at hp
                rw [List.any_eq_true] at hp
                obtain ⟨p, hpm, hp⟩ := hp
                simp only [Bool.and_eq_true, decide_eq_true_eq] at hp
                exact ⟨hp.1.1.2, hp.1.2, List.eq_nil_of_length_eq_zero hp.2⟩
              · exfalso
                unfold checkE at hq
                split at hq
                · rename_i a; exact absurd hq a
                · rename_i a
                  have hw : wmE X.classes.length k m = 0 := Decidable.of_not_not a
                  unfold wmE at hw
                  split at hw
                  · cases hw
                  · split at hw
                    · cases hw
                    · split at hw
                      · cases hw
                      · cases hw
      · cases hm
  · exact absurd h0 hp0
theorem meth_small {X : QW} (h : rightE X = 0) {c n : Int} {m : QM} (hm : methAt X.classes c n = some m) : Sml m := by
  by_cases hp0 : m.prim = 0
  · rcases right_meth h hm with ⟨h0, -⟩ | ⟨-, S, N, hw, hn, -⟩
    · exact absurd hp0 h0
    · unfold wmE at hw
      split at hw
      · cases hw
      · split at hw
        · cases hw
        · split at hw
          · cases hw
          · rename_i hat
            split at hw
            · cases hw
            · split at hw
              · cases hw
              · rename_i hlen
                simp [inR] at hat hlen
                have hl : m.code.length ≤ 60 := by omega
                refine ⟨by omega, by omega, hl, fun x hx ho => ?_, fun x hx ho => ?_, fun x hx => ?_⟩
                · have hx' := hn x hx
                  obtain ⟨n1, n2, n3, n4, n5, n6, n7⟩ := num_facts hx'
                  rcases ho with ho | ho | ho | ho | ho
                  · have := n3 ho; omega
                  · have := n4 (Or.inl ho); omega
                  · have := n4 (Or.inr ho); omega
                  · unfold numE at hx'
                    split at hx'
                    · cases hx'
                    · split at hx'
                      · cases hx'
                      · rename_i hra; simp [raE, ho, inR] at hra; omega
                  · unfold numE at hx'
                    split at hx'
                    · cases hx'
                    · split at hx'
                      · cases hx'
                      · rename_i hra; simp [raE, ho, inR] at hra; omega
                · have hx' := hn x hx
                  unfold numE at hx'
                  split at hx'
                  · cases hx'
                  · split at hx'
                    · cases hx'
                    · rename_i hra
                      rcases ho with ho | ho <;> (simp [raE, ho, inR] at hra; omega)
                · have hx' := hn x hx
                  obtain ⟨n1, n2, n3, n4, n5, n6, n7⟩ := num_facts hx'
                  refine ⟨n1, n2, n6, n7, fun h14 => ?_⟩
                  unfold numE at hx'
                  split at hx'
                  · cases hx'
                  · split at hx'
                    · cases hx'
                    · split at hx'
                      · cases hx'
                      · rename_i hr
                        have hrn : rnB x = true := by
                          cases hb : rnB x with
                          | true => rfl
                          | false => exact absurd (Or.inl hb) hr
                        unfold rnB at hrn
                        rw [if_neg h14] at hrn
                        exact hrn
  · obtain ⟨h1, h2, h3⟩ := meth_prim h hm hp0
    refine ⟨by omega, by omega, by rw [h3]; simp, fun x hx => (by rw [h3] at hx; cases hx), fun x hx => (by rw [h3] at hx; cases hx), fun x hx => (by rw [h3] at hx; cases hx)⟩
theorem methOf_at {xs : List QC} {k : Int} {name : ByteArray} {m : QM} (h : methOf xs k name = some m) : methAt xs (findE xs k name).1 (findE xs k name).2 = some m := by
  unfold methOf at h
  split at h
  · cases h
  · rename_i h2
    unfold methAt clsAt
    rcases find_cases xs k name with ⟨-, h3⟩ | ⟨q, x, t, y, he, hx, hm⟩
    · exact absurd h3 h2
    · rw [he] at h ⊢
      simp [hx, hm] at h ⊢
      exact h
theorem stands_small {X : QW} (h : rightE X = 0) {sites : List Int} {at' : Nat} {x : QI} {m : QM} (hs : standsIn X.classes sites at' x = some m) : Sml m ∧ m.args = x.a ∧ leafE m = true ∧ x.op = 14 := by
  unfold standsIn at hs
  split at hs
  · rename_i ho
    split at hs
    · cases hs
    · rename_i m' hm
      split at hs
      · rename_i hc
        cases hs
        exact ⟨meth_small h (methOf_at hm), hc.1, hc.2, ho.1⟩
      · cases hs
  · cases hs
/-- Code that is built stays small. -/
theorem build_small {X : QW} (h : rightE X = 0) {sites : List Int} {m : QM} (hm : Sml m) : ∀ {k : Nat}, k ≤ m.code.length → (buildB X.classes sites m k).code.length + (m.code.length - k) ≤ 240 ∧ 0 ≤ (buildB X.classes sites m k).temps ∧ (buildB X.classes sites m k).temps ≤ 40 ∧ (buildB X.classes sites m k).pieces ≤ k
  | 0, _ => by have := hm.len; have := hm.temps; exact ⟨by simp [buildB]; omega, by simp [buildB]; omega, by simp [buildB]; omega, Nat.le_refl _⟩
  | k + 1, hk => by
    obtain ⟨i1, i2, i3, i4⟩ := build_small h hm (sites := sites) (k := k) (by omega)
    rw [buildB_succ (List.getElem?_eq_getElem (by omega))]
    generalize buildB X.classes sites m k = s at *
    generalize m.code[k] = x
    unfold stepB whoE
    cases hst : standsIn X.classes sites k x with
    | none => simp only [List.length_append, List.length_cons, List.length_nil]; omega
    | some leaf =>
      obtain ⟨hsm, -⟩ := stands_small h hst
      by_cases hr : roomE s.code.length s.temps leaf ((m.code.length : Int) - k) = true
      · simp only [hr, if_true, List.length_append, pieceE_len]
        unfold roomE at hr
        have hr' := of_decide_eq_true hr
        have := hsm.args
        have := hsm.temps
        omega
      · simp only [hr, if_false, List.length_append, List.length_cons, List.length_nil]
        simp
        omega
end Go.Proofs.Ytlekfiglefopgaa

/- Inline: what Method's loop holds in memory. -/
namespace Go.Proofs.Ytlekfiglefopgaa
open Go.ChangeShapes Go.WideShapes Go.ChangeAt Go.RowKit
set_option linter.unusedSimpArgs false
set_option linter.unusedVariables false
set_option maxRecDepth 8000

structure MtL (Z : World) (bm : Nat) (m : QM) (kv : Value) (c ep tm : Int) (code : List QI) (bl : List Int) (a : Option Addr) (cap : Nat) (wr : World) : Prop where
  os : wr.os = Z.os
  tape : wr.tape = Z.tape
  output : wr.output = Z.output
  sz : bm + 3 ≤ wr.heap.size
  fix : ∀ b, b < bm → wr.heap[b]? = Z.heap[b]?
  mb : wr.heap[bm]? = some (.cells #[.string m.name, .int .i64 m.args, .int .i64 m.temps, .int .i64 m.prim, kv] 44 (0, 0))
  fb : wr.heap[bm + 1]? = some (.cells #[.int .i64 c, .string m.name, .int .i64 ep, .int .i64 tm, .slice a code.length cap] 35 (0, 0))
  gb : wr.heap[bm + 2]? = some (.cells (bl.map (Value.int .i64)).toArray 3 (0, 0))
  own : OwnI wr (bm + 3) a cap code
section
variable {Z : World} {bm : Nat} {m : QM} {kv : Value} {c ep tm : Int} {code : List QI} {bl : List Int} {a : Option Addr} {cap : Nat} {wr w' : World}
theorem MtL.later (h : MtL Z bm m kv c ep tm code bl a cap wr) (hb : Below wr.heap.size wr w') : MtL Z bm m kv c ep tm code bl a cap w' :=
  ⟨hb.os.trans h.os, hb.tape.trans h.tape, hb.output.trans h.output, Nat.le_trans h.sz hb.size, fun b hb' => (hb.block b (by have := h.sz; omega)).trans (h.fix b hb'), box_later' h.mb hb, box_later' h.fb hb, box_later' h.gb hb, h.own.keep fun g hg => hb.block g (h.own.lt g hg).2⟩
theorem MtL.setG (h : MtL Z bm m kv c ep tm code bl a cap wr) (j : Nat) (t : Int) : MtL Z bm m kv c ep tm code (bl.set j t) a cap (wr.setCell ⟨bm + 2, j, none⟩ (.int .i64 t)) := by
  have hd : Below 0 wr (wr.setCell ⟨bm + 2, j, none⟩ (.int .i64 t)) := (Below.refl 0 wr).setCell (Nat.zero_le _) _
  refine ⟨hd.os.trans h.os, hd.tape.trans h.tape, hd.output.trans h.output, by rw [size_setCell]; exact h.sz, fun b hb => by rw [setCell_else (by omega)]; exact h.fix b hb, by rw [setCell_else (by omega)]; exact h.mb, by rw [setCell_else (by omega)]; exact h.fb, ?_, h.own.keep fun g hg => setCell_else (by have := (h.own.lt g hg).1; omega) _⟩
  rw [setCell_same h.gb, List.map_set]
  simp
theorem MtL.setT (h : MtL Z bm m kv c ep tm code bl a cap wr) (t : Int) : MtL Z bm m kv c ep t code bl a cap (wr.setCell ⟨bm + 1, 3, none⟩ (.int .i64 t)) := by
  have hd : Below 0 wr (wr.setCell ⟨bm + 1, 3, none⟩ (.int .i64 t)) := (Below.refl 0 wr).setCell (Nat.zero_le _) _
  refine ⟨hd.os.trans h.os, hd.tape.trans h.tape, hd.output.trans h.output, by rw [size_setCell]; exact h.sz, fun b hb => by rw [setCell_else (by omega)]; exact h.fix b hb, by rw [setCell_else (by omega)]; exact h.mb, ?_, by rw [setCell_else (by omega)]; exact h.gb, h.own.keep fun g hg => setCell_else (by have := (h.own.lt g hg).1; omega) _⟩
  rw [setCell_same h.fb]; rfl
/-- More code. -/
theorem MtL.setC {U : World} {a' : Option Addr} {cap' : Nat} {ys : List QI} (h : MtL Z bm m kv c ep tm code bl a cap U) (r1 : OwnI w' (bm + 3) a' cap' (code ++ ys)) (r3 : Below (bm + 3) U w') : MtL Z bm m kv c ep tm (code ++ ys) bl a' cap' (w'.setCell ⟨bm + 1, 4, none⟩ (.slice a' (code ++ ys).length cap')) := by
  have hd : Below 0 w' (w'.setCell ⟨bm + 1, 4, none⟩ (.slice a' (code ++ ys).length cap')) := (Below.refl 0 w').setCell (Nat.zero_le _) _
  have hs := h.sz
  refine ⟨hd.os.trans (r3.os.trans h.os), hd.tape.trans (r3.tape.trans h.tape), hd.output.trans (r3.output.trans h.output), by rw [size_setCell]; exact Nat.le_trans hs r3.size, fun b hb => by rw [setCell_else (by omega), r3.block b (by omega)]; exact h.fix b hb, by rw [setCell_else (by omega), r3.block _ (by omega)]; exact h.mb, ?_, by rw [setCell_else (by omega), r3.block _ (by omega)]; exact h.gb, r1.keep fun g hg => setCell_else (by have := (r1.lt g hg).1; omega) _⟩
  rw [setCell_same (show w'.heap[bm + 1]? = _ by rw [r3.block _ (by omega)]; exact h.fb)]; rfl
theorem MtL.below {w : World} (h : MtL Z bm m kv c ep tm code bl a cap wr) (hb : Below w.heap.size w Z) (hl : w.heap.size ≤ bm) : Below w.heap.size w wr := ⟨h.os.trans hb.os, h.tape.trans hb.tape, h.output.trans hb.output, by have := h.sz; omega, fun b hb' => (h.fix b (by omega)).trans (hb.block b hb')⟩
theorem MtL.f0 (h : MtL Z bm m kv c ep tm code bl a cap wr) : wr.cell? ⟨bm + 1, 0, none⟩ = some (.int .i64 c) := by rw [cell_of_row _ _ _ _ _ _ h.fb]; rfl
theorem MtL.f1 (h : MtL Z bm m kv c ep tm code bl a cap wr) : wr.cell? ⟨bm + 1, 1, none⟩ = some (.string m.name) := by rw [cell_of_row _ _ _ _ _ _ h.fb]; rfl
theorem MtL.f2 (h : MtL Z bm m kv c ep tm code bl a cap wr) : wr.cell? ⟨bm + 1, 2, none⟩ = some (.int .i64 ep) := by rw [cell_of_row _ _ _ _ _ _ h.fb]; rfl
theorem MtL.f3 (h : MtL Z bm m kv c ep tm code bl a cap wr) : wr.cell? ⟨bm + 1, 3, none⟩ = some (.int .i64 tm) := by rw [cell_of_row _ _ _ _ _ _ h.fb]; rfl
theorem MtL.f4 (h : MtL Z bm m kv c ep tm code bl a cap wr) : wr.cell? ⟨bm + 1, 4, none⟩ = some (.slice a code.length cap) := by rw [cell_of_row _ _ _ _ _ _ h.fb]; rfl
theorem MtL.m4 (h : MtL Z bm m kv c ep tm code bl a cap wr) : wr.cell? ⟨bm, 4, none⟩ = some kv := by rw [cell_of_row _ _ _ _ _ _ h.mb]; rfl
theorem MtL.g (h : MtL Z bm m kv c ep tm code bl a cap wr) {j : Nat} {t : Int} (hj : bl[j]? = some t) : wr.cell? ⟨bm + 2, j, none⟩ = some (.int .i64 t) := by rw [cell_of_row _ _ _ _ _ _ h.gb]; simp [hj]
theorem MtL.ff (h : MtL Z bm m kv c ep tm code bl a cap wr) (o : Nat) : wr.frozen? ⟨bm + 1, o, none⟩ = false := row_free h.fb o
theorem MtL.gf (h : MtL Z bm m kv c ep tm code bl a cap wr) (o : Nat) : wr.frozen? ⟨bm + 2, o, none⟩ = false := row_free h.gb o
theorem MtL.old (h : MtL Z bm m kv c ep tm code bl a cap wr) {b o : Nat} {v : Value} (hb : b < bm) (hv : Z.cell? ⟨b, o, none⟩ = some v) : wr.cell? ⟨b, o, none⟩ = some v := by
  unfold World.cell? at hv ⊢; rw [h.fix b hb]; exact hv
theorem MtL.capOk (h : MtL Z bm m kv c ep tm code bl a cap wr) : code.length ≤ cap ∧ cap ≤ 9223372036854775807 := by
  obtain ⟨a', c', e, h1, h2⟩ := h.own.form
  cases e; unfold maxLen at h2; exact ⟨h1, by omega⟩
end
theorem begins_set {s : List Int} {n j : Nat} {t : Int} (hs : s.length = j) (hj : j < n) : (s ++ List.replicate (n - j) 0).set j t = s ++ [t] ++ List.replicate (n - (j + 1)) 0 := by
  rw [show n - j = (n - (j + 1)) + 1 by omega, List.replicate_succ, List.set_append]
  simp [hs]
/-- What Method leaves. -/
def MtPost (w : World) (r : Fst × Bool) (e : Ending) (w' : World) : Prop :=
  ∃ a cap, e = .returned (.tuple #[FsV r.1 (.slice a r.1.code.length cap), .bool r.2]) ∧ IsCode (fun b => w.heap.size ≤ b ∧ b < w'.heap.size) w' (.slice a r.1.code.length cap) r.1.code ∧ Below w.heap.size w w'
end Go.Proofs.Ytlekfiglefopgaa

/- Inline: Method. -/
namespace Go.Proofs.Ytlekfiglefopgaa
open Go.ChangeShapes Go.WideShapes Go.ChangeAt Go.RowKit
set_option linter.unusedSimpArgs false
set_option linter.unusedVariables false
set_option maxRecDepth 8000

theorem meth_at {xs : List QC} {c n : Int} {mt : QM} (h : methAt xs c n = some mt) : ∃ (kc kn : Nat) (x : QC), c = (kc : Int) ∧ n = (kn : Int) ∧ xs[kc]? = some x ∧ x.methods[kn]? = some mt := by
  unfold methAt at h
  cases hc : clsAt xs c with
  | none => rw [hc] at h; cases h
  | some x =>
    rw [hc] at h
    obtain ⟨k, rfl, hk⟩ := clsAt_some hc
    simp only [Option.bind_some] at h
    split at h
    · exact ⟨k, n.toNat, x, rfl, by omega, hk, h⟩
    · cases h
/-- What Method's rounds keep. -/
def MtR (X : QW) (sites : List Int) (Z : World) (bm : Nat) (m : QM) (kv : Value) (c : Int) (gk : Nat) (pv iv : Value) (wr : World) : Prop :=
  ∃ (j : Nat) (a : Option Addr) (cap : Nat), j + gk = m.code.length ∧ iv = .int .i64 (j : Int) ∧ pv = .int .i64 ((buildB X.classes sites m j).pieces : Int) ∧ MtL Z bm m kv c X.epoch (buildB X.classes sites m j).temps (buildB X.classes sites m j).code ((buildB X.classes sites m j).begins ++ List.replicate (m.code.length - j) 0) a cap wr
theorem mt_stay {X : QW} {sites : List Int} {Z : World} {bm : Nat} {m : QM} {kv : Value} {c : Int} {j : Nat} {x : QI} (hx : m.code[j]? = some x) (hw : whoE X.classes sites m.code.length (buildB X.classes sites m j).code.length (buildB X.classes sites m j).temps j x = none) {a' : Option Addr} {cap' : Nat} {W : World}
    (h : MtL Z bm m kv c X.epoch (buildB X.classes sites m j).temps ((buildB X.classes sites m j).code ++ [stayE x (j : Int)]) (((buildB X.classes sites m j).begins ++ List.replicate (m.code.length - j) 0).set j ((buildB X.classes sites m j).code.length : Int)) a' cap' W) : MtR X sites Z bm m kv c (m.code.length - (j + 1)) (.int .i64 ((buildB X.classes sites m j).pieces : Int)) (.int .i64 ((j : Int) + 1)) W := by
  have hj := lt_of_get hx
  refine ⟨j + 1, a', cap', by omega, by go_num, ?_, ?_⟩
  · rw [buildB_succ hx]; unfold stepB; rw [hw]
  · rw [begins_set (build_begins (by omega)) hj] at h
    rw [buildB_succ hx]; unfold stepB; rw [hw]
    exact h
theorem mt_piece {X : QW} {sites : List Int} {Z : World} {bm : Nat} {m : QM} {kv : Value} {c : Int} {j : Nat} {x : QI} {leaf : QM} (hx : m.code[j]? = some x) (hw : whoE X.classes sites m.code.length (buildB X.classes sites m j).code.length (buildB X.classes sites m j).temps j x = some leaf) {a' : Option Addr} {cap' : Nat} {W : World}
    (h : MtL Z bm m kv c X.epoch ((buildB X.classes sites m j).temps + 1 + leaf.args + leaf.temps) ((buildB X.classes sites m j).code ++ pieceE leaf (ins 18 (sites.getD j (-1)) leaf.args j) (buildB X.classes sites m j).temps (buildB X.classes sites m j).code.length) (((buildB X.classes sites m j).begins ++ List.replicate (m.code.length - j) 0).set j ((buildB X.classes sites m j).code.length : Int)) a' cap' W) : MtR X sites Z bm m kv c (m.code.length - (j + 1)) (.int .i64 ((buildB X.classes sites m j).pieces + 1 : Int)) (.int .i64 ((j : Int) + 1)) W := by
  have hj := lt_of_get hx
  refine ⟨j + 1, a', cap', by omega, by go_num, ?_, ?_⟩
  · rw [buildB_succ hx]; unfold stepB; rw [hw]; rfl
  · rw [begins_set (build_begins (by omega)) hj] at h
    rw [buildB_succ hx]; unfold stepB; rw [hw]
    exact h
/-- The boxes of Method. -/
structure RbX (w : World) (cv hv : Value) (ep : Int) (w' : World) : Prop where
  w0 : w'.cell? ⟨w.heap.size, 0, none⟩ = some cv
  w1 : w'.cell? ⟨w.heap.size, 1, none⟩ = some hv
  w2 : w'.cell? ⟨w.heap.size, 2, none⟩ = some (.int .i64 ep)
  z0 : w'.cell? ⟨w.heap.size + 1, 0, none⟩ = some (.int .i64 0)
  z1 : w'.cell? ⟨w.heap.size + 1, 1, none⟩ = some (.string ⟨#[]⟩)
  z2 : w'.cell? ⟨w.heap.size + 1, 2, none⟩ = some (.int .i64 0)
  z3 : w'.cell? ⟨w.heap.size + 1, 3, none⟩ = some (.int .i64 0)
  z4 : w'.cell? ⟨w.heap.size + 1, 4, none⟩ = some (.slice none 0 0)
  zf : ∀ o, w'.frozen? ⟨w.heap.size + 1, o, none⟩ = false
  sz : w.heap.size + 2 ≤ w'.heap.size
theorem RbX.later {w : World} {cv hv : Value} {ep : Int} {w' w'' : World} (h : RbX w cv hv ep w') (hb : Below w'.heap.size w' w'') : RbX w cv hv ep w'' :=
  ⟨cell_later hb h.w0, cell_later hb h.w1, cell_later hb h.w2, cell_later hb h.z0, cell_later hb h.z1, cell_later hb h.z2, cell_later hb h.z3, cell_later hb h.z4, fun o => (hb.frozen (p := ⟨w.heap.size + 1, o, none⟩) (by have := h.sz; simp only; omega)).trans (h.zf o), Nat.le_trans h.sz hb.size⟩
theorem rbx_new (w : World) (cv hv : Value) (ep : Int) : RbX w cv hv ep ((w.alloc (.cells #[cv, hv, .int .i64 ep] 25)).alloc (.cells #[.int .i64 0, .string ⟨#[]⟩, .int .i64 0, .int .i64 0, .slice none 0 0] 35)) := by
  have e1 : (w.alloc (.cells #[cv, hv, .int .i64 ep] 25)).heap.size = w.heap.size + 1 := by simp
  exact ⟨cell_later (bel1 _ _) (cell_new w #[cv, hv, .int .i64 ep] 25 _ rfl 0), cell_later (bel1 _ _) (cell_new w #[cv, hv, .int .i64 ep] 25 _ rfl 1), cell_later (bel1 _ _) (cell_new w #[cv, hv, .int .i64 ep] 25 _ rfl 2), cell_new _ _ _ _ e1 0, cell_new _ _ _ _ e1 1, cell_new _ _ _ _ e1 2, cell_new _ _ _ _ e1 3, cell_new _ _ _ _ e1 4, row_free (cur := #[.int .i64 0, .string ⟨#[]⟩, .int .i64 0, .int .i64 0, .slice none 0 0]) (t := 35) (by rw [← e1]; exact heap_alloc_new _ _), by simp⟩
theorem mtL_new (w1 : World) (m : QM) (kv : Value) (c ep tm : Int) (n : Nat) (_ : Unit) : MtL (((w1.alloc (.cells #[.string m.name, .int .i64 m.args, .int .i64 m.temps, .int .i64 m.prim, kv] 44)).alloc (.cells #[.int .i64 c, .string m.name, .int .i64 ep, .int .i64 tm, .slice none 0 0] 35)).alloc (hRow (List.replicate n 0))) w1.heap.size m kv c ep tm [] (List.replicate n 0) none 0 (((w1.alloc (.cells #[.string m.name, .int .i64 m.args, .int .i64 m.temps, .int .i64 m.prim, kv] 44)).alloc (.cells #[.int .i64 c, .string m.name, .int .i64 ep, .int .i64 tm, .slice none 0 0] 35)).alloc (hRow (List.replicate n 0))) := by
  have e1 : (w1.alloc (.cells #[.string m.name, .int .i64 m.args, .int .i64 m.temps, .int .i64 m.prim, kv] 44)).heap.size = w1.heap.size + 1 := by simp
  have e2 : ((w1.alloc (.cells #[.string m.name, .int .i64 m.args, .int .i64 m.temps, .int .i64 m.prim, kv] 44)).alloc (.cells #[.int .i64 c, .string m.name, .int .i64 ep, .int .i64 tm, .slice none 0 0] 35)).heap.size = w1.heap.size + 2 := by simp
  refine ⟨rfl, rfl, rfl, by simp, fun _ _ => rfl, box_later' (heap_alloc_new w1 _) (bel2 _ _ _), box_later' (by rw [← e1]; exact heap_alloc_new _ _) (bel1 _ _), by rw [← e2]; exact heap_alloc_new _ _, ⟨rfl, Or.inl ⟨rfl, rfl⟩⟩⟩
theorem mt_fin {w U : World} {r : Fst × Bool} {a : Option Addr} {cap : Nat} (hb : Below w.heap.size w U) (hco : IsCode (fun b => w.heap.size + 2 ≤ b ∧ b < U.heap.size) U (.slice a r.1.code.length cap) r.1.code) : MtPost w r (.returned (.tuple #[FsV r.1 (.slice a r.1.code.length cap), .bool r.2])) (set5 U (w.heap.size + 1) (.int .i64 r.1.cls) (.string r.1.name) (.int .i64 r.1.epoch) (.int .i64 r.1.temps) (.slice a r.1.code.length cap)) := by
  refine ⟨a, cap, rfl, hco.keep goodI (Keeps.of_block fun b hb _ => blk5 (by omega)) fun b h => ⟨by omega, ?_⟩, bel5 hb (by omega)⟩
  simp only [size_setCell]; exact h.2
theorem mt_none {w U : World} (hb : Below w.heap.size w U) : MtPost w (noFast, false) (.returned (.tuple #[FsV noFast (.slice none 0 0), .bool false])) (set5 U (w.heap.size + 1) (.int .i64 0) (.string ⟨#[]⟩) (.int .i64 0) (.int .i64 0) (.slice none 0 0)) := mt_fin (r := (noFast, false)) (a := none) (cap := 0) hb row_none
theorem build_pieces {xs : List QC} {sites : List Int} {m : QM} : ∀ k : Nat, (buildB xs sites m k).pieces ≤ (buildB xs sites m k).code.length
  | 0 => Nat.le_refl _
  | k + 1 => by
    have ih := build_pieces (xs := xs) (sites := sites) (m := m) k
    unfold buildB
    split
    · exact ih
    · generalize buildB xs sites m k = s at *
      unfold stepB
      split
      · simp; omega
      · simp [pieceE_len]; omega
theorem build_in {xs : List QC} {sites : List Int} {m : QM} : ∀ k : Nat, ∀ b ∈ (buildB xs sites m k).begins, 0 ≤ b ∧ b < ((buildB xs sites m k).code.length : Int)
  | 0, b, hb => by simp [buildB] at hb
  | k + 1, b, hb => by
    have ih := build_in (xs := xs) (sites := sites) (m := m) k
    unfold buildB at hb ⊢
    split at hb
    · exact ih b hb
    · rename_i x h
      generalize buildB xs sites m k = s at *
      rw [step_begins] at hb
      have hl : s.code.length < (stepB xs sites m.code.length s k x).code.length := by
        unfold stepB
        split
        · simp
        · simp [pieceE_len]; omega
      rcases List.mem_append.1 hb with h' | h'
      · have := ih b h'; omega
      · simp at h'; omega
theorem nm_of {P : Nat → Prop} {w : World} {cv : Value} {xs : List QC} (hC : IsClasses P w cv xs) {c n : Int} {m : QM} (hm : methAt xs c n = some m) : NmOk m.code := by
  obtain ⟨q, t, x, rfl, rfl, hx, ht⟩ := meth_at hm
  obtain ⟨ac, cc, rfl, -, -, -, hrow⟩ := hC
  obtain ⟨b, o, -, -, -, -, -, -, mv, -, hms⟩ := hrow q x hx
  obtain ⟨am, cm, rfl, -, -, -, hrm⟩ := hms
  obtain ⟨b2, o2, -, -, -, -, -, -, -, kv, -, hco⟩ := hrm t m ht
  obtain ⟨ak, ck, rfl, -, -, -, hrk⟩ := hco
  intro y hy
  obtain ⟨i, hi, rfl⟩ := List.mem_iff_getElem.1 hy
  obtain ⟨b3, o3, -, -, -, -, -, -, -, hsz⟩ := hrk i m.code[i] (by simp)
  exact hsz
theorem nm0 : (⟨#[]⟩ : ByteArray).size ≤ 140737488351232 := by decide
theorem ins_nm (l : List QI) (h : ∀ x ∈ l, x.name = ⟨#[]⟩) : NmOk l := fun x hx => by rw [h x hx]; exact nm0
theorem piece_nm {leaf : QM} (h : NmOk leaf.code) (g : QI) (hg : g.name.size ≤ 140737488351232) (self n : Int) : NmOk (pieceE leaf g self n) := by
  have hs : ∀ (a : Int) (k : Nat), NmOk (setsE a k) := by
    intro a k
    induction k with
    | zero => exact ins_nm _ fun x hx => by simp [setsE] at hx
    | succ k ih =>
      intro x hx
      simp only [setsE, List.mem_cons] at hx
      rcases hx with rfl | hx
      · exact nm0
      · exact ih x hx
  have hn : ∀ (a : Int) (k : Nat), NmOk (nilsE a k) := by
    intro a k
    induction k with
    | zero => exact ins_nm _ fun x hx => by simp [nilsE] at hx
    | succ k ih =>
      rw [nilsE_succ]
      refine ih.append (ins_nm _ fun x hx => ?_)
      simp only [List.mem_cons, List.not_mem_nil, or_false] at hx
      rcases hx with rfl | rfl <;> rfl
  unfold pieceE headE
  refine ((((?_ : NmOk _).append (hs _ _)).append ?_).append (hn _ _)).append ?_
  · intro x hx
    simp only [List.mem_cons, List.not_mem_nil, or_false] at hx
    rcases hx with rfl | rfl
    · exact hg
    · exact nm0
  · intro x hx
    simp only [List.mem_cons, List.not_mem_nil, or_false] at hx
    subst hx
    exact nm0
  · intro x hx
    obtain ⟨y, hy, rfl⟩ := List.mem_map.1 hx
    unfold standE
    repeat' split
    all_goals first | exact nm0 | exact h y hy
theorem build_nm {P : Nat → Prop} {w : World} {cv : Value} {xs : List QC} (hC : IsClasses P w cv xs) {sites : List Int} {m : QM} (hm : NmOk m.code) : ∀ k : Nat, NmOk (buildB xs sites m k).code
  | 0 => fun x hx => by simp [buildB] at hx
  | k + 1 => by
    have ih := build_nm hC (sites := sites) hm k
    unfold buildB
    split
    · exact ih
    · rename_i x hx
      generalize buildB xs sites m k = s at *
      unfold stepB
      split
      · refine ih.append fun y hy => ?_
        simp at hy
        subst hy
        have := hm x (List.mem_of_getElem? hx)
        unfold stayE
        split <;> exact this
      · rename_i leaf hw
        refine ih.append (piece_nm ?_ _ nm0 _ _)
        unfold whoE at hw
        split at hw
        · cases hw
        · rename_i lf hst
          split at hw
          · cases hw
            unfold standsIn at hst
            split at hst
            · split at hst
              · cases hst
              · rename_i m' hm'
                split at hst
                · cases hst; exact nm_of hC (methOf_at hm')
                · cases hst
            · cases hst
          · cases hw
theorem led_nm {begins : List Int} {plain code : List QI} (h : NmOk code) : ∀ k, NmOk (ledE begins plain code k)
  | 0 => h
  | k + 1 => by
    have ih := led_nm (begins := begins) (plain := plain) h k
    unfold ledE
    split
    · split
      · intro x hx
        obtain ⟨i, hi⟩ := List.mem_iff_getElem?.1 hx
        rw [List.getElem?_modify] at hi
        cases hc : (ledE begins plain code k)[i]? with
        | none => rw [hc] at hi; simp at hi
        | some y =>
          rw [hc] at hi
          have := ih y (List.mem_of_getElem? hc)
          simp at hi
          split at hi <;> (rw [← hi]; exact this)
      · exact ih
    · exact ih
theorem ownI_src {w : World} {B cap : Nat} {ad : Addr} {code : List QI} (h : OwnI w B (some ad) cap code) : ∀ j u, (icells code)[j]? = some u → w.cell? (ad.add j) = some u := by
  obtain ⟨h1, h2 | ⟨g, o, c, cur, e, h3, h4, h5, h6, h7, h8⟩⟩ := h
  · cases h2.1
  · cases e
    intro j u hu
    rw [← h8, List.getElem?_take] at hu
    split at hu
    · rw [List.getElem?_drop] at hu
      rw [Addr.add_lit, cell_of_row _ _ _ _ _ _ h4]
      simpa using hu
    · cases hu
set_option maxHeartbeats 8000000 in
theorem methodC_any {P Q : Nat → Prop} (X : QW) (hX : rightE X = 0) (c k : Int) (m : QM) (hm : methAt X.classes c k = some m) (sites : List Int) (cv hv sv : Value) (w : World) (hC : IsClasses P w cv X.classes) (hH : IsHeap P w hv X.heap) (hS : IsInts Q w sv sites) :
    Calls Try.prog 14 #[WV cv hv X.epoch, .int .i64 c, .int .i64 k, sv] w fun e w' => MtPost w (fastM X c m sites) e w' := by
  obtain ⟨ac, cc, rfl, -, hcc, -, hrowC⟩ := id (bound_classes hC)
  obtain ⟨ah, ch, rfl, -⟩ := id hH
  obtain ⟨asv, cs, rfl, hls, hcs, -, hrowS⟩ := id hS
  unfold maxLen at hcs hcc
  have hSm := meth_small hX hm
  obtain ⟨qc, tc, xc, rfl, rfl, hxc, hmt⟩ := meth_at hm
  obtain ⟨b1, o1, hb1e, -, -, -, -, -, mv, u3, hms⟩ := hrowC qc xc hxc
  obtain ⟨am, cm, rfl, hlm, hcm, -, hrm⟩ := hms
  obtain ⟨b2, o2, rfl, -, v0, v1, v2, v3, -, kv, v4, hco⟩ := hrm tc m hmt
  obtain ⟨ak, ck, rfl, hlk, hck, -, hrowK⟩ := id hco
  subst hb1e
  simp only [Nat.add_zero] at v0
  unfold maxLen at hcm hck
  have hq := lt_of_get hxc
  have ht := lt_of_get hmt
  have hq1 : (qc : Int) < (X.classes.length : Int) := by omega
  have hq0 : (0 : Int) ≤ (qc : Int) := by omega
  have ht1 : (tc : Int) < (xc.methods.length : Int) := by omega
  have ht0 : (0 : Int) ≤ (tc : Int) := by omega
  have hmk := make_ints m.code.length (by have := hSm.len; omega)
  have hbW := bel2 w (.cells #[.slice (some ⟨b1, o1, none⟩) X.classes.length cc, .slice ah X.heap.length ch, .int .i64 X.epoch] 25) (.cells #[.int .i64 0, .string ⟨#[]⟩, .int .i64 0, .int .i64 0, .slice none 0 0] 35)
  go_enter Try.func14, Try.ntmps14
  go_wp2_with fail
  refine (ihas_any X (qc : Int) (tc : Int) _ _ _ (hC.later goodC hbW) (hH.later goodO hbW)).mono ?_
  rintro e w1 ⟨rfl, hb1⟩
  rw [show methQ X.classes (qc : Int) (tc : Int) = some m from hm]
  dsimp only
  have hB1 := nstep hbW hb1
  have zz := rbx_new w (.slice (some ⟨b1, o1, none⟩) X.classes.length cc) (.slice ah X.heap.length ch) X.epoch
  replace zz := zz.later hb1
  have zw := zz
  replace u3 := cell_later hB1 u3
  replace v0 := cell_later hB1 v0
  replace v1 := cell_later hB1 v1
  replace v2 := cell_later hB1 v2
  replace v3 := cell_later hB1 v3
  replace v4 := cell_later hB1 v4
  obtain ⟨k0, k1, k2, -, -, -, -, -, -, hzz⟩ := id zz
  have kk2 := cell_later (bel1 w1 (.cells #[.string m.name, .int .i64 m.args, .int .i64 m.temps, .int .i64 m.prim, .slice ak m.code.length ck] 44)) k2
  have hbZ : Below w1.heap.size w1 (((w1.alloc (.cells #[.string m.name, .int .i64 m.args, .int .i64 m.temps, .int .i64 m.prim, .slice ak m.code.length ck] 44)).alloc (.cells #[.int .i64 (qc : Int), .string m.name, .int .i64 X.epoch, .int .i64 m.temps, .slice none 0 0] 35)).alloc (hRow (List.replicate m.code.length 0))) := bel3 _ _ _ _
  have hL0 : MtL (((w1.alloc (.cells #[.string m.name, .int .i64 m.args, .int .i64 m.temps, .int .i64 m.prim, .slice ak m.code.length ck] 44)).alloc (.cells #[.int .i64 (qc : Int), .string m.name, .int .i64 X.epoch, .int .i64 m.temps, .slice none 0 0] 35)).alloc (hRow (List.replicate m.code.length 0))) w1.heap.size m (.slice ak m.code.length ck) (qc : Int) X.epoch m.temps [] (List.replicate m.code.length 0) none 0 (((w1.alloc (.cells #[.string m.name, .int .i64 m.args, .int .i64 m.temps, .int .i64 m.prim, .slice ak m.code.length ck] 44)).alloc (.cells #[.int .i64 (qc : Int), .string m.name, .int .i64 X.epoch, .int .i64 m.temps, .slice none 0 0] 35)).alloc (hRow (List.replicate m.code.length 0))) := mtL_new w1 m (.slice ak m.code.length ck) (qc : Int) X.epoch m.temps m.code.length ()
  go_upto_region 6 with (fail)
  clear hmk k0 k1 k2 kk2 u3 v0 v1 v2 v3 v4 hrowC hrm
  simp only [Nat.add_assoc, Nat.reduceAdd]
  generalize hZ : (((w1.alloc (.cells #[.string m.name, .int .i64 m.args, .int .i64 m.temps, .int .i64 m.prim, .slice ak m.code.length ck] 44)).alloc (.cells #[.int .i64 (qc : Int), .string m.name, .int .i64 X.epoch, .int .i64 m.temps, .slice none 0 0] 35)).alloc (hRow (List.replicate m.code.length 0))) = Z at *
  have hzZ := zz.later hbZ
  have hBZ := nstep hB1 hbZ
  have hwb : w.heap.size + 2 ≤ w1.heap.size := zz.sz
  clear hZ hbZ hbW hb1 hB1 zz zw
  generalize w1.heap.size = bm at *
  have hn60 := hSm.len
  have m4 := hL0.m4
  go_wp2
  clear m4
  go_loopg [13, 49] m.code.length (fun gk pv iv wr => MtR X sites Z bm m (.slice ak m.code.length ck) (qc : Int) gk pv iv wr)
  case atStart => exact ⟨0, none, 0, by omega, rfl, rfl, by simpa [buildB] using hL0⟩
  case round =>
    clear hL0
    obtain ⟨j, a, cap, hj, rfl, rfl, hL⟩ := hrel
    by_cases hlt : j < m.code.length
    · have hxj : m.code[j]? = some m.code[j] := by simp [hlt]
      obtain ⟨bk, ok, hke, hbk, u0, u1, u2, u3, u4, -⟩ := hrowK j _ hxj
      subst hke
      generalize m.code[j] = x at *
      have HXJ := hid hxj
      obtain ⟨i1, i2, i3, i4⟩ := build_small hX hSm (sites := sites) (k := j) (by omega)
      have HBG := hid (build_begins (xs := X.classes) (sites := sites) (m := m) (k := j) (by omega))
      have HST := hid (fun (hw : whoE X.classes sites m.code.length (buildB X.classes sites m j).code.length (buildB X.classes sites m j).temps j x = none) {a' : Option Addr} {cap' : Nat} {W : World} h => mt_stay (Z := Z) (bm := bm) (kv := .slice (some ⟨bk, ok, none⟩) m.code.length ck) (c := (qc : Int)) (a' := a') (cap' := cap') (W := W) hxj hw h)
      have HPC := hid (fun (leaf : QM) (hw : whoE X.classes sites m.code.length (buildB X.classes sites m j).code.length (buildB X.classes sites m j).temps j x = some leaf) {a' : Option Addr} {cap' : Nat} {W : World} h => mt_piece (Z := Z) (bm := bm) (kv := .slice (some ⟨bk, ok, none⟩) m.code.length ck) (c := (qc : Int)) (a' := a') (cap' := cap') (W := W) hxj hw h)
      have HWH : Hid (∀ st, standsIn X.classes sites j x = st → whoE X.classes sites m.code.length (buildB X.classes sites m j).code.length (buildB X.classes sites m j).temps j x = match st with | none => none | some leaf => if roomE (buildB X.classes sites m j).code.length (buildB X.classes sites m j).temps leaf ((m.code.length : Int) - j) = true then some leaf else none) := fun st h => by subst h; rfl
      generalize buildB X.classes sites m j = s at *
      clear hxj hrowK
      simp only [Nat.add_zero] at u0
      replace u0 := hL.old (by omega) (cell_later hBZ u0)
      replace u1 := hL.old (by omega) (cell_later hBZ u1)
      replace u2 := hL.old (by omega) (cell_later hBZ u2)
      replace u3 := hL.old (by omega) (cell_later hBZ u3)
      replace u4 := hL.old (by omega) (cell_later hBZ u4)
      have hszr := hL.sz
      have hj1 : (j : Int) < (m.code.length : Int) := by omega
      have hj0 : (0 : Int) ≤ (j : Int) := by omega
      have hbx := bel1 wr (.cells #[.int .i64 x.op, .int .i64 x.a, .int .i64 x.b, .int .i64 x.c, .string x.name] 69)
      have hLa := hL.later hbx
      have f4 := hLa.f4
      have hg0 : (s.begins ++ List.replicate (m.code.length - j) 0)[j]? = some 0 := by rw [List.getElem?_append_right (by have := HBG.out; omega), HBG.out, Nat.sub_self, List.getElem?_replicate, if_pos (by omega)]
      have gc := hLa.g hg0
      have gf := hLa.gf
      have hL1 := hLa.setG j (s.code.length : Int)
      have xbox : (wr.alloc (.cells #[.int .i64 x.op, .int .i64 x.a, .int .i64 x.b, .int .i64 x.c, .string x.name] 69)).heap[wr.heap.size]? = some (.cells #[.int .i64 x.op, .int .i64 x.a, .int .i64 x.b, .int .i64 x.c, .string x.name] 69 (0, 0)) := heap_alloc_new _ _
      have xbox1 : ((wr.alloc (.cells #[.int .i64 x.op, .int .i64 x.a, .int .i64 x.b, .int .i64 x.c, .string x.name] 69)).setCell ⟨bm + 2, j, none⟩ (.int .i64 (s.code.length : Int))).heap[wr.heap.size]? = some (.cells #[.int .i64 x.op, .int .i64 x.a, .int .i64 x.b, .int .i64 x.c, .string x.name] 69 (0, 0)) := by rw [setCell_else (by omega)]; exact xbox
      have HBX : Hid (some wr.heap.size ≠ (Value.slice a s.code.length cap).ownBlock) := fun e => by have := (hL.own.lt _ e.symm).2; omega
      have HCAP := hid hL.capOk
      clear hL hLa hbx xbox
      go_upto_region 11 with (fail)
      generalize ((wr.alloc (.cells #[.int .i64 x.op, .int .i64 x.a, .int .i64 x.b, .int .i64 x.c, .string x.name] 69)).setCell ⟨bm + 2, j, none⟩ (.int .i64 (s.code.length : Int))) = V0 at *
      generalize wr.heap.size = bx at *
      clear f4 gc gf u0 u1 u2 u3 u4
      have k0 := hL1.old (by omega) hzZ.w0
      have k1 := hL1.old (by omega) hzZ.w1
      have k2 := hL1.old (by omega) hzZ.w2
      have y0 : V0.cell? ⟨bx, 0, none⟩ = some (.int .i64 x.op) := by rw [cell_of_row _ _ _ _ _ _ xbox1]; rfl
      have y1 : V0.cell? ⟨bx, 1, none⟩ = some (.int .i64 x.a) := by rw [cell_of_row _ _ _ _ _ _ xbox1]; rfl
      have y2 : V0.cell? ⟨bx, 2, none⟩ = some (.int .i64 x.b) := by rw [cell_of_row _ _ _ _ _ _ xbox1]; rfl
      have y3 : V0.cell? ⟨bx, 3, none⟩ = some (.int .i64 x.c) := by rw [cell_of_row _ _ _ _ _ _ xbox1]; rfl
      have y4 : V0.cell? ⟨bx, 4, none⟩ = some (.string x.name) := by rw [cell_of_row _ _ _ _ _ _ xbox1]; rfl
      have hBV0 := hL1.below hBZ (by omega)
      go_wp2_with fail
      refine (leafAt_any X sites j x _ _ _ V0 (hC.later goodC hBV0) (hH.later goodO hBV0) (hS.later goodN hBV0)).mono ?_
      rintro e w3 ⟨leaf, al, cl, rfl, hlf, hlc, hb3⟩
      dsimp only
      have hbL := bel1 w3 (.cells #[.string leaf.name, .int .i64 leaf.args, .int .i64 leaf.temps, .int .i64 leaf.prim, .slice al leaf.code.length cl] 44)
      have hb0V := nstep hb3 hbL
      have hL := hL1.later hb0V
      have hlc' := hlc.later goodI hbL
      have lbox : (w3.alloc (.cells #[.string leaf.name, .int .i64 leaf.args, .int .i64 leaf.temps, .int .i64 leaf.prim, .slice al leaf.code.length cl] 44)).heap[w3.heap.size]? = some (.cells #[.string leaf.name, .int .i64 leaf.args, .int .i64 leaf.temps, .int .i64 leaf.prim, .slice al leaf.code.length cl] 44 (0, 0)) := heap_alloc_new _ _
      have xboxV := box_later' xbox1 hb0V
      have HBLw : Hid (V0.heap.size ≤ w3.heap.size) := hb3.size
      have hblm : bm + 3 ≤ w3.heap.size := by have := hL1.sz; have := hb3.size; omega
      have HV0 := hid hL1.own
      clear k0 k1 k2 y0 y1 y2 y3 y4 xbox1 hlc hL1 hBV0
      go_upto_region 12 with (fail)
      generalize (w3.alloc (.cells #[.string leaf.name, .int .i64 leaf.args, .int .i64 leaf.temps, .int .i64 leaf.prim, .slice al leaf.code.length cl] 44)) = V at *
      generalize hblw : w3.heap.size = bl at *
      have HBL : Hid (some bl ≠ (Value.slice a s.code.length cap).ownBlock) := fun e => by have := (HV0.out.lt _ e.symm).2; have := HBLw.out; omega
      have xb0 : V.cell? ⟨bx, 0, none⟩ = some (.int .i64 x.op) := by rw [cell_of_row _ _ _ _ _ _ xboxV]; rfl
      have xb1 : V.cell? ⟨bx, 1, none⟩ = some (.int .i64 x.a) := by rw [cell_of_row _ _ _ _ _ _ xboxV]; rfl
      have xb2 : V.cell? ⟨bx, 2, none⟩ = some (.int .i64 x.b) := by rw [cell_of_row _ _ _ _ _ _ xboxV]; rfl
      have xb3 : V.cell? ⟨bx, 3, none⟩ = some (.int .i64 x.c) := by rw [cell_of_row _ _ _ _ _ _ xboxV]; rfl
      have xb4 : V.cell? ⟨bx, 4, none⟩ = some (.string x.name) := by rw [cell_of_row _ _ _ _ _ _ xboxV]; rfl
      have hszV := hL.sz
      obtain ⟨hcp1, hcp2⟩ := HCAP.out
      cases hst : standsIn X.classes sites j x with
      | none =>
          have HSTAY : Hid (∀ y, stayE x (j : Int) = y → ∀ a' cap' W, MtL Z bm m (.slice (some ⟨bk, ok, none⟩) m.code.length ck) (qc : Int) X.epoch s.temps (s.code ++ [y]) ((s.begins ++ List.replicate (m.code.length - j) 0).set j (s.code.length : Int)) a' cap' W → MtR X sites Z bm m (.slice (some ⟨bk, ok, none⟩) m.code.length ck) (qc : Int) (m.code.length - (j + 1)) (.int .i64 (s.pieces : Int)) (.int .i64 ((j : Int) + 1)) W) := fun y hy a' cap' W h => by subst hy; exact HST.out (HWH.out _ hst) h
          simp only [Option.isSome]
          clear hst hlf
          go_upto_region 13 with (fail)
          have hSl : ∀ w', Below V.heap.size V w' → w'.cell? ⟨bm + 1, 4, none⟩ = some (.slice a s.code.length cap) ∧ w'.cell? ⟨bx, 0, none⟩ = some (.int .i64 x.op) ∧ w'.cell? ⟨bx, 1, none⟩ = some (.int .i64 x.a) ∧ w'.cell? ⟨bx, 2, none⟩ = some (.int .i64 x.b) ∧ w'.cell? ⟨bx, 3, none⟩ = some (.int .i64 x.c) ∧ w'.cell? ⟨bx, 4, none⟩ = some (.string x.name) := fun w' hb => ⟨(hL.later hb).f4, cell_later hb xb0, cell_later hb xb1, cell_later hb xb2, cell_later hb xb3, cell_later hb xb4⟩
          have hS0 := hSl _ (Below.refl _ V).drew
          refine wp_region_late (S := fun w' => w'.cell? ⟨bm + 1, 4, none⟩ = some (.slice a s.code.length cap) ∧ w'.cell? ⟨bx, 0, none⟩ = some (.int .i64 x.op) ∧ w'.cell? ⟨bx, 1, none⟩ = some (.int .i64 x.a) ∧ w'.cell? ⟨bx, 2, none⟩ = some (.int .i64 x.b) ∧ w'.cell? ⟨bx, 3, none⟩ = some (.int .i64 x.c) ∧ w'.cell? ⟨bx, 4, none⟩ = some (.string x.name)) [8] (by kernel_rfl) ?_
          refine wpAnyM_take (i := 0) (oi := { dst := some 81, op := Op.fieldAddr 35 (Operand.tmp 11) 4, type := 0, pos := "inline.go:27", after := #[], guard := none }) (v := .pointer (some ⟨bm + 1, 4, none⟩)) (by kernel_rfl) (by kernel_rfl) rfl (by kernel_rfl) (by kernel_rfl) (by kernel_rfl) (fun _ _ _ h => h) (Or.inl ⟨by rfl, ?_⟩) (hS0) ?_
          · intro w hSw
            obtain ⟨q0, q1, q2, q3, q4, q5⟩ := hSw
            go_simp
          try simp only [Act.put, List.setIfInBounds_toArray, List.set_cons_zero, List.set_cons_succ]
          refine wpAnyM_take (i := 1) (oi := { dst := some 82, op := Op.load 33 (Operand.tmp 81), type := 33, pos := "inline.go:27", after := #[{ on := 0, ground := Ground.data }], guard := none }) (v := .slice a s.code.length cap) (by kernel_rfl) (by kernel_rfl) rfl (by kernel_rfl) (by kernel_rfl) (by kernel_rfl) (fun _ _ _ h => h) (Or.inl ⟨by rfl, ?_⟩) (hS0) ?_
          · intro w hSw
            obtain ⟨q0, q1, q2, q3, q4, q5⟩ := hSw
            go_simp
          try simp only [Act.put, List.setIfInBounds_toArray, List.set_cons_zero, List.set_cons_succ]
          refine wpAnyM_take (i := 2) (oi := { dst := some 83, op := Op.load 69 (Operand.tmp 15), type := 69, pos := "inline.go:27", after := #[], guard := none }) (v := IV x) (by kernel_rfl) (by kernel_rfl) rfl (by kernel_rfl) (by kernel_rfl) (by kernel_rfl) (fun _ _ _ h => h) (Or.inl ⟨by rfl, ?_⟩) (hS0) ?_
          · intro w hSw
            obtain ⟨q0, q1, q2, q3, q4, q5⟩ := hSw
            go_simp
          try simp only [Act.put, List.setIfInBounds_toArray, List.set_cons_zero, List.set_cons_succ]
          refine wpAnyM_take (i := 3) (oi := { dst := some 84, op := Op.move (Operand.tmp 14), type := 3, pos := "inline.go:27", after := #[], guard := none }) (v := .int .i64 (j : Int)) (by kernel_rfl) (by kernel_rfl) rfl (by kernel_rfl) (by kernel_rfl) (by kernel_rfl) (fun _ _ _ h => h) (Or.inl ⟨by rfl, ?_⟩) (hS0) ?_
          · intro w hSw
            obtain ⟨q0, q1, q2, q3, q4, q5⟩ := hSw
            go_simp
          try simp only [Act.put, List.setIfInBounds_toArray, List.set_cons_zero, List.set_cons_succ]
          refine wpAnyM_ready (rs := [4]) (by kernel_rfl) (by simp) ?_
          intro i hi
          simp only [List.mem_cons, List.not_mem_nil, or_false] at hi
          subst hi
          refine stepM (o := { dst := some 85, op := Op.call { callee := Callee.value (Operand.func 25), args := #[Operand.tmp 83, Operand.tmp 84], argTypes := #[69, 3] }, type := 69, pos := "inline.go:27", after := #[{ on := 2, ground := Ground.data }, { on := 3, ground := Ground.data }], guard := none }) rfl (fun K' hK => ?_)
          refine step_call rfl 25 (.func 25) #[.tmp 83, .tmp 84] _ rfl #[] rfl #[IV x, .int .i64 (j : Int)] (by simp [Act.eval, Act.put]) (cf26 _ _) ?_
          refine (show Calls Try.prog 25 #[IV x, .int .i64 (j : Int)] V.drew _ from (staying_any x (j : Int) V.drew).mono ?_)
          rintro e w5 ⟨rfl, hb5⟩
          refine ⟨_, rfl, ?_⟩
          have hbV5 : Below V.heap.size V w5 := nstep (Below.refl _ V).drew hb5
          obtain ⟨y, hye⟩ : ∃ y, stayE x (j : Int) = y := ⟨_, rfl⟩
          simp only [hye]
          refine hK _ _ (fun _ => ?_) ?_
          · exact hSl _ hbV5
          clear hK K'
          try simp only [Act.put, List.setIfInBounds_toArray, List.set_cons_zero, List.set_cons_succ]
          refine wpAnyM_ready (rs := [5]) (by kernel_rfl) (by simp) ?_
          intro i hi
          simp only [List.mem_cons, List.not_mem_nil, or_false] at hi
          subst hi
          refine stepM (o := { dst := some 86, op := Op.buildSlice 33 1 #[(0, Operand.tmp 85)], type := 33, pos := "inline.go:27", after := #[{ on := 4, ground := Ground.data }], guard := none }) rfl (fun K' hK => ?_)
          go_simp
          refine hK _ _ (fun _ => ?_) ?_
          · exact hSl _ (nstep hbV5 (bel1 _ _))
          clear hK K'
          try simp only [Act.put, List.setIfInBounds_toArray, List.set_cons_zero, List.set_cons_succ]
          refine wpAnyM_ready (rs := [6]) (by kernel_rfl) (by simp) ?_
          intro i hi
          simp only [List.mem_cons, List.not_mem_nil, or_false] at hi
          subst hi
          refine stepM (o := { dst := some 87, op := Op.call { callee := Callee.builtin Builtin.append, args := #[Operand.tmp 82, Operand.tmp 86], argTypes := #[33, 33] }, type := 33, pos := "inline.go:27", after := #[{ on := 1, ground := Ground.data }, { on := 5, ground := Ground.data }, { on := 4, ground := Ground.chain }], guard := none }) rfl (fun K' hK => ?_)
          have hL5 := (hL.later hbV5).later (bel1 w5 (.cells #[.int .i64 y.op, .int .i64 y.a, .int .i64 y.b, .int .i64 y.c, .string y.name] 69))
          obtain ⟨v', w', hrun, r1, r2, r3, r4⟩ := run_append_at (w := w5.alloc (.cells #[.int .i64 y.op, .int .i64 y.a, .int .i64 y.b, .int .i64 y.c, .string y.name] 69)) 33 33 69 _ 5 48 Try.underlying33 info69 rfl (by omega) (bm + 3) s.code.length (.slice a s.code.length cap) (icells s.code) hL5.own w5.heap.size [.int .i64 y.op, .int .i64 y.a, .int .i64 y.b, .int .i64 y.c, .string y.name] rfl (heap_alloc_new w5 _) (by intro u hu; simp only [List.mem_cons, List.not_mem_nil, or_false] at hu; rcases hu with h | h | h | h | h <;> (subst h; rfl)) (by unfold maxLen; omega) (by omega) hL5.sz
          obtain ⟨a', cap', rfl, -⟩ := r1.form
          refine step_append_run rfl (.tmp 82) (.tmp 86) 33 rfl (.slice a s.code.length cap) (.slice (some ⟨w5.heap.size, 0, none⟩) 1 1) (.slice a' (s.code.length + 1) cap') (by simp [Act.eval, Act.put]) (by simp [Act.eval, Act.put]) hrun ?_
          have hO' := OwnI.more (ys := [y]) r1 rfl rfl
          have hN0 := hL5.setC hO' r3
          simp only [List.length_append, List.length_cons, List.length_nil, Nat.zero_add] at hN0
          have hN := hid hN0
          have d4 : w'.cell? ⟨bm + 1, 4, none⟩ = some (.slice a s.code.length cap) := by unfold World.cell?; rw [r3.block (bm + 1) (by omega)]; exact hL5.f4
          have df : ∀ o, w'.frozen? ⟨bm + 1, o, none⟩ = false := row_free (by rw [r3.block (bm + 1) (by omega)]; exact hL5.fb)
          have hS6 : w'.cell? ⟨bm + 1, 4, none⟩ = some (.slice a s.code.length cap) ∧ w'.cell? ⟨bx, 0, none⟩ = some (.int .i64 x.op) ∧ w'.cell? ⟨bx, 1, none⟩ = some (.int .i64 x.a) ∧ w'.cell? ⟨bx, 2, none⟩ = some (.int .i64 x.b) ∧ w'.cell? ⟨bx, 3, none⟩ = some (.int .i64 x.c) ∧ w'.cell? ⟨bx, 4, none⟩ = some (.string x.name) := by
            obtain ⟨e0, e1, e2, e3, e4, e5⟩ := hSl _ (nstep hbV5 (bel1 w5 (.cells #[.int .i64 y.op, .int .i64 y.a, .int .i64 y.b, .int .i64 y.c, .string y.name] 69)))
            have hxo : ∀ o v, (w5.alloc (.cells #[.int .i64 y.op, .int .i64 y.a, .int .i64 y.b, .int .i64 y.c, .string y.name] 69)).cell? ⟨bx, o, none⟩ = some v → w'.cell? ⟨bx, o, none⟩ = some v := fun o v h => by
              unfold World.cell? at h ⊢
              rw [r4 bx (World.block_lt_of_cell? _ ⟨bx, o, none⟩ h) HBX.out]
              exact h
            exact ⟨d4, hxo _ _ e1, hxo _ _ e2, hxo _ _ e3, hxo _ _ e4, hxo _ _ e5⟩
          refine hK _ _ (fun _ => ?_) ?_
          · exact hS6
          clear hK K'
          try simp only [Act.put, List.setIfInBounds_toArray, List.set_cons_zero, List.set_cons_succ]
          refine wpAnyM_take (i := 7) (oi := { dst := some 88, op := Op.fieldAddr 35 (Operand.tmp 11) 4, type := 0, pos := "inline.go:27", after := #[{ on := 0, ground := Ground.phase }, { on := 1, ground := Ground.phase }, { on := 2, ground := Ground.phase }, { on := 3, ground := Ground.phase }, { on := 4, ground := Ground.phase }, { on := 5, ground := Ground.phase }, { on := 6, ground := Ground.phase }], guard := none }) (v := .pointer (some ⟨bm + 1, 4, none⟩)) (by kernel_rfl) (by kernel_rfl) rfl (by kernel_rfl) (by kernel_rfl) (by kernel_rfl) (fun _ _ _ h => h) (Or.inl ⟨by rfl, ?_⟩) (hS6) ?_
          · intro w hSw
            obtain ⟨q0, q1, q2, q3, q4, q5⟩ := hSw
            go_simp
          try simp only [Act.put, List.setIfInBounds_toArray, List.set_cons_zero, List.set_cons_succ]
          refine wpAnyM_ready (rs := [8]) (by kernel_rfl) (by simp) ?_
          intro i hi
          simp only [List.mem_cons, List.not_mem_nil, or_false] at hi
          subst hi
          refine stepM (o := { dst := none, op := Op.store 33 (Operand.tmp 88) (Operand.tmp 87), type := 0, pos := "inline.go:27", after := #[{ on := 7, ground := Ground.data }, { on := 6, ground := Ground.data }, { on := 6, ground := Ground.chain }, { on := 0, ground := Ground.phase }, { on := 1, ground := Ground.phase }, { on := 2, ground := Ground.phase }, { on := 3, ground := Ground.phase }, { on := 4, ground := Ground.phase }, { on := 5, ground := Ground.phase }, { on := 6, ground := Ground.phase }], guard := none }) rfl (fun K' hK => ?_)
          go_simp
          refine hK _ _ (fun h => absurd h (by decide)) ?_
          clear hK K'
          try simp only [Act.put, List.setIfInBounds_toArray, List.set_cons_zero, List.set_cons_succ]
          refine wpAnyM_done (by kernel_rfl) ?_ _
          try simp only [Act.put, List.setIfInBounds_toArray, List.set_cons_zero, List.set_cons_succ]

          have HFin := hid ((HSTAY.out y hye _ _ _ hN.out))
          go_wp2
          go_roundg (m.code.length - (j + 1))
          case measure => omega
          case rel => exact HFin.out
      | some lf =>
          obtain rfl := hlf lf hst
          obtain ⟨hsm, -, -, hop14⟩ := stands_small hX hst
          have hla := hsm.args
          have hlt' := hsm.temps
          have hll := hsm.len
          have hlx := hsm.code
          have lb0 : V.cell? ⟨bl, 0, none⟩ = some (.string leaf.name) := by rw [cell_of_row _ _ _ _ _ _ lbox]; rfl
          have lb1 : V.cell? ⟨bl, 1, none⟩ = some (.int .i64 leaf.args) := by rw [cell_of_row _ _ _ _ _ _ lbox]; rfl
          have lb2 : V.cell? ⟨bl, 2, none⟩ = some (.int .i64 leaf.temps) := by rw [cell_of_row _ _ _ _ _ _ lbox]; rfl
          have lb3 : V.cell? ⟨bl, 3, none⟩ = some (.int .i64 leaf.prim) := by rw [cell_of_row _ _ _ _ _ _ lbox]; rfl
          have lb4 : V.cell? ⟨bl, 4, none⟩ = some (.slice al leaf.code.length cl) := by rw [cell_of_row _ _ _ _ _ _ lbox]; rfl
          have f0 := hL.f0
          have f1 := hL.f1
          have f2 := hL.f2
          have f3 := hL.f3
          have f4 := hL.f4
          have m4 := hL.m4
          have hwl : IntKind.i64.wrap ((m.code.length : Int) - (j : Int)) = (m.code.length : Int) - (j : Int) := wrap_of (by omega) (by omega)
          simp only [Option.isSome]
          go_wp2_with fail
          refine (show Calls Try.prog 24 #[FsV ⟨(qc : Int), m.name, X.epoch, s.temps, []⟩ (.slice a s.code.length cap), MV leaf (.slice al leaf.code.length cl), .int .i64 ((m.code.length : Int) - (j : Int))] V _ from (roomFor_any ⟨(qc : Int), m.name, X.epoch, s.temps, []⟩ a s.code.length cap leaf al cl ((m.code.length : Int) - (j : Int)) V hla hlt' (by simp only; omega) (by omega)).mono ?_)
          rintro e w4 ⟨rfl, hb4⟩
          dsimp only
          replace hL := hL.later hb4
          replace hlc' := hlc'.later goodI hb4
          replace xb0 := cell_later hb4 xb0
          replace xb1 := cell_later hb4 xb1
          replace xb2 := cell_later hb4 xb2
          replace xb3 := cell_later hb4 xb3
          replace xb4 := cell_later hb4 xb4
          replace lbox := box_later' lbox hb4
          clear lb0 lb1 lb2 lb3 lb4 f0 f1 f2 f3 f4 m4 hszV xboxV
          have hszV := hL.sz
          by_cases hroom : roomE s.code.length s.temps leaf ((m.code.length : Int) - j) = true
          · rw [hroom]
            have HWHO : Hid (whoE X.classes sites m.code.length s.code.length s.temps j x = some leaf) := by show _ = _; rw [HWH.out _ hst]; simp [hroom]
            have hks : 0 ≤ sites.getD j (-1) := by
              unfold standsIn at hst
              split at hst
              · rename_i h; exact h.2
              · cases hst
            obtain ⟨ks, hksj⟩ : ∃ ks, sites[j]? = some ks := by
              cases h : sites[j]? with
              | none => rw [List.getD_eq_getElem?_getD, h] at hks; simp at hks
              | some ks => exact ⟨ks, rfl⟩
            have HKS : Hid (sites.getD j (-1) = ks) := by show _ = _; rw [List.getD_eq_getElem?_getD, hksj]; rfl
            have hsl : j < sites.length := lt_of_get hksj
            obtain ⟨bs, os, hse, -, y0⟩ := hrowS j ks hksj
            subst hse
            have y0' : w.cell? ⟨bs, os + j, none⟩ = some (.int .i64 ks) := by simpa [IntC] using y0
            have hbsl : bs < w.heap.size := World.block_lt_of_cell? w ⟨bs, os + j, none⟩ y0'
            have y1 := hL.old (by omega) (cell_later hBZ y0')
            have hr240 := of_decide_eq_true hroom
            have hsj1 : (j : Int) < (sites.length : Int) := by omega
            clear hst hlf hroom hb4 hb0V hbL hb3 y0 y0' hksj hks
            generalize w4 = V at *
            have hSl : ∀ w', Below V.heap.size V w' → w'.cell? ⟨bs, os + j, none⟩ = some (.int .i64 ks) ∧ w'.cell? ⟨bl, 1, none⟩ = some (.int .i64 leaf.args) := fun w' hb => ⟨cell_later hb y1, by rw [cell_of_row _ _ _ _ _ _ (box_later' lbox hb)]; rfl⟩
            have hS0 := hSl _ (Below.refl _ V).drew
            go_upto_region 14 with (fail)
            refine wp_region_late (S := fun w' => w'.cell? ⟨bs, os + j, none⟩ = some (.int .i64 ks) ∧ w'.cell? ⟨bl, 1, none⟩ = some (.int .i64 leaf.args)) [9] (by kernel_rfl) ?_
            refine wpAnyM_take (i := 0) (oi := { dst := some 89, op := Op.move (Operand.tmp 3), type := 63, pos := "inline.go:30", after := #[], guard := none }) (v := .slice (some ⟨bs, os, none⟩) sites.length cs) (by kernel_rfl) (by kernel_rfl) rfl (by kernel_rfl) (by kernel_rfl) (by kernel_rfl) (fun _ _ _ h => h) (Or.inl ⟨by rfl, ?_⟩) (hS0) ?_
            · intro w hSw
              obtain ⟨q0, q1⟩ := hSw
              go_simp
            try simp only [Act.put, List.setIfInBounds_toArray, List.set_cons_zero, List.set_cons_succ]
            refine wpAnyM_take (i := 1) (oi := { dst := some 90, op := Op.move (Operand.tmp 14), type := 3, pos := "inline.go:30", after := #[], guard := none }) (v := .int .i64 (j : Int)) (by kernel_rfl) (by kernel_rfl) rfl (by kernel_rfl) (by kernel_rfl) (by kernel_rfl) (fun _ _ _ h => h) (Or.inl ⟨by rfl, ?_⟩) (hS0) ?_
            · intro w hSw
              obtain ⟨q0, q1⟩ := hSw
              go_simp
            try simp only [Act.put, List.setIfInBounds_toArray, List.set_cons_zero, List.set_cons_succ]
            refine wpAnyM_take (i := 2) (oi := { dst := some 91, op := Op.indexAddr 63 (Operand.tmp 89) (Operand.tmp 90), type := 0, pos := "inline.go:30", after := #[{ on := 0, ground := Ground.data }, { on := 1, ground := Ground.data }], guard := none }) (v := .pointer (some ⟨bs, os + j, none⟩)) (by kernel_rfl) (by kernel_rfl) rfl (by kernel_rfl) (by kernel_rfl) (by kernel_rfl) (fun _ _ _ h => h) (Or.inl ⟨by rfl, ?_⟩) (hS0) ?_
            · intro w hSw
              obtain ⟨q0, q1⟩ := hSw
              go_simp
            try simp only [Act.put, List.setIfInBounds_toArray, List.set_cons_zero, List.set_cons_succ]
            refine wpAnyM_take (i := 3) (oi := { dst := some 92, op := Op.load 3 (Operand.tmp 91), type := 3, pos := "inline.go:30", after := #[{ on := 2, ground := Ground.data }], guard := none }) (v := .int .i64 ks) (by kernel_rfl) (by kernel_rfl) rfl (by kernel_rfl) (by kernel_rfl) (by kernel_rfl) (fun _ _ _ h => h) (Or.inl ⟨by rfl, ?_⟩) (hS0) ?_
            · intro w hSw
              obtain ⟨q0, q1⟩ := hSw
              go_simp
            try simp only [Act.put, List.setIfInBounds_toArray, List.set_cons_zero, List.set_cons_succ]
            refine wpAnyM_take (i := 4) (oi := { dst := some 93, op := Op.fieldAddr 44 (Operand.tmp 16) 1, type := 0, pos := "inline.go:30", after := #[], guard := none }) (v := .pointer (some ⟨bl, 1, none⟩)) (by kernel_rfl) (by kernel_rfl) rfl (by kernel_rfl) (by kernel_rfl) (by kernel_rfl) (fun _ _ _ h => h) (Or.inl ⟨by rfl, ?_⟩) (hS0) ?_
            · intro w hSw
              obtain ⟨q0, q1⟩ := hSw
              go_simp
            try simp only [Act.put, List.setIfInBounds_toArray, List.set_cons_zero, List.set_cons_succ]
            refine wpAnyM_take (i := 5) (oi := { dst := some 94, op := Op.load 3 (Operand.tmp 93), type := 3, pos := "inline.go:30", after := #[{ on := 4, ground := Ground.data }], guard := none }) (v := .int .i64 leaf.args) (by kernel_rfl) (by kernel_rfl) rfl (by kernel_rfl) (by kernel_rfl) (by kernel_rfl) (fun _ _ _ h => h) (Or.inl ⟨by rfl, ?_⟩) (hS0) ?_
            · intro w hSw
              obtain ⟨q0, q1⟩ := hSw
              go_simp
            try simp only [Act.put, List.setIfInBounds_toArray, List.set_cons_zero, List.set_cons_succ]
            refine wpAnyM_take (i := 6) (oi := { dst := some 95, op := Op.move (Operand.tmp 14), type := 3, pos := "inline.go:30", after := #[], guard := none }) (v := .int .i64 (j : Int)) (by kernel_rfl) (by kernel_rfl) rfl (by kernel_rfl) (by kernel_rfl) (by kernel_rfl) (fun _ _ _ h => h) (Or.inl ⟨by rfl, ?_⟩) (hS0) ?_
            · intro w hSw
              obtain ⟨q0, q1⟩ := hSw
              go_simp
            try simp only [Act.put, List.setIfInBounds_toArray, List.set_cons_zero, List.set_cons_succ]
            refine wpAnyM_take (i := 7) (oi := { dst := some 96, op := Op.build 69 #[(0, Operand.const (Value.int IntKind.i64 18)), (1, Operand.tmp 92), (2, Operand.tmp 94), (3, Operand.tmp 95)], type := 69, pos := "inline.go:30", after := #[{ on := 3, ground := Ground.data }, { on := 5, ground := Ground.data }, { on := 6, ground := Ground.data }], guard := none }) (v := .agg #[.int .i64 18, .int .i64 ks, .int .i64 leaf.args, .int .i64 (j : Int), .string ⟨#[]⟩]) (by kernel_rfl) (by kernel_rfl) rfl (by kernel_rfl) (by kernel_rfl) (by kernel_rfl) (fun _ _ _ h => h) (Or.inl ⟨by rfl, ?_⟩) (hS0) ?_
            · intro w hSw
              obtain ⟨q0, q1⟩ := hSw
              go_simp
            try simp only [Act.put, List.setIfInBounds_toArray, List.set_cons_zero, List.set_cons_succ]
            refine wpAnyM_ready (rs := [8]) (by kernel_rfl) (by simp) ?_
            intro i hi
            simp only [List.mem_cons, List.not_mem_nil, or_false] at hi
            subst hi
            refine stepM (o := { dst := some 18, op := Op.alloc 69, type := 0, pos := "inline.go:30", after := #[], guard := none }) rfl (fun K' hK => ?_)
            go_simp
            refine hK _ _ (fun _ => ?_) ?_
            · exact hSl _ (nstep (Below.refl _ V).drew (bel1 _ _))
            clear hK K'
            try simp only [Act.put, List.setIfInBounds_toArray, List.set_cons_zero, List.set_cons_succ]
            refine wpAnyM_ready (rs := [9]) (by kernel_rfl) (by simp) ?_
            intro i hi
            simp only [List.mem_cons, List.not_mem_nil, or_false] at hi
            subst hi
            refine stepM (o := { dst := none, op := Op.store 69 (Operand.tmp 18) (Operand.tmp 96), type := 0, pos := "inline.go:30", after := #[{ on := 8, ground := Ground.data }, { on := 7, ground := Ground.data }, { on := 0, ground := Ground.phase }, { on := 1, ground := Ground.phase }, { on := 2, ground := Ground.phase }, { on := 3, ground := Ground.phase }, { on := 4, ground := Ground.phase }, { on := 5, ground := Ground.phase }, { on := 6, ground := Ground.phase }, { on := 7, ground := Ground.phase }, { on := 8, ground := Ground.phase }], guard := none }) rfl (fun K' hK => ?_)
            go_simp
            refine hK _ _ (fun h => absurd h (by decide)) ?_
            clear hK K'
            try simp only [Act.put, List.setIfInBounds_toArray, List.set_cons_zero, List.set_cons_succ]
            refine wpAnyM_done (by kernel_rfl) ?_ _
            try simp only [Act.put, List.setIfInBounds_toArray, List.set_cons_zero, List.set_cons_succ]
            have hbU : Below V.heap.size V (V.alloc (.cells #[.int .i64 18, .int .i64 ks, .int .i64 leaf.args, .int .i64 (j : Int), .string ⟨#[]⟩] 69)).drew := (bel1 _ _).drew
            have gbox : (V.alloc (.cells #[.int .i64 18, .int .i64 ks, .int .i64 leaf.args, .int .i64 (j : Int), .string ⟨#[]⟩] 69)).drew.heap[V.heap.size]? = some (.cells #[.int .i64 18, .int .i64 ks, .int .i64 leaf.args, .int .i64 (j : Int), .string ⟨#[]⟩] 69 (0, 0)) := heap_alloc_new V _
            have HBQ : Hid (some V.heap.size ≠ (Value.slice a s.code.length cap).ownBlock) := fun e => by have := (hL.own.lt _ e.symm).2; omega
            replace hL := hL.later hbU
            have hlc := hlc'.later goodI hbU
            replace lbox := box_later' lbox hbU
            clear hSl hS0 y1 hbU hlc' xb0 xb1 xb2 xb3 xb4
            go_upto_region 15 with (fail)
            generalize hU : (V.alloc (.cells #[.int .i64 18, .int .i64 ks, .int .i64 leaf.args, .int .i64 (j : Int), .string ⟨#[]⟩] 69)).drew = U at *
            generalize V.heap.size = bq at *
            have hSl : ∀ w', Below U.heap.size U w' → w'.cell? ⟨bm + 1, 0, none⟩ = some (.int .i64 (qc : Int)) ∧ w'.cell? ⟨bm + 1, 1, none⟩ = some (.string m.name) ∧ w'.cell? ⟨bm + 1, 2, none⟩ = some (.int .i64 X.epoch) ∧ w'.cell? ⟨bm + 1, 3, none⟩ = some (.int .i64 s.temps) ∧ w'.cell? ⟨bm + 1, 4, none⟩ = some (.slice a s.code.length cap) ∧ w'.cell? ⟨bl, 0, none⟩ = some (.string leaf.name) ∧ w'.cell? ⟨bl, 1, none⟩ = some (.int .i64 leaf.args) ∧ w'.cell? ⟨bl, 2, none⟩ = some (.int .i64 leaf.temps) ∧ w'.cell? ⟨bl, 3, none⟩ = some (.int .i64 leaf.prim) ∧ w'.cell? ⟨bl, 4, none⟩ = some (.slice al leaf.code.length cl) ∧ w'.cell? ⟨bq, 0, none⟩ = some (.int .i64 18) ∧ w'.cell? ⟨bq, 1, none⟩ = some (.int .i64 ks) ∧ w'.cell? ⟨bq, 2, none⟩ = some (.int .i64 leaf.args) ∧ w'.cell? ⟨bq, 3, none⟩ = some (.int .i64 (j : Int)) ∧ w'.cell? ⟨bq, 4, none⟩ = some (.string ⟨#[]⟩) := fun w' hb => by
              have h1 := hL.later hb
              have h2 := box_later' lbox hb
              have h3 := box_later' gbox hb
              exact ⟨h1.f0, h1.f1, h1.f2, h1.f3, h1.f4, by rw [cell_of_row _ _ _ _ _ _ h2]; rfl, by rw [cell_of_row _ _ _ _ _ _ h2]; rfl, by rw [cell_of_row _ _ _ _ _ _ h2]; rfl, by rw [cell_of_row _ _ _ _ _ _ h2]; rfl, by rw [cell_of_row _ _ _ _ _ _ h2]; rfl, by rw [cell_of_row _ _ _ _ _ _ h3]; rfl, by rw [cell_of_row _ _ _ _ _ _ h3]; rfl, by rw [cell_of_row _ _ _ _ _ _ h3]; rfl, by rw [cell_of_row _ _ _ _ _ _ h3]; rfl, by rw [cell_of_row _ _ _ _ _ _ h3]; rfl⟩
            have hS0 := hSl _ (Below.refl _ U).drew
            refine wp_region_late (S := fun w' => w'.cell? ⟨bm + 1, 0, none⟩ = some (.int .i64 (qc : Int)) ∧ w'.cell? ⟨bm + 1, 1, none⟩ = some (.string m.name) ∧ w'.cell? ⟨bm + 1, 2, none⟩ = some (.int .i64 X.epoch) ∧ w'.cell? ⟨bm + 1, 3, none⟩ = some (.int .i64 s.temps) ∧ w'.cell? ⟨bm + 1, 4, none⟩ = some (.slice a s.code.length cap) ∧ w'.cell? ⟨bl, 0, none⟩ = some (.string leaf.name) ∧ w'.cell? ⟨bl, 1, none⟩ = some (.int .i64 leaf.args) ∧ w'.cell? ⟨bl, 2, none⟩ = some (.int .i64 leaf.temps) ∧ w'.cell? ⟨bl, 3, none⟩ = some (.int .i64 leaf.prim) ∧ w'.cell? ⟨bl, 4, none⟩ = some (.slice al leaf.code.length cl) ∧ w'.cell? ⟨bq, 0, none⟩ = some (.int .i64 18) ∧ w'.cell? ⟨bq, 1, none⟩ = some (.int .i64 ks) ∧ w'.cell? ⟨bq, 2, none⟩ = some (.int .i64 leaf.args) ∧ w'.cell? ⟨bq, 3, none⟩ = some (.int .i64 (j : Int)) ∧ w'.cell? ⟨bq, 4, none⟩ = some (.string ⟨#[]⟩)) [10] (by kernel_rfl) ?_
            refine wpAnyM_take (i := 0) (oi := { dst := some 97, op := Op.fieldAddr 35 (Operand.tmp 11) 4, type := 0, pos := "inline.go:31", after := #[], guard := none }) (v := .pointer (some ⟨bm + 1, 4, none⟩)) (by kernel_rfl) (by kernel_rfl) rfl (by kernel_rfl) (by kernel_rfl) (by kernel_rfl) (fun _ _ _ h => h) (Or.inl ⟨by rfl, ?_⟩) (hS0) ?_
            · intro w hSw
              obtain ⟨q0, q1, q2, q3, q4, q5, q6, q7, q8, q9, q10, q11, q12, q13, q14⟩ := hSw
              go_simp
            try simp only [Act.put, List.setIfInBounds_toArray, List.set_cons_zero, List.set_cons_succ]
            refine wpAnyM_take (i := 1) (oi := { dst := some 98, op := Op.load 33 (Operand.tmp 97), type := 33, pos := "inline.go:31", after := #[{ on := 0, ground := Ground.data }], guard := none }) (v := .slice a s.code.length cap) (by kernel_rfl) (by kernel_rfl) rfl (by kernel_rfl) (by kernel_rfl) (by kernel_rfl) (fun _ _ _ h => h) (Or.inl ⟨by rfl, ?_⟩) (hS0) ?_
            · intro w hSw
              obtain ⟨q0, q1, q2, q3, q4, q5, q6, q7, q8, q9, q10, q11, q12, q13, q14⟩ := hSw
              go_simp
            try simp only [Act.put, List.setIfInBounds_toArray, List.set_cons_zero, List.set_cons_succ]
            refine wpAnyM_take (i := 2) (oi := { dst := some 99, op := Op.load 44 (Operand.tmp 16), type := 44, pos := "inline.go:31", after := #[], guard := none }) (v := MV leaf (.slice al leaf.code.length cl)) (by kernel_rfl) (by kernel_rfl) rfl (by kernel_rfl) (by kernel_rfl) (by kernel_rfl) (fun _ _ _ h => h) (Or.inl ⟨by rfl, ?_⟩) (hS0) ?_
            · intro w hSw
              obtain ⟨q0, q1, q2, q3, q4, q5, q6, q7, q8, q9, q10, q11, q12, q13, q14⟩ := hSw
              go_simp
            try simp only [Act.put, List.setIfInBounds_toArray, List.set_cons_zero, List.set_cons_succ]
            refine wpAnyM_take (i := 3) (oi := { dst := some 100, op := Op.load 69 (Operand.tmp 18), type := 69, pos := "inline.go:31", after := #[], guard := none }) (v := IV (ins 18 ks leaf.args (j : Int))) (by kernel_rfl) (by kernel_rfl) rfl (by kernel_rfl) (by kernel_rfl) (by kernel_rfl) (fun _ _ _ h => h) (Or.inl ⟨by rfl, ?_⟩) (hS0) ?_
            · intro w hSw
              obtain ⟨q0, q1, q2, q3, q4, q5, q6, q7, q8, q9, q10, q11, q12, q13, q14⟩ := hSw
              go_simp
            try simp only [Act.put, List.setIfInBounds_toArray, List.set_cons_zero, List.set_cons_succ]
            refine wpAnyM_take (i := 4) (oi := { dst := some 101, op := Op.load 35 (Operand.tmp 11), type := 35, pos := "inline.go:31", after := #[], guard := none }) (v := FsV ⟨(qc : Int), m.name, X.epoch, s.temps, []⟩ (.slice a s.code.length cap)) (by kernel_rfl) (by kernel_rfl) rfl (by kernel_rfl) (by kernel_rfl) (by kernel_rfl) (fun _ _ _ h => h) (Or.inl ⟨by rfl, ?_⟩) (hS0) ?_
            · intro w hSw
              obtain ⟨q0, q1, q2, q3, q4, q5, q6, q7, q8, q9, q10, q11, q12, q13, q14⟩ := hSw
              go_simp
            try simp only [Act.put, List.setIfInBounds_toArray, List.set_cons_zero, List.set_cons_succ]
            refine wpAnyM_take (i := 5) (oi := { dst := some 102, op := Op.load 44 (Operand.tmp 16), type := 44, pos := "inline.go:31", after := #[], guard := none }) (v := MV leaf (.slice al leaf.code.length cl)) (by kernel_rfl) (by kernel_rfl) rfl (by kernel_rfl) (by kernel_rfl) (by kernel_rfl) (fun _ _ _ h => h) (Or.inl ⟨by rfl, ?_⟩) (hS0) ?_
            · intro w hSw
              obtain ⟨q0, q1, q2, q3, q4, q5, q6, q7, q8, q9, q10, q11, q12, q13, q14⟩ := hSw
              go_simp
            try simp only [Act.put, List.setIfInBounds_toArray, List.set_cons_zero, List.set_cons_succ]
            refine wpAnyM_ready (rs := [6]) (by kernel_rfl) (by simp) ?_
            intro i hi
            simp only [List.mem_cons, List.not_mem_nil, or_false] at hi
            subst hi
            refine stepM (o := { dst := some 103, op := Op.call { callee := Callee.value (Operand.func 27), args := #[Operand.tmp 101, Operand.tmp 102], argTypes := #[35, 44] }, type := 80, pos := "inline.go:31", after := #[{ on := 4, ground := Ground.data }, { on := 5, ground := Ground.data }], guard := none }) rfl (fun K' hK => ?_)
            refine step_call rfl 27 (.func 27) #[.tmp 101, .tmp 102] _ rfl #[] rfl #[FsV ⟨(qc : Int), m.name, X.epoch, s.temps, []⟩ (.slice a s.code.length cap), MV leaf (.slice al leaf.code.length cl)] (by simp [Act.eval, Act.put]) (cf28 _ _) ?_
            refine (show Calls Try.prog 27 #[FsV ⟨(qc : Int), m.name, X.epoch, s.temps, []⟩ (.slice a s.code.length cap), MV leaf (.slice al leaf.code.length cl)] U.drew _ from (placeOf_any ⟨(qc : Int), m.name, X.epoch, s.temps, []⟩ a s.code.length cap leaf al cl U.drew hla hlt' (by simp only; omega) (by omega) hll).mono ?_)
            rintro e w5 ⟨rfl, hb5⟩
            refine ⟨_, rfl, ?_⟩
            have hbV5 : Below U.heap.size U w5 := nstep (Below.refl _ U).drew hb5
            simp only
            refine hK _ _ (fun _ => ?_) ?_
            · exact hSl _ hbV5
            clear hK K'
            try simp only [Act.put, List.setIfInBounds_toArray, List.set_cons_zero, List.set_cons_succ]
            refine wpAnyM_ready (rs := [7]) (by kernel_rfl) (by simp) ?_
            intro i hi
            simp only [List.mem_cons, List.not_mem_nil, or_false] at hi
            subst hi
            refine stepM (o := { dst := some 104, op := Op.call { callee := Callee.value (Operand.func 26), args := #[Operand.tmp 99, Operand.tmp 100, Operand.tmp 103], argTypes := #[44, 69, 80] }, type := 33, pos := "inline.go:31", after := #[{ on := 2, ground := Ground.data }, { on := 3, ground := Ground.data }, { on := 6, ground := Ground.data }, { on := 6, ground := Ground.chain }], guard := none }) rfl (fun K' hK => ?_)
            refine step_call rfl 26 (.func 26) #[.tmp 99, .tmp 100, .tmp 103] _ rfl #[] rfl #[MV leaf (.slice al leaf.code.length cl), IV (ins 18 ks leaf.args (j : Int)), PlV s.temps (s.temps + 1) (s.temps + 1 + leaf.args) (firstOf leaf s.code.length) (firstOf leaf s.code.length + leaf.code.length)] (by simp [Act.eval, Act.put]) (cf27 _ _) ?_
            refine (show Calls Try.prog 26 #[MV leaf (.slice al leaf.code.length cl), IV (ins 18 ks leaf.args (j : Int)), PlV s.temps (s.temps + 1) (s.temps + 1 + leaf.args) (firstOf leaf s.code.length) (firstOf leaf s.code.length + leaf.code.length)] w5 _ from (piece_any leaf (ins 18 ks leaf.args (j : Int)) s.temps s.code.length _ w5 (hlc.later goodI hbV5) hla hlt' (by omega) (by omega) hll hlx).mono ?_)
            rintro e w6 ⟨ap, cp, rfl, hOp, hb6⟩
            refine ⟨_, rfl, ?_⟩
            have hbV6 : Below U.heap.size U w6 := nstep hbV5 hb6
            refine hK _ _ (fun _ => ?_) ?_
            · exact hSl _ hbV6
            clear hK K'
            try simp only [Act.put, List.setIfInBounds_toArray, List.set_cons_zero, List.set_cons_succ]
            have HPL := hid (pieceE_len leaf (ins 18 ks leaf.args (j : Int)) s.temps s.code.length)
            obtain ⟨Pc, HPc⟩ : ∃ Pc, Hid (Pc = pieceE leaf (ins 18 ks leaf.args (j : Int)) s.temps s.code.length) := ⟨_, rfl⟩
            simp only [← HPc.out] at hOp HPL ⊢
            refine wpAnyM_ready (rs := [8]) (by kernel_rfl) (by simp) ?_
            intro i hi
            simp only [List.mem_cons, List.not_mem_nil, or_false] at hi
            subst hi
            refine stepM (o := { dst := some 105, op := Op.call { callee := Callee.builtin Builtin.append, args := #[Operand.tmp 98, Operand.tmp 104], argTypes := #[33, 33] }, type := 33, pos := "inline.go:31", after := #[{ on := 1, ground := Ground.data }, { on := 7, ground := Ground.data }, { on := 7, ground := Ground.chain }], guard := none }) rfl (fun K' hK => ?_)
            have hL6 := hL.later hbV6
            have hp3 : 0 < Pc.length := by have := HPL.out; omega
            have hpl : Pc.length ≤ 100 := by have := HPL.out; omega
            obtain ⟨adp, hap⟩ : ∃ adp, ap = some adp := by
              obtain ⟨-, h | ⟨g', o', c', cur, e, -⟩⟩ := hOp
              · have := h.2; omega
              · cases e; exact ⟨_, rfl⟩
            subst hap
            obtain ⟨v', w', hrun, r1, r2, r3, r4⟩ := run_append_n (w := w6) 33 33 69 _ 5 48 Try.underlying33 info69 rfl (by omega) (bm + 3) s.code.length (.slice a s.code.length cap) (icells s.code) hL6.own adp Pc.length cp hp3 (icells Pc) (icells_len _) (ownI_src hOp) (icells_one _) (by unfold maxLen; omega) (by omega) hL6.sz
            obtain ⟨a', cap', rfl, -⟩ := r1.form
            refine step_append_run rfl (.tmp 98) (.tmp 104) 33 rfl (.slice a s.code.length cap) (.slice (some adp) Pc.length cp) (.slice a' (s.code.length + Pc.length) cap') (by simp [Act.eval, Act.put]) (by simp [Act.eval, Act.put]) hrun ?_
            have hO' := OwnI.more (ys := Pc) r1 rfl rfl
            have hN0 := hL6.setC hO' r3
            simp only [List.length_append] at hN0
            have hN := hid hN0
            have d4 : w'.cell? ⟨bm + 1, 4, none⟩ = some (.slice a s.code.length cap) := by unfold World.cell?; rw [r3.block (bm + 1) (by omega)]; exact hL6.f4
            have df : ∀ o, w'.frozen? ⟨bm + 1, o, none⟩ = false := row_free (by rw [r3.block (bm + 1) (by omega)]; exact hL6.fb)
            have hS6 : w'.cell? ⟨bm + 1, 0, none⟩ = some (.int .i64 (qc : Int)) ∧ w'.cell? ⟨bm + 1, 1, none⟩ = some (.string m.name) ∧ w'.cell? ⟨bm + 1, 2, none⟩ = some (.int .i64 X.epoch) ∧ w'.cell? ⟨bm + 1, 3, none⟩ = some (.int .i64 s.temps) ∧ w'.cell? ⟨bm + 1, 4, none⟩ = some (.slice a s.code.length cap) ∧ w'.cell? ⟨bl, 0, none⟩ = some (.string leaf.name) ∧ w'.cell? ⟨bl, 1, none⟩ = some (.int .i64 leaf.args) ∧ w'.cell? ⟨bl, 2, none⟩ = some (.int .i64 leaf.temps) ∧ w'.cell? ⟨bl, 3, none⟩ = some (.int .i64 leaf.prim) ∧ w'.cell? ⟨bl, 4, none⟩ = some (.slice al leaf.code.length cl) ∧ w'.cell? ⟨bq, 0, none⟩ = some (.int .i64 18) ∧ w'.cell? ⟨bq, 1, none⟩ = some (.int .i64 ks) ∧ w'.cell? ⟨bq, 2, none⟩ = some (.int .i64 leaf.args) ∧ w'.cell? ⟨bq, 3, none⟩ = some (.int .i64 (j : Int)) ∧ w'.cell? ⟨bq, 4, none⟩ = some (.string ⟨#[]⟩) := by
              obtain ⟨e0, e1, e2, e3, e4, l0, l1, l2, l3, l4, g0, g1, g2, g3, g4⟩ := hSl _ hbV6
              have hxo : ∀ b, some b ≠ (Value.slice a s.code.length cap).ownBlock → ∀ o v, w6.cell? ⟨b, o, none⟩ = some v → w'.cell? ⟨b, o, none⟩ = some v := fun b hb o v h => by
                unfold World.cell? at h ⊢
                rw [r4 b (World.block_lt_of_cell? _ ⟨b, o, none⟩ h) hb]
                exact h
              have hf : ∀ o v, w6.cell? ⟨bm + 1, o, none⟩ = some v → w'.cell? ⟨bm + 1, o, none⟩ = some v := fun o v h => by unfold World.cell? at h ⊢; rw [r3.block (bm + 1) (by omega)]; exact h
              exact ⟨hf _ _ e0, hf _ _ e1, hf _ _ e2, hf _ _ e3, hf _ _ e4, hxo _ HBL.out _ _ l0, hxo _ HBL.out _ _ l1, hxo _ HBL.out _ _ l2, hxo _ HBL.out _ _ l3, hxo _ HBL.out _ _ l4, hxo _ HBQ.out _ _ g0, hxo _ HBQ.out _ _ g1, hxo _ HBQ.out _ _ g2, hxo _ HBQ.out _ _ g3, hxo _ HBQ.out _ _ g4⟩
            refine hK _ _ (fun _ => ?_) ?_
            · exact hS6
            clear hK K'
            try simp only [Act.put, List.setIfInBounds_toArray, List.set_cons_zero, List.set_cons_succ]
            refine wpAnyM_take (i := 9) (oi := { dst := some 106, op := Op.fieldAddr 35 (Operand.tmp 11) 4, type := 0, pos := "inline.go:31", after := #[{ on := 0, ground := Ground.phase }, { on := 1, ground := Ground.phase }, { on := 2, ground := Ground.phase }, { on := 3, ground := Ground.phase }, { on := 4, ground := Ground.phase }, { on := 5, ground := Ground.phase }, { on := 6, ground := Ground.phase }, { on := 7, ground := Ground.phase }, { on := 8, ground := Ground.phase }], guard := none }) (v := .pointer (some ⟨bm + 1, 4, none⟩)) (by kernel_rfl) (by kernel_rfl) rfl (by kernel_rfl) (by kernel_rfl) (by kernel_rfl) (fun _ _ _ h => h) (Or.inl ⟨by rfl, ?_⟩) (hS6) ?_
            · intro w hSw
              obtain ⟨q0, q1, q2, q3, q4, q5, q6, q7, q8, q9, q10, q11, q12, q13, q14⟩ := hSw
              go_simp
            try simp only [Act.put, List.setIfInBounds_toArray, List.set_cons_zero, List.set_cons_succ]
            refine wpAnyM_ready (rs := [10]) (by kernel_rfl) (by simp) ?_
            intro i hi
            simp only [List.mem_cons, List.not_mem_nil, or_false] at hi
            subst hi
            refine stepM (o := { dst := none, op := Op.store 33 (Operand.tmp 106) (Operand.tmp 105), type := 0, pos := "inline.go:31", after := #[{ on := 9, ground := Ground.data }, { on := 8, ground := Ground.data }, { on := 8, ground := Ground.chain }, { on := 0, ground := Ground.phase }, { on := 1, ground := Ground.phase }, { on := 2, ground := Ground.phase }, { on := 3, ground := Ground.phase }, { on := 4, ground := Ground.phase }, { on := 5, ground := Ground.phase }, { on := 6, ground := Ground.phase }, { on := 7, ground := Ground.phase }, { on := 8, ground := Ground.phase }], guard := none }) rfl (fun K' hK => ?_)
            go_simp
            refine hK _ _ (fun h => absurd h (by decide)) ?_
            clear hK K'
            try simp only [Act.put, List.setIfInBounds_toArray, List.set_cons_zero, List.set_cons_succ]
            refine wpAnyM_done (by kernel_rfl) ?_ _
            try simp only [Act.put, List.setIfInBounds_toArray, List.set_cons_zero, List.set_cons_succ]
            have hMN := hN.out
            have f3 := hMN.f3
            have ff := hMN.ff
            obtain ⟨-, -, -, -, -, -, l1', l2', -, -, -, -, -, -, -⟩ := hS6
            have l1 := cfar (b' := bm + 1) (o' := 4) (u := .slice a' (s.code.length + Pc.length) cap') l1' (by omega)
            have l2 := cfar (b' := bm + 1) (o' := 4) (u := .slice a' (s.code.length + Pc.length) cap') l2' (by omega)
            have h1 : IntKind.i64.wrap (1 + leaf.args) = 1 + leaf.args := wrap_of (by omega) (by omega)
            have h2 : IntKind.i64.wrap (1 + leaf.args + leaf.temps) = 1 + leaf.args + leaf.temps := wrap_of (by omega) (by omega)
            have h3 : IntKind.i64.wrap (s.temps + (1 + leaf.args + leaf.temps)) = s.temps + 1 + leaf.args + leaf.temps := by rw [wrap_of (by omega) (by omega)]; omega
            have h4 : IntKind.i64.wrap ((s.pieces : Int) + 1) = (s.pieces : Int) + 1 := wrap_of (by omega) (by omega)
            have HFin := hid (HPC.out leaf HWHO.out (by rw [HKS.out, ← HPc.out]; exact hMN.setT (s.temps + 1 + leaf.args + leaf.temps)))
            generalize (w'.setCell ⟨bm + 1, 4, none⟩ (.slice a' (s.code.length + Pc.length) cap')) = W6 at *
            clear hN hMN hN0 hL6 hOp r1 r2 r3 r4 hO' d4 df l1' l2' hSl hS0
            go_wp2
            go_roundg (m.code.length - (j + 1))
            case measure => omega
            case rel => exact HFin.out
          · have hroom' : roomE s.code.length s.temps leaf ((m.code.length : Int) - j) = false := by simpa using hroom
            rw [hroom']
            have HSTAY : Hid (∀ y, stayE x (j : Int) = y → ∀ a' cap' W, MtL Z bm m (.slice (some ⟨bk, ok, none⟩) m.code.length ck) (qc : Int) X.epoch s.temps (s.code ++ [y]) ((s.begins ++ List.replicate (m.code.length - j) 0).set j (s.code.length : Int)) a' cap' W → MtR X sites Z bm m (.slice (some ⟨bk, ok, none⟩) m.code.length ck) (qc : Int) (m.code.length - (j + 1)) (.int .i64 (s.pieces : Int)) (.int .i64 ((j : Int) + 1)) W) := fun y hy a' cap' W h => by subst hy; exact HST.out (by rw [HWH.out _ hst]; simp [hroom']) h
            clear hst hlf hroom hroom' hb4 hb0V hbL hb3
            generalize w4 = V at *
            go_upto_region 13 with (fail)
            have hSl : ∀ w', Below V.heap.size V w' → w'.cell? ⟨bm + 1, 4, none⟩ = some (.slice a s.code.length cap) ∧ w'.cell? ⟨bx, 0, none⟩ = some (.int .i64 x.op) ∧ w'.cell? ⟨bx, 1, none⟩ = some (.int .i64 x.a) ∧ w'.cell? ⟨bx, 2, none⟩ = some (.int .i64 x.b) ∧ w'.cell? ⟨bx, 3, none⟩ = some (.int .i64 x.c) ∧ w'.cell? ⟨bx, 4, none⟩ = some (.string x.name) := fun w' hb => ⟨(hL.later hb).f4, cell_later hb xb0, cell_later hb xb1, cell_later hb xb2, cell_later hb xb3, cell_later hb xb4⟩
            have hS0 := hSl _ (Below.refl _ V).drew
            refine wp_region_late (S := fun w' => w'.cell? ⟨bm + 1, 4, none⟩ = some (.slice a s.code.length cap) ∧ w'.cell? ⟨bx, 0, none⟩ = some (.int .i64 x.op) ∧ w'.cell? ⟨bx, 1, none⟩ = some (.int .i64 x.a) ∧ w'.cell? ⟨bx, 2, none⟩ = some (.int .i64 x.b) ∧ w'.cell? ⟨bx, 3, none⟩ = some (.int .i64 x.c) ∧ w'.cell? ⟨bx, 4, none⟩ = some (.string x.name)) [8] (by kernel_rfl) ?_
            refine wpAnyM_take (i := 0) (oi := { dst := some 81, op := Op.fieldAddr 35 (Operand.tmp 11) 4, type := 0, pos := "inline.go:27", after := #[], guard := none }) (v := .pointer (some ⟨bm + 1, 4, none⟩)) (by kernel_rfl) (by kernel_rfl) rfl (by kernel_rfl) (by kernel_rfl) (by kernel_rfl) (fun _ _ _ h => h) (Or.inl ⟨by rfl, ?_⟩) (hS0) ?_
            · intro w hSw
              obtain ⟨q0, q1, q2, q3, q4, q5⟩ := hSw
              go_simp
            try simp only [Act.put, List.setIfInBounds_toArray, List.set_cons_zero, List.set_cons_succ]
            refine wpAnyM_take (i := 1) (oi := { dst := some 82, op := Op.load 33 (Operand.tmp 81), type := 33, pos := "inline.go:27", after := #[{ on := 0, ground := Ground.data }], guard := none }) (v := .slice a s.code.length cap) (by kernel_rfl) (by kernel_rfl) rfl (by kernel_rfl) (by kernel_rfl) (by kernel_rfl) (fun _ _ _ h => h) (Or.inl ⟨by rfl, ?_⟩) (hS0) ?_
            · intro w hSw
              obtain ⟨q0, q1, q2, q3, q4, q5⟩ := hSw
              go_simp
            try simp only [Act.put, List.setIfInBounds_toArray, List.set_cons_zero, List.set_cons_succ]
            refine wpAnyM_take (i := 2) (oi := { dst := some 83, op := Op.load 69 (Operand.tmp 15), type := 69, pos := "inline.go:27", after := #[], guard := none }) (v := IV x) (by kernel_rfl) (by kernel_rfl) rfl (by kernel_rfl) (by kernel_rfl) (by kernel_rfl) (fun _ _ _ h => h) (Or.inl ⟨by rfl, ?_⟩) (hS0) ?_
            · intro w hSw
              obtain ⟨q0, q1, q2, q3, q4, q5⟩ := hSw
              go_simp
            try simp only [Act.put, List.setIfInBounds_toArray, List.set_cons_zero, List.set_cons_succ]
            refine wpAnyM_take (i := 3) (oi := { dst := some 84, op := Op.move (Operand.tmp 14), type := 3, pos := "inline.go:27", after := #[], guard := none }) (v := .int .i64 (j : Int)) (by kernel_rfl) (by kernel_rfl) rfl (by kernel_rfl) (by kernel_rfl) (by kernel_rfl) (fun _ _ _ h => h) (Or.inl ⟨by rfl, ?_⟩) (hS0) ?_
            · intro w hSw
              obtain ⟨q0, q1, q2, q3, q4, q5⟩ := hSw
              go_simp
            try simp only [Act.put, List.setIfInBounds_toArray, List.set_cons_zero, List.set_cons_succ]
            refine wpAnyM_ready (rs := [4]) (by kernel_rfl) (by simp) ?_
            intro i hi
            simp only [List.mem_cons, List.not_mem_nil, or_false] at hi
            subst hi
            refine stepM (o := { dst := some 85, op := Op.call { callee := Callee.value (Operand.func 25), args := #[Operand.tmp 83, Operand.tmp 84], argTypes := #[69, 3] }, type := 69, pos := "inline.go:27", after := #[{ on := 2, ground := Ground.data }, { on := 3, ground := Ground.data }], guard := none }) rfl (fun K' hK => ?_)
            refine step_call rfl 25 (.func 25) #[.tmp 83, .tmp 84] _ rfl #[] rfl #[IV x, .int .i64 (j : Int)] (by simp [Act.eval, Act.put]) (cf26 _ _) ?_
            refine (show Calls Try.prog 25 #[IV x, .int .i64 (j : Int)] V.drew _ from (staying_any x (j : Int) V.drew).mono ?_)
            rintro e w5 ⟨rfl, hb5⟩
            refine ⟨_, rfl, ?_⟩
            have hbV5 : Below V.heap.size V w5 := nstep (Below.refl _ V).drew hb5
            obtain ⟨y, hye⟩ : ∃ y, stayE x (j : Int) = y := ⟨_, rfl⟩
            simp only [hye]
            refine hK _ _ (fun _ => ?_) ?_
            · exact hSl _ hbV5
            clear hK K'
            try simp only [Act.put, List.setIfInBounds_toArray, List.set_cons_zero, List.set_cons_succ]
            refine wpAnyM_ready (rs := [5]) (by kernel_rfl) (by simp) ?_
            intro i hi
            simp only [List.mem_cons, List.not_mem_nil, or_false] at hi
            subst hi
            refine stepM (o := { dst := some 86, op := Op.buildSlice 33 1 #[(0, Operand.tmp 85)], type := 33, pos := "inline.go:27", after := #[{ on := 4, ground := Ground.data }], guard := none }) rfl (fun K' hK => ?_)
            go_simp
            refine hK _ _ (fun _ => ?_) ?_
            · exact hSl _ (nstep hbV5 (bel1 _ _))
            clear hK K'
            try simp only [Act.put, List.setIfInBounds_toArray, List.set_cons_zero, List.set_cons_succ]
            refine wpAnyM_ready (rs := [6]) (by kernel_rfl) (by simp) ?_
            intro i hi
            simp only [List.mem_cons, List.not_mem_nil, or_false] at hi
            subst hi
            refine stepM (o := { dst := some 87, op := Op.call { callee := Callee.builtin Builtin.append, args := #[Operand.tmp 82, Operand.tmp 86], argTypes := #[33, 33] }, type := 33, pos := "inline.go:27", after := #[{ on := 1, ground := Ground.data }, { on := 5, ground := Ground.data }, { on := 4, ground := Ground.chain }], guard := none }) rfl (fun K' hK => ?_)
            have hL5 := (hL.later hbV5).later (bel1 w5 (.cells #[.int .i64 y.op, .int .i64 y.a, .int .i64 y.b, .int .i64 y.c, .string y.name] 69))
            obtain ⟨v', w', hrun, r1, r2, r3, r4⟩ := run_append_at (w := w5.alloc (.cells #[.int .i64 y.op, .int .i64 y.a, .int .i64 y.b, .int .i64 y.c, .string y.name] 69)) 33 33 69 _ 5 48 Try.underlying33 info69 rfl (by omega) (bm + 3) s.code.length (.slice a s.code.length cap) (icells s.code) hL5.own w5.heap.size [.int .i64 y.op, .int .i64 y.a, .int .i64 y.b, .int .i64 y.c, .string y.name] rfl (heap_alloc_new w5 _) (by intro u hu; simp only [List.mem_cons, List.not_mem_nil, or_false] at hu; rcases hu with h | h | h | h | h <;> (subst h; rfl)) (by unfold maxLen; omega) (by omega) hL5.sz
            obtain ⟨a', cap', rfl, -⟩ := r1.form
            refine step_append_run rfl (.tmp 82) (.tmp 86) 33 rfl (.slice a s.code.length cap) (.slice (some ⟨w5.heap.size, 0, none⟩) 1 1) (.slice a' (s.code.length + 1) cap') (by simp [Act.eval, Act.put]) (by simp [Act.eval, Act.put]) hrun ?_
            have hO' := OwnI.more (ys := [y]) r1 rfl rfl
            have hN0 := hL5.setC hO' r3
            simp only [List.length_append, List.length_cons, List.length_nil, Nat.zero_add] at hN0
            have hN := hid hN0
            have d4 : w'.cell? ⟨bm + 1, 4, none⟩ = some (.slice a s.code.length cap) := by unfold World.cell?; rw [r3.block (bm + 1) (by omega)]; exact hL5.f4
            have df : ∀ o, w'.frozen? ⟨bm + 1, o, none⟩ = false := row_free (by rw [r3.block (bm + 1) (by omega)]; exact hL5.fb)
            have hS6 : w'.cell? ⟨bm + 1, 4, none⟩ = some (.slice a s.code.length cap) ∧ w'.cell? ⟨bx, 0, none⟩ = some (.int .i64 x.op) ∧ w'.cell? ⟨bx, 1, none⟩ = some (.int .i64 x.a) ∧ w'.cell? ⟨bx, 2, none⟩ = some (.int .i64 x.b) ∧ w'.cell? ⟨bx, 3, none⟩ = some (.int .i64 x.c) ∧ w'.cell? ⟨bx, 4, none⟩ = some (.string x.name) := by
              obtain ⟨e0, e1, e2, e3, e4, e5⟩ := hSl _ (nstep hbV5 (bel1 w5 (.cells #[.int .i64 y.op, .int .i64 y.a, .int .i64 y.b, .int .i64 y.c, .string y.name] 69)))
              have hxo : ∀ o v, (w5.alloc (.cells #[.int .i64 y.op, .int .i64 y.a, .int .i64 y.b, .int .i64 y.c, .string y.name] 69)).cell? ⟨bx, o, none⟩ = some v → w'.cell? ⟨bx, o, none⟩ = some v := fun o v h => by
                unfold World.cell? at h ⊢
                rw [r4 bx (World.block_lt_of_cell? _ ⟨bx, o, none⟩ h) HBX.out]
                exact h
              exact ⟨d4, hxo _ _ e1, hxo _ _ e2, hxo _ _ e3, hxo _ _ e4, hxo _ _ e5⟩
            refine hK _ _ (fun _ => ?_) ?_
            · exact hS6
            clear hK K'
            try simp only [Act.put, List.setIfInBounds_toArray, List.set_cons_zero, List.set_cons_succ]
            refine wpAnyM_take (i := 7) (oi := { dst := some 88, op := Op.fieldAddr 35 (Operand.tmp 11) 4, type := 0, pos := "inline.go:27", after := #[{ on := 0, ground := Ground.phase }, { on := 1, ground := Ground.phase }, { on := 2, ground := Ground.phase }, { on := 3, ground := Ground.phase }, { on := 4, ground := Ground.phase }, { on := 5, ground := Ground.phase }, { on := 6, ground := Ground.phase }], guard := none }) (v := .pointer (some ⟨bm + 1, 4, none⟩)) (by kernel_rfl) (by kernel_rfl) rfl (by kernel_rfl) (by kernel_rfl) (by kernel_rfl) (fun _ _ _ h => h) (Or.inl ⟨by rfl, ?_⟩) (hS6) ?_
            · intro w hSw
              obtain ⟨q0, q1, q2, q3, q4, q5⟩ := hSw
              go_simp
            try simp only [Act.put, List.setIfInBounds_toArray, List.set_cons_zero, List.set_cons_succ]
            refine wpAnyM_ready (rs := [8]) (by kernel_rfl) (by simp) ?_
            intro i hi
            simp only [List.mem_cons, List.not_mem_nil, or_false] at hi
            subst hi
            refine stepM (o := { dst := none, op := Op.store 33 (Operand.tmp 88) (Operand.tmp 87), type := 0, pos := "inline.go:27", after := #[{ on := 7, ground := Ground.data }, { on := 6, ground := Ground.data }, { on := 6, ground := Ground.chain }, { on := 0, ground := Ground.phase }, { on := 1, ground := Ground.phase }, { on := 2, ground := Ground.phase }, { on := 3, ground := Ground.phase }, { on := 4, ground := Ground.phase }, { on := 5, ground := Ground.phase }, { on := 6, ground := Ground.phase }], guard := none }) rfl (fun K' hK => ?_)
            go_simp
            refine hK _ _ (fun h => absurd h (by decide)) ?_
            clear hK K'
            try simp only [Act.put, List.setIfInBounds_toArray, List.set_cons_zero, List.set_cons_succ]
            refine wpAnyM_done (by kernel_rfl) ?_ _
            try simp only [Act.put, List.setIfInBounds_toArray, List.set_cons_zero, List.set_cons_succ]

            have HFin := hid ((HSTAY.out y hye _ _ _ hN.out))
            go_wp2
            go_roundg (m.code.length - (j + 1))
            case measure => omega
            case rel => exact HFin.out
    · obtain rfl : j = m.code.length := by omega
      have HFM : Hid (fastM X (qc : Int) m sites = if (buildB X.classes sites m m.code.length).pieces = 0 then (noFast, false) else (⟨(qc : Int), m.name, X.epoch, (buildB X.classes sites m m.code.length).temps, ledE (buildB X.classes sites m m.code.length).begins m.code (buildB X.classes sites m m.code.length).code m.code.length⟩, true)) := rfl
      have HBG := hid (build_begins (xs := X.classes) (sites := sites) (m := m) (k := m.code.length) (Nat.le_refl _))
      have HPS := hid (build_pieces (xs := X.classes) (sites := sites) (m := m) m.code.length)
      have HIN := hid (build_in (xs := X.classes) (sites := sites) (m := m) m.code.length)
      have HNM := hid (build_nm hC (sites := sites) (nm_of hC hm) m.code.length)
      obtain ⟨i1, i2, i3, i4⟩ := build_small hX hSm (sites := sites) (k := m.code.length) (Nat.le_refl _)
      simp only [Nat.sub_self, List.replicate_zero, List.append_nil] at hL
      generalize buildB X.classes sites m m.code.length = s at *
      have hBr := hL.below hBZ (by omega)
      have q0 := hL.old (by omega) hzZ.z0
      have q1 := hL.old (by omega) hzZ.z1
      have q2 := hL.old (by omega) hzZ.z2
      have q3 := hL.old (by omega) hzZ.z3
      have q4 := hL.old (by omega) hzZ.z4
      have qf : ∀ o, wr.frozen? ⟨w.heap.size + 1, o, none⟩ = false := fun o => by
        have := hzZ.zf o
        unfold World.frozen? at this ⊢
        rw [hL.fix (w.heap.size + 1) (by omega)]; exact this
      by_cases hp : s.pieces = 0
      · have HZ : Hid (fastM X (qc : Int) m sites = (noFast, false)) := by show _ = _; rw [HFM.out, if_pos hp]
        have hp' : ((s.pieces : Int) == 0) = true := by simp [hp]
        have HQ := hid (mt_none (U := wr) hBr)
        clear HFM hp
        go_wp2
        rw [HZ.out]
        refine bodyPost_ret (v := .tuple #[FsV noFast (.slice none 0 0), .bool false]) ?_ rfl HQ.out
        simp [results, Try.results14, go_sem, q0, q1, q2, q3, q4, noFast]
      · have hpn : ((s.pieces : Int) == 0) = false := by simp; omega
        have hcl : 0 < s.code.length := by have := HPS.out; omega
        have HZ : Hid (fastM X (qc : Int) m sites = (⟨(qc : Int), m.name, X.epoch, s.temps, ledE s.begins m.code s.code m.code.length⟩, true)) := by show _ = _; rw [HFM.out, if_neg hp]
        obtain ⟨g, o, hao⟩ : ∃ g o, a = some ⟨g, o, none⟩ := by
          obtain ⟨-, h | ⟨g', o', c', cur, e, -⟩⟩ := hL.own
          · have := h.2; omega
          · cases e; exact ⟨_, _, rfl⟩
        subst hao
        have hgo := hL.own.lt g rfl
        have f4 := hL.f4
        have m4 := hL.m4
        have hints : IsInts (fun b => b = bm + 2) wr (.slice (some ⟨bm + 2, 0, none⟩) m.code.length m.code.length) s.begins := by
          have hl := HBG.out
          refine ⟨_, _, by rw [hl], by omega, by unfold maxLen; omega, by omega, fun i x hx => ⟨bm + 2, 0, rfl, rfl, ?_⟩⟩
          show wr.cell? ⟨bm + 2, 0 + i * 1 + 0, none⟩ = _
          rw [show 0 + i * 1 + 0 = i by omega]
          exact hL.g hx
        clear hp HFM HPS
        go_wp2_with fail
        refine (lead_any s.code m.code s.begins g o cap (bm + 3) _ _ wr hL.own (hco.later goodI hBr) hints (fun b hb => by omega) (fun b hb => by omega) HBG.out hn60 HIN.out).mono ?_
        rintro e w5 ⟨rfl, hO5, hb5, hblk5⟩
        dsimp only
        have hs5 := hb5.size
        have hszw := hL.sz
        have hfb5 : w5.heap[bm + 1]? = some (.cells #[.int .i64 (qc : Int), .string m.name, .int .i64 X.epoch, .int .i64 s.temps, .slice (some ⟨g, o, none⟩) s.code.length cap] 35 (0, 0)) := by rw [hblk5 (bm + 1) (by omega) (by omega)]; exact hL.fb
        have hold : ∀ k v, wr.cell? ⟨w.heap.size + 1, k, none⟩ = some v → w5.cell? ⟨w.heap.size + 1, k, none⟩ = some v := fun k v h => by unfold World.cell? at h ⊢; rw [hblk5 (w.heap.size + 1) (by omega) (by omega)]; exact h
        replace q0 := hold _ _ q0
        replace q1 := hold _ _ q1
        replace q2 := hold _ _ q2
        replace q3 := hold _ _ q3
        replace q4 := hold _ _ q4
        replace qf : ∀ o, w5.frozen? ⟨w.heap.size + 1, o, none⟩ = false := fun o => by have := qf o; unfold World.frozen? at this ⊢; rw [hblk5 (w.heap.size + 1) (by omega) (by omega)]; exact this
        have p0 : w5.cell? ⟨bm + 1, 0, none⟩ = some (.int .i64 (qc : Int)) := by rw [cell_of_row _ _ _ _ _ _ hfb5]; rfl
        have p1 : w5.cell? ⟨bm + 1, 1, none⟩ = some (.string m.name) := by rw [cell_of_row _ _ _ _ _ _ hfb5]; rfl
        have p2 : w5.cell? ⟨bm + 1, 2, none⟩ = some (.int .i64 X.epoch) := by rw [cell_of_row _ _ _ _ _ _ hfb5]; rfl
        have p3 : w5.cell? ⟨bm + 1, 3, none⟩ = some (.int .i64 s.temps) := by rw [cell_of_row _ _ _ _ _ _ hfb5]; rfl
        have p4 : w5.cell? ⟨bm + 1, 4, none⟩ = some (.slice (some ⟨g, o, none⟩) s.code.length cap) := by rw [cell_of_row _ _ _ _ _ _ hfb5]; rfl
        have hLed := ledE_len s.begins m.code s.code m.code.length
        have hrow5 : IsCode (fun b => w.heap.size + 2 ≤ b ∧ b < w5.heap.size) w5 (.slice (some ⟨g, o, none⟩) (ledE s.begins m.code s.code m.code.length).length cap) (ledE s.begins m.code s.code m.code.length) := ic_row hO5 (led_nm HNM.out _) (fun b h1 h2 => ⟨by omega, h2⟩) (by omega)
        have hB5 : Below w.heap.size w w5 := hBr.trans ⟨hb5.os, hb5.tape, hb5.output, hb5.size, fun b hb => hb5.block b (by omega)⟩
        have HQ := hid (mt_fin (U := w5) (r := (⟨(qc : Int), m.name, X.epoch, s.temps, ledE s.begins m.code s.code m.code.length⟩, true)) hB5 hrow5)
        simp only [hLed] at HQ
        clear hold hrow5 hO5 hfb5 hblk5 hb5 f4 m4 hints hLed
        go_wp2
        rw [HZ.out]
        refine bodyPost_ret (v := .tuple #[FsV ⟨(qc : Int), m.name, X.epoch, s.temps, ledE s.begins m.code s.code m.code.length⟩ (.slice (some ⟨g, o, none⟩) s.code.length cap), .bool true]) ?_ rfl HQ.out
        simp [results, Try.results14, go_sem, q0, q1, q2, q3, q4]
end Go.Proofs.Ytlekfiglefopgaa

/- Inline: Method, whatever the method. -/
namespace Go.Proofs.Ytlekfiglefopgaa
open Go.ChangeShapes Go.WideShapes Go.ChangeAt Go.RowKit
set_option linter.unusedSimpArgs false
set_option linter.unusedVariables false
set_option maxRecDepth 8000

def methodA (X : QW) (c k : Int) (sites : List Int) : Fst × Bool := match methAt X.classes c k with
  | none => (noFast, false)
  | some m => fastM X c m sites
theorem methodN_any {P Q : Nat → Prop} (X : QW) (c k : Int) (hm : methAt X.classes c k = none) (sites : List Int) (cv hv sv : Value) (w : World) (hC : IsClasses P w cv X.classes) (hH : IsHeap P w hv X.heap) (hS : IsInts Q w sv sites) :
    Calls Try.prog 14 #[WV cv hv X.epoch, .int .i64 c, .int .i64 k, sv] w fun e w' => MtPost w (noFast, false) e w' := by
  obtain ⟨ac, cc, rfl, -, hcc, -, -⟩ := id hC
  obtain ⟨ah, ch, rfl, -⟩ := id hH
  have hbW := bel2 w (.cells #[.slice ac X.classes.length cc, .slice ah X.heap.length ch, .int .i64 X.epoch] 25) (.cells #[.int .i64 0, .string ⟨#[]⟩, .int .i64 0, .int .i64 0, .slice none 0 0] 35)
  go_enter Try.func14, Try.ntmps14
  go_wp2_with fail
  refine (ihas_any X c k _ _ _ (hC.later goodC hbW) (hH.later goodO hbW)).mono ?_
  rintro e w1 ⟨rfl, hb1⟩
  rw [show methQ X.classes c k = none from hm]
  dsimp only
  have hB1 := nstep hbW hb1
  have zz := rbx_new w (.slice ac X.classes.length cc) (.slice ah X.heap.length ch) X.epoch
  replace zz := zz.later hb1
  obtain ⟨k0, k1, k2, q0, q1, q2, q3, q4, qf, hzz⟩ := id zz
  have HQ := hid (mt_none (U := w1) hB1)
  go_wp2
  refine bodyPost_ret (v := .tuple #[FsV noFast (.slice none 0 0), .bool false]) ?_ rfl HQ.out
  simp [results, Try.results14, go_sem, q0, q1, q2, q3, q4, noFast]
theorem method_any {P Q : Nat → Prop} (X : QW) (hX : rightE X = 0) (c k : Int) (sites : List Int) (cv hv sv : Value) (w : World) (hC : IsClasses P w cv X.classes) (hH : IsHeap P w hv X.heap) (hS : IsInts Q w sv sites) :
    Calls Try.prog 14 #[WV cv hv X.epoch, .int .i64 c, .int .i64 k, sv] w fun e w' => MtPost w (methodA X c k sites) e w' := by
  unfold methodA
  cases hm : methAt X.classes c k with
  | none => exact methodN_any X c k hm sites cv hv sv w hC hH hS
  | some m => exact methodC_any X hX c k m hm sites cv hv sv w hC hH hS
end Go.Proofs.Ytlekfiglefopgaa

/- The sites of a method: the program's side. -/
namespace Go.Proofs.Ytlekfiglefopgaa
open Go.ChangeShapes Go.WideShapes Go.ChangeAt Go.RowKit
set_option linter.unusedSimpArgs false
set_option linter.unusedVariables false

/-- The method of that number of the class of that number. -/
def methN (xs : List QC) (c k : Int) : Option QM := (clsAt xs c).bind fun x => if 0 ≤ k then x.methods[k.toNat]? else none
theorem methN_some {xs : List QC} {c k : Int} {m : QM} (h : methN xs c k = some m) : ∃ (q t : Nat) (x : QC), c = (q : Int) ∧ k = (t : Int) ∧ xs[q]? = some x ∧ x.methods[t]? = some m := by
  unfold methN at h
  cases hx : clsAt xs c with
  | none => rw [hx] at h; cases h
  | some x =>
    rw [hx] at h
    obtain ⟨q, rfl, hq⟩ := clsAt_some hx
    simp only [Option.bind_some] at h
    split at h
    · rename_i hk
      exact ⟨q, k.toNat, x, rfl, by omega, hq, h⟩
    · cases h
theorem methN_no {xs : List QC} {c k : Int} (h : methN xs c k = none) : c < 0 ∨ (xs.length : Int) ≤ c ∨ ∃ (q : Nat) (x : QC), c = (q : Int) ∧ xs[q]? = some x ∧ (k < 0 ∨ (x.methods.length : Int) ≤ k) := by
  unfold methN at h
  cases hx : clsAt xs c with
  | none =>
    have := clsAt_has (xs := xs) (c := c)
    rw [hx] at this
    simp [hasB] at this
    omega
  | some x =>
    rw [hx] at h
    obtain ⟨q, rfl, hq⟩ := clsAt_some hx
    simp only [Option.bind_some] at h
    right; right
    refine ⟨q, x, rfl, hq, ?_⟩
    by_cases hk : 0 ≤ k
    · rw [if_pos hk] at h
      have := List.getElem?_eq_none_iff.1 h
      omega
    · omega
/-- What is told of an instruction. -/
def siteAt (X : QW) (t : List QT) (c : Int) (m : QM) (j : Nat) (i : QI) : Int := if i.op == 14 then siteE X t ⟨c, m.name, j⟩ i.name i.a else -1
def sitesE (X : QW) (t : List QT) (c k : Int) : List Int := match methN X.classes c k with
  | some m => m.code.mapIdx (siteAt X t c m)
  | none => []

set_option maxHeartbeats 1000000 in
theorem chas_any {P : Nat → Prop} (X : QW) (c k : Int) (cv hv : Value) (w : World) (hC : IsClasses P w cv X.classes) (hH : IsHeap P w hv X.heap) : Calls Try.prog 29 #[WV cv hv X.epoch, .int .i64 c, .int .i64 k] w fun e w' => e = .returned (.bool (methN X.classes c k).isSome) ∧ Below w.heap.size w w' := by
  obtain ⟨ad, cap, rfl, hl, hcap, -, hrow⟩ := hC
  obtain ⟨ah, ch, rfl, -⟩ := hH
  cases hm : methN X.classes c k with
  | none =>
    rcases methN_no hm with h | h | ⟨q, x, rfl, hx, h⟩
    · have hd : decide (0 ≤ c) = false := by simpa using h
      clear hrow
      go_enter Try.func29, Try.ntmps29
      go_wp2
      go_ret
      exact ⟨rfl, bel1 _ _⟩
    · have hd : decide (c < (X.classes.length : Int)) = false := by simpa using h
      have hd0 : decide (0 ≤ c) = true := by simp; omega
      clear hrow
      go_enter Try.func29, Try.ntmps29
      go_wp2
      go_ret
      exact ⟨rfl, bel1 _ _⟩
    · have hq := lt_of_get hx
      have hq0 : (0 : Int) ≤ (q : Int) := by omega
      have hq1 : (q : Int) < (X.classes.length : Int) := by omega
      obtain ⟨b, o, rfl, -, -, -, -, -, mv, hv3, hms⟩ := hrow q x hx
      obtain ⟨am, cm, rfl, -⟩ := hms
      have k3 := fun y => cell_later (bel1 w y) hv3
      clear hrow hx hm
      by_cases h0 : k < 0
      · have hd : decide (0 ≤ k) = false := by simpa using h0
        go_enter Try.func29, Try.ntmps29
        go_wp2
        go_ret
        exact ⟨rfl, bel1 _ _⟩
      · have hd0 : decide (0 ≤ k) = true := by simp; omega
        have hd : decide (k < (x.methods.length : Int)) = false := by simp; omega
        go_enter Try.func29, Try.ntmps29
        go_wp2
        go_ret
        exact ⟨rfl, bel1 _ _⟩
  | some m =>
    obtain ⟨q, t, x, rfl, rfl, hx, hy⟩ := methN_some hm
    have hq := lt_of_get hx
    have ht := lt_of_get hy
    have hq0 : (0 : Int) ≤ (q : Int) := by omega
    have hq1 : (q : Int) < (X.classes.length : Int) := by omega
    have ht0 : (0 : Int) ≤ (t : Int) := by omega
    have ht1 : (t : Int) < (x.methods.length : Int) := by omega
    obtain ⟨b, o, rfl, -, -, -, -, -, mv, hv3, hms⟩ := hrow q x hx
    obtain ⟨am, cm, rfl, -⟩ := hms
    have k3 := fun y => cell_later (bel1 w y) hv3
    clear hrow hx hm hy
    go_enter Try.func29, Try.ntmps29
    go_wp2
    go_ret
    exact ⟨rfl, bel1 _ _⟩

set_option maxHeartbeats 1000000 in
theorem each_any {P : Nat → Prop} (p4 p5 p6 p9 : Value) (f : Nat → QI → Int) (xs : List QI) (v : Value) (w : World) (hh : IsCode P w v xs)
    (hF : ∀ (j : Nat) (x : QI) (w' : World), Below w.heap.size w w' → Calls Try.prog 31 #[.int .i64 j, IV x, p4, p5, p6, p9] w' fun e w'' => e = .returned (.int .i64 (f j x)) ∧ Below w'.heap.size w' w'') :
    Calls Try.prog 30 #[v, .func (.func 31) #[] #[p4, p5, p6, p9]] w fun e w' => e = .returned (.slice (some ⟨w.heap.size, 0, none⟩) xs.length xs.length) ∧ w'.heap[w.heap.size]? = some (hRow (xs.mapIdx fun j x => if x.op == 14 then f j x else -1)) ∧ Below w.heap.size w w' := by
  obtain ⟨ad, cap, rfl, hl, hcap, hby, hrow⟩ := hh
  have hmk := make_ints xs.length (by omega)
  have hb0 := bel1 w (hRow (List.replicate xs.length 0))
  have hg0 := heap_alloc_new w (hRow (List.replicate xs.length 0))
  go_enter Try.func30, Try.ntmps30
  go_wp2
  go_loopg [13] xs.length (fun g c wr => ∃ (j : Nat) (h : List Int), j + g = xs.length ∧ c = .int .i64 j ∧ h.length = xs.length ∧ (∀ i y, i < j → xs[i]? = some y → h[i]? = some (if y.op == 14 then f i y else -1)) ∧ wr.heap[w.heap.size]? = some (hRow h) ∧ Below w.heap.size w wr)
  case atStart => exact ⟨0, List.replicate xs.length 0, by omega, rfl, by simp, fun i y hi => by omega, hg0, hb0⟩
  case round =>
    obtain ⟨j, h, hj, rfl, hlen, hno, hg, hbel⟩ := hrel
    have HN : Hid (∀ i y, i < j → xs[i]? = some y → h[i]? = some (if y.op == 14 then f i y else -1)) := hno
    clear hno hg0 hb0
    by_cases hlt : j < xs.length
    · obtain ⟨b, o, rfl, -, hv0, hv1, hv2, hv3, hv4, hsz⟩ := hrow j xs[j] (by simp [hlt])
      have hxj : Hid (xs[j]? = some xs[j]) := by show _ = _; simp [hlt]
      generalize xs[j] = x at *
      simp only [Nat.add_zero] at hv0
      have u0 := cell_later hbel hv0
      have u1 := cell_later hbel hv1
      have u2 := cell_later hbel hv2
      have u3 := cell_later hbel hv3
      have u4 := cell_later hbel hv4
      clear hv0 hv1 hv2 hv3 hv4 hrow
      have hj1 : (j : Int) < (xs.length : Int) := by omega
      have hj0 : (0 : Int) ≤ (j : Int) := by omega
      have hbx := bel1 wr (Obj.cells #[Value.int IntKind.i64 x.op, Value.int IntKind.i64 x.a, Value.int IntKind.i64 x.b, Value.int IntKind.i64 x.c, Value.string x.name] 69)
      have hg1 : (wr.alloc (Obj.cells #[Value.int IntKind.i64 x.op, Value.int IntKind.i64 x.a, Value.int IntKind.i64 x.b, Value.int IntKind.i64 x.c, Value.string x.name] 69)).heap[w.heap.size]? = some (hRow h) := by rw [hbx.block _ (blk_lt hg)]; exact hg
      have hgl := blk_lt hg
      have gc := hRow_cell hg1 (k := j) (by omega)
      have gf := hRow_free hg1 j
      have n0 : (wr.alloc (Obj.cells #[Value.int IntKind.i64 x.op, Value.int IntKind.i64 x.a, Value.int IntKind.i64 x.b, Value.int IntKind.i64 x.c, Value.string x.name] 69)).cell? ⟨wr.heap.size, 0, none⟩ = some (.int .i64 x.op) := by rw [cell_new _ _ _ _ rfl]; rfl
      have n1 : (wr.alloc (Obj.cells #[Value.int IntKind.i64 x.op, Value.int IntKind.i64 x.a, Value.int IntKind.i64 x.b, Value.int IntKind.i64 x.c, Value.string x.name] 69)).cell? ⟨wr.heap.size, 1, none⟩ = some (.int .i64 x.a) := by rw [cell_new _ _ _ _ rfl]; rfl
      have n2 : (wr.alloc (Obj.cells #[Value.int IntKind.i64 x.op, Value.int IntKind.i64 x.a, Value.int IntKind.i64 x.b, Value.int IntKind.i64 x.c, Value.string x.name] 69)).cell? ⟨wr.heap.size, 2, none⟩ = some (.int .i64 x.b) := by rw [cell_new _ _ _ _ rfl]; rfl
      have n3 : (wr.alloc (Obj.cells #[Value.int IntKind.i64 x.op, Value.int IntKind.i64 x.a, Value.int IntKind.i64 x.b, Value.int IntKind.i64 x.c, Value.string x.name] 69)).cell? ⟨wr.heap.size, 3, none⟩ = some (.int .i64 x.c) := by rw [cell_new _ _ _ _ rfl]; rfl
      have n4 : (wr.alloc (Obj.cells #[Value.int IntKind.i64 x.op, Value.int IntKind.i64 x.a, Value.int IntKind.i64 x.b, Value.int IntKind.i64 x.c, Value.string x.name] 69)).cell? ⟨wr.heap.size, 4, none⟩ = some (.string x.name) := by rw [cell_new _ _ _ _ rfl]; rfl
      have hbw := nstep hbel hbx
      go_upto_region 5 with (fail)
      generalize hbb : wr.heap.size = bi at *
      generalize (wr.alloc (Obj.cells #[Value.int IntKind.i64 x.op, Value.int IntKind.i64 x.a, Value.int IntKind.i64 x.b, Value.int IntKind.i64 x.c, Value.string x.name] 69)) = W1 at *
      have hne : bi ≠ w.heap.size := by omega
      clear hbx u0 u1 u2 u3 u4 hg hbel hbb
      have hg2 := hRow_set hg1 j (-1)
      have m0 := (World.cell?_setCell_other W1 ⟨w.heap.size, j, none⟩ ⟨bi, 0, none⟩ (.int .i64 (-1)) (by simp [hne])).trans n0
      have m1 := (World.cell?_setCell_other W1 ⟨w.heap.size, j, none⟩ ⟨bi, 1, none⟩ (.int .i64 (-1)) (by simp [hne])).trans n1
      have m2 := (World.cell?_setCell_other W1 ⟨w.heap.size, j, none⟩ ⟨bi, 2, none⟩ (.int .i64 (-1)) (by simp [hne])).trans n2
      have m3 := (World.cell?_setCell_other W1 ⟨w.heap.size, j, none⟩ ⟨bi, 3, none⟩ (.int .i64 (-1)) (by simp [hne])).trans n3
      have m4 := (World.cell?_setCell_other W1 ⟨w.heap.size, j, none⟩ ⟨bi, 4, none⟩ (.int .i64 (-1)) (by simp [hne])).trans n4
      have hb2 : Below w.heap.size w (W1.setCell ⟨w.heap.size, j, none⟩ (.int .i64 (-1))) := hbw.setCell (Nat.le_refl _) _
      go_upto_region 6 with (fail)
      generalize (W1.setCell { block := w.heap.size, off := j } (Value.int IntKind.i64 (-1))) = W2 at *
      clear n0 n1 n2 n3 n4 hg1 gc gf hbw
      have HQ : Hid (∀ v : Int, v = (if x.op == 14 then f j x else -1) → ∀ i y, i < j + 1 → xs[i]? = some y → ((h.set j (-1)).set j v)[i]? = some (if y.op == 14 then f i y else -1)) := fun v hv i y hi hy => by
        by_cases hij : i = j
        · subst hij
          rw [hxj.out] at hy; cases hy
          rw [hv]
          simp [hlen, hlt]
        · rw [List.getElem?_set_ne (by omega), List.getElem?_set_ne (by omega)]
          exact HN.out i y (by omega) hy
      by_cases h14 : x.op = 14
      · have hd : (x.op == 14) = true := by simpa using h14
        have HV : Hid (∀ i y, i < j + 1 → xs[i]? = some y → ((h.set j (-1)).set j (f j x))[i]? = some (if y.op == 14 then f i y else -1)) := HQ.out _ (by rw [hd]; simp)
        clear h14 HQ HN
        go_wp2_with fail
        refine (hF j x _ hb2).mono ?_
        rintro e w3 ⟨rfl, hb3⟩
        have hg3 : w3.heap[w.heap.size]? = some (hRow (h.set j (-1))) := by rw [hb3.block _ (blk_lt hg2)]; exact hg2
        have gc := hRow_cell hg3 (k := j) (by simp; omega)
        have gf := hRow_free hg3 j
        have hg4 := hRow_set hg3 j (f j x)
        have hb4 : Below w.heap.size w (w3.setCell ⟨w.heap.size, j, none⟩ (.int .i64 (f j x))) := (nstep hb2 hb3).setCell (Nat.le_refl _) _
        clear hg2 m0 m1 m2 m3 m4 hb3
        go_wp2
        go_roundg (gk - 1)
        case measure => omega
        case rel => exact ⟨j + 1, _, by omega, by go_num, by simp; exact hlen, HV.out, hg4, hb4⟩
      · have hd : (x.op == 14) = false := by simpa using h14
        have HV : Hid (∀ i y, i < j + 1 → xs[i]? = some y → (h.set j (-1))[i]? = some (if y.op == 14 then f i y else -1)) := by
          have := HQ.out (-1) (by rw [hd]; simp)
          rw [List.set_set] at this
          exact this
        clear h14 HQ HN
        go_wp2
        go_roundg (gk - 1)
        case measure => omega
        case rel => exact ⟨j + 1, _, by omega, by go_num, by simp; exact hlen, HV.out, hg2, hb2⟩
    · obtain rfl : j = xs.length := by omega
      go_wp2
      go_ret
      refine ⟨rfl, ?_, hbel⟩
      rw [hg]
      congr 3
      refine List.ext_getElem? fun i => ?_
      by_cases hi : i < xs.length
      · have hx : xs[i]? = some xs[i] := by simp [hi]
        rw [HN.out i _ hi hx]
        simp [hi]
      · rw [List.getElem?_eq_none (by omega), List.getElem?_eq_none (by simp; omega)]
theorem sites1_any {P P2 : Nat → Prop} (X : QW) (t : List QT) (c : Int) (m : QM) (j : Nat) (x : QI) (b0 b1 b2 b3 : Nat) (cv hv tv : Value) (w : World) (hC : IsClasses P w cv X.classes) (hH : IsHeap P w hv X.heap) (hT : IsTallies P2 w tv t)
    (k0 : w.cell? ⟨b0, 0, none⟩ = some cv) (k1 : w.cell? ⟨b0, 1, none⟩ = some hv) (k2 : w.cell? ⟨b0, 2, none⟩ = some (.int .i64 X.epoch)) (k3 : w.cell? ⟨b1, 0, none⟩ = some tv) (k4 : w.cell? ⟨b2, 0, none⟩ = some (.int .i64 c)) (k5 : w.cell? ⟨b3, 0, none⟩ = some (.string m.name)) :
    Calls Try.prog 31 #[.int .i64 j, IV x, .pointer (some ⟨b0, 0, none⟩), .pointer (some ⟨b1, 0, none⟩), .pointer (some ⟨b2, 0, none⟩), .pointer (some ⟨b3, 0, none⟩)] w fun e w' => e = .returned (.int .i64 (siteE X t ⟨c, m.name, j⟩ x.name x.a)) ∧ Below w.heap.size w w' := by
  obtain ⟨ad, cap, rfl, -⟩ := id hC
  obtain ⟨ah, ch, rfl, -⟩ := id hH
  obtain ⟨at', ct, rfl, -⟩ := id hT
  have k0' := fun y => cell_later (bel1 w y) k0
  have k1' := fun y => cell_later (bel1 w y) k1
  have k2' := fun y => cell_later (bel1 w y) k2
  have k3' := fun y => cell_later (bel1 w y) k3
  have k4' := fun y => cell_later (bel1 w y) k4
  have k5' := fun y => cell_later (bel1 w y) k5
  clear k0 k1 k2 k3 k4 k5
  go_enter Try.func31, Try.ntmps31
  go_wp2_with fail
  refine (site_any X t ⟨c, m.name, j⟩ x.name x.a _ _ _ _ (hC.later goodC (bel1 _ _)) (hH.later goodO (bel1 _ _)) (hT.later goodT (bel1 _ _))).mono ?_
  rintro e w1 ⟨rfl, hb⟩
  go_wp2
  go_ret
  exact ⟨rfl, nstep1 (Below.refl _ _) hb⟩

/-- The boxes of Sites. -/
structure SitB (w : World) (cv hv tv : Value) (ep c : Int) (w' : World) : Prop where
  k0 : w'.cell? ⟨w.heap.size, 0, none⟩ = some cv
  k1 : w'.cell? ⟨w.heap.size, 1, none⟩ = some hv
  k2 : w'.cell? ⟨w.heap.size, 2, none⟩ = some (.int .i64 ep)
  k3 : w'.cell? ⟨w.heap.size + 1, 0, none⟩ = some tv
  k4 : w'.cell? ⟨w.heap.size + 1 + 1, 0, none⟩ = some (.int .i64 c)
  bel : Below w.heap.size w w'
theorem SitB.later {w : World} {cv hv tv : Value} {ep c : Int} {w' w'' : World} (h : SitB w cv hv tv ep c w') (hb : Below w'.heap.size w' w'') : SitB w cv hv tv ep c w'' :=
  ⟨cell_later hb h.k0, cell_later hb h.k1, cell_later hb h.k2, cell_later hb h.k3, cell_later hb h.k4, nstep h.bel hb⟩
theorem sitB_new (w : World) (cv hv tv : Value) (ep c : Int) : SitB w cv hv tv ep c (((w.alloc (.cells #[cv, hv, .int .i64 ep] 25)).alloc (.cells #[tv] 26)).alloc (.cells #[.int .i64 c] 3)) := by
  refine ⟨?_, ?_, ?_, ?_, ?_, bel3 _ _ _ _⟩
  · exact cell_later (bel2 _ _ _) (by rw [cell_new _ _ _ _ rfl]; rfl)
  · exact cell_later (bel2 _ _ _) (by rw [cell_new _ _ _ _ rfl]; rfl)
  · exact cell_later (bel2 _ _ _) (by rw [cell_new _ _ _ _ rfl]; rfl)
  · exact cell_later (bel1 _ _) (by rw [cell_new _ _ _ _ (by simp)]; rfl)
  · rw [cell_new _ _ _ _ (by simp)]; rfl

set_option maxHeartbeats 1000000 in
theorem sites_any {P P2 : Nat → Prop} (X : QW) (t : List QT) (c k : Int) (cv hv tv : Value) (w : World) (hC : IsClasses P w cv X.classes) (hH : IsHeap P w hv X.heap) (hT : IsTallies P2 w tv t) :
    Calls Try.prog 15 #[WV cv hv X.epoch, tv, .int .i64 c, .int .i64 k] w fun e w' => ∃ a cap, e = .returned (.slice a (sitesE X t c k).length cap) ∧ IsInts (fun b => w.heap.size ≤ b) w' (.slice a (sitesE X t c k).length cap) (sitesE X t c k) ∧ Below w.heap.size w w' := by
  have hm := hmf
  obtain ⟨ad, cap, rfl, hl, hcap, -, hrow⟩ := id hC
  obtain ⟨ah, ch, rfl, -⟩ := id hH
  obtain ⟨at', ct, rfl, -⟩ := id hT
  have hB := sitB_new w (.slice ad X.classes.length cap) (.slice ah X.heap.length ch) (.slice at' t.length ct) X.epoch c
  go_enter Try.func15, Try.ntmps15
  go_upto_region 1 with (fail)
  generalize ((w.alloc (.cells #[.slice ad X.classes.length cap, .slice ah X.heap.length ch, .int .i64 X.epoch] 25)).alloc (.cells #[.slice at' t.length ct] 26)).alloc (.cells #[.int .i64 c] 3) = W0 at *
  have hC0 := hC.later goodC hB.bel
  have hH0 := hH.later goodO hB.bel
  obtain ⟨k0, k1, k2, k3, k4, hbel⟩ := id hB
  go_wp2_with fail
  refine (chas_any X c k _ _ _ hC0 hH0).mono ?_
  rintro e w1 ⟨rfl, hb1⟩
  replace hB := hB.later hb1
  clear hb1 k0 k1 k2 k3 k4 hC0 hH0 hbel
  cases hmo : methN X.classes c k with
  | none =>
    have HS : Hid (sitesE X t c k = []) := by show _ = _; simp [sitesE, hmo]
    go_wp2
    go_ret
    refine ⟨none, 0, ?_, ?_, hB.bel⟩
    · rw [HS.out]; rfl
    · rw [HS.out]; exact row_none
  | some m =>
    have HS : Hid (sitesE X t c k = m.code.mapIdx (siteAt X t c m)) := by show _ = _; simp [sitesE, hmo]
    obtain ⟨q, t', x, rfl, rfl, hx, hy⟩ := methN_some hmo
    clear hmo
    have hq := lt_of_get hx
    have ht := lt_of_get hy
    obtain ⟨b, o, rfl, -, -, -, -, -, mv, hv3, hms⟩ := hrow q x hx
    obtain ⟨am, cm, rfl, hlm, hcm, -, hrm⟩ := hms
    obtain ⟨b2, o2, rfl, -, y0, y1, y2, y3, -, sv, y4, hco⟩ := hrm t' m hy
    obtain ⟨ac, cc, rfl, hlc, hcc, hbyc, -⟩ := id hco
    simp only [Nat.add_zero] at y0
    have u3 := cell_later hB.bel hv3
    have z0 := cell_later hB.bel y0
    have z1 := cell_later hB.bel y1
    have z2 := cell_later hB.bel y2
    have z3 := cell_later hB.bel y3
    have z4 := cell_later hB.bel y4
    unfold maxLen at hcap hcm
    have hq1 : (q : Int) < (X.classes.length : Int) := by omega
    have hq0 : (0 : Int) ≤ (q : Int) := by omega
    have ht1 : (t' : Int) < (x.methods.length : Int) := by omega
    have ht0 : (0 : Int) ≤ (t' : Int) := by omega
    obtain ⟨k0, k1, k2, k3, k4, hbel⟩ := id hB
    have hbx := bel1 w1 (Obj.cells #[.string m.name, .int .i64 m.args, .int .i64 m.temps, .int .i64 m.prim, .slice ac m.code.length cc] 44)
    have n0 : (w1.alloc (Obj.cells #[.string m.name, .int .i64 m.args, .int .i64 m.temps, .int .i64 m.prim, .slice ac m.code.length cc] 44)).cell? ⟨w1.heap.size, 0, none⟩ = some (.string m.name) := by rw [cell_new _ _ _ _ rfl]; rfl
    have n4 : (w1.alloc (Obj.cells #[.string m.name, .int .i64 m.args, .int .i64 m.temps, .int .i64 m.prim, .slice ac m.code.length cc] 44)).cell? ⟨w1.heap.size, 4, none⟩ = some (.slice ac m.code.length cc) := by rw [cell_new _ _ _ _ rfl]; rfl
    go_upto_region 4 with (fail)
    replace hB := hB.later hbx
    generalize (w1.alloc (Obj.cells #[.string m.name, .int .i64 m.args, .int .i64 m.temps, .int .i64 m.prim, .slice ac m.code.length cc] 44)) = W2 at *
    generalize w1.heap.size = bm at *
    have hcl := hco.later goodI hB.bel
    have hC2 := hC.later goodC hB.bel
    have hH2 := hH.later goodO hB.bel
    have hT2 := hT.later goodT hB.bel
    clear k0 k1 k2 k3 k4 hbx u3 z0 z1 z2 z3 z4 hrow hrm hx hy hv3 y0 y1 y2 y3 y4 hbel
    go_wp2_with fail
    refine (each_any _ _ _ _ (fun j x => siteE X t ⟨(q : Int), m.name, j⟩ x.name x.a) m.code _ _ hcl fun j x w' hb => sites1_any X t (q : Int) m j x _ _ _ _ _ _ _ w' (hC2.later goodC hb) (hH2.later goodO hb) (hT2.later goodT hb) (cell_later hb hB.k0) (cell_later hb hB.k1) (cell_later hb hB.k2) (cell_later hb hB.k3) (cell_later hb hB.k4) (cell_later hb n0)).mono ?_
    rintro e w3 ⟨rfl, hg, hb3⟩
    have HL : Hid ((m.code.mapIdx fun j x => if x.op == 14 then siteE X t ⟨(q : Int), m.name, j⟩ x.name x.a else -1) = sitesE X t (q : Int) (t' : Int)) := by show _ = _; rw [HS.out]; rfl
    rw [HL.out] at hg
    have hlen : m.code.length = (sitesE X t (q : Int) (t' : Int)).length := by rw [HS.out]; simp
    go_wp2
    go_ret
    refine ⟨some ⟨W2.heap.size, 0, none⟩, m.code.length, by rw [hlen]; rfl, ?_, nstep hB.bel hb3⟩
    have := hB.bel.size
    have := (intCells (P := fun b => w.heap.size ≤ b) (w := w3) (sitesE X t (q : Int) (t' : Int))).row (bytes := 8) (cap := m.code.length) goodN (by omega) hg (by rw [List.take_of_length_le (by simp [hCells])]; simp [hCells]) (by omega) (by omega) (by omega)
    exact this
end Go.Proofs.Ytlekfiglefopgaa

/- The sites of a method: the reference. -/
namespace Go.Proofs.Ytlekfiglefopgaa
open Go.ChangeShapes Go.WideShapes Go.ChangeAt Go.RowKit
set_option linter.unusedSimpArgs false
set_option linter.unusedVariables false

theorem mapIdx_take_snoc {α β : Type} (f : Nat → α → β) (xs : List α) (j : Nat) (x : α) (h : xs[j]? = some x) : (xs.take (j + 1)).mapIdx f = (xs.take j).mapIdx f ++ [f j x] := by
  have hj := lt_of_get h
  rw [take_snoc h, List.mapIdx_append]
  simp [Nat.min_eq_left (Nat.le_of_lt hj)]
theorem own_ints {w : World} {B k : Nat} {a : Option Addr} {l : List Int} {P : Nat → Prop} (hown : w.ownsRow B 3 1 (.slice a l.length k) l.length (l.map fun x => .int .i64 x)) (hP : ∀ b, B ≤ b → P b) (hl : l.length * 8 ≤ 140737488351232) : IsInts P w (.slice a l.length k) l := by
  obtain ⟨-, ⟨e, h0⟩ | ⟨g, c, cur, e, h1, h2, h3, h4, h5, h6⟩⟩ := hown
  · have : l = [] := List.eq_nil_of_length_eq_zero h0
    subst this
    refine ⟨a, k, rfl, by simp, ?_, by simp, fun i x hx => by simp at hx⟩
    cases e; unfold maxLen; omega
  · cases e
    exact (intCells l).row goodN (hP _ h1) h2 h6 h3 h4 hl
theorem owns_later {w w' : World} {B sz n : Nat} {e : TypeId} {v : Value} {xs : List Value} (h : w.ownsRow B e sz v n xs) (hb : Below w.heap.size w w') : w'.ownsRow B e sz v n xs := by
  obtain ⟨h0, h1 | ⟨g, c, cur, e, h1, h2, h3, h4, h5, h6⟩⟩ := h
  · exact ⟨h0, Or.inl h1⟩
  · exact ⟨h0, Or.inr ⟨g, c, cur, e, h1, by rw [hb.block _ (blk_lt h2)]; exact h2, h3, h4, h5, h6⟩⟩
/-- The boxes of the reference's Sites. -/
structure RsB (w : World) (cv hv : Value) (ep : Int) (m : QM) (mc : Value) (w' : World) : Prop where
  k0 : w'.cell? ⟨w.heap.size, 0, none⟩ = some cv
  k1 : w'.cell? ⟨w.heap.size, 1, none⟩ = some hv
  k2 : w'.cell? ⟨w.heap.size, 2, none⟩ = some (.int .i64 ep)
  k3 : w'.cell? ⟨w.heap.size + 1, 0, none⟩ = some (.string m.name)
  k4 : w'.cell? ⟨w.heap.size + 1, 4, none⟩ = some mc
  bel : Below w.heap.size w w'
  sz : w.heap.size + 1 + 1 ≤ w'.heap.size
theorem RsB.later {w : World} {cv hv : Value} {ep : Int} {m : QM} {mc : Value} {w' w'' : World} (h : RsB w cv hv ep m mc w') (hb : Below (w.heap.size + 1 + 1) w' w'') : RsB w cv hv ep m mc w'' :=
  ⟨(hb.cell (p := ⟨w.heap.size, 0, none⟩) (by simp; omega)).trans h.k0, (hb.cell (p := ⟨w.heap.size, 1, none⟩) (by simp; omega)).trans h.k1, (hb.cell (p := ⟨w.heap.size, 2, none⟩) (by simp; omega)).trans h.k2, (hb.cell (p := ⟨w.heap.size + 1, 0, none⟩) (by simp)).trans h.k3, (hb.cell (p := ⟨w.heap.size + 1, 4, none⟩) (by simp)).trans h.k4, h.bel.trans (hb.mono (by omega)), Nat.le_trans h.sz hb.size⟩
theorem rsB_new (w : World) (cv hv : Value) (ep : Int) (m : QM) (mc : Value) : RsB w cv hv ep m mc ((w.alloc (.cells #[cv, hv, .int .i64 ep] 25)).alloc (.cells #[.string m.name, .int .i64 m.args, .int .i64 m.temps, .int .i64 m.prim, mc] 44)) := by
  refine ⟨?_, ?_, ?_, ?_, ?_, bel2 _ _ _, by simp⟩
  · exact cell_later (bel1 _ _) (by rw [cell_new _ _ _ _ rfl]; rfl)
  · exact cell_later (bel1 _ _) (by rw [cell_new _ _ _ _ rfl]; rfl)
  · exact cell_later (bel1 _ _) (by rw [cell_new _ _ _ _ rfl]; rfl)
  · rw [cell_new _ _ _ _ (by simp)]; rfl
  · rw [cell_new _ _ _ _ (by simp)]; rfl

set_option maxHeartbeats 2000000 in
theorem rsites_any {P P2 : Nat → Prop} (X : QW) (t : List QT) (c k : Int) (cv hv tv : Value) (w : World) (hC : IsClasses P w cv X.classes) (hH : IsHeap P w hv X.heap) (hT : IsTallies P2 w tv t) (hM : ∀ s, (mostL (linesAt t s)).found ≤ 1000000) :
    Calls Try.prog 17 #[WV cv hv X.epoch, tv, .int .i64 c, .int .i64 k] w fun e w' => ∃ a cap, e = .returned (.slice a (sitesE X t c k).length cap) ∧ IsInts (fun b => w.heap.size ≤ b) w' (.slice a (sitesE X t c k).length cap) (sitesE X t c k) ∧ Below w.heap.size w w' := by
  obtain ⟨ad, cap, rfl, hl, hcap, -, hrow⟩ := id hC
  obtain ⟨ah, ch, rfl, -⟩ := id hH
  obtain ⟨at', ct, rfl, -⟩ := id hT
  obtain ⟨i0, hi, hz0, hz1, hz2⟩ := info_parts info3
  cases hmo : methN X.classes c k with
  | none =>
    have HS : Hid (sitesE X t c k = []) := by show _ = _; simp [sitesE, hmo]
    have hend : ∀ w', Below w.heap.size w w' → ∃ a cap, Ending.returned (.slice none 0 0) = .returned (.slice a (sitesE X t c k).length cap) ∧ IsInts (fun b => w.heap.size ≤ b) w' (.slice a (sitesE X t c k).length cap) (sitesE X t c k) ∧ Below w.heap.size w w' := fun w' hb => by
      rw [HS.out]; exact ⟨none, 0, rfl, row_none, hb⟩
    rcases methN_no hmo with h | h | ⟨q, x, rfl, hx, h⟩
    · have hd : decide (c < 0) = true := by simpa using h
      clear hrow
      go_enter Try.func17, Try.ntmps17
      go_wp2
      go_ret
      exact hend _ (bel1 _ _)
    · have hd : decide ((X.classes.length : Int) ≤ c) = true := by simpa using h
      have hd0 : decide (c < 0) = false := by simp; omega
      clear hrow
      go_enter Try.func17, Try.ntmps17
      go_wp2
      go_ret
      exact hend _ (bel1 _ _)
    · have hq := lt_of_get hx
      have hq0 : (0 : Int) ≤ (q : Int) := by omega
      have hq1 : (q : Int) < (X.classes.length : Int) := by omega
      have hqn : decide ((q : Int) < 0) = false := by simp
      have hqm : decide (X.classes.length ≤ q) = false := by simp; omega
      obtain ⟨b, o, rfl, -, -, -, -, -, mv, hv3, hms⟩ := hrow q x hx
      obtain ⟨am, cm, rfl, -⟩ := hms
      have k3 := fun y => cell_later (bel1 w y) hv3
      clear hrow hx hmo
      by_cases h0 : k < 0
      · have hd : decide (k < 0) = true := by simpa using h0
        go_enter Try.func17, Try.ntmps17
        go_wp2
        go_ret
        exact hend _ (bel1 _ _)
      · have hd0 : decide (k < 0) = false := by simpa using h0
        have hd : decide ((x.methods.length : Int) ≤ k) = true := by simp; omega
        go_enter Try.func17, Try.ntmps17
        go_wp2
        go_ret
        exact hend _ (bel1 _ _)
  | some m =>
    have HS : Hid (sitesE X t c k = m.code.mapIdx (siteAt X t c m)) := by show _ = _; simp [sitesE, hmo]
    obtain ⟨q, t', x, rfl, rfl, hx, hy⟩ := methN_some hmo
    clear hmo
    have hq := lt_of_get hx
    have ht := lt_of_get hy
    obtain ⟨b, o, rfl, -, -, -, -, -, mv, hv3, hms⟩ := hrow q x hx
    obtain ⟨am, cm, rfl, hlm, hcm, -, hrm⟩ := hms
    obtain ⟨b2, o2, rfl, -, y0, y1, y2, y3, -, sv, y4, hco⟩ := hrm t' m hy
    obtain ⟨ac, cc, rfl, hlc, hcc, hbyc, hrc⟩ := id hco
    simp only [Nat.add_zero] at y0
    have u3 := fun y => cell_later (bel1 w y) hv3
    have z0 := fun y => cell_later (bel1 w y) y0
    have z1 := fun y => cell_later (bel1 w y) y1
    have z2 := fun y => cell_later (bel1 w y) y2
    have z3 := fun y => cell_later (bel1 w y) y3
    have z4 := fun y => cell_later (bel1 w y) y4
    unfold maxLen at hcap hcm
    have hq1 : (q : Int) < (X.classes.length : Int) := by omega
    have hq0 : (0 : Int) ≤ (q : Int) := by omega
    have ht1 : (t' : Int) < (x.methods.length : Int) := by omega
    have ht0 : (0 : Int) ≤ (t' : Int) := by omega
    have hqn : decide ((q : Int) < 0) = false := by simp
    have hqm : decide (X.classes.length ≤ q) = false := by simp; omega
    have htn : decide ((t' : Int) < 0) = false := by simp
    have htm : decide (x.methods.length ≤ t') = false := by simp; omega
    have hB := rsB_new w (.slice (some ⟨b, o, none⟩) X.classes.length cap) (.slice ah X.heap.length ch) X.epoch m (.slice ac m.code.length cc)
    go_enter Try.func17, Try.ntmps17
    go_upto_region 5 with (fail)
    generalize (w.alloc (.cells #[.slice (some ⟨b, o, none⟩) X.classes.length cap, .slice ah X.heap.length ch, .int .i64 X.epoch] 25)).alloc (.cells #[.string m.name, .int .i64 m.args, .int .i64 m.temps, .int .i64 m.prim, .slice ac m.code.length cc] 44) = W0 at *
    clear u3 z0 z1 z2 z3 z4 y0 y1 y2 y3 y4 hv3 hrm hrow hx hy
    have n4 := hB.k4
    go_wp2
    clear n4
    go_loopg [9, 51] m.code.length (fun g l i wr => ∃ (j : Nat) (pre : List Int) (a : Option Addr) (k : Nat), j + g = m.code.length ∧ i = .int .i64 j ∧ l = .slice a pre.length k ∧ pre = (m.code.take j).mapIdx (siteAt X t q m) ∧ RsB w (.slice (some ⟨b, o, none⟩) X.classes.length cap) (.slice ah X.heap.length ch) X.epoch m (.slice ac m.code.length cc) wr ∧ wr.ownsRow (w.heap.size + 1 + 1) 3 1 (.slice a pre.length k) pre.length (pre.map fun x => .int .i64 x))
    case atStart => exact ⟨0, [], none, 0, by omega, rfl, rfl, by simp, hB, ⟨by simp, Or.inl ⟨rfl, rfl⟩⟩⟩
    case round =>
      obtain ⟨j, pre, a, kk, hj, rfl, rfl, hpre, hb, hown⟩ := hrel
      have HP : Hid (pre = (m.code.take j).mapIdx (siteAt X t q m)) := hpre
      have hpl : pre.length ≤ m.code.length := by rw [hpre]; simp; omega
      clear hpre hB
      by_cases hlt : j < m.code.length
      · obtain ⟨b3, o3, rfl, -, hv0, hv1, hv2, hv3, hv4, hsz⟩ := hrc j m.code[j] (by simp [hlt])
        have hxj : Hid (m.code[j]? = some m.code[j]) := by show _ = _; simp [hlt]
        generalize m.code[j] = y at *
        simp only [Nat.add_zero] at hv0
        have u0 := cell_later hb.bel hv0
        have u1 := cell_later hb.bel hv1
        have u2 := cell_later hb.bel hv2
        have u3 := cell_later hb.bel hv3
        have u4 := cell_later hb.bel hv4
        clear hv0 hv1 hv2 hv3 hv4 hrc
        have hj1 : (j : Int) < (m.code.length : Int) := by omega
        have hj0 : (0 : Int) ≤ (j : Int) := by omega
        have hbx := bel1 wr (Obj.cells #[Value.int IntKind.i64 y.op, Value.int IntKind.i64 y.a, Value.int IntKind.i64 y.b, Value.int IntKind.i64 y.c, Value.string y.name] 69)
        have n0 : (wr.alloc (Obj.cells #[Value.int IntKind.i64 y.op, Value.int IntKind.i64 y.a, Value.int IntKind.i64 y.b, Value.int IntKind.i64 y.c, Value.string y.name] 69)).cell? ⟨wr.heap.size, 0, none⟩ = some (.int .i64 y.op) := by rw [cell_new _ _ _ _ rfl]; rfl
        have n1 : (wr.alloc (Obj.cells #[Value.int IntKind.i64 y.op, Value.int IntKind.i64 y.a, Value.int IntKind.i64 y.b, Value.int IntKind.i64 y.c, Value.string y.name] 69)).cell? ⟨wr.heap.size, 1, none⟩ = some (.int .i64 y.a) := by rw [cell_new _ _ _ _ rfl]; rfl
        have n4 : (wr.alloc (Obj.cells #[Value.int IntKind.i64 y.op, Value.int IntKind.i64 y.a, Value.int IntKind.i64 y.b, Value.int IntKind.i64 y.c, Value.string y.name] 69)).cell? ⟨wr.heap.size, 4, none⟩ = some (.string y.name) := by rw [cell_new _ _ _ _ rfl]; rfl
        have hown1 := hown.alloc (Obj.cells #[Value.int IntKind.i64 y.op, Value.int IntKind.i64 y.a, Value.int IntKind.i64 y.b, Value.int IntKind.i64 y.c, Value.string y.name] 69)
        go_upto_region 8 with (fail)
        replace hb := hb.later (hbx.mono hb.sz)
        generalize wr.heap.size = bi at *
        generalize (wr.alloc (Obj.cells #[Value.int IntKind.i64 y.op, Value.int IntKind.i64 y.a, Value.int IntKind.i64 y.b, Value.int IntKind.i64 y.c, Value.string y.name] 69)) = W1 at *
        clear u0 u1 u2 u3 u4 hbx hown
        by_cases h14 : y.op = 14
        · have hd : (y.op == 14) = true := by simpa using h14
          have HV : Hid (siteAt X t q m j y = siteE X t ⟨(q : Int), m.name, j⟩ y.name y.a) := by show _ = _; simp [siteAt, hd]
          clear h14
          obtain ⟨k0, k1, k2, k3, k4, hbel, hsz⟩ := id hb
          have hC2 := hC.later goodC hbel
          have hH2 := hH.later goodO hbel
          have hT2 := hT.later goodT hbel
          go_wp2_with fail
          refine (rsite_any X t ⟨(q : Int), m.name, j⟩ y.name y.a _ _ _ _ hC2 hH2 hT2 (hM _)).mono ?_
          rintro e w3 ⟨rfl, hb3⟩
          have hown := owns_later hown1 hb3
          replace hb := hb.later (hb3.mono hb.sz)
          clear hown1 k0 k1 k2 k3 k4 hbel hb3 n0 n1 n4 hC2 hH2 hT2
          generalize siteE X t ⟨(q : Int), m.name, j⟩ y.name y.a = V at *
          go_wp2_with (at_builtin; refine wpList_append_lies _ rfl (.tmp 71) (.tmp 73) 63 rfl (w.heap.size + 1 + 1) 3 i0 _ 1 8 Try.underlying63 hi hz0 hz1 hz2 rfl (by decide) _ pre.length _ rfl (hown.alloc _) ⟨_, 0, none⟩ 1 1 [.int .i64 V] rfl rfl (fun j u hu => (by have := lt_of_get hu; simp at this; subst this; simp at hu; subst hu; rw [Addr.add_lit]; exact (cell_new w3 _ 3 _ rfl 0).trans rfl)) (by simp; rfl) (by omega) (by unfold maxLen; omega) (by omega) (by simp; have := hb.sz; omega) _ rfl ?_; intro gg cap2 w2 hown2 hgr hor hlt2; have hb2 := grown_below hown hb.sz hgr)
          go_roundg (gk - 1)
          case measure => omega
          case rel =>
            refine ⟨j + 1, pre ++ [V], some ⟨gg, 0, none⟩, cap2, by omega, by go_num, by simp, by rw [mapIdx_take_snoc _ _ _ _ hxj.out, ← HP.out, HV.out], hb.later hb2, ?_⟩
            simpa using hown2

        · have hd : (y.op == 14) = false := by simpa using h14
          have HV : Hid (siteAt X t q m j y = -1) := by show _ = _; simp [siteAt, hd]
          have hown := hown1
          clear h14 hown1
          go_wp2_with (at_builtin; refine wpList_append_lies _ rfl (.tmp 71) (.tmp 73) 63 rfl (w.heap.size + 1 + 1) 3 i0 _ 1 8 Try.underlying63 hi hz0 hz1 hz2 rfl (by decide) _ pre.length _ rfl (hown.alloc _) ⟨_, 0, none⟩ 1 1 [.int .i64 (-1)] rfl rfl (fun j u hu => (by have := lt_of_get hu; simp at this; subst this; simp at hu; subst hu; rw [Addr.add_lit]; exact (cell_new W1 _ 3 _ rfl 0).trans rfl)) (by simp; rfl) (by omega) (by unfold maxLen; omega) (by omega) (by simp; have := hb.sz; omega) _ rfl ?_; intro gg cap2 w2 hown2 hgr hor hlt2; have hb2 := grown_below hown hb.sz hgr)
          go_roundg (gk - 1)
          case measure => omega
          case rel =>
            refine ⟨j + 1, pre ++ [(-1)], some ⟨gg, 0, none⟩, cap2, by omega, by go_num, by simp, by rw [mapIdx_take_snoc _ _ _ _ hxj.out, ← HP.out, HV.out], hb.later hb2, ?_⟩
            simpa using hown2

      · obtain rfl : j = m.code.length := by omega
        have HF : Hid (pre = sitesE X t (q : Int) (t' : Int)) := by show _ = _; rw [HP.out, HS.out, List.take_of_length_le (Nat.le_refl _)]
        go_wp2
        go_ret
        refine ⟨a, kk, ?_, ?_, hb.bel⟩
        · rw [← HF.out]; rfl
        · rw [← HF.out]; exact own_ints hown (fun b h => by omega) (by omega)
end Go.Proofs.Ytlekfiglefopgaa

/- Inline: plain facts of fast code: where jumps lead, what guards name. -/
namespace Go.Proofs.Ytlekfiglefopgaa
open Go.ChangeShapes Go.WideShapes Go.ChangeAt Go.RowKit
set_option linter.unusedSimpArgs false
set_option linter.unusedVariables false

def jmp (y : QI) : Prop := y.op = 15 ∨ y.op = 16
theorem sets_op (a : Int) : ∀ (n : Nat), ∀ y ∈ setsE a n, y.op = 11
  | 0, y, h => by cases h
  | n + 1, y, h => by
    unfold setsE at h
    rcases List.mem_cons.1 h with rfl | h
    · rfl
    · exact sets_op a n y h
theorem nils_op (a : Int) (n : Nat) : ∀ y ∈ nilsE a n, y.op = 6 ∨ y.op = 11 := by
  intro y h
  unfold nilsE at h
  rw [List.mem_flatMap] at h
  obtain ⟨k, -, h⟩ := h
  simp only [List.mem_cons, List.not_mem_nil, or_false] at h
  rcases h with rfl | rfl
  · exact Or.inl rfl
  · exact Or.inr rfl
theorem stand_good {leaf : QM} (hs : Sml leaf) (self args temps first behind : Int) (hf : 0 ≤ first) (hb : behind = first + leaf.code.length) {x : QI} (hx : x ∈ leaf.code) : (standE self args temps first behind x).op ≠ 18 ∧ (jmp (standE self args temps first behind x) → 0 ≤ (standE self args temps first behind x).a ∧ (standE self args temps first behind x).a ≤ behind) := by
  obtain ⟨p1, p2, -⟩ := hs.plain x hx
  have hj := hs.jump x hx
  unfold jmp standE
  split
  · exact ⟨by simp, fun h => by simp at h⟩
  · split
    · exact ⟨by simp, fun h => by simp at h⟩
    · split
      · rename_i h; exact ⟨by simp; omega, fun h' => by simp at h'; omega⟩
      · split
        · exact ⟨by simp, fun h => by simp at h⟩
        · split
          · exact ⟨by simp, fun h => by simp at h⟩
          · split
            · rename_i h; have := hj h; exact ⟨by simp; omega, fun _ => by simp; omega⟩
            · split
              · exact ⟨by simp, fun _ => by simp; omega⟩
              · exact ⟨by omega, fun h' => by omega⟩
theorem piece_good {leaf : QM} (hs : Sml leaf) (guard : QI) (self n : Int) (hn : 0 ≤ n) : ∀ y ∈ pieceE leaf guard self n, y = guard ∨ (y.op ≠ 18 ∧ (jmp y → 0 ≤ y.a ∧ y.a ≤ n + (pieceE leaf guard self n).length)) := by
  intro y hy
  rw [pieceE_len]
  have ha := hs.args
  have ht := hs.temps
  unfold pieceE at hy
  rcases List.mem_append.1 hy with h | h
  · unfold headE at h
    simp only [List.mem_append, List.mem_cons, List.not_mem_nil, or_false] at h
    rcases h with ((((h | h) | h) | h) | h)
    · exact Or.inl h
    · subst h; exact Or.inr ⟨by simp, fun h => by simp [jmp] at h⟩
    · have := sets_op _ _ y h; exact Or.inr ⟨by omega, fun h => by simp only [jmp] at h; omega⟩
    · subst h; exact Or.inr ⟨by simp, fun h => by simp [jmp] at h⟩
    · have := nils_op _ _ y h; exact Or.inr ⟨by omega, fun h => by simp only [jmp] at h; omega⟩
  · obtain ⟨x, hx, rfl⟩ := List.mem_map.1 h
    obtain ⟨g1, g2⟩ := stand_good hs self (self + 1) (self + 1 + leaf.args) (firstOf leaf n) (firstOf leaf n + leaf.code.length) (by unfold firstOf; omega) rfl hx
    refine Or.inr ⟨g1, fun hj => ?_⟩
    have := g2 hj
    unfold firstOf at *
    omega
theorem guard_in (leaf : QM) (guard : QI) (self n : Int) : guard ∈ pieceE leaf guard self n := by
  unfold pieceE headE; simp
/-- What the code holds so far. -/
structure BGood (sites : List Int) (m : QM) (k : Nat) (s : Bd) : Prop where
  len : k ≤ s.code.length
  jump : ∀ y ∈ s.code, jmp y → 0 ≤ y.a ∧ (y.a ≤ s.code.length ∨ y.a ≤ m.code.length)
  guard : ∀ y ∈ s.code, y.op = 18 → ∃ j : Nat, j < k ∧ y.c = j ∧ sites[j]? = some y.a
  one : 0 < s.pieces → ∃ y ∈ s.code, y.op = 18
  stay : ∀ j x, m.code[j]? = some x → j < k → x.op ≠ 14 → ∃ b : Nat, s.begins[j]? = Option.some (b : Int) ∧ s.code[b]? = Option.some x
theorem site_at {sites : List Int} {k : Nat} (h : 0 ≤ sites.getD k (-1)) : sites[k]? = some (sites.getD k (-1)) := by
  rw [List.getD_eq_getElem?_getD] at h ⊢
  cases hs : sites[k]? with
  | none => rw [hs] at h; simp at h
  | some v => rfl
theorem build_good {X : QW} (h : rightE X = 0) {sites : List Int} {m : QM} (hm : Sml m) : ∀ {k : Nat}, k ≤ m.code.length → BGood sites m k (buildB X.classes sites m k)
  | 0, _ => ⟨Nat.zero_le _, fun y hy => by simp [buildB] at hy, fun y hy => by simp [buildB] at hy, fun h => by simp [buildB] at h, fun j x _ hj => by omega⟩
  | k + 1, hk => by
    have ih := build_good h hm (sites := sites) (k := k) (by omega)
    have hbl := build_begins (xs := X.classes) (sites := sites) (m := m) (k := k) (by omega)
    have hx : m.code[k]? = some m.code[k] := List.getElem?_eq_getElem (by omega)
    have hxm : m.code[k] ∈ m.code := List.getElem_mem _
    rw [buildB_succ hx]
    generalize buildB X.classes sites m k = s at *
    generalize m.code[k] = x at *
    have hold : ∀ j y, m.code[j]? = some y → j < k → y.op ≠ 14 → ∀ (e : List QI), ∃ b : Nat, (s.begins ++ [(s.code.length : Int)])[j]? = some (b : Int) ∧ (s.code ++ e)[b]? = some y := by
      intro j y hy hj ho e
      obtain ⟨b, h1, h2⟩ := ih.stay j y hy hj ho
      exact ⟨b, by rw [List.getElem?_append_left (by omega)]; exact h1, by rw [List.getElem?_append_left (lt_of_get h2)]; exact h2⟩
    obtain ⟨p1, p2, -⟩ := hm.plain x hxm
    unfold stepB
    cases hw : whoE X.classes sites m.code.length s.code.length s.temps k x with
    | none =>
      dsimp only
      have hso : (stayE x (k : Int)).op = x.op := by unfold stayE; split <;> rfl
      refine ⟨by simp; exact ih.len, fun y hy hj => ?_, fun y hy ho => ?_, fun hp => ?_, fun j y hy hj ho => ?_⟩
      · rcases List.mem_append.1 hy with h' | h'
        · have := ih.jump y h' hj; rw [List.length_append]; simp; omega
        · rw [List.mem_singleton] at h'
          subst h'
          have hj' : x.op = 15 ∨ x.op = 16 := by unfold jmp at hj; rw [hso] at hj; exact hj
          have e : stayE x (k : Int) = x := by unfold stayE; rw [if_neg (by omega)]
          rw [e]
          have := hm.jump x hxm hj'
          omega
      · rcases List.mem_append.1 hy with h' | h'
        · obtain ⟨j, h1, h2⟩ := ih.guard y h' ho; exact ⟨j, by omega, h2⟩
        · rw [List.mem_singleton] at h'
          subst h'
          rw [hso] at ho; omega
      · obtain ⟨y, h1, h2⟩ := ih.one hp; exact ⟨y, List.mem_append_left _ h1, h2⟩
      · by_cases hjk : j < k
        · exact hold j y hy hjk ho _
        · have hjk' : j = k := by omega
          subst hjk'
          rw [hx] at hy; cases hy
          have e : stayE x (j : Int) = x := by unfold stayE; rw [if_neg ho]
          refine ⟨s.code.length, ?_, ?_⟩
          · rw [List.getElem?_append_right (by omega), hbl]; simp
          · rw [e, List.getElem?_append_right (Nat.le_refl _)]; simp
    | some leaf =>
      have hst : standsIn X.classes sites k x = some leaf := by
        unfold whoE at hw
        split at hw
        · cases hw
        · rename_i l hl
          split at hw
          · cases hw; exact hl
          · cases hw
      obtain ⟨hsm, -, -, ho14⟩ := stands_small h hst
      have hsi : 0 ≤ sites.getD k (-1) := by
        unfold standsIn at hst
        split at hst
        · rename_i hh; exact hh.2
        · cases hst
      dsimp only
      have hpg := piece_good hsm (ins 18 (sites.getD k (-1)) leaf.args k) s.temps s.code.length (by omega)
      refine ⟨by rw [List.length_append, pieceE_len]; have := ih.len; omega, fun y hy hj => ?_, fun y hy ho => ?_, fun _ => ⟨_, List.mem_append_right _ (guard_in leaf _ _ _), rfl⟩, fun j y hy hj ho => ?_⟩
      · rw [List.length_append]
        rcases List.mem_append.1 hy with h' | h'
        · have := ih.jump y h' hj; omega
        · rcases hpg y h' with rfl | ⟨-, h2⟩
          · simp [jmp] at hj
          · have := h2 hj; omega
      · rcases List.mem_append.1 hy with h' | h'
        · obtain ⟨j, h1, h2⟩ := ih.guard y h' ho; exact ⟨j, by omega, h2⟩
        · rcases hpg y h' with rfl | ⟨h2, -⟩
          · exact ⟨k, by omega, rfl, site_at hsi⟩
          · exact absurd ho h2
      · by_cases hjk : j < k
        · exact hold j y hy hjk ho _
        · have hjk' : j = k := by omega
          subst hjk'
          rw [hx] at hy; cases hy
          exact absurd ho14 ho
theorem mem_modify {l : List QI} {i : Nat} {f : QI → QI} {y : QI} (h : y ∈ l.modify i f) : y ∈ l ∨ ∃ z, l[i]? = some z ∧ y = f z := by
  obtain ⟨j, hj⟩ := List.mem_iff_getElem?.1 h
  rw [List.getElem?_modify] at hj
  by_cases e : i = j
  · subst e
    cases hz : l[i]? with
    | none => rw [hz] at hj; simp at hj
    | some z => rw [hz] at hj; simp at hj; exact Or.inr ⟨z, rfl, hj.symm⟩
  · simp [e] at hj
    exact Or.inl (List.mem_iff_getElem?.2 ⟨j, hj⟩)
/-- Leading jumps changes where jumps lead, and nothing else. -/
theorem led_op {begins : List Int} {plain code : List QI} : ∀ k, (ledE begins plain code k).map (·.op) = code.map (·.op)
  | 0 => rfl
  | k + 1 => by
    unfold ledE
    have ih := led_op (begins := begins) (plain := plain) (code := code) k
    split
    · split
      · rename_i t _
        rw [← ih]
        apply List.ext_getElem?
        intro i
        simp only [List.getElem?_map, List.getElem?_modify]
        cases (ledE begins plain code k)[i]? with
        | none => rfl
        | some z => simp; split <;> rfl
      · exact ih
    · exact ih
theorem led_good {sites : List Int} {m : QM} {n : Nat} {s : Bd} (hs : BGood sites m n s) (hn : n = m.code.length) (hin : ∀ b ∈ s.begins, 0 ≤ b ∧ b < (s.code.length : Int)) : ∀ k, k ≤ n → ∀ y ∈ ledE s.begins m.code s.code k, (jmp y → 0 ≤ y.a ∧ y.a ≤ s.code.length) ∧ (y.op = 18 → ∃ j : Nat, j < n ∧ y.c = j ∧ sites[j]? = some y.a)
  | 0, _, y, hy => by
    have hl := hs.len
    refine ⟨fun hj => ?_, hs.guard y hy⟩
    have := hs.jump y hy hj
    omega
  | k + 1, hk, y, hy => by
    have ih := led_good hs hn hin k (by omega)
    unfold ledE at hy
    split at hy
    · rename_i x b hx hb
      split at hy
      · rename_i t ht
        rcases mem_modify hy with h' | ⟨z, hz, rfl⟩
        · exact ih y h'
        · unfold leadE at ht
          split at ht
          · rename_i hj
            have hti := hin t (List.mem_of_getElem? ht)
            obtain ⟨b', hb', hc⟩ := hs.stay k x hx (by omega) (by omega)
            rw [hb] at hb'; cases hb'
            have ho := led_op (begins := s.begins) (plain := m.code) (code := s.code) k
            have ho' := congrArg (fun l => l[b']?) ho
            simp only [List.getElem?_map] at ho'
            simp only [Int.toNat_natCast] at hz
            rw [hz, hc] at ho'
            simp at ho'
            refine ⟨fun _ => ⟨hti.1, by dsimp only; omega⟩, fun h18 => ?_⟩
            dsimp only at h18
            omega
          · cases ht
      · exact ih y hy
    · exact ih y hy
/-- Fast code keeps to its room, its jumps lead within it or just behind, its guards name sends of the method and the classes told for them. -/
theorem fast_good {X : QW} (h : rightE X = 0) {sites : List Int} {m : QM} (hm : Sml m) {c : Int} (hok : (fastM X c m sites).2 = true) :
    (fastM X c m sites).1.code.length ≤ 240 ∧ (fastM X c m sites).1.temps ≤ 40 ∧ (∀ y ∈ (fastM X c m sites).1.code, (jmp y → 0 ≤ y.a ∧ y.a ≤ (fastM X c m sites).1.code.length) ∧ (y.op = 18 → ∃ j : Nat, j < m.code.length ∧ y.c = j ∧ sites[j]? = some y.a)) ∧ ∃ y ∈ (fastM X c m sites).1.code, y.op = 18 := by
  have hg := build_good h hm (sites := sites) (Nat.le_refl m.code.length)
  have hb := build_small h hm (sites := sites) (Nat.le_refl m.code.length)
  have hi := build_in (xs := X.classes) (sites := sites) (m := m) m.code.length
  unfold fastM at hok ⊢
  dsimp only at hok ⊢
  generalize buildB X.classes sites m m.code.length = s at *
  split at hok
  · cases hok
  · rename_i hp
    rw [if_neg hp]
    dsimp only
    rw [ledE_len]
    refine ⟨by omega, hb.2.2.1, led_good hg rfl hi _ (Nat.le_refl _), ?_⟩
    obtain ⟨y, hy, ho⟩ := hg.one (by omega)
    have : y.op ∈ (ledE s.begins m.code s.code m.code.length).map (·.op) := by rw [led_op]; exact List.mem_map_of_mem hy
    obtain ⟨z, hz, e⟩ := List.mem_map.1 this
    exact ⟨z, hz, by rw [← ho]; exact e⟩
theorem fast_none {X : QW} {sites : List Int} {m : QM} {c : Int} (hok : (fastM X c m sites).2 = false) : fastM X c m sites = (noFast, false) := by
  unfold fastM at hok ⊢
  dsimp only at hok ⊢
  split at hok
  · rename_i hp; rw [if_pos hp]
  · cases hok
end Go.Proofs.Ytlekfiglefopgaa

/- The reference's pieces, as plain functions: jumps are told from the piece's beginning, and led when the pieces are put together. -/
namespace Go.Proofs.Ytlekfiglefopgaa
open Go.ChangeShapes Go.WideShapes Go.ChangeAt Go.RowKit
set_option linter.unusedSimpArgs false
set_option linter.unusedVariables false

/-- A jump told from elsewhere. -/
def shiftJ (n : Int) (y : QI) : QI := if y.op = 15 ∨ y.op = 16 then { y with a := y.a + n } else y
theorem shift_no {n : Int} {y : QI} (h : ¬ jmp y) : shiftJ n y = y := by unfold shiftJ; exact if_neg h
/-- What the reference's Piece makes of an instruction. -/
def standR (self first frm behind : Int) (x : QI) : QI :=
  if x.op = 1 then ins 3 self 0 0
  else if x.op = 2 then ins 3 (self + 1 + x.a) 0 0
  else if x.op = 3 ∨ x.op = 11 then { x with a := x.a + first }
  else if x.op = 4 then ins 19 self x.a 0
  else if x.op = 12 then ins 20 self x.a 0
  else if x.op = 15 ∨ x.op = 16 then { x with a := x.a + frm }
  else if x.op = 17 then ins 15 behind 0 0
  else x
theorem empty_is {s : ByteArray} (h : emptyB s = true) : s = ⟨#[]⟩ := by
  unfold emptyB at h
  simp at h
  obtain ⟨⟨l⟩⟩ := s
  simp_all
theorem standR_is {leaf : QM} (hs : Sml leaf) (self first frm behind : Int) {x : QI} (hx : x ∈ leaf.code) : standR self first frm behind x = standE self (self + 1) first frm behind x := by
  obtain ⟨p1, p2, p3, p4, p5⟩ := hs.plain x hx
  obtain ⟨op, a, b, c, nm⟩ := x
  simp only at p1 p2 p3 p4 p5
  subst p3 p4
  unfold standR standE
  split
  · rfl
  · split
    · rfl
    · split
      · rename_i h
        simp only at h
        have := empty_is (p5 (by omega))
        subst this
        simp only [ins, Int.add_comm]
      · split
        · rfl
        · split
          · rfl
          · split
            · rename_i h
              simp only at h
              have := empty_is (p5 (by omega))
              subst this
              simp only [ins, Int.add_comm]
            · rfl
theorem stand_shift (self args temps first behind n : Int) (x : QI) : shiftJ n (standE self args temps first behind x) = standE self args temps (first + n) (behind + n) x := by
  unfold standE
  split
  · exact shift_no (by simp [jmp])
  · split
    · exact shift_no (by simp [jmp])
    · split
      · rename_i h; exact shift_no (by simp only [jmp]; omega)
      · split
        · exact shift_no (by simp [jmp])
        · split
          · exact shift_no (by simp [jmp])
          · split
            · rename_i h
              unfold shiftJ
              rw [if_pos (by simpa using h)]
              simp only [ins, QI.mk.injEq, true_and, and_true]
              omega
            · split
              · rfl
              · rename_i h _; exact shift_no h
theorem head_shift (leaf : QM) (g : QI) (hg : g.op = 18) (self n : Int) : (headE leaf g self).map (shiftJ n) = headE leaf g self := by
  refine (List.map_congr_left (g := id) fun y hy => ?_).trans (List.map_id _)
  refine shift_no fun hj => ?_
  unfold headE at hy
  simp only [List.mem_append, List.mem_cons, List.not_mem_nil, or_false] at hy
  unfold jmp at hj
  rcases hy with ((((h | h) | h) | h) | h)
  · subst h; omega
  · subst h; simp at hj
  · have := sets_op _ _ y h; omega
  · subst h; simp at hj
  · have := nils_op _ _ y h; omega
/-- A piece told from its beginning, put at n. -/
theorem piece_shift (leaf : QM) (g : QI) (hg : g.op = 18) (self n : Int) : (pieceE leaf g self 0).map (shiftJ n) = pieceE leaf g self n := by
  unfold pieceE
  rw [List.map_append, head_shift leaf g hg, List.map_map]
  congr 1
  apply List.map_congr_left
  intro x _
  simp only [Function.comp]
  rw [stand_shift]
  unfold firstOf
  congr 1 <;> omega
theorem modify_here (o : List QI) (y : QI) (rest : List QI) (f : QI → QI) : (o ++ ([y] ++ rest)).modify o.length f = o ++ ([f y] ++ rest) := by
  induction o with
  | nil => simp
  | cons a o ih => exact (List.modify_succ_cons f a _ _).trans (congrArg (a :: ·) ih)
/-- A jump that stays, led. -/
def leadJ (B : List Int) (y : QI) : QI := if y.op = 15 ∨ y.op = 16 then { y with a := B.getD y.a.toNat 0 } else y
/-- What the reference puts out, of the first k instructions. -/
def outR (xs : List QC) (sites : List Int) (m : QM) (B : List Int) : Nat → List QI
  | 0 => []
  | k + 1 => match m.code[k]? with
    | none => outR xs sites m B k
    | some x => outR xs sites m B k ++ match whoE xs sites m.code.length (buildB xs sites m k).code.length (buildB xs sites m k).temps k x with
      | none => [leadJ B (stayE x k)]
      | some leaf => (pieceE leaf (ins 18 (sites.getD k (-1)) leaf.args k) (buildB xs sites m k).temps 0).map (shiftJ (buildB xs sites m k).code.length)
theorem led_out {X : QW} (h : rightE X = 0) {sites : List Int} {m : QM} (hm : Sml m) {B : List Int} (hl : B.length = m.code.length) : ∀ {k : Nat}, k ≤ m.code.length → (∀ j, j < k → B[j]? = some ((buildB X.classes sites m j).code.length : Int)) → ∀ rest, ledE B m.code ((buildB X.classes sites m k).code ++ rest) k = outR X.classes sites m B k ++ rest
  | 0, _, _, rest => rfl
  | k + 1, hk, hB, rest => by
    have ih := led_out h hm hl (sites := sites) (k := k) (by omega) (fun j hj => hB j (by omega))
    have hx : m.code[k]? = some m.code[k] := List.getElem?_eq_getElem (by omega)
    have hxm : m.code[k] ∈ m.code := List.getElem_mem _
    have hb := hB k (by omega)
    have hlen : (outR X.classes sites m B k).length = (buildB X.classes sites m k).code.length := by
      have := congrArg List.length (ih [])
      rw [ledE_len] at this
      simpa using this.symm
    rw [buildB_succ hx]
    unfold ledE outR
    rw [hx, hb]
    generalize m.code[k] = x at *
    generalize buildB X.classes sites m k = s at *
    generalize outR X.classes sites m B k = o at *
    unfold stepB
    simp only
    cases hw : whoE X.classes sites m.code.length s.code.length s.temps k x with
    | none =>
      simp only [List.append_assoc]
      rw [ih]
      by_cases hj : x.op = 15 ∨ x.op = 16
      · have hjr := hm.jump x hxm hj
        have ht : B[x.a.toNat]? = some (B.getD x.a.toNat 0) := by
          rw [List.getD_eq_getElem?_getD, List.getElem?_eq_getElem (by omega)]; rfl
        have e : stayE x (k : Int) = x := by unfold stayE; rw [if_neg (by omega)]
        have hle : leadE B x = some (B.getD x.a.toNat 0) := by unfold leadE; rw [if_pos ⟨hj, hjr.1⟩, ht]
        rw [hle, e]
        unfold leadJ
        rw [if_pos hj]
        simp only [Int.toNat_natCast]
        rw [← hlen, modify_here]
      · have hle : leadE B x = none := by unfold leadE; rw [if_neg (fun h => hj h.1)]
        rw [hle]
        unfold leadJ
        have hso : (stayE x (k : Int)).op = x.op := by unfold stayE; split <;> rfl
        rw [if_neg (by rw [hso]; exact hj)]
    | some leaf =>
      have hst : standsIn X.classes sites k x = some leaf := by
        unfold whoE at hw
        split at hw
        · cases hw
        · rename_i l hl
          split at hw
          · cases hw; exact hl
          · cases hw
      obtain ⟨-, -, -, ho14⟩ := stands_small h hst
      have hle : leadE B x = none := by unfold leadE; rw [if_neg (by omega)]
      simp only [List.append_assoc]
      rw [hle, ih, piece_shift _ _ rfl]
theorem begins_at {xs : List QC} {sites : List Int} {m : QM} : ∀ {k : Nat}, k ≤ m.code.length → ∀ j, j < k → (buildB xs sites m k).begins[j]? = some ((buildB xs sites m j).code.length : Int)
  | 0, _, j, hj => by omega
  | k + 1, hk, j, hj => by
    have hl := build_begins (xs := xs) (sites := sites) (m := m) (k := k) (by omega)
    rw [buildB_succ (List.getElem?_eq_getElem (by omega)), step_begins]
    by_cases hjk : j < k
    · rw [List.getElem?_append_left (by omega)]; exact begins_at (by omega) j hjk
    · have : j = k := by omega
      subst this
      rw [List.getElem?_append_right (by omega), hl]; simp
/-- Fast code is what the reference puts out. -/
theorem fast_out {X : QW} (h : rightE X = 0) {sites : List Int} {m : QM} (hm : Sml m) : ledE (buildB X.classes sites m m.code.length).begins m.code (buildB X.classes sites m m.code.length).code m.code.length = outR X.classes sites m (buildB X.classes sites m m.code.length).begins m.code.length := by
  have := led_out h hm (sites := sites) (B := (buildB X.classes sites m m.code.length).begins) (build_begins (Nat.le_refl _)) (Nat.le_refl _) (begins_at (Nat.le_refl _)) []
  simpa using this
end Go.Proofs.Ytlekfiglefopgaa

