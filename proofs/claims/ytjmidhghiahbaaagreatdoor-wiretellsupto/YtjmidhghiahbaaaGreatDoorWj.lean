/- Package wire: what a reader takes: instructions, methods, classes, objects, worlds; Parse. -/
import Derived.Test.YtjmidhghiahbaaaGreatDoorWi
import Derived.Test.YtjmidhghiahbaaaGreatDoorUg
namespace Go.Proofs.YtjmidhghiahbaaaGreatDoor
open Go.ChangeShapes Go.WideShapes Go.ChangeAt Go.RowKit
set_option linter.unusedSimpArgs false
set_option linter.unusedVariables false
set_option maxRecDepth 8000

theorem rdr_bind {α β : Type} {f : List UInt8 → Option (α × List UInt8)} {g : α → List UInt8 → Option (β × List UInt8)} {st s1 s2 : Option (List UInt8)} {a : α} {b : β} (h1 : RdR f st a s1) (h2 : RdR (g a) s1 b s2) : RdR (fun l => (f l).bind fun p => g p.1 p.2) st b s2 := by
  rcases h1.cases with ⟨l, r, rfl, hf, rfl⟩ | ⟨rfl, hf⟩
  · rcases h2.cases with ⟨l2, r2, e, hf2, rfl⟩ | ⟨rfl, hf2⟩
    · cases e
      exact RdR.some (by rw [hf]; exact hf2)
    · exact RdR.bad _ (by rw [hf]; exact hf2 _ rfl)
  · obtain rfl : s2 = none := h2
    cases st with
    | none => exact RdR.none _
    | some l => exact RdR.bad _ (by rw [hf l rfl]; rfl)
theorem rdr_pure {α : Type} (x : α) (st : Option (List UInt8)) : RdR (fun l => some (x, l)) st x st := by
  cases st with
  | none => rfl
  | some l => exact RdR.some rfl
abbrev OW (x : QO) (sv : Value) : Value := .agg #[.int .i64 x.cls, sv]
theorem rdr_instr {st s1 s2 s3 : Option (List UInt8)} {a b : Int} {nm : ByteArray} (h1 : RdR takeNum st a s1) (h2 : RdR takeNum s1 b s2) (h3 : if a = 14 then RdR takeName s2 nm s3 else nm = ⟨#[]⟩ ∧ s3 = s2) : RdR takeInstr st ⟨a, b, 0, 0, nm⟩ s3 := by
  refine rdr_bind (g := fun a l => (takeNum l).bind fun q => if a = 14 then (takeName q.2).bind fun s => some (QI.mk a q.1 0 0 s.1, s.2) else some (QI.mk a q.1 0 0 ⟨#[]⟩, q.2)) h1 ?_
  refine rdr_bind (g := fun b l => if a = 14 then (takeName l).bind fun s => some (QI.mk a b 0 0 s.1, s.2) else some (QI.mk a b 0 0 ⟨#[]⟩, l)) h2 ?_
  by_cases h : a = 14
  · simp only [if_pos h] at h3 ⊢
    exact rdr_bind (g := fun s l => some (QI.mk a b 0 0 s, l)) h3 (rdr_pure _ _)
  · simp only [if_neg h] at h3 ⊢
    obtain ⟨rfl, rfl⟩ := h3
    exact rdr_pure _ _
theorem rdr_meth {st s1 s2 s3 s4 s5 : Option (List UInt8)} {nm : ByteArray} {a b c : Int} {cd : List QI} (h1 : RdR takeName st nm s1) (h2 : RdR takeNum s1 a s2) (h3 : RdR takeNum s2 b s3) (h4 : RdR takeNum s3 c s4) (h5 : RdR (takeList takeInstr 60) s4 cd s5) : RdR takeMeth st ⟨nm, a, b, c, cd⟩ s5 :=
  rdr_bind (g := fun nm l => (takeNum l).bind fun b => (takeNum b.2).bind fun c => (takeNum c.2).bind fun d => (takeList takeInstr 60 d.2).bind fun e => some (QM.mk nm b.1 c.1 d.1 e.1, e.2)) h1
    (rdr_bind (g := fun a l => (takeNum l).bind fun c => (takeNum c.2).bind fun d => (takeList takeInstr 60 d.2).bind fun e => some (QM.mk nm a c.1 d.1 e.1, e.2)) h2
      (rdr_bind (g := fun b l => (takeNum l).bind fun d => (takeList takeInstr 60 d.2).bind fun e => some (QM.mk nm a b d.1 e.1, e.2)) h3
        (rdr_bind (g := fun c l => (takeList takeInstr 60 l).bind fun e => some (QM.mk nm a b c e.1, e.2)) h4
          (rdr_bind (g := fun cd l => some (QM.mk nm a b c cd, l)) h5 (rdr_pure _ _)))))
theorem rdr_class {st s1 s2 s3 s5 : Option (List UInt8)} {nm : ByteArray} {a b : Int} {cd : List QM} (h1 : RdR takeName st nm s1) (h2 : RdR takeNum s1 a s2) (h3 : RdR takeNum s2 b s3) (h5 : RdR (takeList takeMeth 8) s3 cd s5) : RdR takeClass st ⟨nm, a, b, cd⟩ s5 :=
  rdr_bind (g := fun nm l => (takeNum l).bind fun b => (takeNum b.2).bind fun c => (takeList takeMeth 8 c.2).bind fun e => some (QC.mk nm b.1 c.1 e.1, e.2)) h1
    (rdr_bind (g := fun a l => (takeNum l).bind fun c => (takeList takeMeth 8 c.2).bind fun e => some (QC.mk nm a c.1 e.1, e.2)) h2
      (rdr_bind (g := fun b l => (takeList takeMeth 8 l).bind fun e => some (QC.mk nm a b e.1, e.2)) h3
        (rdr_bind (g := fun cd l => some (QC.mk nm a b cd, l)) h5 (rdr_pure _ _))))
theorem rdr_obj {st s1 s2 : Option (List UInt8)} {a : Int} {cd : List QV} (h1 : RdR takeNum st a s1) (h2 : RdR (takeList takeVal 6) s1 cd s2) : RdR takeObj st ⟨a, cd⟩ s2 :=
  rdr_bind (g := fun a l => (takeList takeVal 6 l).bind fun e => some (QO.mk a e.1, e.2)) h1 (rdr_bind (g := fun cd l => some (QO.mk a cd, l)) h2 (rdr_pure _ _))
theorem rdr_world {st s1 s2 s3 : Option (List UInt8)} {a : Int} {cs : List QC} {os : List QO} (h1 : RdR takeNum st a s1) (h2 : RdR (takeList takeClass 12) s1 cs s2) (h3 : RdR (takeList takeObj 60) s2 os s3) : RdR takeWorld st ⟨cs, os, a⟩ s3 :=
  rdr_bind (g := fun a l => (takeList takeClass 12 l).bind fun c => (takeList takeObj 60 c.2).bind fun e => some (QW.mk c.1 e.1 a, e.2)) h1
    (rdr_bind (g := fun cs l => (takeList takeObj 60 l).bind fun e => some (QW.mk cs e.1 a, e.2)) h2
      (rdr_bind (g := fun os l => some (QW.mk cs os a, l)) h3 (rdr_pure _ _)))
set_option maxHeartbeats 1000000 in
theorem robject_any {br : Nat} {w : World} {st : Option (List UInt8)} (h : RdS br w st) : Calls Tryz.prog 47 #[.pointer (some ⟨br, 0, none⟩)] w fun e w' => ∃ (x : QO) (sv : Value) (st' : Option (List UInt8)), e = .returned (OW x sv) ∧ IsVals (fun b => w.heap.size ≤ b) w' sv x.slots ∧ RdR takeObj st x st' ∧ RdS br w' st' ∧ RdK br w w' := by
  have hE := els_start h #[.int .i64 0, .slice none 0 0] 49
  have hlt := h.lt
  clear h
  go_enter Tryz.func47, Tryz.ntmps47
  go_upto_region 2 with (fail)
  generalize ((w.alloc (.cells #[.int .i64 0, .slice none 0 0] 49)).alloc (.cells #[.int .i64 0, .slice none 0 0] 49)) = W0 at *
  go_wp2_with (go_at_call 43; refine (rnumber_any hE.S).mono ?_; rintro e w1 ⟨n1, s1, rfl, hR1, hn1, hS1, hK1⟩; refine Hid.out ?_)
  refine Lib.hid ?_
  replace hE := hE.call hS1 hK1
  have c0 : w1.cell? ⟨w.heap.size + 1, 0, none⟩ = some (.int .i64 0) := hE.c 0
  have cf := row_free hE.box
  replace hE := hE.set 0 (.int .i64 n1)
  clear hS1 hK1
  go_upto_region 3 with (fail)
  clear c0 cf
  generalize (w1.setCell ⟨w.heap.size + 1, 0, none⟩ (.int .i64 n1)) = W1 at *
  have hbig := blk_lt hE.box
  go_wp2_with (go_at_call 63; refine (rvals_any 6 (by omega) hE.S).mono ?_; rintro e w2 ⟨n2, g2, s2, rfl, hI2, hR2, hS1, hK1⟩; refine Hid.out ?_)
  refine Lib.hid ?_
  replace hI2 : IsRow _ _ _ (fun b => w.heap.size + 2 ≤ b) _ _ _ := hI2.mono goodV fun b hb => by omega
  clear hbig
  replace hE := hE.call hS1 hK1
  have c0 : w2.cell? ⟨w.heap.size + 1, 1, none⟩ = some (.slice none 0 0) := hE.c 1
  have cf := row_free hE.box
  replace hE := hE.set 1 (.slice (some ⟨g2, 0, none⟩) n2.length n2.length)
  clear hS1 hK1
  replace hI2 := hI2.keep goodV (Keeps.of_setCell (a := ⟨w.heap.size + 1, 1, none⟩) (by simp) (.slice (some ⟨g2, 0, none⟩) n2.length n2.length)) fun b hb => hb
  go_upto_region 4 with (fail)
  clear c0 cf
  generalize (w2.setCell ⟨w.heap.size + 1, 1, none⟩ (.slice (some ⟨g2, 0, none⟩) n2.length n2.length)) = W2 at *
  have d0 : W2.cell? ⟨w.heap.size + 1, 0, none⟩ = some (.int .i64 n1) := hE.c 0
  have d1 : W2.cell? ⟨w.heap.size + 1, 1, none⟩ = some (.slice (some ⟨g2, 0, none⟩) n2.length n2.length) := hE.c 1
  have z0 : W2.cell? ⟨w.heap.size, 0, none⟩ = some (.int .i64 0) := hE.z 0
  have z1 : W2.cell? ⟨w.heap.size, 1, none⟩ = some (.slice none 0 0) := hE.z 1
  have zf := row_free hE.res
  have hF := hid (hE.fin [.int .i64 n1, .slice (some ⟨g2, 0, none⟩) n2.length n2.length])
  have HI2 := hid ((hI2.keep goodV (Keeps.of_block (w' := W2.setCells w.heap.size 0 [.int .i64 n1, .slice (some ⟨g2, 0, none⟩) n2.length n2.length]) fun b hb hl => setCells_else (by omega) _ _ _) fun b hb => hb).mono (Q := fun b => w.heap.size ≤ b) goodV fun b hb => by omega)
  clear hI2
  go_wp2
  refine bodyPost_ret (v := OW ⟨n1, n2⟩ (.slice (some ⟨g2, 0, none⟩) n2.length n2.length)) ?_ rfl ⟨⟨n1, n2⟩, _, s2, rfl, HI2.out, rdr_obj hR1 hR2, hF.out.1, hF.out.2⟩
  simp [results, Tryz.results47, go_sem, z0, z1]
set_option maxHeartbeats 1000000 in
theorem robjs_any {br : Nat} {w : World} {st : Option (List UInt8)} (most : Nat) (hm : most ≤ 1000) (h : RdS br w st) : Calls Tryz.prog 46 #[.pointer (some ⟨br, 0, none⟩), .int .i64 (most : Int), .func (.func 47) #[.pointer (some ⟨br, 0, none⟩)] #[]] w fun e w' => ∃ (xs : List QO) (g : Nat) (st' : Option (List UInt8)), e = .returned (.slice (some ⟨g, 0, none⟩) xs.length xs.length) ∧ IsRow ObjC 2 32 (fun b => w.heap.size ≤ b) w' (.slice (some ⟨g, 0, none⟩) xs.length xs.length) xs ∧ RdR (takeList takeObj most) st xs st' ∧ RdS br w' st' ∧ RdK br w w' := by
  have hlt := h.lt
  go_enter Tryz.func46, Tryz.ntmps46
  go_wp2_with (go_at_call 60; refine (rcount_any most hm h).mono ?_; rintro e w1 ⟨n, st1, rfl, hR1, hn, hS1, hK1⟩; refine Hid.out ?_)
  refine Lib.hid ?_
  have hmk := make_objs n (by omega)
  have hz1 := hK1.bel.size
  have hR0 : RowSt ObjC 2 49 w.heap.size (w1.alloc (.cells (madeCells #[.int .i64 0, .slice none 0 0] (n * 2)) 49)) w1.heap.size n [] := RowSt.start _ _ _ (size_madeCells _ _)
  have hS0 := hS1.later (bel1 w1 (.cells (madeCells #[.int .i64 0, .slice none 0 0] (n * 2)) 49))
  have hK0 := hK1.trans (.of_below (Nat.le_of_lt hS1.lt) (bel1 w1 (.cells (madeCells #[.int .i64 0, .slice none 0 0] (n * 2)) 49)))
  clear hS1 hK1
  go_wp2_with (fail)
  generalize (w1.alloc (.cells (madeCells #[.int .i64 0, .slice none 0 0] (n * 2)) 49)) = W1 at *
  generalize w1.heap.size = B at *
  go_loopg [15] n (fun g c wr => ∃ (ys : List QO) (stj : Option (List UInt8)), ys.length + g = n ∧ c = .int .i64 (ys.length : Int) ∧ RowSt ObjC 2 49 w.heap.size wr B n ys ∧ RdR (takeMany takeObj ys.length) st1 ys stj ∧ RdS br wr stj ∧ RdK br w wr)
  case atStart => exact ⟨[], st1, by simp, rfl, hR0, rdr_many0 _, hS0, hK0⟩
  case round =>
    clear hR0 hS0 hK0 hmk
    obtain ⟨ys, stj, hg, rfl, hR, hRR, hS, hK⟩ := hrel
    by_cases hj : ys.length < n
    · have hj1 : (ys.length : Int) < (n : Int) := by omega
      have hj0 : (0 : Int) ≤ (ys.length : Int) := by omega
      have hBw : B < wr.heap.size := by obtain ⟨⟨c, hc, -⟩, -⟩ := id hR; exact blk_lt hc
      go_wp2_with (go_at_call 47; refine (robject_any hS).mono ?_; rintro e w2 ⟨x, sv, st2, rfl, hI, hR3, hS2, hK2⟩; refine Hid.out ?_)
      refine Lib.hid ?_
      have hR2 := hR.keep goodO hK2 hlt (by omega)
      have hlw := hK.bel.size
      obtain ⟨⟨cur, k1, k2⟩, k3⟩ := id hR2
      have f1 : ∀ o, w2.frozen? ⟨B, o, none⟩ = false := row_free k1
      have hin : ys.length * 2 + 2 ≤ n * 2 := by omega
      obtain ⟨q0, e0⟩ : ∃ q, w2.cell? ⟨B, ys.length * 2, none⟩ = some q := ⟨_, by rw [cell_of_row _ _ _ _ _ _ k1]; exact Array.getElem?_eq_getElem (by omega)⟩
      obtain ⟨q1, e1⟩ : ∃ q, w2.cell? ⟨B, ys.length * 2 + 1, none⟩ = some q := ⟨_, by rw [cell_of_row _ _ _ _ _ _ k1]; exact Array.getElem?_eq_getElem (by omega)⟩
      replace hI : IsVals (fun b => w.heap.size ≤ b ∧ b ≠ B) w2 sv x.slots := hI.mono goodV fun b hb => by omega
      obtain ⟨asv, csv, rfl⟩ := hI.get
      have HS := hid (RdS.setsHi (show br < B by omega) [.int .i64 x.cls, .slice asv x.slots.length csv] (ys.length * 2) _ hS2)
      have HK := hid (RdK.setsHi (show w.heap.size ≤ B by omega) (show br ≤ B by omega) [.int .i64 x.cls, .slice asv x.slots.length csv] (ys.length * 2) _ (hK.trans hK2))
      have HR := hid (hR2.step goodO hj (vs := [.int .i64 x.cls, .slice asv x.slots.length csv]) rfl ⟨rfl, _, rfl, hI⟩)
      have HQ := hid (rdr_snoc hRR hR3)
      have HG := hid hg
      clear hR2 hS2 hK2 hRR hR3 hS hK k3 hR hg
      go_wp2
      go_roundg (gk - 1)
      case measure => have := HG.out; omega
      case rel => exact ⟨ys ++ [x], st2, by have := HG.out; simp; omega, by simp; try go_num, HR.out, by rw [List.length_append]; exact HQ.out, HS.out, HK.out⟩
    · obtain rfl : n = ys.length := by omega
      go_wp2
      go_ret
      exact ⟨ys, B, stj, rfl, hR.row goodO rfl (by omega) (by omega) (by omega), rdr_list hR1 hRR, hS, hK⟩
set_option maxHeartbeats 1000000 in
theorem rinstr_any {br : Nat} {w : World} {st : Option (List UInt8)} (h : RdS br w st) : Calls Tryz.prog 82 #[.pointer (some ⟨br, 0, none⟩)] w fun e w' => ∃ (x : QI) (st' : Option (List UInt8)), e = .returned (IV x) ∧ x.name.size ≤ 140737488351232 ∧ RdR takeInstr st x st' ∧ RdS br w' st' ∧ RdK br w w' := by
  have hE := els_start h #[.int .i64 0, .int .i64 0, .int .i64 0, .int .i64 0, .string ⟨#[]⟩] 62
  have hlt := h.lt
  clear h
  go_enter Tryz.func82, Tryz.ntmps82
  go_upto_region 2 with (fail)
  generalize ((w.alloc (.cells #[.int .i64 0, .int .i64 0, .int .i64 0, .int .i64 0, .string ⟨#[]⟩] 62)).alloc (.cells #[.int .i64 0, .int .i64 0, .int .i64 0, .int .i64 0, .string ⟨#[]⟩] 62)) = W0 at *
  go_wp2_with (go_at_call 43; refine (rnumber_any hE.S).mono ?_; rintro e w1 ⟨n1, s1, rfl, hR1, hn1, hS1, hK1⟩; refine Hid.out ?_)
  refine Lib.hid ?_
  replace hE := hE.call hS1 hK1
  have c0 : w1.cell? ⟨w.heap.size + 1, 0, none⟩ = some (.int .i64 0) := hE.c 0
  have cf := row_free hE.box
  replace hE := hE.set 0 (.int .i64 n1)
  clear hS1 hK1
  go_upto_region 3 with (fail)
  clear c0 cf
  generalize (w1.setCell ⟨w.heap.size + 1, 0, none⟩ (.int .i64 n1)) = W1 at *
  go_wp2_with (go_at_call 43; refine (rnumber_any hE.S).mono ?_; rintro e w2 ⟨n2, s2, rfl, hR2, hn2, hS1, hK1⟩; refine Hid.out ?_)
  refine Lib.hid ?_
  replace hE := hE.call hS1 hK1
  have c0 : w2.cell? ⟨w.heap.size + 1, 1, none⟩ = some (.int .i64 0) := hE.c 1
  have cf := row_free hE.box
  replace hE := hE.set 1 (.int .i64 n2)
  clear hS1 hK1
  go_upto_region 4 with (fail)
  clear c0 cf
  generalize (w2.setCell ⟨w.heap.size + 1, 1, none⟩ (.int .i64 n2)) = W2 at *
  have d0 : W2.cell? ⟨w.heap.size + 1, 0, none⟩ = some (.int .i64 n1) := hE.c 0
  by_cases h14 : n1 = 14
  · have h14' : (n1 == 14) = true := by simpa using h14
    have HP : Hid (∀ nm s3, RdR takeName s2 nm s3 → RdR takeInstr st ⟨n1, n2, 0, 0, nm⟩ s3) := fun nm s3 h3 => rdr_instr hR1 hR2 (by rw [if_pos h14]; exact h3)
    clear h14
    go_wp2_with (go_at_call 58; refine (rword_any hE.S).mono ?_; rintro e w3 ⟨n3, s3, rfl, hR3, -, hn3, hS1, hK1⟩; refine Hid.out ?_)
    refine Lib.hid ?_
    replace hE := hE.call hS1 hK1
    have c0 : w3.cell? ⟨w.heap.size + 1, 4, none⟩ = some (.string ⟨#[]⟩) := hE.c 4
    have cf := row_free hE.box
    replace hE := hE.set 4 (.string n3)
    clear hS1 hK1
    go_upto_region 6 with (fail)
    clear c0 cf
    generalize (w3.setCell ⟨w.heap.size + 1, 4, none⟩ (.string n3)) = W3 at *
    clear d0 h14'
    have d0b : W3.cell? ⟨w.heap.size + 1, 0, none⟩ = some (.int .i64 n1) := hE.c 0
    have d1 : W3.cell? ⟨w.heap.size + 1, 1, none⟩ = some (.int .i64 n2) := hE.c 1
    have d2 : W3.cell? ⟨w.heap.size + 1, 2, none⟩ = some (.int .i64 0) := hE.c 2
    have d3 : W3.cell? ⟨w.heap.size + 1, 3, none⟩ = some (.int .i64 0) := hE.c 3
    have d4 : W3.cell? ⟨w.heap.size + 1, 4, none⟩ = some (.string n3) := hE.c 4
    have z0 : W3.cell? ⟨w.heap.size, 0, none⟩ = some (.int .i64 0) := hE.z 0
    have z1 : W3.cell? ⟨w.heap.size, 1, none⟩ = some (.int .i64 0) := hE.z 1
    have z2 : W3.cell? ⟨w.heap.size, 2, none⟩ = some (.int .i64 0) := hE.z 2
    have z3 : W3.cell? ⟨w.heap.size, 3, none⟩ = some (.int .i64 0) := hE.z 3
    have z4 : W3.cell? ⟨w.heap.size, 4, none⟩ = some (.string ⟨#[]⟩) := hE.z 4
    have zf := row_free hE.res
    have hF := hid (hE.fin [.int .i64 n1, .int .i64 n2, .int .i64 0, .int .i64 0, .string n3])
    go_wp2
    refine bodyPost_ret (v := IV ⟨n1, n2, 0, 0, n3⟩) ?_ rfl ⟨⟨n1, n2, 0, 0, n3⟩, s3, rfl, hn3, HP.out _ _ hR3, hF.out.1, hF.out.2⟩
    simp [results, Tryz.results82, go_sem, z0, z1, z2, z3, z4]
  · have h14' : (n1 == 14) = false := by simpa using h14
    have HP : Hid (RdR takeInstr st ⟨n1, n2, 0, 0, ⟨#[]⟩⟩ s2) := rdr_instr hR1 hR2 (by rw [if_neg h14]; exact ⟨rfl, rfl⟩)
    clear h14
    have d1 : W2.cell? ⟨w.heap.size + 1, 1, none⟩ = some (.int .i64 n2) := hE.c 1
    have d2 : W2.cell? ⟨w.heap.size + 1, 2, none⟩ = some (.int .i64 0) := hE.c 2
    have d3 : W2.cell? ⟨w.heap.size + 1, 3, none⟩ = some (.int .i64 0) := hE.c 3
    have d4 : W2.cell? ⟨w.heap.size + 1, 4, none⟩ = some (.string ⟨#[]⟩) := hE.c 4
    have z0 : W2.cell? ⟨w.heap.size, 0, none⟩ = some (.int .i64 0) := hE.z 0
    have z1 : W2.cell? ⟨w.heap.size, 1, none⟩ = some (.int .i64 0) := hE.z 1
    have z2 : W2.cell? ⟨w.heap.size, 2, none⟩ = some (.int .i64 0) := hE.z 2
    have z3 : W2.cell? ⟨w.heap.size, 3, none⟩ = some (.int .i64 0) := hE.z 3
    have z4 : W2.cell? ⟨w.heap.size, 4, none⟩ = some (.string ⟨#[]⟩) := hE.z 4
    have zf := row_free hE.res
    have hF := hid (hE.fin [.int .i64 n1, .int .i64 n2, .int .i64 0, .int .i64 0, .string ⟨#[]⟩])
    go_wp2
    refine bodyPost_ret (v := IV ⟨n1, n2, 0, 0, ⟨#[]⟩⟩) ?_ rfl ⟨⟨n1, n2, 0, 0, ⟨#[]⟩⟩, s2, rfl, (show (ByteArray.mk #[]).size ≤ 140737488351232 by decide), HP.out, hF.out.1, hF.out.2⟩
    simp [results, Tryz.results82, go_sem, z0, z1, z2, z3, z4]
set_option maxHeartbeats 1000000 in
theorem rinstrs_any {br : Nat} {w : World} {st : Option (List UInt8)} (most : Nat) (hm : most ≤ 1000) (h : RdS br w st) : Calls Tryz.prog 81 #[.pointer (some ⟨br, 0, none⟩), .int .i64 (most : Int), .func (.func 82) #[.pointer (some ⟨br, 0, none⟩)] #[]] w fun e w' => ∃ (xs : List QI) (g : Nat) (st' : Option (List UInt8)), e = .returned (.slice (some ⟨g, 0, none⟩) xs.length xs.length) ∧ IsRow InstrC 5 48 (fun b => w.heap.size ≤ b) w' (.slice (some ⟨g, 0, none⟩) xs.length xs.length) xs ∧ RdR (takeList takeInstr most) st xs st' ∧ RdS br w' st' ∧ RdK br w w' := by
  have hlt := h.lt
  go_enter Tryz.func81, Tryz.ntmps81
  go_wp2_with (go_at_call 60; refine (rcount_any most hm h).mono ?_; rintro e w1 ⟨n, st1, rfl, hR1, hn, hS1, hK1⟩; refine Hid.out ?_)
  refine Lib.hid ?_
  have hmk := make_code n (by omega)
  have hz1 := hK1.bel.size
  have hR0 : RowSt InstrC 5 62 w.heap.size (w1.alloc (.cells (madeCells #[.int .i64 0, .int .i64 0, .int .i64 0, .int .i64 0, .string ⟨#[]⟩] (n * 5)) 62)) w1.heap.size n [] := RowSt.start _ _ _ (size_madeCells _ _)
  have hS0 := hS1.later (bel1 w1 (.cells (madeCells #[.int .i64 0, .int .i64 0, .int .i64 0, .int .i64 0, .string ⟨#[]⟩] (n * 5)) 62))
  have hK0 := hK1.trans (.of_below (Nat.le_of_lt hS1.lt) (bel1 w1 (.cells (madeCells #[.int .i64 0, .int .i64 0, .int .i64 0, .int .i64 0, .string ⟨#[]⟩] (n * 5)) 62)))
  clear hS1 hK1
  go_wp2_with (fail)
  generalize (w1.alloc (.cells (madeCells #[.int .i64 0, .int .i64 0, .int .i64 0, .int .i64 0, .string ⟨#[]⟩] (n * 5)) 62)) = W1 at *
  generalize w1.heap.size = B at *
  go_loopg [15] n (fun g c wr => ∃ (ys : List QI) (stj : Option (List UInt8)), ys.length + g = n ∧ c = .int .i64 (ys.length : Int) ∧ RowSt InstrC 5 62 w.heap.size wr B n ys ∧ RdR (takeMany takeInstr ys.length) st1 ys stj ∧ RdS br wr stj ∧ RdK br w wr)
  case atStart => exact ⟨[], st1, by simp, rfl, hR0, rdr_many0 _, hS0, hK0⟩
  case round =>
    clear hR0 hS0 hK0 hmk
    obtain ⟨ys, stj, hg, rfl, hR, hRR, hS, hK⟩ := hrel
    by_cases hj : ys.length < n
    · have hj1 : (ys.length : Int) < (n : Int) := by omega
      have hj0 : (0 : Int) ≤ (ys.length : Int) := by omega
      have hBw : B < wr.heap.size := by obtain ⟨⟨c, hc, -⟩, -⟩ := id hR; exact blk_lt hc
      go_wp2_with (go_at_call 82; refine (rinstr_any hS).mono ?_; rintro e w2 ⟨x, st2, rfl, hnm, hR3, hS2, hK2⟩; refine Hid.out ?_)
      refine Lib.hid ?_
      have hR2 := hR.keep goodI hK2 hlt (by omega)
      have hlw := hK.bel.size
      obtain ⟨⟨cur, k1, k2⟩, k3⟩ := id hR2
      have f1 : ∀ o, w2.frozen? ⟨B, o, none⟩ = false := row_free k1
      have hin : ys.length * 5 + 5 ≤ n * 5 := by omega
      obtain ⟨q0, e0⟩ : ∃ q, w2.cell? ⟨B, ys.length * 5, none⟩ = some q := ⟨_, by rw [cell_of_row _ _ _ _ _ _ k1]; exact Array.getElem?_eq_getElem (by omega)⟩
      obtain ⟨q1, e1⟩ : ∃ q, w2.cell? ⟨B, ys.length * 5 + 1, none⟩ = some q := ⟨_, by rw [cell_of_row _ _ _ _ _ _ k1]; exact Array.getElem?_eq_getElem (by omega)⟩
      obtain ⟨q2, e2⟩ : ∃ q, w2.cell? ⟨B, ys.length * 5 + 2, none⟩ = some q := ⟨_, by rw [cell_of_row _ _ _ _ _ _ k1]; exact Array.getElem?_eq_getElem (by omega)⟩
      obtain ⟨q3, e3⟩ : ∃ q, w2.cell? ⟨B, ys.length * 5 + 3, none⟩ = some q := ⟨_, by rw [cell_of_row _ _ _ _ _ _ k1]; exact Array.getElem?_eq_getElem (by omega)⟩
      obtain ⟨q4, e4⟩ : ∃ q, w2.cell? ⟨B, ys.length * 5 + 4, none⟩ = some q := ⟨_, by rw [cell_of_row _ _ _ _ _ _ k1]; exact Array.getElem?_eq_getElem (by omega)⟩
      have HS := hid (RdS.setsHi (show br < B by omega) [.int .i64 x.op, .int .i64 x.a, .int .i64 x.b, .int .i64 x.c, .string x.name] (ys.length * 5) _ hS2)
      have HK := hid (RdK.setsHi (show w.heap.size ≤ B by omega) (show br ≤ B by omega) [.int .i64 x.op, .int .i64 x.a, .int .i64 x.b, .int .i64 x.c, .string x.name] (ys.length * 5) _ (hK.trans hK2))
      have HR := hid (hR2.step goodI hj (vs := [.int .i64 x.op, .int .i64 x.a, .int .i64 x.b, .int .i64 x.c, .string x.name]) rfl ⟨rfl, rfl, rfl, rfl, rfl, hnm⟩)
      have HQ := hid (rdr_snoc hRR hR3)
      have HG := hid hg
      clear hR2 hS2 hK2 hRR hR3 hS hK k3 hR hg
      go_wp2
      go_roundg (gk - 1)
      case measure => have := HG.out; omega
      case rel => exact ⟨ys ++ [x], st2, by have := HG.out; simp; omega, by simp; try go_num, HR.out, by rw [List.length_append]; exact HQ.out, HS.out, HK.out⟩
    · obtain rfl : n = ys.length := by omega
      go_wp2
      go_ret
      exact ⟨ys, B, stj, rfl, hR.row goodI rfl (by omega) (by omega) (by omega), rdr_list hR1 hRR, hS, hK⟩
set_option maxHeartbeats 1000000 in
theorem rmethod_any {br : Nat} {w : World} {st : Option (List UInt8)} (h : RdS br w st) : Calls Tryz.prog 62 #[.pointer (some ⟨br, 0, none⟩)] w fun e w' => ∃ (x : QM) (kv : Value) (st' : Option (List UInt8)), e = .returned (MV x kv) ∧ x.name.size ≤ 140737488351232 ∧ IsCode (fun b => w.heap.size ≤ b) w' kv x.code ∧ RdR takeMeth st x st' ∧ RdS br w' st' ∧ RdK br w w' := by
  have hE := els_start h #[.string ⟨#[]⟩, .int .i64 0, .int .i64 0, .int .i64 0, .slice none 0 0] 43
  have hlt := h.lt
  clear h
  go_enter Tryz.func62, Tryz.ntmps62
  go_upto_region 2 with (fail)
  generalize ((w.alloc (.cells #[.string ⟨#[]⟩, .int .i64 0, .int .i64 0, .int .i64 0, .slice none 0 0] 43)).alloc (.cells #[.string ⟨#[]⟩, .int .i64 0, .int .i64 0, .int .i64 0, .slice none 0 0] 43)) = W0 at *
  go_wp2_with (go_at_call 58; refine (rword_any hE.S).mono ?_; rintro e w1 ⟨n1, s1, rfl, hR1, -, hn1, hS1, hK1⟩; refine Hid.out ?_)
  refine Lib.hid ?_
  replace hE := hE.call hS1 hK1
  have c0 : w1.cell? ⟨w.heap.size + 1, 0, none⟩ = some (.string ⟨#[]⟩) := hE.c 0
  have cf := row_free hE.box
  replace hE := hE.set 0 (.string n1)
  clear hS1 hK1
  go_upto_region 3 with (fail)
  clear c0 cf
  generalize (w1.setCell ⟨w.heap.size + 1, 0, none⟩ (.string n1)) = W1 at *
  go_wp2_with (go_at_call 43; refine (rnumber_any hE.S).mono ?_; rintro e w2 ⟨n2, s2, rfl, hR2, hn2, hS1, hK1⟩; refine Hid.out ?_)
  refine Lib.hid ?_
  replace hE := hE.call hS1 hK1
  have c0 : w2.cell? ⟨w.heap.size + 1, 1, none⟩ = some (.int .i64 0) := hE.c 1
  have cf := row_free hE.box
  replace hE := hE.set 1 (.int .i64 n2)
  clear hS1 hK1
  go_upto_region 4 with (fail)
  clear c0 cf
  generalize (w2.setCell ⟨w.heap.size + 1, 1, none⟩ (.int .i64 n2)) = W2 at *
  go_wp2_with (go_at_call 43; refine (rnumber_any hE.S).mono ?_; rintro e w3 ⟨n3, s3, rfl, hR3, hn3, hS1, hK1⟩; refine Hid.out ?_)
  refine Lib.hid ?_
  replace hE := hE.call hS1 hK1
  have c0 : w3.cell? ⟨w.heap.size + 1, 2, none⟩ = some (.int .i64 0) := hE.c 2
  have cf := row_free hE.box
  replace hE := hE.set 2 (.int .i64 n3)
  clear hS1 hK1
  go_upto_region 5 with (fail)
  clear c0 cf
  generalize (w3.setCell ⟨w.heap.size + 1, 2, none⟩ (.int .i64 n3)) = W3 at *
  go_wp2_with (go_at_call 43; refine (rnumber_any hE.S).mono ?_; rintro e w4 ⟨n4, s4, rfl, hR4, hn4, hS1, hK1⟩; refine Hid.out ?_)
  refine Lib.hid ?_
  replace hE := hE.call hS1 hK1
  have c0 : w4.cell? ⟨w.heap.size + 1, 3, none⟩ = some (.int .i64 0) := hE.c 3
  have cf := row_free hE.box
  replace hE := hE.set 3 (.int .i64 n4)
  clear hS1 hK1
  go_upto_region 6 with (fail)
  clear c0 cf
  generalize (w4.setCell ⟨w.heap.size + 1, 3, none⟩ (.int .i64 n4)) = W4 at *
  have hbig := blk_lt hE.box
  go_wp2_with (go_at_call 81; refine (rinstrs_any 60 (by omega) hE.S).mono ?_; rintro e w5 ⟨n5, g5, s5, rfl, hI5, hR5, hS1, hK1⟩; refine Hid.out ?_)
  refine Lib.hid ?_
  replace hI5 : IsRow _ _ _ (fun b => w.heap.size + 2 ≤ b) _ _ _ := hI5.mono goodI fun b hb => by omega
  clear hbig
  replace hE := hE.call hS1 hK1
  have c0 : w5.cell? ⟨w.heap.size + 1, 4, none⟩ = some (.slice none 0 0) := hE.c 4
  have cf := row_free hE.box
  replace hE := hE.set 4 (.slice (some ⟨g5, 0, none⟩) n5.length n5.length)
  clear hS1 hK1
  replace hI5 := hI5.keep goodI (Keeps.of_setCell (a := ⟨w.heap.size + 1, 4, none⟩) (by simp) (.slice (some ⟨g5, 0, none⟩) n5.length n5.length)) fun b hb => hb
  go_upto_region 7 with (fail)
  clear c0 cf
  generalize (w5.setCell ⟨w.heap.size + 1, 4, none⟩ (.slice (some ⟨g5, 0, none⟩) n5.length n5.length)) = W5 at *
  have d0 : W5.cell? ⟨w.heap.size + 1, 0, none⟩ = some (.string n1) := hE.c 0
  have d1 : W5.cell? ⟨w.heap.size + 1, 1, none⟩ = some (.int .i64 n2) := hE.c 1
  have d2 : W5.cell? ⟨w.heap.size + 1, 2, none⟩ = some (.int .i64 n3) := hE.c 2
  have d3 : W5.cell? ⟨w.heap.size + 1, 3, none⟩ = some (.int .i64 n4) := hE.c 3
  have d4 : W5.cell? ⟨w.heap.size + 1, 4, none⟩ = some (.slice (some ⟨g5, 0, none⟩) n5.length n5.length) := hE.c 4
  have z0 : W5.cell? ⟨w.heap.size, 0, none⟩ = some (.string ⟨#[]⟩) := hE.z 0
  have z1 : W5.cell? ⟨w.heap.size, 1, none⟩ = some (.int .i64 0) := hE.z 1
  have z2 : W5.cell? ⟨w.heap.size, 2, none⟩ = some (.int .i64 0) := hE.z 2
  have z3 : W5.cell? ⟨w.heap.size, 3, none⟩ = some (.int .i64 0) := hE.z 3
  have z4 : W5.cell? ⟨w.heap.size, 4, none⟩ = some (.slice none 0 0) := hE.z 4
  have zf := row_free hE.res
  have hF := hid (hE.fin [.string n1, .int .i64 n2, .int .i64 n3, .int .i64 n4, .slice (some ⟨g5, 0, none⟩) n5.length n5.length])
  have HI5 := hid ((hI5.keep goodI (Keeps.of_block (w' := W5.setCells w.heap.size 0 [.string n1, .int .i64 n2, .int .i64 n3, .int .i64 n4, .slice (some ⟨g5, 0, none⟩) n5.length n5.length]) fun b hb hl => setCells_else (by omega) _ _ _) fun b hb => hb).mono (Q := fun b => w.heap.size ≤ b) goodI fun b hb => by omega)
  clear hI5
  go_wp2
  refine bodyPost_ret (v := MV ⟨n1, n2, n3, n4, n5⟩ (.slice (some ⟨g5, 0, none⟩) n5.length n5.length)) ?_ rfl ⟨⟨n1, n2, n3, n4, n5⟩, _, s5, rfl, hn1, HI5.out, rdr_meth hR1 hR2 hR3 hR4 hR5, hF.out.1, hF.out.2⟩
  simp [results, Tryz.results62, go_sem, z0, z1, z2, z3, z4]
set_option maxHeartbeats 1000000 in
theorem rmeths_any {br : Nat} {w : World} {st : Option (List UInt8)} (most : Nat) (hm : most ≤ 1000) (h : RdS br w st) : Calls Tryz.prog 61 #[.pointer (some ⟨br, 0, none⟩), .int .i64 (most : Int), .func (.func 62) #[.pointer (some ⟨br, 0, none⟩)] #[]] w fun e w' => ∃ (xs : List QM) (g : Nat) (st' : Option (List UInt8)), e = .returned (.slice (some ⟨g, 0, none⟩) xs.length xs.length) ∧ IsRow MethC 5 64 (fun b => w.heap.size ≤ b) w' (.slice (some ⟨g, 0, none⟩) xs.length xs.length) xs ∧ RdR (takeList takeMeth most) st xs st' ∧ RdS br w' st' ∧ RdK br w w' := by
  have hlt := h.lt
  go_enter Tryz.func61, Tryz.ntmps61
  go_wp2_with (go_at_call 60; refine (rcount_any most hm h).mono ?_; rintro e w1 ⟨n, st1, rfl, hR1, hn, hS1, hK1⟩; refine Hid.out ?_)
  refine Lib.hid ?_
  have hmk := make_meths n (by omega)
  have hz1 := hK1.bel.size
  have hR0 : RowSt MethC 5 43 w.heap.size (w1.alloc (.cells (madeCells #[.string ⟨#[]⟩, .int .i64 0, .int .i64 0, .int .i64 0, .slice none 0 0] (n * 5)) 43)) w1.heap.size n [] := RowSt.start _ _ _ (size_madeCells _ _)
  have hS0 := hS1.later (bel1 w1 (.cells (madeCells #[.string ⟨#[]⟩, .int .i64 0, .int .i64 0, .int .i64 0, .slice none 0 0] (n * 5)) 43))
  have hK0 := hK1.trans (.of_below (Nat.le_of_lt hS1.lt) (bel1 w1 (.cells (madeCells #[.string ⟨#[]⟩, .int .i64 0, .int .i64 0, .int .i64 0, .slice none 0 0] (n * 5)) 43)))
  clear hS1 hK1
  go_wp2_with (fail)
  generalize (w1.alloc (.cells (madeCells #[.string ⟨#[]⟩, .int .i64 0, .int .i64 0, .int .i64 0, .slice none 0 0] (n * 5)) 43)) = W1 at *
  generalize w1.heap.size = B at *
  go_loopg [15] n (fun g c wr => ∃ (ys : List QM) (stj : Option (List UInt8)), ys.length + g = n ∧ c = .int .i64 (ys.length : Int) ∧ RowSt MethC 5 43 w.heap.size wr B n ys ∧ RdR (takeMany takeMeth ys.length) st1 ys stj ∧ RdS br wr stj ∧ RdK br w wr)
  case atStart => exact ⟨[], st1, by simp, rfl, hR0, rdr_many0 _, hS0, hK0⟩
  case round =>
    clear hR0 hS0 hK0 hmk
    obtain ⟨ys, stj, hg, rfl, hR, hRR, hS, hK⟩ := hrel
    by_cases hj : ys.length < n
    · have hj1 : (ys.length : Int) < (n : Int) := by omega
      have hj0 : (0 : Int) ≤ (ys.length : Int) := by omega
      have hBw : B < wr.heap.size := by obtain ⟨⟨c, hc, -⟩, -⟩ := id hR; exact blk_lt hc
      go_wp2_with (go_at_call 62; refine (rmethod_any hS).mono ?_; rintro e w2 ⟨x, sv, st2, rfl, hnm, hI, hR3, hS2, hK2⟩; refine Hid.out ?_)
      refine Lib.hid ?_
      have hR2 := hR.keep goodM hK2 hlt (by omega)
      have hlw := hK.bel.size
      obtain ⟨⟨cur, k1, k2⟩, k3⟩ := id hR2
      have f1 : ∀ o, w2.frozen? ⟨B, o, none⟩ = false := row_free k1
      have hin : ys.length * 5 + 5 ≤ n * 5 := by omega
      obtain ⟨q0, e0⟩ : ∃ q, w2.cell? ⟨B, ys.length * 5, none⟩ = some q := ⟨_, by rw [cell_of_row _ _ _ _ _ _ k1]; exact Array.getElem?_eq_getElem (by omega)⟩
      obtain ⟨q1, e1⟩ : ∃ q, w2.cell? ⟨B, ys.length * 5 + 1, none⟩ = some q := ⟨_, by rw [cell_of_row _ _ _ _ _ _ k1]; exact Array.getElem?_eq_getElem (by omega)⟩
      obtain ⟨q2, e2⟩ : ∃ q, w2.cell? ⟨B, ys.length * 5 + 2, none⟩ = some q := ⟨_, by rw [cell_of_row _ _ _ _ _ _ k1]; exact Array.getElem?_eq_getElem (by omega)⟩
      obtain ⟨q3, e3⟩ : ∃ q, w2.cell? ⟨B, ys.length * 5 + 3, none⟩ = some q := ⟨_, by rw [cell_of_row _ _ _ _ _ _ k1]; exact Array.getElem?_eq_getElem (by omega)⟩
      obtain ⟨q4, e4⟩ : ∃ q, w2.cell? ⟨B, ys.length * 5 + 4, none⟩ = some q := ⟨_, by rw [cell_of_row _ _ _ _ _ _ k1]; exact Array.getElem?_eq_getElem (by omega)⟩
      replace hI : IsCode (fun b => w.heap.size ≤ b ∧ b ≠ B) w2 sv x.code := hI.mono goodI fun b hb => by omega
      obtain ⟨asv, csv, rfl⟩ := hI.get
      have HS := hid (RdS.setsHi (show br < B by omega) [.string x.name, .int .i64 x.args, .int .i64 x.temps, .int .i64 x.prim, .slice asv x.code.length csv] (ys.length * 5) _ hS2)
      have HK := hid (RdK.setsHi (show w.heap.size ≤ B by omega) (show br ≤ B by omega) [.string x.name, .int .i64 x.args, .int .i64 x.temps, .int .i64 x.prim, .slice asv x.code.length csv] (ys.length * 5) _ (hK.trans hK2))
      have HR := hid (hR2.step goodM hj (vs := [.string x.name, .int .i64 x.args, .int .i64 x.temps, .int .i64 x.prim, .slice asv x.code.length csv]) rfl ⟨rfl, rfl, rfl, rfl, hnm, _, rfl, hI⟩)
      have HQ := hid (rdr_snoc hRR hR3)
      have HG := hid hg
      clear hR2 hS2 hK2 hRR hR3 hS hK k3 hR hg
      go_wp2
      go_roundg (gk - 1)
      case measure => have := HG.out; omega
      case rel => exact ⟨ys ++ [x], st2, by have := HG.out; simp; omega, by simp; try go_num, HR.out, by rw [List.length_append]; exact HQ.out, HS.out, HK.out⟩
    · obtain rfl : n = ys.length := by omega
      go_wp2
      go_ret
      exact ⟨ys, B, stj, rfl, hR.row goodM rfl (by omega) (by omega) (by omega), rdr_list hR1 hRR, hS, hK⟩
set_option maxHeartbeats 1000000 in
theorem rclass_any {br : Nat} {w : World} {st : Option (List UInt8)} (h : RdS br w st) : Calls Tryz.prog 45 #[.pointer (some ⟨br, 0, none⟩)] w fun e w' => ∃ (x : QC) (kv : Value) (st' : Option (List UInt8)), e = .returned (CV x kv) ∧ x.name.size ≤ 140737488351232 ∧ IsMeths (fun b => w.heap.size ≤ b) w' kv x.methods ∧ RdR takeClass st x st' ∧ RdS br w' st' ∧ RdK br w w' := by
  have hE := els_start h #[.string ⟨#[]⟩, .int .i64 0, .int .i64 0, .slice none 0 0] 38
  have hlt := h.lt
  clear h
  go_enter Tryz.func45, Tryz.ntmps45
  go_upto_region 2 with (fail)
  generalize ((w.alloc (.cells #[.string ⟨#[]⟩, .int .i64 0, .int .i64 0, .slice none 0 0] 38)).alloc (.cells #[.string ⟨#[]⟩, .int .i64 0, .int .i64 0, .slice none 0 0] 38)) = W0 at *
  go_wp2_with (go_at_call 58; refine (rword_any hE.S).mono ?_; rintro e w1 ⟨n1, s1, rfl, hR1, -, hn1, hS1, hK1⟩; refine Hid.out ?_)
  refine Lib.hid ?_
  replace hE := hE.call hS1 hK1
  have c0 : w1.cell? ⟨w.heap.size + 1, 0, none⟩ = some (.string ⟨#[]⟩) := hE.c 0
  have cf := row_free hE.box
  replace hE := hE.set 0 (.string n1)
  clear hS1 hK1
  go_upto_region 3 with (fail)
  clear c0 cf
  generalize (w1.setCell ⟨w.heap.size + 1, 0, none⟩ (.string n1)) = W1 at *
  go_wp2_with (go_at_call 43; refine (rnumber_any hE.S).mono ?_; rintro e w2 ⟨n2, s2, rfl, hR2, hn2, hS1, hK1⟩; refine Hid.out ?_)
  refine Lib.hid ?_
  replace hE := hE.call hS1 hK1
  have c0 : w2.cell? ⟨w.heap.size + 1, 1, none⟩ = some (.int .i64 0) := hE.c 1
  have cf := row_free hE.box
  replace hE := hE.set 1 (.int .i64 n2)
  clear hS1 hK1
  go_upto_region 4 with (fail)
  clear c0 cf
  generalize (w2.setCell ⟨w.heap.size + 1, 1, none⟩ (.int .i64 n2)) = W2 at *
  go_wp2_with (go_at_call 43; refine (rnumber_any hE.S).mono ?_; rintro e w3 ⟨n3, s3, rfl, hR3, hn3, hS1, hK1⟩; refine Hid.out ?_)
  refine Lib.hid ?_
  replace hE := hE.call hS1 hK1
  have c0 : w3.cell? ⟨w.heap.size + 1, 2, none⟩ = some (.int .i64 0) := hE.c 2
  have cf := row_free hE.box
  replace hE := hE.set 2 (.int .i64 n3)
  clear hS1 hK1
  go_upto_region 5 with (fail)
  clear c0 cf
  generalize (w3.setCell ⟨w.heap.size + 1, 2, none⟩ (.int .i64 n3)) = W3 at *
  have hbig := blk_lt hE.box
  go_wp2_with (go_at_call 61; refine (rmeths_any 8 (by omega) hE.S).mono ?_; rintro e w4 ⟨n4, g4, s4, rfl, hI4, hR4, hS1, hK1⟩; refine Hid.out ?_)
  refine Lib.hid ?_
  replace hI4 : IsRow _ _ _ (fun b => w.heap.size + 2 ≤ b) _ _ _ := hI4.mono goodM fun b hb => by omega
  clear hbig
  replace hE := hE.call hS1 hK1
  have c0 : w4.cell? ⟨w.heap.size + 1, 3, none⟩ = some (.slice none 0 0) := hE.c 3
  have cf := row_free hE.box
  replace hE := hE.set 3 (.slice (some ⟨g4, 0, none⟩) n4.length n4.length)
  clear hS1 hK1
  replace hI4 := hI4.keep goodM (Keeps.of_setCell (a := ⟨w.heap.size + 1, 3, none⟩) (by simp) (.slice (some ⟨g4, 0, none⟩) n4.length n4.length)) fun b hb => hb
  go_upto_region 6 with (fail)
  clear c0 cf
  generalize (w4.setCell ⟨w.heap.size + 1, 3, none⟩ (.slice (some ⟨g4, 0, none⟩) n4.length n4.length)) = W4 at *
  have d0 : W4.cell? ⟨w.heap.size + 1, 0, none⟩ = some (.string n1) := hE.c 0
  have d1 : W4.cell? ⟨w.heap.size + 1, 1, none⟩ = some (.int .i64 n2) := hE.c 1
  have d2 : W4.cell? ⟨w.heap.size + 1, 2, none⟩ = some (.int .i64 n3) := hE.c 2
  have d3 : W4.cell? ⟨w.heap.size + 1, 3, none⟩ = some (.slice (some ⟨g4, 0, none⟩) n4.length n4.length) := hE.c 3
  have z0 : W4.cell? ⟨w.heap.size, 0, none⟩ = some (.string ⟨#[]⟩) := hE.z 0
  have z1 : W4.cell? ⟨w.heap.size, 1, none⟩ = some (.int .i64 0) := hE.z 1
  have z2 : W4.cell? ⟨w.heap.size, 2, none⟩ = some (.int .i64 0) := hE.z 2
  have z3 : W4.cell? ⟨w.heap.size, 3, none⟩ = some (.slice none 0 0) := hE.z 3
  have zf := row_free hE.res
  have hF := hid (hE.fin [.string n1, .int .i64 n2, .int .i64 n3, .slice (some ⟨g4, 0, none⟩) n4.length n4.length])
  have HI4 := hid ((hI4.keep goodM (Keeps.of_block (w' := W4.setCells w.heap.size 0 [.string n1, .int .i64 n2, .int .i64 n3, .slice (some ⟨g4, 0, none⟩) n4.length n4.length]) fun b hb hl => setCells_else (by omega) _ _ _) fun b hb => hb).mono (Q := fun b => w.heap.size ≤ b) goodM fun b hb => by omega)
  clear hI4
  go_wp2
  refine bodyPost_ret (v := CV ⟨n1, n2, n3, n4⟩ (.slice (some ⟨g4, 0, none⟩) n4.length n4.length)) ?_ rfl ⟨⟨n1, n2, n3, n4⟩, _, s4, rfl, hn1, HI4.out, rdr_class hR1 hR2 hR3 hR4, hF.out.1, hF.out.2⟩
  simp [results, Tryz.results45, go_sem, z0, z1, z2, z3]
set_option maxHeartbeats 1000000 in
theorem rclasses_any {br : Nat} {w : World} {st : Option (List UInt8)} (most : Nat) (hm : most ≤ 1000) (h : RdS br w st) : Calls Tryz.prog 44 #[.pointer (some ⟨br, 0, none⟩), .int .i64 (most : Int), .func (.func 45) #[.pointer (some ⟨br, 0, none⟩)] #[]] w fun e w' => ∃ (xs : List QC) (g : Nat) (st' : Option (List UInt8)), e = .returned (.slice (some ⟨g, 0, none⟩) xs.length xs.length) ∧ IsRow ClassC 4 56 (fun b => w.heap.size ≤ b) w' (.slice (some ⟨g, 0, none⟩) xs.length xs.length) xs ∧ RdR (takeList takeClass most) st xs st' ∧ RdS br w' st' ∧ RdK br w w' := by
  have hlt := h.lt
  go_enter Tryz.func44, Tryz.ntmps44
  go_wp2_with (go_at_call 60; refine (rcount_any most hm h).mono ?_; rintro e w1 ⟨n, st1, rfl, hR1, hn, hS1, hK1⟩; refine Hid.out ?_)
  refine Lib.hid ?_
  have hmk := make_classes n (by omega)
  have hz1 := hK1.bel.size
  have hR0 : RowSt ClassC 4 38 w.heap.size (w1.alloc (.cells (madeCells #[.string ⟨#[]⟩, .int .i64 0, .int .i64 0, .slice none 0 0] (n * 4)) 38)) w1.heap.size n [] := RowSt.start _ _ _ (size_madeCells _ _)
  have hS0 := hS1.later (bel1 w1 (.cells (madeCells #[.string ⟨#[]⟩, .int .i64 0, .int .i64 0, .slice none 0 0] (n * 4)) 38))
  have hK0 := hK1.trans (.of_below (Nat.le_of_lt hS1.lt) (bel1 w1 (.cells (madeCells #[.string ⟨#[]⟩, .int .i64 0, .int .i64 0, .slice none 0 0] (n * 4)) 38)))
  clear hS1 hK1
  go_wp2_with (fail)
  generalize (w1.alloc (.cells (madeCells #[.string ⟨#[]⟩, .int .i64 0, .int .i64 0, .slice none 0 0] (n * 4)) 38)) = W1 at *
  generalize w1.heap.size = B at *
  go_loopg [15] n (fun g c wr => ∃ (ys : List QC) (stj : Option (List UInt8)), ys.length + g = n ∧ c = .int .i64 (ys.length : Int) ∧ RowSt ClassC 4 38 w.heap.size wr B n ys ∧ RdR (takeMany takeClass ys.length) st1 ys stj ∧ RdS br wr stj ∧ RdK br w wr)
  case atStart => exact ⟨[], st1, by simp, rfl, hR0, rdr_many0 _, hS0, hK0⟩
  case round =>
    clear hR0 hS0 hK0 hmk
    obtain ⟨ys, stj, hg, rfl, hR, hRR, hS, hK⟩ := hrel
    by_cases hj : ys.length < n
    · have hj1 : (ys.length : Int) < (n : Int) := by omega
      have hj0 : (0 : Int) ≤ (ys.length : Int) := by omega
      have hBw : B < wr.heap.size := by obtain ⟨⟨c, hc, -⟩, -⟩ := id hR; exact blk_lt hc
      go_wp2_with (go_at_call 45; refine (rclass_any hS).mono ?_; rintro e w2 ⟨x, sv, st2, rfl, hnm, hI, hR3, hS2, hK2⟩; refine Hid.out ?_)
      refine Lib.hid ?_
      have hR2 := hR.keep goodC hK2 hlt (by omega)
      have hlw := hK.bel.size
      obtain ⟨⟨cur, k1, k2⟩, k3⟩ := id hR2
      have f1 : ∀ o, w2.frozen? ⟨B, o, none⟩ = false := row_free k1
      have hin : ys.length * 4 + 4 ≤ n * 4 := by omega
      obtain ⟨q0, e0⟩ : ∃ q, w2.cell? ⟨B, ys.length * 4, none⟩ = some q := ⟨_, by rw [cell_of_row _ _ _ _ _ _ k1]; exact Array.getElem?_eq_getElem (by omega)⟩
      obtain ⟨q1, e1⟩ : ∃ q, w2.cell? ⟨B, ys.length * 4 + 1, none⟩ = some q := ⟨_, by rw [cell_of_row _ _ _ _ _ _ k1]; exact Array.getElem?_eq_getElem (by omega)⟩
      obtain ⟨q2, e2⟩ : ∃ q, w2.cell? ⟨B, ys.length * 4 + 2, none⟩ = some q := ⟨_, by rw [cell_of_row _ _ _ _ _ _ k1]; exact Array.getElem?_eq_getElem (by omega)⟩
      obtain ⟨q3, e3⟩ : ∃ q, w2.cell? ⟨B, ys.length * 4 + 3, none⟩ = some q := ⟨_, by rw [cell_of_row _ _ _ _ _ _ k1]; exact Array.getElem?_eq_getElem (by omega)⟩
      replace hI : IsMeths (fun b => w.heap.size ≤ b ∧ b ≠ B) w2 sv x.methods := hI.mono goodM fun b hb => by omega
      obtain ⟨asv, csv, rfl⟩ := hI.get
      have HS := hid (RdS.setsHi (show br < B by omega) [.string x.name, .int .i64 x.super, .int .i64 x.slots, .slice asv x.methods.length csv] (ys.length * 4) _ hS2)
      have HK := hid (RdK.setsHi (show w.heap.size ≤ B by omega) (show br ≤ B by omega) [.string x.name, .int .i64 x.super, .int .i64 x.slots, .slice asv x.methods.length csv] (ys.length * 4) _ (hK.trans hK2))
      have HR := hid (hR2.step goodC hj (vs := [.string x.name, .int .i64 x.super, .int .i64 x.slots, .slice asv x.methods.length csv]) rfl ⟨rfl, rfl, rfl, hnm, _, rfl, hI⟩)
      have HQ := hid (rdr_snoc hRR hR3)
      have HG := hid hg
      clear hR2 hS2 hK2 hRR hR3 hS hK k3 hR hg
      go_wp2
      go_roundg (gk - 1)
      case measure => have := HG.out; omega
      case rel => exact ⟨ys ++ [x], st2, by have := HG.out; simp; omega, by simp; try go_num, HR.out, by rw [List.length_append]; exact HQ.out, HS.out, HK.out⟩
    · obtain rfl : n = ys.length := by omega
      go_wp2
      go_ret
      exact ⟨ys, B, stj, rfl, hR.row goodC rfl (by omega) (by omega) (by omega), rdr_list hR1 hRR, hS, hK⟩
set_option maxHeartbeats 1000000 in
theorem rworld_any {br : Nat} {w : World} {st : Option (List UInt8)} (h : RdS br w st) : Calls Tryz.prog 23 #[.pointer (some ⟨br, 0, none⟩)] w fun e w' => ∃ (X : QW) (cv hv : Value) (st' : Option (List UInt8)), e = .returned (WV cv hv X.epoch) ∧ IsClasses (fun b => w.heap.size ≤ b) w' cv X.classes ∧ IsHeap (fun b => w.heap.size ≤ b) w' hv X.heap ∧ RdR takeWorld st X st' ∧ RdS br w' st' ∧ RdK br w w' := by
  have hE := els_start h #[.slice none 0 0, .slice none 0 0, .int .i64 0] 25
  have hlt := h.lt
  clear h
  go_enter Tryz.func23, Tryz.ntmps23
  go_upto_region 2 with (fail)
  generalize ((w.alloc (.cells #[.slice none 0 0, .slice none 0 0, .int .i64 0] 25)).alloc (.cells #[.slice none 0 0, .slice none 0 0, .int .i64 0] 25)) = W0 at *
  go_wp2_with (go_at_call 43; refine (rnumber_any hE.S).mono ?_; rintro e w1 ⟨n1, s1, rfl, hR1, hn1, hS1, hK1⟩; refine Hid.out ?_)
  refine Lib.hid ?_
  replace hE := hE.call hS1 hK1
  have c0 : w1.cell? ⟨w.heap.size + 1, 2, none⟩ = some (.int .i64 0) := hE.c 2
  have cf := row_free hE.box
  replace hE := hE.set 2 (.int .i64 n1)
  clear hS1 hK1
  go_upto_region 3 with (fail)
  clear c0 cf
  generalize (w1.setCell ⟨w.heap.size + 1, 2, none⟩ (.int .i64 n1)) = W1 at *
  have hbig := blk_lt hE.box
  go_wp2_with (go_at_call 44; refine (rclasses_any 12 (by omega) hE.S).mono ?_; rintro e w2 ⟨n2, g2, s2, rfl, hI2, hR2, hS1, hK1⟩; refine Hid.out ?_)
  refine Lib.hid ?_
  replace hI2 : IsRow _ _ _ (fun b => w.heap.size + 2 ≤ b) _ _ _ := hI2.mono goodC fun b hb => by omega
  clear hbig
  replace hE := hE.call hS1 hK1
  have c0 : w2.cell? ⟨w.heap.size + 1, 0, none⟩ = some (.slice none 0 0) := hE.c 0
  have cf := row_free hE.box
  replace hE := hE.set 0 (.slice (some ⟨g2, 0, none⟩) n2.length n2.length)
  clear hS1 hK1
  replace hI2 := hI2.keep goodC (Keeps.of_setCell (a := ⟨w.heap.size + 1, 0, none⟩) (by simp) (.slice (some ⟨g2, 0, none⟩) n2.length n2.length)) fun b hb => hb
  go_upto_region 4 with (fail)
  clear c0 cf
  generalize (w2.setCell ⟨w.heap.size + 1, 0, none⟩ (.slice (some ⟨g2, 0, none⟩) n2.length n2.length)) = W2 at *
  have hbig := blk_lt hE.box
  go_wp2_with (go_at_call 46; refine (robjs_any 60 (by omega) hE.S).mono ?_; rintro e w3 ⟨n3, g3, s3, rfl, hI3, hR3, hS1, hK1⟩; refine Hid.out ?_)
  refine Lib.hid ?_
  replace hI2 := hI2.keep goodC (Keeps.of_block fun b hb hl => hK1.oth b hl (by omega)) fun b hb => hb
  replace hI3 : IsRow _ _ _ (fun b => w.heap.size + 2 ≤ b) _ _ _ := hI3.mono goodO fun b hb => by omega
  clear hbig
  replace hE := hE.call hS1 hK1
  have c0 : w3.cell? ⟨w.heap.size + 1, 1, none⟩ = some (.slice none 0 0) := hE.c 1
  have cf := row_free hE.box
  replace hE := hE.set 1 (.slice (some ⟨g3, 0, none⟩) n3.length n3.length)
  clear hS1 hK1
  replace hI2 := hI2.keep goodC (Keeps.of_setCell (a := ⟨w.heap.size + 1, 1, none⟩) (by simp) (.slice (some ⟨g3, 0, none⟩) n3.length n3.length)) fun b hb => hb
  replace hI3 := hI3.keep goodO (Keeps.of_setCell (a := ⟨w.heap.size + 1, 1, none⟩) (by simp) (.slice (some ⟨g3, 0, none⟩) n3.length n3.length)) fun b hb => hb
  go_upto_region 5 with (fail)
  clear c0 cf
  generalize (w3.setCell ⟨w.heap.size + 1, 1, none⟩ (.slice (some ⟨g3, 0, none⟩) n3.length n3.length)) = W3 at *
  have d0 : W3.cell? ⟨w.heap.size + 1, 0, none⟩ = some (.slice (some ⟨g2, 0, none⟩) n2.length n2.length) := hE.c 0
  have d1 : W3.cell? ⟨w.heap.size + 1, 1, none⟩ = some (.slice (some ⟨g3, 0, none⟩) n3.length n3.length) := hE.c 1
  have d2 : W3.cell? ⟨w.heap.size + 1, 2, none⟩ = some (.int .i64 n1) := hE.c 2
  have z0 : W3.cell? ⟨w.heap.size, 0, none⟩ = some (.slice none 0 0) := hE.z 0
  have z1 : W3.cell? ⟨w.heap.size, 1, none⟩ = some (.slice none 0 0) := hE.z 1
  have z2 : W3.cell? ⟨w.heap.size, 2, none⟩ = some (.int .i64 0) := hE.z 2
  have zf := row_free hE.res
  have hF := hid (hE.fin [.slice (some ⟨g2, 0, none⟩) n2.length n2.length, .slice (some ⟨g3, 0, none⟩) n3.length n3.length, .int .i64 n1])
  have HI2 := hid ((hI2.keep goodC (Keeps.of_block (w' := W3.setCells w.heap.size 0 [.slice (some ⟨g2, 0, none⟩) n2.length n2.length, .slice (some ⟨g3, 0, none⟩) n3.length n3.length, .int .i64 n1]) fun b hb hl => setCells_else (by omega) _ _ _) fun b hb => hb).mono (Q := fun b => w.heap.size ≤ b) goodC fun b hb => by omega)
  clear hI2
  have HI3 := hid ((hI3.keep goodO (Keeps.of_block (w' := W3.setCells w.heap.size 0 [.slice (some ⟨g2, 0, none⟩) n2.length n2.length, .slice (some ⟨g3, 0, none⟩) n3.length n3.length, .int .i64 n1]) fun b hb hl => setCells_else (by omega) _ _ _) fun b hb => hb).mono (Q := fun b => w.heap.size ≤ b) goodO fun b hb => by omega)
  clear hI3
  go_wp2
  refine bodyPost_ret (v := WV (.slice (some ⟨g2, 0, none⟩) n2.length n2.length) (.slice (some ⟨g3, 0, none⟩) n3.length n3.length) n1) ?_ rfl ⟨⟨n2, n3, n1⟩, _, _, s3, rfl, HI2.out, HI3.out, rdr_world hR1 hR2 hR3, hF.out.1, hF.out.2⟩
  simp [results, Tryz.results23, go_sem, z0, z1, z2]
end Go.Proofs.YtjmidhghiahbaaaGreatDoor
