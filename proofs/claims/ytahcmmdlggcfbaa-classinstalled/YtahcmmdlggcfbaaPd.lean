/- ClassInstalled: the walk. -/
import Derived.Test.YtahcmmdlggcfbaaPc
namespace Go.Proofs.Ytahcmmdlggcfbaa
open Go.ChangeShapes Go.WideShapes Go.ChangeAt Go.RowKit
set_option linter.unusedSimpArgs false
set_option linter.unusedVariables false
set_option maxRecDepth 8000

/-- The boxes of the world and of the method. -/
structure InS (w : World) (X : QW) (cv hv : Value) (m : QM) (mv : Value) (w' : World) : Prop where
  bel : Below w.heap.size w w'
  a0 : w'.cell? ⟨w.heap.size, 0, none⟩ = some cv
  a1 : w'.cell? ⟨w.heap.size, 1, none⟩ = some hv
  a2 : w'.cell? ⟨w.heap.size, 2, none⟩ = some (.int .i64 X.epoch)
  m0 : w'.cell? ⟨w.heap.size + 1, 0, none⟩ = some (.string m.name)
  m1 : w'.cell? ⟨w.heap.size + 1, 1, none⟩ = some (.int .i64 m.args)
  m2 : w'.cell? ⟨w.heap.size + 1, 2, none⟩ = some (.int .i64 m.temps)
  m3 : w'.cell? ⟨w.heap.size + 1, 3, none⟩ = some (.int .i64 m.prim)
  m4 : w'.cell? ⟨w.heap.size + 1, 4, none⟩ = some mv
theorem InS.later {w : World} {X : QW} {cv hv : Value} {m : QM} {mv : Value} {w' w1 : World} (h : InS w X cv hv m mv w') (hb : Below w'.heap.size w' w1) : InS w X cv hv m mv w1 :=
  ⟨nstep h.bel hb, cell_later hb h.a0, cell_later hb h.a1, cell_later hb h.a2, cell_later hb h.m0, cell_later hb h.m1, cell_later hb h.m2, cell_later hb h.m3, cell_later hb h.m4⟩
/-- .. and of the new world. -/
structure InY (w : World) (X : QW) (cv hv : Value) (m : QM) (mv : Value) (Y : QW) (B : Nat) (a : Option Addr) (k : Nat) (ah : Option Addr) (kh : Nat) (w' : World) : Prop where
  S : InS w X cv hv m mv w'
  cls : IsClasses (fun _ => True) w' (.slice a Y.classes.length k) Y.classes
  heap : IsHeap (fun _ => True) w' (.slice ah Y.heap.length kh) Y.heap
  b0 : w'.cell? ⟨B, 0, none⟩ = some (.slice a Y.classes.length k)
  b1 : w'.cell? ⟨B, 1, none⟩ = some (.slice ah Y.heap.length kh)
  b2 : w'.cell? ⟨B, 2, none⟩ = some (.int .i64 Y.epoch)
theorem InY.later {w : World} {X : QW} {cv hv : Value} {m : QM} {mv : Value} {Y : QW} {B : Nat} {a : Option Addr} {k : Nat} {ah : Option Addr} {kh : Nat} {w' w1 : World} (h : InY w X cv hv m mv Y B a k ah kh w') (hb : Below w'.heap.size w' w1) : InY w X cv hv m mv Y B a k ah kh w1 :=
  ⟨h.S.later hb, h.cls.later goodC hb, h.heap.later goodO hb, cell_later hb h.b0, cell_later hb h.b1, cell_later hb h.b2⟩
/-- A class's methods, and one of them, as they lie in a new world. -/
theorem InY.meth {w : World} {X : QW} {cv hv : Value} {m : QM} {mv : Value} {Y : QW} {B b o : Nat} {k : Nat} {ah : Option Addr} {kh : Nat} {w' : World} (h : InY w X cv hv m mv Y B (some ⟨b, o, none⟩) k ah kh w') {q : Nat} {x : QC} (hx : Y.classes[q]? = some x) {t : Nat} {y : QM} (hy : x.methods[t]? = some y) : ∃ b2 o2 k2 ac kc, w'.cell? ⟨b, o + q * 4 + 3, none⟩ = some (.slice (some ⟨b2, o2, none⟩) x.methods.length k2) ∧ w'.cell? ⟨b2, o2 + t * 5, none⟩ = some (.string y.name) ∧ w'.cell? ⟨b2, o2 + t * 5 + 4, none⟩ = some (.slice ac y.code.length kc) ∧ IsCode (fun _ => True) w' (.slice ac y.code.length kc) y.code := by
  obtain ⟨a', c', e', -, -, -, hrow⟩ := h.cls
  simp only [Value.slice.injEq] at e'
  obtain ⟨rfl, -, -⟩ := e'
  obtain ⟨b1, o1, e1, -, -, -, -, -, mv1, v3, hM⟩ := hrow q x hx
  cases e1
  obtain ⟨a2, k2, rfl, -, -, -, hrow2⟩ := hM
  obtain ⟨b2, o2, rfl, -, p0, -, -, -, -, cv2, p4, hc⟩ := hrow2 t y hy
  obtain ⟨ac, kc, rfl⟩ := hc.get
  exact ⟨b2, o2, k2, ac, kc, v3, by simpa using p0, p4, hc⟩
theorem InY.adr {w : World} {X : QW} {cv hv : Value} {m : QM} {mv : Value} {Y : QW} {B : Nat} {a : Option Addr} {k : Nat} {ah : Option Addr} {kh : Nat} {w' : World} (h : InY w X cv hv m mv Y B a k ah kh w') {q : Nat} {x : QC} (hx : Y.classes[q]? = some x) : ∃ b o, a = some ⟨b, o, none⟩ := by
  obtain ⟨a', c', e', -, -, -, hrow⟩ := h.cls
  simp only [Value.slice.injEq] at e'
  obtain ⟨rfl, -, -⟩ := e'
  obtain ⟨b1, o1, e1, -⟩ := hrow q x hx
  exact ⟨b1, o1, e1⟩
theorem iyB {w : World} {X : QW} {cv hv : Value} {m : QM} {mv : Value} {Y : QW} {B : Nat} {a : Option Addr} {k : Nat} {ah : Option Addr} {kh : Nat} {u0 u1 u2 u3 : Value} {a0 a1 a2 a3 : Addr} {w' w1 : World} (h : w'.cell? a0 = some u0 ∧ w'.cell? a1 = some u1 ∧ w'.cell? a2 = some u2 ∧ w'.cell? a3 = some u3 ∧ InY w X cv hv m mv Y B a k ah kh w') (hb : Below w'.heap.size w' w1) : w1.cell? a0 = some u0 ∧ w1.cell? a1 = some u1 ∧ w1.cell? a2 = some u2 ∧ w1.cell? a3 = some u3 ∧ InY w X cv hv m mv Y B a k ah kh w1 :=
  ⟨cell_later hb h.1, cell_later hb h.2.1, cell_later hb h.2.2.1, cell_later hb h.2.2.2.1, h.2.2.2.2.later hb⟩

set_option maxRecDepth 100000 in
set_option maxHeartbeats 4000000 in
theorem installed_walk {P : Nat → Prop} (X : QW) (c : Int) (m : QM) (kk : Int) (other : ByteArray) (cv hv mv : Value) (w : World) (hn : other.size ≤ 140737488351232) (hh : IsClasses P w cv X.classes) (hH : IsHeap P w hv X.heap) (hM : IsCode P w mv m.code) (hmn : m.name.size ≤ 140737488351232) : Calls Try.prog 5 #[WV cv hv X.epoch, .int .i64 c, MV m mv, .int .i64 kk, .string other] w fun e w' => e = .returned (.bool true) ∧ Below w.heap.size w w' := by
  obtain ⟨ad, cap, rfl, hl, hcap, hby, hrow⟩ := id hh
  obtain ⟨ah, ch, rfl, -, -, -, -⟩ := id hH
  obtain ⟨am, cm, rfl, hl2, hcm, hcb, -⟩ := id hM
  unfold maxLen at hcap hcm
  go_enter Try.func5, Try.ntmps5
  go_upto_region 1 with (fail)
  have hS : InS w X (.slice ad X.classes.length cap) (.slice ah X.heap.length ch) m (.slice am m.code.length cm) ((w.alloc (Obj.cells #[Value.slice ad X.classes.length cap, Value.slice ah X.heap.length ch, Value.int IntKind.i64 X.epoch] 25)).alloc (Obj.cells #[Value.string m.name, Value.int IntKind.i64 m.args, Value.int IntKind.i64 m.temps, Value.int IntKind.i64 m.prim, Value.slice am m.code.length cm] 28)) := by
    refine ⟨bel2 _ _ _, ?_, ?_, ?_, ?_, ?_, ?_, ?_, ?_⟩
    · exact cell_later (bel1 _ _) (by rw [cell_new _ _ _ _ rfl]; rfl)
    · exact cell_later (bel1 _ _) (by rw [cell_new _ _ _ _ rfl]; rfl)
    · exact cell_later (bel1 _ _) (by rw [cell_new _ _ _ _ rfl]; rfl)
    all_goals (rw [cell_new _ _ _ _ (by simp)]; rfl)
  generalize ((w.alloc (Obj.cells #[Value.slice ad X.classes.length cap, Value.slice ah X.heap.length ch, Value.int IntKind.i64 X.epoch] 25)).alloc (Obj.cells #[Value.string m.name, Value.int IntKind.i64 m.args, Value.int IntKind.i64 m.temps, Value.int IntKind.i64 m.prim, Value.slice am m.code.length cm] 28)) = W0 at *
  go_wp2_with fail
  refine (alive2_any _).mono ?_
  rintro e w1 ⟨rfl, hb⟩
  replace hS := hS.later hb
  clear hb
  have a0 := hS.a0
  have a1 := hS.a1
  have a2 := hS.a2
  go_wp2_with fail
  refine (rright_any X _ _ _ (hh.later goodC hS.bel) (hH.later goodO hS.bel)).mono ?_
  rintro e w2 ⟨rfl, hb⟩
  replace hS := hS.later hb
  clear hb a0 a1 a2
  generalize rightE X = r at *
  by_cases r0 : r = 0
  case neg =>
    have r0' : (r != 0) = true := by simpa using r0
    go_wp2
    go_ret
    exact ⟨rfl, hS.bel⟩
  have r0' : (r != 0) = false := by simp [r0]
  clear r0
  have a0 := hS.a0
  have a1 := hS.a1
  have a2 := hS.a2
  have m0 := hS.m0
  have m1 := hS.m1
  have m2 := hS.m2
  have m3 := hS.m3
  have m4 := hS.m4
  go_wp2_with fail
  refine (install_all X c m _ _ _ _ (hh.later goodC hS.bel) (hH.later goodO hS.bel) (hM.later goodI hS.bel) hmn).mono ?_
  rintro e w3 ⟨ay, ky, ahy, khy, rfl, hCY, hHY, hb⟩
  dsimp only
  replace hS := hS.later hb
  clear hb a0 a1 a2 m0 m1 m2 m3 m4 r0'
  have HIF : Hid (instE X c m = 0 → ∃ (q : Nat) (y : QC) (j : Nat), c = (q : Int) ∧ (instY X c m).classes[q]? = some y ∧ y.methods[j]? = some m ∧ findE (instY X c m).classes c m.name = ((q : Int), (j : Int)) ∧ ∀ (k : Int) (other : ByteArray), eqN m.name other = false → (findE (instY X c m).classes k other).1 = (findE X.classes k other).1 ∧ (0 ≤ (findE (instY X c m).classes k other).2 ↔ 0 ≤ (findE X.classes k other).2)) := inst_facts
  have HIW : Hid (instE X c m ≠ 0 → (instY X c m).classes.length = 0) := fun h => by rw [inst_wrong h]; rfl
  generalize hYq : instY X c m = Y at *
  clear hYq
  generalize instE X c m = ie at *
  have hb4 := bel1 w3 (Obj.cells #[Value.slice ay Y.classes.length ky, Value.slice ahy Y.heap.length khy, Value.int IntKind.i64 Y.epoch] 25)
  have hI : InY w X (.slice ad X.classes.length cap) (.slice ah X.heap.length ch) m (.slice am m.code.length cm) Y w3.heap.size ay ky ahy khy (w3.alloc (Obj.cells #[Value.slice ay Y.classes.length ky, Value.slice ahy Y.heap.length khy, Value.int IntKind.i64 Y.epoch] 25)) :=
    ⟨hS.later hb4, (hCY.mono goodC fun _ _ => trivial).later goodC hb4, (hHY.mono goodO fun _ _ => trivial).later goodO hb4, by rw [cell_new _ _ _ _ rfl]; rfl, by rw [cell_new _ _ _ _ rfl]; rfl, by rw [cell_new _ _ _ _ rfl]; rfl⟩
  by_cases i0 : ie = 0
  case neg =>
    have i0' : (ie != 0) = true := by simpa using i0
    have hl0 := HIW.out i0
    have hl0' : ((Y.classes.length : Int) == 0) = true := by simp [hl0]
    clear hl0 i0 HIF HIW
    go_wp2
    go_ret
    exact ⟨rfl, hI.S.bel⟩
  obtain ⟨q, y, j, rfl, hy, hj, hfm, hfo⟩ := HIF.out i0
  have i0' : (ie != 0) = false := by simp [i0]
  have HFO : Hid (∀ (k : Int) (other : ByteArray), eqN m.name other = false → (findE Y.classes k other).1 = (findE X.classes k other).1 ∧ (0 ≤ (findE Y.classes k other).2 ↔ 0 ≤ (findE X.classes k other).2)) := hfo
  clear HIF HIW i0 hfo hS hCY hHY hb4
  obtain ⟨by', oy, rfl⟩ := hI.adr hy
  have hql := lt_of_get hy
  have hjl := lt_of_get hj
  go_upto_region 8 with (fail)
  generalize w3.heap.size = B at *
  generalize (w3.alloc (Obj.cells #[Value.slice (some ⟨by', oy, none⟩) Y.classes.length ky, Value.slice ahy Y.heap.length khy, Value.int IntKind.i64 Y.epoch] 25)) = W4 at *
  have b0 := hI.b0
  have b1 := hI.b1
  have b2 := hI.b2
  have m0 := hI.S.m0
  clear i0'
  go_wp2_with fail
  refine (find_c Y (q : Int) m.name _ _ _ hI.cls hI.heap (q : Int) (j : Int) hfm).mono ?_
  rintro e w5 ⟨rfl, hb⟩
  replace hI := hI.later hb
  clear hb b0 b1 b2 m0 hfm
  go_upto_region 9 with (fail)
  obtain ⟨bm, om, km, ac, kc, v3, p0, p4, hcd⟩ := hI.meth hy hj
  have hSd : w5.drew.cell? ⟨B, 0, none⟩ = some (.slice (some ⟨by', oy, none⟩) Y.classes.length ky) ∧ w5.drew.cell? ⟨by', oy + q * 4 + 3, none⟩ = some (.slice (some ⟨bm, om, none⟩) y.methods.length km) ∧ w5.drew.cell? ⟨bm, om + j * 5 + 4, none⟩ = some (.slice ac m.code.length kc) ∧ w5.drew.cell? ⟨w.heap.size + 1, 4, none⟩ = some (.slice am m.code.length cm) ∧ InY w X (.slice ad X.classes.length cap) (.slice ah X.heap.length ch) m (.slice am m.code.length cm) Y B (some ⟨by', oy, none⟩) ky ahy khy w5.drew := ⟨hI.b0, v3, p4, hI.S.m4, hI.later (Below.refl _ _).drew⟩
  have hcdd : IsCode (fun _ => True) w5.drew (.slice ac m.code.length kc) m.code := hcd.later goodI (Below.refl _ _).drew
  have hq0 : (0 : Int) ≤ (q : Int) := by omega
  have hq1 : (q : Int) < (Y.classes.length : Int) := by omega
  have hj0 : (0 : Int) ≤ (j : Int) := by omega
  have hj1 : (j : Int) < (y.methods.length : Int) := by omega
  have hj2 : decide ((y.methods.length : Int) ≤ (j : Int)) = false := by simp; omega
  have hj3 : decide (y.methods.length ≤ j) = false := by simp; omega
  clear v3 p0 p4 hcd hI
  go_cut [78] (fun s wx => s = .bool false ∧ InY w X (.slice ad X.classes.length cap) (.slice ah X.heap.length ch) m (.slice am m.code.length cm) Y B (some ⟨by', oy, none⟩) ky ahy khy wx)
  case first =>
    go_region_held3 (fun w' => w'.cell? ⟨B, 0, none⟩ = some (.slice (some ⟨by', oy, none⟩) Y.classes.length ky) ∧ w'.cell? ⟨by', oy + q * 4 + 3, none⟩ = some (.slice (some ⟨bm, om, none⟩) y.methods.length km) ∧ w'.cell? ⟨bm, om + j * 5 + 4, none⟩ = some (.slice ac m.code.length kc) ∧ w'.cell? ⟨w.heap.size + 1, 4, none⟩ = some (.slice am m.code.length cm) ∧ InY w X (.slice ad X.classes.length cap) (.slice ah X.heap.length ch) m (.slice am m.code.length cm) Y B (some ⟨by', oy, none⟩) ky ahy khy w')
      (first | with_reducible exact hSd | with_reducible exact iyB (‹_ ∧ _ ∧ _ ∧ _ ∧ InY _ _ _ _ _ _ _ _ _ _ _ _ _›) hb)
      (first | (go_at_call 25; refine (sameCode_any m.code _ _ _ hcdd (hM.later goodI hSd.2.2.2.2.S.bel)).mono ?_; rintro e w' ⟨rfl, hb⟩))
    go_wp2_with fail
    go_meet
    case rel => exact ⟨rfl, (‹_ ∧ _ ∧ _ ∧ _ ∧ InY _ _ _ _ _ _ _ _ _ _ _ _ _›).2.2.2.2⟩
  case rest =>
    clear hSd hcdd
    obtain ⟨rfl, hI⟩ := hcut
    have a0 := hI.S.a0
    have a1 := hI.S.a1
    have a2 := hI.S.a2
    obtain ⟨gk1, gi1, hg1⟩ : ∃ a b, findE X.classes kk other = (a, b) := ⟨_, _, rfl⟩
    go_wp2_with fail
    refine (find_c X kk other _ _ _ (hh.later goodC hI.S.bel) (hH.later goodO hI.S.bel) gk1 gi1 hg1).mono ?_
    rintro e w6 ⟨rfl, hb⟩
    replace hI := hI.later hb
    clear hb a0 a1 a2
    have b0 := hI.b0
    have b1 := hI.b1
    have b2 := hI.b2
    obtain ⟨gk2, gi2, hg2⟩ : ∃ a b, findE Y.classes kk other = (a, b) := ⟨_, _, rfl⟩
    go_wp2_with fail
    refine (find_c Y kk other _ _ _ hI.cls hI.heap gk2 gi2 hg2).mono ?_
    rintro e w7 ⟨rfl, hb⟩
    replace hI := hI.later hb
    clear hb b0 b1 b2
    have HG1 : Hid (findE X.classes kk other = (gk1, gi1)) := hg1
    have HG2 : Hid (findE Y.classes kk other = (gk2, gi2)) := hg2
    clear hg1 hg2
    have m0 := hI.S.m0
    cases he : eqN other m.name
    case true =>
      have he' : (other.toList == m.name.toList) = true := he
      go_wp2
      go_ret
      exact ⟨rfl, hI.S.bel⟩
    have he' : (other.toList == m.name.toList) = false := he
    have hne : eqN m.name other = false := by
      cases h : eqN m.name other
      · rfl
      · rw [eqN_iff.2 (eqN_iff.1 h).symm] at he; cases he
    obtain ⟨hf1, hf2⟩ := HFO.out kk other hne
    rw [HG1.out, HG2.out] at hf1 hf2
    simp only at hf1 hf2
    by_cases g1 : gi1 < 0
    case pos =>
      have g2 : gi2 < 0 := by
        rcases Int.lt_or_le gi2 0 with h | h
        · exact h
        · have := hf2.1 h; omega
      clear hf1 hf2
      go_wp2
      go_ret
      exact ⟨rfl, hI.S.bel⟩
    have g1' : decide (gi1 < 0) = false := by simpa using g1
    have g2 : 0 ≤ gi2 := hf2.2 (by omega)
    obtain ⟨q2, x2, t2, y2, hf, hx2, hy2, hp2⟩ := find_found (xs := Y.classes) (k := kk) (name := other) (by rw [HG2.out]; exact g2)
    rw [HG2.out] at hf
    cases hf
    subst hf1
    obtain ⟨bm, om, km, ac, kc, v3, p0, -, -⟩ := hI.meth hx2 hy2
    have b0 := hI.b0
    have hq2l := lt_of_get hx2
    have ht2l := lt_of_get hy2
    have hq0 : (0 : Int) ≤ (q2 : Int) := by omega
    have hq1 : (q2 : Int) < (Y.classes.length : Int) := by omega
    have hj0 : (0 : Int) ≤ (t2 : Int) := by omega
    have hj1 : (t2 : Int) < (x2.methods.length : Int) := by omega
    have hpp : (y2.name.toList == other.toList) = true := hp2
    clear hf2 hx2 hy2 hp2 g1 HG1 HG2 HFO
    go_wp2
    go_ret
    exact ⟨rfl, hI.S.bel⟩
end Go.Proofs.Ytahcmmdlggcfbaa
