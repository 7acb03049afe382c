/- Make and Install, in package class and in the reference, in one form. -/
import Derived.Test.YtahcmmdlggcfbaaGd
import Derived.Test.YtahcmmdlggcfbaaCi
import Derived.Test.YtahcmmdlggcfbaaEb
namespace Go.Proofs.Ytahcmmdlggcfbaa
open Go.ChangeShapes Go.WideShapes Go.ChangeAt Go.RowKit
set_option linter.unusedSimpArgs false
set_option linter.unusedVariables false
set_option maxRecDepth 8000

theorem Keeps.of_lt {B : Nat} {w w' : World} (hb : Below B w w') : Keeps (fun b => b < B) w w' := fun b o v hl h => (hb.cell (p := ⟨b, o, none⟩) hl).trans h
theorem row_in {α : Type} {E : Lay α} {sz bytes : Nat} (G : Good E sz) (hE : ∀ {P : Nat → Prop} {w : World} {f : Nat → Option Value} {x : α}, E P w f x → E (In w) w f x) {P : Nat → Prop} {w : World} {v : Value} {xs : List α} (h : IsRow E sz bytes P w v xs) : IsRow E sz bytes (In w) w v xs := by
  obtain ⟨ad, cap, h1, h2, h3, h4, h5⟩ := h
  refine ⟨ad, cap, h1, h2, h3, h4, fun i x hx => ?_⟩
  obtain ⟨b, o, e1, -, e3⟩ := h5 i x hx
  obtain ⟨u, hu, -⟩ := G.there e3 0 G.pos
  exact ⟨b, o, e1, World.block_lt_of_cell? w _ hu, hE e3⟩
theorem meths_in {P : Nat → Prop} {w : World} {v : Value} {xs : List QM} (h : IsMeths P w v xs) : IsMeths (In w) w v xs :=
  row_in goodM (fun ⟨h0, h1, h2, h3, h4, v, h5, h6⟩ => ⟨h0, h1, h2, h3, h4, v, h5, (code_in h6).mono goodI fun _ h => h.2⟩) h
theorem classes_in {P : Nat → Prop} {w : World} {v : Value} {xs : List QC} (h : IsClasses P w v xs) : IsClasses (In w) w v xs :=
  row_in goodC (fun ⟨h0, h1, h2, h3, v, h5, h6⟩ => ⟨h0, h1, h2, h3, v, h5, meths_in h6⟩) h
theorem vals_in {P : Nat → Prop} {w : World} {v : Value} {xs : List QV} (h : IsVals P w v xs) : IsVals (In w) w v xs := row_in goodV (fun h => h) h
theorem heap_in {P : Nat → Prop} {w : World} {v : Value} {xs : List QO} (h : IsHeap P w v xs) : IsHeap (In w) w v xs :=
  row_in goodO (fun ⟨h0, v, h5, h6⟩ => ⟨h0, v, h5, vals_in h6⟩) h

def zeroX : QW := ⟨[], [], 0⟩
def makeY (X : QW) (name : ByteArray) (super slots : Int) : QW := if wrongE X.classes name super slots = 0 then madeX X name super slots else zeroX
def makeN (X : QW) (name : ByteArray) (super slots : Int) : Int := if wrongE X.classes name super slots = 0 then X.classes.length else 0
/-- A world of that content comes, beside what is said of the other results. -/
def Gives (P : Nat → Prop) (w : World) (Y : QW) (f : Value → Ending) (e : Ending) (w' : World) : Prop :=
  ∃ a k ah kh, e = f (WV (.slice a Y.classes.length k) (.slice ah Y.heap.length kh) Y.epoch) ∧ IsClasses (fun b => P b ∨ w.heap.size ≤ b) w' (.slice a Y.classes.length k) Y.classes ∧ IsHeap (fun b => P b ∨ w.heap.size ≤ b) w' (.slice ah Y.heap.length kh) Y.heap ∧ Below w.heap.size w w'
theorem Gives.mk {P : Nat → Prop} {w : World} {Y : QW} {f : Value → Ending} {e : Ending} {w' : World} {Q R : Nat → Prop} {cv hv : Value} (h : e = f (WV cv hv Y.epoch)) (hC : IsClasses Q w' cv Y.classes) (hH : IsHeap R w' hv Y.heap) (hQ : ∀ b, Q b → P b ∨ w.heap.size ≤ b) (hR : ∀ b, R b → P b ∨ w.heap.size ≤ b) (hb : Below w.heap.size w w') : Gives P w Y f e w' := by
  obtain ⟨a, k, rfl⟩ := hC.get
  obtain ⟨ah, kh, rfl⟩ := hH.get
  exact ⟨a, k, ah, kh, h, hC.mono goodC hQ, hH.mono goodO hR, hb⟩
theorem Gives.zero {P : Nat → Prop} {w : World} {f : Value → Ending} {e : Ending} {w' : World} (h : e = f (WV (.slice none 0 0) (.slice none 0 0) 0)) (hb : Below w.heap.size w w') : Gives P w zeroX f e w' :=
  Gives.mk (Q := P) (R := P) h row_none row_none (fun _ h => Or.inl h) (fun _ h => Or.inl h) hb

theorem make_all {P : Nat → Prop} (X : QW) (name : ByteArray) (super slots : Int) (cv hv : Value) (w : World) (hn : name.size ≤ 140737488351232) (hh : IsClasses P w cv X.classes) (hH : IsHeap P w hv X.heap) (ho : SlotsOk X.classes) : Calls Try.prog 20 #[WV cv hv X.epoch, .string name, .int .i64 super, .int .i64 slots] w fun e w' => Gives P w (makeY X name super slots) (fun v => .returned (.tuple #[v, .int .i64 (makeN X name super slots), .int .i64 (wrongE X.classes name super slots)])) e w' := by
  by_cases he : wrongE X.classes name super slots = 0
  · refine (make_right X name super slots cv hv w hn hh hH ho he).mono ?_
    rintro e w' ⟨cv', hv', rfl, h1, h2, hb⟩
    unfold makeY makeN
    rw [if_pos he, if_pos he, he]
    exact Gives.mk rfl h1 h2 (fun _ h => Or.inr h) (fun _ h => Or.inr h) hb
  · refine (make_wrong X name super slots cv hv w hn hh hH ho he).mono ?_
    rintro e w' ⟨rfl, hb⟩
    unfold makeY makeN
    rw [if_neg he, if_neg he]
    exact Gives.zero rfl hb
theorem rmake_all {P : Nat → Prop} (X : QW) (name : ByteArray) (super slots : Int) (cv hv : Value) (w : World) (hn : name.size ≤ 140737488351232) (hh : IsClasses P w cv X.classes) (hH : IsHeap P w hv X.heap) (ho : SlotsOk X.classes) : Calls Try.prog 21 #[WV cv hv X.epoch, .string name, .int .i64 super, .int .i64 slots] w fun e w' => Gives P w (makeY X name super slots) (fun v => .returned (.tuple #[v, .int .i64 (makeN X name super slots), .int .i64 (wrongE X.classes name super slots)])) e w' := by
  refine (rmake_any X name super slots cv hv w hn hh hH ho).mono ?_
  rintro e w' ⟨⟨he, rfl⟩ | ⟨he, cv', rfl, h1⟩, hb⟩
  · unfold makeY makeN
    rw [if_neg he, if_neg he]
    exact Gives.zero rfl hb
  · unfold makeY makeN
    rw [if_pos he, if_pos he, he]
    exact Gives.mk rfl h1 (hH.later goodO hb) (fun _ h => h) (fun _ h => Or.inl h) hb

def instE (X : QW) (c : Int) (m : QM) : Int := match clsAt X.classes c with
  | none => 6
  | some x => if numI x.methods m.name < 0 ∧ 8 ≤ x.methods.length then 5 else 0
def instY (X : QW) (c : Int) (m : QM) : QW := match clsAt X.classes c with
  | none => zeroX
  | some x => if numI x.methods m.name < 0 ∧ 8 ≤ x.methods.length then zeroX else instX X c.toNat x m
theorem install_all {P : Nat → Prop} (X : QW) (c : Int) (m : QM) (cv hv mv : Value) (w : World) (hh : IsClasses P w cv X.classes) (hH : IsHeap P w hv X.heap) (hM : IsCode P w mv m.code) (hmn : m.name.size ≤ 140737488351232) : Calls Try.prog 22 #[WV cv hv X.epoch, .int .i64 c, MV m mv] w fun e w' => Gives P w (instY X c m) (fun v => .returned (.tuple #[v, .int .i64 (instE X c m)])) e w' := by
  unfold instY instE
  cases hx : clsAt X.classes c with
  | none =>
    refine (install_none X c m cv hv mv w hh hH hM (by rw [clsAt_has, hx]; rfl)).mono ?_
    rintro e w' ⟨rfl, hb⟩
    exact Gives.zero rfl hb
  | some x =>
    obtain ⟨k, rfl, hk⟩ := clsAt_some hx
    simp only [Int.toNat_natCast]
    by_cases h0 : 0 ≤ numI x.methods m.name
    · rw [if_neg (by omega), if_neg (by omega)]
      refine (install_there X k x m cv hv mv w hh hH hM hmn hk h0).mono ?_
      rintro e w' ⟨cv', hv', rfl, h1, h2, hb⟩
      exact Gives.mk rfl h1 h2 (fun _ h => Or.inr h) (fun _ h => Or.inr h) hb
    · by_cases h8 : 8 ≤ x.methods.length
      · rw [if_pos ⟨by omega, h8⟩, if_pos ⟨by omega, h8⟩]
        refine (install_many X k x m cv hv mv w hh hH hM hk (by omega) h8).mono ?_
        rintro e w' ⟨rfl, hb⟩
        exact Gives.zero rfl hb
      · rw [if_neg (by omega), if_neg (by omega)]
        refine (install_new X k x m cv hv mv w hh hH hM hmn hk (by omega) (by omega)).mono ?_
        rintro e w' ⟨cv', hv', rfl, h1, h2, hb⟩
        exact Gives.mk rfl h1 h2 (fun _ h => Or.inr h) (fun _ h => Or.inr h) hb
theorem rinstall_all {P : Nat → Prop} (X : QW) (c : Int) (m : QM) (cv hv mv : Value) (w : World) (hh : IsClasses P w cv X.classes) (hH : IsHeap P w hv X.heap) (hM : IsCode P w mv m.code) (hmn : m.name.size ≤ 140737488351232) (hR : RisesC X.classes) : Calls Try.prog 23 #[WV cv hv X.epoch, .int .i64 c, MV m mv] w fun e w' => Gives P w (instY X c m) (fun v => .returned (.tuple #[v, .int .i64 (instE X c m)])) e w' := by
  refine (rinstall_any X c m cv hv mv w hh hH hM hmn hR).mono ?_
  rintro e w' ⟨⟨h1, rfl⟩ | ⟨k, x, rfl, hk, ⟨h1, h8, rfl⟩ | ⟨h1, cv', rfl, h2⟩⟩, hb⟩
  · have hx : clsAt X.classes c = none := by
      rw [clsAt_has] at h1
      cases h : clsAt X.classes c
      · rfl
      · rw [h] at h1; cases h1
    unfold instY instE
    rw [hx]
    exact Gives.zero rfl hb
  · have hx : clsAt X.classes (k : Int) = some x := by rw [clsAt_nat]; exact hk
    unfold instY instE
    rw [hx]
    simp only
    rw [if_pos ⟨h1, h8⟩, if_pos ⟨h1, h8⟩]
    exact Gives.zero rfl hb
  · have hx : clsAt X.classes (k : Int) = some x := by rw [clsAt_nat]; exact hk
    unfold instY instE
    rw [hx]
    simp only [Int.toNat_natCast]
    rw [if_neg h1, if_neg h1]
    exact Gives.mk rfl h2 (hH.later goodO hb) (fun _ h => h) (fun _ h => Or.inl h) hb
end Go.Proofs.Ytahcmmdlggcfbaa
