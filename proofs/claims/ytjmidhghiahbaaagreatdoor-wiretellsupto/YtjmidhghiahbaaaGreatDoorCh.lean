/- What comes of giving a class a method. -/
import Derived.Test.YtjmidhghiahbaaaGreatDoorCf
namespace Go.Proofs.YtjmidhghiahbaaaGreatDoor
open Go.ChangeShapes Go.WideShapes Go.ChangeAt Go.RowKit
set_option linter.unusedSimpArgs false
set_option linter.unusedVariables false

theorem IsRow.get {α : Type} {E : Lay α} {sz bytes : Nat} {P : Nat → Prop} {w : World} {v : Value} {xs : List α} (h : IsRow E sz bytes P w v xs) : ∃ ad cap, v = .slice ad xs.length cap := by
  obtain ⟨ad, cap, rfl, -⟩ := h; exact ⟨_, _, rfl⟩

section
variable {α : Type} {E : Lay α} {sz : Nat} {P : Nat → Prop} {w : World} {cs : List Value} {xs : List α}
theorem Cells.take (h : Cells E sz P w cs xs) (G : Good E sz) (p : Nat) (hp : p ≤ xs.length) : Cells E sz P w (cs.take (p * sz)) (xs.take p) := by
  have hl := h.1
  have hle := Nat.mul_le_mul_right sz hp
  refine ⟨by rw [List.length_take, List.length_take, hl, Nat.min_eq_left hle, Nat.min_eq_left hp], fun i x hx => ?_⟩
  rw [List.getElem?_take] at hx
  split at hx
  · rename_i hi
    refine G.move (h.2 i x hx) (fun _ h => h) (.refl _ _) fun k hk v hv => ?_
    rw [List.getElem?_take, if_pos]
    · exact hv
    · have := Nat.mul_le_mul_right sz (show i + 1 ≤ p by omega)
      rw [Nat.add_mul] at this
      omega
  · cases hx
theorem Cells.drop (h : Cells E sz P w cs xs) (G : Good E sz) (p : Nat) (hp : p ≤ xs.length) : Cells E sz P w (cs.drop (p * sz)) (xs.drop p) := by
  have hl := h.1
  refine ⟨by rw [List.length_drop, List.length_drop, hl, Nat.sub_mul], fun i x hx => ?_⟩
  rw [List.getElem?_drop] at hx
  refine G.move (h.2 _ x hx) (fun _ h => h) (.refl _ _) fun k hk v hv => ?_
  rw [List.getElem?_drop, ← Nat.add_assoc, ← Nat.add_mul]
  exact hv
end

/-- A method in the place of another one. -/
theorem meths_set {w : World} {gc hi at' : Nat} {Q : Nat → Prop} {cur : Array Value} {xs : List QM} {m : QM} {vs : List Value} (hcur : w.heap[gc]? = some (.cells cur 43 (0, 0))) (hcs : Cells MethC 5 (fun b => gc < b ∧ b < hi) w cur.toList xs) (ha : at' < xs.length) (hvl : vs.length = 5) (hm : MethC (fun b => Q b ∧ b ≠ gc) w (fun k => vs[k]?) m) (hL : Q gc) (hQ : ∀ b, gc < b → b < hi → Q b) (hby : xs.length * 64 ≤ 140737488351232) :
    IsMeths Q (w.setCells gc (at' * 5) vs) (.slice (some ⟨gc, 0, none⟩) xs.length xs.length) (xs.set at' m) := by
  have hl : cur.size = xs.length * 5 := by simpa using hcs.1
  refine ⟨_, xs.length, by simp, by simp, by unfold maxLen; omega, by simpa using hby, fun i x hx => ⟨gc, 0, rfl, hL, ?_⟩⟩
  have hi := lt_of_get hx
  simp at hi
  simp only [Nat.zero_add]
  by_cases he : i = at'
  · subst he
    rw [List.getElem?_set_self ha] at hx
    cases hx
    refine goodM.move hm (fun b hb => hb.1) (Keeps.of_block fun b hb _ => setCells_else hb.2 _ _ _) fun k hk v hv => ?_
    rw [World.cell?_setCells_in gc vs (i * 5) w (fun q hq => by rw [cell_of_row _ _ _ _ _ _ hcur]; simp; omega) k (by omega)]
    rw [List.getElem?_eq_getElem (by omega)] at hv
    exact hv
  · rw [List.getElem?_set_ne (by omega)] at hx
    refine goodM.move (hcs.2 i x hx) (fun b hb => hQ b hb.1 hb.2) (Keeps.of_block fun b hb _ => setCells_else (by have := hb.1; omega) _ _ _) fun k hk v hv => ?_
    rw [World.cell?_setCells_out gc vs (at' * 5) w _ (fun _ _ => by simp; omega), cell_of_row _ _ _ _ _ _ hcur]
    simpa using hv

/-- A class with other methods. -/
theorem classes_set {w wf : World} {g c L : Nat} {xs : List QC} {s : Nat → Nat} {x : QC} {vc : Value} {ms : List QM} (h : OwnC w g xs s xs.length) (hx : xs[c]? = some x) (hby : xs.length * 56 ≤ 140737488351232) (hL : L ≤ g)
    (hg : ∀ o v, o ≠ c * 4 + 3 → w.cell? ⟨g, o, none⟩ = some v → wf.cell? ⟨g, o, none⟩ = some v) (hc3 : wf.cell? ⟨g, c * 4 + 3, none⟩ = some vc) (hk : ∀ i, i ≠ c → i < xs.length → Keeps (fun b => s i ≤ b ∧ b < s (i + 1)) w wf) (hv : IsMeths (fun b => L ≤ b) wf vc ms) :
    IsClasses (fun b => L ≤ b) wf (.slice (some ⟨g, 0, none⟩) xs.length xs.length) (xs.set c { x with methods := ms }) := by
  have hc := lt_of_get hx
  refine ⟨_, xs.length, by simp, by simp, by unfold maxLen; omega, by simpa using hby, fun i y hy => ⟨g, 0, rfl, hL, ?_⟩⟩
  have hi := lt_of_get hy
  simp at hi
  simp only [Nat.zero_add]
  have hs := h.2.1
  have hm := h.mono 0 i (by omega) (by omega)
  by_cases he : i = c
  · subst he
    rw [List.getElem?_set_self hc] at hy
    cases hy
    obtain ⟨h0, h1, h2, h3, -⟩ := h.2.2.2.2 i x hi hx
    exact ⟨hg _ _ (by omega) h0, hg _ _ (by omega) h1, hg _ _ (by omega) h2, h3, vc, hc3, hv⟩
  · rw [List.getElem?_set_ne (by omega)] at hy
    have hK := h.2.2.2.2 i y hi hy
    obtain ⟨g', e1, e2, e3⟩ := hK.meths
    obtain ⟨h0, h1, h2, h3, -⟩ := hK
    exact ⟨hg _ _ (by omega) h0, hg _ _ (by omega) h1, hg _ _ (by omega) h2, h3, _, hg _ _ (by omega) e1, e3.keep goodM (hk i he hi) fun b hb => by have := hb.1; omega⟩

/-- A class's methods, with one more, or another one. -/
def insM (xs : List QM) (m : QM) : List QM :=
  if 0 ≤ numI xs m.name then xs.set (numI xs m.name).toNat m else xs.take (placeI xs m.name).toNat ++ [m] ++ xs.drop (placeI xs m.name).toNat
def epochE (e : Int) : Int := wrap64 (e + 1)
def instX (X : QW) (c : Nat) (x : QC) (m : QM) : QW := ⟨X.classes.set c { x with methods := insM x.methods m }, X.heap, epochE X.epoch⟩

theorem numI_lt {xs : List QM} {name : ByteArray} (h : 0 ≤ numI xs name) : (numI xs name).toNat < xs.length := by
  unfold numI findI at h ⊢
  cases hf : xs.findIdx? (fun m => eqN m.name name) with
  | none => rw [hf] at h; simp at h
  | some i =>
    simp
    rw [List.findIdx?_eq_some_iff_getElem] at hf
    exact hf.1
theorem placeI_le {xs : List QM} {name : ByteArray} : 0 ≤ placeI xs name ∧ (placeI xs name).toNat ≤ xs.length := by
  unfold placeI
  split
  · simp
  · rename_i h
    unfold findI at h ⊢
    cases hf : xs.findIdx? (fun m => gtN m.name name) with
    | none => rw [hf] at h; simp at h
    | some i =>
      simp
      rw [List.findIdx?_eq_some_iff_getElem] at hf
      exact Nat.le_of_lt hf.1

end Go.Proofs.YtjmidhghiahbaaaGreatDoor
