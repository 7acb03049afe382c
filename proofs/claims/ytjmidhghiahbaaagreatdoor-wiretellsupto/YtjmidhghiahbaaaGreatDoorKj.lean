/- The reference's Next; the closed fact of chapter 3. -/
import Derived.Test.YtjmidhghiahbaaaGreatDoorKi
import Derived.Test.YtjmidhghiahbaaaGreatDoorEa
namespace Go.Proofs.YtjmidhghiahbaaaGreatDoor
open Go.ChangeShapes Go.WideShapes Go.ChangeAt Go.RowKit
set_option linter.unusedSimpArgs false
set_option linter.unusedVariables false
set_option maxRecDepth 8000

theorem ints_new {w : World} {l : List Int} (hl : l.length ≤ 1000) (n : Nat) (hn : w.heap.size = n) : IsInts (fun b => n ≤ b) (w.alloc (.cells (hCells l).toArray 3 (0, 0))) (.slice (some ⟨n, 0, none⟩) l.length l.length) l :=
  Cells.row (intCells l) goodN (Nat.le_refl _) (blk_new _ _ _ hn) (by rw [List.take_of_length_le (by simp [hCells])]; simp [hCells]) (Nat.le_refl _) (by unfold maxLen; omega) (by omega)

/-- What comes of Next. -/
def NextP (w : World) (x : QI) (p : Int) (e : Ending) (w' : World) : Prop :=
  ∃ a k, e = .returned (.tuple #[.int .i64 (nextE x p).need, .int .i64 (nextE x p).more, .slice a (nextE x p).next.length k]) ∧ IsInts (fun b => w.heap.size ≤ b) w' (.slice a (nextE x p).next.length k) (nextE x p).next ∧ Below w.heap.size w w'
theorem NextP.mk {w W : World} {x : QI} {p need more : Int} {l : List Int} {e : Ending} {n : Nat} (h : nextE x p = ⟨need, more, l⟩) (hn : W.heap.size = n) (hl : l.length ≤ 1000) (hw : w.heap.size ≤ n) (he : e = .returned (.tuple #[.int .i64 need, .int .i64 more, .slice (some ⟨n, 0, none⟩) l.length l.length])) (hb : Below w.heap.size w W) : NextP w x p e (W.alloc (.cells (hCells l).toArray 3 (0, 0))) := by
  unfold NextP
  rw [h]
  exact ⟨_, _, he, (ints_new hl n hn).mono goodN fun b hb => by omega, hb.alloc (by omega) _⟩

theorem NextP.drew {w w' : World} {x : QI} {p : Int} {e : Ending} (h : NextP w x p e w') : NextP w x p e w'.drew := by
  obtain ⟨a, k, h1, h2, h3⟩ := h
  exact ⟨a, k, h1, h2.later goodN (Below.refl _ _).drew, h3.drew⟩
set_option maxHeartbeats 2000000 in
theorem rnext_any (x : QI) (p : Int) (w : World) (hx : x.op = 14 → 0 ≤ x.a ∧ x.a ≤ 4) (hp : IntKind.i64.wrap (p + 1) = p + 1) : Calls Tryz.prog 53 #[IV x, .int .i64 p] w fun e w' => NextP w x p e w' := by
  obtain ⟨op, xa, xb, xc, nm⟩ := x
  simp only at hx
  have hb1 := bel1 w (Obj.cells #[.int .i64 op, .int .i64 xa, .int .i64 xb, .int .i64 xc, .string nm] 62)
  go_enter Tryz.func53, Tryz.ntmps53
  by_cases h1 : op = 9 ∨ op = 11 ∨ op = 12
  · rcases h1 with rfl | rfl | rfl
    all_goals
      go_wp2
      refine bodyPost_ret (v := .tuple #[.int .i64 1, .int .i64 (-1), .slice (some ⟨w.heap.size + 1, 0, none⟩) 1 1]) (by simp [results, Tryz.results53, go_sem]) rfl (NextP.mk (l := [p + 1]) (by simp [nextE]) (by simp) (by simp) (by omega) rfl (bel1 _ _))
  · by_cases h2 : op = 10
    · subst h2
      go_wp2
      refine bodyPost_ret (v := .tuple #[.int .i64 (1), .int .i64 (1), .slice (some ⟨w.heap.size + 1, 0, none⟩) 1 1]) (by simp [results, Tryz.results53, go_sem]) rfl (NextP.mk (l := [p + 1]) (by simp [nextE]) (by simp) (by simp) (by omega) rfl (bel1 _ _))
    · by_cases h3 : op = 14
      · subst h3
        obtain ⟨q1, q2⟩ := hx rfl
        have hw1 : IntKind.i64.wrap (xa + 1) = xa + 1 := wrap_of (by omega) (by omega)
        have hw2 : IntKind.i64.wrap (-xa) = -xa := wrap_of (by omega) (by omega)
        go_wp2
        go_region
        all_goals go_wp2
        all_goals refine bodyPost_ret (v := .tuple #[.int .i64 (xa + 1), .int .i64 (-xa), .slice (some ⟨w.heap.size + 1, 0, none⟩) 1 1]) (by simp [results, Tryz.results53, go_sem]) rfl ?_
        all_goals exact (NextP.mk (l := [p + 1]) (by simp [nextE]) (by simp) (by simp) (by omega) rfl (bel1 _ _)).drew
      · by_cases h4 : op = 15
        · subst h4
          go_wp2
          go_region
          all_goals go_wp2
          all_goals refine bodyPost_ret (v := .tuple #[.int .i64 0, .int .i64 0, .slice (some ⟨w.heap.size + 1, 0, none⟩) 1 1]) (by simp [results, Tryz.results53, go_sem]) rfl ?_
          all_goals exact (NextP.mk (l := [xa]) (by simp [nextE]) (by simp) (by simp) (by omega) rfl (bel1 _ _)).drew
        · by_cases h5 : op = 16
          · subst h5
            go_wp2
            go_region
            all_goals go_wp2
            all_goals refine bodyPost_ret (v := .tuple #[.int .i64 1, .int .i64 (-1), .slice (some ⟨w.heap.size + 1, 0, none⟩) 2 2]) (by simp [results, Tryz.results53, go_sem]) rfl ?_
            all_goals exact (NextP.mk (l := [p + 1, xa]) (by simp [nextE]) (by simp) (by simp) (by omega) rfl (bel1 _ _)).drew
          · by_cases h6 : op = 17
            · subst h6
              go_wp2
              refine bodyPost_ret (v := .tuple #[.int .i64 1, .int .i64 (-1), .slice none 0 0]) (by simp [results, Tryz.results53, go_sem]) rfl ?_
              unfold NextP
              rw [show nextE ⟨17, xa, xb, xc, nm⟩ p = ⟨1, -1, []⟩ from by simp [nextE]]
              exact ⟨none, 0, rfl, row_none, bel1 _ _⟩
            · have n1 : ¬ op = 9 := fun h => h1 (Or.inl h)
              have n2 : ¬ op = 11 := fun h => h1 (Or.inr (Or.inl h))
              have n3 : ¬ op = 12 := fun h => h1 (Or.inr (Or.inr h))
              go_wp2
              refine bodyPost_ret (v := .tuple #[.int .i64 0, .int .i64 1, .slice (some ⟨w.heap.size + 1, 0, none⟩) 1 1]) (by simp [results, Tryz.results53, go_sem]) rfl (NextP.mk (l := [p + 1]) (by simp [nextE, h2, h3, h4, h5, h6, n1, n2, n3]) (by simp) (by simp) (by omega) rfl (bel1 _ _))

def alM : QM := ⟨⟨#[109]⟩, 0, 0, 0, [⟨5, 5, 0, 0, ⟨#[]⟩⟩, ⟨17, 0, 0, 0, ⟨#[]⟩⟩]⟩
def alC : QM := ⟨⟨#[109]⟩, 0, 0, 0, [⟨5, 5, 0, 0, ⟨#[]⟩⟩]⟩
theorem al_heights : heightsE alM.code = ([0, 1], (0, 0)) := by decide
theorem al_check : checkE (slotsW newX.classes 0) newX.classes.length 0 alM = (0, 0) := by kernel_rfl
theorem al_cut : checkE (slotsW newX.classes 0) newX.classes.length 0 alC = (9, 1) := by kernel_rfl
theorem al_sends : SendsOk alM.code := fun x hx h => by simp [alM] at hx; rcases hx with rfl | rfl <;> simp at h
end Go.Proofs.YtjmidhghiahbaaaGreatDoor
