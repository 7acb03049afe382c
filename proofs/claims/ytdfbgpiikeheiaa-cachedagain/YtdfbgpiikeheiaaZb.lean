/- Frames: entries, rooms, what lies on the stack. -/
import Derived.Test.YtdfbgpiikeheiaaZa
namespace Go.Proofs.Ytdfbgpiikeheiaa
open Go.ChangeShapes Go.WideShapes Go.ChangeAt Go.RowKit
set_option linter.unusedSimpArgs false
set_option linter.unusedVariables false
set_option maxRecDepth 8000

abbrev VV (v : QV) : Value := .agg #[.int .i64 v.k, .int .i64 v.n]
theorem bel1s2 (w : World) (a : Obj) (o1 o2 : Nat) (u1 u2 : Value) : Below w.heap.size w (((w.alloc a).setCell ⟨w.heap.size, o1, none⟩ u1).setCell ⟨w.heap.size, o2, none⟩ u2) := ((bel1 _ _).setCell (by simp) _).setCell (by simp) _
set_option maxHeartbeats 1000000 in
theorem entry_any {P : Nat → Prop} (l : List QV) (lv : Value) (n : Int) (w : World) (h : IsVals P w lv l) : Calls Try.prog 100 #[lv, .int .i64 n] w fun e w' => e = .returned (VV (entryE l n)) ∧ Below w.heap.size w w' := by
  obtain ⟨ad, cap, rfl, hl, hcap, hby, hrow⟩ := h
  unfold maxLen at hcap
  by_cases hn : n < 0
  · have HE : Hid (entryE l n = nilV) := by show _ = _; unfold entryE; rw [if_pos hn]
    have hn' : decide (n < 0) = true := by simpa using hn
    go_enter Try.func100, Try.ntmps100
    go_wp2
    refine bodyPost_ret (v := VV nilV) ?_ rfl ⟨by rw [HE.out], bel1 _ _⟩
    simp [results, Try.results100, go_sem]
  · have hn' : decide (n < 0) = false := by simpa using hn
    obtain ⟨k, rfl⟩ : ∃ k : Nat, n = k := ⟨n.toNat, by omega⟩
    by_cases hk : k < l.length
    · have hx : l[k]? = some l[k] := by simp [hk]
      have HE : Hid (entryE l k = l[k]) := by show _ = _; unfold entryE; rw [if_neg hn]; simp [hk]
      generalize l[k] = x at *
      obtain ⟨b, o, rfl, -, h0, h1⟩ := hrow k x hx
      simp only [Nat.add_zero] at h0
      have c0 := cell_later (bel1 w (.cells #[.int .i64 0, .int .i64 0] 27)) h0
      have c1 := cell_later (bel1 w (.cells #[.int .i64 0, .int .i64 0] 27)) h1
      have hk1 : (k : Int) < (l.length : Int) := by omega
      have hk2 : ¬ ((l.length : Int) ≤ (k : Int)) := by omega
      go_enter Try.func100, Try.ntmps100
      go_wp2
      refine bodyPost_ret (v := VV x) ?_ rfl ⟨by rw [HE.out], bel1 _ _⟩
      simp [results, Try.results100, go_sem]
    · have HE : Hid (entryE l k = nilV) := by show _ = _; unfold entryE; rw [if_neg hn]; simp [hk]
      have hk2 : ((l.length : Int) ≤ (k : Int)) := by omega
      go_enter Try.func100, Try.ntmps100
      go_wp2
      refine bodyPost_ret (v := VV nilV) ?_ rfl ⟨by rw [HE.out], bel1 _ _⟩
      simp [results, Try.results100, go_sem]

theorem madeV (n : Nat) : madeCells #[.int .i64 0, .int .i64 0] (n * 2) = (vcells (List.replicate n nilV)).toArray := by
  rw [vcells_rep]
  unfold madeCells
  apply Array.ext
  · simp
  · intro i h1 h2
    simp
    rcases Nat.mod_two_eq_zero_or_one i with h | h <;> simp [h]
set_option maxHeartbeats 1000000 in
theorem rooms_any (n : Int) (w : World) : Calls Try.prog 101 #[.int .i64 n] w fun e w' => ∃ g, e = .returned (.slice (some ⟨g, 0, none⟩) (roomsE n).length (roomsE n).length) ∧ w'.heap[g]? = some (.cells (vcells (roomsE n)).toArray 27 (0, 0)) ∧ w.heap.size ≤ g ∧ Below w.heap.size w w' := by
  by_cases hn : n < 0
  · have HR : Hid (roomsE n = List.replicate 0 nilV) := by show _ = _; unfold roomsE; congr 1; omega
    have hmk : ∀ w : World, (Instr.makeSlice 28 (.int .i64 0) (.int .i64 0)).run Try.prog w = .ok (.slice (some ⟨w.heap.size, 0, none⟩) 0 0) (w.alloc (.cells (madeCells #[.int .i64 0, .int .i64 0] (0 * 2)) 27)) := make_vals 0 (by omega)
    have hn' : decide (n < 0) = true := by simpa using hn
    go_enter Try.func101, Try.ntmps101
    go_wp2
    go_ret
    rw [HR.out, List.length_replicate]
    exact ⟨_, rfl, by rw [← madeV]; exact heap_alloc_new _ _, Nat.le_refl _, bel1 _ _⟩
  · obtain ⟨m, rfl⟩ : ∃ m : Nat, n = (m : Int) := ⟨n.toNat, by omega⟩
    by_cases hm4 : m ≤ 40
    · have HR : Hid (roomsE m = List.replicate m nilV) := by show _ = _; unfold roomsE; congr 1; omega
      have hmk := make_vals m (by omega)
      have hm5 : (m : Int) ≤ 40 := by omega
      have hm6 : ¬ (40 < (m : Int)) := by omega
      go_enter Try.func101, Try.ntmps101
      go_wp2
      go_ret
      rw [HR.out, List.length_replicate]
      exact ⟨_, rfl, by rw [← madeV]; exact heap_alloc_new _ _, Nat.le_refl _, bel1 _ _⟩
    · have HR : Hid (roomsE m = List.replicate 40 nilV) := by show _ = _; unfold roomsE; congr 1; omega
      have hmk : ∀ w : World, (Instr.makeSlice 28 (.int .i64 40) (.int .i64 40)).run Try.prog w = .ok (.slice (some ⟨w.heap.size, 0, none⟩) 40 40) (w.alloc (.cells (madeCells #[.int .i64 0, .int .i64 0] (40 * 2)) 27)) := make_vals 40 (by omega)
      have hm5 : 40 < (m : Int) := by omega
      go_enter Try.func101, Try.ntmps101
      go_wp2
      go_ret
      rw [HR.out, List.length_replicate]
      exact ⟨_, rfl, by rw [← madeV]; exact heap_alloc_new _ _, Nat.le_refl _, bel1 _ _⟩

set_option maxHeartbeats 1000000 in
theorem setEntry_any (l : List QV) (g : Nat) (n : Int) (v : QV) (w : World) (h : w.heap[g]? = some (.cells (vcells l).toArray 27 (0, 0))) : Calls Try.prog 112 #[.slice (some ⟨g, 0, none⟩) l.length l.length, .int .i64 n, VV v] w fun e w' => e = .returned (.tuple #[]) ∧ w'.heap[g]? = some (.cells (vcells (setEntryE l n v)).toArray 27 (0, 0)) ∧ w.heap.size < w'.heap.size ∧ ∀ (S : Nat → Prop) (T : Nat → Nat), S (T g) → Kp S T w w' := by
  have hgl := blk_lt h
  have hb1 := bel1 w (.cells #[.int .i64 v.k, .int .i64 v.n] 27)
  have h1 := box_later' h hb1
  by_cases hn : n < 0
  · have HE : Hid (setEntryE l n v = l) := by show _ = _; unfold setEntryE; rw [if_pos hn]
    have hn' : decide (0 ≤ n) = false := by simpa using hn
    go_enter Try.func112, Try.ntmps112
    go_wp2
    refine bodyPost_end (v := .tuple #[]) (by simp [results, Try.results112, go_sem]) rfl ⟨rfl, by rw [HE.out]; exact h1, by simp, fun S T hs => Kp.of_below (bel1 _ _)⟩
  · obtain ⟨k, rfl⟩ : ∃ k : Nat, n = k := ⟨n.toNat, by omega⟩
    have HE : Hid (setEntryE l k v = l.set k v) := by show _ = _; unfold setEntryE; rw [if_neg hn]; simp
    have hn' : decide (0 ≤ (k : Int)) = true := by simp
    by_cases hk : k < l.length
    · have hk1 : (k : Int) < (l.length : Int) := by omega
      obtain ⟨c0, c1⟩ := vcell_at h1 (show l[k]? = some l[k] by simp [hk])
      have f0 : ∀ o, (w.alloc (.cells #[.int .i64 v.k, .int .i64 v.n] 27)).frozen? ⟨g, o, none⟩ = false := fun o => by unfold World.frozen?; simp only [h1]; simp
      have hset := vset_row h1 k v
      have b0 := (cell_new w #[.int .i64 v.k, .int .i64 v.n] 27 _ rfl 0)
      have b1 := (cell_new w #[.int .i64 v.k, .int .i64 v.n] 27 _ rfl 1)
      have HK : Hid (∀ (S : Nat → Prop) (T : Nat → Nat), Kp S T w (w.alloc (.cells #[.int .i64 v.k, .int .i64 v.n] 27))) := fun S T => Kp.of_below (bel1 _ _)
      have hz : w.heap.size < (w.alloc (.cells #[.int .i64 v.k, .int .i64 v.n] 27)).heap.size := by simp
      have hne : ¬ w.heap.size = g := by omega
      have hne' : ¬ g = w.heap.size := by omega
      go_enter Try.func112, Try.ntmps112
      go_upto_region 1 with (fail)
      generalize (w.alloc (.cells #[.int .i64 v.k, .int .i64 v.n] 27)) = W at *
      simp at b0 b1
      go_wp2
      refine bodyPost_end (v := .tuple #[]) (by simp [results, Try.results112, go_sem]) rfl ⟨rfl, by rw [HE.out]; exact hset, by simpa using hz, fun S T hs => ((HK.out S T).set (fun _ => hs) _ _).set (fun _ => hs) _ _⟩
    · have hk1 : ((l.length : Int) ≤ (k : Int)) := by omega
      have hs : l.set k v = l := List.set_eq_of_length_le (by omega)
      go_enter Try.func112, Try.ntmps112
      go_wp2
      refine bodyPost_end (v := .tuple #[]) (by simp [results, Try.results112, go_sem]) rfl ⟨rfl, by rw [HE.out, hs]; exact h1, by simp, fun S T hs => Kp.of_below (bel1 _ _)⟩
end Go.Proofs.Ytdfbgpiikeheiaa
