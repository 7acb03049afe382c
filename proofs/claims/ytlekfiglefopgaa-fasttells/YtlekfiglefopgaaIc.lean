/- Code rows of one's own: what is appended. -/
import Derived.Test.YtlekfiglefopgaaIb
import Derived.Test.YtlekfiglefopgaaKc
namespace Go.Proofs.Ytlekfiglefopgaa
open Go.ChangeShapes Go.WideShapes Go.ChangeAt Go.RowKit
set_option linter.unusedSimpArgs false
set_option linter.unusedVariables false
set_option maxRecDepth 8000

theorem run_append_n {w : World} (T ty e : TypeId) (z : Value) (sz bytes : Nat) (hT : Try.prog.underlying T = some (.slice e)) (hI : (Try.prog.info? e).map (fun i => (i.zero, i.size, i.bytes)) = some (some z, sz, bytes)) (hzs : z.cells.size = sz) (hsz : 0 < sz)
    (base n : Nat) (v : Value) (xs : List Value) (hown : ownsAt w base e sz v n xs) (ad : Addr) (k kc : Nat) (hk : 0 < k) (news : List Value) (hl : news.length = k * sz) (hnews : ∀ j u, news[j]? = some u → w.cell? (ad.add j) = some u) (h1 : ∀ u ∈ news, u.oneCell' = true) (h63 : n + k ≤ maxLen) (hby : (n + k) * bytes ≤ 140737488355328) (hbase : base ≤ w.heap.size) :
    ∃ v' w', (Builtin.append_ #[T, T] ty #[v, .slice (some ad) k kc]).run Try.prog w = .ok v' w' ∧ ownsAt w' base e sz v' (n + k) (xs ++ news) ∧ (v'.ownBlock = v.ownBlock ∨ ∃ g, v'.ownBlock = some g ∧ w.heap.size ≤ g) ∧ Below base w w' ∧ (∀ b, b < w.heap.size → some b ≠ v.ownBlock → w'.heap[b]? = w.heap[b]?) := by
  obtain ⟨i0, hi, hz0, hz1, hz2⟩ := info_parts hI
  obtain ⟨hxl, ⟨rfl, rfl⟩ | ⟨g, o, cap, cur, rfl, h3, h4, h5, h6, h7, h8⟩⟩ := id hown
  · obtain ⟨v', w', hrun, r1, r2, _⟩ := run_append_own (P := Try.prog) w w.heap.size T ty e i0 z sz bytes hT hi hz0 hz1 hz2 hzs hsz (.slice none 0 0) 0 [] (World.ownsRow_nil w _ e sz) ad k kc news hl hnews h1 h63 hby (Nat.le_refl _)
    have hxs : xs = [] := List.eq_nil_of_length_eq_zero (by simpa using hxl)
    subst hxs
    refine ⟨v', w', hrun, ownsAt_of (by simpa using r1) hbase, Or.inr ?_, ?_, fun b hb hne => r2.block b hb hne⟩
    · obtain ⟨-, h | ⟨g, c, cur, e, h3, h4, -⟩⟩ := r1
      · omega
      · exact ⟨g, by rw [e]; rfl, h3⟩
    · exact (Below.refl _ _).grown r2 hbase fun k hk => by cases hk
  · by_cases hr : n + k ≤ cap
    · have hcs : cur.toList.length = cur.size := by simp
      have hon : o + n * sz + news.length ≤ cur.size := by
        have : (n + k) * sz ≤ cap * sz := Nat.mul_le_mul_right _ hr
        rw [Nat.add_mul] at this
        omega
      have hrun := run_append_room_cells (P := Try.prog) w T ty e i0 hT hi g o n cap ad k kc news (by rw [hz1]; exact hl) hnews h1 hr (fun j hj => by rw [hz1, cell_of_row _ _ _ _ _ _ h4]; simp; omega) (fun j hj => by unfold World.frozen?; simp [h4])
      rw [hz1] at hrun
      have hrow := setCells_row news (o + n * sz) w cur h4 hon
      refine ⟨_, _, hrun, ⟨by rw [List.length_append, hxl, hl, Nat.add_mul], Or.inr ⟨g, o, cap, _, rfl, h3, hrow, hr, h6, ?_, ?_⟩⟩, Or.inl rfl, ?_, fun b hb hne => setCells_else (fun e => hne (by rw [e]; rfl)) _ _ _⟩
      · simp
        omega
      · rw [← h8]
        apply List.ext_getElem?
        intro i
        simp only [List.getElem?_take, List.getElem?_drop, List.getElem?_append, List.length_append, List.length_take, List.length_drop, hcs]
        have e1 : min (o + n * sz) cur.size = o + n * sz := by omega
        have e2 : min (n * sz) (cur.size - o) = n * sz := by omega
        rw [e1, e2]
        have e3 : (n + k) * sz = n * sz + k * sz := by rw [Nat.add_mul]
        rw [e3]
        by_cases g1 : i < n * sz
        · simp [g1, show i < n * sz + k * sz by omega, show o + i < o + n * sz by omega, show o + i < o + n * sz + news.length by omega]
        · by_cases g2 : i < n * sz + k * sz
          · simp [g1, g2, show ¬ (o + i < o + n * sz) by omega, show o + i < o + n * sz + news.length by omega, show o + i - (o + n * sz) = i - n * sz by omega]
          · simp [g1, g2]
            omega
      · refine ⟨?_, ?_, ?_, ?_, fun k hk => setCells_else (by omega) _ _ _⟩
        · exact (bel_setCells _ _ _ _).os
        · exact (bel_setCells _ _ _ _).tape
        · exact (bel_setCells _ _ _ _).output
        · rw [setCells_size]; exact Nat.le_refl _
    · obtain ⟨v', w', hrun, r1, r2⟩ := run_append_arg_grows (P := Try.prog) w T ty e i0 z sz bytes hT hi hz0 hz1 hz2 hzs hsz ⟨g, o, none⟩ n cap xs hxl (fun j u hu => by
        rw [Addr.add_lit, cell_of_row _ _ _ _ _ _ h4]
        rw [← h8, List.getElem?_take] at hu
        split at hu
        · rw [List.getElem?_drop] at hu; simpa using hu
        · cases hu) ad k kc news hl hnews (by omega) h63 hby
      refine ⟨v', w', hrun, ownsAt_of r1 hbase, Or.inr ?_, ?_, fun b hb hne => r2.block b hb (by simp)⟩
      · obtain ⟨-, h | ⟨g, c, cur, e, h3, h4, -⟩⟩ := r1
        · omega
        · exact ⟨g, by rw [e]; rfl, h3⟩
      · exact (Below.refl _ _).grown r2 hbase fun k hk => by cases hk
theorem wpList_append_n {ops : Array Oper} {rest : List Oper} {o : Oper} {a : Act} {w : World} {Q : Exit → Act → World → Prop} (hgd : o.guard = none) (s x : Operand) (T e : TypeId) (z : Value) (sz bytes : Nat)
    (hop : o.op = Op.call { callee := Callee.builtin Builtin.append, args := #[s, x], argTypes := #[T, T] }) (hT : Try.prog.underlying T = some (.slice e)) (hI : (Try.prog.info? e).map (fun i => (i.zero, i.size, i.bytes)) = some (some z, sz, bytes)) (hzs : z.cells.size = sz) (hsz : 0 < sz)
    (base n : Nat) (v : Value) (xs : List Value) (hs : a.eval s = v) (hown : ownsAt w base e sz v n xs) (ad : Addr) (k kc : Nat) (hk : 0 < k) (hx : a.eval x = .slice (some ad) k kc) (news : List Value) (hl : news.length = k * sz) (hnews : ∀ j u, news[j]? = some u → w.cell? (ad.add j) = some u) (h1 : ∀ u ∈ news, u.oneCell' = true) (h63 : n + k ≤ maxLen) (hby : (n + k) * bytes ≤ 140737488355328) (hbase : base ≤ w.heap.size)
    (hK : ∀ a' cap' w', ownsAt w' base e sz (.slice a' (n + k) cap') (n + k) (xs ++ news) → ((Value.slice a' (n + k) cap').ownBlock = v.ownBlock ∨ ∃ g, (Value.slice a' (n + k) cap').ownBlock = some g ∧ w.heap.size ≤ g) → Below base w w' → (∀ b, b < w.heap.size → some b ≠ v.ownBlock → w'.heap[b]? = w.heap[b]?) → wpList Try.prog ops Q rest (a.put o.dst (.slice a' (n + k) cap')) w') :
    wpList Try.prog ops Q (o :: rest) a w := by
  refine wpList_plain hgd fun K hKK => ?_
  obtain ⟨v', w', hrun, r1, r2, r3, r4⟩ := run_append_n T o.type e z sz bytes hT hI hzs hsz base n v xs hown ad k kc hk news hl hnews h1 h63 hby hbase
  obtain ⟨a', cap', rfl, -⟩ := r1.form
  unfold Oper.wp
  simp [execOp, hop, resolve, invoke, builtin, hs, hx, hrun, Result.andThen]
  exact hKK _ _ (hK a' cap' w' r1 r2 r3 r4)
theorem own_rowAt {α : Type} {E : Lay α} {sz bytes : Nat} (G : Good E sz) {t : TypeId} {Q : Nat → Prop} {B n : Nat} {v : Value} {w : World} {cs : List Value} {xs : List α} (hown : ownsAt w B t sz v n cs) (hc : Cells E sz Q w cs xs) (hn : xs.length = n) (hQ : ∀ b, B ≤ b → b < w.heap.size → Q b) (hby : n * bytes ≤ 140737488351232) : IsRow E sz bytes Q w v xs := by
  obtain ⟨h0, ⟨rfl, h1⟩ | ⟨g, o, cap, cur, rfl, h3, h4, h5, h6, h7, h8⟩⟩ := hown
  · obtain rfl := List.eq_nil_of_length_eq_zero (hn.trans h1)
    exact row_none
  · subst hn
    refine ⟨_, _, rfl, h5, h6, hby, fun i x hx => ⟨g, o, rfl, hQ _ h3 (blk_lt h4), G.move (hc.2 i x hx) (fun _ h => h) (.refl _ _) fun k hk v hv => ?_⟩⟩
    rw [← h8, List.getElem?_take] at hv
    split at hv
    · rw [List.getElem?_drop] at hv
      rw [cell_of_row _ _ _ _ _ _ h4, Nat.add_assoc]
      simpa using hv
    · cases hv
def icells : List QI → List Value
  | [] => []
  | x :: r => .int .i64 x.op :: .int .i64 x.a :: .int .i64 x.b :: .int .i64 x.c :: .string x.name :: icells r
theorem icells_len : ∀ q, (icells q).length = q.length * 5
  | [] => rfl
  | p :: q => by simp [icells, icells_len q]; omega
theorem icells_append : ∀ q r, icells (q ++ r) = icells q ++ icells r
  | [], r => rfl
  | p :: q, r => by simp [icells, icells_append q r]
theorem icells_one : ∀ (q : List QI), ∀ u ∈ icells q, u.oneCell' = true
  | [], u, h => by simp [icells] at h
  | p :: q, u, h => by
    simp only [icells, List.mem_cons] at h
    rcases h with rfl | rfl | rfl | rfl | rfl | h
    · rfl
    · rfl
    · rfl
    · rfl
    · rfl
    · exact icells_one q u h
theorem icells_get : ∀ {q : List QI} {i : Nat} {x : QI}, q[i]? = some x → (icells q)[i * 5]? = some (.int .i64 x.op) ∧ (icells q)[i * 5 + 1]? = some (.int .i64 x.a) ∧ (icells q)[i * 5 + 2]? = some (.int .i64 x.b) ∧ (icells q)[i * 5 + 3]? = some (.int .i64 x.c) ∧ (icells q)[i * 5 + 4]? = some (.string x.name)
  | [], i, x, h => by simp at h
  | p :: q, 0, x, h => by simp at h; subst h; exact ⟨rfl, rfl, rfl, rfl, rfl⟩
  | p :: q, i + 1, x, h => by
    have := icells_get (q := q) (i := i) (x := x) (by simpa using h)
    rw [show (i + 1) * 5 = i * 5 + 1 + 1 + 1 + 1 + 1 by omega]
    exact this
/-- Names that are no longer than may be. -/
def NmOk (xs : List QI) : Prop := ∀ x ∈ xs, x.name.size ≤ 140737488351232
theorem NmOk.append {xs ys : List QI} (h : NmOk xs) (k : NmOk ys) : NmOk (xs ++ ys) := fun x hx => by
  rcases List.mem_append.1 hx with h' | h'
  · exact h x h'
  · exact k x h'
theorem icells_cells {P : Nat → Prop} {w : World} {xs : List QI} (h : NmOk xs) : Cells InstrC 5 P w (icells xs) xs := ⟨icells_len _, fun i x hx => by
  obtain ⟨h0, h1, h2, h3, h4⟩ := icells_get hx
  exact ⟨by simpa using h0, h1, h2, h3, h4, h x (List.mem_of_getElem? hx)⟩⟩
theorem ic_row {P : Nat → Prop} {w : World} {B : Nat} {v : Value} {xs : List QI} (h : ownsAt w B 69 5 v xs.length (icells xs)) (hn : NmOk xs) (hP : ∀ b, B ≤ b → b < w.heap.size → P b) (hl : xs.length ≤ 100000) : IsCode P w v xs := own_rowAt goodI h (icells_cells hn) rfl hP (by omega)
end Go.Proofs.Ytlekfiglefopgaa
