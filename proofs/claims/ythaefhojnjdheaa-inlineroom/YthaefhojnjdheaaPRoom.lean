/- Several texts in one. -/
import Derived.Test.YthaefhojnjdheaaIj
import Derived.Test.YthaefhojnjdheaaGd
import Derived.Test.YthaefhojnjdheaaEb
import Derived.Test.YthaefhojnjdheaaNb
import Derived.Test.YthaefhojnjdheaaRa
import Derived.ChangeMaps5
/- Inline: plain facts of fast code: where jumps lead, what guards name. -/
namespace Go.Proofs.Ythaefhojnjdheaa
open Go.ChangeShapes Go.WideShapes Go.ChangeAt Go.RowKit
set_option linter.unusedSimpArgs false
set_option linter.unusedVariables false

def jmp (y : QI) : Prop := y.op = 15 ∨ y.op = 16
theorem sets_op (a : Int) : ∀ (n : Nat), ∀ y ∈ setsE a n, y.op = 11
  | 0, y, h => by cases h
  | n + 1, y, h => by
    unfold setsE at h
    rcases List.mem_cons.1 h with rfl | h
    · rfl
    · exact sets_op a n y h
theorem nils_op (a : Int) (n : Nat) : ∀ y ∈ nilsE a n, y.op = 6 ∨ y.op = 11 := by
  intro y h
  unfold nilsE at h
  rw [List.mem_flatMap] at h
  obtain ⟨k, -, h⟩ := h
  simp only [List.mem_cons, List.not_mem_nil, or_false] at h
  rcases h with rfl | rfl
  · exact Or.inl rfl
  · exact Or.inr rfl
theorem stand_good {leaf : QM} (hs : Sml leaf) (self args temps first behind : Int) (hf : 0 ≤ first) (hb : behind = first + leaf.code.length) {x : QI} (hx : x ∈ leaf.code) : (standE self args temps first behind x).op ≠ 18 ∧ (jmp (standE self args temps first behind x) → 0 ≤ (standE self args temps first behind x).a ∧ (standE self args temps first behind x).a ≤ behind) := by
  obtain ⟨p1, p2, -⟩ := hs.plain x hx
  have hj := hs.jump x hx
  unfold jmp standE
  split
  · exact ⟨by simp, fun h => by simp at h⟩
  · split
    · exact ⟨by simp, fun h => by simp at h⟩
    · split
      · rename_i h; exact ⟨by simp; omega, fun h' => by simp at h'; omega⟩
      · split
        · exact ⟨by simp, fun h => by simp at h⟩
        · split
          · exact ⟨by simp, fun h => by simp at h⟩
          · split
            · rename_i h; have := hj h; exact ⟨by simp; omega, fun _ => by simp; omega⟩
            · split
              · exact ⟨by simp, fun _ => by simp; omega⟩
              · exact ⟨by omega, fun h' => by omega⟩
theorem piece_good {leaf : QM} (hs : Sml leaf) (guard : QI) (self n : Int) (hn : 0 ≤ n) : ∀ y ∈ pieceE leaf guard self n, y = guard ∨ (y.op ≠ 18 ∧ (jmp y → 0 ≤ y.a ∧ y.a ≤ n + (pieceE leaf guard self n).length)) := by
  intro y hy
  rw [pieceE_len]
  have ha := hs.args
  have ht := hs.temps
  unfold pieceE at hy
  rcases List.mem_append.1 hy with h | h
  · unfold headE at h
    simp only [List.mem_append, List.mem_cons, List.not_mem_nil, or_false] at h
    rcases h with ((((h | h) | h) | h) | h)
    · exact Or.inl h
    · subst h; exact Or.inr ⟨by simp, fun h => by simp [jmp] at h⟩
    · have := sets_op _ _ y h; exact Or.inr ⟨by omega, fun h => by simp only [jmp] at h; omega⟩
    · subst h; exact Or.inr ⟨by simp, fun h => by simp [jmp] at h⟩
    · have := nils_op _ _ y h; exact Or.inr ⟨by omega, fun h => by simp only [jmp] at h; omega⟩
  · obtain ⟨x, hx, rfl⟩ := List.mem_map.1 h
    obtain ⟨g1, g2⟩ := stand_good hs self (self + 1) (self + 1 + leaf.args) (firstOf leaf n) (firstOf leaf n + leaf.code.length) (by unfold firstOf; omega) rfl hx
    refine Or.inr ⟨g1, fun hj => ?_⟩
    have := g2 hj
    unfold firstOf at *
    omega
theorem guard_in (leaf : QM) (guard : QI) (self n : Int) : guard ∈ pieceE leaf guard self n := by
  unfold pieceE headE; simp
/-- What the code holds so far. -/
structure BGood (sites : List Int) (m : QM) (k : Nat) (s : Bd) : Prop where
  len : k ≤ s.code.length
  jump : ∀ y ∈ s.code, jmp y → 0 ≤ y.a ∧ (y.a ≤ s.code.length ∨ y.a ≤ m.code.length)
  guard : ∀ y ∈ s.code, y.op = 18 → ∃ j : Nat, j < k ∧ y.c = j ∧ sites[j]? = some y.a
  one : 0 < s.pieces → ∃ y ∈ s.code, y.op = 18
  stay : ∀ j x, m.code[j]? = some x → j < k → x.op ≠ 14 → ∃ b : Nat, s.begins[j]? = Option.some (b : Int) ∧ s.code[b]? = Option.some x
theorem site_at {sites : List Int} {k : Nat} (h : 0 ≤ sites.getD k (-1)) : sites[k]? = some (sites.getD k (-1)) := by
  rw [List.getD_eq_getElem?_getD] at h ⊢
  cases hs : sites[k]? with
  | none => rw [hs] at h; simp at h
  | some v => rfl
theorem build_good {X : QW} (h : rightE X = 0) {sites : List Int} {m : QM} (hm : Sml m) : ∀ {k : Nat}, k ≤ m.code.length → BGood sites m k (buildB X.classes sites m k)
  | 0, _ => ⟨Nat.zero_le _, fun y hy => by simp [buildB] at hy, fun y hy => by simp [buildB] at hy, fun h => by simp [buildB] at h, fun j x _ hj => by omega⟩
  | k + 1, hk => by
    have ih := build_good h hm (sites := sites) (k := k) (by omega)
    have hbl := build_begins (xs := X.classes) (sites := sites) (m := m) (k := k) (by omega)
    have hx : m.code[k]? = some m.code[k] := List.getElem?_eq_getElem (by omega)
    have hxm : m.code[k] ∈ m.code := List.getElem_mem _
    rw [buildB_succ hx]
    generalize buildB X.classes sites m k = s at *
    generalize m.code[k] = x at *
    have hold : ∀ j y, m.code[j]? = some y → j < k → y.op ≠ 14 → ∀ (e : List QI), ∃ b : Nat, (s.begins ++ [(s.code.length : Int)])[j]? = some (b : Int) ∧ (s.code ++ e)[b]? = some y := by
      intro j y hy hj ho e
      obtain ⟨b, h1, h2⟩ := ih.stay j y hy hj ho
      exact ⟨b, by rw [List.getElem?_append_left (by omega)]; exact h1, by rw [List.getElem?_append_left (lt_of_get h2)]; exact h2⟩
    obtain ⟨p1, p2, -⟩ := hm.plain x hxm
    unfold stepB
    cases hw : whoE X.classes sites m.code.length s.code.length s.temps k x with
    | none =>
      dsimp only
      have hso : (stayE x (k : Int)).op = x.op := by unfold stayE; split <;> rfl
      refine ⟨by simp; exact ih.len, fun y hy hj => ?_, fun y hy ho => ?_, fun hp => ?_, fun j y hy hj ho => ?_⟩
      · rcases List.mem_append.1 hy with h' | h'
        · have := ih.jump y h' hj; rw [List.length_append]; simp; omega
        · rw [List.mem_singleton] at h'
          subst h'
          have hj' : x.op = 15 ∨ x.op = 16 := by unfold jmp at hj; rw [hso] at hj; exact hj
          have e : stayE x (k : Int) = x := by unfold stayE; rw [if_neg (by omega)]
          rw [e]
          have := hm.jump x hxm hj'
          omega
      · rcases List.mem_append.1 hy with h' | h'
        · obtain ⟨j, h1, h2⟩ := ih.guard y h' ho; exact ⟨j, by omega, h2⟩
        · rw [List.mem_singleton] at h'
          subst h'
          rw [hso] at ho; omega
      · obtain ⟨y, h1, h2⟩ := ih.one hp; exact ⟨y, List.mem_append_left _ h1, h2⟩
      · by_cases hjk : j < k
        · exact hold j y hy hjk ho _
        · have hjk' : j = k := by omega
          subst hjk'
          rw [hx] at hy; cases hy
          have e : stayE x (j : Int) = x := by unfold stayE; rw [if_neg ho]
          refine ⟨s.code.length, ?_, ?_⟩
          · rw [List.getElem?_append_right (by omega), hbl]; simp
          · rw [e, List.getElem?_append_right (Nat.le_refl _)]; simp
    | some leaf =>
      have hst : standsIn X.classes sites k x = some leaf := by
        unfold whoE at hw
        split at hw
        · cases hw
        · rename_i l hl
          split at hw
          · cases hw; exact hl
          · cases hw
      obtain ⟨hsm, -, -, ho14⟩ := stands_small h hst
      have hsi : 0 ≤ sites.getD k (-1) := by
        unfold standsIn at hst
        split at hst
        · rename_i hh; exact hh.2
        · cases hst
      dsimp only
      have hpg := piece_good hsm (ins 18 (sites.getD k (-1)) leaf.args k) s.temps s.code.length (by omega)
      refine ⟨by rw [List.length_append, pieceE_len]; have := ih.len; omega, fun y hy hj => ?_, fun y hy ho => ?_, fun _ => ⟨_, List.mem_append_right _ (guard_in leaf _ _ _), rfl⟩, fun j y hy hj ho => ?_⟩
      · rw [List.length_append]
        rcases List.mem_append.1 hy with h' | h'
        · have := ih.jump y h' hj; omega
        · rcases hpg y h' with rfl | ⟨-, h2⟩
          · simp [jmp] at hj
          · have := h2 hj; omega
      · rcases List.mem_append.1 hy with h' | h'
        · obtain ⟨j, h1, h2⟩ := ih.guard y h' ho; exact ⟨j, by omega, h2⟩
        · rcases hpg y h' with rfl | ⟨h2, -⟩
          · exact ⟨k, by omega, rfl, site_at hsi⟩
          · exact absurd ho h2
      · by_cases hjk : j < k
        · exact hold j y hy hjk ho _
        · have hjk' : j = k := by omega
          subst hjk'
          rw [hx] at hy; cases hy
          exact absurd ho14 ho
theorem mem_modify {l : List QI} {i : Nat} {f : QI → QI} {y : QI} (h : y ∈ l.modify i f) : y ∈ l ∨ ∃ z, l[i]? = some z ∧ y = f z := by
  obtain ⟨j, hj⟩ := List.mem_iff_getElem?.1 h
  rw [List.getElem?_modify] at hj
  by_cases e : i = j
  · subst e
    cases hz : l[i]? with
    | none => rw [hz] at hj; simp at hj
    | some z => rw [hz] at hj; simp at hj; exact Or.inr ⟨z, rfl, hj.symm⟩
  · simp [e] at hj
    exact Or.inl (List.mem_iff_getElem?.2 ⟨j, hj⟩)
/-- Leading jumps changes where jumps lead, and nothing else. -/
theorem led_op {begins : List Int} {plain code : List QI} : ∀ k, (ledE begins plain code k).map (·.op) = code.map (·.op)
  | 0 => rfl
  | k + 1 => by
    unfold ledE
    have ih := led_op (begins := begins) (plain := plain) (code := code) k
    split
    · split
      · rename_i t _
        rw [← ih]
        apply List.ext_getElem?
        intro i
        simp only [List.getElem?_map, List.getElem?_modify]
        cases (ledE begins plain code k)[i]? with
        | none => rfl
        | some z => simp; split <;> rfl
      · exact ih
    · exact ih
theorem led_good {sites : List Int} {m : QM} {n : Nat} {s : Bd} (hs : BGood sites m n s) (hn : n = m.code.length) (hin : ∀ b ∈ s.begins, 0 ≤ b ∧ b < (s.code.length : Int)) : ∀ k, k ≤ n → ∀ y ∈ ledE s.begins m.code s.code k, (jmp y → 0 ≤ y.a ∧ y.a ≤ s.code.length) ∧ (y.op = 18 → ∃ j : Nat, j < n ∧ y.c = j ∧ sites[j]? = some y.a)
  | 0, _, y, hy => by
    have hl := hs.len
    refine ⟨fun hj => ?_, hs.guard y hy⟩
    have := hs.jump y hy hj
    omega
  | k + 1, hk, y, hy => by
    have ih := led_good hs hn hin k (by omega)
    unfold ledE at hy
    split at hy
    · rename_i x b hx hb
      split at hy
      · rename_i t ht
        rcases mem_modify hy with h' | ⟨z, hz, rfl⟩
        · exact ih y h'
        · unfold leadE at ht
          split at ht
          · rename_i hj
            have hti := hin t (List.mem_of_getElem? ht)
            obtain ⟨b', hb', hc⟩ := hs.stay k x hx (by omega) (by omega)
            rw [hb] at hb'; cases hb'
            have ho := led_op (begins := s.begins) (plain := m.code) (code := s.code) k
            have ho' := congrArg (fun l => l[b']?) ho
            simp only [List.getElem?_map] at ho'
            simp only [Int.toNat_natCast] at hz
            rw [hz, hc] at ho'
            simp at ho'
            refine ⟨fun _ => ⟨hti.1, by dsimp only; omega⟩, fun h18 => ?_⟩
            dsimp only at h18
            omega
          · cases ht
      · exact ih y hy
    · exact ih y hy
/-- Fast code keeps to its room, its jumps lead within it or just behind, its guards name sends of the method and the classes told for them. -/
theorem fast_good {X : QW} (h : rightE X = 0) {sites : List Int} {m : QM} (hm : Sml m) {c : Int} (hok : (fastM X c m sites).2 = true) :
    (fastM X c m sites).1.code.length ≤ 240 ∧ (fastM X c m sites).1.temps ≤ 40 ∧ (∀ y ∈ (fastM X c m sites).1.code, (jmp y → 0 ≤ y.a ∧ y.a ≤ (fastM X c m sites).1.code.length) ∧ (y.op = 18 → ∃ j : Nat, j < m.code.length ∧ y.c = j ∧ sites[j]? = some y.a)) ∧ ∃ y ∈ (fastM X c m sites).1.code, y.op = 18 := by
  have hg := build_good h hm (sites := sites) (Nat.le_refl m.code.length)
  have hb := build_small h hm (sites := sites) (Nat.le_refl m.code.length)
  have hi := build_in (xs := X.classes) (sites := sites) (m := m) m.code.length
  unfold fastM at hok ⊢
  dsimp only at hok ⊢
  generalize buildB X.classes sites m m.code.length = s at *
  split at hok
  · cases hok
  · rename_i hp
    rw [if_neg hp]
    dsimp only
    rw [ledE_len]
    refine ⟨by omega, hb.2.2.1, led_good hg rfl hi _ (Nat.le_refl _), ?_⟩
    obtain ⟨y, hy, ho⟩ := hg.one (by omega)
    have : y.op ∈ (ledE s.begins m.code s.code m.code.length).map (·.op) := by rw [led_op]; exact List.mem_map_of_mem hy
    obtain ⟨z, hz, e⟩ := List.mem_map.1 this
    exact ⟨z, hz, by rw [← ho]; exact e⟩
theorem fast_none {X : QW} {sites : List Int} {m : QM} {c : Int} (hok : (fastM X c m sites).2 = false) : fastM X c m sites = (noFast, false) := by
  unfold fastM at hok ⊢
  dsimp only at hok ⊢
  split at hok
  · rename_i hp; rw [if_pos hp]
  · cases hok
end Go.Proofs.Ythaefhojnjdheaa

/- Inline: Method, whatever the method. -/
namespace Go.Proofs.Ythaefhojnjdheaa
open Go.ChangeShapes Go.WideShapes Go.ChangeAt Go.RowKit
set_option linter.unusedSimpArgs false
set_option linter.unusedVariables false
set_option maxRecDepth 8000

def methodA (X : QW) (c k : Int) (sites : List Int) : Fst × Bool := match methAt X.classes c k with
  | none => (noFast, false)
  | some m => fastM X c m sites
theorem methodN_any {P Q : Nat → Prop} (X : QW) (c k : Int) (hm : methAt X.classes c k = none) (sites : List Int) (cv hv sv : Value) (w : World) (hC : IsClasses P w cv X.classes) (hH : IsHeap P w hv X.heap) (hS : IsInts Q w sv sites) :
    Calls Try.prog 7 #[WV cv hv X.epoch, .int .i64 c, .int .i64 k, sv] w fun e w' => MtPost w (noFast, false) e w' := by
  obtain ⟨ac, cc, rfl, -, hcc, -, -⟩ := id hC
  obtain ⟨ah, ch, rfl, -⟩ := id hH
  have hbW := bel2 w (.cells #[.slice ac X.classes.length cc, .slice ah X.heap.length ch, .int .i64 X.epoch] 25) (.cells #[.int .i64 0, .string ⟨#[]⟩, .int .i64 0, .int .i64 0, .slice none 0 0] 31)
  go_enter Try.func7, Try.ntmps7
  go_wp2_with fail
  refine (ihas_any X c k _ _ _ (hC.later goodC hbW) (hH.later goodO hbW)).mono ?_
  rintro e w1 ⟨rfl, hb1⟩
  rw [show methQ X.classes c k = none from hm]
  dsimp only
  have hB1 := nstep hbW hb1
  have zz := rbx_new w (.slice ac X.classes.length cc) (.slice ah X.heap.length ch) X.epoch
  replace zz := zz.later hb1
  obtain ⟨k0, k1, k2, q0, q1, q2, q3, q4, qf, hzz⟩ := id zz
  have HQ := hid (mt_none (U := w1) hB1)
  go_wp2
  refine bodyPost_ret (v := .tuple #[FsV noFast (.slice none 0 0), .bool false]) ?_ rfl HQ.out
  simp [results, Try.results7, go_sem, q0, q1, q2, q3, q4, noFast]
theorem method_any {P Q : Nat → Prop} (X : QW) (hX : rightE X = 0) (c k : Int) (sites : List Int) (cv hv sv : Value) (w : World) (hC : IsClasses P w cv X.classes) (hH : IsHeap P w hv X.heap) (hS : IsInts Q w sv sites) :
    Calls Try.prog 7 #[WV cv hv X.epoch, .int .i64 c, .int .i64 k, sv] w fun e w' => MtPost w (methodA X c k sites) e w' := by
  unfold methodA
  cases hm : methAt X.classes c k with
  | none => exact methodN_any X c k hm sites cv hv sv w hC hH hS
  | some m => exact methodC_any X hX c k m hm sites cv hv sv w hC hH hS
end Go.Proofs.Ythaefhojnjdheaa

/- The closed fact of chapter 10. -/
namespace Go.Proofs.Ythaefhojnjdheaa
open Go.ChangeShapes Go.WideShapes Go.ChangeAt Go.RowKit
set_option linter.unusedSimpArgs false
set_option linter.unusedVariables false
set_option maxRecDepth 8000

theorem row_in {α : Type} {E : Lay α} {sz bytes : Nat} (G : Good E sz) (hE : ∀ {P : Nat → Prop} {w : World} {f : Nat → Option Value} {x : α}, E P w f x → E (In w) w f x) {P : Nat → Prop} {w : World} {v : Value} {xs : List α} (h : IsRow E sz bytes P w v xs) : IsRow E sz bytes (In w) w v xs := by
  obtain ⟨ad, cap, h1, h2, h3, h4, h5⟩ := h
  refine ⟨ad, cap, h1, h2, h3, h4, fun i x hx => ?_⟩
  obtain ⟨b, o, e1, -, e3⟩ := h5 i x hx
  obtain ⟨u, hu, -⟩ := G.there e3 0 G.pos
  exact ⟨b, o, e1, World.block_lt_of_cell? w _ hu, hE e3⟩
theorem meths_in {P : Nat → Prop} {w : World} {v : Value} {xs : List QM} (h : IsMeths P w v xs) : IsMeths (In w) w v xs :=
  row_in goodM (fun ⟨h0, h1, h2, h3, h4, v, h5, h6⟩ => ⟨h0, h1, h2, h3, h4, v, h5, (code_in h6).mono goodI fun _ h => h.2⟩) h
theorem classes_in {P : Nat → Prop} {w : World} {v : Value} {xs : List QC} (h : IsClasses P w v xs) : IsClasses (In w) w v xs :=
  row_in goodC (fun ⟨h0, h1, h2, h3, v, h5, h6⟩ => ⟨h0, h1, h2, h3, v, h5, meths_in h6⟩) h
theorem vals_in {P : Nat → Prop} {w : World} {v : Value} {xs : List QV} (h : IsVals P w v xs) : IsVals (In w) w v xs := row_in goodV (fun h => h) h
theorem heap_in {P : Nat → Prop} {w : World} {v : Value} {xs : List QO} (h : IsHeap P w v xs) : IsHeap (In w) w v xs :=
  row_in goodO (fun ⟨h0, v, h5, h6⟩ => ⟨h0, v, h5, vals_in h6⟩) h

def a9G : QM := ⟨⟨#[103]⟩, 0, 0, 0, [⟨4, 0, 0, 0, ⟨#[]⟩⟩, ⟨17, 0, 0, 0, ⟨#[]⟩⟩]⟩
def a9M : QM := ⟨⟨#[109]⟩, 0, 0, 0, [⟨1, 0, 0, 0, ⟨#[]⟩⟩, ⟨14, 0, 0, 0, ⟨#[103]⟩⟩, ⟨17, 0, 0, 0, ⟨#[]⟩⟩]⟩
def a9X (ms : List QM) (ep : Int) : QW := ⟨newC ++ [⟨⟨#[65]⟩, 0, 1, ms⟩], [], ep⟩
theorem a9_e1 : wrongE newX.classes ⟨#[65]⟩ 0 1 = 0 := by kernel_rfl
theorem slotsOk_all {xs : List QC} (h : xs.all (fun x => decide (0 ≤ x.slots) && decide (x.slots ≤ 6)) = true) : SlotsOk xs := fun i x hx => by
  have := List.all_eq_true.1 h x (List.mem_of_getElem? hx)
  simpa using this
theorem a9_o0 : SlotsOk newX.classes := slotsOk_all (by kernel_rfl)
theorem a9_i2 : instX (a9X [] 0) 4 ⟨⟨#[65]⟩, 0, 1, []⟩ a9G = a9X [a9G] 1 := by kernel_rfl
theorem a9_i3 : instX (a9X [a9G] 1) 4 ⟨⟨#[65]⟩, 0, 1, [a9G]⟩ a9M = a9X [a9G, a9M] 2 := by kernel_rfl
def risesB : List QM → Bool
  | [] => true
  | [_] => true
  | a :: b :: r => ltN a.name b.name && risesB (b :: r)
theorem risesB_is : ∀ {xs : List QM}, risesB xs = true → RisesM xs
  | [], _ => fun i x y hx _ => by simp at hx
  | [a], _ => fun i x y hx hy => by simp at hy
  | a :: b :: r, h => fun i x y hx hy => by
    unfold risesB at h
    simp only [Bool.and_eq_true] at h
    cases i with
    | zero => simp at hx hy; subst hx hy; exact h.1
    | succ i => exact risesB_is h.2 i x y (by simpa using hx) (by simpa using hy)
theorem risesC_all {xs : List QC} (h : xs.all (fun x => risesB x.methods) = true) : RisesC xs := fun i x hx => risesB_is (List.all_eq_true.1 h x (List.mem_of_getElem? hx))
theorem a9_r1 : RisesC (a9X [] 0).classes := risesC_all (by kernel_rfl)
theorem a9_r2 : RisesC (a9X [a9G] 1).classes := risesC_all (by kernel_rfl)

theorem rmake9 {P : Nat → Prop} (cv hv : Value) (w : World) (hh : IsClasses P w cv newX.classes) (hH : IsHeap P w hv []) : Calls Try.prog 32 #[WV cv hv 0, .string ⟨#[65]⟩, .int .i64 0, .int .i64 1] w fun e w' => ∃ a k, e = .returned (.tuple #[WV (.slice a 5 k) hv 0, .int .i64 4, .int .i64 0]) ∧ IsClasses (In w') w' (.slice a 5 k) (a9X [] 0).classes ∧ IsHeap (In w') w' hv [] ∧ Below w.heap.size w w' := by
  refine (rmake_any newX ⟨#[65]⟩ 0 1 cv hv w (by decide) hh hH a9_o0).mono ?_
  rintro e w' ⟨⟨h, -⟩ | ⟨h, cv', rfl, hC⟩, hb⟩
  · exact absurd a9_e1 h
  · obtain ⟨a, k, rfl⟩ := hC.get
    exact ⟨a, k, rfl, classes_in hC, heap_in (hH.later goodO hb), hb⟩
theorem rinst9 {P : Nat → Prop} (X Y : QW) (x : QC) (m : QM) (cv hv mv : Value) (w : World) (ep : Int) (hep : X.epoch = ep) (ep' : Int) (hep' : Y.epoch = ep') (hx : X.classes[4]? = some x) (hno : ¬ (numI x.methods m.name < 0 ∧ 8 ≤ x.methods.length)) (hY : instX X 4 x m = Y) (hl : Y.classes.length = 5) (hn : m.name.size ≤ 140737488351232) (hR : RisesC X.classes) (hXh : X.heap = [])
    (hh : IsClasses P w cv X.classes) (hH : IsHeap P w hv []) (hM : IsCode P w mv m.code) : Calls Try.prog 33 #[WV cv hv ep, .int .i64 4, MV m mv] w fun e w' => ∃ a k, e = .returned (.tuple #[WV (.slice a 5 k) hv ep', .int .i64 0]) ∧ IsClasses (fun b => P b ∨ w.heap.size ≤ b) w' (.slice a 5 k) Y.classes ∧ Below w.heap.size w w' := by
  subst hep hep'
  refine (rinstall_any X 4 m cv hv mv w hh (by rw [hXh]; exact hH) hM hn hR).mono ?_
  rintro e w' ⟨⟨h, -⟩ | ⟨k, x', hk, hx', h⟩, hb⟩
  · have := lt_of_get hx
    simp [hasB] at h
    omega
  · obtain rfl : k = 4 := by omega
    rw [hx] at hx'; cases hx'
    rcases h with ⟨h1, h2, -⟩ | ⟨-, cv', rfl, hC⟩
    · exact absurd ⟨h1, h2⟩ hno
    · rw [hY] at hC
      obtain ⟨a, k', rfl⟩ := hC.get
      rw [hl] at hC ⊢
      refine ⟨a, k', ?_, hC, hb⟩
      rw [← hY]; rfl
theorem row9 {α : Type} {E : Lay α} {sz bytes : Nat} (G : Good E sz) {P : Nat → Prop} (w : World) (cs : List Value) (t : TypeId) (xs : List α) (h : ∀ w', Cells E sz P w' cs xs) (hP : P w.heap.size) (hs : xs.length * bytes ≤ 140737488351232) (hm : xs.length ≤ maxLen) : IsRow E sz bytes P (w.alloc (.cells cs.toArray t)) (.slice (some ⟨w.heap.size, 0, none⟩) xs.length xs.length) xs :=
  Cells.row (h _) G hP (heap_alloc_new w _) (by rw [List.take_of_length_le (by simp [(h w).1])]) (Nat.le_refl _) hm hs
def a9Gc : List Value := [.int .i64 4, .int .i64 0, .int .i64 0, .int .i64 0, .string ⟨#[]⟩, .int .i64 17, .int .i64 0, .int .i64 0, .int .i64 0, .string ⟨#[]⟩]
def a9Mc : List Value := [.int .i64 1, .int .i64 0, .int .i64 0, .int .i64 0, .string ⟨#[]⟩, .int .i64 14, .int .i64 0, .int .i64 0, .int .i64 0, .string ⟨#[103]⟩, .int .i64 17, .int .i64 0, .int .i64 0, .int .i64 0, .string ⟨#[]⟩]
theorem one_instr {P : Nat → Prop} {w : World} (x : QI) (h : x.name.size ≤ 140737488351232) : Cells InstrC 5 P w [.int .i64 x.op, .int .i64 x.a, .int .i64 x.b, .int .i64 x.c, .string x.name] [x] :=
  Cells.one goodI rfl ⟨rfl, rfl, rfl, rfl, rfl, h⟩
theorem a9G_cells {P : Nat → Prop} (w : World) : Cells InstrC 5 P w a9Gc a9G.code :=
  (one_instr (w := w) ⟨4, 0, 0, 0, ⟨#[]⟩⟩ (by decide)).append goodI (one_instr ⟨17, 0, 0, 0, ⟨#[]⟩⟩ (by decide))
theorem a9M_cells {P : Nat → Prop} (w : World) : Cells InstrC 5 P w a9Mc a9M.code :=
  ((one_instr (w := w) ⟨1, 0, 0, 0, ⟨#[]⟩⟩ (by decide)).append goodI (one_instr ⟨14, 0, 0, 0, ⟨#[103]⟩⟩ (by decide))).append goodI (one_instr ⟨17, 0, 0, 0, ⟨#[]⟩⟩ (by decide))
theorem bxl {w w' : World} {B : Nat} {o : Obj} (h : w.heap[B]? = some o) (hb : Below w.heap.size w w') : w'.heap[B]? = some o := by rw [hb.block _ (blk_lt h)]; exact h
theorem box3 {w : World} {B : Nat} {x y z : Value} {t : TypeId} (h : w.heap[B]? = some (.cells #[x, y, z] t (0, 0))) : (w.cell? ⟨B, 0, none⟩ = some x ∧ w.cell? ⟨B, 1, none⟩ = some y ∧ w.cell? ⟨B, 2, none⟩ = some z) ∧ (∀ o, w.frozen? ⟨B, o, none⟩ = false) := by
  refine ⟨⟨?_, ?_, ?_⟩, fun o => by unfold World.frozen?; simp [h]⟩ <;> rw [cell_of_row _ _ _ _ _ _ h] <;> rfl
theorem box3_set {w : World} {B : Nat} {x y z u v r : Value} {t : TypeId} (h : w.heap[B]? = some (.cells #[x, y, z] t (0, 0))) : (((w.setCell ⟨B, 0, none⟩ u).setCell ⟨B, 1, none⟩ v).setCell ⟨B, 2, none⟩ r).heap[B]? = some (.cells #[u, v, r] t (0, 0)) := by
  rw [setCell_same (setCell_same (setCell_same h _) _) _]; rfl
/-- The world's box, and what is in it. -/
structure A9 (w : World) (B : Nat) (cv hv : Value) (X : QW) (w' : World) : Prop where
  box : w'.heap[B]? = some (.cells #[cv, hv, .int .i64 X.epoch] 25 (0, 0))
  C : IsClasses (fun b => b ≠ B) w' cv X.classes
  H : IsHeap (fun b => b ≠ B) w' hv []
  bel : Below w.heap.size w w'
theorem A9.later {w : World} {B : Nat} {cv hv : Value} {X : QW} {w' w'' : World} (h : A9 w B cv hv X w') (hb : Below w'.heap.size w' w'') : A9 w B cv hv X w'' :=
  ⟨bxl h.box hb, h.C.later goodC hb, h.H.later goodO hb, nstep h.bel hb⟩
theorem A9.set {w : World} {B : Nat} {cv hv cv' : Value} {X Y : QW} {w1 w' : World} (h : A9 w B cv hv X w1) (hb : Below w1.heap.size w1 w') (hC : IsClasses (fun b => b ≠ B ∨ w1.heap.size ≤ b) w' cv' Y.classes) (hB : w.heap.size ≤ B) : A9 w B cv' hv Y (((w'.setCell ⟨B, 0, none⟩ cv').setCell ⟨B, 1, none⟩ hv).setCell ⟨B, 2, none⟩ (.int .i64 Y.epoch)) := by
  have hk : Keeps (fun b => b ≠ B) w' (((w'.setCell ⟨B, 0, none⟩ cv').setCell ⟨B, 1, none⟩ hv).setCell ⟨B, 2, none⟩ (.int .i64 Y.epoch)) :=
    keep_set (keep_set (keep_set (Keeps.refl _ _) (by simp) _) (by simp) _) (by simp) _
  have hlt := blk_lt h.box
  refine ⟨box3_set (bxl h.box hb), (hC.mono (Q := fun b => b ≠ B) goodC fun b hb => ?_).keep goodC hk fun _ h => h, (h.H.later goodO hb).keep goodO hk fun _ h => h, below_set3 (nstep h.bel hb) hB _ _ _⟩
  rcases hb with h | h
  · exact h
  · omega


abbrev a9Z : QW := a9X [a9G, a9M] 2
theorem a9_right : rightE a9Z = 0 := by kernel_rfl
theorem a9_m : methAt a9Z.classes 4 1 = some a9M := by kernel_rfl
def a9F : Fst := ⟨4, ⟨#[109]⟩, 2, 1, (fastM a9Z 4 a9M [-1, 4, -1]).1.code⟩
theorem a9_f1 : fastM a9Z 4 a9M [-1, 4, -1] = (a9F, true) := by kernel_rfl
theorem a9_f2 : fastM a9Z 4 a9M [] = (noFast, false) := by kernel_rfl
theorem a9_f3 : a9F.code.length = 7 := by kernel_rfl
theorem a9_f4 : a9F.code[1]? = some (ins 18 4 0 1) := by kernel_rfl
theorem meth10a {P Q : Nat → Prop} (cv hv sv : Value) (w : World) (hC : IsClasses P w cv a9Z.classes) (hH : IsHeap P w hv []) (hS : IsInts Q w sv [-1, 4, -1]) :
    Calls Try.prog 7 #[WV cv hv 2, .int .i64 4, .int .i64 1, sv] w fun e w' => ∃ g o cap, e = .returned (.tuple #[.agg #[.int .i64 4, .string ⟨#[109]⟩, .int .i64 2, .int .i64 1, .slice (some ⟨g, o, none⟩) 7 cap], .bool true]) ∧ 7 ≤ cap ∧ cap ≤ 9223372036854775807 ∧ w'.cell? ⟨g, o + 5, none⟩ = some (.int .i64 18) ∧ Below w.heap.size w w' := by
  have := methodC_any a9Z a9_right 4 1 a9M a9_m [-1, 4, -1] cv hv sv w hC hH hS
  rw [a9_f1] at this
  refine this.mono ?_
  rintro e w' ⟨a, cap, rfl, hI, hb⟩
  dsimp only at hI ⊢
  rw [a9_f3] at hI ⊢
  obtain ⟨a', cap', e', h1, h2, -, hrow⟩ := hI
  simp only [Value.slice.injEq] at e'
  obtain ⟨rfl, -, rfl⟩ := e'
  obtain ⟨g, o, rfl, -, y0, -⟩ := hrow 1 _ a9_f4
  rw [a9_f3] at h1
  unfold maxLen at h2
  exact ⟨g, o, cap, rfl, h1, by omega, by simpa using y0, hb⟩
theorem meth10b {P : Nat → Prop} (cv hv : Value) (w : World) (hC : IsClasses P w cv a9Z.classes) (hH : IsHeap P w hv []) :
    Calls Try.prog 7 #[WV cv hv 2, .int .i64 4, .int .i64 1, .slice none 0 0] w fun e w' => ∃ a cap, e = .returned (.tuple #[.agg #[.int .i64 0, .string ⟨#[]⟩, .int .i64 0, .int .i64 0, .slice a 0 cap], .bool false]) ∧ Below w.heap.size w w' := by
  have := methodC_any (Q := P) a9Z a9_right 4 1 a9M a9_m [] cv hv (.slice none 0 0) w hC hH row_none
  rw [a9_f2] at this
  refine this.mono ?_
  rintro e w' ⟨a, cap, rfl, -, hb⟩
  exact ⟨a, cap, rfl, hb⟩
theorem ints10 (w : World) : IsInts (fun _ => True) (w.alloc (.cells #[.int .i64 (-1), .int .i64 4, .int .i64 (-1)] 3)) (.slice (some ⟨w.heap.size, 0, none⟩) 3 3) [-1, 4, -1] := by
  have hg := heap_alloc_new w (.cells #[.int .i64 (-1), .int .i64 4, .int .i64 (-1)] 3)
  refine ⟨_, _, rfl, by decide, by decide, by decide, fun i x hx => ⟨w.heap.size, 0, rfl, trivial, ?_⟩⟩
  show (w.alloc _).cell? ⟨w.heap.size, 0 + i * 1 + 0, none⟩ = _
  rw [cell_of_row _ _ _ _ _ _ hg]
  match i, hx with
  | 0, hx => cases hx; rfl
  | 1, hx => cases hx; rfl
  | 2, hx => cases hx; rfl
  | i + 3, hx => simp at hx
set_option maxHeartbeats 4000000 in
theorem alive_any (w : World) : Calls Try.prog 10 #[] w fun e w' => e = .returned (.bool true) ∧ Below w.heap.size w w' := by
  go_enter Try.func10, Try.ntmps10
  go_wp2_with fail
  refine (rnew_any _).mono ?_
  rintro e w1 ⟨cv, hv, rfl, hC, hH, hB⟩
  obtain ⟨x1, y1, rfl⟩ := hC.get
  obtain ⟨x2, y2, rfl⟩ := hH.get
  go_wp2_with fail
  refine (rmake9 _ _ _ hC hH).mono ?_
  rintro e w2 ⟨a1, k1, rfl, hC1, hH1, hb⟩
  replace hB := nstep hB hb
  clear hb hC hH
  have hA0 : A9 w w2.heap.size (.slice a1 5 k1) (.slice x2 0 y2) (a9X [] 0) (w2.alloc (.cells #[.slice a1 5 k1, .slice x2 0 y2, .int .i64 0] 25)) :=
    ⟨heap_alloc_new _ _, (hC1.later goodC (bel1 _ _)).mono goodC fun b h => by have h' : b < w2.heap.size := h; omega, (hH1.later goodO (bel1 _ _)).mono goodO fun b h => by have h' : b < w2.heap.size := h; omega, nstep hB (bel1 _ _)⟩
  have hz : w.heap.size ≤ w2.heap.size := hB.size
  clear hB hC1 hH1
  go_upto_region 2 with (fail)
  generalize (w2.alloc (.cells #[.slice a1 5 k1, .slice x2 0 y2, .int .i64 0] 25)) = W3 at *
  generalize w2.heap.size = B at *
  obtain ⟨⟨q0, q1, q2⟩, qf⟩ := box3 hA0.box
  have hlt := blk_lt hA0.box
  have hG : IsCode (fun b => b ≠ B) (W3.alloc (.cells #[.int .i64 4, .int .i64 0, .int .i64 0, .int .i64 0, .string ⟨#[]⟩, .int .i64 17, .int .i64 0, .int .i64 0, .int .i64 0, .string ⟨#[]⟩] 54)) (.slice (some ⟨W3.heap.size, 0, none⟩) 2 2) a9G.code :=
    row9 goodI W3 a9Gc 54 a9G.code (fun w' => a9G_cells w') (by omega) (by decide) (by decide)
  have hb3 := bel1 W3 (.cells #[.int .i64 4, .int .i64 0, .int .i64 0, .int .i64 0, .string ⟨#[]⟩, .int .i64 17, .int .i64 0, .int .i64 0, .int .i64 0, .string ⟨#[]⟩] 54)
  replace hA0 := hA0.later hb3
  go_wp2_with fail
  clear q0 q1 q2 qf
  refine (rinst9 (a9X [] 0) (a9X [a9G] 1) ⟨⟨#[65]⟩, 0, 1, []⟩ a9G _ _ _ _ 0 rfl 1 rfl rfl (by simp) a9_i2 rfl (by decide) a9_r1 rfl hA0.C hA0.H hG).mono ?_
  rintro e w4 ⟨a2, k2, rfl, hC2, hb4⟩
  have hA1 : A9 w B (.slice a2 5 k2) (.slice x2 0 y2) (a9X [a9G] 1) (((w4.setCell ⟨B, 0, none⟩ (.slice a2 5 k2)).setCell ⟨B, 1, none⟩ (.slice x2 0 y2)).setCell ⟨B, 2, none⟩ (.int .i64 1)) := hA0.set (Y := a9X [a9G] 1) hb4 hC2 hz
  obtain ⟨⟨q0, q1, q2⟩, qf⟩ := box3 (bxl hA0.box hb4)
  clear hC2 hG hA0 hb4 hb3 hlt
  go_upto_region 3 with (fail)
  generalize (((w4.setCell ⟨B, 0, none⟩ (.slice a2 5 k2)).setCell ⟨B, 1, none⟩ (.slice x2 0 y2)).setCell ⟨B, 2, none⟩ (.int .i64 1)) = W5 at *
  clear q0 q1 q2 qf
  obtain ⟨⟨q0, q1, q2⟩, qf⟩ := box3 hA1.box
  have hlt := blk_lt hA1.box
  have hG : IsCode (fun b => b ≠ B) (W5.alloc (.cells #[.int .i64 1, .int .i64 0, .int .i64 0, .int .i64 0, .string ⟨#[]⟩, .int .i64 14, .int .i64 0, .int .i64 0, .int .i64 0, .string ⟨#[103]⟩, .int .i64 17, .int .i64 0, .int .i64 0, .int .i64 0, .string ⟨#[]⟩] 54)) (.slice (some ⟨W5.heap.size, 0, none⟩) 3 3) a9M.code :=
    row9 goodI W5 a9Mc 54 a9M.code (fun w' => a9M_cells w') (by omega) (by decide) (by decide)
  have hb5 := bel1 W5 (.cells #[.int .i64 1, .int .i64 0, .int .i64 0, .int .i64 0, .string ⟨#[]⟩, .int .i64 14, .int .i64 0, .int .i64 0, .int .i64 0, .string ⟨#[103]⟩, .int .i64 17, .int .i64 0, .int .i64 0, .int .i64 0, .string ⟨#[]⟩] 54)
  replace hA1 := hA1.later hb5
  go_wp2_with fail
  clear q0 q1 q2 qf
  refine (rinst9 (a9X [a9G] 1) (a9X [a9G, a9M] 2) ⟨⟨#[65]⟩, 0, 1, [a9G]⟩ a9M _ _ _ _ 1 rfl 2 rfl rfl (by simp) a9_i3 rfl (by decide) a9_r2 rfl hA1.C hA1.H hG).mono ?_
  rintro e w6 ⟨a3, k3, rfl, hC3, hb6⟩
  have hA2 : A9 w B (.slice a3 5 k3) (.slice x2 0 y2) (a9X [a9G, a9M] 2) (((w6.setCell ⟨B, 0, none⟩ (.slice a3 5 k3)).setCell ⟨B, 1, none⟩ (.slice x2 0 y2)).setCell ⟨B, 2, none⟩ (.int .i64 2)) := hA1.set (Y := a9X [a9G, a9M] 2) hb6 hC3 hz
  obtain ⟨⟨q0, q1, q2⟩, qf⟩ := box3 (bxl hA1.box hb6)
  clear hC3 hG hA1 hb5 hb6 hlt
  go_upto_region 4 with (fail)
  generalize (((w6.setCell ⟨B, 0, none⟩ (.slice a3 5 k3)).setCell ⟨B, 1, none⟩ (.slice x2 0 y2)).setCell ⟨B, 2, none⟩ (.int .i64 2)) = W7 at *
  clear q0 q1 q2 qf
  have hI := ints10 W7
  have hb7 := bel1 W7 (.cells #[.int .i64 (-1), .int .i64 4, .int .i64 (-1)] 3)
  obtain ⟨⟨q0, q1, q2⟩, -⟩ := box3 hA2.box
  replace hA2 := hA2.later hb7
  go_wp2_with fail
  clear q0 q1 q2
  refine (meth10a _ _ _ _ hA2.C hA2.H hI).mono ?_
  rintro e w8 ⟨g, o, cap, rfl, hc7, hcm, y0, hb8⟩
  replace hA2 := hA2.later hb8
  clear hb8 hI hb7
  have hb9 := bel1 w8 (.cells #[.int .i64 4, .string ⟨#[109]⟩, .int .i64 2, .int .i64 1, .slice (some ⟨g, o, none⟩) 7 cap] 31)
  have hf := heap_alloc_new w8 (.cells #[.int .i64 4, .string ⟨#[109]⟩, .int .i64 2, .int .i64 1, .slice (some ⟨g, o, none⟩) 7 cap] 31)
  have hlt := World.block_lt_of_cell? w8 _ y0
  go_upto_region 5 with (fail)
  replace hA2 := hA2.later hb9
  replace y0 := cell_later hb9 y0
  generalize (w8.alloc (.cells #[.int .i64 4, .string ⟨#[109]⟩, .int .i64 2, .int .i64 1, .slice (some ⟨g, o, none⟩) 7 cap] 31)) = W9 at *
  generalize w8.heap.size = BF at *
  clear hb9 hlt
  obtain ⟨⟨q0, q1, q2⟩, -⟩ := box3 hA2.box
  go_wp2_with fail
  clear q0 q1 q2
  refine (meth10b _ _ _ hA2.C hA2.H).mono ?_
  rintro e w10 ⟨a, cap', rfl, hb10⟩
  replace hA2 := hA2.later hb10
  replace y0 := cell_later hb10 y0
  replace hf := bxl hf hb10
  clear hb10
  have hb11 := bel1 w10 (.cells #[.int .i64 0, .string ⟨#[]⟩, .int .i64 0, .int .i64 0, .slice a 0 cap'] 31)
  go_upto_region 6 with (fail)
  replace hA2 := hA2.later hb11
  replace y0 := cell_later hb11 y0
  replace hf := bxl hf hb11
  generalize (w10.alloc (.cells #[.int .i64 0, .string ⟨#[]⟩, .int .i64 0, .int .i64 0, .slice a 0 cap'] 31)) = W11 at *
  clear hb11
  have f0 : W11.cell? ⟨BF, 0, none⟩ = some (.int .i64 4) := by rw [cell_of_row _ _ _ _ _ _ hf]; rfl
  have f1 : W11.cell? ⟨BF, 1, none⟩ = some (.string ⟨#[109]⟩) := by rw [cell_of_row _ _ _ _ _ _ hf]; rfl
  have f3 : W11.cell? ⟨BF, 3, none⟩ = some (.int .i64 1) := by rw [cell_of_row _ _ _ _ _ _ hf]; rfl
  have f4 : W11.cell? ⟨BF, 4, none⟩ = some (.slice (some ⟨g, o, none⟩) 7 cap) := by rw [cell_of_row _ _ _ _ _ _ hf]; rfl
  have hbel := hA2.bel
  clear hf hA2
  go_wp2
  go_ret
  exact ⟨rfl, hbel⟩
end Go.Proofs.Ythaefhojnjdheaa

/- InlineRoom's walk. -/
namespace Go.Proofs.Ythaefhojnjdheaa
open Go.ChangeShapes Go.WideShapes Go.ChangeAt Go.RowKit
set_option linter.unusedSimpArgs false
set_option linter.unusedVariables false
set_option maxRecDepth 8000

/-- What the law holds: the world's box, the input. -/
structure Rm (P Q : Nat → Prop) (w : World) (cv hv sv : Value) (X : QW) (sites : List Int) (w' : World) : Prop where
  box : w'.heap[w.heap.size]? = some (.cells #[cv, hv, .int .i64 X.epoch] 25 (0, 0))
  C : IsClasses P w' cv X.classes
  H : IsHeap P w' hv X.heap
  S : IsInts Q w' sv sites
  bel : Below w.heap.size w w'
theorem Rm.later {P Q : Nat → Prop} {w : World} {cv hv sv : Value} {X : QW} {sites : List Int} {w' w'' : World} (h : Rm P Q w cv hv sv X sites w') (hb : Below w'.heap.size w' w'') : Rm P Q w cv hv sv X sites w'' :=
  ⟨bxl h.box hb, h.C.later goodC hb, h.H.later goodO hb, h.S.later goodN hb, nstep h.bel hb⟩
theorem bel_drew (w : World) : Below w.heap.size w w.drew := ⟨rfl, rfl, rfl, Nat.le_refl _, fun _ _ => rfl⟩
theorem box5 {w : World} {B : Nat} {x y z u v : Value} {t : TypeId} (h : w.heap[B]? = some (.cells #[x, y, z, u, v] t (0, 0))) : w.cell? ⟨B, 0, none⟩ = some x ∧ w.cell? ⟨B, 1, none⟩ = some y ∧ w.cell? ⟨B, 3, none⟩ = some u ∧ w.cell? ⟨B, 4, none⟩ = some v := by
  refine ⟨?_, ?_, ?_, ?_⟩ <;> rw [cell_of_row _ _ _ _ _ _ h] <;> rfl
/-- The fast code's box and row. -/
structure Rc (R : Nat → Prop) (BF : Nat) (c ep tm : Int) (nm : ByteArray) (a : Option Addr) (cap : Nat) (code : List QI) (w' : World) : Prop where
  box : w'.heap[BF]? = some (.cells #[.int .i64 c, .string nm, .int .i64 ep, .int .i64 tm, .slice a code.length cap] 31 (0, 0))
  K : IsCode R w' (.slice a code.length cap) code
theorem Rc.later {R : Nat → Prop} {BF : Nat} {c ep tm : Int} {nm : ByteArray} {a : Option Addr} {cap : Nat} {code : List QI} {w' w'' : World} (h : Rc R BF c ep tm nm a cap code w') (hb : Below w'.heap.size w' w'') : Rc R BF c ep tm nm a cap code w'' :=
  ⟨bxl h.box hb, h.K.later goodI hb⟩
def RmI (P Q : Nat → Prop) (w : World) (cv hv sv : Value) (X : QW) (sites : List Int) (R : Nat → Prop) (BF : Nat) (c ep tm : Int) (nm : ByteArray) (a : Option Addr) (cap : Nat) (code : List QI) (gk : Nat) (gv iv : Value) (wr : World) : Prop :=
  ∃ j n : Nat, j + gk = code.length ∧ iv = .int .i64 (j : Int) ∧ gv = .int .i64 (n : Int) ∧ n ≤ j ∧ (∀ i y, i < j → code[i]? = some y → y.op = 18 → 0 < n) ∧ Rm P Q w cv hv sv X sites wr ∧ Rc R BF c ep tm nm a cap code wr
set_option maxHeartbeats 4000000 in
theorem room_walk {P Q : Nat → Prop} (X : QW) (c k : Int) (sites : List Int) (cv hv sv : Value) (w : World) (hC : IsClasses P w cv X.classes) (hH : IsHeap P w hv X.heap) (hS : IsInts Q w sv sites) :
    Calls Try.prog 5 #[WV cv hv X.epoch, .int .i64 c, .int .i64 k, sv] w fun e w' => e = .returned (.bool true) ∧ Below w.heap.size w w' := by
  obtain ⟨ac, cc, rfl, -, hcc, -, -⟩ := id hC
  obtain ⟨ah, ch, rfl, -⟩ := id hH
  obtain ⟨asv, cs, rfl, hls, hcs, -, -⟩ := id hS
  unfold maxLen at hcs hcc
  have hb0 := bel1 w (.cells #[.slice ac X.classes.length cc, .slice ah X.heap.length ch, .int .i64 X.epoch] 25)
  have hB : Rm P Q w (.slice ac X.classes.length cc) (.slice ah X.heap.length ch) (.slice asv sites.length cs) X sites (w.alloc (.cells #[.slice ac X.classes.length cc, .slice ah X.heap.length ch, .int .i64 X.epoch] 25)) :=
    ⟨heap_alloc_new _ _, hC.later goodC hb0, hH.later goodO hb0, hS.later goodN hb0, hb0⟩
  clear hb0
  go_enter Try.func5, Try.ntmps5
  go_upto_region 1 with (fail)
  generalize (w.alloc (.cells #[.slice ac X.classes.length cc, .slice ah X.heap.length ch, .int .i64 X.epoch] 25)) = W0 at *
  clear hC hH hS
  go_wp2_with fail
  refine (alive_any _).mono ?_
  rintro e w1 ⟨rfl, hb1⟩
  replace hB := hB.later hb1
  clear hb1
  obtain ⟨⟨k0, k1, k2⟩, -⟩ := box3 hB.box
  go_wp2_with fail
  refine (rright_any X _ _ _ hB.C hB.H).mono ?_
  rintro e w2 ⟨rfl, hb1⟩
  replace hB := hB.later hb1
  clear hb1 k0 k1 k2
  by_cases hr : rightE X = 0
  · have HR : Hid (rightE X = 0) := hr
    rw [hr]
    clear hr
    obtain ⟨⟨k0, k1, k2⟩, -⟩ := box3 hB.box
    go_wp2_with fail
    refine (method_any X HR.out c k sites _ _ _ _ hB.C hB.H hB.S).mono ?_
    rintro e w3 ⟨a, cap, rfl, hK, hb3⟩
    replace hB := hB.later hb3
    clear hb3 k0 k1 k2
    unfold methodA at hK ⊢
    cases hm : methAt X.classes c k with
    | none =>
      simp only [hm] at hK ⊢
      have hbf := bel1 w3 (.cells #[.int .i64 0, .string ⟨#[]⟩, .int .i64 0, .int .i64 0, .slice a 0 cap] 31)
      have hbel := nstep hB.bel hbf
      go_wp2
      go_ret
      exact ⟨rfl, hbel⟩
    | some m =>
      simp only [hm] at hK ⊢
      cases hok : (fastM X c m sites).2 with
      | false =>
        rw [fast_none hok] at hK ⊢
        have hbf := bel1 w3 (.cells #[.int .i64 0, .string ⟨#[]⟩, .int .i64 0, .int .i64 0, .slice a 0 cap] 31)
        have hbel := nstep hB.bel hbf
        go_wp2
        go_ret
        exact ⟨rfl, hbel⟩
      | true =>
        obtain ⟨g1, g2, g3, g4⟩ := fast_good HR.out (meth_small HR.out hm) hok
        obtain ⟨ff, hf⟩ : ∃ ff, (fastM X c m sites).1 = ff := ⟨_, rfl⟩
        rw [hf] at g1 g2 g3 g4 hK ⊢
        clear hok hf
        obtain ⟨fc, fn, fe, ft, code⟩ := ff
        dsimp only at g1 g2 g3 g4 hK ⊢
        have G3 := hid g3
        have G4 := hid g4
        clear g3 g4
        have hcap : code.length ≤ cap ∧ cap ≤ 9223372036854775807 := by
          obtain ⟨a', c', e, h1, h2, -⟩ := id hK
          simp only [Value.slice.injEq] at e
          unfold maxLen at h2
          omega
        have hbf := bel1 w3 (.cells #[.int .i64 fc, .string fn, .int .i64 fe, .int .i64 ft, .slice a code.length cap] 31)
        have hF : Rc (fun b => w2.heap.size ≤ b ∧ b < w3.heap.size) w3.heap.size fc fe ft fn a cap code (w3.alloc (.cells #[.int .i64 fc, .string fn, .int .i64 fe, .int .i64 ft, .slice a code.length cap] 31)) := ⟨heap_alloc_new _ _, hK.later goodI hbf⟩
        replace hB := hB.later hbf
        clear hbf hK
        obtain ⟨qc, tc, xc, rfl, rfl, hxc, hmt⟩ := meth_at hm
        clear hm
        have hq := lt_of_get hxc
        have ht := lt_of_get hmt
        go_upto_region 6 with (fail)
        generalize (w3.alloc (.cells #[.int .i64 fc, .string fn, .int .i64 fe, .int .i64 ft, .slice a code.length cap] 31)) = W4 at *
        generalize w3.heap.size = BF at *
        generalize w2.heap.size = B2 at *
        have f3 : W4.cell? ⟨BF, 3, none⟩ = some (.int .i64 ft) := by rw [cell_of_row _ _ _ _ _ _ hF.box]; rfl
        have f4 : W4.cell? ⟨BF, 4, none⟩ = some (.slice a code.length cap) := by rw [cell_of_row _ _ _ _ _ _ hF.box]; rfl
        obtain ⟨⟨k0, k1, k2⟩, -⟩ := box3 hB.box
        obtain ⟨ac', cc', e', -, -, -, hrowC⟩ := id hB.C
        simp only [Value.slice.injEq] at e'
        obtain ⟨rfl, -, rfl⟩ := e'
        obtain ⟨b1, o1, rfl, -, -, -, -, -, mv, u3, hms⟩ := hrowC qc xc hxc
        obtain ⟨am, cm, rfl, hlm, hcm, -, hrm⟩ := hms
        obtain ⟨b2, o2, rfl, -, -, -, -, -, -, kv, v4, hco⟩ := hrm tc m hmt
        obtain ⟨ak, ck, rfl, hlk, hck, -, -⟩ := id hco
        unfold maxLen at hcm hck
        have hq1 : (qc : Int) < (X.classes.length : Int) := by omega
        have hq0 : (0 : Int) ≤ (qc : Int) := by omega
        have ht1 : (tc : Int) < (xc.methods.length : Int) := by omega
        have ht0 : (0 : Int) ≤ (tc : Int) := by omega
        have hd1 : decide ((240 : Int) < (code.length : Int)) = false := by simp; omega
        have hd2 : decide ((40 : Int) < ft) = false := by simp; omega
        have hd3 : decide ((qc : Int) < 0) = false := by simp
        have hd4 : decide ((tc : Int) < 0) = false := by simp
        have hd5 : decide ((X.classes.length : Int) ≤ (qc : Int)) = false := by simp; omega
        have hd6 : decide ((xc.methods.length : Int) ≤ (tc : Int)) = false := by simp; omega
        clear hrowC hrm hco
        have HU := hid u3
        have HV := hid v4
        go_wp2
        clear f3 f4 k0 k1 k2 u3 v4 hd1 hd2 hd3 hd4 hd5 hd6
        have HKU : Hid (∀ wr, Below W4.heap.size W4 wr → wr.cell? ⟨b1, o1 + qc * 4 + 3, none⟩ = some (.slice (some ⟨b2, o2, none⟩) xc.methods.length cm) ∧ wr.cell? ⟨b2, o2 + tc * 5 + 4, none⟩ = some (.slice ak m.code.length ck)) := fun wr hb => ⟨cell_later hb HU.out, cell_later hb HV.out⟩
        clear HU HV
        go_loopg [11, 71] code.length (fun gk gv iv wr => RmI P Q w (.slice (some ⟨b1, o1, none⟩) X.classes.length cc) (.slice ah X.heap.length ch) (.slice asv sites.length cs) X sites (fun b => B2 ≤ b ∧ b < BF) BF fc fe ft fn a cap code gk gv iv wr ∧ Below W4.heap.size W4 wr)
        case atStart => exact ⟨⟨0, 0, by omega, rfl, rfl, Nat.le_refl _, fun i y h => by omega, hB, hF⟩, Below.refl _ _⟩
        case round =>
          clear hB hF
          obtain ⟨⟨j, n, hj, rfl, rfl, hnj, hgs, hB, hF⟩, hbw⟩ := hrel
          have HGS := hid hgs
          clear hgs
          by_cases hlt : j < code.length
          · have hxj : code[j]? = some code[j] := by simp [hlt]
            obtain ⟨a', cap', e', -, -, -, hrowK⟩ := id hF.K
            simp only [Value.slice.injEq] at e'
            obtain ⟨rfl, -, rfl⟩ := e'
            obtain ⟨b3, o3, rfl, -, u0, u1, u2, u3, u4, -⟩ := hrowK j _ hxj
            have hG := G3.out code[j] (List.getElem_mem hlt)
            have HXJ := hid hxj
            clear hrowK hxj
            generalize code[j] = y at *
            simp only [Nat.add_zero] at u0
            have hj1 : (j : Int) < (code.length : Int) := by omega
            have hj0 : (0 : Int) ≤ (j : Int) := by omega
            have hwj : IntKind.i64.wrap ((j : Int) + 1) = (j : Int) + 1 := wrap_of (by omega) (by omega)
            have hwn : IntKind.i64.wrap ((n : Int) + 1) = (n : Int) + 1 := wrap_of (by omega) (by omega)
            have hbx := bel1 wr (.cells #[.int .i64 y.op, .int .i64 y.a, .int .i64 y.b, .int .i64 y.c, .string y.name] 54)
            have hbox := heap_alloc_new wr (.cells #[.int .i64 y.op, .int .i64 y.a, .int .i64 y.b, .int .i64 y.c, .string y.name] 54)
            have hB' := hB.later hbx
            have hF' := hF.later hbx
            have hbw' := nstep hbw hbx
            clear hB hF hbw hbx
            have HNX : Hid (∀ (n' : Nat) (U : World), Below (wr.alloc (.cells #[.int .i64 y.op, .int .i64 y.a, .int .i64 y.b, .int .i64 y.c, .string y.name] 54)).heap.size (wr.alloc (.cells #[.int .i64 y.op, .int .i64 y.a, .int .i64 y.b, .int .i64 y.c, .string y.name] 54)) U → n ≤ n' → n' ≤ n + 1 → (y.op = 18 → 0 < n') → RmI P Q w (.slice (some ⟨b1, o1, none⟩) X.classes.length cc) (.slice ah X.heap.length ch) (.slice asv sites.length cs) X sites (fun b => B2 ≤ b ∧ b < BF) BF fc fe ft fn (some ⟨b3, o3, none⟩) cap code (code.length - (j + 1)) (.int .i64 (n' : Int)) (.int .i64 ((j : Int) + 1)) U ∧ Below W4.heap.size W4 U) := by
              intro n' U hU h1 h2 h3
              refine ⟨⟨j + 1, n', by omega, by go_num, rfl, by omega, fun i z hi hz ho => ?_, hB'.later hU, hF'.later hU⟩, nstep hbw' hU⟩
              by_cases hij : i < j
              · have := HGS.out i z hij hz ho; omega
              · have : i = j := by omega
                subst this
                rw [HXJ.out] at hz; cases hz
                exact h3 ho
            clear HGS HXJ
            by_cases hjp : jmp y
            · obtain ⟨ha0, ha1⟩ := hG.1 hjp
              have hda : decide (y.a < 0) = false := by simp; omega
              have hdb : decide ((code.length : Int) < y.a) = false := by simp; omega
              obtain ⟨-, -, -, f4⟩ := box5 hF'.box
              obtain ⟨x0, x1, -, -⟩ := box5 hbox
              have HQ := hid (HNX.out n _ (Below.refl _ _) (Nat.le_refl _) (by omega) (fun h => by rcases hjp with h' | h' <;> omega))
              clear hbox hB' hF' hbw' HNX
              rcases hjp with hop | hop
              · have hd15 : (y.op == 15) = true := by simpa using hop
                clear hop hG
                go_wp2
                go_roundg (code.length - (j + 1))
                case measure => omega
                case rel => exact HQ.out
              · have hd15 : (y.op == 15) = false := by simp [hop]
                have hd16 : (y.op == 16) = true := by simpa using hop
                clear hop hG
                go_wp2
                go_roundg (code.length - (j + 1))
                case measure => omega
                case rel => exact HQ.out
            · have hd15 : (y.op == 15) = false := by simp; exact fun h => hjp (Or.inl h)
              have hd16 : (y.op == 16) = false := by simp; exact fun h => hjp (Or.inr h)
              by_cases ho : y.op = 18
              · have hd18 : (y.op == 18) = true := by simpa using ho
                obtain ⟨x0, x1, x3, -⟩ := box5 hbox
                obtain ⟨jc, hjc, hyc, hsj⟩ := hG.2 ho
                obtain ⟨as', cs', e', -, -, -, hrowS⟩ := id hB'.S
                simp only [Value.slice.injEq] at e'
                obtain ⟨rfl, -, rfl⟩ := e'
                obtain ⟨bs, os, rfl, -, s0⟩ := hrowS jc _ hsj
                obtain ⟨⟨k0, -, -⟩, -⟩ := box3 hB'.box
                obtain ⟨c1, c2⟩ := HKU.out _ hbw'
                have hsl := lt_of_get hsj
                have hjs1 : (jc : Int) < (sites.length : Int) := by omega
                have hjs0 : (0 : Int) ≤ (jc : Int) := by omega
                have he0 : decide ((jc : Int) < 0) = false := by simp
                have he1 : decide ((m.code.length : Int) ≤ (jc : Int)) = false := by simp; omega
                have he2 : decide ((sites.length : Int) ≤ (jc : Int)) = false := by simp; omega
                have HQ := hid (HNX.out (n + 1) _ (bel_drew _) (by omega) (Nat.le_refl _) (fun _ => by omega))
                clear hbox hB' hF' hbw' HNX hjp hG ho hrowS hsj HKU
                have HYC := hid hyc
                clear hyc
                go_upto_region 21 with (fail)
                generalize (wr.alloc (.cells #[.int .i64 y.op, .int .i64 y.a, .int .i64 y.b, .int .i64 y.c, .string y.name] 54)) = V at *
                generalize wr.heap.size = BI at *
                rw [HYC.out] at x3
                have s1 : V.cell? ⟨bs, os + jc, none⟩ = some (.int .i64 y.a) := by simpa [IntC] using s0
                have hS0 : V.drew.cell? ⟨BI, 1, none⟩ = some (.int .i64 y.a) ∧ V.drew.cell? ⟨BI, 3, none⟩ = some (.int .i64 (jc : Int)) ∧ V.drew.cell? ⟨w.heap.size, 0, none⟩ = some (.slice (some ⟨b1, o1, none⟩) X.classes.length cc) ∧ V.drew.cell? ⟨b1, o1 + qc * 4 + 3, none⟩ = some (.slice (some ⟨b2, o2, none⟩) xc.methods.length cm) ∧ V.drew.cell? ⟨b2, o2 + tc * 5 + 4, none⟩ = some (.slice ak m.code.length ck) ∧ V.drew.cell? ⟨bs, os + jc, none⟩ = some (.int .i64 y.a) := ⟨x1, x3, k0, c1, c2, s1⟩
                clear x0 x1 x3 k0 c1 c2 s0 s1
                refine wp_region_late (S := fun w' => w'.cell? ⟨BI, 1, none⟩ = some (.int .i64 y.a) ∧ w'.cell? ⟨BI, 3, none⟩ = some (.int .i64 (jc : Int)) ∧ w'.cell? ⟨w.heap.size, 0, none⟩ = some (.slice (some ⟨b1, o1, none⟩) X.classes.length cc) ∧ w'.cell? ⟨b1, o1 + qc * 4 + 3, none⟩ = some (.slice (some ⟨b2, o2, none⟩) xc.methods.length cm) ∧ w'.cell? ⟨b2, o2 + tc * 5 + 4, none⟩ = some (.slice ak m.code.length ck) ∧ w'.cell? ⟨bs, os + jc, none⟩ = some (.int .i64 y.a)) [] (by kernel_rfl) ?_
                refine wpAnyM_take (i := 0) (oi := { dst := some 95, op := Op.fieldAddr 54 (Operand.tmp 13) 3, type := 0, pos := "law.go:102", after := #[], guard := none }) (v := .pointer (some ⟨BI, 3, none⟩)) (by kernel_rfl) (by kernel_rfl) rfl (by kernel_rfl) (by kernel_rfl) (by kernel_rfl) (fun _ _ _ h => h) (Or.inl ⟨by rfl, ?_⟩) (hS0) ?_
                · intro w hSw
                  obtain ⟨q0, q1, q2, q3, q4, q5⟩ := hSw
                  go_simp
                try simp only [Act.put, List.setIfInBounds_toArray, List.set_cons_zero, List.set_cons_succ]
                refine wpAnyM_take (i := 1) (oi := { dst := some 96, op := Op.load 3 (Operand.tmp 95), type := 3, pos := "law.go:102", after := #[{ on := 0, ground := Ground.data }], guard := none }) (v := .int .i64 (jc : Int)) (by kernel_rfl) (by kernel_rfl) rfl (by kernel_rfl) (by kernel_rfl) (by kernel_rfl) (fun _ _ _ h => h) (Or.inl ⟨by rfl, ?_⟩) (hS0) ?_
                · intro w hSw
                  obtain ⟨q0, q1, q2, q3, q4, q5⟩ := hSw
                  go_simp
                try simp only [Act.put, List.setIfInBounds_toArray, List.set_cons_zero, List.set_cons_succ]
                refine wpAnyM_take (i := 2) (oi := { dst := some 97, op := Op.binOp BinOp.lss 3 (Operand.tmp 96) (Operand.const (Value.int IntKind.i64 0)) 3, type := 4, pos := "law.go:102", after := #[{ on := 1, ground := Ground.data }], guard := none }) (v := .bool false) (by kernel_rfl) (by kernel_rfl) rfl (by kernel_rfl) (by kernel_rfl) (by kernel_rfl) (fun _ _ _ h => h) (Or.inl ⟨by rfl, ?_⟩) (hS0) ?_
                · intro w hSw
                  obtain ⟨q0, q1, q2, q3, q4, q5⟩ := hSw
                  go_simp
                try simp only [Act.put, List.setIfInBounds_toArray, List.set_cons_zero, List.set_cons_succ]
                refine wpAnyM_take (i := 3) (oi := { dst := some 98, op := Op.move (Operand.tmp 97), type := 4, pos := "law.go:102", after := #[{ on := 2, ground := Ground.data }], guard := none }) (v := .bool false) (by kernel_rfl) (by kernel_rfl) rfl (by kernel_rfl) (by kernel_rfl) (by kernel_rfl) (fun _ _ _ h => h) (Or.inl ⟨by rfl, ?_⟩) (hS0) ?_
                · intro w hSw
                  obtain ⟨q0, q1, q2, q3, q4, q5⟩ := hSw
                  go_simp
                try simp only [Act.put, List.setIfInBounds_toArray, List.set_cons_zero, List.set_cons_succ]
                refine wpAnyM_take (i := 4) (oi := { dst := some 99, op := Op.fieldAddr 54 (Operand.tmp 13) 3, type := 0, pos := "law.go:102", after := #[{ on := 3, ground := Ground.guard }], guard := some (3, false) }) (v := .pointer (some ⟨BI, 3, none⟩)) (by kernel_rfl) (by kernel_rfl) rfl (by kernel_rfl) (by kernel_rfl) (by kernel_rfl) (fun _ _ _ h => h) (Or.inl ⟨by rfl, ?_⟩) (hS0) ?_
                · intro w hSw
                  obtain ⟨q0, q1, q2, q3, q4, q5⟩ := hSw
                  go_simp
                try simp only [Act.put, List.setIfInBounds_toArray, List.set_cons_zero, List.set_cons_succ]
                refine wpAnyM_take (i := 5) (oi := { dst := some 100, op := Op.load 3 (Operand.tmp 99), type := 3, pos := "law.go:102", after := #[{ on := 4, ground := Ground.data }, { on := 3, ground := Ground.guard }], guard := some (3, false) }) (v := .int .i64 (jc : Int)) (by kernel_rfl) (by kernel_rfl) rfl (by kernel_rfl) (by kernel_rfl) (by kernel_rfl) (fun _ _ _ h => h) (Or.inl ⟨by rfl, ?_⟩) (hS0) ?_
                · intro w hSw
                  obtain ⟨q0, q1, q2, q3, q4, q5⟩ := hSw
                  go_simp
                try simp only [Act.put, List.setIfInBounds_toArray, List.set_cons_zero, List.set_cons_succ]
                refine wpAnyM_take (i := 6) (oi := { dst := some 101, op := Op.fieldAddr 25 (Operand.tmp 4) 0, type := 0, pos := "law.go:102", after := #[{ on := 3, ground := Ground.guard }], guard := some (3, false) }) (v := .pointer (some ⟨w.heap.size, 0, none⟩)) (by kernel_rfl) (by kernel_rfl) rfl (by kernel_rfl) (by kernel_rfl) (by kernel_rfl) (fun _ _ _ h => h) (Or.inl ⟨by rfl, ?_⟩) (hS0) ?_
                · intro w hSw
                  obtain ⟨q0, q1, q2, q3, q4, q5⟩ := hSw
                  go_simp
                try simp only [Act.put, List.setIfInBounds_toArray, List.set_cons_zero, List.set_cons_succ]
                refine wpAnyM_take (i := 7) (oi := { dst := some 102, op := Op.load 22 (Operand.tmp 101), type := 22, pos := "law.go:102", after := #[{ on := 6, ground := Ground.data }, { on := 3, ground := Ground.guard }], guard := some (3, false) }) (v := .slice (some ⟨b1, o1, none⟩) X.classes.length cc) (by kernel_rfl) (by kernel_rfl) rfl (by kernel_rfl) (by kernel_rfl) (by kernel_rfl) (fun _ _ _ h => h) (Or.inl ⟨by rfl, ?_⟩) (hS0) ?_
                · intro w hSw
                  obtain ⟨q0, q1, q2, q3, q4, q5⟩ := hSw
                  go_simp
                try simp only [Act.put, List.setIfInBounds_toArray, List.set_cons_zero, List.set_cons_succ]
                refine wpAnyM_take (i := 8) (oi := { dst := some 103, op := Op.move (Operand.tmp 1), type := 3, pos := "law.go:102", after := #[{ on := 3, ground := Ground.guard }], guard := some (3, false) }) (v := .int .i64 (qc : Int)) (by kernel_rfl) (by kernel_rfl) rfl (by kernel_rfl) (by kernel_rfl) (by kernel_rfl) (fun _ _ _ h => h) (Or.inl ⟨by rfl, ?_⟩) (hS0) ?_
                · intro w hSw
                  obtain ⟨q0, q1, q2, q3, q4, q5⟩ := hSw
                  go_simp
                try simp only [Act.put, List.setIfInBounds_toArray, List.set_cons_zero, List.set_cons_succ]
                refine wpAnyM_take (i := 9) (oi := { dst := some 104, op := Op.indexAddr 22 (Operand.tmp 102) (Operand.tmp 103), type := 0, pos := "law.go:102", after := #[{ on := 7, ground := Ground.data }, { on := 8, ground := Ground.data }, { on := 3, ground := Ground.guard }], guard := some (3, false) }) (v := .pointer (some ⟨b1, o1 + qc * 4, none⟩)) (by kernel_rfl) (by kernel_rfl) rfl (by kernel_rfl) (by kernel_rfl) (by kernel_rfl) (fun _ _ _ h => h) (Or.inl ⟨by rfl, ?_⟩) (hS0) ?_
                · intro w hSw
                  obtain ⟨q0, q1, q2, q3, q4, q5⟩ := hSw
                  go_simp
                try simp only [Act.put, List.setIfInBounds_toArray, List.set_cons_zero, List.set_cons_succ]
                refine wpAnyM_take (i := 10) (oi := { dst := some 105, op := Op.fieldAddr 46 (Operand.tmp 104) 3, type := 0, pos := "law.go:102", after := #[{ on := 9, ground := Ground.data }, { on := 3, ground := Ground.guard }], guard := some (3, false) }) (v := .pointer (some ⟨b1, o1 + qc * 4 + 3, none⟩)) (by kernel_rfl) (by kernel_rfl) rfl (by kernel_rfl) (by kernel_rfl) (by kernel_rfl) (fun _ _ _ h => h) (Or.inl ⟨by rfl, ?_⟩) (hS0) ?_
                · intro w hSw
                  obtain ⟨q0, q1, q2, q3, q4, q5⟩ := hSw
                  go_simp
                try simp only [Act.put, List.setIfInBounds_toArray, List.set_cons_zero, List.set_cons_succ]
                refine wpAnyM_take (i := 11) (oi := { dst := some 106, op := Op.load 44 (Operand.tmp 105), type := 44, pos := "law.go:102", after := #[{ on := 10, ground := Ground.data }, { on := 3, ground := Ground.guard }], guard := some (3, false) }) (v := .slice (some ⟨b2, o2, none⟩) xc.methods.length cm) (by kernel_rfl) (by kernel_rfl) rfl (by kernel_rfl) (by kernel_rfl) (by kernel_rfl) (fun _ _ _ h => h) (Or.inl ⟨by rfl, ?_⟩) (hS0) ?_
                · intro w hSw
                  obtain ⟨q0, q1, q2, q3, q4, q5⟩ := hSw
                  go_simp
                try simp only [Act.put, List.setIfInBounds_toArray, List.set_cons_zero, List.set_cons_succ]
                refine wpAnyM_take (i := 12) (oi := { dst := some 107, op := Op.move (Operand.tmp 2), type := 3, pos := "law.go:102", after := #[{ on := 3, ground := Ground.guard }], guard := some (3, false) }) (v := .int .i64 (tc : Int)) (by kernel_rfl) (by kernel_rfl) rfl (by kernel_rfl) (by kernel_rfl) (by kernel_rfl) (fun _ _ _ h => h) (Or.inl ⟨by rfl, ?_⟩) (hS0) ?_
                · intro w hSw
                  obtain ⟨q0, q1, q2, q3, q4, q5⟩ := hSw
                  go_simp
                try simp only [Act.put, List.setIfInBounds_toArray, List.set_cons_zero, List.set_cons_succ]
                refine wpAnyM_take (i := 13) (oi := { dst := some 108, op := Op.indexAddr 44 (Operand.tmp 106) (Operand.tmp 107), type := 0, pos := "law.go:102", after := #[{ on := 11, ground := Ground.data }, { on := 12, ground := Ground.data }, { on := 3, ground := Ground.guard }], guard := some (3, false) }) (v := .pointer (some ⟨b2, o2 + tc * 5, none⟩)) (by kernel_rfl) (by kernel_rfl) rfl (by kernel_rfl) (by kernel_rfl) (by kernel_rfl) (fun _ _ _ h => h) (Or.inl ⟨by rfl, ?_⟩) (hS0) ?_
                · intro w hSw
                  obtain ⟨q0, q1, q2, q3, q4, q5⟩ := hSw
                  go_simp
                try simp only [Act.put, List.setIfInBounds_toArray, List.set_cons_zero, List.set_cons_succ]
                refine wpAnyM_take (i := 14) (oi := { dst := some 109, op := Op.fieldAddr 48 (Operand.tmp 108) 4, type := 0, pos := "law.go:102", after := #[{ on := 13, ground := Ground.data }, { on := 3, ground := Ground.guard }], guard := some (3, false) }) (v := .pointer (some ⟨b2, o2 + tc * 5 + 4, none⟩)) (by kernel_rfl) (by kernel_rfl) rfl (by kernel_rfl) (by kernel_rfl) (by kernel_rfl) (fun _ _ _ h => h) (Or.inl ⟨by rfl, ?_⟩) (hS0) ?_
                · intro w hSw
                  obtain ⟨q0, q1, q2, q3, q4, q5⟩ := hSw
                  go_simp
                try simp only [Act.put, List.setIfInBounds_toArray, List.set_cons_zero, List.set_cons_succ]
                refine wpAnyM_take (i := 15) (oi := { dst := some 110, op := Op.load 29 (Operand.tmp 109), type := 29, pos := "law.go:102", after := #[{ on := 14, ground := Ground.data }, { on := 3, ground := Ground.guard }], guard := some (3, false) }) (v := .slice ak m.code.length ck) (by kernel_rfl) (by kernel_rfl) rfl (by kernel_rfl) (by kernel_rfl) (by kernel_rfl) (fun _ _ _ h => h) (Or.inl ⟨by rfl, ?_⟩) (hS0) ?_
                · intro w hSw
                  obtain ⟨q0, q1, q2, q3, q4, q5⟩ := hSw
                  go_simp
                try simp only [Act.put, List.setIfInBounds_toArray, List.set_cons_zero, List.set_cons_succ]
                refine wpAnyM_take (i := 16) (oi := { dst := some 111, op := Op.call { callee := Callee.builtin Builtin.len, args := #[Operand.tmp 110], argTypes := #[29] }, type := 3, pos := "law.go:102", after := #[{ on := 15, ground := Ground.data }, { on := 3, ground := Ground.guard }], guard := some (3, false) }) (v := .int .i64 (m.code.length : Int)) (by kernel_rfl) (by kernel_rfl) rfl (by kernel_rfl) (by kernel_rfl) (by kernel_rfl) (fun _ _ _ h => h) (Or.inl ⟨by rfl, ?_⟩) (hS0) ?_
                · intro w hSw
                  obtain ⟨q0, q1, q2, q3, q4, q5⟩ := hSw
                  go_simp
                try simp only [Act.put, List.setIfInBounds_toArray, List.set_cons_zero, List.set_cons_succ]
                refine wpAnyM_take (i := 17) (oi := { dst := some 112, op := Op.binOp BinOp.geq 3 (Operand.tmp 100) (Operand.tmp 111) 3, type := 4, pos := "law.go:102", after := #[{ on := 5, ground := Ground.data }, { on := 16, ground := Ground.data }, { on := 3, ground := Ground.guard }], guard := some (3, false) }) (v := .bool false) (by kernel_rfl) (by kernel_rfl) rfl (by kernel_rfl) (by kernel_rfl) (by kernel_rfl) (fun _ _ _ h => h) (Or.inl ⟨by rfl, ?_⟩) (hS0) ?_
                · intro w hSw
                  obtain ⟨q0, q1, q2, q3, q4, q5⟩ := hSw
                  go_simp
                try simp only [Act.put, List.setIfInBounds_toArray, List.set_cons_zero, List.set_cons_succ]
                refine wpAnyM_take (i := 18) (oi := { dst := some 113, op := Op.pick (Operand.tmp 98) (Operand.const (Value.bool true)) (Operand.tmp 112), type := 4, pos := "law.go:102", after := #[{ on := 3, ground := Ground.data }, { on := 17, ground := Ground.data }], guard := none }) (v := .bool false) (by kernel_rfl) (by kernel_rfl) rfl (by kernel_rfl) (by kernel_rfl) (by kernel_rfl) (fun _ _ _ h => h) (Or.inl ⟨by rfl, ?_⟩) (hS0) ?_
                · intro w hSw
                  obtain ⟨q0, q1, q2, q3, q4, q5⟩ := hSw
                  go_simp
                try simp only [Act.put, List.setIfInBounds_toArray, List.set_cons_zero, List.set_cons_succ]
                refine wpAnyM_take (i := 19) (oi := { dst := some 114, op := Op.move (Operand.tmp 113), type := 4, pos := "law.go:102", after := #[{ on := 18, ground := Ground.data }, { on := 3, ground := Ground.chain }], guard := none }) (v := .bool false) (by kernel_rfl) (by kernel_rfl) rfl (by kernel_rfl) (by kernel_rfl) (by kernel_rfl) (fun _ _ _ h => h) (Or.inl ⟨by rfl, ?_⟩) (hS0) ?_
                · intro w hSw
                  obtain ⟨q0, q1, q2, q3, q4, q5⟩ := hSw
                  go_simp
                try simp only [Act.put, List.setIfInBounds_toArray, List.set_cons_zero, List.set_cons_succ]
                refine wpAnyM_take (i := 20) (oi := { dst := some 115, op := Op.fieldAddr 54 (Operand.tmp 13) 3, type := 0, pos := "law.go:102", after := #[{ on := 19, ground := Ground.guard }], guard := some (19, false) }) (v := .pointer (some ⟨BI, 3, none⟩)) (by kernel_rfl) (by kernel_rfl) rfl (by kernel_rfl) (by kernel_rfl) (by kernel_rfl) (fun _ _ _ h => h) (Or.inl ⟨by rfl, ?_⟩) (hS0) ?_
                · intro w hSw
                  obtain ⟨q0, q1, q2, q3, q4, q5⟩ := hSw
                  go_simp
                try simp only [Act.put, List.setIfInBounds_toArray, List.set_cons_zero, List.set_cons_succ]
                refine wpAnyM_take (i := 21) (oi := { dst := some 116, op := Op.load 3 (Operand.tmp 115), type := 3, pos := "law.go:102", after := #[{ on := 20, ground := Ground.data }, { on := 19, ground := Ground.guard }], guard := some (19, false) }) (v := .int .i64 (jc : Int)) (by kernel_rfl) (by kernel_rfl) rfl (by kernel_rfl) (by kernel_rfl) (by kernel_rfl) (fun _ _ _ h => h) (Or.inl ⟨by rfl, ?_⟩) (hS0) ?_
                · intro w hSw
                  obtain ⟨q0, q1, q2, q3, q4, q5⟩ := hSw
                  go_simp
                try simp only [Act.put, List.setIfInBounds_toArray, List.set_cons_zero, List.set_cons_succ]
                refine wpAnyM_take (i := 22) (oi := { dst := some 117, op := Op.move (Operand.tmp 3), type := 26, pos := "law.go:102", after := #[{ on := 19, ground := Ground.guard }], guard := some (19, false) }) (v := .slice (some ⟨bs, os, none⟩) sites.length cs) (by kernel_rfl) (by kernel_rfl) rfl (by kernel_rfl) (by kernel_rfl) (by kernel_rfl) (fun _ _ _ h => h) (Or.inl ⟨by rfl, ?_⟩) (hS0) ?_
                · intro w hSw
                  obtain ⟨q0, q1, q2, q3, q4, q5⟩ := hSw
                  go_simp
                try simp only [Act.put, List.setIfInBounds_toArray, List.set_cons_zero, List.set_cons_succ]
                refine wpAnyM_take (i := 23) (oi := { dst := some 118, op := Op.call { callee := Callee.builtin Builtin.len, args := #[Operand.tmp 117], argTypes := #[26] }, type := 3, pos := "law.go:102", after := #[{ on := 22, ground := Ground.data }, { on := 19, ground := Ground.guard }], guard := some (19, false) }) (v := .int .i64 (sites.length : Int)) (by kernel_rfl) (by kernel_rfl) rfl (by kernel_rfl) (by kernel_rfl) (by kernel_rfl) (fun _ _ _ h => h) (Or.inl ⟨by rfl, ?_⟩) (hS0) ?_
                · intro w hSw
                  obtain ⟨q0, q1, q2, q3, q4, q5⟩ := hSw
                  go_simp
                try simp only [Act.put, List.setIfInBounds_toArray, List.set_cons_zero, List.set_cons_succ]
                refine wpAnyM_take (i := 24) (oi := { dst := some 119, op := Op.binOp BinOp.geq 3 (Operand.tmp 116) (Operand.tmp 118) 3, type := 4, pos := "law.go:102", after := #[{ on := 21, ground := Ground.data }, { on := 23, ground := Ground.data }, { on := 19, ground := Ground.guard }], guard := some (19, false) }) (v := .bool false) (by kernel_rfl) (by kernel_rfl) rfl (by kernel_rfl) (by kernel_rfl) (by kernel_rfl) (fun _ _ _ h => h) (Or.inl ⟨by rfl, ?_⟩) (hS0) ?_
                · intro w hSw
                  obtain ⟨q0, q1, q2, q3, q4, q5⟩ := hSw
                  go_simp
                try simp only [Act.put, List.setIfInBounds_toArray, List.set_cons_zero, List.set_cons_succ]
                refine wpAnyM_take (i := 25) (oi := { dst := some 120, op := Op.pick (Operand.tmp 114) (Operand.const (Value.bool true)) (Operand.tmp 119), type := 4, pos := "law.go:102", after := #[{ on := 19, ground := Ground.data }, { on := 24, ground := Ground.data }], guard := none }) (v := .bool false) (by kernel_rfl) (by kernel_rfl) rfl (by kernel_rfl) (by kernel_rfl) (by kernel_rfl) (fun _ _ _ h => h) (Or.inl ⟨by rfl, ?_⟩) (hS0) ?_
                · intro w hSw
                  obtain ⟨q0, q1, q2, q3, q4, q5⟩ := hSw
                  go_simp
                try simp only [Act.put, List.setIfInBounds_toArray, List.set_cons_zero, List.set_cons_succ]
                refine wpAnyM_take (i := 26) (oi := { dst := some 121, op := Op.move (Operand.tmp 120), type := 4, pos := "law.go:102", after := #[{ on := 25, ground := Ground.data }, { on := 19, ground := Ground.chain }], guard := none }) (v := .bool false) (by kernel_rfl) (by kernel_rfl) rfl (by kernel_rfl) (by kernel_rfl) (by kernel_rfl) (fun _ _ _ h => h) (Or.inl ⟨by rfl, ?_⟩) (hS0) ?_
                · intro w hSw
                  obtain ⟨q0, q1, q2, q3, q4, q5⟩ := hSw
                  go_simp
                try simp only [Act.put, List.setIfInBounds_toArray, List.set_cons_zero, List.set_cons_succ]
                refine wpAnyM_take (i := 27) (oi := { dst := some 122, op := Op.move (Operand.tmp 3), type := 26, pos := "law.go:102", after := #[{ on := 26, ground := Ground.guard }], guard := some (26, false) }) (v := .slice (some ⟨bs, os, none⟩) sites.length cs) (by kernel_rfl) (by kernel_rfl) rfl (by kernel_rfl) (by kernel_rfl) (by kernel_rfl) (fun _ _ _ h => h) (Or.inl ⟨by rfl, ?_⟩) (hS0) ?_
                · intro w hSw
                  obtain ⟨q0, q1, q2, q3, q4, q5⟩ := hSw
                  go_simp
                try simp only [Act.put, List.setIfInBounds_toArray, List.set_cons_zero, List.set_cons_succ]
                refine wpAnyM_take (i := 28) (oi := { dst := some 123, op := Op.fieldAddr 54 (Operand.tmp 13) 3, type := 0, pos := "law.go:102", after := #[{ on := 26, ground := Ground.guard }], guard := some (26, false) }) (v := .pointer (some ⟨BI, 3, none⟩)) (by kernel_rfl) (by kernel_rfl) rfl (by kernel_rfl) (by kernel_rfl) (by kernel_rfl) (fun _ _ _ h => h) (Or.inl ⟨by rfl, ?_⟩) (hS0) ?_
                · intro w hSw
                  obtain ⟨q0, q1, q2, q3, q4, q5⟩ := hSw
                  go_simp
                try simp only [Act.put, List.setIfInBounds_toArray, List.set_cons_zero, List.set_cons_succ]
                refine wpAnyM_take (i := 29) (oi := { dst := some 124, op := Op.load 3 (Operand.tmp 123), type := 3, pos := "law.go:102", after := #[{ on := 28, ground := Ground.data }, { on := 26, ground := Ground.guard }], guard := some (26, false) }) (v := .int .i64 (jc : Int)) (by kernel_rfl) (by kernel_rfl) rfl (by kernel_rfl) (by kernel_rfl) (by kernel_rfl) (fun _ _ _ h => h) (Or.inl ⟨by rfl, ?_⟩) (hS0) ?_
                · intro w hSw
                  obtain ⟨q0, q1, q2, q3, q4, q5⟩ := hSw
                  go_simp
                try simp only [Act.put, List.setIfInBounds_toArray, List.set_cons_zero, List.set_cons_succ]
                refine wpAnyM_take (i := 30) (oi := { dst := some 125, op := Op.indexAddr 26 (Operand.tmp 122) (Operand.tmp 124), type := 0, pos := "law.go:102", after := #[{ on := 27, ground := Ground.data }, { on := 29, ground := Ground.data }, { on := 26, ground := Ground.guard }], guard := some (26, false) }) (v := .pointer (some ⟨bs, os + jc, none⟩)) (by kernel_rfl) (by kernel_rfl) rfl (by kernel_rfl) (by kernel_rfl) (by kernel_rfl) (fun _ _ _ h => h) (Or.inl ⟨by rfl, ?_⟩) (hS0) ?_
                · intro w hSw
                  obtain ⟨q0, q1, q2, q3, q4, q5⟩ := hSw
                  go_simp
                try simp only [Act.put, List.setIfInBounds_toArray, List.set_cons_zero, List.set_cons_succ]
                refine wpAnyM_take (i := 31) (oi := { dst := some 126, op := Op.load 3 (Operand.tmp 125), type := 3, pos := "law.go:102", after := #[{ on := 30, ground := Ground.data }, { on := 26, ground := Ground.guard }], guard := some (26, false) }) (v := .int .i64 y.a) (by kernel_rfl) (by kernel_rfl) rfl (by kernel_rfl) (by kernel_rfl) (by kernel_rfl) (fun _ _ _ h => h) (Or.inl ⟨by rfl, ?_⟩) (hS0) ?_
                · intro w hSw
                  obtain ⟨q0, q1, q2, q3, q4, q5⟩ := hSw
                  go_simp
                try simp only [Act.put, List.setIfInBounds_toArray, List.set_cons_zero, List.set_cons_succ]
                refine wpAnyM_take (i := 32) (oi := { dst := some 127, op := Op.fieldAddr 54 (Operand.tmp 13) 1, type := 0, pos := "law.go:102", after := #[{ on := 26, ground := Ground.guard }], guard := some (26, false) }) (v := .pointer (some ⟨BI, 1, none⟩)) (by kernel_rfl) (by kernel_rfl) rfl (by kernel_rfl) (by kernel_rfl) (by kernel_rfl) (fun _ _ _ h => h) (Or.inl ⟨by rfl, ?_⟩) (hS0) ?_
                · intro w hSw
                  obtain ⟨q0, q1, q2, q3, q4, q5⟩ := hSw
                  go_simp
                try simp only [Act.put, List.setIfInBounds_toArray, List.set_cons_zero, List.set_cons_succ]
                refine wpAnyM_take (i := 33) (oi := { dst := some 128, op := Op.load 3 (Operand.tmp 127), type := 3, pos := "law.go:102", after := #[{ on := 32, ground := Ground.data }, { on := 26, ground := Ground.guard }], guard := some (26, false) }) (v := .int .i64 y.a) (by kernel_rfl) (by kernel_rfl) rfl (by kernel_rfl) (by kernel_rfl) (by kernel_rfl) (fun _ _ _ h => h) (Or.inl ⟨by rfl, ?_⟩) (hS0) ?_
                · intro w hSw
                  obtain ⟨q0, q1, q2, q3, q4, q5⟩ := hSw
                  go_simp
                try simp only [Act.put, List.setIfInBounds_toArray, List.set_cons_zero, List.set_cons_succ]
                refine wpAnyM_take (i := 34) (oi := { dst := some 129, op := Op.binOp BinOp.neq 3 (Operand.tmp 126) (Operand.tmp 128) 3, type := 4, pos := "law.go:102", after := #[{ on := 31, ground := Ground.data }, { on := 33, ground := Ground.data }, { on := 26, ground := Ground.guard }], guard := some (26, false) }) (v := .bool false) (by kernel_rfl) (by kernel_rfl) rfl (by kernel_rfl) (by kernel_rfl) (by kernel_rfl) (fun _ _ _ h => h) (Or.inl ⟨by rfl, ?_⟩) (hS0) ?_
                · intro w hSw
                  obtain ⟨q0, q1, q2, q3, q4, q5⟩ := hSw
                  go_simp
                try simp only [Act.put, List.setIfInBounds_toArray, List.set_cons_zero, List.set_cons_succ]
                refine wpAnyM_take (i := 35) (oi := { dst := some 130, op := Op.pick (Operand.tmp 121) (Operand.const (Value.bool true)) (Operand.tmp 129), type := 4, pos := "law.go:102", after := #[{ on := 26, ground := Ground.data }, { on := 34, ground := Ground.data }], guard := none }) (v := .bool false) (by kernel_rfl) (by kernel_rfl) rfl (by kernel_rfl) (by kernel_rfl) (by kernel_rfl) (fun _ _ _ h => h) (Or.inl ⟨by rfl, ?_⟩) (hS0) ?_
                · intro w hSw
                  obtain ⟨q0, q1, q2, q3, q4, q5⟩ := hSw
                  go_simp
                try simp only [Act.put, List.setIfInBounds_toArray, List.set_cons_zero, List.set_cons_succ]
                refine wpAnyM_done (by kernel_rfl) ?_ _
                try simp only [Act.put, List.setIfInBounds_toArray, List.set_cons_zero, List.set_cons_succ]
                go_wp2
                go_roundg (code.length - (j + 1))
                case measure => omega
                case rel => exact HQ.out
              · have hd18 : (y.op == 18) = false := by simpa using ho
                obtain ⟨x0, -, -, -⟩ := box5 hbox
                have HQ := hid (HNX.out n _ (Below.refl _ _) (Nat.le_refl _) (by omega) (fun h => absurd h ho))
                clear hbox hB' hF' hbw' HNX hjp hG ho
                go_wp2
                go_roundg (code.length - (j + 1))
                case measure => omega
                case rel => exact HQ.out
          · have hn0 : 0 < n := by
              obtain ⟨y, hy, ho⟩ := G4.out
              obtain ⟨i, hi⟩ := List.mem_iff_getElem?.1 hy
              exact HGS.out i y (by have := lt_of_get hi; omega) hi ho
            have hjn : ¬ ((j : Int) < (code.length : Int)) := by omega
            have hdn : decide ((0 : Int) < (n : Int)) = true := by simp; omega
            have hbel := hB.bel
            clear hB hF
            go_wp2
            go_ret
            exact ⟨rfl, hbel⟩
  · go_wp2
    go_ret
    exact ⟨rfl, hB.bel⟩
end Go.Proofs.Ythaefhojnjdheaa

/- InlineRoom: fast code keeps to its room, its jumps lead within it, and it guards what it has put in. For every input. -/
namespace Go.Proofs.Ythaefhojnjdheaa
open Go.ChangeShapes Go.WideShapes Go.ChangeAt Go.RowKit Go.Deep
set_option linter.unusedSimpArgs false
set_option linter.unusedVariables false
set_option maxRecDepth 8000

section
variable {H : Type} {enc : TypeId × Value → H} {w : World} {base : Nat} {spare : Nat → Bool} {held : Bool}
theorem bytesI3 : Try.prog.bytesOf 3 = 8 := by kernel_rfl
theorem read_int {n : Nat} {cs : List Value} {x : DataW H × List MemPlace} (hl : cs.length = 1) (h : DataW.trod enc Try.prog w base spare held n 3 cs = some x) : ∃ y, IntC Tru w (fun k => cs[k]?) y := by
  obtain ⟨a, e0, -, -⟩ := DataW.trod_int Try.underlying3 h
  subst e0
  exact ⟨a, rfl⟩
theorem read_ints {fuel : Nat} {v : Value} {x : DataW H × List MemPlace} (h : DataW.trod enc Try.prog w base spare held fuel 26 [v] = some x) (hw : ∀ n ∈ x.1.weights Try.prog 26, n ≤ 140737488351232) : ∃ xs, IsInts Tru w v xs :=
  read_row goodN Try.underlying26 cells3 bytesI3 (by omega) (fun n cs x hl h hw => read_int hl h) h hw
theorem open_ints {r : Reach} {b0 : Nat} {v : Value} {d : DataW H} {p : List MemPlace} (hv : Value.okWide Try.prog w r b0 26 v) (h : DataW.Trod enc Try.prog w base spare held 26 v d p) (hw : ∀ n ∈ d.weights Try.prog 26, n ≤ 140737488351232) : ∃ xs, IsInts Tru w v xs := by
  obtain ⟨fuel, hf⟩ := h
  obtain ⟨a, len, cap, rfl⟩ := okWide_slice Try.underlying26 hv
  exact read_ints hf hw
end

set_option maxRecDepth 100000 in
theorem rm_lifted (os : Os) (started : os.Started) (H : Type) (enc : TypeId × Value → H) :
    ReturnsInHanded {} Try.checked os 5 .any (Rows.inlineRoomSpec.pre6 enc Try.prog Try.f5 Rows.inlineRoomRow.domain false) (Rows.inlineRoomSpec.post enc Try.prog Try.f5 false true false false) := by
  refine returnsInHanded_of_change_sized (C := Try.checked) own started (by kernel_rfl) Try.func5
    (ChangeSpec.witness6 (enc := enc) (C := Try.checked) false ⟨#[], #[WV (.slice none 0 0) (.slice none 0 0) 0, .int .i64 0, .int .i64 0, .slice none 0 0], []⟩ 8 (by kernel_rfl) (by kernel_rfl) (by kernel_rfl) (by kernel_rfl)) ?_
  intro W base args ds gs before hval0 hW hcnd hsz0 _
  have hval : ∀ (j : Nat) t v, Try.f5.params[j]? = some t → args[j]? = some v → Value.okWide Try.prog W .any base t v := hval0
  have hsz : (DataW.weightsEach Try.prog (Try.f5.params.toList ++ Rows.inlineRoomSpec.plain.varTypes Try.prog) (ds ++ gs)).all (· ≤ reachBytes) = true := hsz0
  have hW' := hW
  obtain ⟨p, q, hA0, hV, rfl, hfz, hnd⟩ := hW
  have hA : DataW.TrodAll enc Try.prog W 0 (fun _ => true) true Try.f5.params.toList args.toList ds p := hA0
  rw [Try.params5] at hA hval hsz
  obtain ⟨v0, vs0, d0, ds0, p0, q0, hargs, rfl, rfl, h0, r0⟩ := trodAll_cons hA
  obtain ⟨v1, vs1, d1, ds1, p1, q1, rfl, rfl, rfl, h1, r1⟩ := trodAll_cons r0
  obtain ⟨v2, vs2, d2, ds2, p2, q2, rfl, rfl, rfl, h2, r2⟩ := trodAll_cons r1
  obtain ⟨v3, vs3, d3, ds3, p3, q3, rfl, rfl, rfl, h3, r3⟩ := trodAll_cons r2
  obtain ⟨rfl, rfl, rfl⟩ := trodAll_nil r3
  obtain rfl : args = #[v0, v1, v2, v3] := by cases args; simp_all
  obtain ⟨rfl, rfl⟩ := trodVars_none hV
  have lt : ∀ {t : TypeId} {v : Value} {d : DataW H} {p : List MemPlace}, DataW.Trod enc Try.prog W 0 (fun _ => true) true t v d p → ∀ x ∈ p, x.block < W.heap.size := fun h => by obtain ⟨m, hm⟩ := h; exact DataW.trod_lt m _ _ _ hm
  have big : ∀ {j : Nat} {t : TypeId} {d : DataW H}, ([25, 3, 3, 26] : List TypeId)[j]? = some t → [d0, d1, d2, d3][j]? = some d → ∀ n ∈ d.weights Try.prog t, n ≤ 140737488351232 := fun {j t d} ht hd n hn => by
    have := List.all_eq_true.1 hsz _ (DataW.weights_mem_each (j := j) (t := t) (by exact ht) (by exact hd) n hn)
    exact of_decide_eq_true this
  have k0 := h0
  have k1 := h1
  have k2 := h2
  have k3 := h3
  obtain ⟨X0, cv0, hv0, rfl, hC0, hH0⟩ := open_world (hval 0 25 v0 rfl rfl) h0 (big (j := 0) rfl rfl)
  obtain ⟨a1, rfl, -, -, -⟩ := open_int Try.underlying3 (hval 1 3 v1 rfl rfl) h1
  obtain ⟨a2, rfl, -, -, -⟩ := open_int Try.underlying3 (hval 2 3 v2 rfl rfl) h2
  obtain ⟨x3, m3⟩ := open_ints (hval 3 26 v3 rfl rfl) h3 (big (j := 3) rfl rfl)
  clear hA0 hval0
  refine (room_walk X0 a1 a2 x3 _ _ _ W hC0 hH0 m3).mono fun e W' ⟨he, bel⟩ => ?_
  subst he
  have again : ∀ {t : TypeId} {v : Value} {d : DataW H} {p : List MemPlace}, Try.prog.readableRec t = true → t < Try.prog.types.size → DataW.Trod enc Try.prog W 0 (fun _ => true) true t v d p → DataW.Trod enc Try.prog W' 0 (fun b => decide (b < W.heap.size)) true t v d p := fun hr ht h => Below.trod laidOut hr ht h bel (lt h)
  exact ⟨_, rfl, _, _, _, [], _, [], hW', trodAll_mk1 (shut_bool Try.underlying4 _), (trodAll_cons_mk (again (by kernel_rfl) (of_decide_eq_true (by kernel_rfl)) k0) (trodAll_cons_mk (again (by kernel_rfl) (of_decide_eq_true (by kernel_rfl)) k1) (trodAll_cons_mk (again (by kernel_rfl) (of_decide_eq_true (by kernel_rfl)) k2) (trodAll_cons_mk (again (by kernel_rfl) (of_decide_eq_true (by kernel_rfl)) k3) trodAll_mk0)))), rfl, bel.frame _, fun h => by cases h⟩

theorem rm_over : Rows.inlineRoomRow.holds Try.pinned (OpenSpec.ofChange Rows.inlineRoomSpec) :=
  OpenClaim.holds_of_wide 5 Try.f5 rfl rfl rfl rfl rfl rfl rfl ⟨rfl, rfl, rfl, rfl, rfl⟩ rfl rfl rfl rfl rfl (by kernel_rfl) Try.func5 (by kernel_rfl)
    (of_decide_eq_true (by kernel_rfl)) (by unfold Func.isWrapper; first | (rw [if_pos (by decide +kernel)]; kernel_rfl) | (rw [if_neg (by decide +kernel)]; exact ⟨rfl, rfl⟩))
    (fun os started H enc _ => rm_lifted os started H enc)

/-- The statement. -/
theorem inlineRoom_holds : Rows.InlineRoomSaid := rm_over
#print axioms inlineRoom_holds

end Go.Proofs.Ythaefhojnjdheaa

