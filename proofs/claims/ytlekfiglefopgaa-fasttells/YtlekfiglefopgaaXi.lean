/- A region that draws its order, in which some operations, the late ones, may turn what the others lean on. -/
import Derived.Test.YtlekfiglefopgaaXh
namespace Go.Proofs.Ytlekfiglefopgaa
set_option linter.unusedSimpArgs false
set_option linter.unusedVariables false

section
variable {P : Program} {md : Region.Mode} {ops : Array Oper} {Q : Exit → Act → World → Prop} {S : World → Prop}
/-- Whatever order is picked from here on; S holds behind every operation that isn't late. -/
def wpAnyM (P : Program) (md : Region.Mode) (ops : Array Oper) (Q : Exit → Act → World → Prop) (S : World → Prop) (late : List Nat) : Nat → Array Bool → Act → World → Prop
  | 0, listed, a, w => Region.ready md ops listed = [] ∧ Q .normal a w
  | fuel + 1, listed, a, w =>
    (Region.ready md ops listed = [] → Q .normal a w) ∧
    ∀ i ∈ Region.ready md ops listed, wpOp P ops Q i (fun a' w' => (late.contains i = false → S w') ∧ wpAnyM P md ops Q S late fuel (listed.setIfInBounds i true) a' w') a w
theorem wpAny_of_late {late : List Nat} : ∀ (fuel : Nat) (listed : Array Bool) (a : Act) (w : World), wpAnyM P md ops Q S late fuel listed a w → wpAny P md ops Q fuel listed a w
  | 0, _, _, _, h => h
  | fuel + 1, _, _, _, h => ⟨h.1, fun i hi => wpOp_mono (fun a' w' h' => wpAny_of_late fuel _ a' w' h'.2) (h.2 i hi)⟩
/-- k comes behind i, by so many steps at the most. -/
def depB (md : Region.Mode) (ops : Array Oper) (i : Nat) : Nat → Nat → Bool
  | 0, _ => false
  | n + 1, k => match ops[k]? with
    | none => false
    | some o => o.after.any fun e => Region.binds md e && (e.on == i || depB md ops i n e.on)
/-- What was done had all that it leans on. -/
def Down (md : Region.Mode) (ops : Array Oper) (listed : Array Bool) : Prop := ∀ k o, ops[k]? = some o → listed.getD k true = true → ∀ e ∈ o.after, Region.binds md e = true → listed.getD e.on true = true
def downB (md : Region.Mode) (ops : Array Oper) (listed : Array Bool) : Bool :=
  (List.range ops.size).all fun k => match ops[k]? with
    | none => true
    | some o => !(listed.getD k true) || o.after.all fun e => !(Region.binds md e) || listed.getD e.on true
theorem downB_spec {listed : Array Bool} (h : downB md ops listed = true) : Down md ops listed := by
  intro k o hk hl e he hb
  unfold downB at h
  rw [List.all_eq_true] at h
  have := h k (List.mem_range.2 (Array.getElem?_eq_some_iff.1 hk).1)
  rw [hk] at this
  simp only [hl, Bool.not_true, Bool.false_or, Array.all_eq_true'] at this
  have h1 := this e he
  simpa [hb] using h1
theorem getDB_set {l : Array Bool} {i k : Nat} (h : l.getD k true = true) : (l.setIfInBounds i true).getD k true = true := by
  by_cases hik : i = k
  · subst hik
    rcases Nat.lt_or_ge i l.size with h' | h'
    · simp [h']
    · simp [h']
  · rw [getD_set_ne true hik]; exact h
theorem down_ready {listed : Array Bool} {i : Nat} (hd : Down md ops listed) (hi : i ∈ Region.ready md ops listed) : Down md ops (listed.setIfInBounds i true) := by
  intro k o hk hl e he hb
  obtain ⟨hiun, oi, hoi, hall⟩ := mem_ready.1 hi
  by_cases hki : i = k
  · subst hki
    rw [hoi] at hk
    cases hk
    have h1 := hall e he hb
    refine getDB_set ?_
    rcases Nat.lt_or_ge e.on listed.size with h' | h'
    · simp [h'] at h1 ⊢; exact h1
    · simp [Array.getElem?_eq_none h']
  · rw [getD_set_ne true hki] at hl
    exact getDB_set (hd k o hk hl e he hb)
theorem dep_listed {listed : Array Bool} {i : Nat} (hd : Down md ops listed) : ∀ (n k : Nat), depB md ops i n k = true → listed.getD k true = true → listed.getD i true = true
  | 0, k, h, _ => by cases h
  | n + 1, k, h, hl => by
    unfold depB at h
    split at h
    · cases h
    · rename_i o ho
      rw [Array.any_eq_true'] at h
      obtain ⟨e, he, h⟩ := h
      simp only [Bool.and_eq_true, Bool.or_eq_true, beq_iff_eq] at h
      obtain ⟨hb, h⟩ := h
      have hl' := hd k o ho hl e he hb
      rcases h with h | h
      · rw [← h]; exact hl'
      · exact dep_listed hd n e.on h hl'
theorem dep_ready {listed : Array Bool} {i l : Nat} (hd : Down md ops listed) {n : Nat} (h : depB md ops i n l = true) (hl : l ∈ Region.ready md ops listed) : listed.getD i true = true := by
  cases n with
  | zero => cases h
  | succ n =>
    obtain ⟨hlun, o, ho, hall⟩ := mem_ready.1 hl
    unfold depB at h
    rw [ho] at h
    simp only [] at h
    rw [Array.any_eq_true'] at h
    obtain ⟨e, he, h⟩ := h
    simp only [Bool.and_eq_true, Bool.or_eq_true, beq_iff_eq] at h
    obtain ⟨hb, h⟩ := h
    have h1 := hall e he hb
    have hl' : listed.getD e.on true = true := by
      rcases Nat.lt_or_ge e.on listed.size with h' | h'
      · simp [h'] at h1 ⊢; exact h1
      · simp [Array.getElem?_eq_none h']
    rcases h with h | h
    · rw [← h]; exact hl'
    · exact dep_listed hd n e.on h hl'
/-- All late ones come behind i. -/
def lateB (md : Region.Mode) (ops : Array Oper) (late : List Nat) (i : Nat) : Bool := late.all fun l => depB md ops i ops.size l
theorem lateB_ready {late : List Nat} {listed : Array Bool} {i j : Nat} (h : lateB md ops late i = true) (hd : Down md ops listed) (hi : i ∈ Region.ready md ops listed) (hj : j ∈ Region.ready md ops listed) : late.contains j = false := by
  by_cases hc : late.contains j = true
  · exfalso
    unfold lateB at h
    rw [List.all_eq_true] at h
    have h1 := dep_ready hd (h j (by simpa using hc)) hj
    have h0 := (mem_ready.1 hi).1
    rcases Nat.lt_or_ge i listed.size with h' | h'
    · simp [h'] at h0 h1; rw [h0] at h1; cases h1
    · simp [Array.getElem?_eq_none h'] at h0
  · simpa using hc
theorem wpAnyM_first {late : List Nat} {i : Nat} {oi : Oper} {v : Value} (hlate : lateB md ops late i = true) (hi : ops[i]? = some oi) (hsel : ∀ (j : Nat) (o : Oper) cs b, ops[j]? = some o → o.op ≠ .select cs b)
    (hQ : ∀ c a w, Q (.panic c) (a.put oi.dst v) w → Q (.panic c) a w) :
    ∀ (fuel : Nat) (listed : Array Bool) (a : Act) (w : World), Down md ops listed →
      (∀ j oj, ops[j]? = some oj → j ≠ i → listed.getD j true = false → (∀ e ∈ oj.after, Region.binds md e = true → e.on ≠ i) → oi.apart ops oj = true) →
      i ∈ Region.ready md ops listed → YieldsIf P ops S oi v a → S w →
      wpAnyM P md ops Q S late fuel (listed.setIfInBounds i true) (a.put oi.dst v) w → wpAnyM P md ops Q S late (fuel + 1) listed a w := by
  intro fuel
  induction fuel with
  | zero =>
    intro listed a w _ _ hr hy hS H
    refine ⟨fun h => (by rw [h] at hr; cases hr), fun j hj => ?_⟩
    by_cases hji : j = i
    · subst hji; exact hy.wpOp hi hS ⟨fun _ => hS, H⟩
    · have := ready_mono hj hji
      rw [H.1] at this
      cases this
  | succ fuel ih =>
    intro listed a w hd hfree hr hy hS H
    refine ⟨fun h => (by rw [h] at hr; cases hr), fun j hj => ?_⟩
    by_cases hji : j = i
    · subst hji; exact hy.wpOp hi hS ⟨fun _ => hS, H⟩
    · have hjL : late.contains j = false := lateB_ready hlate hd hr hj
      have h1 := H.2 j (ready_mono hj hji)
      obtain ⟨hjun, oj, hoj, hall⟩ := mem_ready.1 hj
      have hnot : ∀ e ∈ oj.after, Region.binds md e = true → e.on ≠ i := fun e he hb heq => by
        have h1 := hall e he hb
        have h0 := (mem_ready.1 hr).1
        rw [heq] at h1
        rcases Nat.lt_or_ge i listed.size with h' | h'
        · simp [h'] at h0 h1; rw [h0] at h1; cases h1
        · simp [Array.getElem?_eq_none h'] at h1
      have h2 := wpOp_putIf hoj (hfree j oj hoj hji hjun hnot) (fun cs b => hsel i oi cs b hi) (fun cs b => hsel j oj cs b hoj) hQ hy h1
      have hfree' : ∀ k ok, ops[k]? = some ok → k ≠ i → (listed.setIfInBounds j true).getD k true = false →
          (∀ e ∈ ok.after, Region.binds md e = true → e.on ≠ i) → oi.apart ops ok = true := fun k ok hk hki hun hno => by
        refine hfree k ok hk hki ?_ hno
        by_cases hjk : j = k
        · subst hjk; exact hjun
        · rw [getD_set_ne true hjk] at hun; exact hun
      refine wpOp_mono (fun a' w' h3 => ⟨fun _ => h3.2.1 hjL, ih (listed.setIfInBounds j true) a' w' (down_ready hd hj) hfree' (ready_mono hr (Ne.symm hji)) h3.1 (h3.2.1 hjL) ?_⟩) h2
      rw [Array.setIfInBounds_comm _ _ hji]
      exact h3.2.2
theorem wpAnyM_take {late : List Nat} {i : Nat} {oi : Oper} {v : Value} {fuel : Nat} {listed : Array Bool} {a : Act} {w : World} (hlate : lateB md ops late i = true) (hd : downB md ops listed = true) (hi : ops[i]? = some oi)
    (hs : Region.noSelect ops = true) (hf : Region.free md ops listed i = true) (hr : (Region.ready md ops listed).contains i = true)
    (hQ : ∀ c a w, Q (.panic c) (a.put oi.dst v) w → Q (.panic c) a w) (hy : YieldsIf P ops S oi v a) (hS : S w)
    (h : wpAnyM P md ops Q S late fuel (listed.setIfInBounds i true) (a.put oi.dst v) w) : wpAnyM P md ops Q S late (fuel + 1) listed a w :=
  wpAnyM_first hlate hi (Region.noSelect_spec hs) hQ fuel listed a w (downB_spec hd) (Region.free_spec hi hf) (by simpa using hr) hy hS h
theorem wpAnyM_done {late : List Nat} {listed : Array Bool} {a : Act} {w : World} (hr : Region.ready md ops listed = []) (h : Q .normal a w) : ∀ fuel, wpAnyM P md ops Q S late fuel listed a w
  | 0 => ⟨hr, h⟩
  | _ + 1 => ⟨fun _ => h, by rw [hr]; simp⟩
theorem wpAnyM_ready {late : List Nat} {rs : List Nat} {fuel : Nat} {listed : Array Bool} {a : Act} {w : World} (hr : Region.ready md ops listed = rs) (hne : rs ≠ [])
    (h : ∀ i ∈ rs, wpOp P ops Q i (fun a' w' => (late.contains i = false → S w') ∧ wpAnyM P md ops Q S late fuel (listed.setIfInBounds i true) a' w') a w) : wpAnyM P md ops Q S late (fuel + 1) listed a w :=
  ⟨fun h0 => absurd (hr ▸ h0) hne, hr ▸ h⟩
theorem stepM {late : List Nat} {i : Nat} {fuel : Nat} {listed : Array Bool} {a : Act} {w : World} {o : Oper} (ho : ops[i]? = some o)
    (h : ∀ K' : Act → World → Prop, (∀ a w, (late.contains i = false → S w) → wpAnyM P md ops Q S late fuel (listed.setIfInBounds i true) a w → K' a w) → if Region.wanted o (yielded ops a.tmps) = true then Oper.wp P o a w K' Q else K' (a.put o.dst undef) w) :
    wpOp P ops Q i (fun a' w' => (late.contains i = false → S w') ∧ wpAnyM P md ops Q S late fuel (listed.setIfInBounds i true) a' w') a w :=
  wpOp_step ho (fun K' hK => h K' (fun a w hS hW => hK a w ⟨hS, hW⟩))
/-- Where only late ones are left, what the others leaned on is of no account. -/
theorem wpAnyM_swap {S' : World → Prop} {late late' : List Nat} : ∀ (fuel : Nat) (listed : Array Bool) (a : Act) (w : World), (∀ i, i ∈ Region.ready md ops listed → late.contains i = true) → (∀ i, late.contains i = false → listed.getD i true = true) →
    wpAnyM P md ops Q S' late' fuel listed a w → wpAnyM P md ops Q S late fuel listed a w
  | 0, _, _, _, _, _, h => h
  | fuel + 1, listed, a, w, h0, h1, h => ⟨h.1, fun i hi => wpOp_mono (fun a' w' h' => ⟨fun hl => (by rw [h0 i hi] at hl; cases hl), wpAnyM_swap fuel _ a' w' (fun j hj => by
      by_cases hc : late.contains j = true
      · exact hc
      · exfalso
        have := h1 j (by simpa using hc)
        have h2 := (mem_ready.1 hj).1
        have h3 := getDB_set (i := i) this
        rcases Nat.lt_or_ge j (listed.setIfInBounds i true).size with h' | h'
        · simp only [Array.getD_eq_getD_getElem?, Array.getElem?_eq_getElem h', Option.getD_some] at h2 h3; rw [h2] at h3; cases h3
        · rw [Array.getD_eq_getD_getElem?, Array.getElem?_eq_none h'] at h2; cases h2) (fun j hj => getDB_set (h1 j hj)) h'.2⟩) (h.2 i hi)⟩
def onlyB (ops : Array Oper) (late : List Nat) (listed : Array Bool) : Bool := listed.size == ops.size && (List.range ops.size).all fun i => late.contains i || listed.getD i true
theorem wpAnyM_only {S' : World → Prop} {late late' : List Nat} {fuel : Nat} {listed : Array Bool} {a : Act} {w : World} (ho : onlyB ops late listed = true) (h : wpAnyM P md ops Q S' late' fuel listed a w) : wpAnyM P md ops Q S late fuel listed a w := by
  unfold onlyB at ho
  simp only [Bool.and_eq_true, beq_iff_eq, List.all_eq_true, List.mem_range, Bool.or_eq_true] at ho
  have h1 : ∀ i, late.contains i = false → listed.getD i true = true := fun i hi => by
    rcases Nat.lt_or_ge i ops.size with h' | h'
    · rcases ho.2 i h' with h'' | h''
      · rw [hi] at h''; cases h''
      · exact h''
    · rw [Array.getD_eq_getD_getElem?, Array.getElem?_eq_none (by omega)]; rfl
  refine wpAnyM_swap fuel listed a w (fun i hi => ?_) h1 h
  by_cases hc : late.contains i = true
  · exact hc
  · exfalso
    have h2 := (mem_ready.1 hi).1
    have h3 := h1 i (by simpa using hc)
    rcases Nat.lt_or_ge i listed.size with h' | h'
    · simp only [Array.getD_eq_getD_getElem?, Array.getElem?_eq_getElem h', Option.getD_some] at h2 h3; rw [h2] at h3; cases h3
    · rw [Array.getD_eq_getD_getElem?, Array.getElem?_eq_none h'] at h2; cases h2
theorem wp_region_late {id : Nat} {a : Act} {w : World} (late : List Nat) (hm : P.follows .mixedOrders = true)
    (h : wpAnyM P .any ops Q S late ops.size (Array.replicate ops.size false) a w.drew) : (Code.region id ops true).wp P Q a w :=
  wp_region_any hm (wpAny_of_late _ _ _ _ h)
end
end Go.Proofs.Ytlekfiglefopgaa
