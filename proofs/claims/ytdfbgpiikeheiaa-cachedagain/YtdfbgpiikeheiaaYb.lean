/- A right world stays right, whatever runs: as plain functions. -/
import Derived.Test.YtdfbgpiikeheiaaYa
namespace Go.Proofs.Ytdfbgpiikeheiaa
open Go.ChangeShapes Go.WideShapes Go.ChangeAt Go.RowKit
set_option linter.unusedSimpArgs false
set_option linter.unusedVariables false
set_option maxRecDepth 8000

theorem wrongV_later {h h' : Int} {v : QV} (hv : wrongV h v = 0) (hh : h ≤ h') : wrongV h' v = 0 := by
  unfold wrongV wrongK at hv ⊢
  split at hv
  · cases hv
  · split at hv
    · rename_i a b; rw [if_neg a, if_pos b]; exact hv
    · split at hv
      · rename_i a b c; rw [if_neg a, if_neg b, if_pos c]; exact hv
      · rename_i a b c
        rw [if_neg a, if_neg b, if_neg c]
        split at hv
        · cases hv
        · rename_i d; rw [if_neg (by omega)]
theorem wrongV_nil (h : Int) : wrongV h nilV = 0 := by simp [wrongV, wrongK]
def VsOk (h : Int) (l : List QV) : Prop := ∀ v ∈ l, wrongV h v = 0
theorem VsOk.later {h h' : Int} {l : List QV} (hl : VsOk h l) (hh : h ≤ h') : VsOk h' l := fun v hv => wrongV_later (hl v hv) hh
theorem VsOk.entry {h : Int} {l : List QV} (hl : VsOk h l) (n : Int) : wrongV h (entryE l n) = 0 := by
  unfold entryE
  split
  · exact wrongV_nil h
  · cases hq : l[n.toNat]? with
    | none => exact wrongV_nil h
    | some v => exact hl v (List.mem_of_getElem? hq)
theorem VsOk.setEntry {h : Int} {l : List QV} (hl : VsOk h l) (n : Int) {x : QV} (hx : wrongV h x = 0) : VsOk h (setEntryE l n x) := by
  unfold setEntryE
  split
  · exact hl
  · intro v hv
    rcases List.mem_or_eq_of_mem_set hv with h1 | rfl
    · exact hl v h1
    · exact hx
theorem setEntry_len (l : List QV) (n : Int) (x : QV) : (setEntryE l n x).length = l.length := by unfold setEntryE; split <;> simp
theorem VsOk.append {h : Int} {l : List QV} (hl : VsOk h l) {x : QV} (hx : wrongV h x = 0) : VsOk h (l ++ [x]) := fun v hv => by
  simp at hv
  rcases hv with h1 | rfl
  · exact hl v h1
  · exact hx
theorem VsOk.sub {h : Int} {l k : List QV} (hl : VsOk h l) (hk : ∀ v ∈ k, v ∈ l) : VsOk h k := fun v hv => hl v (hk v hv)
theorem rooms_ok (h n : Int) : VsOk h (roomsE n) := fun v hv => by
  unfold roomsE at hv
  rw [(List.mem_replicate.1 hv).2]
  exact wrongV_nil h

structure HOk (cs : List QC) (h : List QO) : Prop where
  len : h.length ≤ 60
  obj : ∀ o ∈ h, belowB cs.length o.cls = true ∧ (o.slots.length : Int) = slotsW cs o.cls ∧ VsOk h.length o.slots
theorem objAt_some {h : List QO} {v : QV} {o : QO} (e : objAt h v = some o) : h[v.n.toNat]? = some o := by
  unfold objAt at e
  split at e
  · exact e
  · cases e
theorem HOk.slot {cs : List QC} {h : List QO} (hh : HOk cs h) (v : QV) (n : Int) : wrongV h.length (slotV h v n) = 0 := by
  unfold slotV
  cases e : objAt h v with
  | none => exact wrongV_nil _
  | some o => exact (hh.obj o (List.mem_of_getElem? (objAt_some e))).2.2.entry n
theorem setSlot_len (h : List QO) (v : QV) (n : Int) (x : QV) : (setSlotE h v n x).length = h.length := by unfold setSlotE; split <;> simp
theorem HOk.setSlot {cs : List QC} {h : List QO} (hh : HOk cs h) (v : QV) (n : Int) {x : QV} (hx : wrongV h.length x = 0) : HOk cs (setSlotE h v n x) := by
  refine ⟨by rw [setSlot_len]; exact hh.len, fun o ho => ?_⟩
  rw [setSlot_len]
  unfold setSlotE at ho
  split at ho
  · exact hh.obj o ho
  · rename_i p e
    rcases List.mem_or_eq_of_mem_set ho with h1 | rfl
    · exact hh.obj o h1
    · obtain ⟨a, b, c⟩ := hh.obj p (List.mem_of_getElem? (objAt_some e))
      exact ⟨a, by simp only [setEntry_len]; exact b, c.setEntry n hx⟩
theorem HOk.make {cs : List QC} {h : List QO} (hh : HOk cs h) {c : Int} (hc : belowB cs.length c = true) {k : Nat} (hk : (k : Int) = slotsW cs c) (hl : h.length < 60) : HOk cs (h ++ [⟨c, List.replicate k nilV⟩]) := by
  refine ⟨by simp; omega, fun o ho => ?_⟩
  simp only [List.length_append, List.length_cons, List.length_nil, List.mem_append, List.mem_singleton] at ho ⊢
  rcases ho with h1 | rfl
  · obtain ⟨a, b, d⟩ := hh.obj o h1
    exact ⟨a, b, d.later (by omega)⟩
  · exact ⟨hc, by simpa using hk, fun v hv => by rw [(List.mem_replicate.1 hv).2]; exact wrongV_nil _⟩

def CodeOk (cs : List QC) (l : List QI) : Prop := ∀ x ∈ l, (x.op = 5 → -1073741824 ≤ x.a ∧ x.a ≤ 1073741824) ∧ (x.op = 13 → belowB cs.length x.a = true)
structure FOk (cs : List QC) (h : Int) (f : Fr) : Prop where
  self : wrongV h f.self = 0
  args : VsOk h f.args
  temps : VsOk h f.temps
  stack : VsOk h f.stack
  code : CodeOk cs f.code
  plain : CodeOk cs f.meth.code
theorem FOk.later {cs : List QC} {h h' : Int} {f : Fr} (hf : FOk cs h f) (hh : h ≤ h') : FOk cs h' f := ⟨wrongV_later hf.self hh, hf.args.later hh, hf.temps.later hh, hf.stack.later hh, hf.code, hf.plain⟩
theorem FOk.push {cs : List QC} {h : Int} {f : Fr} (hf : FOk cs h f) {v : QV} (hv : wrongV h v = 0) : FOk cs h (f.push v) := ⟨hf.self, hf.args, hf.temps, hf.stack.append hv, hf.code, hf.plain⟩
theorem FOk.pop {cs : List QC} {h : Int} {f : Fr} (hf : FOk cs h f) : FOk cs h f.pop := ⟨hf.self, hf.args, hf.temps, hf.stack.sub fun v hv => List.dropLast_subset _ hv, hf.code, hf.plain⟩
theorem FOk.top {cs : List QC} {h : Int} {f : Fr} (hf : FOk cs h f) : wrongV h f.top = 0 := hf.stack.entry _
theorem FOk.leave {cs : List QC} {h : Int} {f : Fr} (hf : FOk cs h f) (c : Int) : FOk cs h (f.leave c) := by
  refine ⟨hf.self, hf.args, fun v hv => ?_, hf.stack, hf.plain, hf.plain⟩
  simp only [Fr.leave, List.mem_map] at hv
  obtain ⟨p, -, rfl⟩ := hv
  cases hq : f.temps[p.2]? with
  | none => exact wrongV_nil h
  | some v => exact hf.temps v (List.mem_of_getElem? hq)

section
variable {σ : Type}
structure EOk (E : Env σ) : Prop where
  meths : ∀ c n m, methAt E.classes c n = some m → CodeOk E.classes m.code
  fast : ∀ c n q, E.quick c n = some q → CodeOk E.classes q.1
  slots : ∀ c, slotsW E.classes c = slotsE E.classes c ∧ 0 ≤ slotsE E.classes c
/-- What a run leaves. -/
structure ROk (cs : List QC) (m m' : Mc σ) : Prop where
  heap : HOk cs m'.heap
  more : m.heap.length ≤ m'.heap.length
def EntOk (cs : List QC) (ent : Ent σ) : Prop := ∀ m c n s a, HOk cs m.heap → wrongV m.heap.length s = 0 → VsOk m.heap.length a → ROk cs m (ent m c n s a).1 ∧ wrongV (ent m c n s a).1.heap.length (ent m c n s a).2.1 = 0
def StepOk (cs : List QC) (m : Mc σ) (r : Mc σ × Fr × Int) : Prop := ROk cs m r.1 ∧ (r.2.2 = 0 → FOk cs r.1.heap.length r.2.1)
theorem jump_ok {cs : List QC} {m : Mc σ} {f : Fr} (hm : HOk cs m.heap) (hf : FOk cs m.heap.length f) (a b : Int) : StepOk cs m (jumpE m f a b) := by
  have hf' : ∀ t, FOk cs m.heap.length { f with pc := t } := fun t => ⟨hf.self, hf.args, hf.temps, hf.stack, hf.code, hf.plain⟩
  unfold jumpE StepOk
  by_cases h : b ≤ a
  · simp only [h, if_true]
    split
    · exact ⟨⟨hm, Nat.le_refl _⟩, fun h => by cases h⟩
    · exact ⟨⟨hm, Nat.le_refl _⟩, fun _ => hf' b⟩
  · simp only [h, if_false]
    split
    · exact ⟨⟨hm, Nat.le_refl _⟩, fun h => by cases h⟩
    · exact ⟨⟨hm, Nat.le_refl _⟩, fun _ => hf' b⟩
theorem else_ok {cs : List QC} {m : Mc σ} {f : Fr} (hm : HOk cs m.heap) (hf : FOk cs m.heap.length f) (a b : Int) : StepOk cs m (elseE m f a b) := by
  unfold elseE
  split
  · exact ⟨⟨hm, Nat.le_refl _⟩, fun _ => hf.pop⟩
  · split
    · exact jump_ok hm hf.pop a b
    · exact ⟨⟨hm, Nat.le_refl _⟩, fun _ => hf⟩
theorem make_ok {E : Env σ} (hE : EOk E) {m : Mc σ} {f : Fr} (hm : HOk E.classes m.heap) (hf : FOk E.classes m.heap.length f) {c : Int} (hc : belowB E.classes.length c = true) : StepOk E.classes m (makeE E m f c) := by
  unfold makeE
  split
  · exact ⟨⟨hm, Nat.le_refl _⟩, fun _ => hf⟩
  · rename_i h
    obtain ⟨h1, h2⟩ := hE.slots c
    refine ⟨⟨hm.make hc (by rw [h1]; omega) (by omega), by simp⟩, fun _ => ?_⟩
    refine (hf.later ?_).push ?_
    · simp only [List.length_append, List.length_cons, List.length_nil]; omega
    · simp only [List.length_append, List.length_cons, List.length_nil, wrongV, wrongK]
      rw [if_neg (by omega), if_neg (by omega), if_neg (by omega), if_neg (by omega)]
theorem count_ok {cs : List QC} (E : Env σ) (d : Nat) {m : Mc σ} (hm : HOk cs m.heap) : ROk cs m (countE E d m).1 ∧ (countE E d m).1.heap = m.heap := by
  unfold countE
  split
  · exact ⟨⟨hm, Nat.le_refl _⟩, rfl⟩
  · split
    · exact ⟨⟨hm, Nat.le_refl _⟩, rfl⟩
    · exact ⟨⟨hm, Nat.le_refl _⟩, rfl⟩
theorem fast_ok {cs : List QC} (E : Env σ) (d : Nat) {m : Mc σ} {f : Fr} (hm : HOk cs m.heap) (hf : FOk cs m.heap.length f) (x : QI) : StepOk cs m (fastE E d m f x) := by
  unfold fastE
  split
  · exact ⟨⟨hm, Nat.le_refl _⟩, fun h => by cases h⟩
  · split
    · refine ⟨⟨hm, Nat.le_refl _⟩, fun _ => ?_⟩
      simp only []
      split
      · exact hf
      · exact hf.leave x.c
    · split
      · exact ⟨⟨hm, Nat.le_refl _⟩, fun _ => hf.push (hm.slot _ _)⟩
      · split
        · refine ⟨⟨hm.setSlot _ _ hf.top, by simp [setSlot_len]⟩, fun _ => ?_⟩
          simp only [setSlot_len]
          exact hf.pop
        · split
          · obtain ⟨h1, h2⟩ := count_ok (cs := cs) E d hm
            refine ⟨h1, fun _ => ?_⟩
            simp only [h2]
            exact hf
          · exact ⟨⟨hm, Nat.le_refl _⟩, fun h => by cases h⟩
theorem send_ok {cs : List QC} {ent : Ent σ} (he : EntOk cs ent) (E : Env σ) {m : Mc σ} {f : Fr} (hm : HOk cs m.heap) (hf : FOk cs m.heap.length f) (at' : Int) (x : QI) : StepOk cs m (sendE ent E m f at' x) := by
  unfold sendE
  simp only []
  generalize E.look m.st (f.site at' x) (classV m.heap (belowE (f.stack.take (fromE f.stack x.a)) 0)) x.name = l
  have ht : VsOk m.heap.length (f.stack.take (fromE f.stack x.a)) := hf.stack.sub fun v hv => List.mem_of_mem_take hv
  obtain ⟨h1, h2⟩ := he { m with st := l.1 } l.2.1 l.2.2 (belowE (f.stack.take (fromE f.stack x.a)) 0) (f.stack.drop (fromE f.stack x.a)) hm (ht.entry _) (hf.stack.sub fun v hv => List.mem_of_mem_drop hv)
  generalize ent { m with st := l.1 } l.2.1 l.2.2 (belowE (f.stack.take (fromE f.stack x.a)) 0) (f.stack.drop (fromE f.stack x.a)) = r at h1 h2 ⊢
  have hmore : m.heap.length ≤ r.1.heap.length := h1.more
  split
  · rename_i h; exact ⟨⟨h1.heap, hmore⟩, fun h' => absurd h' h⟩
  · refine ⟨⟨h1.heap, hmore⟩, fun _ => ?_⟩
    have hf' := hf.later (h' := (r.1.heap.length : Int)) (by omega)
    have ht' : VsOk (r.1.heap.length : Int) (f.stack.take (fromE f.stack x.a)) := ht.later (by omega)
    exact ⟨hf'.self, hf'.args, hf'.temps, ((ht'.sub fun v hv => List.dropLast_subset _ hv).append h2), hf'.code, hf'.plain⟩
theorem pushed_ok {cs : List QC} {h : List QO} {f : Fr} (hm : HOk cs h) (hf : FOk cs h.length f) {x : QI} (hx : x.op = 5 → -1073741824 ≤ x.a ∧ x.a ≤ 1073741824) {v : QV} (e : pushedE h f x = some v) : wrongV h.length v = 0 := by
  unfold pushedE at e
  split at e
  · cases e; exact hf.self
  · split at e
    · cases e; exact hf.args.entry _
    · split at e
      · cases e; exact hf.temps.entry _
      · split at e
        · cases e; exact hm.slot _ _
        · split at e
          · rename_i h5
            cases e
            have := hx h5
            simp only [wrongV, wrongK]
            rw [if_neg (by omega), if_neg (by omega), if_pos trivial, if_neg (by omega)]
          · split at e
            · cases e; exact wrongV_nil _
            · split at e
              · cases e; simp [wrongV, wrongK]
              · split at e
                · cases e; simp [wrongV, wrongK]
                · cases e
theorem step_ok {E : Env σ} (hE : EOk E) {ent : Ent σ} (he : EntOk E.classes ent) (d : Nat) {m : Mc σ} {f : Fr} (hm : HOk E.classes m.heap) (hf : FOk E.classes m.heap.length f) (at' : Int) {x : QI} (h5 : x.op = 5 → -1073741824 ≤ x.a ∧ x.a ≤ 1073741824) (h13 : x.op = 13 → belowB E.classes.length x.a = true) : StepOk E.classes m (mstepE ent E d m f at' x) := by
  unfold mstepE
  split
  · rename_i v e
    exact ⟨⟨hm, Nat.le_refl _⟩, fun _ => hf.push (pushed_ok hm hf h5 e)⟩
  · split
    · exact ⟨⟨hm, Nat.le_refl _⟩, fun _ => hf.pop⟩
    · split
      · exact ⟨⟨hm, Nat.le_refl _⟩, fun _ => hf.push hf.top⟩
      · split
        · exact ⟨⟨hm, Nat.le_refl _⟩, fun _ => ⟨hf.self, hf.args, hf.temps.setEntry _ hf.top, hf.pop.stack, hf.code, hf.plain⟩⟩
        · split
          · refine ⟨⟨hm.setSlot _ _ hf.top, by simp [setSlot_len]⟩, fun _ => ?_⟩
            simp only [setSlot_len]
            exact hf.pop
          · split
            · rename_i h; exact make_ok hE hm hf (h13 h)
            · split
              · exact send_ok he E hm hf at' x
              · split
                · exact jump_ok hm hf at' x.a
                · split
                  · exact else_ok hm hf at' x.a
                  · exact fast_ok E d hm hf x
theorem ROk.trans {cs : List QC} {a b c : Mc σ} (h : ROk cs a b) (k : ROk cs b c) : ROk cs a c := ⟨k.heap, Nat.le_trans h.more k.more⟩
theorem fin_ok {E : Env σ} (hE : EOk E) {ent : Ent σ} (he : EntOk E.classes ent) (d : Nat) : ∀ (g : Nat) {m : Mc σ} {f : Fr}, HOk E.classes m.heap → FOk E.classes m.heap.length f → ROk E.classes m (finE ent E d g m f).1 ∧ wrongV (finE ent E d g m f).1.heap.length (finE ent E d g m f).2.1 = 0
  | 0, m, f, hm, hf => ⟨⟨hm, Nat.le_refl _⟩, wrongV_nil _⟩
  | g + 1, m, f, hm, hf => by
    unfold finE
    cases hq : (if f.pc < 0 then none else f.code[f.pc.toNat]?) with
    | none => exact ⟨⟨hm, Nat.le_refl _⟩, wrongV_nil _⟩
    | some x =>
      have hx : x ∈ f.code := by
        split at hq
        · cases hq
        · exact List.mem_of_getElem? hq
      simp only []
      by_cases h17 : x.op = 17
      · rw [if_pos h17]; exact ⟨⟨hm, Nat.le_refl _⟩, hf.top⟩
      · rw [if_neg h17]
        have hf1 : FOk E.classes m.heap.length { f with pc := f.pc + 1 } := ⟨hf.self, hf.args, hf.temps, hf.stack, hf.code, hf.plain⟩
        obtain ⟨h1, h2⟩ := step_ok hE he d hm hf1 f.pc (hf.code x hx).1 (hf.code x hx).2
        generalize mstepE ent E d m { f with pc := f.pc + 1 } f.pc x = r at h1 h2 ⊢
        by_cases h0 : r.2.2 ≠ 0
        · rw [if_pos h0]; exact ⟨h1, wrongV_nil _⟩
        · rw [if_neg h0]
          obtain ⟨k1, k2⟩ := fin_ok hE he d g h1.heap (h2 (by simpa using h0))
          exact ⟨h1.trans k1, k2⟩
theorem prim_right (h : Int) {a b : QV} (p : Int) : wrongV h (primV p a b).1 = 0 := by
  have tm : ∀ n : Int, -1073741824 ≤ n.tmod 1073741825 ∧ n.tmod 1073741825 ≤ 1073741824 := fun n => by
    have h1 := Int.tmod_lt_of_pos n (b := 1073741825) (by omega)
    have h2 := Int.lt_tmod_of_pos n (b := 1073741825) (by omega)
    omega
  have num : ∀ n : Int, wrongV h ⟨3, n.tmod 1073741825⟩ = 0 := fun n => by
    have := tm n
    simp only [wrongV, wrongK]
    rw [if_neg (by omega), if_neg (by omega), if_pos trivial, if_neg (by omega)]
  have bol : ∀ c : Prop, ∀ _ : Decidable c, wrongV h ⟨if c then 2 else 1, 0⟩ = 0 := fun c _ => by
    by_cases hc : c <;> simp [hc, wrongV, wrongK]
  unfold primV
  split
  · exact wrongV_nil h
  · split
    · exact num _
    · split
      · exact num _
      · split
        · exact num _
        · split
          · exact bol _ _
          · split
            · exact bol _ _
            · exact wrongV_nil h
theorem enter_ok {E : Env σ} (hE : EOk E) (d : Nat) {body : Mc σ → Fr → Mc σ × QV × Int} (hb : ∀ {m f}, HOk E.classes m.heap → FOk E.classes m.heap.length f → ROk E.classes m (body m f).1 ∧ wrongV (body m f).1.heap.length (body m f).2.1 = 0) : EntOk E.classes (enterE E d body) := by
  intro m c n s a hm hs ha
  unfold enterE
  cases hmt : methAt E.classes c n with
  | none => exact ⟨⟨hm, Nat.le_refl _⟩, wrongV_nil _⟩
  | some mt =>
    simp only []
    split
    · exact ⟨⟨hm, Nat.le_refl _⟩, wrongV_nil _⟩
    · split
      · split
        · exact ⟨⟨hm, Nat.le_refl _⟩, wrongV_nil _⟩
        · exact ⟨⟨hm, Nat.le_refl _⟩, prim_right _ _⟩
      · split
        · exact ⟨⟨hm, Nat.le_refl _⟩, wrongV_nil _⟩
        · obtain ⟨h1, h2⟩ := count_ok (cs := E.classes) E d hm
          have hf : FOk E.classes (countE E d m).1.heap.length (frameE E c n mt s a) := by
            rw [h2]
            have hmc := hE.meths c n mt hmt
            unfold frameE
            cases hq : E.quick c n with
            | none => exact ⟨hs, ha, rooms_ok _ _, fun v hv => by simp at hv, hmc, hmc⟩
            | some q => exact ⟨hs, ha, rooms_ok _ _, fun v hv => by simp at hv, hE.fast c n q hq, hmc⟩
          obtain ⟨k1, k2⟩ := hb h1.heap hf
          exact ⟨h1.trans k1, k2⟩
theorem ent_ok {E : Env σ} (hE : EOk E) : ∀ d : Nat, EntOk E.classes (entE E d)
  | 0 => enter_ok hE 0 fun hm hf => ⟨⟨hm, Nat.le_refl _⟩, wrongV_nil _⟩
  | d + 1 => enter_ok hE (d + 1) fun hm hf => fin_ok hE (ent_ok hE d) d _ hm hf

theorem badE_not {f : QI → Int} : ∀ {l : List QI} {k : Nat} {p : Int × Int}, badE f k l = some p → p.1 ≠ 0
  | [], k, p, h => by simp [badE] at h
  | z :: r, k, p, h => by
    unfold badE at h
    split at h
    · rename_i hz; cases h; exact hz
    · exact badE_not h
/-- Nothing tells fast code. -/
def noQuick : Int → Int → Option (List QI × Int) := fun _ _ => none
theorem right_heap {X : QW} (h : rightE X = 0) : HOk X.classes X.heap := by
  obtain ⟨hs, -, -, ho⟩ := right_is h
  refine ⟨hs.heap, fun o hm => ?_⟩
  obtain ⟨i, hi, rfl⟩ := List.mem_iff_getElem.1 hm
  have hr := ho i _ hi (List.getElem?_eq_getElem hi)
  unfold roE at hr
  split at hr
  · cases hr
  · rename_i hn
    have hn' := not_or.1 hn
    refine ⟨by simpa using hn'.1, by simpa using hn'.2, fun v hv => ?_⟩
    obtain ⟨k, hk, rfl⟩ := List.mem_iff_getElem.1 hv
    exact firstE_all hr k _ (List.getElem?_eq_getElem hk)
theorem right_again {X : QW} (h : rightE X = 0) {H : List QO} (hh : HOk X.classes H) : rightE ⟨X.classes, H, X.epoch⟩ = 0 := by
  obtain ⟨hs, hc, hm, -⟩ := right_is h
  refine right_ok ⟨hs.few, hs.many, hh.len, hs.ep0, hs.ep1⟩ hc hm fun i o hi ho => ?_
  obtain ⟨h1, h2, h3⟩ := hh.obj o (List.mem_of_getElem? ho)
  unfold roE
  rw [if_neg (by simp [h1, h2])]
  exact firstE_zero fun k v hv => h3 v (List.mem_of_getElem? hv)
theorem right_slotsOk {X : QW} (h : rightE X = 0) : SlotsOk X.classes := fun i x hx => by
  obtain ⟨hs, hc, -, -⟩ := right_is h
  have hr := hc i x (lt_of_get hx) hx
  unfold rcE at hr
  split at hr
  · cases hr
  · split at hr
    · split at hr
      · cases hr
      · split at hr
        · cases hr
        · split at hr
          · cases hr
          · split at hr
            · cases hr
            · omega
    · split at hr
      · cases hr
      · split at hr
        · cases hr
        · split at hr
          · cases hr
          · omega
theorem right_slots {X : QW} (h : rightE X = 0) (c : Int) : slotsW X.classes c = slotsE X.classes c ∧ 0 ≤ slotsE X.classes c := by
  have ho := right_slotsOk h
  obtain ⟨hs, -, -, -⟩ := right_is h
  have hm := hs.many
  exact ⟨slotsW_E ho (by omega) c, (slotsE_le ho (X.classes.length + 1) c 0 (Int.le_refl _)).1⟩
theorem right_code {X : QW} (h : rightE X = 0) {c n : Int} {m : QM} (hm : methAt X.classes c n = some m) : CodeOk X.classes m.code := by
  obtain ⟨hs, -, hk, -⟩ := right_is h
  unfold methAt at hm
  cases hx : clsAt X.classes c with
  | none => rw [hx] at hm; cases hm
  | some x =>
    rw [hx] at hm
    simp only [Option.bind_some] at hm
    obtain ⟨k, rfl, hx'⟩ := clsAt_some hx
    split at hm
    · have hr := hk k x (lt_of_get hx') hx'
      unfold rkE at hr
      split at hr
      · cases hr
      · split at hr
        · cases hr
        · have hq := firstE_all hr _ _ hm
          unfold rmE at hq
          split at hq
          · cases hq
          · split at hq
            · rename_i hp
              unfold primB at hp
              rw [List.any_eq_true] at hp
              obtain ⟨p, -, hp⟩ := hp
              simp only [Bool.and_eq_true, decide_eq_true_eq] at hp
              have : m.code = [] := List.eq_nil_of_length_eq_zero hp.2
              rw [this]
              intro y hy
              simp at hy
            · unfold checkE at hq
              split at hq
              · rename_i a; exact absurd hq a
              · split at hq
                · rename_i f e
                  exact absurd hq (badE_not e)
                · rename_i e
                  intro y hy
                  have hn := badE_all e y hy
                  unfold numE at hn
                  split at hn
                  · cases hn
                  · split at hn
                    · cases hn
                    · rename_i hra
                      unfold raE at hra
                      refine ⟨fun h5 => ?_, fun h13 => ?_⟩
                      · simp [h5, inR] at hra
                        omega
                      · simp [h13, inR] at hra
                        simp [belowB]
                        omega
    · cases hm
theorem plain_ok {X : QW} (h : rightE X = 0) (fuel : Int) (look : σ → QS → Int → ByteArray → σ × (Int × Int)) : EOk (⟨X.classes, fuel, look, noQuick⟩ : Env σ) :=
  ⟨fun c n m hm => right_code h hm, fun c n q hq => (by cases hq), fun c => right_slots h c⟩
/-- Behind whatever call a right world is right, and what comes of it is a value of that world. -/
theorem run_right {X : QW} (h : rightE X = 0) {E : Env σ} (hE : EOk E) (hc : E.classes = X.classes) (d : Nat) {m : Mc σ} (hm : m.heap = X.heap) (c n : Int) {s : QV} {a : List QV} (hs : wrongV X.heap.length s = 0) (ha : VsOk X.heap.length a) :
    rightE ⟨X.classes, (entE E d m c n s a).1.heap, X.epoch⟩ = 0 ∧ X.heap.length ≤ (entE E d m c n s a).1.heap.length ∧ wrongV (entE E d m c n s a).1.heap.length (entE E d m c n s a).2.1 = 0 := by
  obtain ⟨k1, k2⟩ := ent_ok hE d m c n s a (by rw [hm, hc]; exact right_heap h) (by rw [hm]; exact hs) (by rw [hm]; exact ha)
  refine ⟨right_again h (by rw [← hc]; exact k1.heap), by rw [← hm]; exact k1.more, k2⟩
end
end Go.Proofs.Ytdfbgpiikeheiaa
