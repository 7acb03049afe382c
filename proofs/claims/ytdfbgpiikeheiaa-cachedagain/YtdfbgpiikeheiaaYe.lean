/- Whoever looks for methods, and remembers what it will: if it finds the same, it comes to the same: as plain functions. -/
import Derived.Test.YtdfbgpiikeheiaaYd
namespace Go.Proofs.Ytdfbgpiikeheiaa
open Go.ChangeShapes Go.WideShapes Go.ChangeAt Go.RowKit
set_option linter.unusedSimpArgs false
set_option linter.unusedVariables false
set_option maxRecDepth 8000

section
variable {σ τ : Type}
/-- Two machines that are the same, but for what is remembered. -/
structure MR (Rel : σ → τ → Prop) (m : Mc σ) (m' : Mc τ) : Prop where
  heap : m'.heap = m.heap
  sends : m'.sends = m.sends
  turns : m'.turns = m.turns
  st : Rel m.st m'.st
def RR {α : Type} (Rel : σ → τ → Prop) (r : Mc σ × α × Int) (r' : Mc τ × α × Int) : Prop := MR Rel r.1 r'.1 ∧ r'.2 = r.2
/-- Two that look, at sites and names of which SOk says that they belong together. -/
structure ER (Rel : σ → τ → Prop) (SOk : QS → ByteArray → Prop) (E : Env σ) (E' : Env τ) : Prop where
  classes : E'.classes = E.classes
  fuel : E'.fuel = E.fuel
  quick : E'.quick = E.quick
  look : ∀ s t x c name, Rel s t → SOk x name → (E'.look t x c name).2 = (E.look s x c name).2 ∧ Rel (E.look s x c name).1 (E'.look t x c name).1
  plain : ∀ c n m, methAt E.classes c n = some m → ∀ (k : Nat) x, m.code[k]? = some x → x.op = 14 → SOk ⟨c, m.name, k⟩ x.name
  fast : ∀ c n m q, methAt E.classes c n = some m → E.quick c n = some q → ∀ x ∈ q.1, x.op = 14 → SOk ⟨c, m.name, x.c⟩ x.name
/-- Of a frame. -/
structure FR (SOk : QS → ByteArray → Prop) (f : Fr) : Prop where
  code : f.fast = false → f.code = f.meth.code
  plain : ∀ (k : Nat) x, f.meth.code[k]? = some x → x.op = 14 → SOk ⟨f.cls, f.meth.name, k⟩ x.name
  fast : f.fast = true → ∀ x ∈ f.code, x.op = 14 → SOk ⟨f.cls, f.meth.name, x.c⟩ x.name
theorem FR.same {SOk : QS → ByteArray → Prop} {f f' : Fr} (h : FR SOk f) (e1 : f'.fast = f.fast) (e2 : f'.code = f.code) (e3 : f'.meth = f.meth) (e4 : f'.cls = f.cls) : FR SOk f' := by
  refine ⟨?_, ?_, ?_⟩
  · rw [e1, e2, e3]; exact h.code
  · rw [e3, e4]; exact h.plain
  · rw [e1, e2, e3, e4]; exact h.fast
theorem FR.leave {SOk : QS → ByteArray → Prop} {f : Fr} (h : FR SOk f) (c : Int) : FR SOk (f.leave c) := ⟨fun _ => rfl, h.plain, fun h => by cases h⟩
def EntR (Rel : σ → τ → Prop) (ent : Ent σ) (ent' : Ent τ) : Prop := ∀ m m' c n s a, MR Rel m m' → RR Rel (ent m c n s a) (ent' m' c n s a)
theorem jump_rel {Rel : σ → τ → Prop} {m : Mc σ} {m' : Mc τ} (h : MR Rel m m') (f : Fr) (a b : Int) : RR Rel (jumpE m f a b) (jumpE m' f a b) := by
  unfold jumpE
  by_cases hb : b ≤ a
  · simp only [hb, if_true, h.turns]
    split
    · exact ⟨⟨h.heap, h.sends, rfl, h.st⟩, rfl⟩
    · exact ⟨⟨h.heap, h.sends, rfl, h.st⟩, rfl⟩
  · simp only [hb, if_false, h.turns]
    split
    · exact ⟨h, rfl⟩
    · exact ⟨h, rfl⟩
theorem count_rel {Rel : σ → τ → Prop} {SOk : QS → ByteArray → Prop} {E : Env σ} {E' : Env τ} (hE : ER Rel SOk E E') (d : Nat) {m : Mc σ} {m' : Mc τ} (h : MR Rel m m') : MR Rel (countE E d m).1 (countE E' d m').1 ∧ (countE E' d m').2 = (countE E d m).2 := by
  unfold countE
  rw [hE.fuel, h.sends]
  split
  · exact ⟨h, rfl⟩
  · split
    · exact ⟨h, rfl⟩
    · exact ⟨⟨h.heap, rfl, h.turns, h.st⟩, rfl⟩
theorem step_rel {Rel : σ → τ → Prop} {SOk : QS → ByteArray → Prop} {E : Env σ} {E' : Env τ} (hE : ER Rel SOk E E') {ent : Ent σ} {ent' : Ent τ} (he : EntR Rel ent ent') (d : Nat) {m : Mc σ} {m' : Mc τ} (h : MR Rel m m') {f : Fr} {at' : Int} {x : QI} (hs : x.op = 14 → SOk (f.site at' x) x.name) : RR Rel (mstepE ent E d m f at' x) (mstepE ent' E' d m' f at' x) := by
  unfold mstepE
  rw [h.heap]
  split
  · exact ⟨h, rfl⟩
  · split
    · exact ⟨h, rfl⟩
    · split
      · exact ⟨h, rfl⟩
      · split
        · exact ⟨h, rfl⟩
        · split
          · exact ⟨⟨rfl, h.sends, h.turns, h.st⟩, rfl⟩
          · split
            · unfold makeE
              rw [h.heap, hE.classes]
              split
              · exact ⟨h, rfl⟩
              · exact ⟨⟨rfl, h.sends, h.turns, h.st⟩, rfl⟩
            · split
              · rename_i h14
                unfold sendE
                simp only []
                rw [h.heap]
                obtain ⟨l1, l2⟩ := hE.look m.st m'.st (f.site at' x) (classV m.heap (belowE (f.stack.take (fromE f.stack x.a)) 0)) x.name h.st (hs h14)
                generalize E.look m.st (f.site at' x) (classV m.heap (belowE (f.stack.take (fromE f.stack x.a)) 0)) x.name = l at l1 l2 ⊢
                generalize E'.look m'.st (f.site at' x) (classV m.heap (belowE (f.stack.take (fromE f.stack x.a)) 0)) x.name = l' at l1 l2 ⊢
                obtain ⟨q1, q2⟩ := l
                obtain ⟨q1', q2'⟩ := l'
                simp only [] at l1 l2
                subst l1
                have hr := he { m with st := q1 } { m' with st := q1' } q2'.1 q2'.2 (belowE (f.stack.take (fromE f.stack x.a)) 0) (f.stack.drop (fromE f.stack x.a)) ⟨h.heap, h.sends, h.turns, l2⟩
                simp only [h.heap] at hr
                generalize ent { m with st := q1 } q2'.1 q2'.2 (belowE (f.stack.take (fromE f.stack x.a)) 0) (f.stack.drop (fromE f.stack x.a)) = r at hr ⊢
                generalize ent' { heap := m.heap, sends := m'.sends, turns := m'.turns, st := q1' } q2'.1 q2'.2 (belowE (f.stack.take (fromE f.stack x.a)) 0) (f.stack.drop (fromE f.stack x.a)) = r' at hr ⊢
                obtain ⟨r1, r2⟩ := hr
                rw [r2]
                split
                · exact ⟨r1, rfl⟩
                · exact ⟨r1, rfl⟩
              · split
                · exact jump_rel h f at' x.a
                · split
                  · unfold elseE
                    split
                    · exact ⟨h, rfl⟩
                    · split
                      · exact jump_rel h f.pop at' x.a
                      · exact ⟨h, rfl⟩
                  · unfold fastE
                    rw [h.heap]
                    split
                    · exact ⟨h, rfl⟩
                    · split
                      · exact ⟨h, rfl⟩
                      · split
                        · exact ⟨h, rfl⟩
                        · split
                          · exact ⟨⟨rfl, h.sends, h.turns, h.st⟩, rfl⟩
                          · split
                            · obtain ⟨c1, c2⟩ := count_rel hE d h
                              refine ⟨c1, ?_⟩
                              simp only []
                              rw [c2]
                            · exact ⟨h, rfl⟩
theorem jump_fr {SOk : QS → ByteArray → Prop} (m : Mc σ) {f : Fr} (h : FR SOk f) (a b : Int) : FR SOk (jumpE m f a b).2.1 := by
  unfold jumpE
  simp only []
  generalize (if b ≤ a then { m with turns := m.turns + 1 } else m : Mc σ) = m'
  split
  · exact h
  · exact h.same rfl rfl rfl rfl
theorem step_fr {SOk : QS → ByteArray → Prop} (ent : Ent σ) (E : Env σ) (d : Nat) (m : Mc σ) {f : Fr} (h : FR SOk f) (a : Int) (x : QI) : FR SOk (mstepE ent E d m f a x).2.1 := by
  unfold mstepE
  split
  · exact h.same rfl rfl rfl rfl
  · split
    · exact h.same rfl rfl rfl rfl
    · split
      · exact h.same rfl rfl rfl rfl
      · split
        · exact h.same rfl rfl rfl rfl
        · split
          · exact h.same rfl rfl rfl rfl
          · split
            · unfold makeE
              split
              · exact h
              · exact h.same rfl rfl rfl rfl
            · split
              · unfold sendE
                simp only []
                split
                · exact h
                · exact h.same rfl rfl rfl rfl
              · split
                · exact jump_fr m h a x.a
                · split
                  · unfold elseE
                    split
                    · exact h.same rfl rfl rfl rfl
                    · split
                      · exact jump_fr m (f := f.pop) (h.same rfl rfl rfl rfl) a x.a
                      · exact h
                  · unfold fastE
                    split
                    · exact h
                    · split
                      · simp only []
                        split
                        · exact h
                        · exact h.leave x.c
                      · split
                        · exact h.same rfl rfl rfl rfl
                        · split
                          · exact h.same rfl rfl rfl rfl
                          · split
                            · exact h
                            · exact h
theorem FR.site {SOk : QS → ByteArray → Prop} {f : Fr} (h : FR SOk f) {x : QI} (h0 : ¬ f.pc < 0) (hx : f.code[f.pc.toNat]? = some x) (h14 : x.op = 14) (t : Int) : SOk (Fr.site { f with pc := t } f.pc x) x.name := by
  unfold Fr.site
  cases hf : f.fast with
  | false =>
    simp only [Bool.false_eq_true, if_false]
    rw [h.code hf] at hx
    have := h.plain _ x hx h14
    rwa [show ((f.pc.toNat : Nat) : Int) = f.pc by omega] at this
  | true =>
    simp only [if_true]
    exact h.fast hf x (List.mem_of_getElem? hx) h14
theorem fin_rel {Rel : σ → τ → Prop} {SOk : QS → ByteArray → Prop} {E : Env σ} {E' : Env τ} (hE : ER Rel SOk E E') {ent : Ent σ} {ent' : Ent τ} (he : EntR Rel ent ent') (d : Nat) : ∀ (g : Nat) {m : Mc σ} {m' : Mc τ} {f : Fr}, MR Rel m m' → FR SOk f → RR Rel (finE ent E d g m f) (finE ent' E' d g m' f)
  | 0, m, m', f, h, hf => ⟨h, rfl⟩
  | g + 1, m, m', f, h, hf => by
    unfold finE
    cases hq : (if f.pc < 0 then none else f.code[f.pc.toNat]?) with
    | none => exact ⟨h, rfl⟩
    | some x =>
      simp only []
      split
      · exact ⟨h, rfl⟩
      · have hs : x.op = 14 → SOk (Fr.site { f with pc := f.pc + 1 } f.pc x) x.name := fun h14 => by
          split at hq
          · cases hq
          · rename_i h0; exact hf.site h0 hq h14 _
        have hr := step_rel hE he d h (f := { f with pc := f.pc + 1 }) (at' := f.pc) hs
        have hfr := step_fr ent E d m (f := { f with pc := f.pc + 1 }) (hf.same rfl rfl rfl rfl) f.pc x
        generalize mstepE ent E d m { f with pc := f.pc + 1 } f.pc x = r at hr hfr ⊢
        generalize mstepE ent' E' d m' { f with pc := f.pc + 1 } f.pc x = r' at hr ⊢
        obtain ⟨r1, r2⟩ := hr
        rw [r2]
        split
        · exact ⟨r1, rfl⟩
        · exact fin_rel hE he d g r1 hfr
theorem enter_rel {Rel : σ → τ → Prop} {SOk : QS → ByteArray → Prop} {E : Env σ} {E' : Env τ} (hE : ER Rel SOk E E') (d : Nat) {body : Mc σ → Fr → Mc σ × QV × Int} {body' : Mc τ → Fr → Mc τ × QV × Int} (hb : ∀ {m m' f}, MR Rel m m' → FR SOk f → RR Rel (body m f) (body' m' f)) : EntR Rel (enterE E d body) (enterE E' d body') := by
  intro m m' c n s a h
  unfold enterE
  rw [hE.classes, hE.fuel, h.sends]
  cases hm : methAt E.classes c n with
  | none => exact ⟨h, rfl⟩
  | some mt =>
    simp only []
    have hfr : frameE E' c n mt s a = frameE E c n mt s a := by unfold frameE; rw [hE.quick]
    have hf : FR SOk (frameE E c n mt s a) := by
      unfold frameE
      cases hq : E.quick c n with
      | none => exact ⟨fun _ => rfl, hE.plain c n mt hm, fun h => by cases h⟩
      | some q => exact ⟨fun h => (by cases h), hE.plain c n mt hm, fun _ => hE.fast c n mt q hm hq⟩
    split
    · exact ⟨h, rfl⟩
    · split
      · split
        · exact ⟨h, rfl⟩
        · exact ⟨⟨h.heap, rfl, h.turns, h.st⟩, rfl⟩
      · obtain ⟨c1, c2⟩ := count_rel hE d h
        rw [c2, hfr]
        split
        · exact ⟨h, rfl⟩
        · exact hb c1 hf
theorem ent_rel {Rel : σ → τ → Prop} {SOk : QS → ByteArray → Prop} {E : Env σ} {E' : Env τ} (hE : ER Rel SOk E E') : ∀ d : Nat, EntR Rel (entE E d) (entE E' d)
  | 0 => enter_rel hE 0 fun h _ => ⟨h, rfl⟩
  | d + 1 => enter_rel hE (d + 1) fun h hf => fin_rel hE (ent_rel hE d) d _ h hf
end
end Go.Proofs.Ytdfbgpiikeheiaa
