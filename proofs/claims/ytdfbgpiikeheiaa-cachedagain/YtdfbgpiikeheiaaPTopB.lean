/- Several texts in one. -/
import Derived.Test.YtdfbgpiikeheiaaYf
import Derived.Test.YtdfbgpiikeheiaaPTopA
import Derived.Test.YtdfbgpiikeheiaaPMid
import Derived.Test.YtdfbgpiikeheiaaDc
import Derived.Deep.RegionHeld3
import Derived.Deep.RegionWith
import Derived.Test.YtdfbgpiikeheiaaEb
import Derived.Test.YtdfbgpiikeheiaaNb
import Derived.Test.YtdfbgpiikeheiaaRa
import Derived.ChangeMaps5
/- How often a run looks, and what it finds: as plain functions. -/
namespace Go.Proofs.Ytdfbgpiikeheiaa
open Go.ChangeShapes Go.WideShapes Go.ChangeAt Go.RowKit
set_option linter.unusedSimpArgs false
set_option linter.unusedVariables false

section
variable {σ α : Type}
/-- Whoever looks: A counts how often, B how often nothing was found. -/
structure Cnt (E : Env σ) (A B : σ → Nat) : Prop where
  a : ∀ st s c nm, A (E.look st s c nm).1 = A st + 1
  b : ∀ st s c nm, B (E.look st s c nm).1 = B st ∨ (B (E.look st s c nm).1 = B st + 1 ∧ methAt E.classes (E.look st s c nm).2.1 (E.look st s c nm).2.2 = none)
/-- Behind a step, or a frame; k: how many sends more there must be. -/
structure StInv (A B : σ → Nat) (k : Int) (m : Mc σ) (r : Mc σ × α × Int) : Prop where
  good : r.2.2 = 0 → (A r.1.st : Int) + m.sends + k ≤ A m.st + r.1.sends ∧ B r.1.st = B m.st
  bad : r.2.2 ≠ 0 → (A r.1.st : Int) + m.sends + k ≤ A m.st + r.1.sends + 1 ∧ (B r.1.st = B m.st ∨ (r.2.2 = 10 ∧ B r.1.st = B m.st + 1))
theorem StInv.of {A B : σ → Nat} {m : Mc σ} {r : Mc σ × α × Int} (h1 : r.1.st = m.st) (h2 : m.sends ≤ r.1.sends) : StInv A B 0 m r := ⟨fun _ => by rw [h1]; exact ⟨by omega, rfl⟩, fun _ => by rw [h1]; exact ⟨by omega, Or.inl rfl⟩⟩
theorem jump_same (m : Mc σ) (f : Fr) (a b : Int) : (jumpE m f a b).1.st = m.st ∧ (jumpE m f a b).1.sends = m.sends := by
  unfold jumpE
  by_cases h : b ≤ a
  · simp only [h, if_true]; split <;> exact ⟨rfl, rfl⟩
  · simp only [h, if_false]; split <;> exact ⟨rfl, rfl⟩
theorem count_up (E : Env σ) (d : Nat) (m : Mc σ) : (countE E d m).1.st = m.st ∧ m.sends ≤ (countE E d m).1.sends ∧ ((countE E d m).2 = 0 → (countE E d m).1.sends = m.sends + 1) := by
  unfold countE
  split
  · exact ⟨rfl, by simp, fun h => by cases h⟩
  · split
    · exact ⟨rfl, by simp, fun h => by cases h⟩
    · exact ⟨rfl, by simp; omega, fun _ => rfl⟩
def EntInv (A B : σ → Nat) (ent : Ent σ) (E : Env σ) : Prop := ∀ m c n s a, StInv A B 1 m (ent m c n s a) ∧ (methAt E.classes c n = none → ent m c n s a = (m, nilV, 10))
theorem step_inv {A B : σ → Nat} {E : Env σ} (hC : Cnt E A B) {ent : Ent σ} (he : EntInv A B ent E) (d : Nat) (m : Mc σ) (f : Fr) (a : Int) (x : QI) : StInv A B 0 m (mstepE ent E d m f a x) := by
  have self : ∀ (g : Fr) (e : Int), StInv A B 0 m (m, g, e) := fun g e => .of rfl (Int.le_refl _)
  unfold mstepE
  split
  · exact self _ _
  · split
    · exact self _ _
    · split
      · exact self _ _
      · split
        · exact self _ _
        · split
          · exact .of rfl (Int.le_refl _)
          · split
            · unfold makeE; split
              · exact self _ _
              · exact .of rfl (Int.le_refl _)
            · split
              · unfold sendE
                simp only
                generalize fromE f.stack x.a = k
                have ha := hC.a m.st (f.site a x) (classV m.heap (belowE (f.stack.take k) 0)) x.name
                have hb := hC.b m.st (f.site a x) (classV m.heap (belowE (f.stack.take k) 0)) x.name
                generalize E.look m.st (f.site a x) (classV m.heap (belowE (f.stack.take k) 0)) x.name = l at ha hb ⊢
                obtain ⟨h1, h2⟩ := he { m with st := l.1 } l.2.1 l.2.2 (belowE (f.stack.take k) 0) (f.stack.drop k)
                generalize ent { m with st := l.1 } l.2.1 l.2.2 (belowE (f.stack.take k) 0) (f.stack.drop k) = r at h1 h2 ⊢
                rcases hb with hb | ⟨hb, hn⟩
                · by_cases h0 : r.2.2 = 0
                  · rw [if_neg (by simpa using h0)]
                    have := h1.good h0
                    simp only at this
                    exact ⟨fun _ => ⟨by simp only; omega, by rw [this.2]; exact hb⟩, fun h => absurd rfl h⟩
                  · rw [if_pos h0]
                    have := h1.bad h0
                    simp only at this
                    refine ⟨fun h => absurd h h0, fun _ => ⟨by simp only; omega, ?_⟩⟩
                    rcases this.2 with h | ⟨h, h'⟩
                    · exact Or.inl (h.trans hb)
                    · exact Or.inr ⟨h, by rw [h', hb]⟩
                · have e := h2 hn
                  subst e
                  rw [if_pos (by simp)]
                  exact ⟨(fun h => by cases h), fun _ => ⟨by simp only; omega, Or.inr ⟨rfl, hb⟩⟩⟩
              · split
                · have := jump_same m f a x.a
                  exact .of this.1 (by rw [this.2]; exact Int.le_refl _)
                · split
                  · unfold elseE
                    split
                    · exact self _ _
                    · split
                      · have := jump_same m f.pop a x.a
                        exact .of this.1 (by rw [this.2]; exact Int.le_refl _)
                      · exact self _ _
                  · unfold fastE
                    split
                    · exact self _ _
                    · split
                      · exact self _ _
                      · split
                        · exact self _ _
                        · split
                          · exact .of rfl (Int.le_refl _)
                          · split
                            · have := count_up E d m
                              exact .of this.1 this.2.1
                            · exact self _ _
theorem fin_inv {A B : σ → Nat} {E : Env σ} (hC : Cnt E A B) {ent : Ent σ} (he : EntInv A B ent E) (d : Nat) : ∀ (g : Nat) (m : Mc σ) (f : Fr), StInv A B 0 m (finE ent E d g m f)
  | 0, m, f => .of rfl (Int.le_refl _)
  | g + 1, m, f => by
    unfold finE
    generalize (if f.pc < 0 then none else f.code[f.pc.toNat]?) = q
    cases q with
    | none => exact .of rfl (Int.le_refl _)
    | some x =>
      simp only []
      by_cases h17 : x.op = 17
      · rw [if_pos h17]; exact .of rfl (Int.le_refl _)
      · rw [if_neg h17]
        have hs := step_inv hC he d m { f with pc := f.pc + 1 } f.pc x
        generalize mstepE ent E d m { f with pc := f.pc + 1 } f.pc x = r at hs ⊢
        by_cases h0 : r.2.2 = 0
        · rw [if_neg (by simpa using h0)]
          have ih := fin_inv hC he d g r.1 r.2.1
          obtain ⟨i1, i2⟩ := hs.good h0
          refine ⟨fun h => ?_, fun h => ?_⟩
          · obtain ⟨j1, j2⟩ := ih.good h
            exact ⟨by omega, j2.trans i2⟩
          · obtain ⟨j1, j2⟩ := ih.bad h
            refine ⟨by omega, ?_⟩
            rcases j2 with j | ⟨j, j'⟩
            · exact Or.inl (j.trans i2)
            · exact Or.inr ⟨j, by rw [j', i2]⟩
        · rw [if_pos h0]
          exact ⟨fun h => absurd h h0, fun _ => hs.bad h0⟩
theorem enter_inv {A B : σ → Nat} {E : Env σ} (d : Nat) {body : Mc σ → Fr → Mc σ × QV × Int} (hb : ∀ m f, StInv A B 0 m (body m f)) : EntInv A B (enterE E d body) E := fun m c n s a => by
  have self : ∀ (v : QV) (e : Int), e ≠ 0 → StInv A B 1 m (m, v, e) := fun v e he => ⟨fun h => absurd h he, fun _ => ⟨by simp only; omega, Or.inl rfl⟩⟩
  unfold enterE
  cases methAt E.classes c n with
  | none => exact ⟨self _ _ (by omega), fun _ => rfl⟩
  | some mt =>
    refine ⟨?_, fun h => by cases h⟩
    simp only
    split
    · exact self _ _ (by omega)
    · split
      · split
        · exact self _ _ (by omega)
        · exact ⟨fun _ => ⟨by simp only; omega, rfl⟩, fun _ => ⟨by simp only; omega, Or.inl rfl⟩⟩
      · obtain ⟨c1, c2, c3⟩ := count_up E d m
        split
        · rename_i h; exact self _ _ h
        · rename_i h
          have h0 : (countE E d m).2 = 0 := by simpa using h
          have c4 := c3 h0
          have ih := hb (countE E d m).1 (frameE E c n mt s a)
          generalize body (countE E d m).1 (frameE E c n mt s a) = r at ih ⊢
          refine ⟨fun h => ?_, fun h => ?_⟩
          · obtain ⟨j1, j2⟩ := ih.good h
            rw [c1] at j1 j2
            exact ⟨by omega, j2⟩
          · obtain ⟨j1, j2⟩ := ih.bad h
            rw [c1] at j1 j2
            exact ⟨by omega, j2⟩
theorem ent_inv {A B : σ → Nat} {E : Env σ} (hC : Cnt E A B) : ∀ d, EntInv A B (entE E d) E
  | 0 => enter_inv 0 fun m f => .of rfl (Int.le_refl _)
  | d + 1 => enter_inv (d + 1) fun m f => fin_inv hC (ent_inv hC d) d _ m f
end
end Go.Proofs.Ytdfbgpiikeheiaa

/- One name a method, one name a site: plain facts. -/
namespace Go.Proofs.Ytdfbgpiikeheiaa
open Go.ChangeShapes Go.WideShapes Go.ChangeAt Go.RowKit
set_option linter.unusedSimpArgs false
set_option linter.unusedVariables false

theorem names_rise {X : QW} {j : Nat} {ms : List QM} (h : ∀ i y, ms[i]? = some y → rmE X j ms i y = 0) : ∀ (e i : Nat) (a b : QM), ms[i]? = some a → ms[i + e + 1]? = some b → ltN a.name b.name = true
  | 0, i, a, b, ha, hb => by
    have h1 := h (i + 1) b hb
    unfold rmE at h1
    split at h1
    · cases h1
    · rename_i h2
      simp only [aheadB, ha] at h2
      simpa using h2
  | e + 1, i, a, b, ha, hb => by
    have hlt := lt_of_get hb
    obtain ⟨p, hp⟩ : ∃ p, ms[i + e + 1]? = some p := ⟨_, List.getElem?_eq_getElem (by omega)⟩
    have h1 := h (i + (e + 1) + 1) b hb
    unfold rmE at h1
    split at h1
    · cases h1
    · rename_i h2
      have e1 : ms[i + (e + 1)]? = some p := hp
      simp only [aheadB, e1] at h2
      exact ltN_trans (names_rise h e i a p ha hp) (by simpa using h2)
theorem right_unique {X : QW} (hX : rightE X = 0) {c k n : Int} {a b : QM} (ha : methAt X.classes c k = some a) (hb : methAt X.classes c n = some b) (hn : a.name = b.name) : a = b := by
  obtain ⟨kc, kk, x, rfl, rfl, hx, hak⟩ := meth_at ha
  obtain ⟨kc', kn, x', e1, rfl, hx', hbn⟩ := meth_at hb
  have : kc' = kc := by omega
  subst this
  rw [hx] at hx'
  cases hx'
  obtain ⟨-, -, hM, -⟩ := right_is hX
  have h1 := hM kc' x (lt_of_get hx) hx
  unfold rkE at h1
  split at h1
  · cases h1
  · split at h1
    · cases h1
    · have hall := firstE_all h1
      rcases Nat.lt_trichotomy kk kn with hlt | heq | hgt
      · have := names_rise hall (kn - kk - 1) kk a b hak (by rw [show kk + (kn - kk - 1) + 1 = kn by omega]; exact hbn)
        have h2 := eqN_of_lt this
        rw [hn, eqN_iffG.2 rfl] at h2
        cases h2
      · subst heq
        rw [hak] at hbn
        cases hbn
        rfl
      · have := names_rise hall (kk - kn - 1) kn b a hbn (by rw [show kn + (kk - kn - 1) + 1 = kk by omega]; exact hak)
        have h2 := eqN_of_lt this
        rw [hn, eqN_iffG.2 rfl] at h2
        cases h2
/-- What is sent at a site. -/
def SentAt (cs : List QC) (s : QS) (nm : ByteArray) : Prop := ∃ n mt, ∃ k : Nat, ∃ x, methAt cs s.cls n = some mt ∧ mt.name = s.name ∧ s.at' = (k : Int) ∧ mt.code[k]? = some x ∧ x.op = 14 ∧ x.name = nm
theorem sent_one {X : QW} (hX : rightE X = 0) {s : QS} {a b : ByteArray} (ha : SentAt X.classes s a) (hb : SentAt X.classes s b) : a = b := by
  obtain ⟨n, mt, k, x, h1, h2, h3, h4, -, rfl⟩ := ha
  obtain ⟨n', mt', k', x', h1', h2', h3', h4', -, rfl⟩ := hb
  obtain rfl : mt = mt' := right_unique hX h1 h1' (by rw [h2, h2'])
  obtain rfl : k = k' := by omega
  rw [h4] at h4'
  cases h4'
  rfl
end Go.Proofs.Ytdfbgpiikeheiaa

/- What cells remember: plain facts. -/
namespace Go.Proofs.Ytdfbgpiikeheiaa
open Go.ChangeShapes Go.WideShapes Go.ChangeAt Go.RowKit
set_option linter.unusedSimpArgs false
set_option linter.unusedVariables false

theorem withLine_len (x : QE) (y : QL) (h : x.lines.length ≤ 3) : (withLineE x y).lines.length ≤ 3 := by
  unfold withLineE
  split
  · exact h
  · split
    · simp
    · simp; omega
theorem findL_form {xs : List QC} {name : ByteArray} : ∀ {l : List Int}, findL xs name l = (-1, -1) ∨ ∃ k ∈ l, 0 ≤ numI (methsOf xs k) name ∧ findL xs name l = (k, numI (methsOf xs k) name)
  | [] => Or.inl rfl
  | k :: r => by
    unfold findL
    split
    · rename_i hk
      exact Or.inr ⟨k, by simp, hk, rfl⟩
    · rcases findL_form (xs := xs) (name := name) (l := r) with h | ⟨q, hq, h1, h2⟩
      · exact Or.inl h
      · exact Or.inr ⟨q, by simp [hq], h1, h2⟩
theorem findE_again (xs : List QC) (c : Int) (name : ByteArray) (h : 0 ≤ (findE xs c name).1) : findE xs (findE xs c name).1 name = findE xs c name := by
  rw [findE_L c]
  rw [findE_L c] at h
  rcases findL_form (xs := xs) (name := name) (l := upsE xs (xs.length + 1) c) with he | ⟨k, hk, h1, he⟩
  · rw [he] at h; simp at h
  · rw [he]
    simp only
    rw [findE_L]
    obtain ⟨i, hi, hik⟩ := List.mem_iff_getElem.1 hk
    obtain ⟨q, x, e, hx⟩ := upsE_mem _ _ i _ (by rw [List.getElem?_eq_getElem hi])
    rw [hik] at e
    have hc : clsAt xs k = some x := by rw [e, clsAt_nat]; exact hx
    unfold upsE
    rw [hc]
    simp only [findL]
    rw [if_pos h1]
theorem withLine_lines (x : QE) (y z : QL) (h : z ∈ (withLineE x y).lines) : z ∈ x.lines ∨ z = y := by
  unfold withLineE at h
  split at h
  · exact Or.inl h
  · split at h
    · simp at h
    · rw [List.mem_append] at h
      rcases h with h | h
      · exact Or.inl h
      · simp at h; exact Or.inr h
theorem putE_len : ∀ (l : List QE) (s : QS) (ep : Int) (y : QL), (putE l s ep y).length ≤ l.length + 1
  | [], s, ep, y => by simp [putE]
  | x :: r, s, ep, y => by
    unfold putE
    split
    · simp
    · simpa using putE_len r s ep y
end Go.Proofs.Ytdfbgpiikeheiaa

/- Caches: what is remembered is so, at sites that send one name each; what was asked, in a row. As plain functions. -/
namespace Go.Proofs.Ytdfbgpiikeheiaa
open Go.ChangeShapes Go.WideShapes Go.ChangeAt Go.RowKit
set_option linter.unusedSimpArgs false
set_option linter.unusedVariables false

/-- What is remembered of this epoch is so, for each name that its site sends. -/
def TrueS (X : QW) (l : List QE) : Prop := ∀ x ∈ l, x.epoch = X.epoch → ∀ y ∈ x.lines, ∀ nm, SentAt X.classes x.site nm → findE X.classes y.found nm = findE X.classes y.cls nm
theorem withLine_same (x : QE) (y : QL) : (withLineE x y).site = x.site ∧ (withLineE x y).epoch = x.epoch := by
  unfold withLineE
  split
  · exact ⟨rfl, rfl⟩
  · split <;> exact ⟨rfl, rfl⟩
theorem fresh_mem {x : QE} {s : QS} {ep : Int} (hs : x.site = s) : (freshE x s ep).site = s ∧ (freshE x s ep).epoch = ep ∧ ∀ u ∈ (freshE x s ep).lines, x.epoch = ep ∧ u ∈ x.lines := by
  unfold freshE
  split
  · rename_i h; exact ⟨hs, h, fun u hu => ⟨h, hu⟩⟩
  · exact ⟨rfl, rfl, fun u hu => by simp at hu⟩
theorem put_mem (s : QS) (ep : Int) (y : QL) : ∀ (l : List QE) (z : QE), z ∈ putE l s ep y → z ∈ l ∨ (z.site = s ∧ z.epoch = ep ∧ ∀ u ∈ z.lines, u = y ∨ ∃ x ∈ l, x.site = s ∧ x.epoch = ep ∧ u ∈ x.lines)
  | [], z, h => by
    simp [putE] at h
    subst h
    refine Or.inr ⟨(withLine_same _ _).1, (withLine_same _ _).2, fun u hu => ?_⟩
    rcases withLine_lines _ _ _ hu with h | h
    · simp at h
    · exact Or.inl h
  | x :: r, z, h => by
    unfold putE at h
    split at h
    · rename_i hs
      rw [List.mem_cons] at h
      rcases h with rfl | h
      · have hf := fresh_mem (ep := ep) ((eqS_iff _ _).1 hs)
        refine Or.inr ⟨(withLine_same _ _).1.trans hf.1, (withLine_same _ _).2.trans hf.2.1, fun u hu => ?_⟩
        rcases withLine_lines _ _ _ hu with h | h
        · exact Or.inr ⟨x, by simp, (eqS_iff _ _).1 hs, hf.2.2 u h⟩
        · exact Or.inl h
      · exact Or.inl (by simp [h])
    · rw [List.mem_cons] at h
      rcases h with rfl | h
      · exact Or.inl (by simp)
      · rcases put_mem s ep y r z h with h | ⟨h1, h2, h3⟩
        · exact Or.inl (by simp [h])
        · refine Or.inr ⟨h1, h2, fun u hu => ?_⟩
          rcases h3 u hu with h | ⟨x', hx', h⟩
          · exact Or.inl h
          · exact Or.inr ⟨x', by simp [hx'], h⟩
theorem get_cell {l : List QE} {s : QS} {ep c : Int} (h : 0 ≤ getE l s ep c) : ∃ x ∈ l, x.site = s ∧ x.epoch = ep ∧ ∃ y ∈ x.lines, y.cls = c ∧ y.found = getE l s ep c := by
  unfold getE at h ⊢
  cases hf : l.find? fun x => eqS x.site s with
  | none => rw [hf] at h; simp at h
  | some x =>
    rw [hf] at h
    simp only [Option.map_some, Option.getD_some] at h ⊢
    have hx := List.mem_of_find?_eq_some hf
    have hs : x.site = s := by have h' := List.find?_some hf; exact (eqS_iff _ _).1 h'
    by_cases he : x.epoch = ep
    · rw [if_pos he] at h ⊢
      unfold lineE at h ⊢
      cases hy : x.lines.find? fun y => y.cls == c with
      | none => rw [hy] at h; simp at h
      | some y =>
        refine ⟨x, hx, hs, he, y, List.mem_of_find?_eq_some hy, ?_, by simp⟩
        have := List.find?_some hy
        simpa using this
    · rw [if_neg he] at h; simp at h
theorem TrueS.find {X : QW} (hX : rightE X = 0) {l : List QE} (h : TrueS X l) {s : QS} {name : ByteArray} (hn : SentAt X.classes s name) (c : Int) : (cfindE l X s c name).2.1 = findE X.classes c name ∧ TrueS X (cfindE l X s c name).1 := by
  unfold cfindE
  split
  · rename_i hh
    have h0 : 0 ≤ getE l s X.epoch c := by simp [hasB] at hh; omega
    obtain ⟨x, hx, hs, he, y, hy, h1, h2⟩ := get_cell h0
    refine ⟨?_, h⟩
    show findE X.classes (getE l s X.epoch c) name = _
    rw [← h2, ← h1]
    exact h x hx he y hy name (by rw [hs]; exact hn)
  · split
    · exact ⟨rfl, h⟩
    · rename_i hk
      refine ⟨rfl, fun z hz he u hu nm hnm => ?_⟩
      rcases put_mem _ _ _ _ z hz with h' | ⟨h1, h2, h3⟩
      · exact h z h' he u hu nm hnm
      · rw [h1] at hnm
        rcases h3 u hu with rfl | ⟨x, hx, e1, e2, hu'⟩
        · rw [sent_one hX hnm hn]
          exact findE_again X.classes c name (by omega)
        · exact h x hx e2 u hu' nm (by rw [e1]; exact hnm)
/-- What a run with caches remembers, and counts. -/
structure CSt where
  cells : List QE
  ts : List QT
  hits : Int
  nots : Int
def lookC (X : QW) (st : CSt) (s : QS) (c : Int) (name : ByteArray) : CSt × (Int × Int) :=
  (⟨(cfindE st.cells X s c name).1, addE st.ts s c, if (cfindE st.cells X s c name).2.2 then st.hits + 1 else st.hits, if (cfindE st.cells X s c name).2.2 then st.nots else st.nots + 1⟩, (cfindE st.cells X s c name).2.1)
def cachedEnv (X : QW) (fuel : Int) : Env CSt := ⟨X.classes, fuel, lookC X, noQuick⟩
abbrev Ask := QS × Int × ByteArray
def logEnv (X : QW) (fuel : Int) : Env (List Ask) := ⟨X.classes, fuel, fun q s c nm => (q ++ [(s, c, nm)], findE X.classes c nm), noQuick⟩
def foldC (X : QW) (st : CSt) (q : List Ask) : CSt := q.foldl (fun st a => (lookC X st a.1 a.2.1 a.2.2).1) st
theorem sentAt_of {cs : List QC} {c n : Int} {m : QM} (h : methAt cs c n = some m) {k : Nat} {x : QI} (hk : m.code[k]? = some x) (h14 : x.op = 14) : SentAt cs ⟨c, m.name, k⟩ x.name := ⟨n, m, k, x, h, rfl, rfl, hk, h14, rfl⟩
theorem er_cached {X : QW} (hX : rightE X = 0) (fuel : Int) (st0 : CSt) : ER (fun (q : List Ask) st => st = foldC X st0 q ∧ TrueS X st.cells) (SentAt X.classes) (logEnv X fuel) (cachedEnv X fuel) where
  classes := rfl
  fuel := rfl
  quick := rfl
  look := fun q st s c name h hs => by
    obtain ⟨h1, h2⟩ := TrueS.find hX h.2 hs c
    refine ⟨h1, ?_, h2⟩
    show (lookC X st s c name).1 = foldC X st0 (q ++ [(s, c, name)])
    unfold foldC
    rw [List.foldl_append, h.1]
    rfl
  plain := fun c n m h k x hk h14 => sentAt_of h hk h14
  fast := fun c n m q h hq => by cases hq
theorem er_log (X : QW) (fuel : Int) : ER (fun (_ : Unit) (_ : List Ask) => True) (SentAt X.classes) (plainEnv X fuel) (logEnv X fuel) where
  classes := rfl
  fuel := rfl
  quick := rfl
  look := fun _ _ _ _ _ _ _ => ⟨rfl, trivial⟩
  plain := fun c n m h k x hk h14 => sentAt_of h hk h14
  fast := fun c n m q h hq => by cases hq
def nfB (X : QW) (a : Ask) : Bool := decide ((findE X.classes a.2.1 a.2.2).1 < 0)
theorem cnt_log (X : QW) (fuel : Int) : Cnt (logEnv X fuel) List.length (fun q => q.countP (nfB X)) where
  a := fun st s c nm => by simp [logEnv]
  b := fun st s c nm => by
    simp only [logEnv, List.countP_append, List.countP_cons, List.countP_nil]
    by_cases h : (findE X.classes c nm).1 < 0
    · refine Or.inr ⟨by simp [nfB, h], ?_⟩
      unfold methAt clsAt
      rw [if_neg (by omega)]
      rfl
    · exact Or.inl (by simp [nfB, h])
/-- A run with caches: what came of it, and what was asked. -/
structure CRan (X : QW) (st0 : CSt) (q : List Ask) (r : Mc CSt × QV × Int) (p : Mc Unit × QV × Int) : Prop where
  heap : r.1.heap = p.1.heap
  sends : r.1.sends = p.1.sends
  res : r.2 = p.2
  st : r.1.st = foldC X st0 q
  tru : TrueS X r.1.st.cells
  few : (q.length : Int) ≤ p.1.sends + 1
  good : r.2.2 ≠ 10 → q.countP (nfB X) = 0
  bad : q.countP (nfB X) ≤ 1
theorem cached_ran {X : QW} (hX : rightE X = 0) (fuel : Int) {st0 : CSt} (h0 : TrueS X st0.cells) (d : Nat) (c n : Int) (s : QV) (a : List QV) : ∃ q, (∀ st1, TrueS X st1.cells → CRan X st1 q (entE (cachedEnv X fuel) d ⟨X.heap, 0, 0, st1⟩ c n s a) (entE (plainEnv X fuel) d ⟨X.heap, 0, 0, ()⟩ c n s a)) := by
  refine ⟨(entE (logEnv X fuel) d ⟨X.heap, 0, 0, []⟩ c n s a).1.st, fun st1 h1 => ?_⟩
  obtain ⟨⟨a1, a2, a3, -⟩, a4⟩ := ent_rel (er_log X fuel) d ⟨X.heap, 0, 0, ()⟩ ⟨X.heap, 0, 0, []⟩ c n s a ⟨rfl, rfl, rfl, trivial⟩
  obtain ⟨⟨b1, b2, b3, b4⟩, b5⟩ := ent_rel (er_cached hX fuel st1) d ⟨X.heap, 0, 0, []⟩ ⟨X.heap, 0, 0, st1⟩ c n s a ⟨rfl, rfl, rfl, rfl, h1⟩
  have hi := (ent_inv (cnt_log X fuel) d ⟨X.heap, 0, 0, []⟩ c n s a).1
  generalize entE (logEnv X fuel) d ⟨X.heap, 0, 0, []⟩ c n s a = l at *
  refine ⟨b1.trans a1, b2.trans a2, b5.trans a4, b4.1, b4.2, ?_, ?_, ?_⟩
  · rw [← a2]
    by_cases h : l.2.2 = 0
    · have := (hi.good h).1; simp at this; omega
    · have := (hi.bad h).1; simp at this; omega
  · rw [b5]
    intro h10
    by_cases h : l.2.2 = 0
    · simpa using (hi.good h).2
    · rcases (hi.bad h).2 with h' | ⟨h', -⟩
      · simpa using h'
      · exact absurd h' h10
  · by_cases h : l.2.2 = 0
    · have := (hi.good h).2; simp only [List.countP_nil] at this; omega
    · rcases (hi.bad h).2 with h' | ⟨-, h'⟩
      · simp only [List.countP_nil] at h'; omega
      · simp only [List.countP_nil] at h'; omega
end Go.Proofs.Ytdfbgpiikeheiaa

/- What was looked for once is not looked for again: as plain functions. -/
namespace Go.Proofs.Ytdfbgpiikeheiaa
open Go.ChangeShapes Go.WideShapes Go.ChangeAt Go.RowKit
set_option linter.unusedSimpArgs false
set_option linter.unusedVariables false

/-- The cell of a site. -/
def cellA (l : List QE) (s : QS) : Option QE := l.find? fun x => eqS x.site s
theorem eqS_self (s : QS) : eqS s s = true := (eqS_iff s s).2 rfl
theorem cellA_put (s : QS) (ep : Int) (y : QL) : ∀ l : List QE, cellA (putE l s ep y) s = some (withLineE (match cellA l s with | none => ⟨s, ep, false, []⟩ | some x => freshE x s ep) y)
  | [] => by simp [putE, cellA, (withLine_same _ _).1, eqS_self]
  | x :: r => by
    unfold putE cellA
    by_cases h : eqS x.site s = true
    · have hf := fresh_mem (ep := ep) ((eqS_iff _ _).1 h)
      rw [if_pos h, List.find?_cons_of_pos (by rw [(withLine_same _ _).1, hf.1]; exact eqS_self s), List.find?_cons_of_pos (p := fun x : QE => eqS x.site s) h]
    · rw [if_neg h, List.find?_cons_of_neg (by simpa using h), List.find?_cons_of_neg (by simpa using h)]
      exact cellA_put s ep y r
theorem cellA_other (s s' : QS) (ep : Int) (y : QL) (hs : s' ≠ s) : ∀ l : List QE, cellA (putE l s ep y) s' = cellA l s'
  | [] => by
    have : eqS (withLineE ⟨s, ep, false, []⟩ y).site s' = false := by rw [(withLine_same _ _).1]; exact Bool.eq_false_iff.2 fun h => hs ((eqS_iff _ _).1 h).symm
    simp [putE, cellA, this]
  | x :: r => by
    unfold putE cellA
    by_cases h : eqS x.site s = true
    · have hxs := (eqS_iff _ _).1 h
      have hf := fresh_mem (ep := ep) hxs
      have h1 : eqS (withLineE (freshE x s ep) y).site s' = false := by rw [(withLine_same _ _).1, hf.1]; exact Bool.eq_false_iff.2 fun h => hs ((eqS_iff _ _).1 h).symm
      have h2 : eqS x.site s' = false := by rw [hxs]; exact Bool.eq_false_iff.2 fun h => hs ((eqS_iff _ _).1 h).symm
      rw [if_pos h, List.find?_cons_of_neg (by simpa using h1), List.find?_cons_of_neg (by simpa using h2)]
    · rw [if_neg h]
      by_cases h' : eqS x.site s' = true
      · rw [List.find?_cons_of_pos (p := fun x : QE => eqS x.site s') h', List.find?_cons_of_pos (p := fun x : QE => eqS x.site s') h']
      · rw [List.find?_cons_of_neg (by simpa using h'), List.find?_cons_of_neg (by simpa using h')]
        exact cellA_other s s' ep y hs r
/-- It is remembered, or too many were asked. -/
def KM (X : QW) (l : List QE) (s : QS) (c : Int) : Prop := ∃ x, cellA l s = some x ∧ x.epoch = X.epoch ∧ (x.many = true ∨ hasB X.classes.length (lineE x.lines c) = true)
/-- All that is remembered is a class. -/
def Rng (X : QW) (l : List QE) : Prop := ∀ x ∈ l, ∀ y ∈ x.lines, hasB X.classes.length y.found = true
theorem line_mem {ls : List QL} {c : Int} {y : QL} (h : (ls.find? fun y => y.cls == c) = some y) : lineE ls c = y.found := by unfold lineE; rw [h]; rfl
theorem line_has {X : QW} {ls : List QL} {c : Int} (h : hasB X.classes.length (lineE ls c) = true) : ∃ y, (ls.find? fun y => y.cls == c) = some y := by
  cases hf : ls.find? fun y => y.cls == c with
  | some y => exact ⟨y, rfl⟩
  | none => unfold lineE at h; rw [hf] at h; simp [hasB] at h
theorem findI_has {ls : List QL} {c : Int} (h : 0 ≤ findI (fun z : QL => z.cls == c) ls) : ∃ y, (ls.find? fun y => y.cls == c) = some y := by
  cases hf : ls.find? fun y => y.cls == c with
  | some y => exact ⟨y, rfl⟩
  | none =>
    rw [List.find?_eq_none] at hf
    rw [findI_none fun i y hy => by simpa using hf y (List.mem_of_getElem? hy)] at h
    omega
theorem KM.with {X : QW} {x : QE} {c : Int} (y : QL) (h : x.many = true ∨ hasB X.classes.length (lineE x.lines c) = true) : (withLineE x y).many = true ∨ hasB X.classes.length (lineE (withLineE x y).lines c) = true := by
  unfold withLineE
  split
  · exact h
  · split
    · exact Or.inl rfl
    · rcases h with h | h
      · exact Or.inl h
      · obtain ⟨z, hz⟩ := line_has h
        refine Or.inr ?_
        have : ((x.lines ++ [y]).find? fun y => y.cls == c) = some z := by rw [List.find?_append, hz]; rfl
        rw [line_mem this, ← line_mem hz]
        exact h
theorem KM.put {X : QW} {l : List QE} {s : QS} {c : Int} (h : KM X l s c) (s' : QS) (y : QL) : KM X (putE l s' X.epoch y) s c := by
  obtain ⟨x, h1, h2, h3⟩ := h
  by_cases hs : s = s'
  · subst hs
    refine ⟨_, cellA_put _ _ _ _, ?_, ?_⟩
    · rw [(withLine_same _ _).2, h1]; simp only; unfold freshE; rw [if_pos h2]; exact h2
    · rw [h1]; simp only; unfold freshE; rw [if_pos h2]; exact KM.with y h3
  · exact ⟨x, by rw [cellA_other _ _ _ _ hs]; exact h1, h2, h3⟩
theorem get_cellA {X : QW} {l : List QE} {s : QS} {c : Int} (h : hasB X.classes.length (getE l s X.epoch c) = true) : KM X l s c := by
  unfold getE at h
  cases hf : l.find? fun x => eqS x.site s with
  | none => rw [hf] at h; simp [hasB] at h
  | some x =>
    rw [hf] at h
    simp only [Option.map_some, Option.getD_some] at h
    by_cases he : x.epoch = X.epoch
    · rw [if_pos he] at h
      exact ⟨x, hf, he, Or.inr h⟩
    · rw [if_neg he] at h; simp [hasB] at h
theorem KM.get {X : QW} {l : List QE} {s : QS} {c : Int} (h : KM X l s c) (hm : ∀ x ∈ l, x.many = false) : hasB X.classes.length (getE l s X.epoch c) = true := by
  obtain ⟨x, h1, h2, h3⟩ := h
  have hx := List.mem_of_find?_eq_some h1
  rw [hm x hx] at h3
  unfold getE
  unfold cellA at h1
  rw [h1]
  simp only [Option.map_some, Option.getD_some]
  rw [if_pos h2]
  rcases h3 with h | h
  · cases h
  · exact h
theorem km_new {X : QW} {l : List QE} (hr : Rng X l) (s : QS) (y : QL) (hy : hasB X.classes.length y.found = true) : KM X (putE l s X.epoch y) s y.cls := by
  refine ⟨_, cellA_put _ _ _ _, ?_, ?_⟩
  · rw [(withLine_same _ _).2]
    cases hc : cellA l s with
    | none => rfl
    | some x =>
      have := (eqS_iff _ _).1 (show eqS x.site s = true from by have h' := List.find?_some hc; exact h')
      exact (fresh_mem (ep := X.epoch) this).2.1
  · have hz : ∀ z ∈ (match cellA l s with | none => (⟨s, X.epoch, false, []⟩ : QE) | some x => freshE x s X.epoch).lines, hasB X.classes.length z.found = true := by
      cases hc : cellA l s with
      | none => intro z hz; simp at hz
      | some x =>
        intro z hz
        have := (eqS_iff _ _).1 (show eqS x.site s = true from by have h' := List.find?_some hc; exact h')
        exact hr x (List.mem_of_find?_eq_some hc) z ((fresh_mem (ep := X.epoch) this).2.2 z hz).2
    generalize (match cellA l s with | none => (⟨s, X.epoch, false, []⟩ : QE) | some x => freshE x s X.epoch) = x at hz ⊢
    unfold withLineE
    split
    · rename_i h
      rcases h with h | h
      · exact Or.inl h
      · obtain ⟨z, hf⟩ := findI_has h
        refine Or.inr ?_
        rw [line_mem hf]
        exact hz z (List.mem_of_find?_eq_some hf)
    · split
      · exact Or.inl rfl
      · rename_i h h'
        refine Or.inr ?_
        have hn : (x.lines.find? fun z => z.cls == y.cls) = none := by
          rw [List.find?_eq_none]
          intro z hz'
          intro hzc
          apply h
          refine Or.inr ?_
          cases hi : x.lines.findIdx? fun z => z.cls == y.cls with
          | some j => unfold findI; rw [hi]; simp
          | none => rw [List.findIdx?_eq_none_iff] at hi; have := hi z hz'; rw [this] at hzc; cases hzc
        have : ((x.lines ++ [y]).find? fun z => z.cls == y.cls) = some y := by rw [List.find?_append, hn]; simp
        rw [line_mem this]
        exact hy
theorem Rng.put {X : QW} {l : List QE} (h : Rng X l) (s : QS) (y : QL) (hy : hasB X.classes.length y.found = true) : Rng X (putE l s X.epoch y) := fun z hz u hu => by
  rcases put_mem _ _ _ _ z hz with h' | ⟨-, -, h3⟩
  · exact h z h' u hu
  · rcases h3 u hu with rfl | ⟨x, hx, -, -, hu'⟩
    · exact hy
    · exact h x hx u hu'
theorem find_in (xs : List QC) (c : Int) (nm : ByteArray) (h : ¬ (findE xs c nm).1 < 0) : hasB xs.length (findE xs c nm).1 = true := by
  rw [findE_L c] at h ⊢
  rcases findL_form (xs := xs) (name := nm) (l := upsE xs (xs.length + 1) c) with he | ⟨k, hk, h1, he⟩
  · rw [he] at h; simp at h
  · rw [he]
    obtain ⟨i, hi, hik⟩ := List.mem_iff_getElem.1 hk
    obtain ⟨q, x, e, hx⟩ := upsE_mem _ _ i _ (by rw [List.getElem?_eq_getElem hi])
    rw [hik] at e
    have := lt_of_get hx
    simp [hasB]
    omega
theorem cfind_keep {X : QW} {l : List QE} (hr : Rng X l) (s : QS) (c : Int) (nm : ByteArray) : Rng X (cfindE l X s c nm).1 ∧ (∀ s' c', KM X l s' c' → KM X (cfindE l X s c nm).1 s' c') ∧ (nfB X (s, c, nm) = false → KM X (cfindE l X s c nm).1 s c) := by
  unfold cfindE
  split
  · rename_i h
    exact ⟨hr, fun _ _ h => h, fun _ => get_cellA h⟩
  · split
    · rename_i h
      exact ⟨hr, fun _ _ h => h, fun h' => by simp [nfB, h] at h'⟩
    · rename_i h
      have hin := find_in X.classes c nm h
      exact ⟨hr.put s _ hin, fun s' c' h => h.put s _, fun _ => km_new hr s ⟨c, _⟩ hin⟩
theorem fold_keep {X : QW} : ∀ (q : List Ask) (st : CSt), Rng X st.cells → Rng X (foldC X st q).cells ∧ (∀ s c, KM X st.cells s c → KM X (foldC X st q).cells s c) ∧ (∀ a ∈ q, nfB X a = false → KM X (foldC X st q).cells a.1 a.2.1)
  | [], st, h => ⟨h, fun _ _ h => h, fun a ha => by cases ha⟩
  | a :: r, st, h => by
    obtain ⟨h1, h2, h3⟩ := cfind_keep h a.1 a.2.1 a.2.2
    obtain ⟨i1, i2, i3⟩ := fold_keep r (lookC X st a.1 a.2.1 a.2.2).1 h1
    refine ⟨i1, fun s c hk => i2 s c (h2 s c hk), fun b hb hn => ?_⟩
    rw [List.mem_cons] at hb
    rcases hb with rfl | hb
    · exact i2 _ _ (h3 hn)
    · exact i3 b hb hn
/-- How many there were in all. -/
theorem fold_all (X : QW) : ∀ (q : List Ask) (st : CSt), (foldC X st q).hits + (foldC X st q).nots = st.hits + st.nots + q.length ∧ st.hits ≤ (foldC X st q).hits ∧ st.nots ≤ (foldC X st q).nots
  | [], st => ⟨by simp [foldC], Int.le_refl _, Int.le_refl _⟩
  | a :: r, st => by
    obtain ⟨h1, h2, h3⟩ := fold_all X r (lookC X st a.1 a.2.1 a.2.2).1
    have e : foldC X st (a :: r) = foldC X (lookC X st a.1 a.2.1 a.2.2).1 r := rfl
    rw [e]
    have : (lookC X st a.1 a.2.1 a.2.2).1.hits + (lookC X st a.1 a.2.1 a.2.2).1.nots = st.hits + st.nots + 1 ∧ st.hits ≤ (lookC X st a.1 a.2.1 a.2.2).1.hits ∧ st.nots ≤ (lookC X st a.1 a.2.1 a.2.2).1.nots := by
      unfold lookC
      simp only
      split <;> refine ⟨by omega, by omega, by omega⟩
    simp only [List.length_cons]
    omega
/-- Once more, what is remembered stays so. -/
theorem fold_again {X : QW} {F : List QE} (hm : ∀ x ∈ F, x.many = false) : ∀ (q : List Ask) (st : CSt), st.cells = F → (∀ a ∈ q, nfB X a = false → KM X F a.1 a.2.1) → (foldC X st q).cells = F ∧ (foldC X st q).nots ≤ st.nots + q.countP (nfB X)
  | [], st, h, _ => ⟨h, by simp [foldC]⟩
  | a :: r, st, h, hq => by
    have e : foldC X st (a :: r) = foldC X (lookC X st a.1 a.2.1 a.2.2).1 r := rfl
    have hs : (lookC X st a.1 a.2.1 a.2.2).1.cells = F ∧ (lookC X st a.1 a.2.1 a.2.2).1.nots ≤ st.nots + (if nfB X a then 1 else 0) := by
      unfold lookC
      simp only
      rw [h]
      by_cases hk : hasB X.classes.length (getE F a.1 X.epoch a.2.1) = true
      · unfold cfindE
        rw [if_pos hk]
        refine ⟨rfl, ?_⟩
        simp only [if_true]
        split <;> omega
      · by_cases hn : nfB X a = true
        · have hn' : (findE X.classes a.2.1 a.2.2).1 < 0 := by simpa [nfB] using hn
          unfold cfindE
          rw [if_neg hk, if_pos hn', hn]
          exact ⟨rfl, by simp⟩
        · exact absurd ((hq a (by simp) (by simpa using hn)).get hm) hk
    obtain ⟨i1, i2⟩ := fold_again hm r _ hs.1 fun b hb => hq b (by simp [hb])
    rw [e]
    refine ⟨i1, ?_⟩
    rw [List.countP_cons]
    have h2 := hs.2
    split at h2
    · rename_i hb; rw [if_pos hb]; simp only [Int.natCast_add, Int.natCast_one]; omega
    · rename_i hb; rw [if_neg hb]; simp only [Int.natCast_add]; omega
/-- A call with caches, and once more. -/
structure AgPost (a b : Mc CSt × QV × Int) : Prop where
  res : b.2 = a.2 ∧ b.1.sends = a.1.sends
  pos : 0 ≤ a.1.st.hits ∧ 0 ≤ a.1.st.nots ∧ 0 ≤ b.1.st.hits ∧ 0 ≤ b.1.st.nots
  all : a.1.st.hits + a.1.st.nots = b.1.st.hits + b.1.st.nots
  few : a.1.st.hits + a.1.st.nots ≤ a.1.sends + 1
  good : (∀ x ∈ a.1.st.cells, x.many = false) → a.2.2 ≠ 10 → b.1.st.nots = 0
  bad : (∀ x ∈ a.1.st.cells, x.many = false) → b.1.st.nots ≤ 1
theorem again {X : QW} (hX : rightE X = 0) (fuel : Int) (c n : Int) (s : QV) (args : List QV) (ts : List QT) : AgPost (entE (cachedEnv X fuel) 20 ⟨X.heap, 0, 0, ⟨[], [], 0, 0⟩⟩ c n s args) (entE (cachedEnv X fuel) 20 ⟨X.heap, 0, 0, ⟨(entE (cachedEnv X fuel) 20 ⟨X.heap, 0, 0, ⟨[], [], 0, 0⟩⟩ c n s args).1.st.cells, ts, 0, 0⟩⟩ c n s args) := by
  have h0 : TrueS X (⟨[], [], 0, 0⟩ : CSt).cells := fun x hx => by cases hx
  obtain ⟨q, hq⟩ := cached_ran hX fuel h0 20 c n s args
  have ha := hq _ h0
  generalize entE (cachedEnv X fuel) 20 ⟨X.heap, 0, 0, ⟨[], [], 0, 0⟩⟩ c n s args = a at ha ⊢
  have hb := hq ⟨a.1.st.cells, ts, 0, 0⟩ ha.tru
  generalize entE (cachedEnv X fuel) 20 ⟨X.heap, 0, 0, ⟨a.1.st.cells, ts, 0, 0⟩⟩ c n s args = b at hb ⊢
  obtain ⟨a1, a2, a3⟩ := fold_all X q ⟨[], [], 0, 0⟩
  obtain ⟨b1, b2, b3⟩ := fold_all X q ⟨a.1.st.cells, ts, 0, 0⟩
  rw [← ha.st] at a1 a2 a3
  rw [← hb.st] at b1 b2 b3
  simp only at a1 a2 a3 b1 b2 b3
  have hk := (fold_keep (X := X) q ⟨[], [], 0, 0⟩ (fun x hx => by cases hx)).2.2
  rw [← ha.st] at hk
  have hag : (∀ x ∈ a.1.st.cells, x.many = false) → b.1.st.nots ≤ q.countP (nfB X) := fun hm => by
    have := (fold_again hm q ⟨a.1.st.cells, ts, 0, 0⟩ rfl hk).2
    rw [← hb.st] at this
    simpa using this
  have hfew := ha.few
  rw [← ha.sends] at hfew
  refine ⟨⟨hb.res.trans ha.res.symm, hb.sends.trans ha.sends.symm⟩, ⟨a2, a3, b2, b3⟩, by omega, by omega, fun hm h10 => ?_, fun hm => ?_⟩
  · have h1 := hag hm
    rw [ha.good h10] at h1
    simp at h1
    omega
  · have h1 := hag hm
    have h2 := ha.bad
    omega
end Go.Proofs.Ytdfbgpiikeheiaa

/- Whoever looks by cells, and counts receivers. -/
namespace Go.Proofs.Ytdfbgpiikeheiaa
open Go.ChangeShapes Go.WideShapes Go.ChangeAt Go.RowKit
set_option linter.unusedSimpArgs false
set_option linter.unusedVariables false
set_option maxRecDepth 8000

theorem withLine_few (x : QE) (y : QL) : (withLineE x y).lines.length ≤ 3 ∨ (withLineE x y).lines.length ≤ x.lines.length := by
  unfold withLineE
  split
  · exact Or.inr (Nat.le_refl _)
  · split
    · exact Or.inl (by simp)
    · exact Or.inl (by simp; omega)
theorem put_few (s : QS) (ep : Int) (y : QL) : ∀ (l : List QE) (z : QE), z ∈ putE l s ep y → z.lines.length ≤ 3 ∨ ∃ x ∈ l, z.lines.length ≤ x.lines.length
  | [], z, h => by
    simp [putE] at h
    subst h
    rcases withLine_few ⟨s, ep, false, []⟩ y with h | h
    · exact Or.inl h
    · exact Or.inl (by simp at h; simp [h])
  | x :: r, z, h => by
    unfold putE at h
    split at h
    · rw [List.mem_cons] at h
      rcases h with rfl | h
      · rcases withLine_few (freshE x s ep) y with h | h
        · exact Or.inl h
        · refine Or.inr ⟨x, by simp, Nat.le_trans h ?_⟩
          unfold freshE
          split <;> simp
      · exact Or.inr ⟨z, by simp [h], Nat.le_refl _⟩
    · rw [List.mem_cons] at h
      rcases h with rfl | h
      · exact Or.inr ⟨z, by simp, Nat.le_refl _⟩
      · rcases put_few s ep y r z h with h | ⟨x', hx, h⟩
        · exact Or.inl h
        · exact Or.inr ⟨x', by simp [hx], h⟩
theorem cfind_few (l : List QE) (X : QW) (s : QS) (c : Int) (nm : ByteArray) : (cfindE l X s c nm).1.length ≤ l.length + 1 ∧ ∀ z ∈ (cfindE l X s c nm).1, z.lines.length ≤ 3 ∨ ∃ x ∈ l, z.lines.length ≤ x.lines.length := by
  unfold cfindE
  split
  · exact ⟨by simp, fun z hz => Or.inr ⟨z, hz, Nat.le_refl _⟩⟩
  · split
    · exact ⟨by simp, fun z hz => Or.inr ⟨z, hz, Nat.le_refl _⟩⟩
    · exact ⟨putE_len _ _ _ _, fun z hz => put_few _ _ _ _ z hz⟩
theorem oneMore_len : ∀ (ls : List QL) (c : Int), (oneMore ls c).length ≤ ls.length + 1
  | [], c => by simp [oneMore]
  | x :: r, c => by
    unfold oneMore
    split
    · simp
    · simpa using oneMore_len r c
theorem add_few (s : QS) (c : Int) : ∀ l : List QT, (addE l s c).length ≤ l.length + 1 ∧ ∀ z ∈ addE l s c, z.lines.length ≤ 1 ∨ ∃ x ∈ l, z.lines.length ≤ x.lines.length + 1
  | [] => ⟨by simp [addE], fun z hz => by simp [addE] at hz; subst hz; exact Or.inl (by simp)⟩
  | x :: r => by
    obtain ⟨h1, h2⟩ := add_few s c r
    unfold addE
    split
    · refine ⟨by simp, fun z hz => ?_⟩
      rw [List.mem_cons] at hz
      rcases hz with rfl | hz
      · exact Or.inr ⟨x, by simp, oneMore_len _ _⟩
      · exact Or.inr ⟨z, by simp [hz], by omega⟩
    · refine ⟨by simpa using h1, fun z hz => ?_⟩
      rw [List.mem_cons] at hz
      rcases hz with rfl | hz
      · exact Or.inr ⟨z, by simp, by omega⟩
      · rcases h2 z hz with h | ⟨x', hx, h⟩
        · exact Or.inl h
        · exact Or.inr ⟨x', by simp [hx], h⟩
/-- The box of what a run with caches comes to, while it runs. -/
abbrev OB (lv tv : Value) (st : CSt) : Obj := .cells #[.slice none 0 0, .slice none 0 0, .int .i64 0, .int .i64 0, .int .i64 0, .int .i64 0, .int .i64 0, lv, tv, .int .i64 st.hits, .int .i64 st.nots] 39 (0, 0)
/-- How great what is remembered may be, if so many more are asked. -/
structure CFew (st : CSt) (n : Nat) : Prop where
  c : st.cells.length + n + 1 ≤ 1000000000000
  cl : ∀ x ∈ st.cells, x.lines.length ≤ 1000000000000
  t : st.ts.length + n + 1 ≤ 1000000000000
  tl : ∀ x ∈ st.ts, x.lines.length + n + 1 ≤ 1000000000000
  h : 0 ≤ st.hits ∧ st.hits + n ≤ 1000000000
  k : 0 ≤ st.nots ∧ st.nots + n ≤ 1000000000
theorem CFew.mono {st : CSt} {n n' : Nat} (h : CFew st n) (hn : n' ≤ n) : CFew st n' where
  c := by have := h.c; omega
  cl := h.cl
  t := by have := h.t; omega
  tl := fun x hx => by have := h.tl x hx; omega
  h := by have := h.h; omega
  k := by have := h.k; omega
theorem CFew.look {st : CSt} {n : Nat} (h : CFew st (n + 1)) (X : QW) (s : QS) (c : Int) (nm : ByteArray) : CFew (lookC X st s c nm).1 n where
  c := by
    have h1 := h.c
    have h2 := (cfind_few st.cells X s c nm).1
    show (cfindE st.cells X s c nm).1.length + n + 1 ≤ _
    omega
  cl := fun x hx => by
    rcases (cfind_few st.cells X s c nm).2 x hx with h' | ⟨y, hy, h'⟩
    · omega
    · have := h.cl y hy; omega
  t := by
    have h1 := h.t
    have h2 := (add_few s c st.ts).1
    show (addE st.ts s c).length + n + 1 ≤ _
    omega
  tl := fun x hx => by
    have h1 := h.t
    rcases (add_few s c st.ts).2 x hx with h' | ⟨y, hy, h'⟩
    · omega
    · have := h.tl y hy; omega
  h := by
    have h1 := h.h
    unfold lookC
    simp only
    split <;> omega
  k := by
    have h1 := h.k
    unfold lookC
    simp only
    split <;> omega
theorem IsRow.fxl {α : Type} {E : Lay α} {sz bytes : Nat} {t lo : Nat} {T T' : Nat → Nat} {S : Nat → Prop} {w w' : World} {v : Value} {xs : List α} (h : IsRow E sz bytes (fun b => lo ≤ b ∧ b < w.heap.size ∧ T b = t) w v xs) (G : Good E sz) (e : Ext T T' w) (k : Kp S T w w') (h0 : ¬ S t) : IsRow E sz bytes (fun b => lo ≤ b ∧ b < w'.heap.size ∧ T' b = t) w' v xs :=
  h.keep G (Keeps.of_block fun b hb hl => k.blk b hl (by rw [hb.2.2]; exact h0)) fun b hb => ⟨hb.1, Nat.lt_of_lt_of_le hb.2.1 k.size, by rw [e b hb.2.1]; exact hb.2.2⟩
structure LcP (X : QW) (pb wb ob lo : Nat) (cv hv : Value) (T : Nat → Nat) (w : World) (st : CSt) (n : Nat) : Prop where
  tp : T pb = 0
  lp : pb < w.heap.size
  p0 : w.cell? ⟨pb, 0, none⟩ = some (.pointer (some ⟨ob, 0, none⟩))
  lk : LkP X wb cv hv T w () 0
  to3 : T ob = 3
  ll : lo ≤ w.heap.size
  box : ∃ a m k g j i, w.heap[ob]? = some (OB (.slice a m k) (.slice g j i) st) ∧ IsCells (fun b => lo ≤ b ∧ b < w.heap.size ∧ T b = 0) w (.slice a m k) st.cells ∧ IsTallies (fun b => lo ≤ b ∧ b < w.heap.size ∧ T b = 0) w (.slice g j i) st.ts
  few : CFew st n
theorem LcP.keep {X : QW} {pb wb ob lo : Nat} {cv hv : Value} {T T' : Nat → Nat} {w w' : World} {st : CSt} {n : Nat} {S : Nat → Prop} (h : LcP X pb wb ob lo cv hv T w st n) (e : Ext T T' w) (k : Kp S T w w') (h0 : ¬ S 0) (h3 : ¬ S 3) : LcP X pb wb ob lo cv hv T' w' st n := by
  obtain ⟨a, m, kk, g, j, i, b1, b2, b3⟩ := h.box
  exact ⟨by rw [e _ h.lp]; exact h.tp, Nat.lt_of_lt_of_le h.lp k.size, k.cell h.p0 (by rw [h.tp]; exact h0), h.lk.keep e k h0, by rw [e _ (blk_lt b1)]; exact h.to3, Nat.le_trans h.ll k.size, ⟨a, m, kk, g, j, i, k.held b1 (by rw [h.to3]; exact h3), b2.fxl goodE e k h0, b3.fxl goodT e k h0⟩, h.few⟩
theorem LcP.mono {X : QW} {pb wb ob lo : Nat} {cv hv : Value} {T : Nat → Nat} {w : World} {st : CSt} {n n' : Nat} (h : LcP X pb wb ob lo cv hv T w st n) (hn : n' ≤ n) : LcP X pb wb ob lo cv hv T w st n' := ⟨h.tp, h.lp, h.p0, h.lk, h.to3, h.ll, h.box, h.few.mono hn⟩
end Go.Proofs.Ytdfbgpiikeheiaa

/- Whoever looks by cells, and counts receivers: the walk. -/
namespace Go.Proofs.Ytdfbgpiikeheiaa
open Go.ChangeShapes Go.WideShapes Go.ChangeAt Go.RowKit
set_option linter.unusedSimpArgs false
set_option linter.unusedVariables false
set_option maxRecDepth 8000

theorem bound2_row {α : Type} {E : Lay α} {sz bytes : Nat} {P : Nat → Prop} {w : World} {v : Value} {xs : List α} (h : IsRow E sz bytes P w v xs) (hE : ∀ f x, E P w f x → E (fun b => P b ∧ b < w.heap.size) w f x ∧ ∃ u, f 0 = some u) : IsRow E sz bytes (fun b => P b ∧ b < w.heap.size) w v xs := by
  obtain ⟨ad, cap, rfl, hl, hcap, hby, hrow⟩ := h
  refine ⟨ad, cap, rfl, hl, hcap, hby, fun i x hx => ?_⟩
  obtain ⟨b, o, rfl, hP, hx'⟩ := hrow i x hx
  obtain ⟨h1, u, hu⟩ := hE _ _ hx'
  exact ⟨b, o, rfl, ⟨hP, World.block_lt_of_cell? w ⟨b, o + i * sz + 0, none⟩ hu⟩, h1⟩
theorem bound2_lines {P : Nat → Prop} {w : World} {v : Value} {xs : List QL} (h : IsLines P w v xs) : IsLines (fun b => P b ∧ b < w.heap.size) w v xs := bound2_row h fun f x hx => ⟨hx, _, hx.1⟩
theorem bound2_cells {P : Nat → Prop} {w : World} {v : Value} {xs : List QE} (h : IsCells P w v xs) : IsCells (fun b => P b ∧ b < w.heap.size) w v xs := bound2_row h fun f x hx => by
  obtain ⟨h0, h1, h2, h3, h4, v, h5, hl⟩ := hx
  exact ⟨⟨h0, h1, h2, h3, h4, v, h5, bound2_lines hl⟩, _, h0⟩
theorem bound2_tallies {P : Nat → Prop} {w : World} {v : Value} {xs : List QT} (h : IsTallies P w v xs) : IsTallies (fun b => P b ∧ b < w.heap.size) w v xs := bound2_row h fun f x hx => by
  obtain ⟨h0, h1, h2, v, h5, hl⟩ := hx
  exact ⟨⟨h0, h1, h2, v, h5, bound2_lines hl⟩, _, h0⟩
/-- What the walk reads. -/
structure CfR (w : World) (pb wb ob : Nat) (cv hv lv tv : Value) (ep : Int) (s : QS) (st : CSt) (w' : World) : Prop where
  p0 : w'.cell? ⟨pb, 0, none⟩ = some (.pointer (some ⟨ob, 0, none⟩))
  w0 : w'.cell? ⟨wb, 0, none⟩ = some cv
  w1 : w'.cell? ⟨wb, 1, none⟩ = some hv
  w2 : w'.cell? ⟨wb, 2, none⟩ = some (.int .i64 ep)
  s0 : w'.cell? ⟨w.heap.size, 0, none⟩ = some (.int .i64 s.cls)
  s1 : w'.cell? ⟨w.heap.size, 1, none⟩ = some (.string s.name)
  s2 : w'.cell? ⟨w.heap.size, 2, none⟩ = some (.int .i64 s.at')
  o7 : w'.cell? ⟨ob, 7, none⟩ = some lv
  o8 : w'.cell? ⟨ob, 8, none⟩ = some tv
theorem CfR.al {w : World} {pb wb ob : Nat} {cv hv lv tv : Value} {ep : Int} {s : QS} {st : CSt} {w' : World} (h : CfR w pb wb ob cv hv lv tv ep s st w') : w'.cell? ⟨pb, 0, none⟩ = some (.pointer (some ⟨ob, 0, none⟩)) ∧ w'.cell? ⟨wb, 0, none⟩ = some cv ∧ w'.cell? ⟨wb, 1, none⟩ = some hv ∧ w'.cell? ⟨wb, 2, none⟩ = some (.int .i64 ep) ∧ w'.cell? ⟨w.heap.size, 0, none⟩ = some (.int .i64 s.cls) ∧ w'.cell? ⟨w.heap.size, 1, none⟩ = some (.string s.name) ∧ w'.cell? ⟨w.heap.size, 2, none⟩ = some (.int .i64 s.at') ∧ w'.cell? ⟨ob, 7, none⟩ = some lv := ⟨h.p0, h.w0, h.w1, h.w2, h.s0, h.s1, h.s2, h.o7⟩
theorem CfR.later {w : World} {pb wb ob : Nat} {cv hv lv tv : Value} {ep : Int} {s : QS} {st : CSt} {w' w'' : World} (h : CfR w pb wb ob cv hv lv tv ep s st w') (hb : Below w'.heap.size w' w'') : CfR w pb wb ob cv hv lv tv ep s st w'' := ⟨cell_later hb h.p0, cell_later hb h.w0, cell_later hb h.w1, cell_later hb h.w2, cell_later hb h.s0, cell_later hb h.s1, cell_later hb h.s2, cell_later hb h.o7, cell_later hb h.o8⟩
theorem ob_set7 {w : World} {ob : Nat} {lv tv : Value} {st : CSt} (h : w.heap[ob]? = some (OB lv tv st)) (v : Value) (l : List QE) : (w.setCell ⟨ob, 7, none⟩ v).heap[ob]? = some (OB v tv { st with cells := l }) := by rw [setCell_same h]; rfl
theorem ob_set8 {w : World} {ob : Nat} {lv tv : Value} {st : CSt} (h : w.heap[ob]? = some (OB lv tv st)) (v : Value) (l : List QT) : (w.setCell ⟨ob, 8, none⟩ v).heap[ob]? = some (OB lv v { st with ts := l }) := by rw [setCell_same h]; rfl
theorem ob_set9 {w : World} {ob : Nat} {lv tv : Value} {st : CSt} (h : w.heap[ob]? = some (OB lv tv st)) (n : Int) : (w.setCell ⟨ob, 9, none⟩ (.int .i64 n)).heap[ob]? = some (OB lv tv { st with hits := n }) := by rw [setCell_same h]; rfl
theorem ob_set10 {w : World} {ob : Nat} {lv tv : Value} {st : CSt} (h : w.heap[ob]? = some (OB lv tv st)) (n : Int) : (w.setCell ⟨ob, 10, none⟩ (.int .i64 n)).heap[ob]? = some (OB lv tv { st with nots := n }) := by rw [setCell_same h]; rfl
set_option maxHeartbeats 4000000 in
theorem cfinder1_any {X : QW} {pb wb ob lo : Nat} {cv hv : Value} {T : Nat → Nat} {w : World} {st : CSt} {n : Nat} (h : LcP X pb wb ob lo cv hv T w st (n + 1)) (s : QS) (c : Int) (name : ByteArray) : Calls Try.prog 50 #[SV s, .int .i64 c, .string name, .pointer (some ⟨pb, 0, none⟩), .pointer (some ⟨wb, 0, none⟩)] w fun e w' => e = .returned (.tuple #[.int .i64 (lookC X st s c name).2.1, .int .i64 (lookC X st s c name).2.2]) ∧ (∃ T', Ext T T' w ∧ LcP X pb wb ob lo cv hv T' w' (lookC X st s c name).1 n) ∧ Kp (fun t => t = 3) T w w' := by
  have hb1 : Below w.heap.size w (w.alloc (.cells #[.int .i64 s.cls, .string s.name, .int .i64 s.at'] 42)).drew := (bel1 _ _).drew
  have hsn := siteNew w s 42
  have h1 := h.keep (T' := T) (.refl _ _) (Kp.of_below (S := fun _ => False) hb1) id id
  have hlt : ob < w.heap.size := by obtain ⟨_, _, _, _, _, _, b, _⟩ := h.box; exact blk_lt b
  obtain ⟨a, m, k, g, j, i, b1, b2, b3⟩ := h1.box
  have hF : CfR w pb wb ob cv hv (.slice a m k) (.slice g j i) X.epoch s st (w.alloc (.cells #[.int .i64 s.cls, .string s.name, .int .i64 s.at'] 42)).drew := ⟨h1.p0, h1.lk.w0, h1.lk.w1, h1.lk.w2, hsn.c0, hsn.c1, hsn.c2, by rw [cell_of_row _ _ _ _ _ _ b1]; rfl, by rw [cell_of_row _ _ _ _ _ _ b1]; rfl⟩
  have hfind := cfind_any st.cells X s c name _ cv hv _ (b2.mono (Q := Fx T _) goodE fun b hb => hb.2) h1.lk.cls h1.lk.heap (by have := h.few.c; omega) (fun x hx => by have := h.few.cl x hx; omega)
  have H := hid h
  have H1 := hid h1
  have HB1 := hid hb1
  have HLK : Hid ((lookC X st s c name).2 = (cfindE st.cells X s c name).2.1) := rfl
  obtain ⟨ac, cc, hcv, -⟩ := id h1.lk.cls
  obtain ⟨ah, ch, hhv, -⟩ := id h1.lk.heap
  subst hcv hhv
  have hne : pb ≠ ob := fun e => by have h1 := h.tp; have h2 := h.to3; rw [e] at h1; omega
  have hnw : wb ≠ ob := fun e => by have h1 := h.lk.tag; have h2 := h.to3; rw [e] at h1; omega
  have hns : w.heap.size ≠ ob := by omega
  have HB := hid b1
  have H3 := hid b3
  clear h h1 hb1 hsn b1 b2 b3
  generalize hcf : cfindE st.cells X s c name = cf at *
  obtain ⟨cl, ⟨f1, f2⟩, kn⟩ := cf
  simp only at hfind HLK
  have HWZ : Hid (w.heap.size < (w.alloc (.cells #[.int .i64 s.cls, .string s.name, .int .i64 s.at'] 42)).drew.heap.size) := by show _ < _; simp
  go_enter Try.func50, Try.ntmps50
  go_upto_region 1 with (fail)
  generalize (w.alloc (.cells #[.int .i64 s.cls, .string s.name, .int .i64 s.at'] 42)) = W at *
  go_region_held3 (fun w' => w'.cell? ⟨pb, 0, none⟩ = some (.pointer (some ⟨ob, 0, none⟩)) ∧ w'.cell? ⟨wb, 0, none⟩ = some (.slice ac X.classes.length cc) ∧ w'.cell? ⟨wb, 1, none⟩ = some (.slice ah X.heap.length ch) ∧ w'.cell? ⟨wb, 2, none⟩ = some (.int .i64 X.epoch) ∧ w'.cell? ⟨w.heap.size, 0, none⟩ = some (.int .i64 s.cls) ∧ w'.cell? ⟨w.heap.size, 1, none⟩ = some (.string s.name) ∧ w'.cell? ⟨w.heap.size, 2, none⟩ = some (.int .i64 s.at') ∧ w'.cell? ⟨ob, 7, none⟩ = some (.slice a m k))
    (first | with_reducible exact hF.al | with_reducible exact hF2.al)
    (first | (go_at_call 51; refine hfind.mono ?_; rintro e w2 ⟨a2, k2, rfl, hc2, hb2⟩; have hF2 := hF.later hb2))
  have hB2 := box_later' HB.out hb2
  have H2 := hid hc2
  have HB2 := hid hb2
  have HX2 := hid hB2
  have o7f := row_free hB2
  obtain ⟨p0, w0, w1', w2', s0, s1, s2, o7, o8⟩ := id hF2
  clear hF hfind hc2 hb2 hB2
  go_upto_region 3 with (fail)
  have HK2 : Hid (Kp (fun t => t = 3) T w (w2.setCell ⟨ob, 7, none⟩ (.slice a2 cl.length k2))) := ((Kp.of_below HB1.out).on HB2.out).set (fun _ => H.out.to3) _ _
  have hKV : Kp (fun t => t = 3) T W.drew (w2.setCell ⟨ob, 7, none⟩ (.slice a2 cl.length k2)) := (Kp.of_below HB2.out).set (fun _ => H.out.to3) _ _
  have hT3 := H3.out.fxl goodT (.refl T W.drew) hKV (by omega)
  have hBV := ob_set7 HX2.out (.slice a2 cl.length k2) cl
  have HC2 : Hid (IsCells (fun b => W.drew.heap.size ≤ b) (w2.setCell ⟨ob, 7, none⟩ (.slice a2 cl.length k2)) (.slice a2 cl.length k2) cl) := H2.out.keep goodE (keep_set (Keeps.refl _ _) (by have := HB1.out.size; omega) _) fun _ h => h
  have y0 := (World.cell?_setCell_far w2 ⟨ob, 7, none⟩ ⟨pb, 0, none⟩ (.slice a2 cl.length k2) (by simpa using hne.symm)).trans p0
  have y1 := (World.cell?_setCell_far w2 ⟨ob, 7, none⟩ ⟨w.heap.size, 0, none⟩ (.slice a2 cl.length k2) (by simpa using hns.symm)).trans s0
  have y2 := (World.cell?_setCell_far w2 ⟨ob, 7, none⟩ ⟨w.heap.size, 1, none⟩ (.slice a2 cl.length k2) (by simpa using hns.symm)).trans s1
  have y3 := (World.cell?_setCell_far w2 ⟨ob, 7, none⟩ ⟨w.heap.size, 2, none⟩ (.slice a2 cl.length k2) (by simpa using hns.symm)).trans s2
  clear p0 w0 w1' w2' s0 s1 s2 o7 o8 o7f hF2
  generalize (w2.setCell ⟨ob, 7, none⟩ (.slice a2 cl.length k2)) = V at *
  have y8 : V.cell? ⟨ob, 8, none⟩ = some (.slice g j i) := by rw [cell_of_row _ _ _ _ _ _ hBV]; rfl
  have hadd := fun w' (hb : Below V.heap.size V w') => add_any st.ts _ s c w' (hT3.later goodT hb) (by have := H.out.few.t; omega) (fun x hx => by have := H.out.few.tl x hx; omega)
  have HBV := hid hBV
  have yf := row_free hBV
  have HKV := hid hKV
  have HVZ := hid hKV.size
  clear hBV hKV
  have hS0 : V.drew.cell? ⟨pb, 0, none⟩ = some (.pointer (some ⟨ob, 0, none⟩)) ∧ V.drew.cell? ⟨w.heap.size, 0, none⟩ = some (.int .i64 s.cls) ∧ V.drew.cell? ⟨w.heap.size, 1, none⟩ = some (.string s.name) ∧ V.drew.cell? ⟨w.heap.size, 2, none⟩ = some (.int .i64 s.at') ∧ V.drew.cell? ⟨ob, 8, none⟩ = some (.slice g j i) := ⟨y0, y1, y2, y3, y8⟩
  refine wp_region_late (S := fun w' => w'.cell? ⟨pb, 0, none⟩ = some (.pointer (some ⟨ob, 0, none⟩)) ∧ w'.cell? ⟨w.heap.size, 0, none⟩ = some (.int .i64 s.cls) ∧ w'.cell? ⟨w.heap.size, 1, none⟩ = some (.string s.name) ∧ w'.cell? ⟨w.heap.size, 2, none⟩ = some (.int .i64 s.at') ∧ w'.cell? ⟨ob, 8, none⟩ = some (.slice g j i)) [10] (by kernel_rfl) ?_
  refine wpAnyM_take (i := 0) (oi := { dst := some 32, op := Op.load 88 (Operand.tmp 3), type := 88, pos := "cached.go:25", after := #[], guard := none }) (v := .pointer (some ⟨ob, 0, none⟩)) (by kernel_rfl) (by kernel_rfl) rfl (by kernel_rfl) (by kernel_rfl) (by kernel_rfl) (fun _ _ _ h => h) (Or.inl ⟨by rfl, ?_⟩) (hS0) ?_
  · intro w hSw
    obtain ⟨q0, q1, q2, q3, q4⟩ := hSw
    go_simp
  try simp only [Act.put, List.setIfInBounds_toArray, List.set_cons_zero, List.set_cons_succ]
  refine wpAnyM_take (i := 1) (oi := { dst := some 33, op := Op.load 88 (Operand.tmp 3), type := 88, pos := "cached.go:25", after := #[], guard := none }) (v := .pointer (some ⟨ob, 0, none⟩)) (by kernel_rfl) (by kernel_rfl) rfl (by kernel_rfl) (by kernel_rfl) (by kernel_rfl) (fun _ _ _ h => h) (Or.inl ⟨by rfl, ?_⟩) (hS0) ?_
  · intro w hSw
    obtain ⟨q0, q1, q2, q3, q4⟩ := hSw
    go_simp
  try simp only [Act.put, List.setIfInBounds_toArray, List.set_cons_zero, List.set_cons_succ]
  refine wpAnyM_take (i := 2) (oi := { dst := some 34, op := Op.nilCheck (Operand.tmp 33), type := 0, pos := "cached.go:25", after := #[{ on := 1, ground := Ground.data }], guard := none }) (v := .pointer (some ⟨ob, 0, none⟩)) (by kernel_rfl) (by kernel_rfl) rfl (by kernel_rfl) (by kernel_rfl) (by kernel_rfl) (fun _ _ _ h => h) (Or.inl ⟨by rfl, ?_⟩) (hS0) ?_
  · intro w hSw
    obtain ⟨q0, q1, q2, q3, q4⟩ := hSw
    go_simp
  try simp only [Act.put, List.setIfInBounds_toArray, List.set_cons_zero, List.set_cons_succ]
  refine wpAnyM_take (i := 3) (oi := { dst := some 35, op := Op.fieldAddr 39 (Operand.tmp 34) 3, type := 0, pos := "cached.go:25", after := #[{ on := 2, ground := Ground.data }], guard := none }) (v := .pointer (some ⟨ob, 8, none⟩)) (by kernel_rfl) (by kernel_rfl) rfl (by kernel_rfl) (by kernel_rfl) (by kernel_rfl) (fun _ _ _ h => h) (Or.inl ⟨by rfl, ?_⟩) (hS0) ?_
  · intro w hSw
    obtain ⟨q0, q1, q2, q3, q4⟩ := hSw
    go_simp
  try simp only [Act.put, List.setIfInBounds_toArray, List.set_cons_zero, List.set_cons_succ]
  refine wpAnyM_take (i := 4) (oi := { dst := some 36, op := Op.load 37 (Operand.tmp 35), type := 37, pos := "cached.go:25", after := #[{ on := 3, ground := Ground.data }], guard := none }) (v := .slice g j i) (by kernel_rfl) (by kernel_rfl) rfl (by kernel_rfl) (by kernel_rfl) (by kernel_rfl) (fun _ _ _ h => h) (Or.inl ⟨by rfl, ?_⟩) (hS0) ?_
  · intro w hSw
    obtain ⟨q0, q1, q2, q3, q4⟩ := hSw
    go_simp
  try simp only [Act.put, List.setIfInBounds_toArray, List.set_cons_zero, List.set_cons_succ]
  refine wpAnyM_take (i := 5) (oi := { dst := some 37, op := Op.load 42 (Operand.tmp 5), type := 42, pos := "cached.go:25", after := #[], guard := none }) (v := SV s) (by kernel_rfl) (by kernel_rfl) rfl (by kernel_rfl) (by kernel_rfl) (by kernel_rfl) (fun _ _ _ h => h) (Or.inl ⟨by rfl, ?_⟩) (hS0) ?_
  · intro w hSw
    obtain ⟨q0, q1, q2, q3, q4⟩ := hSw
    go_simp
  try simp only [Act.put, List.setIfInBounds_toArray, List.set_cons_zero, List.set_cons_succ]
  refine wpAnyM_take (i := 6) (oi := { dst := some 38, op := Op.move (Operand.tmp 1), type := 3, pos := "cached.go:25", after := #[], guard := none }) (v := .int .i64 c) (by kernel_rfl) (by kernel_rfl) rfl (by kernel_rfl) (by kernel_rfl) (by kernel_rfl) (fun _ _ _ h => h) (Or.inl ⟨by rfl, ?_⟩) (hS0) ?_
  · intro w hSw
    obtain ⟨q0, q1, q2, q3, q4⟩ := hSw
    go_simp
  try simp only [Act.put, List.setIfInBounds_toArray, List.set_cons_zero, List.set_cons_succ]
  refine wpAnyM_ready (rs := [7]) (by kernel_rfl) (by simp) ?_
  intro i hi
  simp only [List.mem_cons, List.not_mem_nil, or_false] at hi
  subst hi
  refine stepM (o := { dst := some 39, op := Op.call { callee := Callee.value (Operand.func 52), args := #[Operand.tmp 36, Operand.tmp 37, Operand.tmp 38], argTypes := #[37, 42, 3] }, type := 37, pos := "cached.go:25", after := #[{ on := 4, ground := Ground.data }, { on := 5, ground := Ground.data }, { on := 6, ground := Ground.data }], guard := none }) rfl (fun K' hK => ?_)
  go_simp
  go_at_call 52
  refine (hadd _ (Below.refl _ V).drew).mono ?_
  rintro e w3 ⟨g3, c3, rfl, hc3, hb3⟩
  have hB3 := box_later' (show V.drew.heap[ob]? = _ from HBV.out) hb3
  have hS1 := And.intro (cell_later hb3 hS0.1) (And.intro (cell_later hb3 hS0.2.1) (And.intro (cell_later hb3 hS0.2.2.1) (And.intro (cell_later hb3 hS0.2.2.2.1) (cell_later hb3 hS0.2.2.2.2))))
  dsimp only
  refine hK _ _ (fun _ => ?_) ?_
  · exact hS1
  clear hK K'
  try simp only [Act.put, List.setIfInBounds_toArray, List.set_cons_zero, List.set_cons_succ]
  refine wpAnyM_take (i := 8) (oi := { dst := some 40, op := Op.nilCheck (Operand.tmp 32), type := 0, pos := "cached.go:25", after := #[{ on := 0, ground := Ground.data }, { on := 0, ground := Ground.phase }, { on := 1, ground := Ground.phase }, { on := 2, ground := Ground.phase }, { on := 3, ground := Ground.phase }, { on := 4, ground := Ground.phase }, { on := 5, ground := Ground.phase }, { on := 6, ground := Ground.phase }, { on := 7, ground := Ground.phase }], guard := none }) (v := .pointer (some ⟨ob, 0, none⟩)) (by kernel_rfl) (by kernel_rfl) rfl (by kernel_rfl) (by kernel_rfl) (by kernel_rfl) (fun _ _ _ h => h) (Or.inl ⟨by rfl, ?_⟩) (hS1) ?_
  · intro w hSw
    obtain ⟨q0, q1, q2, q3, q4⟩ := hSw
    go_simp
  try simp only [Act.put, List.setIfInBounds_toArray, List.set_cons_zero, List.set_cons_succ]
  refine wpAnyM_take (i := 9) (oi := { dst := some 41, op := Op.fieldAddr 39 (Operand.tmp 40) 3, type := 0, pos := "cached.go:25", after := #[{ on := 8, ground := Ground.data }, { on := 0, ground := Ground.phase }, { on := 1, ground := Ground.phase }, { on := 2, ground := Ground.phase }, { on := 3, ground := Ground.phase }, { on := 4, ground := Ground.phase }, { on := 5, ground := Ground.phase }, { on := 6, ground := Ground.phase }, { on := 7, ground := Ground.phase }], guard := none }) (v := .pointer (some ⟨ob, 8, none⟩)) (by kernel_rfl) (by kernel_rfl) rfl (by kernel_rfl) (by kernel_rfl) (by kernel_rfl) (fun _ _ _ h => h) (Or.inl ⟨by rfl, ?_⟩) (hS1) ?_
  · intro w hSw
    obtain ⟨q0, q1, q2, q3, q4⟩ := hSw
    go_simp
  try simp only [Act.put, List.setIfInBounds_toArray, List.set_cons_zero, List.set_cons_succ]
  refine wpAnyM_ready (rs := [10]) (by kernel_rfl) (by simp) ?_
  intro i hi
  simp only [List.mem_cons, List.not_mem_nil, or_false] at hi
  subst hi
  refine stepM (o := { dst := none, op := Op.store 37 (Operand.tmp 41) (Operand.tmp 39), type := 0, pos := "cached.go:25", after := #[{ on := 9, ground := Ground.data }, { on := 7, ground := Ground.data }, { on := 7, ground := Ground.chain }, { on := 0, ground := Ground.phase }, { on := 1, ground := Ground.phase }, { on := 2, ground := Ground.phase }, { on := 3, ground := Ground.phase }, { on := 4, ground := Ground.phase }, { on := 5, ground := Ground.phase }, { on := 6, ground := Ground.phase }, { on := 7, ground := Ground.phase }], guard := none }) rfl (fun K' hK => ?_)
  have z8 := hS1.2.2.2.2
  have zf := row_free hB3
  go_simp
  refine hK _ _ (fun h => absurd h (by decide)) ?_
  clear hK K'
  try simp only [Act.put, List.setIfInBounds_toArray, List.set_cons_zero, List.set_cons_succ]
  refine wpAnyM_done (by kernel_rfl) ?_ _
  try simp only [Act.put, List.setIfInBounds_toArray, List.set_cons_zero, List.set_cons_succ]
  have hE1 : Ext T (tagged T W.drew 0) W.drew := tagged_ext T W.drew 0
  have hE0 : Hid (Ext T (tagged T W.drew 0) w) := fun b hb => tagged_ext T W.drew 0 b (Nat.lt_of_lt_of_le hb HB1.out.size)
  have z0 := hS1.1
  clear hS0 hS1 y0 y1 y2 y3 y8 yf hadd
  have hB4 := ob_set8 hB3 (.slice (some ⟨g3, 0, none⟩) (addE st.ts s c).length c3) (addE st.ts s c)
  have hlo := HWZ.out
  have hVz := HVZ.out
  have HC3 : Hid (IsCells (fun b => W.drew.heap.size ≤ b) (w3.setCell ⟨ob, 8, none⟩ (.slice (some ⟨g3, 0, none⟩) (addE st.ts s c).length c3)) (.slice a2 cl.length k2) cl) := (HC2.out.later goodE ((Below.refl _ V).drew.trans hb3)).keep goodE (keep_set (Keeps.refl _ _) (by omega) _) fun _ h => h
  have HT3 : Hid (IsTallies (fun b => W.drew.heap.size ≤ b) (w3.setCell ⟨ob, 8, none⟩ (.slice (some ⟨g3, 0, none⟩) (addE st.ts s c).length c3)) (.slice (some ⟨g3, 0, none⟩) (addE st.ts s c).length c3) (addE st.ts s c)) := hc3.keep goodT (keep_set (Keeps.refl _ _) (by show ¬ V.heap.size ≤ ob; omega) _) fun _ h => Nat.le_trans hVz h
  have HK3 : Hid (Kp (fun t => t = 3) T w (w3.setCell ⟨ob, 8, none⟩ (.slice (some ⟨g3, 0, none⟩) (addE st.ts s c).length c3))) := (HK2.out.on ((Below.refl _ V).drew.trans hb3)).set (fun _ => H.out.to3) _ _
  have HKW : Hid (Kp (fun t => t = 3) T W.drew (w3.setCell ⟨ob, 8, none⟩ (.slice (some ⟨g3, 0, none⟩) (addE st.ts s c).length c3))) := (HKV.out.on ((Below.refl _ V).drew.trans hb3)).set (fun _ => H.out.to3) _ _
  have u0 := (World.cell?_setCell_far w3 ⟨ob, 8, none⟩ ⟨pb, 0, none⟩ (.slice (some ⟨g3, 0, none⟩) (addE st.ts s c).length c3) (by simpa using hne.symm)).trans z0
  clear z0 hc3 hb3 hB3
  generalize (w3.setCell ⟨ob, 8, none⟩ (.slice (some ⟨g3, 0, none⟩) (addE st.ts s c).length c3)) = U at *
  have hfh := H.out.few.h
  have hfk := H.out.few.k
  have u9 : U.cell? ⟨ob, 9, none⟩ = some (.int .i64 st.hits) := by rw [cell_of_row _ _ _ _ _ _ hB4]; rfl
  have u10 : U.cell? ⟨ob, 10, none⟩ = some (.int .i64 st.nots) := by rw [cell_of_row _ _ _ _ _ _ hB4]; rfl
  have uf := row_free hB4
  have hw9 : IntKind.i64.wrap (st.hits + 1) = st.hits + 1 := wrap_of (by omega) (by omega)
  have hw10 : IntKind.i64.wrap (st.nots + 1) = st.nots + 1 := wrap_of (by omega) (by omega)
  have HB4 := hid hB4
  have HFW := hid (H.out.few.look X s c name)
  have HST : Hid ((lookC X st s c name).1 = ⟨cl, addE st.ts s c, if kn then st.hits + 1 else st.hits, if kn then st.nots else st.nots + 1⟩) := by show _ = _; unfold lookC; rw [hcf]
  have HFin : Hid (∀ (o : Nat) (v : Value) (st' : CSt), st'.cells = cl → st'.ts = addE st.ts s c → CFew st' n → (U.setCell ⟨ob, o, none⟩ v).heap[ob]? = some (OB (.slice a2 cl.length k2) (.slice (some ⟨g3, 0, none⟩) (addE st.ts s c).length c3) st') → (∃ T', Ext T T' w ∧ LcP X pb wb ob lo (.slice ac X.classes.length cc) (.slice ah X.heap.length ch) T' (U.setCell ⟨ob, o, none⟩ v) st' n) ∧ Kp (fun t => t = 3) T w (U.setCell ⟨ob, o, none⟩ v)) := fun o v st' e1 e2 hf hB => by
    have kU : Kp (fun t => t = 3) T W.drew (U.setCell ⟨ob, o, none⟩ v) := HKW.out.set (fun _ => H.out.to3) _ _
    have hz : (U.setCell ⟨ob, o, none⟩ v).heap.size = U.heap.size := by simp
    refine ⟨⟨tagged T W.drew 0, hE0.out, ⟨by rw [hE0.out _ H.out.lp]; exact H.out.tp, Nat.lt_of_lt_of_le H1.out.lp kU.size, (World.cell?_setCell_far U ⟨ob, o, none⟩ ⟨pb, 0, none⟩ v (by simpa using hne.symm)).trans u0, H1.out.lk.keep hE1 kU (by omega), by rw [hE0.out _ hlt]; exact H.out.to3, Nat.le_trans H1.out.ll kU.size, ⟨_, _, _, _, _, _, hB, ?_, ?_⟩, hf⟩⟩, HK3.out.set (fun _ => H.out.to3) _ _⟩
    · rw [e1]
      exact (bound2_cells (HC3.out.keep goodE (keep_set (Keeps.refl _ _) (by omega) _) fun _ h => h)).mono goodE fun b hb => ⟨Nat.le_trans H1.out.ll hb.1, hb.2, tagged_new hb.1⟩
    · rw [e2]
      exact (bound2_tallies (HT3.out.keep goodT (keep_set (Keeps.refl _ _) (by omega) _) fun _ h => h)).mono goodT fun b hb => ⟨Nat.le_trans H1.out.ll hb.1, hb.2, tagged_new hb.1⟩
  clear hB4 hcf hfh hfk hlo hVz hE1
  cases kn with
  | true =>
    have Q := hid (HFin.out 9 (.int .i64 (st.hits + 1)) ⟨cl, addE st.ts s c, st.hits + 1, st.nots⟩ rfl rfl (by have := HFW.out; rw [HST.out] at this; exact this) (ob_set9 HB4.out _))
    clear HFin
    go_wp2
    refine bodyPost_ret (v := .tuple #[.int .i64 f1, .int .i64 f2]) (by simp [results, Try.results50, go_sem]) rfl ⟨by rw [HLK.out], ?_⟩
    rw [HST.out]
    exact Q.out
  | false =>
    have Q := hid (HFin.out 10 (.int .i64 (st.nots + 1)) ⟨cl, addE st.ts s c, st.hits, st.nots + 1⟩ rfl rfl (by have := HFW.out; rw [HST.out] at this; exact this) (ob_set10 HB4.out _))
    clear HFin
    go_wp2
    refine bodyPost_ret (v := .tuple #[.int .i64 f1, .int .i64 f2]) (by simp [results, Try.results50, go_sem]) rfl ⟨by rw [HLK.out], ?_⟩
    rw [HST.out]
    exact Q.out
end Go.Proofs.Ytdfbgpiikeheiaa

/- A run with caches. -/
namespace Go.Proofs.Ytdfbgpiikeheiaa
open Go.ChangeShapes Go.WideShapes Go.ChangeAt Go.RowKit
set_option linter.unusedSimpArgs false
set_option linter.unusedVariables false
set_option maxRecDepth 8000

theorem fn_runs {fn : Nat} {f : Func} (hf : Try.prog.funcs[fn]? = some f) (hn : (f.name == "runtime.NumGoroutine") = false) (hb : f.body.isSome = true) (args : Array Value) (w : World) : (callFunc fn args).run Try.prog w = .ok (.enter fn args) w := by
  have h1 : ¬ f.name = "runtime.NumGoroutine" := by simpa using hn
  have h2 : ¬ f.body = none := by intro h; rw [h] at hb; cases hb
  simp [callFunc, hf, h1, h2]
theorem right_few {X : QW} (h : rightE X = 0) {c n : Int} {m : QM} (hm : methAt X.classes c n = some m) : m.code.length ≤ 60 := by
  obtain ⟨hs, -, hk, -⟩ := right_is h
  obtain ⟨kc, kn, x, rfl, rfl, hx, hxm⟩ := meth_at hm
  have h1 := hk kc x (lt_of_get hx) hx
  unfold rkE at h1
  split at h1
  · cases h1
  · split at h1
    · cases h1
    · have h2 := firstE_all h1 kn m hxm
      unfold rmE at h2
      split at h2
      · cases h2
      · split at h2
        · rename_i hp
          have : m.code.length = 0 := by
            unfold primB at hp
            rw [List.any_eq_true] at hp
            obtain ⟨p, -, hp⟩ := hp
            simp at hp
            simp [hp]
          omega
        · unfold checkE at h2
          split at h2
          · rename_i hw; exact absurd h2 hw
          · rename_i hw
            have := wmE_args (by simpa using hw)
            omega
/-- No fast code. -/
theorem none_quick {σ : Type} {p : Mp σ} (hq : ∀ c k, p.E.quick c k = none) (T : Nat → Nat) (w : World) (st : σ) (c k : Int) (mt : QM) (n : Nat) : Calls Try.prog 27 (#[.int .i64 c, .int .i64 k] ++ #[]) w fun e w' => (∃ fc fn fe ft av nv cv, e = .returned (.tuple #[FaV fc fn fe ft (.slice av nv cv), .bool (p.E.quick c k).isSome]) ∧ ∀ q, p.E.quick c k = some q → ft = q.2 ∧ IsCode (Fx T w') w' (.slice av nv cv) q.1) ∧ Below w.heap.size w w' := by
  refine (none_any c k w).mono ?_
  rintro e w' ⟨rfl, hb⟩
  refine ⟨⟨0, ⟨#[]⟩, 0, 0, none, 0, 0, by rw [hq]; rfl, fun q h => ?_⟩, hb⟩
  rw [hq] at h; cases h
theorem cached_lok (X : QW) (pb wb ob lo : Nat) (cv hv : Value) : Lok (LcP X pb wb ob lo cv hv) := ⟨fun h e k h0 h3 => h.keep e k h0 h3, fun h hn => h.mono hn⟩
theorem cached_cx {X : QW} (hX : rightE X = 0) {fuel : Int} (hf : fuel ≤ 400) (pb wb ob lo : Nat) (cv hv cv' : Value) : Cx (⟨cachedEnv X fuel, cv', X.epoch, .func (.func 50) #[] #[.pointer (some ⟨pb, 0, none⟩), .pointer (some ⟨wb, 0, none⟩)], .func (.func 27) #[] #[]⟩ : Mp CSt) (LcP X pb wb ob lo cv hv) 50 #[.pointer (some ⟨pb, 0, none⟩), .pointer (some ⟨wb, 0, none⟩)] 27 #[] where
  lv := rfl
  qv := rfl
  lcf := fn_runs Try.func50 (by kernel_rfl) (by kernel_rfl)
  qcf := fn_runs Try.func27 (by kernel_rfl) (by kernel_rfl)
  ok := plain_ok hX fuel _
  fuel := by show fuel ≤ _; omega
  keep h e k h0 h3 := h.keep e k h0 h3
  mono h hn := h.mono hn
  look T w st s c name n h := cfinder1_any h s c name
  quick T w st c k mt n _ _ := none_quick (fun _ _ => rfl) T w st c k mt n
  few c k mt hm := ⟨by have := right_few hX hm; omega, fun q h => by cases h⟩
set_option maxHeartbeats 1000000 in
theorem cfinder_any (ac : Option Addr) (nc cc : Nat) (ah : Option Addr) (nh ch : Nat) (ep : Int) (ob : Nat) (w : World) : Calls Try.prog 26 #[WV (.slice ac nc cc) (.slice ah nh ch) ep, .pointer (some ⟨ob, 0, none⟩)] w fun e w' => e = .returned (.func (.func 50) #[] #[.pointer (some ⟨w.heap.size + 1, 0, none⟩), .pointer (some ⟨w.heap.size, 0, none⟩)]) ∧ w'.cell? ⟨w.heap.size, 0, none⟩ = some (.slice ac nc cc) ∧ w'.cell? ⟨w.heap.size, 1, none⟩ = some (.slice ah nh ch) ∧ w'.cell? ⟨w.heap.size, 2, none⟩ = some (.int .i64 ep) ∧ w'.cell? ⟨w.heap.size + 1, 0, none⟩ = some (.pointer (some ⟨ob, 0, none⟩)) ∧ w.heap.size + 2 ≤ w'.heap.size ∧ Below w.heap.size w w' := by
  go_enter Try.func26, Try.ntmps26
  go_wp2
  go_ret
  exact ⟨rfl, cell_later (bel1 _ _) (cell_new w #[.slice ac nc cc, .slice ah nh ch, .int .i64 ep] 25 _ rfl 0), cell_later (bel1 _ _) (cell_new w #[.slice ac nc cc, .slice ah nh ch, .int .i64 ep] 25 _ rfl 1), cell_later (bel1 _ _) (cell_new w #[.slice ac nc cc, .slice ah nh ch, .int .i64 ep] 25 _ rfl 2), cell_new _ _ _ _ (by simp) 0, by simp, bel2 _ _ _⟩
/-- One block is changed. -/
def tagO (ob : Nat) : Nat → Nat := fun b => if b = ob then 3 else 0
theorem tagO_self (ob : Nat) : tagO ob ob = 3 := by simp [tagO]
theorem tagO_ne {ob b : Nat} (h : b ≠ ob) : tagO ob b = 0 := by simp [tagO, h]
theorem tagO_or (ob b : Nat) : tagO ob b = 0 ∨ tagO ob b = 3 := by unfold tagO; split <;> simp
/-- What comes of a run with caches, as a value. -/
abbrev CaV (cv hv : Value) (ep : Int) (r : Ran) (lv tv : Value) (h k : Int) : Value := .agg #[cv, hv, .int .i64 ep, .int .i64 r.v.k, .int .i64 r.v.n, .int .i64 r.err, .int .i64 r.sends, lv, tv, .int .i64 h, .int .i64 k]
def CaPost (w : World) (X : QW) (r : Ran × CSt) (e : Ending) (w' : World) : Prop :=
  Below w.heap.size w w' ∧ ∃ cv hv lv tv, e = .returned (CaV cv hv X.epoch r.1 lv tv r.2.hits r.2.nots) ∧ IsClasses (fun b => w.heap.size ≤ b) w' cv X.classes ∧ IsHeap (fun b => w.heap.size ≤ b) w' hv r.1.heap ∧ IsCells (fun b => w.heap.size ≤ b) w' lv r.2.cells ∧ IsTallies (fun b => w.heap.size ≤ b) w' tv r.2.ts
/-- What Run's walk reads. -/
structure CrR (w : World) (cv hv : Value) (ep : Int) (s : QV) (name : ByteArray) (av : Value) (w' : World) : Prop where
  w0 : w'.cell? ⟨w.heap.size, 0, none⟩ = some cv
  w1 : w'.cell? ⟨w.heap.size, 1, none⟩ = some hv
  w2 : w'.cell? ⟨w.heap.size, 2, none⟩ = some (.int .i64 ep)
  c0 : w'.cell? ⟨w.heap.size + 1, 0, none⟩ = some (.int .i64 s.k)
  c1 : w'.cell? ⟨w.heap.size + 1, 1, none⟩ = some (.int .i64 s.n)
  c2 : w'.cell? ⟨w.heap.size + 1, 2, none⟩ = some (.string name)
  c3 : w'.cell? ⟨w.heap.size + 1, 3, none⟩ = some av
theorem CrR.al {w : World} {cv hv : Value} {ep : Int} {s : QV} {name : ByteArray} {av : Value} {w' : World} (h : CrR w cv hv ep s name av w') : w'.cell? ⟨w.heap.size, 0, none⟩ = some cv ∧ w'.cell? ⟨w.heap.size, 1, none⟩ = some hv ∧ w'.cell? ⟨w.heap.size, 2, none⟩ = some (.int .i64 ep) ∧ w'.cell? ⟨w.heap.size + 1, 0, none⟩ = some (.int .i64 s.k) ∧ w'.cell? ⟨w.heap.size + 1, 1, none⟩ = some (.int .i64 s.n) ∧ w'.cell? ⟨w.heap.size + 1, 2, none⟩ = some (.string name) ∧ w'.cell? ⟨w.heap.size + 1, 3, none⟩ = some av := ⟨h.w0, h.w1, h.w2, h.c0, h.c1, h.c2, h.c3⟩
theorem CrR.kp {w : World} {cv hv : Value} {ep : Int} {s : QV} {name : ByteArray} {av : Value} {w' w'' : World} {S : Nat → Prop} {T : Nat → Nat} (h : CrR w cv hv ep s name av w') (k : Kp S T w' w'') (h0 : ¬ S (T w.heap.size)) (h1 : ¬ S (T (w.heap.size + 1))) : CrR w cv hv ep s name av w'' := ⟨k.cell h.w0 h0, k.cell h.w1 h0, k.cell h.w2 h0, k.cell h.c0 h1, k.cell h.c1 h1, k.cell h.c2 h1, k.cell h.c3 h1⟩
theorem CrR.set {w : World} {cv hv : Value} {ep : Int} {s : QV} {name : ByteArray} {av : Value} {w' : World} (h : CrR w cv hv ep s name av w') {b : Nat} (hb : w.heap.size + 2 ≤ b) (o : Nat) (u : Value) : CrR w cv hv ep s name av (w'.setCell ⟨b, o, none⟩ u) :=
  ⟨(World.cell?_setCell_far _ _ _ _ (by simp; omega)).trans h.w0, (World.cell?_setCell_far _ _ _ _ (by simp; omega)).trans h.w1, (World.cell?_setCell_far _ _ _ _ (by simp; omega)).trans h.w2, (World.cell?_setCell_far _ _ _ _ (by simp; omega)).trans h.c0, (World.cell?_setCell_far _ _ _ _ (by simp; omega)).trans h.c1, (World.cell?_setCell_far _ _ _ _ (by simp; omega)).trans h.c2, (World.cell?_setCell_far _ _ _ _ (by simp; omega)).trans h.c3⟩
theorem obR_of {w : World} {ob : Nat} {lv tv : Value} {st : CSt} (h : w.heap[ob]? = some (OB lv tv st)) : w.cell? ⟨ob, 0, none⟩ = some (.slice none 0 0) ∧ w.cell? ⟨ob, 1, none⟩ = some (.slice none 0 0) ∧ w.cell? ⟨ob, 2, none⟩ = some (.int .i64 0) ∧ w.cell? ⟨ob, 3, none⟩ = some (.int .i64 0) ∧ w.cell? ⟨ob, 4, none⟩ = some (.int .i64 0) ∧ w.cell? ⟨ob, 5, none⟩ = some (.int .i64 0) ∧ w.cell? ⟨ob, 6, none⟩ = some (.int .i64 0) ∧ w.cell? ⟨ob, 7, none⟩ = some lv ∧ w.cell? ⟨ob, 8, none⟩ = some tv ∧ w.cell? ⟨ob, 9, none⟩ = some (.int .i64 st.hits) ∧ w.cell? ⟨ob, 10, none⟩ = some (.int .i64 st.nots) := by
  refine ⟨?_, ?_, ?_, ?_, ?_, ?_, ?_, ?_, ?_, ?_, ?_⟩ <;> (rw [cell_of_row _ _ _ _ _ _ h]; rfl)
abbrev OB2 (cv hv : Value) (ep : Int) (r : Ran) (lv tv : Value) (st : CSt) : Obj := .cells #[cv, hv, .int .i64 ep, .int .i64 r.v.k, .int .i64 r.v.n, .int .i64 r.err, .int .i64 r.sends, lv, tv, .int .i64 st.hits, .int .i64 st.nots] 39 (0, 0)
/-- What the last two stores leave. -/
structure CaR (ob : Nat) (cv hv : Value) (ep : Int) (r : Ran) (lv tv : Value) (st : CSt) (w U : World) : Prop where
  box : U.heap[ob]? = some (OB2 cv hv ep r lv tv st)
  kp : ∀ (T : Nat → Nat), T ob = 3 → Kp (fun t => t = 3) T w U
theorem caA {w : World} {ob : Nat} {lv tv : Value} {st : CSt} (h : w.heap[ob]? = some (OB lv tv st)) (cv hv : Value) (ep : Int) (r : Ran) : CaR ob cv hv ep r lv tv st w (((((((w.setCell ⟨ob, 0, none⟩ cv).setCell ⟨ob, 1, none⟩ hv).setCell ⟨ob, 2, none⟩ (.int .i64 ep)).setCell ⟨ob, 3, none⟩ (.int .i64 r.v.k)).setCell ⟨ob, 4, none⟩ (.int .i64 r.v.n)).setCell ⟨ob, 5, none⟩ (.int .i64 r.err)).setCell ⟨ob, 6, none⟩ (.int .i64 r.sends)) :=
  ⟨by rw [setCell_same (setCell_same (setCell_same (setCell_same (setCell_same (setCell_same (setCell_same h _) _) _) _) _) _) _]; rfl, fun T ht => (((((((Kp.refl _ _ _).set (fun _ => ht) _ _).set (fun _ => ht) _ _).set (fun _ => ht) _ _).set (fun _ => ht) _ _).set (fun _ => ht) _ _).set (fun _ => ht) _ _).set (fun _ => ht) _ _⟩
theorem ob2_of {w : World} {ob : Nat} {cv hv : Value} {ep : Int} {r : Ran} {lv tv : Value} {st : CSt} (h : w.heap[ob]? = some (OB2 cv hv ep r lv tv st)) : w.cell? ⟨ob, 0, none⟩ = some cv ∧ w.cell? ⟨ob, 1, none⟩ = some hv ∧ w.cell? ⟨ob, 2, none⟩ = some (.int .i64 ep) ∧ w.cell? ⟨ob, 3, none⟩ = some (.int .i64 r.v.k) ∧ w.cell? ⟨ob, 4, none⟩ = some (.int .i64 r.v.n) ∧ w.cell? ⟨ob, 5, none⟩ = some (.int .i64 r.err) ∧ w.cell? ⟨ob, 6, none⟩ = some (.int .i64 r.sends) ∧ w.cell? ⟨ob, 7, none⟩ = some lv ∧ w.cell? ⟨ob, 8, none⟩ = some tv ∧ w.cell? ⟨ob, 9, none⟩ = some (.int .i64 st.hits) ∧ w.cell? ⟨ob, 10, none⟩ = some (.int .i64 st.nots) := by
  refine ⟨?_, ?_, ?_, ?_, ?_, ?_, ?_, ?_, ?_, ?_, ?_⟩ <;> (rw [cell_of_row _ _ _ _ _ _ h]; rfl)
set_option maxHeartbeats 4000000 in
theorem cached_any {P Q R S : Nat → Prop} (X : QW) (hX : rightE X = 0) (s : QV) (name : ByteArray) (args : List QV) (fuel : Int) (l : List QE) (ts : List QT) (cv hv av lv tv : Value) (w : World) (hC : IsClasses P w cv X.classes) (hH : IsHeap P w hv X.heap) (hA : IsVals Q w av args) (hl : IsCells R w lv l) (ht : IsTallies S w tv ts) (hn : name.size ≤ 140737488351232) (hf : CFew ⟨l, ts, 0, 0⟩ 400) :
    Calls Try.prog 7 #[WV cv hv X.epoch, ClV s name av, .int .i64 fuel, lv, tv] w fun e w' => CaPost w X (withE (cachedEnv X fuel) X ⟨l, ts, 0, 0⟩ s name args fuel) e w' := by
  obtain ⟨ac, cc, rfl, -, -, hby, -⟩ := id hC
  obtain ⟨ah, ch, rfl, -, -, hbyh, -⟩ := id hH
  obtain ⟨aa, ca, rfl, -⟩ := id hA
  obtain ⟨al, kl, rfl, -⟩ := id hl
  obtain ⟨at', kt, rfl, -⟩ := id ht
  have hbW : Below w.heap.size w (((w.alloc (.cells #[.slice ac X.classes.length cc, .slice ah X.heap.length ch, .int .i64 X.epoch] 25)).alloc (.cells #[.int .i64 s.k, .int .i64 s.n, .string name, .slice aa args.length ca] 30)).alloc (.cells #[.slice none 0 0, .slice none 0 0, .int .i64 0, .int .i64 0, .int .i64 0, .int .i64 0, .int .i64 0, .slice none 0 0, .slice none 0 0, .int .i64 0, .int .i64 0] 39)) := nstep (bel2 _ _ _) (bel1 _ _)
  have hR0 : CrR w (.slice ac X.classes.length cc) (.slice ah X.heap.length ch) X.epoch s name (.slice aa args.length ca) (((w.alloc (.cells #[.slice ac X.classes.length cc, .slice ah X.heap.length ch, .int .i64 X.epoch] 25)).alloc (.cells #[.int .i64 s.k, .int .i64 s.n, .string name, .slice aa args.length ca] 30)).alloc (.cells #[.slice none 0 0, .slice none 0 0, .int .i64 0, .int .i64 0, .int .i64 0, .int .i64 0, .int .i64 0, .slice none 0 0, .slice none 0 0, .int .i64 0, .int .i64 0] 39)) := by
    obtain ⟨-, w0, w1, w2, c0, c1, c2, c3⟩ := wcR_new w (.slice ac X.classes.length cc) (.slice ah X.heap.length ch) X.epoch s name (.slice aa args.length ca)
    exact ⟨cell_later (bel1 _ _) w0, cell_later (bel1 _ _) w1, cell_later (bel1 _ _) w2, cell_later (bel1 _ _) c0, cell_later (bel1 _ _) c1, cell_later (bel1 _ _) c2, cell_later (bel1 _ _) c3⟩
  have hz : (((w.alloc (.cells #[.slice ac X.classes.length cc, .slice ah X.heap.length ch, .int .i64 X.epoch] 25)).alloc (.cells #[.int .i64 s.k, .int .i64 s.n, .string name, .slice aa args.length ca] 30)).alloc (.cells #[.slice none 0 0, .slice none 0 0, .int .i64 0, .int .i64 0, .int .i64 0, .int .i64 0, .int .i64 0, .slice none 0 0, .slice none 0 0, .int .i64 0, .int .i64 0] 39)).heap.size = w.heap.size + 3 := by simp
  have hr0 : (((w.alloc (.cells #[.slice ac X.classes.length cc, .slice ah X.heap.length ch, .int .i64 X.epoch] 25)).alloc (.cells #[.int .i64 s.k, .int .i64 s.n, .string name, .slice aa args.length ca] 30)).alloc (.cells #[.slice none 0 0, .slice none 0 0, .int .i64 0, .int .i64 0, .int .i64 0, .int .i64 0, .int .i64 0, .slice none 0 0, .slice none 0 0, .int .i64 0, .int .i64 0] 39)).heap[w.heap.size + 2]? = some (.cells #[.slice none 0 0, .slice none 0 0, .int .i64 0, .int .i64 0, .int .i64 0, .int .i64 0, .int .i64 0, .slice none 0 0, .slice none 0 0, .int .i64 0, .int .i64 0] 39 (0, 0)) := blk_new _ _ _ (by simp)
  go_enter Try.func7, Try.ntmps7
  go_upto_region 1 with (fail)
  generalize (((w.alloc (.cells #[.slice ac X.classes.length cc, .slice ah X.heap.length ch, .int .i64 X.epoch] 25)).alloc (.cells #[.int .i64 s.k, .int .i64 s.n, .string name, .slice aa args.length ca] 30)).alloc (.cells #[.slice none 0 0, .slice none 0 0, .int .i64 0, .int .i64 0, .int .i64 0, .int .i64 0, .int .i64 0, .slice none 0 0, .slice none 0 0, .int .i64 0, .int .i64 0] 39)) = W at *
  go_wp2_with fail
  refine (eowns_any l _ W (hl.later goodE hbW) (by have := hf.c; simp only at this; omega) (fun x hx => by have := hf.cl x hx; omega)).mono ?_
  rintro e w1 ⟨g1, rfl, ho1, hg1, hb1⟩
  go_wp2_with fail
  refine (towns_any ts _ w1 ((ht.later goodT hbW).later goodT hb1) (by have := hf.t; simp only at this; omega) (fun x hx => by have := hf.tl x hx; omega)).mono ?_
  rintro e w2 ⟨g2, gs2, rfl, ho2, hg2, hb2⟩
  have hL1 := tight_cells (ho1.row0 goodET (by unfold maxLen; have := hf.c; simp only at this; omega))
  have hT2 := ho2.tallies (P := fun b => g2 ≤ b ∧ b < w2.heap.size) (by unfold maxLen; have := hf.t; simp only at this; omega) (fun x hx => by unfold maxLen; have := hf.tl x hx; omega) fun b h1 h2 => ⟨h1, h2⟩
  have hbO : Below w2.heap.size w2 (w2.alloc (OB (.slice (some ⟨g1, 0, none⟩) l.length l.length) (.slice (some ⟨g2, 0, none⟩) ts.length ts.length) ⟨l, ts, 0, 0⟩)).drew := (bel1 _ _).drew
  have hbA : Hid (Below w.heap.size w (w2.alloc (OB (.slice (some ⟨g1, 0, none⟩) l.length l.length) (.slice (some ⟨g2, 0, none⟩) ts.length ts.length) ⟨l, ts, 0, 0⟩)).drew) := nstep (nstep (nstep hbW hb1) hb2) hbO
  have hbB : Below W.heap.size W (w2.alloc (OB (.slice (some ⟨g1, 0, none⟩) l.length l.length) (.slice (some ⟨g2, 0, none⟩) ts.length ts.length) ⟨l, ts, 0, 0⟩)).drew := nstep (nstep hb1 hb2) hbO
  have hR3 := hR0.kp (T := fun _ => 0) (Kp.of_below (S := fun _ => False) hbB) id id
  have hr3 := box_later' hr0 hbB
  have hL3 := (hL1.later goodE hb2).later goodE hbO
  have hT3 := hT2.later goodT hbO
  have hO3 : (w2.alloc (OB (.slice (some ⟨g1, 0, none⟩) l.length l.length) (.slice (some ⟨g2, 0, none⟩) ts.length ts.length) ⟨l, ts, 0, 0⟩)).drew.heap[w2.heap.size]? = _ := heap_alloc_new w2 _
  have hz1 := hb1.size
  have hz2 := hb2.size
  have hz3 : w2.heap.size < (w2.alloc (OB (.slice (some ⟨g1, 0, none⟩) l.length l.length) (.slice (some ⟨g2, 0, none⟩) ts.length ts.length) ⟨l, ts, 0, 0⟩)).drew.heap.size := by simp
  have HC := hid hC
  have HH := hid hH
  have HA := hid hA
  have HL3 := hid hL3
  have HT3 := hid hT3
  have HO3 := hid hO3
  have HR3 := hid hr3
  clear hC hH hA hl ht hL1 hT2 ho1 ho2 hR0 hr0 hb1 hb2 hbO hbB hbW hL3 hT3 hO3 hr3
  go_upto_region 2 with (fail)
  generalize (w2.alloc (OB (.slice (some ⟨g1, 0, none⟩) l.length l.length) (.slice (some ⟨g2, 0, none⟩) ts.length ts.length) ⟨l, ts, 0, 0⟩)) = V at *
  generalize w2.heap.size = ob at *
  have hfd := cfinder_any ac X.classes.length cc ah X.heap.length ch X.epoch ob V.drew
  have hwi : ∀ w3 : World, Below V.drew.heap.size V.drew w3 → V.drew.heap.size + 2 ≤ w3.heap.size → w3.cell? ⟨V.drew.heap.size, 0, none⟩ = some (.slice ac X.classes.length cc) → w3.cell? ⟨V.drew.heap.size, 1, none⟩ = some (.slice ah X.heap.length ch) → w3.cell? ⟨V.drew.heap.size, 2, none⟩ = some (.int .i64 X.epoch) → w3.cell? ⟨V.drew.heap.size + 1, 0, none⟩ = some (.pointer (some ⟨ob, 0, none⟩)) → Calls Try.prog 12 #[WV (.slice ac X.classes.length cc) (.slice ah X.heap.length ch) X.epoch, ClV s name (.slice aa args.length ca), .int .i64 fuel, .func (.func 50) #[] #[.pointer (some ⟨V.drew.heap.size + 1, 0, none⟩), .pointer (some ⟨V.drew.heap.size, 0, none⟩)], .func (.func 27) #[] #[]] w3 fun e w' => WiPost (LcP X (V.drew.heap.size + 1) V.drew.heap.size ob (w.heap.size + 3) (.slice ac X.classes.length cc) (.slice ah X.heap.length ch)) (tagO ob) w3 X (withE (cachedEnv X fuel) X ⟨l, ts, 0, 0⟩ s name args fuel) e w' := fun w3 hb3 hz4 f0 f1 f2 f3 => by
    have hb03 := nstep hbA.out hb3
    have hsz := hb3.size
    have hno : ∀ b, b < w.heap.size → (tagO ob) b = 0 := fun b hb => tagO_ne (by omega)
    have k3 : IsClasses (Fx (tagO ob) w3) w3 (.slice ac X.classes.length cc) X.classes := (bound_classes HC.out).keep goodC (Keeps.of_below hb03) fun b hb => ⟨Nat.lt_of_lt_of_le hb hb03.size, hno b hb⟩
    have k4 : IsHeap (Fx (tagO ob) w3) w3 (.slice ah X.heap.length ch) X.heap := (bound_heap HH.out).keep goodO (Keeps.of_below hb03) fun b hb => ⟨Nat.lt_of_lt_of_le hb hb03.size, hno b hb⟩
    refine with_any (T0 := tagO ob) X hX (cachedEnv X fuel) ⟨l, ts, 0, 0⟩ rfl s name args _ _ _ w3 (fun b _ => tagO_or ob b) k3 k4 ((bound_vals HA.out).keep goodV (Keeps.of_below hb03) fun b hb => ⟨Nat.lt_of_lt_of_le hb hb03.size, hno b hb⟩) hn (cached_lok _ _ _ _ _ _ _) ⟨tagO_ne (by omega), by omega, f3, ⟨tagO_ne (by omega), by omega, f0, f1, f2, k3, k4⟩, tagO_self ob, by omega, ⟨_, _, _, _, _, _, box_later' HO3.out hb3, (HL3.out.later goodE hb3).mono goodE fun b hb => ⟨by omega, by omega, tagO_ne (by omega)⟩, (HT3.out.later goodT hb3).mono goodT fun b hb => ⟨by omega, by omega, tagO_ne (by omega)⟩⟩, hf.mono (Nat.min_le_right _ _)⟩ (fun _ h4 cv' => cached_cx hX h4 _ _ _ _ _ _ cv')
  have HWE := hid (rfl : withE (cachedEnv X fuel) X ⟨l, ts, 0, 0⟩ s name args fuel = withE (cachedEnv X fuel) X ⟨l, ts, 0, 0⟩ s name args fuel)
  obtain ⟨r, hr⟩ : ∃ r, withE (cachedEnv X fuel) X ⟨l, ts, 0, 0⟩ s name args fuel = r := ⟨_, rfl⟩
  rw [hr] at hwi
  have HRR := hid hr
  clear hr HWE
  have hS0 := hR3.al
  have HZ := hid hz3
  simp only [Nat.add_assoc, Nat.reduceAdd] at *
  have tokA : True := trivial
  go_region_held3 (fun w' => w'.cell? ⟨w.heap.size, 0, none⟩ = some (.slice ac X.classes.length cc) ∧ w'.cell? ⟨w.heap.size, 1, none⟩ = some (.slice ah X.heap.length ch) ∧ w'.cell? ⟨w.heap.size, 2, none⟩ = some (.int .i64 X.epoch) ∧ w'.cell? ⟨w.heap.size + 1, 0, none⟩ = some (.int .i64 s.k) ∧ w'.cell? ⟨w.heap.size + 1, 1, none⟩ = some (.int .i64 s.n) ∧ w'.cell? ⟨w.heap.size + 1, 2, none⟩ = some (.string name) ∧ w'.cell? ⟨w.heap.size + 1, 3, none⟩ = some (.slice aa args.length ca))
    (first | with_reducible exact hS0 | with_reducible exact hR4.al | with_reducible exact hR5.al | with_reducible exact (((hR5.set hob _ _).set hob _ _).set hob _ _).al | with_reducible exact (((((((hR5.set hob _ _).set hob _ _).set hob _ _).set hob _ _).set hob _ _).set hob _ _).set hob _ _).al | with_reducible exact ((((hR5.set hob _ _).set hob _ _).set hob _ _).set hob _ _).al)
    (first
      | (have _t := tokA; go_at_call 26; refine hfd.mono ?_; rintro e w3 ⟨rfl, f0, f1, f2, f3, fz, hb3⟩; have hR4 := hR3.kp (T := fun _ => 0) (Kp.of_below (S := fun _ => False) hb3) id id; clear tokA; have tokB : True := trivial)
      | (have _t := tokB; go_at_call 12; refine (hwi _ hb3 fz f0 f1 f2 f3).mono ?_; rintro e w4 ⟨hk4, T4, hX4, hL4, cv4, hv4, rfl, hC4, hH4⟩; have hz4 := hb3.size; have hR5 := hR4.kp hk4 (by rw [tagO_ne (by omega)]; omega) (by rw [tagO_ne (by omega)]; omega); have hob : w.heap.size + 2 ≤ ob := (by omega); obtain ⟨a5, m5, k5, g5, j5, i5, hB5, hl5, ht5⟩ := hL4.box; have bf := row_free hB5; obtain ⟨b0, b1, b2, b3, b4, b5, b6, b7, b8, b9, b10⟩ := obR_of hB5; obtain ⟨a3, k3, rfl, -⟩ := id hC4; obtain ⟨a4, k4, rfl, -⟩ := id hH4; have hr5 := hk4.held (box_later' HR3.out hb3) (by rw [tagO_ne (by omega)]; omega); clear tokB))
  have hU := caA hB5 (.slice a3 X.classes.length k3) (.slice a4 r.1.heap.length k4) X.epoch r.1
  generalize (((((((w4.setCell ⟨ob, 0, none⟩ (.slice a3 X.classes.length k3)).setCell ⟨ob, 1, none⟩ (.slice a4 r.1.heap.length k4)).setCell ⟨ob, 2, none⟩ (.int .i64 X.epoch)).setCell ⟨ob, 3, none⟩ (.int .i64 r.1.v.k)).setCell ⟨ob, 4, none⟩ (.int .i64 r.1.v.n)).setCell ⟨ob, 5, none⟩ (.int .i64 r.1.err)).setCell ⟨ob, 6, none⟩ (.int .i64 r.1.sends)) = U at *
  have hkU := hU.kp (tagO ob) (tagO_self ob)
  have hrU := hkU.held hr5 (by rw [tagO_ne (by omega)]; omega)
  obtain ⟨d0, d1, d2, d3, d4, d5, d6, d7, d8, d9, d10⟩ := ob2_of hU.box
  obtain ⟨e0, e1, e2, e3, e4, e5, e6, e7, e8, e9, e10⟩ := obR_of (st := ⟨[], [], 0, 0⟩) hrU
  have rf := row_free hrU
  have hne : ¬ w.heap.size + 2 = ob := by omega
  have hne' : ¬ ob = w.heap.size + 2 := by omega
  have HQ : Hid (∀ U', Below w.heap.size U U' → Keeps (fun b => b ≠ w.heap.size + 2) U U' → CaPost w X r (.returned (CaV (.slice a3 X.classes.length k3) (.slice a4 r.1.heap.length k4) X.epoch r.1 (.slice a5 m5 k5) (.slice g5 j5 i5) r.2.hits r.2.nots)) U') := by
    intro U' hb' hk'
    have hsz := hb3.size
    have hA4 : Below w.heap.size w3 w4 := hk4.below (fun b hb => by rw [tagO_ne (by omega)]; omega) (by omega)
    have hA5 : Below w.heap.size w4 U := hkU.below (fun b hb => by rw [tagO_ne (by omega)]; omega) (Nat.le_trans (by omega) hk4.size)
    have hAA : Below w.heap.size w U' := ((((nstep hbA.out hb3).trans hA4).trans hA5).trans hb')
    have hkk : ∀ {P : Nat → Prop}, (∀ b, P b → b ≠ ob) → Keeps P w4 U := fun hP => Keeps.of_block fun b hb hl => hkU.blk b hl (by rw [tagO_ne (hP b hb)]; omega)
    have hlo : ob < w3.heap.size := by omega
    have h44 : T4 ob = 3 := hL4.to3
    have hr2 : T4 (w.heap.size + 2) = 0 := by rw [hX4 _ (by omega)]; exact tagO_ne (by omega)
    refine ⟨hAA, _, _, _, _, rfl, (hC4.keep goodC (hkk fun b hb => by have := hb.1; omega) fun _ h => h).keep goodC (hk'.mono fun b hb => by have := hb.1; omega) fun b hb => by have := hb.1; omega, (hH4.keep goodO (hkk fun b hb => by have := hb.1; omega) fun _ h => h).keep goodO (hk'.mono fun b hb => by have := hb.1; omega) fun b hb => by have := hb.1; omega, ?_, ?_⟩
    · exact (hl5.keep goodE (hkk fun b hb e => by rw [e] at hb; have := hb.2.2; rw [h44] at this; omega) fun _ h => h).keep goodE (hk'.mono fun b hb => by have := hb.1; omega) fun b hb => by have := hb.1; omega
    · exact (ht5.keep goodT (hkk fun b hb e => by rw [e] at hb; have := hb.2.2; rw [h44] at this; omega) fun _ h => h).keep goodT (hk'.mono fun b hb => by have := hb.1; omega) fun b hb => by have := hb.1; omega
  clear hkU hrU hU hB5 hl5 ht5 hL4 hk4 hC4 hH4 hX4 hR3 hR4 hR5 hS0 hwi hfd f0 f1 f2 f3 b0 b1 b2 b3 b4 b5 b6 b7 b8 b9 b10 bf hr5
  go_wp2
  rw [HRR.out]
  refine bodyPost_ret (v := CaV (.slice a3 X.classes.length k3) (.slice a4 r.1.heap.length k4) X.epoch r.1 (.slice a5 m5 k5) (.slice g5 j5 i5) r.2.hits r.2.nots) ?_ rfl (HQ.out _ (((((((((((Below.refl _ U).setCell (by simp) _).setCell (by simp) _).setCell (by simp) _).setCell (by simp) _).setCell (by simp) _).setCell (by simp) _).setCell (by simp) _).setCell (by simp) _).setCell (by simp) _).setCell (by simp) _ |>.setCell (by simp) _) (Keeps.of_block fun b hb _ => by rw [setCell_else hb, setCell_else hb, setCell_else hb, setCell_else hb, setCell_else hb, setCell_else hb, setCell_else hb, setCell_else hb, setCell_else hb, setCell_else hb, setCell_else hb]))
  simp [results, Try.results7, go_sem, e0, e1, e2, e3, e4, e5, e6, e7, e8, e9, e10]
end Go.Proofs.Ytdfbgpiikeheiaa

/- The closed fact of chapter 8. -/
namespace Go.Proofs.Ytdfbgpiikeheiaa
open Go.ChangeShapes Go.WideShapes Go.ChangeAt Go.RowKit
set_option linter.unusedSimpArgs false
set_option linter.unusedVariables false
set_option maxRecDepth 8000

theorem slotsOk_all {xs : List QC} (h : xs.all (fun x => decide (0 ≤ x.slots) && decide (x.slots ≤ 6)) = true) : SlotsOk xs := fun i x hx => by
  have := List.all_eq_true.1 h x (List.mem_of_getElem? hx)
  simpa using this
def risesB : List QM → Bool
  | [] => true
  | [_] => true
  | a :: b :: r => ltN a.name b.name && risesB (b :: r)
theorem risesB_is : ∀ {xs : List QM}, risesB xs = true → RisesM xs
  | [], _ => fun i x y hx _ => by simp at hx
  | [a], _ => fun i x y hx hy => by simp at hy
  | a :: b :: r, h => fun i x y hx hy => by
    unfold risesB at h
    simp only [Bool.and_eq_true] at h
    cases i with
    | zero => simp at hx hy; subst hx hy; exact h.1
    | succ i => exact risesB_is h.2 i x y (by simpa using hx) (by simpa using hy)
theorem risesC_all {xs : List QC} (h : xs.all (fun x => risesB x.methods) = true) : RisesC xs := fun i x hx => risesB_is (List.all_eq_true.1 h x (List.mem_of_getElem? hx))
theorem rinst9 {P : Nat → Prop} (X Y : QW) (x : QC) (m : QM) (cv hv mv : Value) (w : World) (ep : Int) (hep : X.epoch = ep) (ep' : Int) (hep' : Y.epoch = ep') (hx : X.classes[4]? = some x) (hno : ¬ (numI x.methods m.name < 0 ∧ 8 ≤ x.methods.length)) (hY : instX X 4 x m = Y) (hl : Y.classes.length = 5) (hn : m.name.size ≤ 140737488351232) (hR : RisesC X.classes) (hXh : X.heap = [])
    (hh : IsClasses P w cv X.classes) (hH : IsHeap P w hv []) (hM : IsCode P w mv m.code) : Calls Try.prog 29 #[WV cv hv ep, .int .i64 4, MV m mv] w fun e w' => ∃ a k, e = .returned (.tuple #[WV (.slice a 5 k) hv ep', .int .i64 0]) ∧ IsClasses (fun b => P b ∨ w.heap.size ≤ b) w' (.slice a 5 k) Y.classes ∧ Below w.heap.size w w' := by
  subst hep hep'
  refine (rinstall_any X 4 m cv hv mv w hh (by rw [hXh]; exact hH) hM hn hR).mono ?_
  rintro e w' ⟨⟨h, -⟩ | ⟨k, x', hk, hx', h⟩, hb⟩
  · have := lt_of_get hx
    simp [hasB] at h
    omega
  · obtain rfl : k = 4 := by omega
    rw [hx] at hx'; cases hx'
    rcases h with ⟨h1, h2, -⟩ | ⟨-, cv', rfl, hC⟩
    · exact absurd ⟨h1, h2⟩ hno
    · rw [hY] at hC
      obtain ⟨a, k', rfl⟩ := hC.get
      rw [hl] at hC ⊢
      refine ⟨a, k', ?_, hC, hb⟩
      rw [← hY]; rfl
theorem row9 {α : Type} {E : Lay α} {sz bytes : Nat} (G : Good E sz) {P : Nat → Prop} (w : World) (cs : List Value) (t : TypeId) (xs : List α) (h : ∀ w', Cells E sz P w' cs xs) (hP : P w.heap.size) (hs : xs.length * bytes ≤ 140737488351232) (hm : xs.length ≤ maxLen) : IsRow E sz bytes P (w.alloc (.cells cs.toArray t)) (.slice (some ⟨w.heap.size, 0, none⟩) xs.length xs.length) xs :=
  Cells.row (h _) G hP (heap_alloc_new w _) (by rw [List.take_of_length_le (by simp [(h w).1])]) (Nat.le_refl _) hm hs
theorem one_instr {P : Nat → Prop} {w : World} (x : QI) (h : x.name.size ≤ 140737488351232) : Cells InstrC 5 P w [.int .i64 x.op, .int .i64 x.a, .int .i64 x.b, .int .i64 x.c, .string x.name] [x] :=
  Cells.one goodI rfl ⟨rfl, rfl, rfl, rfl, rfl, h⟩
theorem bxl {w w' : World} {B : Nat} {o : Obj} (h : w.heap[B]? = some o) (hb : Below w.heap.size w w') : w'.heap[B]? = some o := by rw [hb.block _ (blk_lt h)]; exact h
theorem box3 {w : World} {B : Nat} {x y z : Value} {t : TypeId} (h : w.heap[B]? = some (.cells #[x, y, z] t (0, 0))) : (w.cell? ⟨B, 0, none⟩ = some x ∧ w.cell? ⟨B, 1, none⟩ = some y ∧ w.cell? ⟨B, 2, none⟩ = some z) ∧ (∀ o, w.frozen? ⟨B, o, none⟩ = false) := by
  refine ⟨⟨?_, ?_, ?_⟩, fun o => by unfold World.frozen?; simp [h]⟩ <;> rw [cell_of_row _ _ _ _ _ _ h] <;> rfl
theorem box3_set {w : World} {B : Nat} {x y z u v r : Value} {t : TypeId} (h : w.heap[B]? = some (.cells #[x, y, z] t (0, 0))) : (((w.setCell ⟨B, 0, none⟩ u).setCell ⟨B, 1, none⟩ v).setCell ⟨B, 2, none⟩ r).heap[B]? = some (.cells #[u, v, r] t (0, 0)) := by
  rw [setCell_same (setCell_same (setCell_same h _) _) _]; rfl
/-- The world's box, and what is in it. -/
structure A9 (w : World) (B : Nat) (cv hv : Value) (X : QW) (w' : World) : Prop where
  box : w'.heap[B]? = some (.cells #[cv, hv, .int .i64 X.epoch] 25 (0, 0))
  C : IsClasses (fun b => b ≠ B ∧ w.heap.size ≤ b) w' cv X.classes
  H : IsHeap (fun b => b ≠ B ∧ w.heap.size ≤ b) w' hv []
  bel : Below w.heap.size w w'
theorem A9.later {w : World} {B : Nat} {cv hv : Value} {X : QW} {w' w'' : World} (h : A9 w B cv hv X w') (hb : Below w'.heap.size w' w'') : A9 w B cv hv X w'' :=
  ⟨bxl h.box hb, h.C.later goodC hb, h.H.later goodO hb, nstep h.bel hb⟩
theorem A9.set {w : World} {B : Nat} {cv hv cv' : Value} {X Y : QW} {w1 w' : World} (h : A9 w B cv hv X w1) (hb : Below w1.heap.size w1 w') (hC : IsClasses (fun b => (b ≠ B ∧ w.heap.size ≤ b) ∨ w1.heap.size ≤ b) w' cv' Y.classes) (hB : w.heap.size ≤ B) : A9 w B cv' hv Y (((w'.setCell ⟨B, 0, none⟩ cv').setCell ⟨B, 1, none⟩ hv).setCell ⟨B, 2, none⟩ (.int .i64 Y.epoch)) := by
  have hk : Keeps (fun b => b ≠ B ∧ w.heap.size ≤ b) w' (((w'.setCell ⟨B, 0, none⟩ cv').setCell ⟨B, 1, none⟩ hv).setCell ⟨B, 2, none⟩ (.int .i64 Y.epoch)) :=
    keep_set (keep_set (keep_set (Keeps.refl _ _) (by simp) _) (by simp) _) (by simp) _
  have hlt := blk_lt h.box
  have hsz := h.bel.size
  refine ⟨box3_set (bxl h.box hb), (hC.mono (Q := fun b => b ≠ B ∧ w.heap.size ≤ b) goodC fun b hb => ?_).keep goodC hk fun _ h => h, (h.H.later goodO hb).keep goodO hk fun _ h => h, below_set3 (nstep h.bel hb) hB _ _ _⟩
  rcases hb with h | h
  · exact h
  · omega
theorem bound3_vals {P : Nat → Prop} {w : World} {v : Value} {xs : List QV} (h : IsVals P w v xs) : IsVals (fun b => b < w.heap.size ∧ P b) w v xs := (bound2_row h fun f x hx => ⟨hx, _, hx.1⟩).mono goodV fun b hb => ⟨hb.2, hb.1⟩
theorem bound3_code {P : Nat → Prop} {w : World} {v : Value} {xs : List QI} (h : IsCode P w v xs) : IsCode (fun b => P b ∧ b < w.heap.size) w v xs := bound2_row h fun f x hx => ⟨hx, _, hx.1⟩
theorem bound3_meths {P : Nat → Prop} {w : World} {v : Value} {xs : List QM} (h : IsMeths P w v xs) : IsMeths (fun b => P b ∧ b < w.heap.size) w v xs := bound2_row h fun f x hx => by
  obtain ⟨h0, h1, h2, h3, h4, c, h5, h6⟩ := hx
  exact ⟨⟨h0, h1, h2, h3, h4, c, h5, bound3_code h6⟩, _, h0⟩
theorem bound3_classes {P : Nat → Prop} {w : World} {v : Value} {xs : List QC} (h : IsClasses P w v xs) : IsClasses (fun b => b < w.heap.size ∧ P b) w v xs := (bound2_row h fun f x hx => by
  obtain ⟨h0, h1, h2, h3, c, h5, h6⟩ := hx
  exact ⟨⟨h0, h1, h2, h3, c, h5, bound3_meths h6⟩, _, h0⟩).mono goodC fun b hb => ⟨hb.2, hb.1⟩
theorem bound3_heap {P : Nat → Prop} {w : World} {v : Value} {xs : List QO} (h : IsHeap P w v xs) : IsHeap (fun b => b < w.heap.size ∧ P b) w v xs := (bound2_row h fun f x hx => by
  obtain ⟨h0, c, h5, h6⟩ := hx
  exact ⟨⟨h0, c, h5, (bound3_vals h6).mono goodV fun b hb => ⟨hb.2, hb.1⟩⟩, _, h0⟩).mono goodO fun b hb => ⟨hb.2, hb.1⟩
def a8M : QM := ⟨⟨#[109]⟩, 1, 0, 0, [⟨5, 1, 0, 0, ⟨#[]⟩⟩, ⟨2, 0, 0, 0, ⟨#[]⟩⟩, ⟨14, 1, 0, 0, ⟨#[43]⟩⟩, ⟨17, 0, 0, 0, ⟨#[]⟩⟩]⟩
def a8X (ms : List QM) (ep : Int) : QW := ⟨newC ++ [⟨⟨#[65]⟩, 0, 0, ms⟩], [], ep⟩
def a8Z : QW := ⟨newC ++ [⟨⟨#[65]⟩, 0, 0, [a8M]⟩], [⟨4, []⟩], 1⟩
theorem a8_e1 : wrongE newX.classes ⟨#[65]⟩ 0 0 = 0 := by kernel_rfl
theorem a8_o0 : SlotsOk newX.classes := slotsOk_all (by kernel_rfl)
theorem a8_i2 : instX (a8X [] 0) 4 ⟨⟨#[65]⟩, 0, 0, []⟩ a8M = a8X [a8M] 1 := by kernel_rfl
theorem a8_r1 : RisesC (a8X [] 0).classes := risesC_all (by kernel_rfl)
theorem a8_right : rightE a8Z = 0 := by kernel_rfl
theorem rmake8 {lo : Nat} (cv hv : Value) (w : World) (hl : lo ≤ w.heap.size) (hh : IsClasses (fun b => lo ≤ b) w cv newX.classes) (hH : IsHeap (fun b => lo ≤ b) w hv []) : Calls Try.prog 28 #[WV cv hv 0, .string ⟨#[65]⟩, .int .i64 0, .int .i64 0] w fun e w' => ∃ a k, e = .returned (.tuple #[WV (.slice a 5 k) hv 0, .int .i64 4, .int .i64 0]) ∧ IsClasses (fun b => b < w'.heap.size ∧ lo ≤ b) w' (.slice a 5 k) (a8X [] 0).classes ∧ IsHeap (fun b => b < w'.heap.size ∧ lo ≤ b) w' hv [] ∧ Below w.heap.size w w' := by
  refine (rmake_any newX ⟨#[65]⟩ 0 0 cv hv w (by decide) hh hH a8_o0).mono ?_
  rintro e w' ⟨⟨h, -⟩ | ⟨h, cv', rfl, hC⟩, hb⟩
  · exact absurd a8_e1 h
  · obtain ⟨a, k, rfl⟩ := hC.get
    refine ⟨a, k, rfl, bound3_classes (hC.mono (Q := fun b => lo ≤ b) goodC fun b hb => ?_), bound3_heap (hH.later goodO hb), hb⟩
    rcases hb with h | h
    · exact h
    · omega
def a8Mc : List Value := [.int .i64 5, .int .i64 1, .int .i64 0, .int .i64 0, .string ⟨#[]⟩, .int .i64 2, .int .i64 0, .int .i64 0, .int .i64 0, .string ⟨#[]⟩, .int .i64 14, .int .i64 1, .int .i64 0, .int .i64 0, .string ⟨#[43]⟩, .int .i64 17, .int .i64 0, .int .i64 0, .int .i64 0, .string ⟨#[]⟩]
theorem a8M_cells {P : Nat → Prop} (w : World) : Cells InstrC 5 P w a8Mc a8M.code :=
  (((one_instr (w := w) ⟨5, 1, 0, 0, ⟨#[]⟩⟩ (by decide)).append goodI (one_instr ⟨2, 0, 0, 0, ⟨#[]⟩⟩ (by decide))).append goodI (one_instr ⟨14, 1, 0, 0, ⟨#[43]⟩⟩ (by decide))).append goodI (one_instr ⟨17, 0, 0, 0, ⟨#[]⟩⟩ (by decide))
theorem obj8 {P : Nat → Prop} (w : World) (hP : P w.heap.size) : IsHeap P (w.alloc (.cells #[.int .i64 4, .slice none 0 0] 82)) (.slice (some ⟨w.heap.size, 0, none⟩) 1 1) [⟨4, []⟩] :=
  row9 goodO w [.int .i64 4, .slice none 0 0] 82 [⟨4, []⟩] (fun w' => Cells.one goodO rfl ⟨rfl, _, rfl, ⟨none, 0, rfl, Nat.le_refl _, by decide, by decide, fun i x hx => by simp at hx⟩⟩) hP (by decide) (by decide)
set_option maxHeartbeats 2000000 in
theorem world8_any (w : World) : Calls Try.prog 17 #[] w fun e w' => ∃ a k g, e = .returned (WV (.slice a 5 k) (.slice (some ⟨g, 0, none⟩) 1 1) 1) ∧ IsClasses (fun _ => True) w' (.slice a 5 k) a8Z.classes ∧ IsHeap (fun _ => True) w' (.slice (some ⟨g, 0, none⟩) 1 1) a8Z.heap ∧ Below w.heap.size w w' := by
  have hb0 := bel1 w (.cells #[.slice none 0 0, .slice none 0 0, .int .i64 0] 25)
  have hr0 := heap_alloc_new w (.cells #[.slice none 0 0, .slice none 0 0, .int .i64 0] 25)
  have HW0 : Hid (w.heap.size < (w.alloc (.cells #[.slice none 0 0, .slice none 0 0, .int .i64 0] 25)).heap.size) := by show _ < _; simp
  go_enter Try.func17, Try.ntmps17
  go_upto_region 1 with (fail)
  generalize (w.alloc (.cells #[.slice none 0 0, .slice none 0 0, .int .i64 0] 25)) = W0 at *
  go_wp2_with fail
  refine (rnew_any _).mono ?_
  rintro e w1 ⟨cv, hv, rfl, hC, hH, hB⟩
  obtain ⟨x1, y1, rfl⟩ := hC.get
  obtain ⟨x2, y2, rfl⟩ := hH.get
  go_wp2_with fail
  refine (rmake8 _ _ _ hB.size hC hH).mono ?_
  rintro e w2 ⟨a1, k1, rfl, hC1, hH1, hb⟩
  replace hB := nstep hB hb
  have hr1 := box_later' hr0 hB
  clear hb hC hH hr0
  have hA0 : A9 W0 w2.heap.size (.slice a1 5 k1) (.slice x2 0 y2) (a8X [] 0) (w2.alloc (.cells #[.slice a1 5 k1, .slice x2 0 y2, .int .i64 0] 25)) :=
    ⟨heap_alloc_new _ _, (hC1.later goodC (bel1 _ _)).mono goodC fun b h => ⟨by have := h.1; omega, h.2⟩, (hH1.later goodO (bel1 _ _)).mono goodO fun b h => ⟨by have := h.1; omega, h.2⟩, nstep hB (bel1 _ _)⟩
  have hz : W0.heap.size ≤ w2.heap.size := hB.size
  have hr2 := box_later' hr1 (bel1 w2 (.cells #[.slice a1 5 k1, .slice x2 0 y2, .int .i64 0] 25))
  have hlt0 := blk_lt hr1
  clear hB hC1 hH1 hr1
  go_upto_region 2 with (fail)
  generalize (w2.alloc (.cells #[.slice a1 5 k1, .slice x2 0 y2, .int .i64 0] 25)) = W3 at *
  generalize w2.heap.size = B at *
  obtain ⟨⟨q0, q1, q2⟩, qf⟩ := box3 hA0.box
  have hlt := blk_lt hA0.box
  have hG : IsCode (fun b => b ≠ B ∧ W0.heap.size ≤ b) (W3.alloc (.cells #[.int .i64 5, .int .i64 1, .int .i64 0, .int .i64 0, .string ⟨#[]⟩, .int .i64 2, .int .i64 0, .int .i64 0, .int .i64 0, .string ⟨#[]⟩, .int .i64 14, .int .i64 1, .int .i64 0, .int .i64 0, .string ⟨#[43]⟩, .int .i64 17, .int .i64 0, .int .i64 0, .int .i64 0, .string ⟨#[]⟩] 59)) (.slice (some ⟨W3.heap.size, 0, none⟩) 4 4) a8M.code :=
    row9 goodI W3 a8Mc 59 a8M.code (fun w' => a8M_cells w') ⟨by omega, by omega⟩ (by decide) (by decide)
  have hb3 := bel1 W3 (.cells #[.int .i64 5, .int .i64 1, .int .i64 0, .int .i64 0, .string ⟨#[]⟩, .int .i64 2, .int .i64 0, .int .i64 0, .int .i64 0, .string ⟨#[]⟩, .int .i64 14, .int .i64 1, .int .i64 0, .int .i64 0, .string ⟨#[43]⟩, .int .i64 17, .int .i64 0, .int .i64 0, .int .i64 0, .string ⟨#[]⟩] 59)
  replace hA0 := hA0.later hb3
  have hr3 := box_later' hr2 hb3
  go_wp2_with fail
  clear q0 q1 q2 qf
  refine (rinst9 (a8X [] 0) (a8X [a8M] 1) ⟨⟨#[65]⟩, 0, 0, []⟩ a8M _ _ _ _ 0 rfl 1 rfl rfl (by simp) a8_i2 rfl (by decide) a8_r1 rfl hA0.C hA0.H hG).mono ?_
  rintro e w4 ⟨a2, k2, rfl, hC2, hb4⟩
  have hA1 : A9 W0 B (.slice a2 5 k2) (.slice x2 0 y2) (a8X [a8M] 1) (((w4.setCell ⟨B, 0, none⟩ (.slice a2 5 k2)).setCell ⟨B, 1, none⟩ (.slice x2 0 y2)).setCell ⟨B, 2, none⟩ (.int .i64 1)) := hA0.set (Y := a8X [a8M] 1) hb4 hC2 hz
  obtain ⟨⟨q0, q1, q2⟩, qf⟩ := box3 (bxl hA0.box hb4)
  have hr4 : (((w4.setCell ⟨B, 0, none⟩ (.slice a2 5 k2)).setCell ⟨B, 1, none⟩ (.slice x2 0 y2)).setCell ⟨B, 2, none⟩ (.int .i64 1)).heap[w.heap.size]? = some (.cells #[.slice none 0 0, .slice none 0 0, .int .i64 0] 25 (0, 0)) := by
    rw [setCell_else (by omega), setCell_else (by omega), setCell_else (by omega)]; exact box_later' hr3 hb4
  clear hC2 hG hA0 hb4 hb3 hlt hr2 hr3
  go_upto_region 3 with (fail)
  generalize (((w4.setCell ⟨B, 0, none⟩ (.slice a2 5 k2)).setCell ⟨B, 1, none⟩ (.slice x2 0 y2)).setCell ⟨B, 2, none⟩ (.int .i64 1)) = W5 at *
  clear q0 q1 q2 qf
  obtain ⟨⟨q0, q1, q2⟩, qf⟩ := box3 hA1.box
  have hlt := blk_lt hA1.box
  have hW0 : w.heap.size < W0.heap.size := HW0.out
  have hsz1 : (W5.setCell ⟨B, 1, none⟩ (.slice (some ⟨W5.heap.size, 0, none⟩) 1 1)).heap.size = W5.heap.size := by simp
  have hO := obj8 (P := fun b => b ≠ B ∧ W0.heap.size ≤ b) (W5.setCell ⟨B, 1, none⟩ (.slice (some ⟨W5.heap.size, 0, none⟩) 1 1)) ⟨by rw [hsz1]; omega, by rw [hsz1]; omega⟩
  rw [hsz1] at hO
  have hb5 : Below (W5.setCell ⟨B, 1, none⟩ (.slice (some ⟨W5.heap.size, 0, none⟩) 1 1)).heap.size (W5.setCell ⟨B, 1, none⟩ (.slice (some ⟨W5.heap.size, 0, none⟩) 1 1)) ((W5.setCell ⟨B, 1, none⟩ (.slice (some ⟨W5.heap.size, 0, none⟩) 1 1)).alloc (.cells #[.int .i64 4, .slice none 0 0] 82)) := bel1 _ _
  have hne : ¬ w.heap.size = B := by omega
  have hne' : ¬ B = w.heap.size := by omega
  have hU : ((W5.setCell ⟨B, 1, none⟩ (.slice (some ⟨W5.heap.size, 0, none⟩) 1 1)).alloc (.cells #[.int .i64 4, .slice none 0 0] 82)).heap[B]? = some (.cells #[.slice a2 5 k2, .slice (some ⟨W5.heap.size, 0, none⟩) 1 1, .int .i64 1] 25 (0, 0)) := box_later' (by rw [setCell_same hA1.box]; rfl) hb5
  have hUr : ((W5.setCell ⟨B, 1, none⟩ (.slice (some ⟨W5.heap.size, 0, none⟩) 1 1)).alloc (.cells #[.int .i64 4, .slice none 0 0] 82)).heap[w.heap.size]? = some (.cells #[.slice none 0 0, .slice none 0 0, .int .i64 0] 25 (0, 0)) := box_later' (by rw [setCell_else hne]; exact hr4) hb5
  have hkU : Keeps (fun b => b ≠ B ∧ W0.heap.size ≤ b) W5 (W5.setCell ⟨B, 1, none⟩ (.slice (some ⟨W5.heap.size, 0, none⟩) 1 1)) := keep_set (Keeps.refl _ _) (by simp) _
  have HC5 := hid ((hA1.C.keep goodC hkU fun _ h => h).later goodC hb5)
  have HO5 := hid hO
  have HB5 : Hid (Below w.heap.size w ((W5.setCell ⟨B, 1, none⟩ (.slice (some ⟨W5.heap.size, 0, none⟩) 1 1)).alloc (.cells #[.int .i64 4, .slice none 0 0] 82))) := nstep ((nstep hb0 hA1.bel).setCell (by show w.heap.size ≤ B; omega) _) hb5
  clear hr4 hO hkU hb5 hsz1
  have hF : (∀ o, W5.frozen? ⟨B, o, none⟩ = false) := qf
  clear hA1
  go_upto_region 4 with (fail)
  generalize ((W5.setCell ⟨B, 1, none⟩ (.slice (some ⟨W5.heap.size, 0, none⟩) 1 1)).alloc (.cells #[.int .i64 4, .slice none 0 0] 82)) = U at *
  generalize W5.heap.size = G at *
  clear q0 q1 q2 qf hF
  obtain ⟨⟨p0, p1, p2⟩, pf⟩ := box3 hU
  obtain ⟨⟨r0, r1, r2⟩, rf⟩ := box3 hUr
  clear hU hUr
  go_wp2
  have hk : Keeps (fun b => b ≠ B ∧ W0.heap.size ≤ b) U (((U.setCell ⟨w.heap.size, 0, none⟩ (.slice a2 5 k2)).setCell ⟨w.heap.size, 1, none⟩ (.slice (some ⟨G, 0, none⟩) 1 1)).setCell ⟨w.heap.size, 2, none⟩ (.int .i64 1)) := keep_set (keep_set (keep_set (Keeps.refl _ _) (by omega) _) (by omega) _) (by omega) _
  refine bodyPost_ret (v := WV (.slice a2 5 k2) (.slice (some ⟨G, 0, none⟩) 1 1) 1) ?_ rfl ⟨a2, k2, G, rfl, HC5.out.keep goodC hk fun _ _ => trivial, HO5.out.keep goodO hk fun _ _ => trivial, ((HB5.out.setCell (by simp) _).setCell (by simp) _).setCell (by simp) _⟩
  simp [results, Try.results17, go_sem, r0, r1, r2]
end Go.Proofs.Ytdfbgpiikeheiaa

/- The closed fact of chapter 8: two calls. -/
namespace Go.Proofs.Ytdfbgpiikeheiaa
open Go.ChangeShapes Go.WideShapes Go.ChangeAt Go.RowKit
set_option linter.unusedSimpArgs false
set_option linter.unusedVariables false
set_option maxRecDepth 8000

def a8R (n : Int) (st : CSt) : Ran × CSt := withE (cachedEnv a8Z 10) a8Z st ⟨4, 0⟩ ⟨#[109]⟩ [⟨3, n⟩] 10
def a8S : CSt := ⟨[⟨⟨4, ⟨#[109]⟩, 2⟩, 1, false, [⟨3, 3⟩]⟩], [⟨⟨4, ⟨#[109]⟩, 2⟩, [⟨3, 1⟩]⟩], 0, 1⟩
def a8S2 : CSt := ⟨[⟨⟨4, ⟨#[109]⟩, 2⟩, 1, false, [⟨3, 3⟩]⟩], [⟨⟨4, ⟨#[109]⟩, 2⟩, [⟨3, 2⟩]⟩], 1, 0⟩
theorem a8_run1 : a8R 4 ⟨[], [], 0, 0⟩ = (⟨[⟨4, []⟩], ⟨3, 5⟩, 0, 2⟩, a8S) := by kernel_rfl
theorem a8_run2 : a8R 5 ⟨a8S.cells, a8S.ts, 0, 0⟩ = (⟨[⟨4, []⟩], ⟨3, 6⟩, 0, 2⟩, a8S2) := by kernel_rfl
theorem few8a : CFew ⟨[], [], 0, 0⟩ 400 := ⟨by decide, (fun x hx => by cases hx), by decide, (fun x hx => by cases hx), by decide, by decide⟩
theorem val8 {P : Nat → Prop} (w : World) (n : Int) (hP : P w.heap.size) : IsVals P (w.alloc (.cells #[.int .i64 3, .int .i64 n] 27)) (.slice (some ⟨w.heap.size, 0, none⟩) 1 1) [⟨3, n⟩] :=
  row9 goodV w [.int .i64 3, .int .i64 n] 27 [⟨3, n⟩] (fun w' => Cells.one goodV rfl ⟨rfl, rfl⟩) hP (by show 1 * 16 ≤ _; decide) (by show 1 ≤ maxLen; decide)
set_option maxHeartbeats 1000000 in
theorem call8_any (n : Int) (w : World) : Calls Try.prog 18 #[.int .i64 n] w fun e w' => ∃ g, e = .returned (ClV ⟨4, 0⟩ ⟨#[109]⟩ (.slice (some ⟨g, 0, none⟩) 1 1)) ∧ IsVals (fun _ => True) w' (.slice (some ⟨g, 0, none⟩) 1 1) [⟨3, n⟩] ∧ Below w.heap.size w w' := by
  have hb : Below w.heap.size w ((w.alloc (.cells #[.int .i64 4, .int .i64 0, .string ⟨#[109]⟩, .slice (some ⟨w.heap.size + 1, 0, none⟩) 1 1] 30)).alloc (.cells #[.int .i64 3, .int .i64 n] 27)) := bel2 _ _ _
  have hv := val8 (P := fun _ => True) (w.alloc (.cells #[.int .i64 4, .int .i64 0, .string ⟨#[109]⟩, .slice (some ⟨w.heap.size + 1, 0, none⟩) 1 1] 30)) n trivial
  have hz : (w.alloc (.cells #[.int .i64 4, .int .i64 0, .string ⟨#[109]⟩, .slice (some ⟨w.heap.size + 1, 0, none⟩) 1 1] 30)).heap.size = w.heap.size + 1 := by simp
  rw [hz] at hv
  have c0 := cell_later (bel1 _ (.cells #[.int .i64 3, .int .i64 n] 27)) (cell_new w #[.int .i64 4, .int .i64 0, .string ⟨#[109]⟩, .slice (some ⟨w.heap.size + 1, 0, none⟩) 1 1] 30 _ rfl 0)
  have c1 := cell_later (bel1 _ (.cells #[.int .i64 3, .int .i64 n] 27)) (cell_new w #[.int .i64 4, .int .i64 0, .string ⟨#[109]⟩, .slice (some ⟨w.heap.size + 1, 0, none⟩) 1 1] 30 _ rfl 1)
  have c2 := cell_later (bel1 _ (.cells #[.int .i64 3, .int .i64 n] 27)) (cell_new w #[.int .i64 4, .int .i64 0, .string ⟨#[109]⟩, .slice (some ⟨w.heap.size + 1, 0, none⟩) 1 1] 30 _ rfl 2)
  have c3 := cell_later (bel1 _ (.cells #[.int .i64 3, .int .i64 n] 27)) (cell_new w #[.int .i64 4, .int .i64 0, .string ⟨#[109]⟩, .slice (some ⟨w.heap.size + 1, 0, none⟩) 1 1] 30 _ rfl 3)
  clear hz
  have HV := hid hv
  have HB := hid hb
  clear hv hb
  go_enter Try.func18, Try.ntmps18
  go_wp2
  refine bodyPost_ret (v := ClV ⟨4, 0⟩ ⟨#[109]⟩ (.slice (some ⟨w.heap.size + 1, 0, none⟩) 1 1)) ?_ rfl ⟨w.heap.size + 1, rfl, HV.out, HB.out⟩
  simp [results, Try.results18, go_sem, c0, c1, c2, c3]
/-- The boxes of alive's two runs. -/
abbrev CB (cv hv : Value) (ep : Int) (r : Ran) (lv tv : Value) (h k : Int) : Obj := .cells #[cv, hv, .int .i64 ep, .int .i64 r.v.k, .int .i64 r.v.n, .int .i64 r.err, .int .i64 r.sends, lv, tv, .int .i64 h, .int .i64 k] 39
theorem cb_of {w : World} {ob : Nat} {cv hv : Value} {ep : Int} {r : Ran} {lv tv : Value} {h k : Int} (hb : w.heap[ob]? = some (CB cv hv ep r lv tv h k)) : w.cell? ⟨ob, 0, none⟩ = some cv ∧ w.cell? ⟨ob, 1, none⟩ = some hv ∧ w.cell? ⟨ob, 2, none⟩ = some (.int .i64 ep) ∧ w.cell? ⟨ob, 3, none⟩ = some (.int .i64 r.v.k) ∧ w.cell? ⟨ob, 4, none⟩ = some (.int .i64 r.v.n) ∧ w.cell? ⟨ob, 5, none⟩ = some (.int .i64 r.err) ∧ w.cell? ⟨ob, 6, none⟩ = some (.int .i64 r.sends) ∧ w.cell? ⟨ob, 7, none⟩ = some lv ∧ w.cell? ⟨ob, 8, none⟩ = some tv ∧ w.cell? ⟨ob, 9, none⟩ = some (.int .i64 h) ∧ w.cell? ⟨ob, 10, none⟩ = some (.int .i64 k) := by
  refine ⟨?_, ?_, ?_, ?_, ?_, ?_, ?_, ?_, ?_, ?_, ?_⟩ <;> (rw [cell_of_row _ _ _ _ _ _ hb]; rfl)
theorem nilCells (P : Nat → Prop) (w : World) : IsCells P w (.slice none 0 0) [] := ⟨none, 0, rfl, Nat.le_refl _, by decide, by decide, fun i x hx => by simp at hx⟩
theorem nilTallies (P : Nat → Prop) (w : World) : IsTallies P w (.slice none 0 0) [] := ⟨none, 0, rfl, Nat.le_refl _, by decide, by decide, fun i x hx => by simp at hx⟩
theorem few8b : CFew ⟨a8S.cells, a8S.ts, 0, 0⟩ 400 := ⟨by decide, by decide, by decide, by decide, by decide, by decide⟩
theorem crun8 {P Q R S : Nat → Prop} (n : Int) (l : List QE) (ts : List QT) (r : Ran) (st : CSt) (h k : Int) (hr : withE (cachedEnv a8Z 10) a8Z ⟨l, ts, 0, 0⟩ ⟨4, 0⟩ ⟨#[109]⟩ [⟨3, n⟩] 10 = (r, st)) (h1 : r.heap.length = 1) (h2 : st.cells.length = 1) (h3 : st.ts.length = 1) (h4 : st.hits = h) (h5 : st.nots = k) (cv hv av lv tv : Value) (w : World) (hC : IsClasses P w cv a8Z.classes) (hH : IsHeap P w hv a8Z.heap) (hA : IsVals Q w av [⟨3, n⟩]) (hl : IsCells R w lv l) (ht : IsTallies S w tv ts) (hf : CFew ⟨l, ts, 0, 0⟩ 400) :
    Calls Try.prog 7 #[WV cv hv 1, ClV ⟨4, 0⟩ ⟨#[109]⟩ av, .int .i64 10, lv, tv] w fun e w' => Below w.heap.size w w' ∧ ∃ ac kc ah kh al kl at' kt, e = .returned (CaV (.slice ac 5 kc) (.slice ah 1 kh) 1 r (.slice al 1 kl) (.slice at' 1 kt) h k) ∧ IsCells (fun b => w.heap.size ≤ b) w' (.slice al 1 kl) st.cells ∧ IsTallies (fun b => w.heap.size ≤ b) w' (.slice at' 1 kt) st.ts := by
  refine (cached_any a8Z a8_right ⟨4, 0⟩ ⟨#[109]⟩ [⟨3, n⟩] 10 l ts cv hv av lv tv w hC hH hA hl ht (by decide) hf).mono ?_
  rintro e w3 ⟨hb3, cv3, hv3, lv3, tv3, rfl, hC3, hH3, hL3, hT3⟩
  rw [hr] at hH3 hL3 hT3 ⊢
  obtain ⟨al, kl, rfl, -⟩ := id hL3
  obtain ⟨at', kt, rfl, -⟩ := id hT3
  obtain ⟨ac, kc, rfl, -⟩ := id hC3
  obtain ⟨ah, kh, rfl, -⟩ := id hH3
  simp only at hL3 hT3
  rw [h2] at hL3
  rw [h3] at hT3
  refine ⟨hb3, ac, kc, ah, kh, al, kl, at', kt, ?_, hL3, hT3⟩
  simp only [h1, h2, h3, h4, h5]
  rfl
abbrev ZB : Obj := .cells #[.slice none 0 0, .slice none 0 0, .int .i64 0, .int .i64 0, .int .i64 0, .int .i64 0, .int .i64 0, .slice none 0 0, .slice none 0 0, .int .i64 0, .int .i64 0] 39
structure S8 (B : Nat) (lv tv : Value) (w : World) : Prop where
  a : w.cell? ⟨B, 7, none⟩ = some lv
  b : w.cell? ⟨B, 8, none⟩ = some tv
theorem S8.al {B : Nat} {lv tv : Value} {w : World} (h : S8 B lv tv w) : w.cell? ⟨B, 7, none⟩ = some lv ∧ w.cell? ⟨B, 8, none⟩ = some tv := ⟨h.a, h.b⟩
theorem S8.later {B : Nat} {lv tv : Value} {w w' : World} (h : S8 B lv tv w) (hb : Below w.heap.size w w') : S8 B lv tv w' := ⟨cell_later hb h.a, cell_later hb h.b⟩
theorem S8.set {B : Nat} {lv tv : Value} {w : World} (h : S8 B lv tv w) {b : Nat} (hb : b ≠ B) (o : Nat) (u : Value) : S8 B lv tv (w.setCell ⟨b, o, none⟩ u) := ⟨(World.cell?_setCell_far _ _ _ _ (by simpa using hb)).trans h.a, (World.cell?_setCell_far _ _ _ _ (by simpa using hb)).trans h.b⟩
theorem S8.set11 {B : Nat} {lv tv : Value} {w : World} (h : S8 B lv tv w) {b : Nat} (hb : b ≠ B) (u0 u1 u2 u3 u4 u5 u6 u7 u8 u9 u10 : Value) : S8 B lv tv (((((((((((w.setCell ⟨b, 0, none⟩ u0).setCell ⟨b, 1, none⟩ u1).setCell ⟨b, 2, none⟩ u2).setCell ⟨b, 3, none⟩ u3).setCell ⟨b, 4, none⟩ u4).setCell ⟨b, 5, none⟩ u5).setCell ⟨b, 6, none⟩ u6).setCell ⟨b, 7, none⟩ u7).setCell ⟨b, 8, none⟩ u8).setCell ⟨b, 9, none⟩ u9).setCell ⟨b, 10, none⟩ u10) := ((((((((((h.set hb _ _).set hb _ _).set hb _ _).set hb _ _).set hb _ _).set hb _ _).set hb _ _).set hb _ _).set hb _ _).set hb _ _).set hb _ _
theorem fin8 {w : World} {b B : Nat} {o : Obj} (hB : w.heap[B]? = some o) (hZ : w.heap[b]? = some ZB) (hn : b ≠ B) (u0 u1 u2 u3 u4 u5 u6 u7 u8 u9 u10 : Value) : (((((((((((w.setCell ⟨b, 0, none⟩ u0).setCell ⟨b, 1, none⟩ u1).setCell ⟨b, 2, none⟩ u2).setCell ⟨b, 3, none⟩ u3).setCell ⟨b, 4, none⟩ u4).setCell ⟨b, 5, none⟩ u5).setCell ⟨b, 6, none⟩ u6).setCell ⟨b, 7, none⟩ u7).setCell ⟨b, 8, none⟩ u8).setCell ⟨b, 9, none⟩ u9).setCell ⟨b, 10, none⟩ u10).heap[B]? = some o ∧ (((((((((((w.setCell ⟨b, 0, none⟩ u0).setCell ⟨b, 1, none⟩ u1).setCell ⟨b, 2, none⟩ u2).setCell ⟨b, 3, none⟩ u3).setCell ⟨b, 4, none⟩ u4).setCell ⟨b, 5, none⟩ u5).setCell ⟨b, 6, none⟩ u6).setCell ⟨b, 7, none⟩ u7).setCell ⟨b, 8, none⟩ u8).setCell ⟨b, 9, none⟩ u9).setCell ⟨b, 10, none⟩ u10).heap[b]? = some (.cells #[u0, u1, u2, u3, u4, u5, u6, u7, u8, u9, u10] 39) ∧ ∀ {lo : Nat} {w0 : World}, Below lo w0 w → lo ≤ b → Below lo w0 (((((((((((w.setCell ⟨b, 0, none⟩ u0).setCell ⟨b, 1, none⟩ u1).setCell ⟨b, 2, none⟩ u2).setCell ⟨b, 3, none⟩ u3).setCell ⟨b, 4, none⟩ u4).setCell ⟨b, 5, none⟩ u5).setCell ⟨b, 6, none⟩ u6).setCell ⟨b, 7, none⟩ u7).setCell ⟨b, 8, none⟩ u8).setCell ⟨b, 9, none⟩ u9).setCell ⟨b, 10, none⟩ u10) :=
  ⟨by rw [setCell_else hn.symm, setCell_else hn.symm, setCell_else hn.symm, setCell_else hn.symm, setCell_else hn.symm, setCell_else hn.symm, setCell_else hn.symm, setCell_else hn.symm, setCell_else hn.symm, setCell_else hn.symm, setCell_else hn.symm]; exact hB, by rw [setCell_same (setCell_same (setCell_same (setCell_same (setCell_same (setCell_same (setCell_same (setCell_same (setCell_same (setCell_same (setCell_same hZ _) _) _) _) _) _) _) _) _) _) _]; simp only [List.setIfInBounds_toArray, List.set_cons_zero, List.set_cons_succ], fun hb hl => ((((((((((hb.setCell hl _).setCell hl _).setCell hl _).setCell hl _).setCell hl _).setCell hl _).setCell hl _).setCell hl _).setCell hl _).setCell hl _).setCell hl _⟩
set_option maxHeartbeats 4000000 in
theorem alive8_any (w : World) : Calls Try.prog 5 #[] w fun e w' => e = .returned (.bool true) ∧ Below w.heap.size w w' := by
  go_enter Try.func5, Try.ntmps5
  go_wp2_with fail
  refine (world8_any _).mono ?_
  rintro e w1 ⟨a1, k1, g1, rfl, hC1, hH1, hb1⟩
  go_wp2_with fail
  refine (call8_any 4 w1).mono ?_
  rintro e w2 ⟨g2, rfl, hA2, hb2⟩
  go_wp2_with fail
  refine (crun8 4 [] [] ⟨[⟨4, []⟩], ⟨3, 5⟩, 0, 2⟩ a8S 0 1 a8_run1 rfl rfl rfl rfl rfl _ _ _ _ _ w2 (hC1.later goodC hb2) (hH1.later goodO hb2) hA2 (nilCells (fun _ => True) w2) (nilTallies (fun _ => True) w2) few8a).mono ?_
  rintro e w3 ⟨hb3, ac, kc, ah, kh, al, kl, at', kt, rfl, hL3, hT3⟩
  have hbx := heap_alloc_new w3 (CB (.slice ac 5 kc) (.slice ah 1 kh) 1 ⟨[⟨4, []⟩], ⟨3, 5⟩, 0, 2⟩ (.slice al 1 kl) (.slice at' 1 kt) 0 1)
  have hb4 := bel1 w3 (CB (.slice ac 5 kc) (.slice ah 1 kh) 1 ⟨[⟨4, []⟩], ⟨3, 5⟩, 0, 2⟩ (.slice al 1 kl) (.slice at' 1 kt) 0 1)
  have HB4 := hid (nstep (nstep (nstep hb1 hb2) hb3) hb4)
  have HL4 := hid (hL3.later goodE hb4)
  have HT4 := hid (hT3.later goodT hb4)
  clear hC1 hH1 hA2 hL3 hT3 hb1 hb2 hb3 hb4
  go_upto_region 2 with (fail)
  generalize hVV : (w3.alloc (CB (.slice ac 5 kc) (.slice ah 1 kh) 1 ⟨[⟨4, []⟩], ⟨3, 5⟩, 0, 2⟩ (.slice al 1 kl) (.slice at' 1 kt) 0 1)) = V at *
  have HZV : Hid (w3.heap.size < V.heap.size) := blk_lt hbx
  generalize w3.heap.size = B at *
  clear hVV
  obtain ⟨-, -, -, -, -, -, -, o7, o8, -, -⟩ := cb_of hbx
  have hS0 : S8 B (.slice al 1 kl) (.slice at' 1 kt) V.drew := ⟨o7, o8⟩
  have hSV : S8 B (.slice al 1 kl) (.slice at' 1 kt) V := ⟨o7, o8⟩
  have HVB := hid hbx
  have hBV : B < V.heap.size := HZV.out
  clear o7 o8 hbx
  have hDr : Below V.heap.size V V.drew := (Below.refl _ V).drew
  have tokA : True := trivial
  go_region_held3 (fun w' => w'.cell? ⟨B, 7, none⟩ = some (.slice al 1 kl) ∧ w'.cell? ⟨B, 8, none⟩ = some (.slice at' 1 kt))
    (first | with_reducible exact hS0.al | with_reducible exact hS1.al | with_reducible exact hS2.al | with_reducible exact hS3.al | with_reducible exact (hS3.later (bel1 _ _)).al | with_reducible exact (hS2.later (bel1 _ _)).al | with_reducible exact (hS1.later (bel1 _ _)).al | with_reducible exact ((hSV.later (bel1 _ _)).later (Below.refl _ _).drew).al | with_reducible exact (hS3.set11 hn7 _ _ _ _ _ _ _ _ _ _ _).al | fail)
    (first
      | (have _t := tokA; go_at_call 17; refine (world8_any _).mono ?_; rintro e w5 ⟨a5, k5, g5, rfl, hC5, hH5, hb5⟩; have hV5 : Below V.heap.size V w5 := (by first | exact nstep hDr hb5 | exact nstep (bel1 _ _).drew hb5); (try (have hZ5 : w5.heap[V.heap.size]? = some ZB := box_later' (show (V.alloc ZB).drew.heap[V.heap.size]? = _ from heap_alloc_new V ZB) hb5; have hn5 : V.heap.size ≠ B := (by omega))); have hS1 := hSV.later hV5; clear tokA; have tokB : True := trivial)
      | (have _t := tokB; go_at_call 18; refine (call8_any 5 _).mono ?_; rintro e w6 ⟨g6, rfl, hA6, hb6⟩; have h56 : Below w5.heap.size w5 w6 := (by first | exact hb6 | exact nstep (bel1 _ _) hb6); have hV6 := nstep hV5 h56; have hS2 := hS1.later h56; (try (have hZ6 := box_later' hZ5 h56; have hn6 := hn5)); (try (have hZ6 : w6.heap[w5.heap.size]? = some ZB := box_later' (heap_alloc_new w5 ZB) hb6; have hn6 : w5.heap.size ≠ B := (by have := hV5.size; omega))); clear tokB; have tokC : True := trivial)
      | (have _t := tokC; go_at_call 7; refine (crun8 5 a8S.cells a8S.ts ⟨[⟨4, []⟩], ⟨3, 6⟩, 0, 2⟩ a8S2 1 0 a8_run2 rfl rfl rfl rfl rfl _ _ _ _ _ _ (hC5.later goodC (by first | exact h56 | exact nstep h56 (bel1 _ _))) (hH5.later goodO (by first | exact h56 | exact nstep h56 (bel1 _ _))) (hA6.later goodV (by first | exact Below.refl _ _ | exact bel1 _ _)) (HL4.out.later goodE (by first | exact hV6 | exact nstep hV6 (bel1 _ _))) (HT4.out.later goodT (by first | exact hV6 | exact nstep hV6 (bel1 _ _))) few8b).mono ?_; rintro e w7 ⟨hb7, ac7, kc7, ah7, kh7, al7, kl7, at7, kt7, rfl, hL7, hT7⟩; have h67 : Below w6.heap.size w6 w7 := (by first | exact hb7 | exact nstep (bel1 _ _) hb7); have hV7 := nstep hV6 h67; have hS3 := hS2.later h67; (try (have hZ7 := box_later' hZ6 h67; have hn7 := hn6)); (try (have hZ7 : w7.heap[w6.heap.size]? = some ZB := box_later' (heap_alloc_new w6 ZB) hb7; have hn7 : w6.heap.size ≠ B := (by have := hV6.size; omega))); (try (obtain ⟨z0, z1, z2, z3, z4, z5, z6, z7, z8, z9, z10⟩ := obR_of (st := ⟨[], [], 0, 0⟩) hZ7; have zf := row_free hZ7)); clear tokC))
  · have v1 := box_later' (box_later' HVB.out hV7) (bel1 w7 (CB (.slice ac7 5 kc7) (.slice ah7 1 kh7) 1 ⟨[⟨4, []⟩], ⟨3, 6⟩, 0, 2⟩ (.slice al7 1 kl7) (.slice at7 1 kt7) 1 0))
    have v2 := heap_alloc_new w7 (CB (.slice ac7 5 kc7) (.slice ah7 1 kh7) 1 ⟨[⟨4, []⟩], ⟨3, 6⟩, 0, 2⟩ (.slice al7 1 kl7) (.slice at7 1 kt7) 1 0)
    have v3 : Below w.heap.size w (w7.alloc (CB (.slice ac7 5 kc7) (.slice ah7 1 kh7) 1 ⟨[⟨4, []⟩], ⟨3, 6⟩, 0, 2⟩ (.slice al7 1 kl7) (.slice at7 1 kt7) 1 0)) := nstep (nstep HB4.out hV7) (bel1 _ _)
    clear hS0 hSV hS1 hS2 hS3 hC5 hH5 hA6 hL7 hT7
    generalize (w7.alloc (CB (.slice ac7 5 kc7) (.slice ah7 1 kh7) 1 ⟨[⟨4, []⟩], ⟨3, 6⟩, 0, 2⟩ (.slice al7 1 kl7) (.slice at7 1 kt7) 1 0)) = U at *
    generalize w7.heap.size = b2 at *
    obtain ⟨-, -, -, -, p4, -, -, -, -, p9, p10⟩ := cb_of v1
    obtain ⟨-, -, -, -, q4, -, -, q7, q8, q9, q10⟩ := cb_of v2
    have HV3 := hid v3
    clear v1 v2 v3
    go_wp2
    go_ret
    exact ⟨rfl, HV3.out⟩
  · have hl7 : w.heap.size ≤ w6.heap.size := by have := HB4.out.size; have := hV5.size; have := hV6.size; omega
    obtain ⟨v1, v2, v3'⟩ := fin8 (box_later' HVB.out hV7) hZ7 hn7 (.slice ac7 5 kc7) (.slice ah7 1 kh7) (.int .i64 1) (.int .i64 3) (.int .i64 6) (.int .i64 0) (.int .i64 2) (.slice al7 1 kl7) (.slice at7 1 kt7) (.int .i64 1) (.int .i64 0)
    have v3 : Below w.heap.size w (((((((((((w7.setCell ⟨w6.heap.size, 0, none⟩ (.slice ac7 5 kc7)).setCell ⟨w6.heap.size, 1, none⟩ (.slice ah7 1 kh7)).setCell ⟨w6.heap.size, 2, none⟩ (.int .i64 1)).setCell ⟨w6.heap.size, 3, none⟩ (.int .i64 3)).setCell ⟨w6.heap.size, 4, none⟩ (.int .i64 6)).setCell ⟨w6.heap.size, 5, none⟩ (.int .i64 0)).setCell ⟨w6.heap.size, 6, none⟩ (.int .i64 2)).setCell ⟨w6.heap.size, 7, none⟩ (.slice al7 1 kl7)).setCell ⟨w6.heap.size, 8, none⟩ (.slice at7 1 kt7)).setCell ⟨w6.heap.size, 9, none⟩ (.int .i64 1)).setCell ⟨w6.heap.size, 10, none⟩ (.int .i64 0)) := v3' (nstep HB4.out hV7) hl7
    clear hS0 hSV hS1 hS2 hS3 hC5 hH5 hA6 hL7 hT7 v3' hZ7 z0 z1 z2 z3 z4 z5 z6 z7 z8 z9 z10 zf hn7 hl7
    generalize (((((((((((w7.setCell ⟨w6.heap.size, 0, none⟩ (.slice ac7 5 kc7)).setCell ⟨w6.heap.size, 1, none⟩ (.slice ah7 1 kh7)).setCell ⟨w6.heap.size, 2, none⟩ (.int .i64 1)).setCell ⟨w6.heap.size, 3, none⟩ (.int .i64 3)).setCell ⟨w6.heap.size, 4, none⟩ (.int .i64 6)).setCell ⟨w6.heap.size, 5, none⟩ (.int .i64 0)).setCell ⟨w6.heap.size, 6, none⟩ (.int .i64 2)).setCell ⟨w6.heap.size, 7, none⟩ (.slice al7 1 kl7)).setCell ⟨w6.heap.size, 8, none⟩ (.slice at7 1 kt7)).setCell ⟨w6.heap.size, 9, none⟩ (.int .i64 1)).setCell ⟨w6.heap.size, 10, none⟩ (.int .i64 0)) = U at *
    generalize w6.heap.size = b2 at *
    replace v2 : U.heap[b2]? = some (CB (.slice ac7 5 kc7) (.slice ah7 1 kh7) 1 ⟨[⟨4, []⟩], ⟨3, 6⟩, 0, 2⟩ (.slice al7 1 kl7) (.slice at7 1 kt7) 1 0) := v2
    obtain ⟨-, -, -, -, p4, -, -, -, -, p9, p10⟩ := cb_of v1
    obtain ⟨-, -, -, -, q4, -, -, q7, q8, q9, q10⟩ := cb_of v2
    have HV3 := hid v3
    clear v1 v2 v3
    go_wp2
    go_ret
    exact ⟨rfl, HV3.out⟩
  · have hl7 : w.heap.size ≤ w5.heap.size := by have := HB4.out.size; have := hV5.size; have := hV6.size; omega
    obtain ⟨v1, v2, v3'⟩ := fin8 (box_later' HVB.out hV7) hZ7 hn7 (.slice ac7 5 kc7) (.slice ah7 1 kh7) (.int .i64 1) (.int .i64 3) (.int .i64 6) (.int .i64 0) (.int .i64 2) (.slice al7 1 kl7) (.slice at7 1 kt7) (.int .i64 1) (.int .i64 0)
    have v3 : Below w.heap.size w (((((((((((w7.setCell ⟨w5.heap.size, 0, none⟩ (.slice ac7 5 kc7)).setCell ⟨w5.heap.size, 1, none⟩ (.slice ah7 1 kh7)).setCell ⟨w5.heap.size, 2, none⟩ (.int .i64 1)).setCell ⟨w5.heap.size, 3, none⟩ (.int .i64 3)).setCell ⟨w5.heap.size, 4, none⟩ (.int .i64 6)).setCell ⟨w5.heap.size, 5, none⟩ (.int .i64 0)).setCell ⟨w5.heap.size, 6, none⟩ (.int .i64 2)).setCell ⟨w5.heap.size, 7, none⟩ (.slice al7 1 kl7)).setCell ⟨w5.heap.size, 8, none⟩ (.slice at7 1 kt7)).setCell ⟨w5.heap.size, 9, none⟩ (.int .i64 1)).setCell ⟨w5.heap.size, 10, none⟩ (.int .i64 0)) := v3' (nstep HB4.out hV7) hl7
    clear hS0 hSV hS1 hS2 hS3 hC5 hH5 hA6 hL7 hT7 v3' hZ7 z0 z1 z2 z3 z4 z5 z6 z7 z8 z9 z10 zf hn7 hl7
    generalize (((((((((((w7.setCell ⟨w5.heap.size, 0, none⟩ (.slice ac7 5 kc7)).setCell ⟨w5.heap.size, 1, none⟩ (.slice ah7 1 kh7)).setCell ⟨w5.heap.size, 2, none⟩ (.int .i64 1)).setCell ⟨w5.heap.size, 3, none⟩ (.int .i64 3)).setCell ⟨w5.heap.size, 4, none⟩ (.int .i64 6)).setCell ⟨w5.heap.size, 5, none⟩ (.int .i64 0)).setCell ⟨w5.heap.size, 6, none⟩ (.int .i64 2)).setCell ⟨w5.heap.size, 7, none⟩ (.slice al7 1 kl7)).setCell ⟨w5.heap.size, 8, none⟩ (.slice at7 1 kt7)).setCell ⟨w5.heap.size, 9, none⟩ (.int .i64 1)).setCell ⟨w5.heap.size, 10, none⟩ (.int .i64 0)) = U at *
    generalize w5.heap.size = b2 at *
    replace v2 : U.heap[b2]? = some (CB (.slice ac7 5 kc7) (.slice ah7 1 kh7) 1 ⟨[⟨4, []⟩], ⟨3, 6⟩, 0, 2⟩ (.slice al7 1 kl7) (.slice at7 1 kt7) 1 0) := v2
    obtain ⟨-, -, -, -, p4, -, -, -, -, p9, p10⟩ := cb_of v1
    obtain ⟨-, -, -, -, q4, -, -, q7, q8, q9, q10⟩ := cb_of v2
    have HV3 := hid v3
    clear v1 v2 v3
    go_wp2
    go_ret
    exact ⟨rfl, HV3.out⟩
  · have hl7 : w.heap.size ≤ V.heap.size := by have := HB4.out.size; have := hV5.size; have := hV6.size; omega
    obtain ⟨v1, v2, v3'⟩ := fin8 (box_later' HVB.out hV7) hZ7 hn7 (.slice ac7 5 kc7) (.slice ah7 1 kh7) (.int .i64 1) (.int .i64 3) (.int .i64 6) (.int .i64 0) (.int .i64 2) (.slice al7 1 kl7) (.slice at7 1 kt7) (.int .i64 1) (.int .i64 0)
    have v3 : Below w.heap.size w (((((((((((w7.setCell ⟨V.heap.size, 0, none⟩ (.slice ac7 5 kc7)).setCell ⟨V.heap.size, 1, none⟩ (.slice ah7 1 kh7)).setCell ⟨V.heap.size, 2, none⟩ (.int .i64 1)).setCell ⟨V.heap.size, 3, none⟩ (.int .i64 3)).setCell ⟨V.heap.size, 4, none⟩ (.int .i64 6)).setCell ⟨V.heap.size, 5, none⟩ (.int .i64 0)).setCell ⟨V.heap.size, 6, none⟩ (.int .i64 2)).setCell ⟨V.heap.size, 7, none⟩ (.slice al7 1 kl7)).setCell ⟨V.heap.size, 8, none⟩ (.slice at7 1 kt7)).setCell ⟨V.heap.size, 9, none⟩ (.int .i64 1)).setCell ⟨V.heap.size, 10, none⟩ (.int .i64 0)) := v3' (nstep HB4.out hV7) hl7
    clear hS0 hSV hS1 hS2 hS3 hC5 hH5 hA6 hL7 hT7 v3' hZ7 z0 z1 z2 z3 z4 z5 z6 z7 z8 z9 z10 zf hn7 hl7
    generalize (((((((((((w7.setCell ⟨V.heap.size, 0, none⟩ (.slice ac7 5 kc7)).setCell ⟨V.heap.size, 1, none⟩ (.slice ah7 1 kh7)).setCell ⟨V.heap.size, 2, none⟩ (.int .i64 1)).setCell ⟨V.heap.size, 3, none⟩ (.int .i64 3)).setCell ⟨V.heap.size, 4, none⟩ (.int .i64 6)).setCell ⟨V.heap.size, 5, none⟩ (.int .i64 0)).setCell ⟨V.heap.size, 6, none⟩ (.int .i64 2)).setCell ⟨V.heap.size, 7, none⟩ (.slice al7 1 kl7)).setCell ⟨V.heap.size, 8, none⟩ (.slice at7 1 kt7)).setCell ⟨V.heap.size, 9, none⟩ (.int .i64 1)).setCell ⟨V.heap.size, 10, none⟩ (.int .i64 0)) = U at *
    generalize V.heap.size = b2 at *
    replace v2 : U.heap[b2]? = some (CB (.slice ac7 5 kc7) (.slice ah7 1 kh7) 1 ⟨[⟨4, []⟩], ⟨3, 6⟩, 0, 2⟩ (.slice al7 1 kl7) (.slice at7 1 kt7) 1 0) := v2
    obtain ⟨-, -, -, -, p4, -, -, -, -, p9, p10⟩ := cb_of v1
    obtain ⟨-, -, -, -, q4, -, -, q7, q8, q9, q10⟩ := cb_of v2
    have HV3 := hid v3
    clear v1 v2 v3
    go_wp2
    go_ret
    exact ⟨rfl, HV3.out⟩
end Go.Proofs.Ytdfbgpiikeheiaa

/- A call with caches, and once more: what the law asks. -/
namespace Go.Proofs.Ytdfbgpiikeheiaa
open Go.ChangeShapes Go.WideShapes Go.ChangeAt Go.RowKit
set_option linter.unusedSimpArgs false
set_option linter.unusedVariables false

theorem CFew.fold (X : QW) : ∀ (q : List Ask) (st : CSt) (n : Nat), CFew st (n + q.length) → CFew (foldC X st q) n
  | [], st, n, h => h
  | a :: r, st, n, h => CFew.fold X r (lookC X st a.1 a.2.1 a.2.2).1 n (CFew.look (by rw [List.length_cons] at h; exact h) X a.1 a.2.1 a.2.2)
structure AgW (r1 r2 : Ran × CSt) : Prop where
  ran : r2.1.v = r1.1.v ∧ r2.1.err = r1.1.err ∧ r2.1.sends = r1.1.sends
  pos : 0 ≤ r1.2.hits ∧ 0 ≤ r2.2.hits ∧ 0 ≤ r1.2.nots ∧ 0 ≤ r2.2.nots
  low : r1.2.hits ≤ 1000 ∧ r1.2.nots ≤ 1000 ∧ r2.2.hits ≤ 1000 ∧ r2.2.nots ≤ 1000
  all : r1.2.hits + r1.2.nots = r2.2.hits + r2.2.nots
  good : (∀ x ∈ r1.2.cells, x.many = false) → r1.1.err ≠ 10 → r2.2.nots = 0
  bad : (∀ x ∈ r1.2.cells, x.many = false) → r2.2.nots ≤ 1
theorem again_few {X : QW} (hX : rightE X = 0) (s : QV) (name : ByteArray) (args : List QV) : CFew ⟨(withE (cachedEnv X 400) X ⟨[], [], 0, 0⟩ s name args 400).2.cells, (withE (cachedEnv X 400) X ⟨[], [], 0, 0⟩ s name args 400).2.ts, 0, 0⟩ 400 := by
  have h0 : CFew ⟨[], [], 0, 0⟩ 801 := ⟨by decide, (fun x hx => by cases hx), by decide, (fun x hx => by cases hx), by decide, by decide⟩
  have hz : ∀ st : CSt, CFew st 400 → CFew ⟨st.cells, st.ts, 0, 0⟩ 400 := fun st h => ⟨h.c, h.cl, h.t, h.tl, by simp, by simp⟩
  unfold withE
  split
  · exact hz _ (h0.mono (by decide))
  · refine hz _ ?_
    have ht : TrueS X (⟨[], [], 0, 0⟩ : CSt).cells := fun x hx => by cases hx
    obtain ⟨q, hq⟩ := cached_ran hX 400 ht 20 (findE X.classes (classV X.heap s) name).1 (findE X.classes (classV X.heap s) name).2 s args
    have hr := hq _ ht
    have hle := (ent_le (plainEnv X 400) 20 ⟨X.heap, 0, 0, ()⟩ (findE X.classes (classV X.heap s) name).1 (findE X.classes (classV X.heap s) name).2 s args (by show (0 : Int) ≤ 400; decide)).1
    have hl : (q.length : Int) ≤ 401 := by have := hr.few; have h2 : (plainEnv X 400).fuel = 400 := rfl; rw [h2] at hle; omega
    show CFew (firstR (cachedEnv X 400) X ⟨[], [], 0, 0⟩ s name args).1.st 400
    have e : (firstR (cachedEnv X 400) X ⟨[], [], 0, 0⟩ s name args).1.st = foldC X ⟨[], [], 0, 0⟩ q := hr.st
    rw [e]
    exact CFew.fold X q _ 400 (h0.mono (by omega))
theorem again_with {X : QW} (hX : rightE X = 0) (s : QV) (name : ByteArray) (args : List QV) : AgW (withE (cachedEnv X 400) X ⟨[], [], 0, 0⟩ s name args 400) (withE (cachedEnv X 400) X ⟨(withE (cachedEnv X 400) X ⟨[], [], 0, 0⟩ s name args 400).2.cells, (withE (cachedEnv X 400) X ⟨[], [], 0, 0⟩ s name args 400).2.ts, 0, 0⟩ s name args 400) := by
  unfold withE
  by_cases hw : wrongCallE X s name args 400 ≠ 0
  · rw [if_pos hw, if_pos hw]
    exact ⟨⟨rfl, rfl, rfl⟩, by simp, by simp, rfl, fun _ _ => rfl, fun _ => by simp⟩
  · rw [if_neg hw, if_neg hw]
    have hle := (ent_le (cachedEnv X 400) 20 ⟨X.heap, 0, 0, ⟨[], [], 0, 0⟩⟩ (findE X.classes (classV X.heap s) name).1 (findE X.classes (classV X.heap s) name).2 s args (by show (0 : Int) ≤ 400; decide)).1
    have h2 : (cachedEnv X 400).fuel = 400 := rfl
    rw [h2] at hle
    have ha := again hX 400 (findE X.classes (classV X.heap s) name).1 (findE X.classes (classV X.heap s) name).2 s args (firstR (cachedEnv X 400) X ⟨[], [], 0, 0⟩ s name args).1.st.ts
    change AgPost (firstR (cachedEnv X 400) X ⟨[], [], 0, 0⟩ s name args) (firstR (cachedEnv X 400) X ⟨(firstR (cachedEnv X 400) X ⟨[], [], 0, 0⟩ s name args).1.st.cells, (firstR (cachedEnv X 400) X ⟨[], [], 0, 0⟩ s name args).1.st.ts, 0, 0⟩ s name args) at ha
    change (firstR (cachedEnv X 400) X ⟨[], [], 0, 0⟩ s name args).1.sends ≤ 400 at hle
    simp only
    generalize firstR (cachedEnv X 400) X ⟨[], [], 0, 0⟩ s name args = a at *
    generalize firstR (cachedEnv X 400) X ⟨a.1.st.cells, a.1.st.ts, 0, 0⟩ s name args = b at *
    obtain ⟨⟨r1, r2⟩, ⟨p1, p2, p3, p4⟩, al, fw, gd, bd⟩ := ha
    refine ⟨?_, ⟨p1, p3, p2, p4⟩, ⟨by simp only; omega, by simp only; omega, by simp only; omega, by simp only; omega⟩, al, fun hm he => gd hm ?_, bd⟩
    · unfold ranE
      rw [r1]
      split
      · exact ⟨rfl, rfl, r2⟩
      · exact ⟨rfl, rfl, r2⟩
    · unfold ranE at he
      split at he
      · exact he
      · rename_i h0; intro h10; rw [h10] at h0; exact h0 (by decide)
end Go.Proofs.Ytdfbgpiikeheiaa

/- == of values, and of what comes of runs. -/
namespace Go.Proofs.Ytdfbgpiikeheiaa
open Go.ChangeShapes Go.WideShapes Go.ChangeAt Go.RowKit
set_option linter.unusedSimpArgs false
set_option linter.unusedVariables false
set_option maxRecDepth 8000

theorem equalV (d : Nat) (k n k' n' : Int) (w : World) : (Op.equalIn (d + 2) 27 (.agg #[.int .i64 k, .int .i64 n]) (.agg #[.int .i64 k', .int .i64 n'])).run Try.prog w = .ok (k == k' && n == n') w := by
  have u3 := Try.underlying3
  have a3 := Try.isAgg3
  have z3 := Try.sizeOf3
  have hS : Try.prog.underlying 27 = some (.struct (Try.prog.fieldsOf 27)) := by kernel_rfl
  have hp : Try.prog.stoodInHeld 27 = false := by kernel_rfl
  rw [run_equalIn_struct w (d + 1) 27 _ _ hS hp]
  simp only [Program.fieldsOf, Try.underlying27]
  go_simp
  by_cases h1 : k = k' <;> by_cases h3 : n = n' <;> simp [h1, h3]
theorem eqlV (x y : QV) (w : World) : (binOp .eql 27 (VV x) (VV y)).run Try.prog w = .ok (.bool (x.k == y.k && x.n == y.n)) w := by
  rw [run_eql_struct, show (10000 : Nat) = 9998 + 2 from rfl, equalV]
  rfl
theorem equalR (x y : Ran) (w : World) : (Op.equalIn 10000 35 (RnV x) (RnV y)).run Try.prog w = .ok (x.v.k == y.v.k && x.v.n == y.v.n && x.err == y.err && x.sends == y.sends) w := by
  have u3 := Try.underlying3
  have a3 := Try.isAgg3
  have z3 := Try.sizeOf3
  have u31 := Try.underlying32
  have a31 := Try.isAgg32
  have z31 := Try.sizeOf32
  have a27 := Try.isAgg27
  have z27 := Try.sizeOf27
  have hV := equalV 9997
  have hS : Try.prog.underlying 35 = some (.struct (Try.prog.fieldsOf 35)) := by kernel_rfl
  have hp : Try.prog.stoodInHeld 35 = false := by kernel_rfl
  rw [show (10000 : Nat) = 9999 + 1 from rfl, run_equalIn_struct w 9999 35 _ _ hS hp]
  simp only [Program.fieldsOf, Try.underlying35]
  clear hS hp
  go_simp
  by_cases h1 : x.v.k = y.v.k <;> by_cases h2 : x.v.n = y.v.n <;> by_cases h3 : x.err = y.err <;> by_cases h4 : x.sends = y.sends <;> simp [h1, h2, h3, h4]
theorem eqlR (x y : Ran) (w : World) : (binOp .eql 35 (RnV x) (RnV y)).run Try.prog w = .ok (.bool (x.v.k == y.v.k && x.v.n == y.v.n && x.err == y.err && x.sends == y.sends)) w := by
  rw [run_eql_struct, equalR]
  rfl
theorem neqR (x y : Ran) (w : World) : (binOp .neq 35 (RnV x) (RnV y)).run Try.prog w = .ok (.bool !(x.v.k == y.v.k && x.v.n == y.v.n && x.err == y.err && x.sends == y.sends)) w := by
  rw [run_neq_struct, equalR]
  rfl
theorem eqR_self (x : Ran) : (x.v.k == x.v.k && x.v.n == x.v.n && x.err == x.err && x.sends == x.sends) = true := by simp
end Go.Proofs.Ytdfbgpiikeheiaa

/- What was looked for once is not looked for again. -/
namespace Go.Proofs.Ytdfbgpiikeheiaa
open Go.ChangeShapes Go.WideShapes Go.ChangeAt Go.RowKit
set_option linter.unusedSimpArgs false
set_option linter.unusedVariables false
set_option maxRecDepth 8000

set_option maxHeartbeats 4000000 in
theorem again_any {P Q : Nat → Prop} (X : QW) (s : QV) (name : ByteArray) (args : List QV) (cv hv av : Value) (w : World) (hC : IsClasses P w cv X.classes) (hH : IsHeap P w hv X.heap) (hA : IsVals Q w av args) (hn : name.size ≤ 140737488351232) : Calls Try.prog 3 #[WV cv hv X.epoch, ClV s name av] w fun e w' => e = .returned (.bool true) ∧ Below w.heap.size w w' := by
  obtain ⟨ac, cc, rfl, -⟩ := id hC
  obtain ⟨ah, ch, rfl, -⟩ := id hH
  obtain ⟨aa, ca, rfl, -⟩ := id hA
  have hB0 := bel2 w (.cells #[.slice ac X.classes.length cc, .slice ah X.heap.length ch, .int .i64 X.epoch] 25) (.cells #[.int .i64 s.k, .int .i64 s.n, .string name, .slice aa args.length ca] 30)
  obtain ⟨-, w0, w1, w2, c0, c1, c2, c3⟩ := wcR_new w (.slice ac X.classes.length cc) (.slice ah X.heap.length ch) X.epoch s name (.slice aa args.length ca)
  have hR0 : CrR w (.slice ac X.classes.length cc) (.slice ah X.heap.length ch) X.epoch s name (.slice aa args.length ca) _ := ⟨w0, w1, w2, c0, c1, c2, c3⟩
  clear w0 w1 w2 c0 c1 c2 c3
  go_enter Try.func3, Try.ntmps3
  go_upto_region 1 with (fail)
  generalize ((w.alloc (.cells #[.slice ac X.classes.length cc, .slice ah X.heap.length ch, .int .i64 X.epoch] 25)).alloc (.cells #[.int .i64 s.k, .int .i64 s.n, .string name, .slice aa args.length ca] 30)) = W at *
  go_wp2_with fail
  refine (alive8_any W).mono ?_
  rintro e v1 ⟨rfl, hb1⟩
  have hR1 := hR0.kp (T := fun _ => 0) (Kp.of_below (S := fun _ => False) hb1) id id
  have hbw1 := nstep hB0 hb1
  obtain ⟨q0, q1, q2, q3, q4, q5, q6⟩ := id hR1
  clear hR0 hb1 hB0
  go_wp2_with fail
  refine (rright_any X _ _ v1 (hC.later goodC hbw1) (hH.later goodO hbw1)).mono ?_
  rintro e v2 ⟨rfl, hb2⟩
  have hbw2 := nstep hbw1 hb2
  have hR2 := hR1.kp (T := fun _ => 0) (Kp.of_below (S := fun _ => False) hb2) id id
  clear hR1 q0 q1 q2 q3 q4 q5 q6 hbw1
  by_cases hX : rightE X = 0
  · have hX' : (rightE X != 0) = false := by simpa using hX
    obtain ⟨q0, q1, q2, q3, q4, q5, q6⟩ := id hR2
    have hag := again_with hX s name args
    have hfw := again_few hX s name args
    have hr1 := cached_any X hX s name args 400 [] [] _ _ _ _ _ v2 (hC.later goodC hbw2) (hH.later goodO hbw2) (hA.later goodV hbw2) (nilCells (fun _ => True) v2) (nilTallies (fun _ => True) v2) hn few8a
    obtain ⟨r1, hr⟩ : ∃ r1, withE (cachedEnv X 400) X ⟨[], [], 0, 0⟩ s name args 400 = r1 := ⟨_, rfl⟩
    rw [hr] at hag hfw hr1
    clear hr
    have HX := hid hX
    clear hX
    go_wp2_with fail
    refine hr1.mono ?_
    rintro e v3 ⟨hb3, cv3, hv3, lv3, tv3, rfl, hC3, hH3, hL3, hT3⟩
    obtain ⟨al, kl, rfl, -⟩ := id hL3
    obtain ⟨at', kt, rfl, -⟩ := id hT3
    obtain ⟨ac3, kc, rfl, -⟩ := id hC3
    obtain ⟨ah3, kh, rfl, -⟩ := id hH3
    have hbx := heap_alloc_new v3 (CB (.slice ac3 X.classes.length kc) (.slice ah3 r1.1.heap.length kh) X.epoch r1.1 (.slice al r1.2.cells.length kl) (.slice at' r1.2.ts.length kt) r1.2.hits r1.2.nots)
    have hb4 := bel1 v3 (CB (.slice ac3 X.classes.length kc) (.slice ah3 r1.1.heap.length kh) X.epoch r1.1 (.slice al r1.2.cells.length kl) (.slice at' r1.2.ts.length kt) r1.2.hits r1.2.nots)
    have hbw4 := nstep (nstep hbw2 hb3) hb4
    have hR4 := hR2.kp (T := fun _ => 0) (Kp.of_below (S := fun _ => False) (nstep hb3 hb4)) id id
    have hL4 := hL3.later goodE hb4
    have hT4 := hT3.later goodT hb4
    clear hR2 hb3 hb4 hL3 hT3 hC3 hH3 q0 q1 q2 q3 q4 q5 q6 hr1 hbw2
    go_upto_region 6 with (fail)
    generalize (v3.alloc (CB (.slice ac3 X.classes.length kc) (.slice ah3 r1.1.heap.length kh) X.epoch r1.1 (.slice al r1.2.cells.length kl) (.slice at' r1.2.ts.length kt) r1.2.hits r1.2.nots)) = V at *
    generalize v3.heap.size = Ba at *
    obtain ⟨q0, q1, q2, q3, q4, q5, q6⟩ := id hR4
    obtain ⟨-, -, -, -, -, -, -, o7, o8, -, -⟩ := cb_of hbx
    have hr2 := cached_any X HX.out s name args 400 r1.2.cells r1.2.ts _ _ _ _ _ V (hC.later goodC hbw4) (hH.later goodO hbw4) (hA.later goodV hbw4) hL4 hT4 hn hfw
    obtain ⟨r2, hr⟩ : ∃ r2, withE (cachedEnv X 400) X ⟨r1.2.cells, r1.2.ts, 0, 0⟩ s name args 400 = r2 := ⟨_, rfl⟩
    rw [hr] at hag hr2
    clear hr
    go_wp2_with fail
    refine hr2.mono ?_
    rintro e v5 ⟨hb5, cv5, hv5, lv5, tv5, rfl, hC5, hH5, hL5, hT5⟩
    obtain ⟨al5, kl5, rfl, -⟩ := id hL5
    obtain ⟨at5, kt5, rfl, -⟩ := id hT5
    obtain ⟨ac5, kc5, rfl, -⟩ := id hC5
    obtain ⟨ah5, kh5, rfl, -⟩ := id hH5
    have hbx5 := heap_alloc_new v5 (CB (.slice ac5 X.classes.length kc5) (.slice ah5 r2.1.heap.length kh5) X.epoch r2.1 (.slice al5 r2.2.cells.length kl5) (.slice at5 r2.2.ts.length kt5) r2.2.hits r2.2.nots)
    have hb6 := bel1 v5 (CB (.slice ac5 X.classes.length kc5) (.slice ah5 r2.1.heap.length kh5) X.epoch r2.1 (.slice al5 r2.2.cells.length kl5) (.slice at5 r2.2.ts.length kt5) r2.2.hits r2.2.nots)
    have hba := box_later' hbx (nstep hb5 hb6)
    have hL6 := hL4.later goodE (nstep hb5 hb6)
    have HB6 := hid (nstep hbw4 (nstep hb5 hb6))
    clear hR4 hb5 hb6 hL5 hT5 hC5 hH5 q0 q1 q2 q3 q4 q5 q6 hr2 hbw4 hL4 hT4 hbx o7 o8 hC hH hA hfw
    go_upto_region 7 with (fail)
    generalize (v5.alloc (CB (.slice ac5 X.classes.length kc5) (.slice ah5 r2.1.heap.length kh5) X.epoch r2.1 (.slice al5 r2.2.cells.length kl5) (.slice at5 r2.2.ts.length kt5) r2.2.hits r2.2.nots)) = U at *
    generalize v5.heap.size = Bb at *
    obtain ⟨-, -, -, p3, p4, p5, p6, p7, p8, p9, p10⟩ := cb_of hba
    obtain ⟨-, -, -, t3, t4, t5, t6, t7, t8, t9, t10⟩ := cb_of hbx5
    obtain ⟨⟨hp1, ⟨vk, vn⟩, er, sn⟩, ⟨cl1, ts1, hi1, no1⟩⟩ := r1
    obtain ⟨⟨hp2, ⟨vk2, vn2⟩, er2, sn2⟩, ⟨cl2, ts2, hi2, no2⟩⟩ := r2
    obtain ⟨⟨g1, g2, g3⟩, ⟨p1, p2, p3', p4'⟩, ⟨l1, l2, l3, l4⟩, al', gd, bd⟩ := hag
    simp only at g1 g2 g3 p1 p2 p3' p4' l1 l2 l3 l4 al' gd bd p3 p4 p5 p6 p7 p8 p9 p10 t3 t4 t5 t6 t7 t8 t9 t10 hL6
    cases g1
    subst g2 g3
    have hq := fun w' => neqR ⟨hp1, ⟨vk, vn⟩, er2, sn2⟩ ⟨hp1, ⟨vk, vn⟩, er2, sn2⟩ w'
    simp only [eqR_self, Bool.not_true] at hq
    have d1 : decide (hi1 < 0) = false := by simpa using p1
    have d2 : decide (hi2 < 0) = false := by simpa using p2
    have d3 : decide (no1 < 0) = false := by simpa using p3'
    have d4 : decide (no2 < 0) = false := by simpa using p4'
    have d5 : decide (1000 < hi1) = false := by simpa using l1
    have d6 : decide (1000 < no1) = false := by simpa using l2
    have d7 : decide (1000 < hi2) = false := by simpa using l3
    have d8 : decide (1000 < no2) = false := by simpa using l4
    have w1' : IntKind.i64.wrap (hi1 + no1) = hi1 + no1 := wrap_of (by omega) (by omega)
    have w2' : IntKind.i64.wrap (hi2 + no2) = hi1 + no1 := by rw [wrap_of (by omega) (by omega)]; exact al'.symm
    have GD := hid gd
    have BD := hid bd
    have NO : Hid (0 ≤ no2) := p4'
    clear gd bd al' p1 p2 p3' p4' l1 l2 l3 l4 hba hbx5
    obtain ⟨ad7, cp7, hlv, hll, hlc, -, hrow⟩ := id hL6
    cases hlv
    unfold maxLen at hlc
    go_wp2
    go_loopg [85] cl1.length (fun gk c wr => ∃ j : Nat, j + gk = cl1.length ∧ c = .int .i64 j ∧ Below U.heap.size U wr ∧ ∀ i y, i < j → cl1[i]? = some y → y.many = false)
    case atStart => exact ⟨0, by omega, rfl, Below.refl _ _, fun i y hi => by omega⟩
    case round =>
      obtain ⟨j, hj, rfl, hbr, hok⟩ := hrel
      have HO := hid hok
      have HBR := hid hbr
      clear hok
      by_cases hlt : j < cl1.length
      · have hx : cl1[j]? = some cl1[j] := by simp [hlt]
        have HX2 := hid hx
        generalize cl1[j] = y at *
        obtain ⟨b, o, rfl, -, v0, v1, v2, v3, v4, lv, v5, hll5⟩ := hrow j y hx
        obtain ⟨a9, k9, rfl, -⟩ := id hll5
        simp only [Nat.add_zero] at v0
        have u0 := cell_later hbr v0
        have u1 := cell_later hbr v1
        have u2 := cell_later hbr v2
        have u3 := cell_later hbr v3
        have u4 := cell_later hbr v4
        have u5 := cell_later hbr v5
        clear v0 v1 v2 v3 v4 v5 hrow hx hll5
        have hj1 : (j : Int) < (cl1.length : Int) := by omega
        have hj0 : (0 : Int) ≤ (j : Int) := by omega
        have HB7 : Hid (Below U.heap.size U (wr.alloc (.cells #[.int .i64 y.site.cls, .string y.site.name, .int .i64 y.site.at', .int .i64 y.epoch, .bool y.many, .slice a9 y.lines.length k9] 45))) := nstep hbr (bel1 _ _)
        have y4 : (wr.alloc (.cells #[.int .i64 y.site.cls, .string y.site.name, .int .i64 y.site.at', .int .i64 y.epoch, .bool y.many, .slice a9 y.lines.length k9] 45)).cell? ⟨wr.heap.size, 4, none⟩ = some (.bool y.many) := cell_new _ _ _ _ rfl 4
        clear hbr
        go_upto_region 12 with (fail)
        clear u0 u1 u2 u3 u4 u5
        generalize (wr.alloc (.cells #[.int .i64 y.site.cls, .string y.site.name, .int .i64 y.site.at', .int .i64 y.epoch, .bool y.many, .slice a9 y.lines.length k9] 45)) = V7 at *
        cases hm : y.many with
        | true =>
          rw [hm] at y4
          have HF := hid (nstep HB6.out HB7.out)
          go_wp2
          go_ret
          exact ⟨rfl, HF.out⟩
        | false =>
          rw [hm] at y4
          have HM := hid hm
          clear hm
          go_wp2
          go_roundg (gk - 1)
          case measure => omega
          case rel =>
            refine ⟨j + 1, by omega, by go_num, HB7.out, fun i y' hi hy => ?_⟩
            by_cases hij : i = j
            · subst hij
              rw [HX2.out] at hy
              cases hy
              exact HM.out
            · exact HO.out i y' (by omega) hy
      · have hj1 : ¬ ((j : Int) < (cl1.length : Int)) := by omega
        have hje : j = cl1.length := by omega
        have hall : Hid (∀ x ∈ cl1, x.many = false) := fun x hx => by
          obtain ⟨i, hi⟩ := List.getElem?_of_mem hx
          exact HO.out i x (by have := lt_of_get hi; omega) hi
        have HF := hid (nstep HB6.out HBR.out)
        have r5 := cell_later hbr p5
        have r10 := cell_later hbr t10
        clear hrow hbr hje
        by_cases he : er2 = 10
        · have he' : (er2 == 10) = true := by simpa using he
          have hle : decide (no2 ≤ 1) = true := by simpa using BD.out hall.out
          clear he
          go_wp2
          go_ret
          exact ⟨rfl, HF.out⟩
        · have he' : (er2 == 10) = false := by simpa using he
          have hno : no2 = 0 := GD.out hall.out he
          have hno' : (no2 == 0) = true := by simpa using hno
          clear he hno
          go_wp2
          go_ret
          exact ⟨rfl, HF.out⟩
  · have hX' : (rightE X != 0) = true := by simpa using hX
    have HB := hid hbw2
    clear hX hR2
    go_wp2
    go_ret
    exact ⟨rfl, HB.out⟩
end Go.Proofs.Ytdfbgpiikeheiaa

/- A call, read. -/
namespace Go.Proofs.Ytdfbgpiikeheiaa
open Go.ChangeShapes Go.WideShapes Go.ChangeAt Go.RowKit
set_option linter.unusedSimpArgs false
set_option linter.unusedVariables false
set_option maxRecDepth 8000
section
variable {H : Type} {enc : TypeId × Value → H} {w : World} {base : Nat} {spare : Nat → Bool} {held : Bool}
theorem cells30 : Try.prog.cellsOf 30 = 4 := by kernel_rfl
theorem open_call {r : Reach} {b0 : Nat} {v : Value} {d : DataW H} {p : List MemPlace} (hv : Value.okWide Try.prog w r b0 30 v) (h : DataW.Trod enc Try.prog w base spare held 30 v d p) (hw : ∀ n ∈ d.weights Try.prog 30, n ≤ 140737488351232) : ∃ (s : QV) (name : ByteArray) (av : Value) (args : List QV), v = ClV s name av ∧ name.size ≤ 140737488351232 ∧ IsVals Tru w av args := by
  obtain ⟨cs, rfl, hsz⟩ := okWide_struct Try.underlying30 hv
  obtain ⟨c0, c1, c2, c3, rfl⟩ := Joins.array4 (hsz.trans cells30)
  obtain ⟨fuel, hf0⟩ := h
  obtain ⟨xs, k, hk, hxy, _, hxl, hf⟩ := DataW.trod_struct Try.underlying30 hf0
  match xs, hxl with
  | [y0, y1, y2], _ =>
    have g0 := hf 0 _ rfl
    have g1 := hf 1 _ rfl
    have g2 := hf 2 _ rfl
    simp [Value.cells, cells27, cells9, cells28] at g0 g1 g2
    simp only [Prod.mk.injEq] at hxy
    obtain ⟨rfl, -⟩ := hxy
    obtain ⟨y, hy⟩ := read_val rfl g0
    obtain ⟨z0, z1⟩ := hy
    simp at z0 z1
    subst z0 z1
    obtain ⟨s, e1, e2, -⟩ := DataW.trod_string Try.underlying9 g1
    simp at e1
    subst e1
    obtain ⟨l, hl⟩ := read_vals g2 (fun q hq => hw q (weights_at (j := 2) (xs := [y0, y1, y2]) Try.underlying30 rfl rfl q hq))
    have hs : s.size ≤ 140737488351232 := by
      have := hw s.data.toList.length (weights_at (j := 1) (xs := [y0, y1, y2]) Try.underlying30 rfl rfl _ (by rw [e2]; simp [DataW.weights]))
      simpa using this
    exact ⟨y, s, _, l, rfl, hs, hl⟩
end
end Go.Proofs.Ytdfbgpiikeheiaa

/- CachedAgain: a call that is called again, and does the same, looks for nothing that a cell with few lines remembers. For every input. -/
namespace Go.Proofs.Ytdfbgpiikeheiaa
open Go.ChangeShapes Go.WideShapes Go.ChangeAt Go.RowKit
set_option linter.unusedSimpArgs false
set_option linter.unusedVariables false
set_option maxRecDepth 8000

set_option maxRecDepth 100000 in
theorem ca_lifted (os : Os) (started : os.Started) (H : Type) (enc : TypeId × Value → H) :
    ReturnsInHanded {} Try.checked os 3 .any (Rows.cachedAgainSpec.pre6 enc Try.prog Try.f3 Rows.cachedAgainRow.domain false) (Rows.cachedAgainSpec.post enc Try.prog Try.f3 false true false false) := by
  refine returnsInHanded_of_change_sized (C := Try.checked) own started (by kernel_rfl) Try.func3
    (ChangeSpec.witness6 (enc := enc) (C := Try.checked) false ⟨#[], #[WV (.slice none 0 0) (.slice none 0 0) 0, ClV ⟨0, 0⟩ ⟨#[]⟩ (.slice none 0 0)], []⟩ 8 (by kernel_rfl) (by kernel_rfl) (by kernel_rfl) (by kernel_rfl)) ?_
  intro W base args ds gs before hval0 hW hcnd hsz0 _
  have hval : ∀ (j : Nat) t v, Try.f3.params[j]? = some t → args[j]? = some v → Value.okWide Try.prog W .any base t v := hval0
  have hsz : (DataW.weightsEach Try.prog (Try.f3.params.toList ++ Rows.cachedAgainSpec.plain.varTypes Try.prog) (ds ++ gs)).all (· ≤ reachBytes) = true := hsz0
  have hW' := hW
  obtain ⟨p, q, hA0, hV, rfl, hfz, hnd⟩ := hW
  have hA : DataW.TrodAll enc Try.prog W 0 (fun _ => true) true Try.f3.params.toList args.toList ds p := hA0
  rw [Try.params3] at hA hval hsz
  obtain ⟨v0, vs0, d0, ds0, p0, q0, hargs, rfl, rfl, h0, r0⟩ := trodAll_cons hA
  obtain ⟨v1, vs1, d1, ds1, p1, q1, rfl, rfl, rfl, h1, r1⟩ := trodAll_cons r0
  obtain ⟨rfl, rfl, rfl⟩ := trodAll_nil r1
  obtain rfl : args = #[v0, v1] := by cases args; simp_all
  obtain ⟨rfl, rfl⟩ := trodVars_none hV
  have lt : ∀ {t : TypeId} {v : Value} {d : DataW H} {p : List MemPlace}, DataW.Trod enc Try.prog W 0 (fun _ => true) true t v d p → ∀ x ∈ p, x.block < W.heap.size := fun h => by obtain ⟨m, hm⟩ := h; exact DataW.trod_lt m _ _ _ hm
  have big : ∀ {j : Nat} {t : TypeId} {d : DataW H}, ([25, 30] : List TypeId)[j]? = some t → [d0, d1][j]? = some d → ∀ n ∈ d.weights Try.prog t, n ≤ 140737488351232 := fun {j t d} ht hd n hn => by
    have := List.all_eq_true.1 hsz _ (DataW.weights_mem_each (j := j) (t := t) (by exact ht) (by exact hd) n hn)
    exact of_decide_eq_true this
  have k0 := h0
  have k1 := h1
  obtain ⟨X0, cv0, hv0, rfl, hC0, hH0⟩ := open_world (hval 0 25 v0 rfl rfl) h0 (big (j := 0) rfl rfl)
  obtain ⟨s1, n1, av1, l1, rfl, hn1, hA1⟩ := open_call (hval 1 30 v1 rfl rfl) h1 (big (j := 1) rfl rfl)
  clear hA0 hval0
  refine (again_any X0 s1 n1 l1 _ _ _ W hC0 hH0 hA1 hn1).mono fun e W' ⟨he, bel⟩ => ?_
  subst he
  have again : ∀ {t : TypeId} {v : Value} {d : DataW H} {p : List MemPlace}, Try.prog.readableRec t = true → t < Try.prog.types.size → DataW.Trod enc Try.prog W 0 (fun _ => true) true t v d p → DataW.Trod enc Try.prog W' 0 (fun b => decide (b < W.heap.size)) true t v d p := fun hr ht h => Below.trod laidOut hr ht h bel (lt h)
  exact ⟨_, rfl, _, _, _, [], _, [], hW', trodAll_mk1 (shut_bool Try.underlying4 _), (trodAll_cons_mk (again (by kernel_rfl) (of_decide_eq_true (by kernel_rfl)) k0) (trodAll_cons_mk (again (by kernel_rfl) (of_decide_eq_true (by kernel_rfl)) k1) trodAll_mk0)), rfl, bel.frame _, fun h => by cases h⟩

theorem ca_over : Rows.cachedAgainRow.holds Try.pinned (OpenSpec.ofChange Rows.cachedAgainSpec) :=
  OpenClaim.holds_of_wide 3 Try.f3 rfl rfl rfl rfl rfl rfl rfl ⟨rfl, rfl, rfl, rfl, rfl⟩ rfl rfl rfl rfl rfl (by kernel_rfl) Try.func3 (by kernel_rfl)
    (of_decide_eq_true (by kernel_rfl)) (by unfold Func.isWrapper; first | (rw [if_pos (by decide +kernel)]; kernel_rfl) | (rw [if_neg (by decide +kernel)]; exact ⟨rfl, rfl⟩))
    (fun os started H enc _ => ca_lifted os started H enc)

/-- The statement. -/
theorem cachedAgain_holds : Rows.CachedAgainSaid := ca_over
#print axioms cachedAgain_holds

end Go.Proofs.Ytdfbgpiikeheiaa

