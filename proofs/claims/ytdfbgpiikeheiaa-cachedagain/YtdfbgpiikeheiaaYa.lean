/- The machine, as plain functions: what comes of a method, of a call, whatever looks for methods and tells fast code. -/
import Derived.Test.YtdfbgpiikeheiaaTa
import Derived.Test.YtdfbgpiikeheiaaNa
namespace Go.Proofs.Ytdfbgpiikeheiaa
open Go.ChangeShapes Go.WideShapes Go.ChangeAt Go.RowKit
set_option linter.unusedSimpArgs false
set_option linter.unusedVariables false
set_option maxRecDepth 8000

abbrev nilV : QV := ⟨0, 0⟩
def entryE (l : List QV) (n : Int) : QV := if n < 0 then nilV else l[n.toNat]?.getD nilV
def setEntryE (l : List QV) (n : Int) (v : QV) : List QV := if n < 0 then l else l.set n.toNat v
def belowE (l : List QV) (n : Int) : QV := entryE l ((l.length : Int) - 1 - n)
def roomsE (n : Int) : List QV := List.replicate (min (max n 0) 40).toNat nilV
def fromE (l : List QV) (n : Int) : Nat := l.length - (max n 0).toNat
def objAt (h : List QO) (v : QV) : Option QO := if v.k = 4 ∧ 0 ≤ v.n then h[v.n.toNat]? else none
def classV (h : List QO) (v : QV) : Int := if v.k = 0 then 1 else if v.k = 1 ∨ v.k = 2 then 2 else if v.k = 3 then 3 else ((objAt h v).map QO.cls).getD 0
def slotV (h : List QO) (v : QV) (n : Int) : QV := ((objAt h v).map fun o => entryE o.slots n).getD nilV
def setSlotE (h : List QO) (v : QV) (n : Int) (x : QV) : List QO := match objAt h v with
  | none => h
  | some o => h.set v.n.toNat ⟨o.cls, setEntryE o.slots n x⟩
def primV (p : Int) (a b : QV) : QV × Int :=
  if a.k ≠ 3 ∨ b.k ≠ 3 then (nilV, 12)
  else if p = 1 then (⟨3, (a.n + b.n).tmod 1073741825⟩, 0)
  else if p = 2 then (⟨3, (a.n - b.n).tmod 1073741825⟩, 0)
  else if p = 3 then (⟨3, (a.n * b.n).tmod 1073741825⟩, 0)
  else if p = 4 then (⟨if a.n < b.n then 2 else 1, 0⟩, 0)
  else if p = 5 then (⟨if a.n = b.n then 2 else 1, 0⟩, 0)
  else (nilV, 1)

/-- What a run works with: 'st' is whatever 'look' remembers. -/
structure Mc (σ : Type) where
  heap : List QO
  sends : Int
  turns : Int
  st : σ
structure Fr where
  cls : Int
  meth : QM
  self : QV
  args : List QV
  temps : List QV
  stack : List QV
  code : List QI
  pc : Int
  fast : Bool
structure Env (σ : Type) where
  classes : List QC
  fuel : Int
  look : σ → QS → Int → ByteArray → σ × (Int × Int)
  quick : Int → Int → Option (List QI × Int)
section
variable {σ : Type}
abbrev Ent (σ : Type) := Mc σ → Int → Int → QV → List QV → Mc σ × QV × Int

def Fr.push (f : Fr) (v : QV) : Fr := { f with stack := f.stack ++ [v] }
def Fr.pop (f : Fr) : Fr := { f with stack := f.stack.dropLast }
def Fr.top (f : Fr) : QV := belowE f.stack 0
def Fr.site (f : Fr) (at' : Int) (x : QI) : QS := ⟨f.cls, f.meth.name, if f.fast then x.c else at'⟩
def Fr.leave (f : Fr) (at' : Int) : Fr := { f with code := f.meth.code, temps := (roomsE f.meth.temps).zipIdx.map (fun p => (f.temps[p.2]?).getD nilV), pc := at', fast := false }
def pushedE (h : List QO) (f : Fr) (x : QI) : Option QV :=
  if x.op = 1 then some f.self else if x.op = 2 then some (entryE f.args x.a) else if x.op = 3 then some (entryE f.temps x.a) else if x.op = 4 then some (slotV h f.self x.a)
  else if x.op = 5 then some ⟨3, x.a⟩ else if x.op = 6 then some nilV else if x.op = 7 then some ⟨1, 0⟩ else if x.op = 8 then some ⟨2, 0⟩ else none
def jumpE (m : Mc σ) (f : Fr) (at' tg : Int) : Mc σ × Fr × Int :=
  let m' : Mc σ := if tg ≤ at' then { m with turns := m.turns + 1 } else m
  if 300 < m'.turns then (m', f, 16) else (m', { f with pc := tg }, 0)
/-- A send that is a call, too, where so many more calls may be within each other. -/
def countE (E : Env σ) (d : Nat) (m : Mc σ) : Mc σ × Int := if E.fuel ≤ m.sends then (m, 13) else if d = 0 then (m, 14) else ({ m with sends := m.sends + 1 }, 0)
def sendE (ent : Ent σ) (E : Env σ) (m : Mc σ) (f : Fr) (at' : Int) (x : QI) : Mc σ × Fr × Int :=
  let k := fromE f.stack x.a
  let args := f.stack.drop k
  let self := belowE (f.stack.take k) 0
  let l := E.look m.st (f.site at' x) (classV m.heap self) x.name
  let r := ent { m with st := l.1 } l.2.1 l.2.2 self args
  if r.2.2 ≠ 0 then (r.1, f, r.2.2) else (r.1, { f with stack := (f.stack.take k).dropLast ++ [r.2.1] }, 0)
def makeE (E : Env σ) (m : Mc σ) (f : Fr) (c : Int) : Mc σ × Fr × Int :=
  if 60 ≤ m.heap.length ∨ 2147483647 < slotsE E.classes c then (m, f, 15)
  else ({ m with heap := m.heap ++ [⟨c, List.replicate (slotsE E.classes c).toNat nilV⟩] }, f.push ⟨4, m.heap.length⟩, 0)
def elseE (m : Mc σ) (f : Fr) (at' tg : Int) : Mc σ × Fr × Int := if f.top.k = 2 then (m, f.pop, 0) else if f.top.k = 1 then jumpE m f.pop at' tg else (m, f, 11)
def fastE (E : Env σ) (d : Nat) (m : Mc σ) (f : Fr) (x : QI) : Mc σ × Fr × Int :=
  if f.fast = false then (m, f, 1)
  else if x.op = 18 then (m, if classV m.heap (belowE f.stack x.b) = x.a then f else f.leave x.c, 0)
  else if x.op = 19 then (m, f.push (slotV m.heap (entryE f.temps x.a) x.b), 0)
  else if x.op = 20 then ({ m with heap := setSlotE m.heap (entryE f.temps x.a) x.b f.top }, f.pop, 0)
  else if x.op = 21 then ((countE E d m).1, f, (countE E d m).2)
  else (m, f, 1)
/-- What one instruction does, that stands at at'. -/
def mstepE (ent : Ent σ) (E : Env σ) (d : Nat) (m : Mc σ) (f : Fr) (at' : Int) (x : QI) : Mc σ × Fr × Int :=
  match pushedE m.heap f x with
  | some v => (m, f.push v, 0)
  | none =>
    if x.op = 9 then (m, f.pop, 0)
    else if x.op = 10 then (m, f.push f.top, 0)
    else if x.op = 11 then (m, { f.pop with temps := setEntryE f.temps x.a f.top }, 0)
    else if x.op = 12 then ({ m with heap := setSlotE m.heap f.self x.a f.top }, f.pop, 0)
    else if x.op = 13 then makeE E m f x.a
    else if x.op = 14 then sendE ent E m f at' x
    else if x.op = 15 then jumpE m f at' x.a
    else if x.op = 16 then elseE m f at' x.a
    else fastE E d m f x
/-- What comes of a frame, from where it is on, in g steps at the most. -/
def finE (ent : Ent σ) (E : Env σ) (d : Nat) : Nat → Mc σ → Fr → Mc σ × QV × Int
  | 0, m, _ => (m, nilV, 9)
  | g + 1, m, f => match (if f.pc < 0 then none else f.code[f.pc.toNat]?) with
    | none => (m, nilV, 9)
    | some x =>
      if x.op = 17 then (m, f.top, 0)
      else
        let r := mstepE ent E d m { f with pc := f.pc + 1 } f.pc x
        if r.2.2 ≠ 0 then (r.1, nilV, r.2.2) else finE ent E d g r.1 r.2.1
def methAt (xs : List QC) (c n : Int) : Option QM := (clsAt xs c).bind fun x => if 0 ≤ n then x.methods[n.toNat]? else none
def frameE (E : Env σ) (c n : Int) (mt : QM) (self : QV) (args : List QV) : Fr := match E.quick c n with
  | none => ⟨c, mt, self, args, roomsE mt.temps, [], mt.code, 0, false⟩
  | some q => ⟨c, mt, self, args, roomsE q.2, [], q.1, 0, true⟩
/-- More steps than a frame can take. -/
def gasE (f : Fr) : Nat := 700 * (f.code.length + f.meth.code.length + 1)
/-- What comes of a method that was found, or not; 'body': what comes of its frame, if there is room for one more. -/
def enterE (E : Env σ) (d : Nat) (body : Mc σ → Fr → Mc σ × QV × Int) : Ent σ := fun m c n self args => match methAt E.classes c n with
  | none => (m, nilV, 10)
  | some mt =>
    if mt.args ≠ args.length then (m, nilV, 8)
    else if mt.prim ≠ 0 then (if E.fuel ≤ m.sends then (m, nilV, 13) else ({ m with sends := m.sends + 1 }, primV mt.prim self (entryE args 0)))
    else if (countE E d m).2 ≠ 0 then (m, nilV, (countE E d m).2) else body (countE E d m).1 (frameE E c n mt self args)
/-- So many more calls may be within each other. -/
def entE (E : Env σ) : Nat → Ent σ
  | 0 => enterE E 0 fun m _ => (m, nilV, 14)
  | d + 1 => enterE E (d + 1) fun m f => finE (entE E d) E d (gasE f) m f

/-- What comes of another run, with another fuel F, if this one comes to something: the same, if that is enough; else it tells that it isn't. -/
structure Sim {α : Type} (F : Int) (m : Mc σ) (r r' : Mc σ × α × Int) : Prop where
  mono : m.sends ≤ r.1.sends
  enough : r.2.2 = 0 → r.1.sends ≤ F → r' = r
  less : r.2.2 = 0 → F < r.1.sends → m.sends ≤ F → r'.2.2 = 13
theorem Sim.same {α : Type} {F : Int} {m : Mc σ} {r : Mc σ × α × Int} (h : r.1.sends = m.sends) : Sim F m r r := ⟨by omega, fun _ _ => rfl, fun _ _ _ => by omega⟩
theorem Sim.bad {α : Type} {F : Int} {m : Mc σ} {r r' : Mc σ × α × Int} (h : m.sends ≤ r.1.sends) (he : r.2.2 ≠ 0) : Sim F m r r' := ⟨h, fun h => absurd h he, fun h => absurd h he⟩
def Env.fuelled (E : Env σ) (F : Int) : Env σ := ⟨E.classes, F, E.look, E.quick⟩
theorem jump_sends (m : Mc σ) (f : Fr) (a b : Int) : (jumpE m f a b).1.sends = m.sends := by
  unfold jumpE
  by_cases h : b ≤ a
  · simp only [h, if_true]; split <;> rfl
  · simp only [h, if_false]; split <;> rfl
theorem count_sim {α : Type} (F : Int) (E : Env σ) (d : Nat) (m : Mc σ) (f : α) : Sim F m ((countE E d m).1, f, (countE E d m).2) ((countE (E.fuelled F) d m).1, f, (countE (E.fuelled F) d m).2) := by
  unfold countE Env.fuelled
  simp only []
  by_cases h1 : E.fuel ≤ m.sends
  · simp only [h1, if_true]
    exact .bad (by simp) (by simp)
  · simp only [h1, if_false]
    by_cases hd : d = 0
    · simp only [hd, if_true]
      exact .bad (by simp) (by simp)
    · simp only [hd, if_false]
      by_cases h2 : F ≤ m.sends
      · simp only [h2, if_true]
        exact ⟨by simp; omega, fun _ h => by simp at h; omega, fun _ _ _ => rfl⟩
      · simp only [h2, if_false]
        exact ⟨by simp; omega, fun _ _ => rfl, fun _ h _ => by simp at h; omega⟩
theorem fast_sim (F : Int) (E : Env σ) (d : Nat) (m : Mc σ) (f : Fr) (x : QI) : Sim F m (fastE E d m f x) (fastE (E.fuelled F) d m f x) := by
  unfold fastE
  split
  · exact .same rfl
  · split
    · exact .same rfl
    · split
      · exact .same rfl
      · split
        · exact .same rfl
        · split
          · exact count_sim F E d m f
          · exact .same rfl
theorem make_sends (E : Env σ) (m : Mc σ) (f : Fr) (c : Int) : (makeE E m f c).1.sends = m.sends := by
  unfold makeE; split <;> rfl
theorem else_sends (m : Mc σ) (f : Fr) (a b : Int) : (elseE m f a b).1.sends = m.sends := by
  unfold elseE
  split
  · rfl
  · split
    · exact jump_sends _ _ _ _
    · rfl
theorem send_sim {F : Int} {ent ent' : Ent σ} (E : Env σ) (h : ∀ m c n s a, Sim F m (ent m c n s a) (ent' m c n s a)) (m : Mc σ) (f : Fr) (at' : Int) (x : QI) : Sim F m (sendE ent E m f at' x) (sendE ent' (E.fuelled F) m f at' x) := by
  unfold sendE Env.fuelled
  simp only []
  generalize hl : E.look m.st (f.site at' x) (classV m.heap (belowE (f.stack.take (fromE f.stack x.a)) 0)) x.name = l
  have hs := h { m with st := l.1 } l.2.1 l.2.2 (belowE (f.stack.take (fromE f.stack x.a)) 0) (f.stack.drop (fromE f.stack x.a))
  generalize ent { m with st := l.1 } l.2.1 l.2.2 (belowE (f.stack.take (fromE f.stack x.a)) 0) (f.stack.drop (fromE f.stack x.a)) = r at hs ⊢
  generalize ent' { m with st := l.1 } l.2.1 l.2.2 (belowE (f.stack.take (fromE f.stack x.a)) 0) (f.stack.drop (fromE f.stack x.a)) = r' at hs ⊢
  have hm := hs.mono
  simp only [] at hm
  by_cases he : r.2.2 ≠ 0
  · rw [if_pos he]
    exact .bad hm he
  · have he0 : r.2.2 = 0 := by simpa using he
    rw [if_neg he]
    refine ⟨hm, fun _ hf => ?_, fun _ hf hk => ?_⟩
    · rw [hs.enough he0 hf, if_neg he]
    · have := hs.less he0 hf hk
      rw [if_pos (by omega)]
      exact this
theorem step_sim {F : Int} {ent ent' : Ent σ} (E : Env σ) (d : Nat) (h : ∀ m c n s a, Sim F m (ent m c n s a) (ent' m c n s a)) (m : Mc σ) (f : Fr) (at' : Int) (x : QI) : Sim F m (mstepE ent E d m f at' x) (mstepE ent' (E.fuelled F) d m f at' x) := by
  unfold mstepE
  split
  · exact .same rfl
  · split
    · exact .same rfl
    · split
      · exact .same rfl
      · split
        · exact .same rfl
        · split
          · exact .same rfl
          · split
            · exact .same (make_sends E m f x.a)
            · split
              · exact send_sim E h m f at' x
              · split
                · exact .same (jump_sends m f at' x.a)
                · split
                  · exact .same (else_sends m f at' x.a)
                  · exact fast_sim F E d m f x
theorem fin_sim {F : Int} {ent ent' : Ent σ} (E : Env σ) (d : Nat) (h : ∀ m c n s a, Sim F m (ent m c n s a) (ent' m c n s a)) : ∀ (g : Nat) (m : Mc σ) (f : Fr), Sim F m (finE ent E d g m f) (finE ent' (E.fuelled F) d g m f)
  | 0, m, f => .same rfl
  | g + 1, m, f => by
    unfold finE
    generalize (if f.pc < 0 then none else f.code[f.pc.toNat]?) = q
    cases q with
    | none => exact .same rfl
    | some x =>
      simp only []
      by_cases h17 : x.op = 17
      · rw [if_pos h17, if_pos h17]; exact .same rfl
      · rw [if_neg h17, if_neg h17]
        have hs := step_sim E d h m { f with pc := f.pc + 1 } f.pc x
        generalize mstepE ent E d m { f with pc := f.pc + 1 } f.pc x = r at hs ⊢
        generalize mstepE ent' (E.fuelled F) d m { f with pc := f.pc + 1 } f.pc x = r' at hs ⊢
        by_cases he : r.2.2 ≠ 0
        · rw [if_pos he]
          exact .bad hs.mono he
        · have he0 : r.2.2 = 0 := by simpa using he
          rw [if_neg he]
          have ih := fin_sim E d h g r.1 r.2.1
          refine ⟨Int.le_trans hs.mono ih.mono, fun h0 hf => ?_, fun h0 hf hk => ?_⟩
          · have e := hs.enough he0 (Int.le_trans ih.mono hf)
            rw [e, if_neg he]
            exact ih.enough h0 hf
          · rcases Int.lt_or_le F r.1.sends with hlt | hle
            · have := hs.less he0 hlt hk
              rw [if_pos (by omega)]
              exact this
            · have e := hs.enough he0 hle
              rw [e, if_neg he]
              exact ih.less h0 hf hle
theorem enter_sim {F : Int} (E : Env σ) (d : Nat) {body body' : Mc σ → Fr → Mc σ × QV × Int} (h : ∀ m f, Sim F m (body m f) (body' m f)) (m : Mc σ) (c n : Int) (s : QV) (a : List QV) : Sim F m (enterE E d body m c n s a) (enterE (E.fuelled F) d body' m c n s a) := by
  unfold enterE
  have hc : (E.fuelled F).classes = E.classes := rfl
  have hf' : (E.fuelled F).fuel = F := rfl
  have hfr : ∀ mt, frameE (E.fuelled F) c n mt s a = frameE E c n mt s a := fun _ => rfl
  rw [hc]
  simp only [hfr, hf']
  cases methAt E.classes c n with
  | none => exact .same rfl
  | some mt =>
    simp only []
    split
    · exact .same rfl
    · split
      · by_cases h1 : E.fuel ≤ m.sends
        · rw [if_pos h1]; exact .bad (by simp) (by simp)
        · rw [if_neg h1]
          by_cases h2 : F ≤ m.sends
          · rw [if_pos h2]
            exact ⟨by simp; omega, fun _ h => by simp at h; omega, fun _ _ _ => rfl⟩
          · rw [if_neg h2]
            exact ⟨by simp; omega, fun _ _ => rfl, fun _ h _ => by simp at h; omega⟩
      · have hs := count_sim F E d m ()
        generalize countE E d m = r at hs ⊢
        generalize countE (E.fuelled F) d m = r' at hs ⊢
        by_cases he : r.2 ≠ 0
        · rw [if_pos he]; exact .bad (by simp) he
        · have he0 : r.2 = 0 := by simpa using he
          rw [if_neg he]
          have ih := h r.1 (frameE E c n mt s a)
          have hmono := hs.mono
          simp only [] at hmono
          refine ⟨Int.le_trans hmono ih.mono, fun h0 hf => ?_, fun h0 hf hk => ?_⟩
          · have e := hs.enough he0 (Int.le_trans ih.mono hf)
            simp only [Prod.mk.injEq, true_and] at e
            rw [e.1, e.2, if_neg he]
            exact ih.enough h0 hf
          · rcases Int.lt_or_le F r.1.sends with hlt | hle
            · have e := hs.less he0 hlt hk
              simp only [] at e
              rw [e, if_pos (by omega)]
            · have e := hs.enough he0 hle
              simp only [Prod.mk.injEq, true_and] at e
              rw [e.1, e.2, if_neg he]
              exact ih.less h0 hf hle
theorem ent_sim (F : Int) (E : Env σ) : ∀ (d : Nat) (m : Mc σ) (c n : Int) (s : QV) (a : List QV), Sim F m (entE E d m c n s a) (entE (E.fuelled F) d m c n s a)
  | 0, m, c, n, s, a => enter_sim E 0 (fun m f => .same rfl) m c n s a
  | d + 1, m, c, n, s, a => enter_sim E (d + 1) (fun m f => fin_sim E d (ent_sim F E d) (gasE f) m f) m c n s a
end
end Go.Proofs.Ytdfbgpiikeheiaa
