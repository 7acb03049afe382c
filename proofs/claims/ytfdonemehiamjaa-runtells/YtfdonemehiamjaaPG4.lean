/- The machine, as plain functions: what comes of a method, of a call, whatever looks for methods and tells fast code. -/
import Derived.Test.YtfdonemehiamjaaPNa
import Derived.Test.YtfdonemehiamjaaPTa
namespace Go.Proofs.Ytfdonemehiamjaa
open Go.ChangeShapes Go.WideShapes Go.ChangeAt Go.RowKit
set_option linter.unusedSimpArgs false
set_option linter.unusedVariables false
set_option maxRecDepth 8000

abbrev nilV : QV := ⟨0, 0⟩
def entryE (l : List QV) (n : Int) : QV := if n < 0 then nilV else l[n.toNat]?.getD nilV
def setEntryE (l : List QV) (n : Int) (v : QV) : List QV := if n < 0 then l else l.set n.toNat v
def belowE (l : List QV) (n : Int) : QV := entryE l ((l.length : Int) - 1 - n)
def roomsE (n : Int) : List QV := List.replicate (min (max n 0) 40).toNat nilV
def fromE (l : List QV) (n : Int) : Nat := l.length - (max n 0).toNat
def objAt (h : List QO) (v : QV) : Option QO := if v.k = 4 ∧ 0 ≤ v.n then h[v.n.toNat]? else none
def classV (h : List QO) (v : QV) : Int := if v.k = 0 then 1 else if v.k = 1 ∨ v.k = 2 then 2 else if v.k = 3 then 3 else ((objAt h v).map QO.cls).getD 0
def slotV (h : List QO) (v : QV) (n : Int) : QV := ((objAt h v).map fun o => entryE o.slots n).getD nilV
def setSlotE (h : List QO) (v : QV) (n : Int) (x : QV) : List QO := match objAt h v with
  | none => h
  | some o => h.set v.n.toNat ⟨o.cls, setEntryE o.slots n x⟩
def primV (p : Int) (a b : QV) : QV × Int :=
  if a.k ≠ 3 ∨ b.k ≠ 3 then (nilV, 12)
  else if p = 1 then (⟨3, (a.n + b.n).tmod 1073741825⟩, 0)
  else if p = 2 then (⟨3, (a.n - b.n).tmod 1073741825⟩, 0)
  else if p = 3 then (⟨3, (a.n * b.n).tmod 1073741825⟩, 0)
  else if p = 4 then (⟨if a.n < b.n then 2 else 1, 0⟩, 0)
  else if p = 5 then (⟨if a.n = b.n then 2 else 1, 0⟩, 0)
  else (nilV, 1)

/-- What a run works with: 'st' is whatever 'look' remembers. -/
structure Mc (σ : Type) where
  heap : List QO
  sends : Int
  turns : Int
  st : σ
structure Fr where
  cls : Int
  meth : QM
  self : QV
  args : List QV
  temps : List QV
  stack : List QV
  code : List QI
  pc : Int
  fast : Bool
structure Env (σ : Type) where
  classes : List QC
  fuel : Int
  look : σ → QS → Int → ByteArray → σ × (Int × Int)
  quick : Int → Int → Option (List QI × Int)
section
variable {σ : Type}
abbrev Ent (σ : Type) := Mc σ → Int → Int → QV → List QV → Mc σ × QV × Int

def Fr.push (f : Fr) (v : QV) : Fr := { f with stack := f.stack ++ [v] }
def Fr.pop (f : Fr) : Fr := { f with stack := f.stack.dropLast }
def Fr.top (f : Fr) : QV := belowE f.stack 0
def Fr.site (f : Fr) (at' : Int) (x : QI) : QS := ⟨f.cls, f.meth.name, if f.fast then x.c else at'⟩
def Fr.leave (f : Fr) (at' : Int) : Fr := { f with code := f.meth.code, temps := (roomsE f.meth.temps).zipIdx.map (fun p => (f.temps[p.2]?).getD nilV), pc := at', fast := false }
def pushedE (h : List QO) (f : Fr) (x : QI) : Option QV :=
  if x.op = 1 then some f.self else if x.op = 2 then some (entryE f.args x.a) else if x.op = 3 then some (entryE f.temps x.a) else if x.op = 4 then some (slotV h f.self x.a)
  else if x.op = 5 then some ⟨3, x.a⟩ else if x.op = 6 then some nilV else if x.op = 7 then some ⟨1, 0⟩ else if x.op = 8 then some ⟨2, 0⟩ else none
def jumpE (m : Mc σ) (f : Fr) (at' tg : Int) : Mc σ × Fr × Int :=
  let m' : Mc σ := if tg ≤ at' then { m with turns := m.turns + 1 } else m
  if 300 < m'.turns then (m', f, 16) else (m', { f with pc := tg }, 0)
/-- A send that is a call, too, where so many more calls may be within each other. -/
def countE (E : Env σ) (d : Nat) (m : Mc σ) : Mc σ × Int := if E.fuel ≤ m.sends then (m, 13) else if d = 0 then (m, 14) else ({ m with sends := m.sends + 1 }, 0)
def sendE (ent : Ent σ) (E : Env σ) (m : Mc σ) (f : Fr) (at' : Int) (x : QI) : Mc σ × Fr × Int :=
  let k := fromE f.stack x.a
  let args := f.stack.drop k
  let self := belowE (f.stack.take k) 0
  let l := E.look m.st (f.site at' x) (classV m.heap self) x.name
  let r := ent { m with st := l.1 } l.2.1 l.2.2 self args
  if r.2.2 ≠ 0 then (r.1, f, r.2.2) else (r.1, { f with stack := (f.stack.take k).dropLast ++ [r.2.1] }, 0)
def makeE (E : Env σ) (m : Mc σ) (f : Fr) (c : Int) : Mc σ × Fr × Int :=
  if 60 ≤ m.heap.length ∨ 2147483647 < slotsE E.classes c then (m, f, 15)
  else ({ m with heap := m.heap ++ [⟨c, List.replicate (slotsE E.classes c).toNat nilV⟩] }, f.push ⟨4, m.heap.length⟩, 0)
def elseE (m : Mc σ) (f : Fr) (at' tg : Int) : Mc σ × Fr × Int := if f.top.k = 2 then (m, f.pop, 0) else if f.top.k = 1 then jumpE m f.pop at' tg else (m, f, 11)
def fastE (E : Env σ) (d : Nat) (m : Mc σ) (f : Fr) (x : QI) : Mc σ × Fr × Int :=
  if f.fast = false then (m, f, 1)
  else if x.op = 18 then (m, if classV m.heap (belowE f.stack x.b) = x.a then f else f.leave x.c, 0)
  else if x.op = 19 then (m, f.push (slotV m.heap (entryE f.temps x.a) x.b), 0)
  else if x.op = 20 then ({ m with heap := setSlotE m.heap (entryE f.temps x.a) x.b f.top }, f.pop, 0)
  else if x.op = 21 then ((countE E d m).1, f, (countE E d m).2)
  else (m, f, 1)
/-- What one instruction does, that stands at at'. -/
def mstepE (ent : Ent σ) (E : Env σ) (d : Nat) (m : Mc σ) (f : Fr) (at' : Int) (x : QI) : Mc σ × Fr × Int :=
  match pushedE m.heap f x with
  | some v => (m, f.push v, 0)
  | none =>
    if x.op = 9 then (m, f.pop, 0)
    else if x.op = 10 then (m, f.push f.top, 0)
    else if x.op = 11 then (m, { f.pop with temps := setEntryE f.temps x.a f.top }, 0)
    else if x.op = 12 then ({ m with heap := setSlotE m.heap f.self x.a f.top }, f.pop, 0)
    else if x.op = 13 then makeE E m f x.a
    else if x.op = 14 then sendE ent E m f at' x
    else if x.op = 15 then jumpE m f at' x.a
    else if x.op = 16 then elseE m f at' x.a
    else fastE E d m f x
/-- What comes of a frame, from where it is on, in g steps at the most. -/
def finE (ent : Ent σ) (E : Env σ) (d : Nat) : Nat → Mc σ → Fr → Mc σ × QV × Int
  | 0, m, _ => (m, nilV, 9)
  | g + 1, m, f => match (if f.pc < 0 then none else f.code[f.pc.toNat]?) with
    | none => (m, nilV, 9)
    | some x =>
      if x.op = 17 then (m, f.top, 0)
      else
        let r := mstepE ent E d m { f with pc := f.pc + 1 } f.pc x
        if r.2.2 ≠ 0 then (r.1, nilV, r.2.2) else finE ent E d g r.1 r.2.1
def methAt (xs : List QC) (c n : Int) : Option QM := (clsAt xs c).bind fun x => if 0 ≤ n then x.methods[n.toNat]? else none
def frameE (E : Env σ) (c n : Int) (mt : QM) (self : QV) (args : List QV) : Fr := match E.quick c n with
  | none => ⟨c, mt, self, args, roomsE mt.temps, [], mt.code, 0, false⟩
  | some q => ⟨c, mt, self, args, roomsE q.2, [], q.1, 0, true⟩
/-- More steps than a frame can take. -/
def gasE (f : Fr) : Nat := 700 * (f.code.length + f.meth.code.length + 1)
/-- What comes of a method that was found, or not; 'body': what comes of its frame, if there is room for one more. -/
def enterE (E : Env σ) (d : Nat) (body : Mc σ → Fr → Mc σ × QV × Int) : Ent σ := fun m c n self args => match methAt E.classes c n with
  | none => (m, nilV, 10)
  | some mt =>
    if mt.args ≠ args.length then (m, nilV, 8)
    else if mt.prim ≠ 0 then (if E.fuel ≤ m.sends then (m, nilV, 13) else ({ m with sends := m.sends + 1 }, primV mt.prim self (entryE args 0)))
    else if (countE E d m).2 ≠ 0 then (m, nilV, (countE E d m).2) else body (countE E d m).1 (frameE E c n mt self args)
/-- So many more calls may be within each other. -/
def entE (E : Env σ) : Nat → Ent σ
  | 0 => enterE E 0 fun m _ => (m, nilV, 14)
  | d + 1 => enterE E (d + 1) fun m f => finE (entE E d) E d (gasE f) m f

/-- What comes of another run, with another fuel F, if this one comes to something: the same, if that is enough; else it tells that it isn't. -/
structure Sim {α : Type} (F : Int) (m : Mc σ) (r r' : Mc σ × α × Int) : Prop where
  mono : m.sends ≤ r.1.sends
  enough : r.2.2 = 0 → r.1.sends ≤ F → r' = r
  less : r.2.2 = 0 → F < r.1.sends → m.sends ≤ F → r'.2.2 = 13
theorem Sim.same {α : Type} {F : Int} {m : Mc σ} {r : Mc σ × α × Int} (h : r.1.sends = m.sends) : Sim F m r r := ⟨by omega, fun _ _ => rfl, fun _ _ _ => by omega⟩
theorem Sim.bad {α : Type} {F : Int} {m : Mc σ} {r r' : Mc σ × α × Int} (h : m.sends ≤ r.1.sends) (he : r.2.2 ≠ 0) : Sim F m r r' := ⟨h, fun h => absurd h he, fun h => absurd h he⟩
def Env.fuelled (E : Env σ) (F : Int) : Env σ := ⟨E.classes, F, E.look, E.quick⟩
theorem jump_sends (m : Mc σ) (f : Fr) (a b : Int) : (jumpE m f a b).1.sends = m.sends := by
  unfold jumpE
  by_cases h : b ≤ a
  · simp only [h, if_true]; split <;> rfl
  · simp only [h, if_false]; split <;> rfl
theorem count_sim {α : Type} (F : Int) (E : Env σ) (d : Nat) (m : Mc σ) (f : α) : Sim F m ((countE E d m).1, f, (countE E d m).2) ((countE (E.fuelled F) d m).1, f, (countE (E.fuelled F) d m).2) := by
  unfold countE Env.fuelled
  simp only []
  by_cases h1 : E.fuel ≤ m.sends
  · simp only [h1, if_true]
    exact .bad (by simp) (by simp)
  · simp only [h1, if_false]
    by_cases hd : d = 0
    · simp only [hd, if_true]
      exact .bad (by simp) (by simp)
    · simp only [hd, if_false]
      by_cases h2 : F ≤ m.sends
      · simp only [h2, if_true]
        exact ⟨by simp; omega, fun _ h => by simp at h; omega, fun _ _ _ => rfl⟩
      · simp only [h2, if_false]
        exact ⟨by simp; omega, fun _ _ => rfl, fun _ h _ => by simp at h; omega⟩
theorem fast_sim (F : Int) (E : Env σ) (d : Nat) (m : Mc σ) (f : Fr) (x : QI) : Sim F m (fastE E d m f x) (fastE (E.fuelled F) d m f x) := by
  unfold fastE
  split
  · exact .same rfl
  · split
    · exact .same rfl
    · split
      · exact .same rfl
      · split
        · exact .same rfl
        · split
          · exact count_sim F E d m f
          · exact .same rfl
theorem make_sends (E : Env σ) (m : Mc σ) (f : Fr) (c : Int) : (makeE E m f c).1.sends = m.sends := by
  unfold makeE; split <;> rfl
theorem else_sends (m : Mc σ) (f : Fr) (a b : Int) : (elseE m f a b).1.sends = m.sends := by
  unfold elseE
  split
  · rfl
  · split
    · exact jump_sends _ _ _ _
    · rfl
theorem send_sim {F : Int} {ent ent' : Ent σ} (E : Env σ) (h : ∀ m c n s a, Sim F m (ent m c n s a) (ent' m c n s a)) (m : Mc σ) (f : Fr) (at' : Int) (x : QI) : Sim F m (sendE ent E m f at' x) (sendE ent' (E.fuelled F) m f at' x) := by
  unfold sendE Env.fuelled
  simp only []
  generalize hl : E.look m.st (f.site at' x) (classV m.heap (belowE (f.stack.take (fromE f.stack x.a)) 0)) x.name = l
  have hs := h { m with st := l.1 } l.2.1 l.2.2 (belowE (f.stack.take (fromE f.stack x.a)) 0) (f.stack.drop (fromE f.stack x.a))
  generalize ent { m with st := l.1 } l.2.1 l.2.2 (belowE (f.stack.take (fromE f.stack x.a)) 0) (f.stack.drop (fromE f.stack x.a)) = r at hs ⊢
  generalize ent' { m with st := l.1 } l.2.1 l.2.2 (belowE (f.stack.take (fromE f.stack x.a)) 0) (f.stack.drop (fromE f.stack x.a)) = r' at hs ⊢
  have hm := hs.mono
  simp only [] at hm
  by_cases he : r.2.2 ≠ 0
  · rw [if_pos he]
    exact .bad hm he
  · have he0 : r.2.2 = 0 := by simpa using he
    rw [if_neg he]
    refine ⟨hm, fun _ hf => ?_, fun _ hf hk => ?_⟩
    · rw [hs.enough he0 hf, if_neg he]
    · have := hs.less he0 hf hk
      rw [if_pos (by omega)]
      exact this
theorem step_sim {F : Int} {ent ent' : Ent σ} (E : Env σ) (d : Nat) (h : ∀ m c n s a, Sim F m (ent m c n s a) (ent' m c n s a)) (m : Mc σ) (f : Fr) (at' : Int) (x : QI) : Sim F m (mstepE ent E d m f at' x) (mstepE ent' (E.fuelled F) d m f at' x) := by
  unfold mstepE
  split
  · exact .same rfl
  · split
    · exact .same rfl
    · split
      · exact .same rfl
      · split
        · exact .same rfl
        · split
          · exact .same rfl
          · split
            · exact .same (make_sends E m f x.a)
            · split
              · exact send_sim E h m f at' x
              · split
                · exact .same (jump_sends m f at' x.a)
                · split
                  · exact .same (else_sends m f at' x.a)
                  · exact fast_sim F E d m f x
theorem fin_sim {F : Int} {ent ent' : Ent σ} (E : Env σ) (d : Nat) (h : ∀ m c n s a, Sim F m (ent m c n s a) (ent' m c n s a)) : ∀ (g : Nat) (m : Mc σ) (f : Fr), Sim F m (finE ent E d g m f) (finE ent' (E.fuelled F) d g m f)
  | 0, m, f => .same rfl
  | g + 1, m, f => by
    unfold finE
    generalize (if f.pc < 0 then none else f.code[f.pc.toNat]?) = q
    cases q with
    | none => exact .same rfl
    | some x =>
      simp only []
      by_cases h17 : x.op = 17
      · rw [if_pos h17, if_pos h17]; exact .same rfl
      · rw [if_neg h17, if_neg h17]
        have hs := step_sim E d h m { f with pc := f.pc + 1 } f.pc x
        generalize mstepE ent E d m { f with pc := f.pc + 1 } f.pc x = r at hs ⊢
        generalize mstepE ent' (E.fuelled F) d m { f with pc := f.pc + 1 } f.pc x = r' at hs ⊢
        by_cases he : r.2.2 ≠ 0
        · rw [if_pos he]
          exact .bad hs.mono he
        · have he0 : r.2.2 = 0 := by simpa using he
          rw [if_neg he]
          have ih := fin_sim E d h g r.1 r.2.1
          refine ⟨Int.le_trans hs.mono ih.mono, fun h0 hf => ?_, fun h0 hf hk => ?_⟩
          · have e := hs.enough he0 (Int.le_trans ih.mono hf)
            rw [e, if_neg he]
            exact ih.enough h0 hf
          · rcases Int.lt_or_le F r.1.sends with hlt | hle
            · have := hs.less he0 hlt hk
              rw [if_pos (by omega)]
              exact this
            · have e := hs.enough he0 hle
              rw [e, if_neg he]
              exact ih.less h0 hf hle
theorem enter_sim {F : Int} (E : Env σ) (d : Nat) {body body' : Mc σ → Fr → Mc σ × QV × Int} (h : ∀ m f, Sim F m (body m f) (body' m f)) (m : Mc σ) (c n : Int) (s : QV) (a : List QV) : Sim F m (enterE E d body m c n s a) (enterE (E.fuelled F) d body' m c n s a) := by
  unfold enterE
  have hc : (E.fuelled F).classes = E.classes := rfl
  have hf' : (E.fuelled F).fuel = F := rfl
  have hfr : ∀ mt, frameE (E.fuelled F) c n mt s a = frameE E c n mt s a := fun _ => rfl
  rw [hc]
  simp only [hfr, hf']
  cases methAt E.classes c n with
  | none => exact .same rfl
  | some mt =>
    simp only []
    split
    · exact .same rfl
    · split
      · by_cases h1 : E.fuel ≤ m.sends
        · rw [if_pos h1]; exact .bad (by simp) (by simp)
        · rw [if_neg h1]
          by_cases h2 : F ≤ m.sends
          · rw [if_pos h2]
            exact ⟨by simp; omega, fun _ h => by simp at h; omega, fun _ _ _ => rfl⟩
          · rw [if_neg h2]
            exact ⟨by simp; omega, fun _ _ => rfl, fun _ h _ => by simp at h; omega⟩
      · have hs := count_sim F E d m ()
        generalize countE E d m = r at hs ⊢
        generalize countE (E.fuelled F) d m = r' at hs ⊢
        by_cases he : r.2 ≠ 0
        · rw [if_pos he]; exact .bad (by simp) he
        · have he0 : r.2 = 0 := by simpa using he
          rw [if_neg he]
          have ih := h r.1 (frameE E c n mt s a)
          have hmono := hs.mono
          simp only [] at hmono
          refine ⟨Int.le_trans hmono ih.mono, fun h0 hf => ?_, fun h0 hf hk => ?_⟩
          · have e := hs.enough he0 (Int.le_trans ih.mono hf)
            simp only [Prod.mk.injEq, true_and] at e
            rw [e.1, e.2, if_neg he]
            exact ih.enough h0 hf
          · rcases Int.lt_or_le F r.1.sends with hlt | hle
            · have e := hs.less he0 hlt hk
              simp only [] at e
              rw [e, if_pos (by omega)]
            · have e := hs.enough he0 hle
              simp only [Prod.mk.injEq, true_and] at e
              rw [e.1, e.2, if_neg he]
              exact ih.less h0 hf hle
theorem ent_sim (F : Int) (E : Env σ) : ∀ (d : Nat) (m : Mc σ) (c n : Int) (s : QV) (a : List QV), Sim F m (entE E d m c n s a) (entE (E.fuelled F) d m c n s a)
  | 0, m, c, n, s, a => enter_sim E 0 (fun m f => .same rfl) m c n s a
  | d + 1, m, c, n, s, a => enter_sim E (d + 1) (fun m f => fin_sim E d (ent_sim F E d) (gasE f) m f) m c n s a
end
end Go.Proofs.Ytfdonemehiamjaa
/- A right world stays right, whatever runs: as plain functions. -/
namespace Go.Proofs.Ytfdonemehiamjaa
open Go.ChangeShapes Go.WideShapes Go.ChangeAt Go.RowKit
set_option linter.unusedSimpArgs false
set_option linter.unusedVariables false
set_option maxRecDepth 8000

theorem wrongV_later {h h' : Int} {v : QV} (hv : wrongV h v = 0) (hh : h ≤ h') : wrongV h' v = 0 := by
  unfold wrongV wrongK at hv ⊢
  split at hv
  · cases hv
  · split at hv
    · rename_i a b; rw [if_neg a, if_pos b]; exact hv
    · split at hv
      · rename_i a b c; rw [if_neg a, if_neg b, if_pos c]; exact hv
      · rename_i a b c
        rw [if_neg a, if_neg b, if_neg c]
        split at hv
        · cases hv
        · rename_i d; rw [if_neg (by omega)]
theorem wrongV_nil (h : Int) : wrongV h nilV = 0 := by simp [wrongV, wrongK]
def VsOk (h : Int) (l : List QV) : Prop := ∀ v ∈ l, wrongV h v = 0
theorem VsOk.later {h h' : Int} {l : List QV} (hl : VsOk h l) (hh : h ≤ h') : VsOk h' l := fun v hv => wrongV_later (hl v hv) hh
theorem VsOk.entry {h : Int} {l : List QV} (hl : VsOk h l) (n : Int) : wrongV h (entryE l n) = 0 := by
  unfold entryE
  split
  · exact wrongV_nil h
  · cases hq : l[n.toNat]? with
    | none => exact wrongV_nil h
    | some v => exact hl v (List.mem_of_getElem? hq)
theorem VsOk.setEntry {h : Int} {l : List QV} (hl : VsOk h l) (n : Int) {x : QV} (hx : wrongV h x = 0) : VsOk h (setEntryE l n x) := by
  unfold setEntryE
  split
  · exact hl
  · intro v hv
    rcases List.mem_or_eq_of_mem_set hv with h1 | rfl
    · exact hl v h1
    · exact hx
theorem setEntry_len (l : List QV) (n : Int) (x : QV) : (setEntryE l n x).length = l.length := by unfold setEntryE; split <;> simp
theorem VsOk.append {h : Int} {l : List QV} (hl : VsOk h l) {x : QV} (hx : wrongV h x = 0) : VsOk h (l ++ [x]) := fun v hv => by
  simp at hv
  rcases hv with h1 | rfl
  · exact hl v h1
  · exact hx
theorem VsOk.sub {h : Int} {l k : List QV} (hl : VsOk h l) (hk : ∀ v ∈ k, v ∈ l) : VsOk h k := fun v hv => hl v (hk v hv)
theorem rooms_ok (h n : Int) : VsOk h (roomsE n) := fun v hv => by
  unfold roomsE at hv
  rw [(List.mem_replicate.1 hv).2]
  exact wrongV_nil h

structure HOk (cs : List QC) (h : List QO) : Prop where
  len : h.length ≤ 60
  obj : ∀ o ∈ h, belowB cs.length o.cls = true ∧ (o.slots.length : Int) = slotsW cs o.cls ∧ VsOk h.length o.slots
theorem objAt_some {h : List QO} {v : QV} {o : QO} (e : objAt h v = some o) : h[v.n.toNat]? = some o := by
  unfold objAt at e
  split at e
  · exact e
  · cases e
theorem HOk.slot {cs : List QC} {h : List QO} (hh : HOk cs h) (v : QV) (n : Int) : wrongV h.length (slotV h v n) = 0 := by
  unfold slotV
  cases e : objAt h v with
  | none => exact wrongV_nil _
  | some o => exact (hh.obj o (List.mem_of_getElem? (objAt_some e))).2.2.entry n
theorem setSlot_len (h : List QO) (v : QV) (n : Int) (x : QV) : (setSlotE h v n x).length = h.length := by unfold setSlotE; split <;> simp
theorem HOk.setSlot {cs : List QC} {h : List QO} (hh : HOk cs h) (v : QV) (n : Int) {x : QV} (hx : wrongV h.length x = 0) : HOk cs (setSlotE h v n x) := by
  refine ⟨by rw [setSlot_len]; exact hh.len, fun o ho => ?_⟩
  rw [setSlot_len]
  unfold setSlotE at ho
  split at ho
  · exact hh.obj o ho
  · rename_i p e
    rcases List.mem_or_eq_of_mem_set ho with h1 | rfl
    · exact hh.obj o h1
    · obtain ⟨a, b, c⟩ := hh.obj p (List.mem_of_getElem? (objAt_some e))
      exact ⟨a, by simp only [setEntry_len]; exact b, c.setEntry n hx⟩
theorem HOk.make {cs : List QC} {h : List QO} (hh : HOk cs h) {c : Int} (hc : belowB cs.length c = true) {k : Nat} (hk : (k : Int) = slotsW cs c) (hl : h.length < 60) : HOk cs (h ++ [⟨c, List.replicate k nilV⟩]) := by
  refine ⟨by simp; omega, fun o ho => ?_⟩
  simp only [List.length_append, List.length_cons, List.length_nil, List.mem_append, List.mem_singleton] at ho ⊢
  rcases ho with h1 | rfl
  · obtain ⟨a, b, d⟩ := hh.obj o h1
    exact ⟨a, b, d.later (by omega)⟩
  · exact ⟨hc, by simpa using hk, fun v hv => by rw [(List.mem_replicate.1 hv).2]; exact wrongV_nil _⟩

def CodeOk (cs : List QC) (l : List QI) : Prop := ∀ x ∈ l, (x.op = 5 → -1073741824 ≤ x.a ∧ x.a ≤ 1073741824) ∧ (x.op = 13 → belowB cs.length x.a = true)
structure FOk (cs : List QC) (h : Int) (f : Fr) : Prop where
  self : wrongV h f.self = 0
  args : VsOk h f.args
  temps : VsOk h f.temps
  stack : VsOk h f.stack
  code : CodeOk cs f.code
  plain : CodeOk cs f.meth.code
theorem FOk.later {cs : List QC} {h h' : Int} {f : Fr} (hf : FOk cs h f) (hh : h ≤ h') : FOk cs h' f := ⟨wrongV_later hf.self hh, hf.args.later hh, hf.temps.later hh, hf.stack.later hh, hf.code, hf.plain⟩
theorem FOk.push {cs : List QC} {h : Int} {f : Fr} (hf : FOk cs h f) {v : QV} (hv : wrongV h v = 0) : FOk cs h (f.push v) := ⟨hf.self, hf.args, hf.temps, hf.stack.append hv, hf.code, hf.plain⟩
theorem FOk.pop {cs : List QC} {h : Int} {f : Fr} (hf : FOk cs h f) : FOk cs h f.pop := ⟨hf.self, hf.args, hf.temps, hf.stack.sub fun v hv => List.dropLast_subset _ hv, hf.code, hf.plain⟩
theorem FOk.top {cs : List QC} {h : Int} {f : Fr} (hf : FOk cs h f) : wrongV h f.top = 0 := hf.stack.entry _
theorem FOk.leave {cs : List QC} {h : Int} {f : Fr} (hf : FOk cs h f) (c : Int) : FOk cs h (f.leave c) := by
  refine ⟨hf.self, hf.args, fun v hv => ?_, hf.stack, hf.plain, hf.plain⟩
  simp only [Fr.leave, List.mem_map] at hv
  obtain ⟨p, -, rfl⟩ := hv
  cases hq : f.temps[p.2]? with
  | none => exact wrongV_nil h
  | some v => exact hf.temps v (List.mem_of_getElem? hq)

section
variable {σ : Type}
structure EOk (E : Env σ) : Prop where
  meths : ∀ c n m, methAt E.classes c n = some m → CodeOk E.classes m.code
  fast : ∀ c n q, E.quick c n = some q → CodeOk E.classes q.1
  slots : ∀ c, slotsW E.classes c = slotsE E.classes c ∧ 0 ≤ slotsE E.classes c
/-- What a run leaves. -/
structure ROk (cs : List QC) (m m' : Mc σ) : Prop where
  heap : HOk cs m'.heap
  more : m.heap.length ≤ m'.heap.length
def EntOk (cs : List QC) (ent : Ent σ) : Prop := ∀ m c n s a, HOk cs m.heap → wrongV m.heap.length s = 0 → VsOk m.heap.length a → ROk cs m (ent m c n s a).1 ∧ wrongV (ent m c n s a).1.heap.length (ent m c n s a).2.1 = 0
def StepOk (cs : List QC) (m : Mc σ) (r : Mc σ × Fr × Int) : Prop := ROk cs m r.1 ∧ (r.2.2 = 0 → FOk cs r.1.heap.length r.2.1)
theorem jump_ok {cs : List QC} {m : Mc σ} {f : Fr} (hm : HOk cs m.heap) (hf : FOk cs m.heap.length f) (a b : Int) : StepOk cs m (jumpE m f a b) := by
  have hf' : ∀ t, FOk cs m.heap.length { f with pc := t } := fun t => ⟨hf.self, hf.args, hf.temps, hf.stack, hf.code, hf.plain⟩
  unfold jumpE StepOk
  by_cases h : b ≤ a
  · simp only [h, if_true]
    split
    · exact ⟨⟨hm, Nat.le_refl _⟩, fun h => by cases h⟩
    · exact ⟨⟨hm, Nat.le_refl _⟩, fun _ => hf' b⟩
  · simp only [h, if_false]
    split
    · exact ⟨⟨hm, Nat.le_refl _⟩, fun h => by cases h⟩
    · exact ⟨⟨hm, Nat.le_refl _⟩, fun _ => hf' b⟩
theorem else_ok {cs : List QC} {m : Mc σ} {f : Fr} (hm : HOk cs m.heap) (hf : FOk cs m.heap.length f) (a b : Int) : StepOk cs m (elseE m f a b) := by
  unfold elseE
  split
  · exact ⟨⟨hm, Nat.le_refl _⟩, fun _ => hf.pop⟩
  · split
    · exact jump_ok hm hf.pop a b
    · exact ⟨⟨hm, Nat.le_refl _⟩, fun _ => hf⟩
theorem make_ok {E : Env σ} (hE : EOk E) {m : Mc σ} {f : Fr} (hm : HOk E.classes m.heap) (hf : FOk E.classes m.heap.length f) {c : Int} (hc : belowB E.classes.length c = true) : StepOk E.classes m (makeE E m f c) := by
  unfold makeE
  split
  · exact ⟨⟨hm, Nat.le_refl _⟩, fun _ => hf⟩
  · rename_i h
    obtain ⟨h1, h2⟩ := hE.slots c
    refine ⟨⟨hm.make hc (by rw [h1]; omega) (by omega), by simp⟩, fun _ => ?_⟩
    refine (hf.later ?_).push ?_
    · simp only [List.length_append, List.length_cons, List.length_nil]; omega
    · simp only [List.length_append, List.length_cons, List.length_nil, wrongV, wrongK]
      rw [if_neg (by omega), if_neg (by omega), if_neg (by omega), if_neg (by omega)]
theorem count_ok {cs : List QC} (E : Env σ) (d : Nat) {m : Mc σ} (hm : HOk cs m.heap) : ROk cs m (countE E d m).1 ∧ (countE E d m).1.heap = m.heap := by
  unfold countE
  split
  · exact ⟨⟨hm, Nat.le_refl _⟩, rfl⟩
  · split
    · exact ⟨⟨hm, Nat.le_refl _⟩, rfl⟩
    · exact ⟨⟨hm, Nat.le_refl _⟩, rfl⟩
theorem fast_ok {cs : List QC} (E : Env σ) (d : Nat) {m : Mc σ} {f : Fr} (hm : HOk cs m.heap) (hf : FOk cs m.heap.length f) (x : QI) : StepOk cs m (fastE E d m f x) := by
  unfold fastE
  split
  · exact ⟨⟨hm, Nat.le_refl _⟩, fun h => by cases h⟩
  · split
    · refine ⟨⟨hm, Nat.le_refl _⟩, fun _ => ?_⟩
      simp only []
      split
      · exact hf
      · exact hf.leave x.c
    · split
      · exact ⟨⟨hm, Nat.le_refl _⟩, fun _ => hf.push (hm.slot _ _)⟩
      · split
        · refine ⟨⟨hm.setSlot _ _ hf.top, by simp [setSlot_len]⟩, fun _ => ?_⟩
          simp only [setSlot_len]
          exact hf.pop
        · split
          · obtain ⟨h1, h2⟩ := count_ok (cs := cs) E d hm
            refine ⟨h1, fun _ => ?_⟩
            simp only [h2]
            exact hf
          · exact ⟨⟨hm, Nat.le_refl _⟩, fun h => by cases h⟩
theorem send_ok {cs : List QC} {ent : Ent σ} (he : EntOk cs ent) (E : Env σ) {m : Mc σ} {f : Fr} (hm : HOk cs m.heap) (hf : FOk cs m.heap.length f) (at' : Int) (x : QI) : StepOk cs m (sendE ent E m f at' x) := by
  unfold sendE
  simp only []
  generalize E.look m.st (f.site at' x) (classV m.heap (belowE (f.stack.take (fromE f.stack x.a)) 0)) x.name = l
  have ht : VsOk m.heap.length (f.stack.take (fromE f.stack x.a)) := hf.stack.sub fun v hv => List.mem_of_mem_take hv
  obtain ⟨h1, h2⟩ := he { m with st := l.1 } l.2.1 l.2.2 (belowE (f.stack.take (fromE f.stack x.a)) 0) (f.stack.drop (fromE f.stack x.a)) hm (ht.entry _) (hf.stack.sub fun v hv => List.mem_of_mem_drop hv)
  generalize ent { m with st := l.1 } l.2.1 l.2.2 (belowE (f.stack.take (fromE f.stack x.a)) 0) (f.stack.drop (fromE f.stack x.a)) = r at h1 h2 ⊢
  have hmore : m.heap.length ≤ r.1.heap.length := h1.more
  split
  · rename_i h; exact ⟨⟨h1.heap, hmore⟩, fun h' => absurd h' h⟩
  · refine ⟨⟨h1.heap, hmore⟩, fun _ => ?_⟩
    have hf' := hf.later (h' := (r.1.heap.length : Int)) (by omega)
    have ht' : VsOk (r.1.heap.length : Int) (f.stack.take (fromE f.stack x.a)) := ht.later (by omega)
    exact ⟨hf'.self, hf'.args, hf'.temps, ((ht'.sub fun v hv => List.dropLast_subset _ hv).append h2), hf'.code, hf'.plain⟩
theorem pushed_ok {cs : List QC} {h : List QO} {f : Fr} (hm : HOk cs h) (hf : FOk cs h.length f) {x : QI} (hx : x.op = 5 → -1073741824 ≤ x.a ∧ x.a ≤ 1073741824) {v : QV} (e : pushedE h f x = some v) : wrongV h.length v = 0 := by
  unfold pushedE at e
  split at e
  · cases e; exact hf.self
  · split at e
    · cases e; exact hf.args.entry _
    · split at e
      · cases e; exact hf.temps.entry _
      · split at e
        · cases e; exact hm.slot _ _
        · split at e
          · rename_i h5
            cases e
            have := hx h5
            simp only [wrongV, wrongK]
            rw [if_neg (by omega), if_neg (by omega), if_pos trivial, if_neg (by omega)]
          · split at e
            · cases e; exact wrongV_nil _
            · split at e
              · cases e; simp [wrongV, wrongK]
              · split at e
                · cases e; simp [wrongV, wrongK]
                · cases e
theorem step_ok {E : Env σ} (hE : EOk E) {ent : Ent σ} (he : EntOk E.classes ent) (d : Nat) {m : Mc σ} {f : Fr} (hm : HOk E.classes m.heap) (hf : FOk E.classes m.heap.length f) (at' : Int) {x : QI} (h5 : x.op = 5 → -1073741824 ≤ x.a ∧ x.a ≤ 1073741824) (h13 : x.op = 13 → belowB E.classes.length x.a = true) : StepOk E.classes m (mstepE ent E d m f at' x) := by
  unfold mstepE
  split
  · rename_i v e
    exact ⟨⟨hm, Nat.le_refl _⟩, fun _ => hf.push (pushed_ok hm hf h5 e)⟩
  · split
    · exact ⟨⟨hm, Nat.le_refl _⟩, fun _ => hf.pop⟩
    · split
      · exact ⟨⟨hm, Nat.le_refl _⟩, fun _ => hf.push hf.top⟩
      · split
        · exact ⟨⟨hm, Nat.le_refl _⟩, fun _ => ⟨hf.self, hf.args, hf.temps.setEntry _ hf.top, hf.pop.stack, hf.code, hf.plain⟩⟩
        · split
          · refine ⟨⟨hm.setSlot _ _ hf.top, by simp [setSlot_len]⟩, fun _ => ?_⟩
            simp only [setSlot_len]
            exact hf.pop
          · split
            · rename_i h; exact make_ok hE hm hf (h13 h)
            · split
              · exact send_ok he E hm hf at' x
              · split
                · exact jump_ok hm hf at' x.a
                · split
                  · exact else_ok hm hf at' x.a
                  · exact fast_ok E d hm hf x
theorem ROk.trans {cs : List QC} {a b c : Mc σ} (h : ROk cs a b) (k : ROk cs b c) : ROk cs a c := ⟨k.heap, Nat.le_trans h.more k.more⟩
theorem fin_ok {E : Env σ} (hE : EOk E) {ent : Ent σ} (he : EntOk E.classes ent) (d : Nat) : ∀ (g : Nat) {m : Mc σ} {f : Fr}, HOk E.classes m.heap → FOk E.classes m.heap.length f → ROk E.classes m (finE ent E d g m f).1 ∧ wrongV (finE ent E d g m f).1.heap.length (finE ent E d g m f).2.1 = 0
  | 0, m, f, hm, hf => ⟨⟨hm, Nat.le_refl _⟩, wrongV_nil _⟩
  | g + 1, m, f, hm, hf => by
    unfold finE
    cases hq : (if f.pc < 0 then none else f.code[f.pc.toNat]?) with
    | none => exact ⟨⟨hm, Nat.le_refl _⟩, wrongV_nil _⟩
    | some x =>
      have hx : x ∈ f.code := by
        split at hq
        · cases hq
        · exact List.mem_of_getElem? hq
      simp only []
      by_cases h17 : x.op = 17
      · rw [if_pos h17]; exact ⟨⟨hm, Nat.le_refl _⟩, hf.top⟩
      · rw [if_neg h17]
        have hf1 : FOk E.classes m.heap.length { f with pc := f.pc + 1 } := ⟨hf.self, hf.args, hf.temps, hf.stack, hf.code, hf.plain⟩
        obtain ⟨h1, h2⟩ := step_ok hE he d hm hf1 f.pc (hf.code x hx).1 (hf.code x hx).2
        generalize mstepE ent E d m { f with pc := f.pc + 1 } f.pc x = r at h1 h2 ⊢
        by_cases h0 : r.2.2 ≠ 0
        · rw [if_pos h0]; exact ⟨h1, wrongV_nil _⟩
        · rw [if_neg h0]
          obtain ⟨k1, k2⟩ := fin_ok hE he d g h1.heap (h2 (by simpa using h0))
          exact ⟨h1.trans k1, k2⟩
theorem prim_right (h : Int) {a b : QV} (p : Int) : wrongV h (primV p a b).1 = 0 := by
  have tm : ∀ n : Int, -1073741824 ≤ n.tmod 1073741825 ∧ n.tmod 1073741825 ≤ 1073741824 := fun n => by
    have h1 := Int.tmod_lt_of_pos n (b := 1073741825) (by omega)
    have h2 := Int.lt_tmod_of_pos n (b := 1073741825) (by omega)
    omega
  have num : ∀ n : Int, wrongV h ⟨3, n.tmod 1073741825⟩ = 0 := fun n => by
    have := tm n
    simp only [wrongV, wrongK]
    rw [if_neg (by omega), if_neg (by omega), if_pos trivial, if_neg (by omega)]
  have bol : ∀ c : Prop, ∀ _ : Decidable c, wrongV h ⟨if c then 2 else 1, 0⟩ = 0 := fun c _ => by
    by_cases hc : c <;> simp [hc, wrongV, wrongK]
  unfold primV
  split
  · exact wrongV_nil h
  · split
    · exact num _
    · split
      · exact num _
      · split
        · exact num _
        · split
          · exact bol _ _
          · split
            · exact bol _ _
            · exact wrongV_nil h
theorem enter_ok {E : Env σ} (hE : EOk E) (d : Nat) {body : Mc σ → Fr → Mc σ × QV × Int} (hb : ∀ {m f}, HOk E.classes m.heap → FOk E.classes m.heap.length f → ROk E.classes m (body m f).1 ∧ wrongV (body m f).1.heap.length (body m f).2.1 = 0) : EntOk E.classes (enterE E d body) := by
  intro m c n s a hm hs ha
  unfold enterE
  cases hmt : methAt E.classes c n with
  | none => exact ⟨⟨hm, Nat.le_refl _⟩, wrongV_nil _⟩
  | some mt =>
    simp only []
    split
    · exact ⟨⟨hm, Nat.le_refl _⟩, wrongV_nil _⟩
    · split
      · split
        · exact ⟨⟨hm, Nat.le_refl _⟩, wrongV_nil _⟩
        · exact ⟨⟨hm, Nat.le_refl _⟩, prim_right _ _⟩
      · split
        · exact ⟨⟨hm, Nat.le_refl _⟩, wrongV_nil _⟩
        · obtain ⟨h1, h2⟩ := count_ok (cs := E.classes) E d hm
          have hf : FOk E.classes (countE E d m).1.heap.length (frameE E c n mt s a) := by
            rw [h2]
            have hmc := hE.meths c n mt hmt
            unfold frameE
            cases hq : E.quick c n with
            | none => exact ⟨hs, ha, rooms_ok _ _, fun v hv => by simp at hv, hmc, hmc⟩
            | some q => exact ⟨hs, ha, rooms_ok _ _, fun v hv => by simp at hv, hE.fast c n q hq, hmc⟩
          obtain ⟨k1, k2⟩ := hb h1.heap hf
          exact ⟨h1.trans k1, k2⟩
theorem ent_ok {E : Env σ} (hE : EOk E) : ∀ d : Nat, EntOk E.classes (entE E d)
  | 0 => enter_ok hE 0 fun hm hf => ⟨⟨hm, Nat.le_refl _⟩, wrongV_nil _⟩
  | d + 1 => enter_ok hE (d + 1) fun hm hf => fin_ok hE (ent_ok hE d) d _ hm hf

theorem badE_not {f : QI → Int} : ∀ {l : List QI} {k : Nat} {p : Int × Int}, badE f k l = some p → p.1 ≠ 0
  | [], k, p, h => by simp [badE] at h
  | z :: r, k, p, h => by
    unfold badE at h
    split at h
    · rename_i hz; cases h; exact hz
    · exact badE_not h
/-- Nothing tells fast code. -/
def noQuick : Int → Int → Option (List QI × Int) := fun _ _ => none
theorem right_heap {X : QW} (h : rightE X = 0) : HOk X.classes X.heap := by
  obtain ⟨hs, -, -, ho⟩ := right_is h
  refine ⟨hs.heap, fun o hm => ?_⟩
  obtain ⟨i, hi, rfl⟩ := List.mem_iff_getElem.1 hm
  have hr := ho i _ hi (List.getElem?_eq_getElem hi)
  unfold roE at hr
  split at hr
  · cases hr
  · rename_i hn
    have hn' := not_or.1 hn
    refine ⟨by simpa using hn'.1, by simpa using hn'.2, fun v hv => ?_⟩
    obtain ⟨k, hk, rfl⟩ := List.mem_iff_getElem.1 hv
    exact firstE_all hr k _ (List.getElem?_eq_getElem hk)
theorem right_again {X : QW} (h : rightE X = 0) {H : List QO} (hh : HOk X.classes H) : rightE ⟨X.classes, H, X.epoch⟩ = 0 := by
  obtain ⟨hs, hc, hm, -⟩ := right_is h
  refine right_ok ⟨hs.few, hs.many, hh.len, hs.ep0, hs.ep1⟩ hc hm fun i o hi ho => ?_
  obtain ⟨h1, h2, h3⟩ := hh.obj o (List.mem_of_getElem? ho)
  unfold roE
  rw [if_neg (by simp [h1, h2])]
  exact firstE_zero fun k v hv => h3 v (List.mem_of_getElem? hv)
theorem right_slotsOk {X : QW} (h : rightE X = 0) : SlotsOk X.classes := fun i x hx => by
  obtain ⟨hs, hc, -, -⟩ := right_is h
  have hr := hc i x (lt_of_get hx) hx
  unfold rcE at hr
  split at hr
  · cases hr
  · split at hr
    · split at hr
      · cases hr
      · split at hr
        · cases hr
        · split at hr
          · cases hr
          · split at hr
            · cases hr
            · omega
    · split at hr
      · cases hr
      · split at hr
        · cases hr
        · split at hr
          · cases hr
          · omega
theorem right_slots {X : QW} (h : rightE X = 0) (c : Int) : slotsW X.classes c = slotsE X.classes c ∧ 0 ≤ slotsE X.classes c := by
  have ho := right_slotsOk h
  obtain ⟨hs, -, -, -⟩ := right_is h
  have hm := hs.many
  exact ⟨slotsW_E ho (by omega) c, (slotsE_le ho (X.classes.length + 1) c 0 (Int.le_refl _)).1⟩
theorem right_code {X : QW} (h : rightE X = 0) {c n : Int} {m : QM} (hm : methAt X.classes c n = some m) : CodeOk X.classes m.code := by
  obtain ⟨hs, -, hk, -⟩ := right_is h
  unfold methAt at hm
  cases hx : clsAt X.classes c with
  | none => rw [hx] at hm; cases hm
  | some x =>
    rw [hx] at hm
    simp only [Option.bind_some] at hm
    obtain ⟨k, rfl, hx'⟩ := clsAt_some hx
    split at hm
    · have hr := hk k x (lt_of_get hx') hx'
      unfold rkE at hr
      split at hr
      · cases hr
      · split at hr
        · cases hr
        · have hq := firstE_all hr _ _ hm
          unfold rmE at hq
          split at hq
          · cases hq
          · split at hq
            · rename_i hp
              unfold primB at hp
              rw [List.any_eq_true] at hp
              obtain ⟨p, -, hp⟩ := hp
              simp only [Bool.and_eq_true, decide_eq_true_eq] at hp
              have : m.code = [] := List.eq_nil_of_length_eq_zero hp.2
              rw [this]
              intro y hy
              simp at hy
            · unfold checkE at hq
              split at hq
              · rename_i a; exact absurd hq a
              · split at hq
                · rename_i f e
                  exact absurd hq (badE_not e)
                · rename_i e
                  intro y hy
                  have hn := badE_all e y hy
                  unfold numE at hn
                  split at hn
                  · cases hn
                  · split at hn
                    · cases hn
                    · rename_i hra
                      unfold raE at hra
                      refine ⟨fun h5 => ?_, fun h13 => ?_⟩
                      · simp [h5, inR] at hra
                        omega
                      · simp [h13, inR] at hra
                        simp [belowB]
                        omega
    · cases hm
theorem plain_ok {X : QW} (h : rightE X = 0) (fuel : Int) (look : σ → QS → Int → ByteArray → σ × (Int × Int)) : EOk (⟨X.classes, fuel, look, noQuick⟩ : Env σ) :=
  ⟨fun c n m hm => right_code h hm, fun c n q hq => (by cases hq), fun c => right_slots h c⟩
/-- Behind whatever call a right world is right, and what comes of it is a value of that world. -/
theorem run_right {X : QW} (h : rightE X = 0) {E : Env σ} (hE : EOk E) (hc : E.classes = X.classes) (d : Nat) {m : Mc σ} (hm : m.heap = X.heap) (c n : Int) {s : QV} {a : List QV} (hs : wrongV X.heap.length s = 0) (ha : VsOk X.heap.length a) :
    rightE ⟨X.classes, (entE E d m c n s a).1.heap, X.epoch⟩ = 0 ∧ X.heap.length ≤ (entE E d m c n s a).1.heap.length ∧ wrongV (entE E d m c n s a).1.heap.length (entE E d m c n s a).2.1 = 0 := by
  obtain ⟨k1, k2⟩ := ent_ok hE d m c n s a (by rw [hm, hc]; exact right_heap h) (by rw [hm]; exact hs) (by rw [hm]; exact ha)
  refine ⟨right_again h (by rw [← hc]; exact k1.heap), by rw [← hm]; exact k1.more, k2⟩
end
end Go.Proofs.Ytfdonemehiamjaa
/- In code with which nothing is wrong all that an instruction needs is there, whichever way one came: as plain functions. -/
namespace Go.Proofs.Ytfdonemehiamjaa
open Go.ChangeShapes Go.WideShapes Go.ChangeAt Go.RowKit
set_option linter.unusedSimpArgs false
set_option linter.unusedVariables false
set_option maxRecDepth 8000

/-- A frame of plain code with which nothing is wrong. -/
structure PlOk (f : Fr) : Prop where
  fast : f.fast = false
  code : f.code = f.meth.code
  nums : ∃ S n, ∀ x ∈ f.code, numE S n f.meth x = 0
  hts : (heightsE f.code).2.1 = 0
  args : (f.args.length : Int) = f.meth.args
  temps : (f.temps.length : Int) = f.meth.temps
  pc : ∃ k : Nat, f.pc = k ∧ k < f.code.length ∧ (f.stack.length : Int) = (heightsE f.code).1.getD k 0
theorem num_facts {S n : Int} {m : QM} {x : QI} (h : numE S n m x = 0) : 1 ≤ x.op ∧ x.op ≤ 17 ∧ (x.op = 2 → 0 ≤ x.a ∧ x.a < m.args) ∧ (x.op = 3 ∨ x.op = 11 → 0 ≤ x.a ∧ x.a < m.temps) ∧ (x.op = 14 → 0 ≤ x.a ∧ x.a ≤ 4) ∧ x.b = 0 ∧ x.c = 0 := by
  have h14 := numE_send h
  unfold numE at h
  split at h
  · cases h
  · rename_i h1
    split at h
    · cases h
    · rename_i hra
      split at h
      · cases h
      · rename_i hr
        simp [inR] at h1
        refine ⟨by omega, by omega, fun h2 => ?_, fun h3 => ?_, h14, by omega, by omega⟩
        · simp [raE, h2, inR] at hra; omega
        · rcases h3 with h3 | h3 <;> (simp [raE, h3, inR] at hra; omega)
/-- What is known of the instruction that is next. -/
structure NxOk (f : Fr) (k : Nat) (x : QI) : Prop where
  pc : f.pc = k
  lt : k < f.code.length
  here : f.code[k]? = some x
  need : (nextE x k).need ≤ f.stack.length
  back : x.op = 17 → f.stack.length = 1
  few : f.stack.length ≤ 12
  next : ∀ t ∈ (nextE x k).next, ∃ j : Nat, t = (j : Int) ∧ j < f.code.length ∧ (heightsE f.code).1.getD j 0 = f.stack.length + (nextE x k).more
  kind : 1 ≤ x.op ∧ x.op ≤ 17
  arg : x.op = 2 → 0 ≤ x.a ∧ x.a < f.args.length
  temp : x.op = 3 ∨ x.op = 11 → 0 ≤ x.a ∧ x.a < f.temps.length
  send : x.op = 14 → 0 ≤ x.a ∧ x.a ≤ 4
  zero : x.b = 0 ∧ x.c = 0
theorem PlOk.nx {f : Fr} (h : PlOk f) : ∃ k x, NxOk f k x := by
  obtain ⟨S, n, hn⟩ := h.nums
  obtain ⟨k, hk, hlt, hs⟩ := h.pc
  have hx : f.code[k]? = some f.code[k] := List.getElem?_eq_getElem hlt
  have hso : SendsOk f.code := fun y hy => numE_send (hn y hy)
  obtain ⟨-, -, -, hat⟩ := heights_ok hso h.hts
  obtain ⟨h1, h2, h3, h4⟩ := hat k _ hx (by omega)
  obtain ⟨n1, n2, n3, n4, n5, n6, n7⟩ := num_facts (hn f.code[k] (List.getElem_mem hlt))
  rw [← h.args] at n3
  rw [← h.temps] at n4
  refine ⟨k, f.code[k], hk, hlt, hx, by omega, fun h17 => by have := h3 h17; omega, by omega, fun t ht => ?_, ⟨n1, n2⟩, n3, n4, n5, ⟨n6, n7⟩⟩
  obtain ⟨j, j1, j2, j3⟩ := h4 t ht
  exact ⟨j, j1, j2, by omega⟩
theorem PlOk.go {f f' : Fr} (h : PlOk f) {k : Nat} {x : QI} (hx : NxOk f k x) (e1 : f'.meth = f.meth) (e2 : f'.args = f.args) (e3 : f'.code = f.code) (e4 : f'.fast = f.fast) (e5 : f'.temps.length = f.temps.length) (e6 : (f'.stack.length : Int) = f.stack.length + (nextE x k).more) (e7 : f'.pc ∈ (nextE x k).next) : PlOk f' := by
  obtain ⟨j, j1, j2, j3⟩ := hx.next _ e7
  refine ⟨e4.trans h.fast, by rw [e3, e1]; exact h.code, by rw [e3, e1]; exact h.nums, by rw [e3]; exact h.hts, by rw [e2, e1]; exact h.args, by rw [e5, e1]; exact h.temps, j, j1, by rw [e3]; exact j2, by rw [e3, j3]; exact e6⟩
theorem plus_jump {σ : Type} {m : Mc σ} {f : Fr} {a b : Int} (h0 : (jumpE m f a b).2.2 = 0) : (jumpE m f a b).2.1 = { f with pc := b } := by
  unfold jumpE at h0 ⊢
  simp only [] at h0 ⊢
  generalize (if b ≤ a then { m with turns := m.turns + 1 } else m : Mc σ) = m' at h0 ⊢
  by_cases h : 300 < m'.turns
  · rw [if_pos h] at h0; cases h0
  · rw [if_neg h]
theorem pushed_ops {h : List QO} {f : Fr} {x : QI} {v : QV} (e : pushedE h f x = some v) : 1 ≤ x.op ∧ x.op ≤ 8 := by
  unfold pushedE at e
  split at e
  · omega
  · split at e
    · omega
    · split at e
      · omega
      · split at e
        · omega
        · split at e
          · omega
          · split at e
            · omega
            · split at e
              · omega
              · split at e
                · omega
                · cases e
/-- An instruction of right plain code leads to another one of it. -/
theorem pl_step {σ : Type} {ent : Ent σ} {E : Env σ} {d : Nat} {m : Mc σ} {f : Fr} (h : PlOk f) {k : Nat} {x : QI} (hx : NxOk f k x) (h17 : x.op ≠ 17) (h0 : (mstepE ent E d m { f with pc := f.pc + 1 } f.pc x).2.2 = 0) : PlOk (mstepE ent E d m { f with pc := f.pc + 1 } f.pc x).2.1 := by
  have hpc := hx.pc
  have hneed := hx.need
  have hkind := hx.kind
  unfold mstepE at h0 ⊢
  split
  · rename_i v e
    have ho := pushed_ops e
    have hn : nextE x k = ⟨0, 1, [(k : Int) + 1]⟩ := by
      unfold nextE
      rw [if_neg (by omega), if_neg (by omega), if_neg (by omega), if_neg (by omega), if_neg (by omega), if_neg (by omega)]
    exact h.go hx rfl rfl rfl rfl rfl (by rw [hn]; simp [Fr.push]) (by rw [hn, ← hpc]; simp [Fr.push])
  · rename_i e
    rw [e] at h0
    simp only [] at h0
    split
    · rename_i h9
      have hn : nextE x k = ⟨1, -1, [(k : Int) + 1]⟩ := by unfold nextE; rw [if_pos (by omega)]
      rw [hn] at hneed; simp only [] at hneed
      exact h.go hx rfl rfl rfl rfl rfl (by rw [hn]; simp [Fr.pop]; omega) (by rw [hn, ← hpc]; simp [Fr.pop])
    · split
      · rename_i h9 h10
        have hn : nextE x k = ⟨1, 1, [(k : Int) + 1]⟩ := by unfold nextE; rw [if_neg (by omega), if_pos h10]
        exact h.go hx rfl rfl rfl rfl rfl (by rw [hn]; simp [Fr.push]) (by rw [hn, ← hpc]; simp [Fr.push])
      · split
        · rename_i h9 h10 h11
          have hn : nextE x k = ⟨1, -1, [(k : Int) + 1]⟩ := by unfold nextE; rw [if_pos (by omega)]
          rw [hn] at hneed; simp only [] at hneed
          exact h.go hx rfl rfl rfl rfl (by simp [setEntry_len]) (by rw [hn]; simp [Fr.pop]; omega) (by rw [hn, ← hpc]; simp [Fr.pop])
        · split
          · rename_i h9 h10 h11 h12
            have hn : nextE x k = ⟨1, -1, [(k : Int) + 1]⟩ := by unfold nextE; rw [if_pos (by omega)]
            rw [hn] at hneed; simp only [] at hneed
            exact h.go hx rfl rfl rfl rfl rfl (by rw [hn]; simp [Fr.pop]; omega) (by rw [hn, ← hpc]; simp [Fr.pop])
          · split
            · rename_i h9 h10 h11 h12 h13
              rw [if_neg h9, if_neg h10, if_neg h11, if_neg h12, if_pos h13] at h0
              have hn : nextE x k = ⟨0, 1, [(k : Int) + 1]⟩ := by
                unfold nextE
                rw [if_neg (by omega), if_neg (by omega), if_neg (by omega), if_neg (by omega), if_neg (by omega), if_neg (by omega)]
              unfold makeE at h0 ⊢
              split
              · rename_i hc; rw [if_pos hc] at h0; cases h0
              · exact h.go hx rfl rfl rfl rfl rfl (by rw [hn]; simp [Fr.push]) (by rw [hn, ← hpc]; simp [Fr.push])
            · split
              · rename_i h9 h10 h11 h12 h13 h14
                rw [if_neg h9, if_neg h10, if_neg h11, if_neg h12, if_neg h13, if_pos h14] at h0
                have hn : nextE x k = ⟨x.a + 1, -x.a, [(k : Int) + 1]⟩ := by unfold nextE; rw [if_neg (by omega), if_neg (by omega), if_pos h14]
                rw [hn] at hneed; simp only [] at hneed
                have ha := hx.send h14
                unfold sendE at h0 ⊢
                simp only [] at h0 ⊢
                split
                · rename_i hc; rw [if_pos hc] at h0; exact absurd h0 hc
                · exact h.go hx rfl rfl rfl rfl rfl (by rw [hn]; simp only [List.length_append, List.length_dropLast, List.length_take, List.length_cons, List.length_nil, fromE]; omega) (by rw [hn, ← hpc]; simp)
              · split
                · rename_i h9 h10 h11 h12 h13 h14 h15
                  rw [if_neg h9, if_neg h10, if_neg h11, if_neg h12, if_neg h13, if_neg h14, if_pos h15] at h0
                  have hn : nextE x k = ⟨0, 0, [x.a]⟩ := by unfold nextE; rw [if_neg (by omega), if_neg (by omega), if_neg (by omega), if_pos h15]
                  rw [plus_jump h0]
                  exact h.go hx rfl rfl rfl rfl rfl (by rw [hn]; simp) (by rw [hn]; simp)
                · split
                  · rename_i h9 h10 h11 h12 h13 h14 h15 h16
                    rw [if_neg h9, if_neg h10, if_neg h11, if_neg h12, if_neg h13, if_neg h14, if_neg h15, if_pos h16] at h0
                    have hn : nextE x k = ⟨1, -1, [(k : Int) + 1, x.a]⟩ := by unfold nextE; rw [if_neg (by omega), if_neg (by omega), if_neg (by omega), if_neg (by omega), if_pos h16]
                    rw [hn] at hneed; simp only [] at hneed
                    unfold elseE at h0 ⊢
                    split
                    · exact h.go hx rfl rfl rfl rfl rfl (by rw [hn]; simp [Fr.pop]; omega) (by rw [hn, ← hpc]; simp [Fr.pop])
                    · rename_i k2
                      rw [if_neg k2] at h0
                      split
                      · rename_i k1
                        rw [if_pos k1] at h0
                        rw [plus_jump h0]
                        exact h.go hx rfl rfl rfl rfl rfl (by rw [hn]; simp [Fr.pop]; omega) (by rw [hn]; simp [Fr.pop])
                      · rename_i k1
                        rw [if_neg k1] at h0
                        cases h0
                  · exfalso
                    rename_i h9 h10 h11 h12 h13 h14 h15 h16
                    rw [if_neg h9, if_neg h10, if_neg h11, if_neg h12, if_neg h13, if_neg h14, if_neg h15, if_neg h16] at h0
                    unfold fastE at h0
                    rw [if_pos h.fast] at h0
                    cases h0
end Go.Proofs.Ytfdonemehiamjaa
/- How many steps there can be; the first frame of a method of a right world: as plain functions. -/
namespace Go.Proofs.Ytfdonemehiamjaa
open Go.ChangeShapes Go.WideShapes Go.ChangeAt Go.RowKit
set_option linter.unusedSimpArgs false
set_option linter.unusedVariables false
set_option maxRecDepth 8000

section
variable {σ : Type}
/-- How many steps there can be, at the most. -/
def muE (m : Mc σ) (f : Fr) : Nat := (if f.fast then 302 * (f.meth.code.length + 1) else 0) + (301 - m.turns).toNat * (f.code.length + 1) + (f.code.length - f.pc.toNat)
theorem mu_on {m m' : Mc σ} {f f' : Fr} (ht : m.turns ≤ m'.turns) (e1 : f'.fast = f.fast) (e2 : f'.meth = f.meth) (e3 : f'.code = f.code) (h0 : 0 ≤ f.pc) (hl : f.pc.toNat < f.code.length) (hp : f.pc < f'.pc) : muE m' f' < muE m f := by
  unfold muE
  rw [e1, e2, e3]
  have h1 : (301 - m'.turns).toNat * (f.code.length + 1) ≤ (301 - m.turns).toNat * (f.code.length + 1) := Nat.mul_le_mul_right _ (by omega)
  omega
theorem mu_back {m m' : Mc σ} {f f' : Fr} (ht : m'.turns = m.turns + 1) (h300 : m'.turns ≤ 300) (e1 : f'.fast = f.fast) (e2 : f'.meth = f.meth) (e3 : f'.code = f.code) : muE m' f' < muE m f := by
  unfold muE
  rw [e1, e2, e3]
  have h1 : (301 - m.turns).toNat = (301 - m'.turns).toNat + 1 := by omega
  rw [h1, Nat.add_mul, Nat.one_mul]
  omega
theorem mu_leave {m : Mc σ} {f : Fr} (h0 : 0 ≤ m.turns) (hf : f.fast = true) (c : Int) : muE m (f.leave c) < muE m f := by
  unfold muE
  have e1 : (f.leave c).fast = false := rfl
  have e2 : (f.leave c).code = f.meth.code := rfl
  rw [e1, e2, hf]
  simp only [Bool.false_eq_true, if_false, if_true]
  have h1 : (301 - m.turns).toNat * (f.meth.code.length + 1) ≤ 301 * (f.meth.code.length + 1) := Nat.mul_le_mul_right _ (by omega)
  omega
theorem mu_gas {m : Mc σ} {f : Fr} (h0 : 0 ≤ m.turns) : muE m f ≤ gasE f := by
  unfold muE gasE
  have h1 : (301 - m.turns).toNat * (f.code.length + 1) ≤ 301 * (f.code.length + 1) := Nat.mul_le_mul_right _ (by omega)
  split <;> omega
def EntTurns (ent : Ent σ) : Prop := ∀ m c n s a, m.turns ≤ (ent m c n s a).1.turns
theorem jump_mu {m : Mc σ} {f : Fr} (h0 : 0 ≤ f.pc) (hl : f.pc.toNat < f.code.length) {f1 : Fr} (e1 : f1.fast = f.fast) (e2 : f1.meth = f.meth) (e3 : f1.code = f.code) {b : Int} (he : (jumpE m f1 f.pc b).2.2 = 0) : muE (jumpE m f1 f.pc b).1 (jumpE m f1 f.pc b).2.1 < muE m f := by
  unfold jumpE at he ⊢
  by_cases hb : b ≤ f.pc
  · simp only [hb, if_true] at he ⊢
    by_cases h : 300 < m.turns + 1
    · rw [if_pos h] at he; cases he
    · rw [if_neg h]
      exact mu_back rfl (by simp only []; omega) e1 e2 e3
  · simp only [hb, if_false] at he ⊢
    by_cases h : 300 < m.turns
    · rw [if_pos h] at he; cases he
    · rw [if_neg h]
      exact mu_on (Int.le_refl _) e1 e2 e3 h0 hl (by simp only []; omega)
theorem mu_step {ent : Ent σ} (ht : EntTurns ent) {E : Env σ} {d : Nat} {m : Mc σ} {f : Fr} (hm : 0 ≤ m.turns) (h0 : 0 ≤ f.pc) (hl : f.pc.toNat < f.code.length) {x : QI} (he : (mstepE ent E d m { f with pc := f.pc + 1 } f.pc x).2.2 = 0) : muE (mstepE ent E d m { f with pc := f.pc + 1 } f.pc x).1 (mstepE ent E d m { f with pc := f.pc + 1 } f.pc x).2.1 < muE m f := by
  have on : ∀ {m' : Mc σ} {f' : Fr}, m.turns ≤ m'.turns → f'.fast = f.fast → f'.meth = f.meth → f'.code = f.code → f'.pc = f.pc + 1 → muE m' f' < muE m f := fun a b c d e => mu_on a b c d h0 hl (by omega)
  unfold mstepE at he ⊢
  split
  · exact on (Int.le_refl _) rfl rfl rfl rfl
  · rename_i e
    rw [e] at he
    simp only [] at he
    split
    · exact on (Int.le_refl _) rfl rfl rfl rfl
    · split
      · exact on (Int.le_refl _) rfl rfl rfl rfl
      · split
        · exact on (Int.le_refl _) rfl rfl rfl rfl
        · split
          · exact on (Int.le_refl _) rfl rfl rfl rfl
          · split
            · rename_i h9 h10 h11 h12 h13
              rw [if_neg h9, if_neg h10, if_neg h11, if_neg h12, if_pos h13] at he
              unfold makeE at he ⊢
              split
              · rename_i hc; rw [if_pos hc] at he; cases he
              · exact on (Int.le_refl _) rfl rfl rfl rfl
            · split
              · rename_i h9 h10 h11 h12 h13 h14
                rw [if_neg h9, if_neg h10, if_neg h11, if_neg h12, if_neg h13, if_pos h14] at he
                unfold sendE at he ⊢
                simp only [] at he ⊢
                split
                · rename_i hc; rw [if_pos hc] at he; exact absurd he hc
                · exact on (ht _ _ _ _ _) rfl rfl rfl rfl
              · split
                · rename_i h9 h10 h11 h12 h13 h14 h15
                  rw [if_neg h9, if_neg h10, if_neg h11, if_neg h12, if_neg h13, if_neg h14, if_pos h15] at he
                  exact jump_mu (f1 := { f with pc := f.pc + 1 }) h0 hl rfl rfl rfl he
                · split
                  · rename_i h9 h10 h11 h12 h13 h14 h15 h16
                    rw [if_neg h9, if_neg h10, if_neg h11, if_neg h12, if_neg h13, if_neg h14, if_neg h15, if_pos h16] at he
                    unfold elseE at he ⊢
                    split
                    · exact on (Int.le_refl _) rfl rfl rfl rfl
                    · rename_i k2
                      rw [if_neg k2] at he
                      split
                      · rename_i k1
                        rw [if_pos k1] at he
                        exact jump_mu (f1 := Fr.pop { f with pc := f.pc + 1 }) h0 hl rfl rfl rfl he
                      · rename_i k1
                        rw [if_neg k1] at he
                        cases he
                  · rename_i h9 h10 h11 h12 h13 h14 h15 h16
                    rw [if_neg h9, if_neg h10, if_neg h11, if_neg h12, if_neg h13, if_neg h14, if_neg h15, if_neg h16] at he
                    unfold fastE at he ⊢
                    split
                    · rename_i k; rw [if_pos k] at he; cases he
                    · rename_i hfast
                      have hfast' : f.fast = true := by simpa using hfast
                      split
                      · simp only []
                        split
                        · exact on (Int.le_refl _) rfl rfl rfl rfl
                        · have := mu_leave (m := m) (f := { f with pc := f.pc + 1 }) hm hfast' x.c
                          have h2 : muE m { f with pc := f.pc + 1 } < muE m f := on (Int.le_refl _) rfl rfl rfl rfl
                          omega
                      · split
                        · exact on (Int.le_refl _) rfl rfl rfl rfl
                        · split
                          · exact on (Int.le_refl _) rfl rfl rfl rfl
                          · split
                            · refine on ?_ rfl rfl rfl rfl
                              simp only [countE]
                              split
                              · exact Int.le_refl _
                              · split
                                · exact Int.le_refl _
                                · exact Int.le_refl _
                            · exact on (Int.le_refl _) rfl rfl rfl rfl
theorem jump_turns (m : Mc σ) (f : Fr) (a b : Int) : m.turns ≤ (jumpE m f a b).1.turns := by
  unfold jumpE
  by_cases h : b ≤ a
  · simp only [h, if_true]
    split <;> (simp only []; omega)
  · simp only [h, if_false]
    split <;> exact Int.le_refl _
theorem count_turns (E : Env σ) (d : Nat) (m : Mc σ) : (countE E d m).1.turns = m.turns := by
  unfold countE
  split
  · rfl
  · split <;> rfl
theorem step_turns {ent : Ent σ} (ht : EntTurns ent) (E : Env σ) (d : Nat) (m : Mc σ) (f : Fr) (a : Int) (x : QI) : m.turns ≤ (mstepE ent E d m f a x).1.turns := by
  unfold mstepE
  split
  · exact Int.le_refl _
  · split
    · exact Int.le_refl _
    · split
      · exact Int.le_refl _
      · split
        · exact Int.le_refl _
        · split
          · exact Int.le_refl _
          · split
            · unfold makeE
              split <;> exact Int.le_refl _
            · split
              · unfold sendE
                simp only []
                split
                · exact ht { m with st := _ } _ _ _ _
                · exact ht { m with st := _ } _ _ _ _
              · split
                · exact jump_turns _ _ _ _
                · split
                  · unfold elseE
                    split
                    · exact Int.le_refl _
                    · split
                      · exact jump_turns _ _ _ _
                      · exact Int.le_refl _
                  · unfold fastE
                    split
                    · exact Int.le_refl _
                    · split
                      · exact Int.le_refl _
                      · split
                        · exact Int.le_refl _
                        · split
                          · exact Int.le_refl _
                          · split
                            · exact Int.le_of_eq (count_turns E d m).symm
                            · exact Int.le_refl _
theorem fin_turns {ent : Ent σ} (ht : EntTurns ent) (E : Env σ) (d : Nat) : ∀ (g : Nat) (m : Mc σ) (f : Fr), m.turns ≤ (finE ent E d g m f).1.turns
  | 0, m, f => Int.le_refl _
  | g + 1, m, f => by
    unfold finE
    generalize (if f.pc < 0 then none else f.code[f.pc.toNat]?) = q
    cases q with
    | none => exact Int.le_refl _
    | some x =>
      simp only []
      split
      · exact Int.le_refl _
      · have h1 := step_turns ht E d m { f with pc := f.pc + 1 } f.pc x
        split
        · exact h1
        · exact Int.le_trans h1 (fin_turns ht E d g _ _)
theorem enter_turns (E : Env σ) (d : Nat) {body : Mc σ → Fr → Mc σ × QV × Int} (hb : ∀ m f, m.turns ≤ (body m f).1.turns) : EntTurns (enterE E d body) := by
  intro m c n s a
  unfold enterE
  cases methAt E.classes c n with
  | none => exact Int.le_refl _
  | some mt =>
    simp only []
    split
    · exact Int.le_refl _
    · split
      · split <;> exact Int.le_refl _
      · split
        · exact Int.le_refl _
        · have h1 := count_turns E d m
          have h2 := hb (countE E d m).1 (frameE E c n mt s a)
          omega
theorem ent_turns (E : Env σ) : ∀ d : Nat, EntTurns (entE E d)
  | 0 => enter_turns E 0 fun m f => Int.le_refl _
  | d + 1 => enter_turns E (d + 1) fun m f => fin_turns (ent_turns E d) E d _ m f

/-- A method of a right world: a primitive of Int, or one with which nothing is wrong. -/
theorem right_meth {X : QW} (h : rightE X = 0) {c n : Int} {m : QM} (hm : methAt X.classes c n = some m) : (m.prim ≠ 0 ∧ m.args = 1) ∨ (m.prim = 0 ∧ ∃ S N : Int, wmE X.classes.length c m = 0 ∧ (∀ x ∈ m.code, numE S N m x = 0) ∧ (heightsE m.code).2.1 = 0) := by
  obtain ⟨hs, -, hk, -⟩ := right_is h
  unfold methAt at hm
  cases hx : clsAt X.classes c with
  | none => rw [hx] at hm; cases hm
  | some x =>
    rw [hx] at hm
    simp only [Option.bind_some] at hm
    obtain ⟨k, rfl, hx'⟩ := clsAt_some hx
    split at hm
    · have hr := hk k x (lt_of_get hx') hx'
      unfold rkE at hr
      split at hr
      · cases hr
      · split at hr
        · cases hr
        · have hq := firstE_all hr _ _ hm
          unfold rmE at hq
          split at hq
          · cases hq
          · split at hq
            · rename_i hp
              left
              unfold primB at hp
              rw [List.any_eq_true] at hp
              obtain ⟨p, hpm, hp⟩ := hp
              simp only [Bool.and_eq_true, decide_eq_true_eq] at hp
              refine ⟨?_, hp.1.1.2⟩
              rw [← hp.1.1.1.2]
              have : ∀ q ∈ newM, q.prim ≠ 0 := by
                intro q hq
                simp [newM] at hq
                rcases hq with rfl | rfl | rfl | rfl | rfl <;> decide
              exact this p hpm
            · right
              unfold checkE at hq
              split at hq
              · rename_i a; exact absurd hq a
              · rename_i a
                have hw : wmE X.classes.length k m = 0 := Decidable.of_not_not a
                split at hq
                · rename_i f e; exact absurd hq (badE_not e)
                · rename_i e
                  refine ⟨?_, _, _, hw, badE_all e, hq⟩
                  unfold wmE at hw
                  split at hw
                  · cases hw
                  · split at hw
                    · cases hw
                    · split at hw
                      · cases hw
                      · split at hw
                        · cases hw
                        · rename_i hp; exact Decidable.of_not_not hp
    · cases hm
/-- Where nothing tells fast code, the first frame of a method is of plain code with which nothing is wrong. -/
theorem right_pl {X : QW} (h : rightE X = 0) {c n : Int} {m : QM} (hm : methAt X.classes c n = some m) (hp : m.prim = 0) {a : List QV} (ha : m.args = a.length) (s : QV) {E : Env σ} (hq : E.quick c n = none) : PlOk (frameE E c n m s a) := by
  rcases right_meth h hm with ⟨hp', -⟩ | ⟨-, S, N, hw, hn, hh⟩
  · exact absurd hp hp'
  · obtain ⟨hw1, hw2, hw3, -, -, -⟩ := wmE_args hw
    have hso : SendsOk m.code := fun y hy => numE_send (hn y hy)
    obtain ⟨-, h1, h2, -⟩ := heights_ok hso hh
    have hfr : frameE E c n m s a = ⟨c, m, s, a, roomsE m.temps, [], m.code, 0, false⟩ := by unfold frameE; rw [hq]
    rw [hfr]
    refine ⟨rfl, rfl, ⟨S, N, hn⟩, hh, ha.symm, ?_, 0, rfl, h1, ?_⟩
    · simp only [roomsE, List.length_replicate]; omega
    · rw [h2]; rfl
end
end Go.Proofs.Ytfdonemehiamjaa
/- Whoever looks for methods, and remembers what it will: if it finds the same, it comes to the same: as plain functions. -/
namespace Go.Proofs.Ytfdonemehiamjaa
open Go.ChangeShapes Go.WideShapes Go.ChangeAt Go.RowKit
set_option linter.unusedSimpArgs false
set_option linter.unusedVariables false
set_option maxRecDepth 8000

section
variable {σ τ : Type}
/-- Two machines that are the same, but for what is remembered. -/
structure MR (Rel : σ → τ → Prop) (m : Mc σ) (m' : Mc τ) : Prop where
  heap : m'.heap = m.heap
  sends : m'.sends = m.sends
  turns : m'.turns = m.turns
  st : Rel m.st m'.st
def RR {α : Type} (Rel : σ → τ → Prop) (r : Mc σ × α × Int) (r' : Mc τ × α × Int) : Prop := MR Rel r.1 r'.1 ∧ r'.2 = r.2
/-- Two that look, at sites and names of which SOk says that they belong together. -/
structure ER (Rel : σ → τ → Prop) (SOk : QS → ByteArray → Prop) (E : Env σ) (E' : Env τ) : Prop where
  classes : E'.classes = E.classes
  fuel : E'.fuel = E.fuel
  quick : E'.quick = E.quick
  look : ∀ s t x c name, Rel s t → SOk x name → (E'.look t x c name).2 = (E.look s x c name).2 ∧ Rel (E.look s x c name).1 (E'.look t x c name).1
  plain : ∀ c n m, methAt E.classes c n = some m → ∀ (k : Nat) x, m.code[k]? = some x → x.op = 14 → SOk ⟨c, m.name, k⟩ x.name
  fast : ∀ c n m q, methAt E.classes c n = some m → E.quick c n = some q → ∀ x ∈ q.1, x.op = 14 → SOk ⟨c, m.name, x.c⟩ x.name
/-- Of a frame. -/
structure FR (SOk : QS → ByteArray → Prop) (f : Fr) : Prop where
  code : f.fast = false → f.code = f.meth.code
  plain : ∀ (k : Nat) x, f.meth.code[k]? = some x → x.op = 14 → SOk ⟨f.cls, f.meth.name, k⟩ x.name
  fast : f.fast = true → ∀ x ∈ f.code, x.op = 14 → SOk ⟨f.cls, f.meth.name, x.c⟩ x.name
theorem FR.same {SOk : QS → ByteArray → Prop} {f f' : Fr} (h : FR SOk f) (e1 : f'.fast = f.fast) (e2 : f'.code = f.code) (e3 : f'.meth = f.meth) (e4 : f'.cls = f.cls) : FR SOk f' := by
  refine ⟨?_, ?_, ?_⟩
  · rw [e1, e2, e3]; exact h.code
  · rw [e3, e4]; exact h.plain
  · rw [e1, e2, e3, e4]; exact h.fast
theorem FR.leave {SOk : QS → ByteArray → Prop} {f : Fr} (h : FR SOk f) (c : Int) : FR SOk (f.leave c) := ⟨fun _ => rfl, h.plain, fun h => by cases h⟩
def EntR (Rel : σ → τ → Prop) (ent : Ent σ) (ent' : Ent τ) : Prop := ∀ m m' c n s a, MR Rel m m' → RR Rel (ent m c n s a) (ent' m' c n s a)
theorem jump_rel {Rel : σ → τ → Prop} {m : Mc σ} {m' : Mc τ} (h : MR Rel m m') (f : Fr) (a b : Int) : RR Rel (jumpE m f a b) (jumpE m' f a b) := by
  unfold jumpE
  by_cases hb : b ≤ a
  · simp only [hb, if_true, h.turns]
    split
    · exact ⟨⟨h.heap, h.sends, rfl, h.st⟩, rfl⟩
    · exact ⟨⟨h.heap, h.sends, rfl, h.st⟩, rfl⟩
  · simp only [hb, if_false, h.turns]
    split
    · exact ⟨h, rfl⟩
    · exact ⟨h, rfl⟩
theorem count_rel {Rel : σ → τ → Prop} {SOk : QS → ByteArray → Prop} {E : Env σ} {E' : Env τ} (hE : ER Rel SOk E E') (d : Nat) {m : Mc σ} {m' : Mc τ} (h : MR Rel m m') : MR Rel (countE E d m).1 (countE E' d m').1 ∧ (countE E' d m').2 = (countE E d m).2 := by
  unfold countE
  rw [hE.fuel, h.sends]
  split
  · exact ⟨h, rfl⟩
  · split
    · exact ⟨h, rfl⟩
    · exact ⟨⟨h.heap, rfl, h.turns, h.st⟩, rfl⟩
theorem step_rel {Rel : σ → τ → Prop} {SOk : QS → ByteArray → Prop} {E : Env σ} {E' : Env τ} (hE : ER Rel SOk E E') {ent : Ent σ} {ent' : Ent τ} (he : EntR Rel ent ent') (d : Nat) {m : Mc σ} {m' : Mc τ} (h : MR Rel m m') {f : Fr} {at' : Int} {x : QI} (hs : x.op = 14 → SOk (f.site at' x) x.name) : RR Rel (mstepE ent E d m f at' x) (mstepE ent' E' d m' f at' x) := by
  unfold mstepE
  rw [h.heap]
  split
  · exact ⟨h, rfl⟩
  · split
    · exact ⟨h, rfl⟩
    · split
      · exact ⟨h, rfl⟩
      · split
        · exact ⟨h, rfl⟩
        · split
          · exact ⟨⟨rfl, h.sends, h.turns, h.st⟩, rfl⟩
          · split
            · unfold makeE
              rw [h.heap, hE.classes]
              split
              · exact ⟨h, rfl⟩
              · exact ⟨⟨rfl, h.sends, h.turns, h.st⟩, rfl⟩
            · split
              · rename_i h14
                unfold sendE
                simp only []
                rw [h.heap]
                obtain ⟨l1, l2⟩ := hE.look m.st m'.st (f.site at' x) (classV m.heap (belowE (f.stack.take (fromE f.stack x.a)) 0)) x.name h.st (hs h14)
                generalize E.look m.st (f.site at' x) (classV m.heap (belowE (f.stack.take (fromE f.stack x.a)) 0)) x.name = l at l1 l2 ⊢
                generalize E'.look m'.st (f.site at' x) (classV m.heap (belowE (f.stack.take (fromE f.stack x.a)) 0)) x.name = l' at l1 l2 ⊢
                obtain ⟨q1, q2⟩ := l
                obtain ⟨q1', q2'⟩ := l'
                simp only [] at l1 l2
                subst l1
                have hr := he { m with st := q1 } { m' with st := q1' } q2'.1 q2'.2 (belowE (f.stack.take (fromE f.stack x.a)) 0) (f.stack.drop (fromE f.stack x.a)) ⟨h.heap, h.sends, h.turns, l2⟩
                simp only [h.heap] at hr
                generalize ent { m with st := q1 } q2'.1 q2'.2 (belowE (f.stack.take (fromE f.stack x.a)) 0) (f.stack.drop (fromE f.stack x.a)) = r at hr ⊢
                generalize ent' { heap := m.heap, sends := m'.sends, turns := m'.turns, st := q1' } q2'.1 q2'.2 (belowE (f.stack.take (fromE f.stack x.a)) 0) (f.stack.drop (fromE f.stack x.a)) = r' at hr ⊢
                obtain ⟨r1, r2⟩ := hr
                rw [r2]
                split
                · exact ⟨r1, rfl⟩
                · exact ⟨r1, rfl⟩
              · split
                · exact jump_rel h f at' x.a
                · split
                  · unfold elseE
                    split
                    · exact ⟨h, rfl⟩
                    · split
                      · exact jump_rel h f.pop at' x.a
                      · exact ⟨h, rfl⟩
                  · unfold fastE
                    rw [h.heap]
                    split
                    · exact ⟨h, rfl⟩
                    · split
                      · exact ⟨h, rfl⟩
                      · split
                        · exact ⟨h, rfl⟩
                        · split
                          · exact ⟨⟨rfl, h.sends, h.turns, h.st⟩, rfl⟩
                          · split
                            · obtain ⟨c1, c2⟩ := count_rel hE d h
                              refine ⟨c1, ?_⟩
                              simp only []
                              rw [c2]
                            · exact ⟨h, rfl⟩
theorem jump_fr {SOk : QS → ByteArray → Prop} (m : Mc σ) {f : Fr} (h : FR SOk f) (a b : Int) : FR SOk (jumpE m f a b).2.1 := by
  unfold jumpE
  simp only []
  generalize (if b ≤ a then { m with turns := m.turns + 1 } else m : Mc σ) = m'
  split
  · exact h
  · exact h.same rfl rfl rfl rfl
theorem step_fr {SOk : QS → ByteArray → Prop} (ent : Ent σ) (E : Env σ) (d : Nat) (m : Mc σ) {f : Fr} (h : FR SOk f) (a : Int) (x : QI) : FR SOk (mstepE ent E d m f a x).2.1 := by
  unfold mstepE
  split
  · exact h.same rfl rfl rfl rfl
  · split
    · exact h.same rfl rfl rfl rfl
    · split
      · exact h.same rfl rfl rfl rfl
      · split
        · exact h.same rfl rfl rfl rfl
        · split
          · exact h.same rfl rfl rfl rfl
          · split
            · unfold makeE
              split
              · exact h
              · exact h.same rfl rfl rfl rfl
            · split
              · unfold sendE
                simp only []
                split
                · exact h
                · exact h.same rfl rfl rfl rfl
              · split
                · exact jump_fr m h a x.a
                · split
                  · unfold elseE
                    split
                    · exact h.same rfl rfl rfl rfl
                    · split
                      · exact jump_fr m (f := f.pop) (h.same rfl rfl rfl rfl) a x.a
                      · exact h
                  · unfold fastE
                    split
                    · exact h
                    · split
                      · simp only []
                        split
                        · exact h
                        · exact h.leave x.c
                      · split
                        · exact h.same rfl rfl rfl rfl
                        · split
                          · exact h.same rfl rfl rfl rfl
                          · split
                            · exact h
                            · exact h
theorem FR.site {SOk : QS → ByteArray → Prop} {f : Fr} (h : FR SOk f) {x : QI} (h0 : ¬ f.pc < 0) (hx : f.code[f.pc.toNat]? = some x) (h14 : x.op = 14) (t : Int) : SOk (Fr.site { f with pc := t } f.pc x) x.name := by
  unfold Fr.site
  cases hf : f.fast with
  | false =>
    simp only [Bool.false_eq_true, if_false]
    rw [h.code hf] at hx
    have := h.plain _ x hx h14
    rwa [show ((f.pc.toNat : Nat) : Int) = f.pc by omega] at this
  | true =>
    simp only [if_true]
    exact h.fast hf x (List.mem_of_getElem? hx) h14
theorem fin_rel {Rel : σ → τ → Prop} {SOk : QS → ByteArray → Prop} {E : Env σ} {E' : Env τ} (hE : ER Rel SOk E E') {ent : Ent σ} {ent' : Ent τ} (he : EntR Rel ent ent') (d : Nat) : ∀ (g : Nat) {m : Mc σ} {m' : Mc τ} {f : Fr}, MR Rel m m' → FR SOk f → RR Rel (finE ent E d g m f) (finE ent' E' d g m' f)
  | 0, m, m', f, h, hf => ⟨h, rfl⟩
  | g + 1, m, m', f, h, hf => by
    unfold finE
    cases hq : (if f.pc < 0 then none else f.code[f.pc.toNat]?) with
    | none => exact ⟨h, rfl⟩
    | some x =>
      simp only []
      split
      · exact ⟨h, rfl⟩
      · have hs : x.op = 14 → SOk (Fr.site { f with pc := f.pc + 1 } f.pc x) x.name := fun h14 => by
          split at hq
          · cases hq
          · rename_i h0; exact hf.site h0 hq h14 _
        have hr := step_rel hE he d h (f := { f with pc := f.pc + 1 }) (at' := f.pc) hs
        have hfr := step_fr ent E d m (f := { f with pc := f.pc + 1 }) (hf.same rfl rfl rfl rfl) f.pc x
        generalize mstepE ent E d m { f with pc := f.pc + 1 } f.pc x = r at hr hfr ⊢
        generalize mstepE ent' E' d m' { f with pc := f.pc + 1 } f.pc x = r' at hr ⊢
        obtain ⟨r1, r2⟩ := hr
        rw [r2]
        split
        · exact ⟨r1, rfl⟩
        · exact fin_rel hE he d g r1 hfr
theorem enter_rel {Rel : σ → τ → Prop} {SOk : QS → ByteArray → Prop} {E : Env σ} {E' : Env τ} (hE : ER Rel SOk E E') (d : Nat) {body : Mc σ → Fr → Mc σ × QV × Int} {body' : Mc τ → Fr → Mc τ × QV × Int} (hb : ∀ {m m' f}, MR Rel m m' → FR SOk f → RR Rel (body m f) (body' m' f)) : EntR Rel (enterE E d body) (enterE E' d body') := by
  intro m m' c n s a h
  unfold enterE
  rw [hE.classes, hE.fuel, h.sends]
  cases hm : methAt E.classes c n with
  | none => exact ⟨h, rfl⟩
  | some mt =>
    simp only []
    have hfr : frameE E' c n mt s a = frameE E c n mt s a := by unfold frameE; rw [hE.quick]
    have hf : FR SOk (frameE E c n mt s a) := by
      unfold frameE
      cases hq : E.quick c n with
      | none => exact ⟨fun _ => rfl, hE.plain c n mt hm, fun h => by cases h⟩
      | some q => exact ⟨fun h => (by cases h), hE.plain c n mt hm, fun _ => hE.fast c n mt q hm hq⟩
    split
    · exact ⟨h, rfl⟩
    · split
      · split
        · exact ⟨h, rfl⟩
        · exact ⟨⟨h.heap, rfl, h.turns, h.st⟩, rfl⟩
      · obtain ⟨c1, c2⟩ := count_rel hE d h
        rw [c2, hfr]
        split
        · exact ⟨h, rfl⟩
        · exact hb c1 hf
theorem ent_rel {Rel : σ → τ → Prop} {SOk : QS → ByteArray → Prop} {E : Env σ} {E' : Env τ} (hE : ER Rel SOk E E') : ∀ d : Nat, EntR Rel (entE E d) (entE E' d)
  | 0 => enter_rel hE 0 fun h _ => ⟨h, rfl⟩
  | d + 1 => enter_rel hE (d + 1) fun h hf => fin_rel hE (ent_rel hE d) d _ h hf
end
end Go.Proofs.Ytfdonemehiamjaa
/- A plain call, as a plain function: what fails changes nothing; more is no less; a right world stays right. -/
namespace Go.Proofs.Ytfdonemehiamjaa
open Go.ChangeShapes Go.WideShapes Go.ChangeAt Go.RowKit
set_option linter.unusedSimpArgs false
set_option linter.unusedVariables false
set_option maxRecDepth 8000

section
variable {σ : Type}
def EntLe (F : Int) (ent : Ent σ) : Prop := ∀ m c n s a, m.sends ≤ F → (ent m c n s a).1.sends ≤ F ∧ 0 ≤ (ent m c n s a).1.sends - m.sends
theorem count_le (E : Env σ) (d : Nat) {m : Mc σ} (h : m.sends ≤ E.fuel) : (countE E d m).1.sends ≤ E.fuel ∧ 0 ≤ (countE E d m).1.sends - m.sends := by
  unfold countE
  split
  · simp only []; omega
  · split
    · simp only []; omega
    · simp only []; omega
theorem step_le {E : Env σ} {ent : Ent σ} (he : EntLe E.fuel ent) (d : Nat) {m : Mc σ} (h : m.sends ≤ E.fuel) (f : Fr) (a : Int) (x : QI) : (mstepE ent E d m f a x).1.sends ≤ E.fuel ∧ 0 ≤ (mstepE ent E d m f a x).1.sends - m.sends := by
  have self : m.sends ≤ E.fuel ∧ 0 ≤ m.sends - m.sends := ⟨h, by omega⟩
  have jmp : ∀ f a b, (jumpE m f a b).1.sends ≤ E.fuel ∧ 0 ≤ (jumpE m f a b).1.sends - m.sends := fun f a b => by rw [jump_sends]; exact self
  unfold mstepE
  split
  · exact self
  · split
    · exact self
    · split
      · exact self
      · split
        · exact self
        · split
          · exact self
          · split
            · rw [make_sends]; exact self
            · split
              · unfold sendE
                simp only []
                split
                · exact he { m with st := _ } _ _ _ _ h
                · exact he { m with st := _ } _ _ _ _ h
              · split
                · exact jmp _ _ _
                · split
                  · rw [else_sends]; exact self
                  · unfold fastE
                    split
                    · exact self
                    · split
                      · exact self
                      · split
                        · exact self
                        · split
                          · exact self
                          · split
                            · exact count_le E d h
                            · exact self
theorem fin_le {E : Env σ} {ent : Ent σ} (he : EntLe E.fuel ent) (d : Nat) : ∀ (g : Nat) {m : Mc σ} (f : Fr), m.sends ≤ E.fuel → (finE ent E d g m f).1.sends ≤ E.fuel ∧ 0 ≤ (finE ent E d g m f).1.sends - m.sends
  | 0, m, f, h => ⟨h, by show 0 ≤ m.sends - m.sends; omega⟩
  | g + 1, m, f, h => by
    have self : m.sends ≤ E.fuel ∧ 0 ≤ m.sends - m.sends := ⟨h, by omega⟩
    unfold finE
    generalize (if f.pc < 0 then none else f.code[f.pc.toNat]?) = q
    cases q with
    | none => exact self
    | some x =>
      simp only []
      split
      · exact self
      · have h1 := step_le he d h { f with pc := f.pc + 1 } f.pc x
        split
        · exact h1
        · have h2 := fin_le he d g (mstepE ent E d m { f with pc := f.pc + 1 } f.pc x).2.1 h1.1
          exact ⟨h2.1, by omega⟩
theorem enter_le {E : Env σ} (d : Nat) {body : Mc σ → Fr → Mc σ × QV × Int} (hb : ∀ {m} f, m.sends ≤ E.fuel → (body m f).1.sends ≤ E.fuel ∧ 0 ≤ (body m f).1.sends - m.sends) : EntLe E.fuel (enterE E d body) := by
  intro m c n s a h
  have self : m.sends ≤ E.fuel ∧ 0 ≤ m.sends - m.sends := ⟨h, by omega⟩
  unfold enterE
  cases methAt E.classes c n with
  | none => exact self
  | some mt =>
    simp only []
    split
    · exact self
    · split
      · split
        · exact self
        · simp only []; omega
      · split
        · exact self
        · have h1 := count_le E d h
          have h2 := hb (frameE E c n mt s a) h1.1
          exact ⟨h2.1, by omega⟩
theorem ent_le (E : Env σ) : ∀ d : Nat, EntLe E.fuel (entE E d)
  | 0 => enter_le 0 fun f h => ⟨h, by simp only []; omega⟩
  | d + 1 => enter_le (d + 1) fun f h => fin_le (ent_le E d) d _ f h
/-- What comes to something is a send, at the least. -/
theorem ent_one (E : Env σ) (d : Nat) {m : Mc σ} (h : m.sends ≤ E.fuel) {c n : Int} {s : QV} {a : List QV} (h0 : (entE E d m c n s a).2.2 = 0) : m.sends + 1 ≤ (entE E d m c n s a).1.sends := by
  have key : ∀ (d : Nat) {body : Mc σ → Fr → Mc σ × QV × Int}, (∀ {m} f, m.sends ≤ E.fuel → (body m f).1.sends ≤ E.fuel ∧ 0 ≤ (body m f).1.sends - m.sends) → (enterE E d body m c n s a).2.2 = 0 → m.sends + 1 ≤ (enterE E d body m c n s a).1.sends := by
    intro d body hb h0
    unfold enterE at h0 ⊢
    cases hm : methAt E.classes c n with
    | none => rw [hm] at h0; cases h0
    | some mt =>
      rw [hm] at h0
      simp only [] at h0 ⊢
      split
      · rename_i k; rw [if_pos k] at h0; cases h0
      · rename_i k
        rw [if_neg k] at h0
        split
        · rename_i k2
          rw [if_pos k2] at h0
          split
          · rename_i k3; rw [if_pos k3] at h0; cases h0
          · simp only []; omega
        · rename_i k2
          rw [if_neg k2] at h0
          split
          · rename_i k3; rw [if_pos k3] at h0; exact absurd h0 k3
          · rename_i k3
            have h1 := count_le E d h
            have h2 := hb (frameE E c n mt s a) h1.1
            have h3 : (countE E d m).1.sends = m.sends + 1 := by
              have k4 : (countE E d m).2 = 0 := Decidable.of_not_not k3
              unfold countE at k4 ⊢
              split
              · rename_i k5; rw [if_pos k5] at k4; cases k4
              · rename_i k5
                rw [if_neg k5] at k4
                split
                · rename_i k6; rw [if_pos k6] at k4; cases k4
                · rfl
            omega
  cases d with
  | zero => exact key 0 (fun f h => ⟨h, by simp only []; omega⟩) h0
  | succ d => exact key (d + 1) (fun f h => fin_le (ent_le E d) d _ f h) h0
end

/-- What is wrong with a call. -/
def wrongCallE (X : QW) (s : QV) (name : ByteArray) (args : List QV) (fuel : Int) : Int :=
  if nameB name = false then 7 else if 4 < args.length then 5 else if fuel < 0 ∨ 400 < fuel then 3 else if wrongV X.heap.length s ≠ 0 then wrongV X.heap.length s else firstE (fun _ v => wrongV X.heap.length v) 0 args
def plainEnv (X : QW) (fuel : Int) : Env Unit := ⟨X.classes, fuel, fun _ _ c name => ((), findE X.classes c name), noQuick⟩
def runE (X : QW) (s : QV) (name : ByteArray) (args : List QV) (fuel : Int) : Mc Unit × QV × Int :=
  entE (plainEnv X fuel) 20 ⟨X.heap, 0, 0, ()⟩ (findE X.classes (classV X.heap s) name).1 (findE X.classes (classV X.heap s) name).2 s args
/-- A plain call: the objects then; what came of it, the error, how many sends. -/
structure Ran where
  heap : List QO
  v : QV
  err : Int
  sends : Int
def plainE (X : QW) (s : QV) (name : ByteArray) (args : List QV) (fuel : Int) : Ran :=
  if wrongCallE X s name args fuel ≠ 0 then ⟨X.heap, nilV, wrongCallE X s name args fuel, 0⟩
  else if (runE X s name args fuel).2.2 ≠ 0 then ⟨X.heap, nilV, (runE X s name args fuel).2.2, (runE X s name args fuel).1.sends⟩
  else ⟨(runE X s name args fuel).1.heap, (runE X s name args fuel).2.1, 0, (runE X s name args fuel).1.sends⟩
theorem wrongCall_is {X : QW} {s : QV} {name : ByteArray} {args : List QV} {fuel : Int} (h : wrongCallE X s name args fuel = 0) : (0 ≤ fuel ∧ fuel ≤ 400) ∧ wrongV X.heap.length s = 0 ∧ VsOk X.heap.length args := by
  unfold wrongCallE at h
  split at h
  · cases h
  · split at h
    · cases h
    · split at h
      · cases h
      · split at h
        · rename_i k; exact absurd h k
        · rename_i k1 k2 k3 k4
          refine ⟨by omega, Decidable.of_not_not k4, fun v hv => ?_⟩
          obtain ⟨i, hi, rfl⟩ := List.mem_iff_getElem.1 hv
          exact firstE_all h i _ (List.getElem?_eq_getElem hi)
theorem wrongCall_other {X : QW} {s : QV} {name : ByteArray} {args : List QV} {fuel F : Int} (h : wrongCallE X s name args fuel = 0) (h0 : 0 ≤ F) (h1 : F ≤ 400) : wrongCallE X s name args F = 0 := by
  have hw := wrongCall_is h
  unfold wrongCallE at h ⊢
  rw [if_neg (show ¬ (fuel < 0 ∨ 400 < fuel) by omega)] at h
  rw [if_neg (show ¬ (F < 0 ∨ 400 < F) by omega)]
  exact h
/-- WHAT FAILS CHANGES NOTHING. -/
theorem plain_fails {X : QW} {s : QV} {name : ByteArray} {args : List QV} {fuel : Int} (h : (plainE X s name args fuel).err ≠ 0) : (plainE X s name args fuel).heap = X.heap ∧ (plainE X s name args fuel).v = nilV ∧ 0 ≤ (plainE X s name args fuel).sends ∧ (plainE X s name args fuel).sends ≤ 400 := by
  unfold plainE at h ⊢
  split
  · exact ⟨rfl, rfl, by simp, by simp⟩
  · rename_i hw
    have hw' := wrongCall_is (Decidable.of_not_not hw)
    rw [if_neg hw] at h
    have hl := ent_le (plainEnv X fuel) 20 ⟨X.heap, 0, 0, ()⟩ (findE X.classes (classV X.heap s) name).1 (findE X.classes (classV X.heap s) name).2 s args hw'.1.1
    have hfu : (plainEnv X fuel).fuel = fuel := rfl
    split
    · refine ⟨rfl, rfl, ?_, ?_⟩
      · simp only [runE]; simp only [] at hl; omega
      · simp only [runE]; omega
    · rename_i k; rw [if_neg k] at h; exact absurd rfl h
/-- MORE IS NO LESS. -/
theorem plain_fuel {X : QW} {s : QV} {name : ByteArray} {args : List QV} {fuel F : Int} (h : (plainE X s name args fuel).err = 0) (h0 : 0 ≤ F) (h1 : F ≤ 400) :
    1 ≤ (plainE X s name args fuel).sends ∧ (plainE X s name args fuel).sends ≤ fuel ∧ ((plainE X s name args fuel).sends ≤ F → plainE X s name args F = plainE X s name args fuel) ∧ (F < (plainE X s name args fuel).sends → (plainE X s name args F).err = 13) := by
  by_cases hw : wrongCallE X s name args fuel ≠ 0
  · unfold plainE at h; rw [if_pos hw] at h; exact absurd h hw
  · have hw0 : wrongCallE X s name args fuel = 0 := Decidable.of_not_not hw
    have hw' := wrongCall_is hw0
    have hwF : ¬ wrongCallE X s name args F ≠ 0 := not_not_intro (wrongCall_other hw0 h0 h1)
    by_cases hr : (runE X s name args fuel).2.2 ≠ 0
    · unfold plainE at h; rw [if_neg hw, if_pos hr] at h; exact absurd h hr
    · have hr0 : (runE X s name args fuel).2.2 = 0 := Decidable.of_not_not hr
      have hp : plainE X s name args fuel = ⟨(runE X s name args fuel).1.heap, (runE X s name args fuel).2.1, 0, (runE X s name args fuel).1.sends⟩ := by unfold plainE; rw [if_neg hw, if_neg hr]
      have hs := ent_sim F (plainEnv X fuel) 20 ⟨X.heap, 0, 0, ()⟩ (findE X.classes (classV X.heap s) name).1 (findE X.classes (classV X.heap s) name).2 s args
      have hs' : Sim F ⟨X.heap, 0, 0, ()⟩ (runE X s name args fuel) (runE X s name args F) := hs
      have hone : (0 : Int) + 1 ≤ (runE X s name args fuel).1.sends := ent_one (plainEnv X fuel) 20 (m := ⟨X.heap, 0, 0, ()⟩) hw'.1.1 hr0
      have hle : (runE X s name args fuel).1.sends ≤ fuel := (ent_le (plainEnv X fuel) 20 ⟨X.heap, 0, 0, ()⟩ _ _ s args hw'.1.1).1
      rw [hp]
      refine ⟨by simp only []; omega, hle, fun hF => ?_, fun hF => ?_⟩
      · have e := hs'.enough hr0 hF
        unfold plainE
        rw [if_neg hwF, e, if_neg hr]
      · have e := hs'.less hr0 hF h0
        unfold plainE
        rw [if_neg hwF, if_pos (by rw [e]; decide)]
        exact e
/-- A RIGHT WORLD STAYS RIGHT. -/
theorem plain_right {X : QW} (h : rightE X = 0) (s : QV) (name : ByteArray) (args : List QV) (fuel : Int) : rightE ⟨X.classes, (plainE X s name args fuel).heap, X.epoch⟩ = 0 ∧ X.heap.length ≤ (plainE X s name args fuel).heap.length ∧ wrongV (plainE X s name args fuel).heap.length (plainE X s name args fuel).v = 0 := by
  unfold plainE
  split
  · exact ⟨h, Nat.le_refl _, wrongV_nil _⟩
  · rename_i hw
    have hw' := wrongCall_is (Decidable.of_not_not hw)
    split
    · exact ⟨h, Nat.le_refl _, wrongV_nil _⟩
    · exact run_right h (plain_ok h fuel _) rfl 20 rfl _ _ hw'.2.1 hw'.2.2
end Go.Proofs.Ytfdonemehiamjaa
