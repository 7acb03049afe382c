/- Worlds as texts: what is written, what is read, and that one is the other's. Nothing of a program. -/
import Derived.Test.YtjmidhghiahbaaaGreatDoorNa
import Derived.Lib.AtoiAll
import Derived.Lib.AtoiAllCases
import Derived.Lib.ItoaMem
namespace Go.Proofs.YtjmidhghiahbaaaGreatDoor
open Go.ChangeShapes Go.WideShapes Go.ChangeAt Go.RowKit
set_option linter.unusedSimpArgs false
set_option linter.unusedVariables false
set_option maxRecDepth 8000

/-! ### Numerals -/
theorem digit_toNat {d : Nat} (h : d < 10) : (UInt8.ofNat (48 + d)).toNat = 48 + d := by
  simp only [UInt8.toNat_ofNat']
  omega
theorem dec_ne (u : Nat) : Lib.decDigits u ≠ [] := by
  rw [Lib.decDigits]
  split
  · simp
  · simp
theorem dec_digits (u : Nat) : ∀ c ∈ Lib.decDigits u, 48 ≤ c.toNat ∧ c.toNat ≤ 57 := by
  induction u using Nat.strongRecOn with
  | _ u ih =>
    intro c hc
    rw [Lib.decDigits] at hc
    split at hc
    · rename_i h
      rw [List.mem_singleton] at hc
      subst hc
      rw [digit_toNat h]; omega
    · rename_i h
      rw [List.mem_append, List.mem_singleton] at hc
      rcases hc with hc | hc
      · exact ih (u / 10) (by omega) c hc
      · subst hc
        rw [digit_toNat (Nat.mod_lt _ (by omega))]
        have := Nat.mod_lt u (show 10 > 0 by omega)
        omega
theorem parse_append : ∀ (l r : List UInt8) (acc u : Nat), Lib.parseUint10 acc l = .ok u → Lib.parseUint10 acc (l ++ r) = Lib.parseUint10 u r
  | [], r, acc, u, h => by
    simp only [Lib.parseUint10] at h
    injection h with h
    subst h
    rfl
  | c :: l, r, acc, u, h => by
    simp only [Lib.parseUint10, List.cons_append] at h ⊢
    split at h
    · rename_i h1
      rw [if_pos h1]
      split at h
      · cases h
      · rename_i h2
        rw [if_neg h2]
        split at h
        · cases h
        · rename_i h3
          rw [if_neg h3]
          exact parse_append l r _ u h
    · cases h
theorem parse_dec (u : Nat) (hu : u < 18446744073709551616) : Lib.parseUint10 0 (Lib.decDigits u) = .ok u := by
  induction u using Nat.strongRecOn with
  | _ u ih =>
    rw [Lib.decDigits]
    split
    · rename_i h
      simp only [Lib.parseUint10]
      rw [digit_toNat h, if_pos (by omega), if_neg (by omega), if_neg (by omega)]
      congr 1
      omega
    · rename_i h
      rw [parse_append _ _ 0 (u / 10) (ih (u / 10) (by omega) (by omega))]
      simp only [Lib.parseUint10]
      have hm := Nat.mod_lt u (show 10 > 0 by omega)
      rw [digit_toNat hm, if_pos (by omega), if_neg (by omega), if_neg (by omega)]
      congr 1
      omega
theorem mag_dec (u : Nat) (hu : u < 18446744073709551616) : Lib.parseMag (Lib.decDigits u) = .ok u := by
  unfold Lib.parseMag
  rw [if_neg (dec_ne u), parse_dec u hu]
theorem atoi_itoa {n : Int} (h0 : -9223372036854775808 ≤ n) (h1 : n ≤ 9223372036854775807) : Lib.atoiAll (Lib.itoa n) = .ok n := by
  unfold Lib.itoa
  split
  · rename_i h
    unfold Lib.atoiAll
    have h45 : (45 : UInt8).toNat = 45 := rfl
    simp only [h45]
    rw [if_pos (Or.inr trivial), mag_dec _ (by omega)]
    simp only
    rw [if_neg (by simp), if_neg (by omega), if_pos trivial]
    congr 1
    omega
  · rename_i h
    have hd := dec_digits n.toNat
    have hm := mag_dec n.toNat (by omega)
    cases hl : Lib.decDigits n.toNat with
    | nil => exact absurd hl (dec_ne _)
    | cons c r =>
      rw [hl] at hd hm
      obtain ⟨c1, c2⟩ := hd c (by simp)
      unfold Lib.atoiAll
      simp only
      rw [if_neg (by omega), hm]
      simp only
      rw [if_neg (by omega), if_neg (by omega), if_neg (by omega)]
      congr 1
      omega
theorem itoa_ne (n : Int) : Lib.itoa n ≠ [] := by
  unfold Lib.itoa
  split
  · simp
  · exact dec_ne _
theorem itoa_no32 (n : Int) : (32 : UInt8) ∉ Lib.itoa n := by
  intro h
  unfold Lib.itoa at h
  split at h
  · simp at h
    have := dec_digits _ _ h
    simp at this
  · have := dec_digits _ _ h
    simp at this

/-! ### Words -/
/-- The next word: some bytes, but no blank, and a blank. -/
def takeWord (l : List UInt8) : Option (List UInt8 × List UInt8) :=
  match l.idxOf? 32 with
  | none => none
  | some 0 => none
  | some (i + 1) => some (l.take (i + 1), l.drop (i + 2))
theorem takeWord_is {l w r : List UInt8} (h : takeWord l = some (w, r)) : l = w ++ 32 :: r ∧ w ≠ [] ∧ (32 : UInt8) ∉ w := by
  unfold takeWord at h
  split at h
  · cases h
  · cases h
  · rename_i i hi
    cases h
    rw [List.idxOf?, List.findIdx?_eq_some_iff_getElem] at hi
    obtain ⟨hl, h1, h2⟩ := hi
    have hx : l[i + 1] = 32 := by simpa using h1
    refine ⟨?_, ?_, ?_⟩
    · have e := List.take_append_drop (i + 1) l
      rw [List.drop_eq_getElem_cons hl, hx] at e
      exact e.symm
    · intro hn
      have := congrArg List.length hn
      rw [List.length_take, List.length_nil] at this
      omega
    · intro hm
      obtain ⟨j, hj, hjx⟩ := List.mem_iff_getElem.1 hm
      rw [List.getElem_take] at hjx
      have hj' : j < i + 1 := by simp at hj; omega
      have := h2 j hj'
      rw [hjx] at this
      simp at this
theorem takeWord_mk {w r : List UInt8} (h1 : w ≠ []) (h2 : (32 : UInt8) ∉ w) : takeWord (w ++ 32 :: r) = some (w, r) := by
  have hl : 0 < w.length := List.length_pos_iff.2 h1
  have hi : (w ++ 32 :: r).idxOf? 32 = some w.length := by
    rw [List.idxOf?, List.findIdx?_eq_some_iff_getElem]
    refine ⟨by simp, by simp, fun j hj => ?_⟩
    rw [List.getElem_append_left hj]
    have : w[j] ≠ 32 := fun he => h2 (he ▸ List.getElem_mem hj)
    simpa using this
  unfold takeWord
  rw [hi]
  obtain ⟨k, hk⟩ : ∃ k, w.length = k + 1 := ⟨w.length - 1, by omega⟩
  rw [hk]
  simp only [Option.some.injEq, Prod.mk.injEq]
  constructor
  · rw [← hk, List.take_left]
  · rw [show k + 2 = w.length + 1 by omega, ← List.drop_drop, List.drop_left]; rfl
theorem takeWord_more {l w r : List UInt8} (h : takeWord l = some (w, r)) (q : List UInt8) : takeWord (l ++ q) = some (w, r ++ q) := by
  obtain ⟨e, h1, h2⟩ := takeWord_is h
  rw [e, List.append_assoc, List.cons_append]
  exact takeWord_mk h1 h2
/-- The next number. -/
def takeNum (l : List UInt8) : Option (Int × List UInt8) :=
  match takeWord l with
  | none => none
  | some (w, r) => match Lib.atoiAll w with
    | .ok n => if Lib.itoa n = w then some (n, r) else none
    | _ => none
theorem takeNum_is {l r : List UInt8} {n : Int} (h : takeNum l = some (n, r)) : l = Lib.itoa n ++ 32 :: r ∧ -9223372036854775808 ≤ n ∧ n ≤ 9223372036854775807 := by
  unfold takeNum at h
  split at h
  · cases h
  · rename_i w r' hw
    split at h
    · rename_i n' hn
      split at h
      · rename_i he
        cases h
        exact ⟨by rw [he]; exact (takeWord_is hw).1, Lib.atoiAll_bounds hn⟩
      · cases h
    · cases h
theorem takeNum_mk {n : Int} (h0 : -9223372036854775808 ≤ n) (h1 : n ≤ 9223372036854775807) (r : List UInt8) : takeNum (Lib.itoa n ++ 32 :: r) = some (n, r) := by
  unfold takeNum
  rw [takeWord_mk (itoa_ne n) (itoa_no32 n)]
  simp only
  rw [atoi_itoa h0 h1]
  simp
theorem takeNum_more {l r : List UInt8} {n : Int} (h : takeNum l = some (n, r)) (q : List UInt8) : takeNum (l ++ q) = some (n, r ++ q) := by
  obtain ⟨e, h0, h1⟩ := takeNum_is h
  rw [e, List.append_assoc, List.cons_append]
  exact takeNum_mk h0 h1 _

/-! ### What is read is what was written -/
/-- f reads what enc writes, of all that is ok, and nothing else. -/
structure Codec {α : Type} (f : List UInt8 → Option (α × List UInt8)) (enc : α → List UInt8) (ok : α → Prop) : Prop where
  wr : ∀ x r, ok x → f (enc x ++ r) = some (x, r)
  is : ∀ l x r, f l = some (x, r) → l = enc x ++ r ∧ ok x
theorem Codec.more {α : Type} {f : List UInt8 → Option (α × List UInt8)} {enc : α → List UInt8} {ok : α → Prop} (C : Codec f enc ok) {l : List UInt8} {x : α} {r : List UInt8} (h : f l = some (x, r)) (q : List UInt8) : f (l ++ q) = some (x, r ++ q) := by
  obtain ⟨e, h1⟩ := C.is _ _ _ h
  rw [e, List.append_assoc]
  exact C.wr _ _ h1
def I64 (n : Int) : Prop := -9223372036854775808 ≤ n ∧ n ≤ 9223372036854775807
def numW (n : Int) : List UInt8 := Lib.itoa n ++ [32]
theorem codecN : Codec takeNum numW I64 where
  wr n r h := by unfold numW; rw [List.append_assoc]; exact takeNum_mk h.1 h.2 r
  is l n r h := by obtain ⟨e, h0, h1⟩ := takeNum_is h; exact ⟨by unfold numW; rw [List.append_assoc]; exact e, h0, h1⟩
def takeName (l : List UInt8) : Option (ByteArray × List UInt8) := (takeWord l).bind fun p => some (⟨p.1.toArray⟩, p.2)
def wordW (s : ByteArray) : List UInt8 := s.data.toList ++ [32]
def WordOk (s : ByteArray) : Prop := s.data.toList ≠ [] ∧ (32 : UInt8) ∉ s.data.toList
theorem codecS : Codec takeName wordW WordOk where
  wr s r h := by
    unfold wordW takeName
    rw [List.append_assoc, List.singleton_append, takeWord_mk h.1 h.2]
    simp
  is l s r h := by
    unfold takeName at h
    cases hw : takeWord l with
    | none => rw [hw] at h; cases h
    | some p =>
      obtain ⟨w, r'⟩ := p
      rw [hw] at h
      simp only [Option.bind_some, Option.some.injEq, Prod.mk.injEq] at h
      obtain ⟨rfl, rfl⟩ := h
      obtain ⟨e, h1, h2⟩ := takeWord_is hw
      refine ⟨?_, ?_⟩
      · unfold wordW; simpa using e
      · unfold WordOk; simpa using ⟨h1, h2⟩
def takeMany {α : Type} (f : List UInt8 → Option (α × List UInt8)) : Nat → List UInt8 → Option (List α × List UInt8)
  | 0, l => some ([], l)
  | n + 1, l => (f l).bind fun p => (takeMany f n p.2).bind fun q => some (p.1 :: q.1, q.2)
def manyW {α : Type} (enc : α → List UInt8) (xs : List α) : List UInt8 := xs.flatMap enc
theorem codecMany {α : Type} {f : List UInt8 → Option (α × List UInt8)} {enc : α → List UInt8} {ok : α → Prop} (C : Codec f enc ok) : ∀ n : Nat, Codec (takeMany f n) (manyW enc) (fun xs => xs.length = n ∧ ∀ x ∈ xs, ok x)
  | 0 => {
    wr := fun xs r h => by
      have : xs = [] := List.eq_nil_of_length_eq_zero h.1
      subst this
      rfl
    is := fun l xs r h => by
      simp only [takeMany, Option.some.injEq, Prod.mk.injEq] at h
      obtain ⟨rfl, rfl⟩ := h
      simp [manyW] }
  | n + 1 => {
    wr := fun xs r h => by
      cases xs with
      | nil => simp at h
      | cons x xs =>
        have hx := h.2 x (by simp)
        have hxs : xs.length = n ∧ ∀ x ∈ xs, ok x := ⟨by simpa using h.1, fun y hy => h.2 y (by simp [hy])⟩
        simp only [takeMany, manyW, List.flatMap_cons, List.append_assoc]
        rw [C.wr _ _ hx]
        simp only [Option.bind_some]
        have := (codecMany C n).wr xs r hxs
        unfold manyW at this
        rw [this]
        simp
    is := fun l xs r h => by
      simp only [takeMany] at h
      cases hf : f l with
      | none => simp [hf] at h
      | some p =>
        obtain ⟨x, r1⟩ := p
        simp only [hf, Option.bind_some] at h
        cases hg : takeMany f n r1 with
        | none => simp [hg] at h
        | some q =>
          obtain ⟨ys, r2⟩ := q
          simp only [hg, Option.bind_some, Option.some.injEq, Prod.mk.injEq] at h
          obtain ⟨rfl, rfl⟩ := h
          obtain ⟨i1, i2⟩ := C.is _ _ _ hf
          obtain ⟨i3, i4⟩ := (codecMany C n).is _ _ _ hg
          refine ⟨?_, by simp [i4.1], fun y hy => ?_⟩
          · rw [i1, i3]; simp [manyW]
          · simp at hy
            rcases hy with rfl | hy
            · exact i2
            · exact i4.2 y hy }
def takeCount (most : Nat) (l : List UInt8) : Option (Nat × List UInt8) := (takeNum l).bind fun p => if 0 ≤ p.1 ∧ p.1 ≤ most then some (p.1.toNat, p.2) else none
theorem codecCount {most : Nat} (hm : most ≤ 1000) : Codec (takeCount most) (fun n => numW n) (fun n => n ≤ most) where
  wr n r h := by
    unfold takeCount
    rw [codecN.wr _ _ (show I64 (n : Int) from ⟨by omega, by omega⟩)]
    simp only [Option.bind_some]
    rw [if_pos ⟨by omega, by omega⟩]
    simp
  is l n r h := by
    unfold takeCount at h
    cases hf : takeNum l with
    | none => simp [hf] at h
    | some p =>
      obtain ⟨x, r1⟩ := p
      simp only [hf, Option.bind_some] at h
      split at h
      · rename_i hx
        simp only [Option.some.injEq, Prod.mk.injEq] at h
        obtain ⟨rfl, rfl⟩ := h
        obtain ⟨i1, i2⟩ := codecN.is _ _ _ hf
        exact ⟨by rw [Int.toNat_of_nonneg hx.1]; exact i1, by omega⟩
      · cases h
def takeList {α : Type} (f : List UInt8 → Option (α × List UInt8)) (most : Nat) (l : List UInt8) : Option (List α × List UInt8) := (takeCount most l).bind fun p => takeMany f p.1 p.2
def listW {α : Type} (enc : α → List UInt8) (xs : List α) : List UInt8 := numW xs.length ++ manyW enc xs
theorem codecList {α : Type} {f : List UInt8 → Option (α × List UInt8)} {enc : α → List UInt8} {ok : α → Prop} (C : Codec f enc ok) {most : Nat} (hm : most ≤ 1000) : Codec (takeList f most) (listW enc) (fun xs => xs.length ≤ most ∧ ∀ x ∈ xs, ok x) where
  wr xs r h := by
    unfold takeList listW
    rw [List.append_assoc, (codecCount hm).wr _ _ h.1]
    simp only [Option.bind_some]
    exact (codecMany C _).wr _ _ ⟨rfl, h.2⟩
  is l xs r h := by
    unfold takeList at h
    cases hf : takeCount most l with
    | none => simp [hf] at h
    | some p =>
      obtain ⟨n, r1⟩ := p
      simp only [hf, Option.bind_some] at h
      obtain ⟨i1, i2⟩ := (codecCount hm).is _ _ _ hf
      obtain ⟨i3, i4, i5⟩ := (codecMany C n).is _ _ _ h
      subst i4
      exact ⟨by unfold listW; rw [i1, i3, List.append_assoc], i2, i5⟩

/-! ### Instructions, methods, classes, objects, worlds -/
def takeInstr (l : List UInt8) : Option (QI × List UInt8) := (takeNum l).bind fun p => (takeNum p.2).bind fun q => if p.1 = 14 then (takeName q.2).bind fun s => some (⟨p.1, q.1, 0, 0, s.1⟩, s.2) else some (⟨p.1, q.1, 0, 0, ⟨#[]⟩⟩, q.2)
def instrW (x : QI) : List UInt8 := numW x.op ++ (numW x.a ++ if x.op = 14 then wordW x.name else [])
def InstrOk (x : QI) : Prop := I64 x.op ∧ I64 x.a ∧ x.b = 0 ∧ x.c = 0 ∧ (if x.op = 14 then WordOk x.name else x.name = ⟨#[]⟩)
theorem codecI : Codec takeInstr instrW InstrOk where
  wr x r h := by
    obtain ⟨op, a, b, c, nm⟩ := x
    obtain ⟨h1, h2, h3, h4, h5⟩ := h
    simp only at h1 h2 h3 h4 h5
    subst h3 h4
    unfold takeInstr instrW
    simp only [List.append_assoc]
    rw [codecN.wr _ _ h1]
    simp only [Option.bind_some]
    rw [codecN.wr _ _ h2]
    simp only [Option.bind_some]
    by_cases ho : op = 14
    · rw [if_pos ho] at h5
      rw [if_pos ho, if_pos ho, codecS.wr _ _ h5]
      simp
    · rw [if_neg ho] at h5
      rw [if_neg ho, if_neg ho, h5]
      simp
  is l x r h := by
    unfold takeInstr at h
    simp only [Option.bind_eq_some_iff] at h
    obtain ⟨⟨op, r1⟩, h1, ⟨a, r2⟩, h2, h3⟩ := h
    simp only at h2 h3
    obtain ⟨i1, i2⟩ := codecN.is _ _ _ h1
    obtain ⟨i3, i4⟩ := codecN.is _ _ _ h2
    split at h3
    · rename_i ho
      simp only [Option.bind_eq_some_iff] at h3
      obtain ⟨⟨s, r3⟩, h4, h5⟩ := h3
      simp only [Option.some.injEq, Prod.mk.injEq] at h5
      obtain ⟨rfl, rfl⟩ := h5
      obtain ⟨i5, i6⟩ := codecS.is _ _ _ h4
      refine ⟨?_, i2, i4, rfl, rfl, ?_⟩
      · unfold instrW
        simp only
        rw [if_pos ho, i1, i3, i5]; simp
      · simp only; rw [if_pos ho]; exact i6
    · rename_i ho
      simp only [Option.some.injEq, Prod.mk.injEq] at h3
      obtain ⟨rfl, rfl⟩ := h3
      refine ⟨?_, i2, i4, rfl, rfl, ?_⟩
      · unfold instrW
        simp only
        rw [if_neg ho, i1, i3]; simp
      · simp [ho]
def takeVal (l : List UInt8) : Option (QV × List UInt8) := (takeNum l).bind fun p => (takeNum p.2).bind fun q => some (⟨p.1, q.1⟩, q.2)
def valW (v : QV) : List UInt8 := numW v.k ++ numW v.n
def ValOk (v : QV) : Prop := I64 v.k ∧ I64 v.n
theorem codecV : Codec takeVal valW ValOk where
  wr x r h := by
    unfold takeVal valW
    rw [List.append_assoc, codecN.wr _ _ h.1]
    simp only [Option.bind_some]
    rw [codecN.wr _ _ h.2]
    simp
  is l x r h := by
    unfold takeVal at h
    simp only [Option.bind_eq_some_iff, Option.some.injEq, Prod.mk.injEq] at h
    obtain ⟨⟨k, r1⟩, h1, ⟨n, r2⟩, h2, rfl, rfl⟩ := h
    obtain ⟨i1, i2⟩ := codecN.is _ _ _ h1
    obtain ⟨i3, i4⟩ := codecN.is _ _ _ h2
    simp only at i3
    exact ⟨by unfold valW; simp only; rw [i1, i3]; simp, i2, i4⟩
def takeMeth (l : List UInt8) : Option (QM × List UInt8) := (takeName l).bind fun a => (takeNum a.2).bind fun b => (takeNum b.2).bind fun c => (takeNum c.2).bind fun d => (takeList takeInstr 60 d.2).bind fun e => some (⟨a.1, b.1, c.1, d.1, e.1⟩, e.2)
def methW (m : QM) : List UInt8 := wordW m.name ++ (numW m.args ++ (numW m.temps ++ (numW m.prim ++ listW instrW m.code)))
def MethOkW (m : QM) : Prop := WordOk m.name ∧ I64 m.args ∧ I64 m.temps ∧ I64 m.prim ∧ m.code.length ≤ 60 ∧ ∀ x ∈ m.code, InstrOk x
theorem codecM : Codec takeMeth methW MethOkW where
  wr x r h := by
    obtain ⟨h1, h2, h3, h4, h5⟩ := h
    unfold takeMeth methW
    simp only [List.append_assoc]
    rw [codecS.wr _ _ h1]
    simp only [Option.bind_some]
    rw [codecN.wr _ _ h2]
    simp only [Option.bind_some]
    rw [codecN.wr _ _ h3]
    simp only [Option.bind_some]
    rw [codecN.wr _ _ h4]
    simp only [Option.bind_some]
    rw [(codecList codecI (by decide)).wr _ _ h5]
    simp
  is l x r h := by
    unfold takeMeth at h
    simp only [Option.bind_eq_some_iff, Option.some.injEq, Prod.mk.injEq] at h
    obtain ⟨⟨a, r1⟩, h1, ⟨b, r2⟩, h2, ⟨c, r3⟩, h3, ⟨d, r4⟩, h4, ⟨e, r5⟩, h5, rfl, rfl⟩ := h
    obtain ⟨i1, k1⟩ := codecS.is _ _ _ h1
    obtain ⟨i2, k2⟩ := codecN.is _ _ _ h2
    obtain ⟨i3, k3⟩ := codecN.is _ _ _ h3
    obtain ⟨i4, k4⟩ := codecN.is _ _ _ h4
    obtain ⟨i5, k5⟩ := (codecList codecI (by decide)).is _ _ _ h5
    simp only at i2 i3 i4 i5
    exact ⟨by unfold methW; simp only; rw [i1, i2, i3, i4, i5]; simp, k1, k2, k3, k4, k5⟩
def takeClass (l : List UInt8) : Option (QC × List UInt8) := (takeName l).bind fun a => (takeNum a.2).bind fun b => (takeNum b.2).bind fun c => (takeList takeMeth 8 c.2).bind fun e => some (⟨a.1, b.1, c.1, e.1⟩, e.2)
def classW (m : QC) : List UInt8 := wordW m.name ++ (numW m.super ++ (numW m.slots ++ listW methW m.methods))
def ClassOkW (m : QC) : Prop := WordOk m.name ∧ I64 m.super ∧ I64 m.slots ∧ m.methods.length ≤ 8 ∧ ∀ x ∈ m.methods, MethOkW x
theorem codecC : Codec takeClass classW ClassOkW where
  wr x r h := by
    obtain ⟨h1, h2, h3, h5⟩ := h
    unfold takeClass classW
    simp only [List.append_assoc]
    rw [codecS.wr _ _ h1]
    simp only [Option.bind_some]
    rw [codecN.wr _ _ h2]
    simp only [Option.bind_some]
    rw [codecN.wr _ _ h3]
    simp only [Option.bind_some]
    rw [(codecList codecM (by decide)).wr _ _ h5]
    simp
  is l x r h := by
    unfold takeClass at h
    simp only [Option.bind_eq_some_iff, Option.some.injEq, Prod.mk.injEq] at h
    obtain ⟨⟨a, r1⟩, h1, ⟨b, r2⟩, h2, ⟨c, r3⟩, h3, ⟨e, r5⟩, h5, rfl, rfl⟩ := h
    obtain ⟨i1, k1⟩ := codecS.is _ _ _ h1
    obtain ⟨i2, k2⟩ := codecN.is _ _ _ h2
    obtain ⟨i3, k3⟩ := codecN.is _ _ _ h3
    obtain ⟨i5, k5⟩ := (codecList codecM (by decide)).is _ _ _ h5
    simp only at i2 i3 i5
    exact ⟨by unfold classW; simp only; rw [i1, i2, i3, i5]; simp, k1, k2, k3, k5⟩
def takeObj (l : List UInt8) : Option (QO × List UInt8) := (takeNum l).bind fun a => (takeList takeVal 6 a.2).bind fun e => some (⟨a.1, e.1⟩, e.2)
def objW (o : QO) : List UInt8 := numW o.cls ++ listW valW o.slots
def ObjOkW (o : QO) : Prop := I64 o.cls ∧ o.slots.length ≤ 6 ∧ ∀ x ∈ o.slots, ValOk x
theorem codecO : Codec takeObj objW ObjOkW where
  wr x r h := by
    obtain ⟨h1, h5⟩ := h
    unfold takeObj objW
    simp only [List.append_assoc]
    rw [codecN.wr _ _ h1]
    simp only [Option.bind_some]
    rw [(codecList codecV (by decide)).wr _ _ h5]
    simp
  is l x r h := by
    unfold takeObj at h
    simp only [Option.bind_eq_some_iff, Option.some.injEq, Prod.mk.injEq] at h
    obtain ⟨⟨a, r1⟩, h1, ⟨e, r5⟩, h5, rfl, rfl⟩ := h
    obtain ⟨i1, k1⟩ := codecN.is _ _ _ h1
    obtain ⟨i5, k5⟩ := (codecList codecV (by decide)).is _ _ _ h5
    simp only at i5
    exact ⟨by unfold objW; simp only; rw [i1, i5]; simp, k1, k5⟩
def takeWorld (l : List UInt8) : Option (QW × List UInt8) := (takeNum l).bind fun a => (takeList takeClass 12 a.2).bind fun c => (takeList takeObj 60 c.2).bind fun e => some (⟨c.1, e.1, a.1⟩, e.2)
def worldW (X : QW) : List UInt8 := numW X.epoch ++ (listW classW X.classes ++ listW objW X.heap)
def WorldOkW (X : QW) : Prop := I64 X.epoch ∧ (X.classes.length ≤ 12 ∧ ∀ x ∈ X.classes, ClassOkW x) ∧ (X.heap.length ≤ 60 ∧ ∀ x ∈ X.heap, ObjOkW x)
theorem codecW : Codec takeWorld worldW WorldOkW where
  wr x r h := by
    obtain ⟨h1, h2, h5⟩ := h
    unfold takeWorld worldW
    simp only [List.append_assoc]
    rw [codecN.wr _ _ h1]
    simp only [Option.bind_some]
    rw [(codecList codecC (by decide)).wr _ _ h2]
    simp only [Option.bind_some]
    rw [(codecList codecO (by decide)).wr _ _ h5]
    simp
  is l x r h := by
    unfold takeWorld at h
    simp only [Option.bind_eq_some_iff, Option.some.injEq, Prod.mk.injEq] at h
    obtain ⟨⟨a, r1⟩, h1, ⟨c, r2⟩, h2, ⟨e, r5⟩, h5, rfl, rfl⟩ := h
    obtain ⟨i1, k1⟩ := codecN.is _ _ _ h1
    obtain ⟨i2, k2⟩ := (codecList codecC (by decide)).is _ _ _ h2
    obtain ⟨i5, k5⟩ := (codecList codecO (by decide)).is _ _ _ h5
    simp only at i2 i5
    exact ⟨by unfold worldW; simp only; rw [i1, i2, i5]; simp, k1, k2, k5⟩

/-! ### What is saved is loaded; no part of it is one -/
/-- Which world is a text's, or why it is none's. -/
def parseE (b : List UInt8) : QW × Int := match takeWorld b with
  | some (X, []) => if rightE X = 0 then (X, 0) else (⟨[], [], 0⟩, rightE X)
  | _ => (⟨[], [], 0⟩, 2)
theorem parse_world {X : QW} (h : WorldOkW X) (hr : rightE X = 0) : parseE (worldW X) = (X, 0) := by
  have := codecW.wr X [] h
  rw [List.append_nil] at this
  unfold parseE
  rw [this]
  simp only
  rw [if_pos hr]
theorem parse_text {b : List UInt8} {X : QW} (h : parseE b = (X, 0)) : rightE X = 0 ∧ worldW X = b := by
  unfold parseE at h
  split at h
  · rename_i Y hY
    split at h
    · rename_i h0
      simp only [Prod.mk.injEq] at h
      obtain ⟨rfl, -⟩ := h
      obtain ⟨e, -⟩ := codecW.is _ _ _ hY
      rw [List.append_nil] at e
      exact ⟨h0, e.symm⟩
    · rename_i h0
      simp only [Prod.mk.injEq] at h
      exact absurd h.2 h0
  · simp at h
theorem parse_cut {X : QW} (h : WorldOkW X) {n : Nat} (hn : n < (worldW X).length) : parseE ((worldW X).take n) = (⟨[], [], 0⟩, 2) := by
  unfold parseE
  split
  · rename_i Y hY
    exfalso
    have h1 := codecW.more hY ((worldW X).drop n)
    rw [List.take_append_drop] at h1
    have h2 := codecW.wr X [] h
    rw [List.append_nil] at h2
    rw [h2] at h1
    simp only [Option.some.injEq, Prod.mk.injEq, List.nil_append] at h1
    have := congrArg List.length h1.2
    rw [List.length_drop, List.length_nil] at this
    omega
  · rfl
end Go.Proofs.YtjmidhghiahbaaaGreatDoor
