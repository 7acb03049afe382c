/- Several texts in one. -/
import Derived.Test.YtjmidhghiahbaaaGreatDoorWb
import Derived.Test.YtjmidhghiahbaaaGreatDoorWl
import Derived.OwnWalk
import Derived.Test.YtjmidhghiahbaaaGreatDoorKc
import Derived.Test.YtjmidhghiahbaaaGreatDoorNb
import Derived.Test.YtjmidhghiahbaaaGreatDoorWm
import Derived.Test.YtjmidhghiahbaaaGreatDoorUg
import Derived.Test.YtjmidhghiahbaaaGreatDoorDs
import Derived.Deep.RegionHeld3
import Derived.Deep.Cut
import Derived.Test.YtjmidhghiahbaaaGreatDoorWk
import Derived.Test.YtjmidhghiahbaaaGreatDoorRows
import Derived.Test.YtjmidhghiahbaaaGreatDoorRa
import Derived.Stop.LaidErr
import Derived.LaidMore
import Derived.Stop.Joined
import Derived.Test.YtjmidhghiahbaaaGreatDoorCards
import Derived.Test.YtjmidhghiahbaaaGreatDoorTie
import Derived.ChangeMaps5
import Derived.SevenTiedAt
import Derived.Deep.DeepHandedRow
import Derived.Deep.DeepWitnessRowRef
/- Words: a text that is words, each with a blank behind it. Nothing of a program. -/
namespace Go.Proofs.YtjmidhghiahbaaaGreatDoor
open Go.ChangeShapes Go.WideShapes Go.ChangeAt Go.RowKit
set_option linter.unusedSimpArgs false
set_option linter.unusedVariables false
set_option maxRecDepth 8000

def joinW (ws : List (List UInt8)) : List UInt8 := ws.flatMap fun w => w ++ [32]
def GoodWs (ws : List (List UInt8)) : Prop := ∀ w ∈ ws, w ≠ [] ∧ (32 : UInt8) ∉ w
theorem join_cons (w : List UInt8) (ws : List (List UInt8)) : joinW (w :: ws) = w ++ 32 :: joinW ws := by simp [joinW]
theorem join_append (a b : List (List UInt8)) : joinW (a ++ b) = joinW a ++ joinW b := by simp [joinW]
theorem join_snoc (a : List (List UInt8)) (w : List UInt8) : joinW (a ++ [w]) = joinW a ++ (w ++ [32]) := by simp [joinW]
theorem GoodWs.tail {w : List UInt8} {ws : List (List UInt8)} (h : GoodWs (w :: ws)) : GoodWs ws := fun x hx => h x (by simp [hx])
theorem GoodWs.append {a b : List (List UInt8)} (h : GoodWs a) (k : GoodWs b) : GoodWs (a ++ b) := fun x hx => by
  rcases List.mem_append.1 hx with hx | hx
  · exact h x hx
  · exact k x hx
theorem take_join {w : List UInt8} {ws : List (List UInt8)} (h : GoodWs (w :: ws)) : takeWord (joinW (w :: ws)) = some (w, joinW ws) := by
  rw [join_cons]
  exact takeWord_mk (h w (by simp)).1 (h w (by simp)).2
theorem take_nil : takeWord (joinW []) = none := rfl
def Joins (l : List UInt8) : Prop := ∃ ws, GoodWs ws ∧ l = joinW ws
theorem Joins.nil : Joins [] := ⟨[], (fun w hw => by cases hw), rfl⟩
theorem Joins.append {a b : List UInt8} (h : Joins a) (k : Joins b) : Joins (a ++ b) := by
  obtain ⟨x, hx, rfl⟩ := h
  obtain ⟨y, hy, rfl⟩ := k
  exact ⟨x ++ y, hx.append hy, (join_append x y).symm⟩
theorem Joins.one {w : List UInt8} (h1 : w ≠ []) (h2 : (32 : UInt8) ∉ w) : Joins (w ++ [32]) := ⟨[w], fun x hx => by simp at hx; subst hx; exact ⟨h1, h2⟩, by simp [joinW]⟩
theorem joins_num (n : Int) : Joins (numW n) := Joins.one (itoa_ne n) (itoa_no32 n)
theorem joins_word {s : ByteArray} (h : WordOk s) : Joins (wordW s) := Joins.one h.1 h.2
theorem joins_many {α : Type} {enc : α → List UInt8} : ∀ {xs : List α}, (∀ x ∈ xs, Joins (enc x)) → Joins (manyW enc xs)
  | [], _ => Joins.nil
  | x :: xs, h => by
    unfold manyW
    rw [List.flatMap_cons]
    exact (h x (by simp)).append (joins_many fun y hy => h y (by simp [hy]))
theorem joins_list {α : Type} {enc : α → List UInt8} {xs : List α} (h : ∀ x ∈ xs, Joins (enc x)) : Joins (listW enc xs) := (joins_num _).append (joins_many h)
theorem joins_instr {x : QI} (h : InstrOk x) : Joins (instrW x) := by
  obtain ⟨-, -, -, -, h5⟩ := h
  unfold instrW
  refine (joins_num _).append ((joins_num _).append ?_)
  split
  · rename_i h; rw [if_pos h] at h5; exact joins_word h5
  · exact Joins.nil
theorem joins_world {X : QW} (h : WorldOkW X) : Joins (worldW X) := by
  obtain ⟨-, ⟨-, h2⟩, -, h4⟩ := h
  refine (joins_num _).append ((joins_list fun c hc => ?_).append (joins_list fun o ho => ?_))
  · obtain ⟨c1, -, -, -, c5⟩ := h2 c hc
    refine (joins_word c1).append ((joins_num _).append ((joins_num _).append (joins_list fun m hm => ?_)))
    obtain ⟨m1, -, -, -, -, m6⟩ := c5 m hm
    exact (joins_word m1).append ((joins_num _).append ((joins_num _).append ((joins_num _).append (joins_list fun x hx => joins_instr (m6 x hx)))))
  · exact (joins_num _).append (joins_list fun v _ => (joins_num _).append (joins_num _))
theorem not_joins {r : List UInt8} (hr : ∀ ws, GoodWs ws → r ≠ joinW ws) : ∀ (a : List (List UInt8)), GoodWs a → ¬ Joins (joinW a ++ r)
  | [], _, ⟨ws, hg, e⟩ => hr ws hg e
  | w :: a, ha, ⟨ws, hg, e⟩ => by
    cases ws with
    | nil => rw [join_cons] at e; simp [joinW] at e
    | cons v ws =>
      have e1 := take_join hg
      rw [← e, join_cons, List.append_assoc, List.cons_append, takeWord_mk (ha w (by simp)).1 (ha w (by simp)).2] at e1
      simp only [Option.some.injEq, Prod.mk.injEq] at e1
      exact not_joins hr a ha.tail ⟨ws, hg.tail, e1.2⟩
theorem blank_ne {r : List UInt8} (ws : List (List UInt8)) (h : GoodWs ws) : (32 :: r) ≠ joinW ws := fun e => by
  cases ws with
  | nil => cases e
  | cons w ws =>
    obtain ⟨h1, h2⟩ := h w (by simp)
    rw [join_cons] at e
    cases w with
    | nil => exact h1 rfl
    | cons c w =>
      simp only [List.cons_append, List.cons.injEq] at e
      exact h2 (by rw [← e.1]; simp)
theorem tail_ne {r : List UInt8} (h1 : r ≠ []) (h2 : (32 : UInt8) ∉ r) (ws : List (List UInt8)) (h : GoodWs ws) : r ≠ joinW ws := fun e => by
  cases ws with
  | nil => exact h1 e
  | cons w ws => rw [join_cons] at e; exact h2 (by rw [e]; simp)
/-- Where a text is no such words, it is no world's. -/
theorem parse_noWords {b : List UInt8} (h : ¬ Joins b) : parseE b = (⟨[], [], 0⟩, 2) := by
  unfold parseE
  split
  · rename_i X hX
    obtain ⟨e, hw⟩ := codecW.is _ _ _ hX
    rw [List.append_nil] at e
    exact absurd (e ▸ joins_world hw) h
  · rfl
end Go.Proofs.YtjmidhghiahbaaaGreatDoor

/- The document's reader (package qcref1): Words. -/
namespace Go.Proofs.YtjmidhghiahbaaaGreatDoor
open Go.ChangeShapes Go.WideShapes Go.ChangeAt Go.RowKit
set_option linter.unusedSimpArgs false
set_option linter.unusedVariables false
set_option maxRecDepth 8000

theorem info9 : (Tryz.prog.info? 9).map (fun i => (i.zero, i.size, i.bytes)) = some (some (.string ⟨#[]⟩), 1, 16) := by kernel_rfl
def wcells (ws : List (List UInt8)) : List Value := ws.map fun w => SV w
theorem owns_slice9 {w : World} {B : Nat} {v : Value} {n : Nat} {xs : List Value} (h : w.ownsRow B 9 1 v n xs) : ∃ ad cap, v = .slice ad n cap := by
  rcases h.2 with ⟨rfl, rfl⟩ | ⟨g, cap, cur, rfl, -⟩
  · exact ⟨_, _, rfl⟩
  · exact ⟨_, _, rfl⟩
theorem ext_one (s : ByteArray) (i : Nat) (hi : i < s.size) (cur : List UInt8) : ByteArray.mk cur.toArray ++ s.extract i (i + 1) = ByteArray.mk (cur ++ [s[i]]).toArray := by
  have e : s.extract i (i + 1) = ByteArray.mk [s[i]].toArray := by
    apply ByteArray.ext
    rw [ByteArray.data_extract]
    apply Array.ext
    · have : s.data.size = s.size := rfl
      simp
      omega
    · intro j h1 h2
      have : j = 0 := by simp at h2; omega
      subst this
      simp
      rfl
  rw [e, ByteArray.mk_append_mk]
set_option maxHeartbeats 2000000 in
theorem words_any (s : ByteArray) (w : World) (hs : s.size ≤ 1048576) : Calls Tryz.prog 24 #[.string s] w fun e w' => Below w.heap.size w w' ∧ ∃ v b, e = .returned (.tuple #[v, .bool b]) ∧ (b = true → ∃ ws, GoodWs ws ∧ s.data.toList = joinW ws ∧ w'.ownsRow w.heap.size 9 1 v ws.length (wcells ws)) ∧ (b = false → ¬ Joins s.data.toList) := by
  obtain ⟨i0, hi, hz0, hz1, hz2⟩ := info_parts info9
  have hsz : s.data.toList.length = s.size := rfl
  go_enter Tryz.func24, Tryz.ntmps24
  go_wp2_with (fail)
  go_loopg [4, 5, 9] s.size (fun g lv cv iv wr => ∃ (ws : List (List UInt8)) (cur : List UInt8) (i : Nat), i + g = s.size ∧ iv = .int .i64 (i : Int) ∧ cv = SV cur ∧ GoodWs ws ∧ (32 : UInt8) ∉ cur ∧ s.data.toList.take i = joinW ws ++ cur ∧ ws.length ≤ i ∧ cur.length ≤ i ∧ wr.ownsRow w.heap.size 9 1 lv ws.length (wcells ws) ∧ Below w.heap.size w wr)
  case atStart => exact ⟨[], [], 0, by omega, rfl, rfl, (fun x hx => by cases hx), by simp, by simp [joinW], by simp, by simp, World.ownsRow_nil _ _ _ _, Below.refl _ _⟩
  case round =>
    obtain ⟨ws, cur, i, hg, rfl, rfl, hgw, hc32, htk, hwl, hcl, hown, hbel⟩ := hrel
    obtain ⟨la, lc, rfl⟩ := owns_slice9 hown
    by_cases hj : i < s.size
    · have hj1 : (i : Int) < (s.size : Int) := by omega
      have hj0 : (0 : Int) ≤ (i : Int) := by omega
      have hcd : s.data.toList[i]? = some s[i] := by rw [List.getElem?_eq_getElem (by omega)]; rfl
      have htk1 : s.data.toList.take (i + 1) = joinW ws ++ cur ++ [s[i]] := by rw [List.take_add_one, hcd, htk]; rfl
      by_cases hb : s[i] = 32
      · have hb' : (((s[i].toNat : Nat) : Int) != 32) = false := by rw [hb]; rfl
        cases cur with
        | nil =>
          have HJ : Hid (¬ Joins s.data.toList) := by
            show ¬ _
            have e : s.data.toList = joinW ws ++ (32 :: s.data.toList.drop (i + 1)) := by
              have h0 := (List.take_append_drop (i + 1) s.data.toList).symm
              rw [htk1, hb] at h0
              exact h0.trans (by simp)
            rw [e]
            exact not_joins (fun ws hg => blank_ne ws hg) ws hgw
          go_wp2
          go_ret2
          exact ⟨hbel, _, _, rfl, (fun e => by cases e), fun _ => HJ.out⟩
        | cons c0 cr =>
          have HT : Hid (s.data.toList.take (i + 1) = joinW (ws ++ [c0 :: cr]) ++ []) := by show _ = _; rw [htk1, hb, join_snoc]; simp
          have HG : Hid (GoodWs (ws ++ [c0 :: cr])) := hgw.append fun x hx => by simp only [List.mem_singleton] at hx; subst hx; exact ⟨by simp, hc32⟩
          have hown2 : (wr.alloc (.cells #[SV (c0 :: cr)] 9)).ownsRow w.heap.size 9 1 (.slice la ws.length lc) ws.length (wcells ws) := hown.alloc _
          clear hcd htk1 htk
          go_wp2_with (at_builtin; refine wpList_append_own _ rfl _ _ 65 rfl w.heap.size 9 i0 (.string ⟨#[]⟩) 1 16 Tryz.underlying65 hi hz0 hz1 hz2 rfl (by decide) _ _ _ rfl hown2 ⟨wr.heap.size, 0, none⟩ 1 1 [SV (c0 :: cr)] rfl rfl (by intro j u' hj; match j, hj with | 0, hj => simp at hj; subst hj; simp [Addr.add]) (by intro u' hu'; simp at hu'; subst hu'; rfl) (by unfold maxLen; omega) (by omega) (by have := hbel.size; simp; omega) ?_; intro v2 w2 hown3 hgr _; refine Hid.out ?_)
          refine Lib.hid ?_
          have hbel2 : Below w.heap.size w w2 := (hbel.alloc (by have := hbel.size; omega) _).grown hgr (by have := hbel.size; simp; omega) (fun k hk => (hown2.lt k hk).1)
          have HO : Hid (w2.ownsRow w.heap.size 9 1 v2 (ws ++ [c0 :: cr]).length (wcells (ws ++ [c0 :: cr]))) := by show World.ownsRow _ _ _ _ _ _ _; rw [List.length_append]; unfold wcells at *; rw [List.map_append]; exact hown3
          clear hown hown2 hown3 hgr
          go_wp2
          go_roundg (gk - 1)
          case measure => omega
          case rel => exact ⟨ws ++ [c0 :: cr], [], i + 1, by omega, by go_num, rfl, HG.out, by simp, HT.out, by simp; omega, by simp, HO.out, hbel2⟩
      · have hb' : (((s[i].toNat : Nat) : Int) != 32) = true := by
          have : s[i].toNat ≠ 32 := fun e => hb (UInt8.toNat_inj.1 (by rw [e]; rfl))
          simp; omega
        have hk1 : (i : Int) + 1 ≤ (s.size : Int) := by omega
        have q1 : ¬ (9223372036854775807 < cur.length + 1) := by omega
        have HT : Hid (s.data.toList.take (i + 1) = joinW ws ++ (cur ++ [s[i]])) := by show _ = _; rw [htk1, List.append_assoc]
        have HC : Hid ((32 : UInt8) ∉ cur ++ [s[i]]) := by show ¬ _; simp only [List.mem_append, List.mem_singleton, not_or]; exact ⟨hc32, fun e => hb e.symm⟩
        have HX := hid (ext_one s i hj cur)
        clear htk htk1 hcd
        go_wp2
        go_roundg (gk - 1)
        case measure => omega
        case rel => exact ⟨ws, cur ++ [s[i]], i + 1, by omega, by go_num, by rw [HX.out], hgw, HC.out, HT.out, by omega, by simp; omega, hown, hbel⟩
    · obtain rfl : i = s.size := by omega
      have hfull : s.data.toList = joinW ws ++ cur := by rw [← htk, List.take_of_length_le (by omega)]
      cases cur with
      | nil =>
        rw [List.append_nil] at hfull
        have HF := hid hfull
        clear htk hfull
        go_wp2
        go_ret2
        exact ⟨hbel, _, _, rfl, fun _ => ⟨ws, hgw, HF.out, hown⟩, (fun e => by cases e)⟩
      | cons c0 cr =>
        have HJ : Hid (¬ Joins s.data.toList) := by
          show ¬ _
          rw [hfull]
          exact not_joins (fun ws hg => tail_ne (by simp) hc32 ws hg) ws hgw
        clear htk hfull
        go_wp2
        go_ret2
        exact ⟨hbel, _, _, rfl, (fun e => by cases e), fun _ => HJ.out⟩
end Go.Proofs.YtjmidhghiahbaaaGreatDoor

/- The document's reader (package qcref1): W, N, K. -/
namespace Go.Proofs.YtjmidhghiahbaaaGreatDoor
open Go.ChangeShapes Go.WideShapes Go.ChangeAt Go.RowKit
set_option linter.unusedSimpArgs false
set_option linter.unusedVariables false
set_option maxRecDepth 8000

/-- Words in memory, below block rb. -/
structure WordsIn (rb : Nat) (w : World) (ad : Option Addr) (cap : Nat) (ws : List (List UInt8)) : Prop where
  le : ws.length ≤ cap
  max : cap ≤ 2 ^ 63 - 1
  row : ∀ i x, ws[i]? = some x → ∃ b o, ad = some ⟨b, o, none⟩ ∧ b < rb ∧ w.cell? ⟨b, o + i, none⟩ = some (SV x)
  few : ∀ x ∈ ws, x.length ≤ 1048576
/-- The reader at block rb: what is left; none: it is bad. -/
def RfAt (rb : Nat) (w : World) : Option (List UInt8) → Prop
  | some l => ∃ ws ad cap, GoodWs ws ∧ l = joinW ws ∧ w.heap[rb]? = some (.cells #[.slice ad ws.length cap, .bool true] 70 (0, 0)) ∧ WordsIn rb w ad cap ws
  | none => ∃ ws ad cap, w.heap[rb]? = some (.cells #[.slice ad ws.length cap, .bool false] 70 (0, 0)) ∧ WordsIn rb w ad cap ws
structure RfS (rb : Nat) (w : World) (st : Option (List UInt8)) : Prop where
  at_ : RfAt rb w st
  vars : VarsB rb w
theorem RfS.open {rb : Nat} {w : World} {st : Option (List UInt8)} (h : RfS rb w st) : ∃ ws ad cap b, w.heap[rb]? = some (.cells #[.slice ad ws.length cap, .bool b] 70 (0, 0)) ∧ WordsIn rb w ad cap ws ∧ (b = true → GoodWs ws ∧ st = some (joinW ws)) ∧ (b = false → st = none) := by
  obtain ⟨hat, -⟩ := h
  cases st with
  | some l => obtain ⟨ws, ad, cap, hg, rfl, hb, hw⟩ := hat; exact ⟨ws, ad, cap, true, hb, hw, fun _ => ⟨hg, rfl⟩, (fun e => by cases e)⟩
  | none => obtain ⟨ws, ad, cap, hb, hw⟩ := hat; exact ⟨ws, ad, cap, false, hb, hw, (fun e => by cases e), fun _ => rfl⟩
theorem WordsIn.keep {rb : Nat} {w w' : World} {ad : Option Addr} {cap : Nat} {ws : List (List UInt8)} (h : WordsIn rb w ad cap ws) (hk : ∀ b, b < rb → w'.heap[b]? = w.heap[b]?) : WordsIn rb w' ad cap ws :=
  ⟨h.le, h.max, fun i x hx => by
    obtain ⟨b, o, e, hl, hc⟩ := h.row i x hx
    exact ⟨b, o, e, hl, (World.cell?_of_block (hk b hl)).trans hc⟩, h.few⟩
theorem RfS.keep {rb : Nat} {w w' : World} {st : Option (List UInt8)} (h : RfS rb w st) (hb : Below rb w w') (he : w'.heap[rb]? = w.heap[rb]?) : RfS rb w' st := by
  refine ⟨?_, h.vars.on hb⟩
  have hat := h.at_
  cases st with
  | some l => obtain ⟨ws, ad, cap, hg, e, hbx, hw⟩ := hat; exact ⟨ws, ad, cap, hg, e, he.trans hbx, hw.keep fun b hl => hb.block b hl⟩
  | none => obtain ⟨ws, ad, cap, hbx, hw⟩ := hat; exact ⟨ws, ad, cap, he.trans hbx, hw.keep fun b hl => hb.block b hl⟩
theorem RfS.lt {rb : Nat} {w : World} {st : Option (List UInt8)} (h : RfS rb w st) : rb < w.heap.size := by
  obtain ⟨ws, ad, cap, b, hb, -⟩ := h.open
  exact blk_lt hb
theorem RfS.later {rb : Nat} {w w' : World} {st : Option (List UInt8)} (h : RfS rb w st) (hb : Below w.heap.size w w') : RfS rb w' st := h.keep (hb.mono (Nat.le_of_lt h.lt)) (hb.block _ h.lt)
theorem RfS.setHi {rb : Nat} {w : World} {st : Option (List UInt8)} (h : RfS rb w st) {d : Nat} (hd : rb < d) (o : Nat) (v : Value) : RfS rb (w.setCell ⟨d, o, none⟩ v) st := h.keep ((Below.refl _ _).setCell (by simp; omega) _) (setCell_else (by omega) v)
/-- Ok is false from now on. -/
theorem RfS.bad {rb : Nat} {w : World} {st : Option (List UInt8)} (h : RfS rb w st) : RfS rb (w.setCell ⟨rb, 1, none⟩ (.bool false)) none := by
  obtain ⟨ws, ad, cap, b, hb, hw, -⟩ := h.open
  have hk : Below rb w (w.setCell ⟨rb, 1, none⟩ (.bool false)) := ((RdK.refl rb w).set _ _).bel
  exact ⟨⟨ws, ad, cap, by rw [setCell_same hb]; rfl, hw.keep fun b hl => hk.block b hl⟩, h.vars.on hk⟩
set_option maxHeartbeats 1000000 in
theorem rfW_any {rb : Nat} {w : World} {st : Option (List UInt8)} (h : RfS rb w st) : Calls Tryz.prog 27 #[.pointer (some ⟨rb, 0, none⟩)] w fun e w' => ∃ s st', e = .returned (.string s) ∧ RdR takeName st s st' ∧ (st ≠ none → st' = none → s = ⟨#[]⟩) ∧ s.size ≤ 1048576 ∧ RfS rb w' st' ∧ RdK rb w w' := by
  obtain ⟨ws, ad, cap, b, hb, hw, h1, h2⟩ := h.open
  have c0 : w.cell? ⟨rb, 0, none⟩ = some (.slice ad ws.length cap) := by rw [cell_of_row _ _ _ _ _ _ hb]; rfl
  have c1 : w.cell? ⟨rb, 1, none⟩ = some (.bool b) := by rw [cell_of_row _ _ _ _ _ _ hb]; rfl
  have cf := row_free hb
  cases ws with
  | nil =>
    have c0' : w.cell? ⟨rb, 0, none⟩ = some (.slice ad 0 cap) := c0
    have HR : Hid (RdR takeName st ⟨#[]⟩ none) := by
      show RdR _ _ _ _
      cases b with
      | true => rw [(h1 rfl).2]; exact RdR.bad _ rfl
      | false => rw [h2 rfl]; exact RdR.none _
    have HB := hid h.bad
    have HK := hid ((RdK.refl rb w).set 1 (.bool false))
    clear c0 h1 h2 h
    go_enter Tryz.func27, Tryz.ntmps27
    go_wp2
    go_ret
    exact ⟨_, none, rfl, HR.out, fun _ _ => rfl, by decide, HB.out, HK.out⟩
  | cons x t =>
    obtain ⟨bk, o, rfl, hbl, hx⟩ := hw.row 0 x rfl
    simp only [Nat.add_zero] at hx
    have hlen : (x :: t).length = t.length + 1 := rfl
    rw [hlen] at c0
    have hle := hw.le
    rw [hlen] at hle
    have hmx := hw.max
    have HR : Hid (RdR takeName st ⟨x.toArray⟩ (if b then some (joinW t) else none)) := by
      show RdR _ _ _ _
      cases b with
      | true =>
        obtain ⟨hg, rfl⟩ := h1 rfl
        exact RdR.some (by unfold takeName; rw [take_join hg]; rfl)
      | false => rw [h2 rfl]; exact RdR.none _
    have HX : Hid (x.length ≤ 1048576) := hw.few x (by simp)
    have k0 : decide ((t.length : Int) + 1 = 0) = false := by simp; omega
    have k1 : (1 : Int) ≤ (t.length : Int) + 1 := by omega
    have k2 : (0 : Int) < (t.length : Int) + 1 := by omega
    have hst : b = false → st = none := h2
    have hSt : ∀ a' c', t.length ≤ c' → c' ≤ 2 ^ 63 - 1 → (t ≠ [] → a' = some ⟨bk, o + 1, none⟩) → RfS rb (w.setCell ⟨rb, 0, none⟩ (.slice a' t.length c')) (if b then some (joinW t) else none) := fun a' c' e1 e2 e3 => by
      have hk : Below rb w (w.setCell ⟨rb, 0, none⟩ (.slice a' t.length c')) := ((RdK.refl rb w).set _ _).bel
      have hW : WordsIn rb (w.setCell ⟨rb, 0, none⟩ (.slice a' t.length c')) a' c' t := ⟨e1, e2, fun i y hy => by
        obtain ⟨b', o', e, hl, hc⟩ := hw.row (i + 1) y (by simpa using hy)
        cases e
        refine ⟨bk, o + 1, e3 (by intro e; rw [e] at hy; simp at hy), hbl, ?_⟩
        rw [World.cell?_setCell_far _ _ _ _ (by simp; omega), show o + 1 + i = o + (i + 1) by omega]
        exact hc, fun y hy => hw.few y (by simp [hy])⟩
      refine ⟨?_, h.vars.on hk⟩
      cases b with
      | true => exact ⟨t, a', c', (h1 rfl).1.tail, rfl, by rw [setCell_same hb]; rfl, hW⟩
      | false => exact ⟨t, a', c', by rw [setCell_same hb]; rfl, hW⟩
    have HS := hid hSt
    have HE : Hid (st ≠ none → (if b then some (joinW t) else none) = none → (ByteArray.mk x.toArray) = ⟨#[]⟩) := fun e1 e2 => by
      cases b with
      | true => cases e2
      | false => exact absurd (h2 rfl) e1
    clear hw h1 h2 h hSt hst hlen
    go_enter Tryz.func27, Tryz.ntmps27
    go_wp2
    · go_ret
      have ht : t = [] := List.eq_nil_of_length_eq_zero (by omega)
      exact ⟨_, rfl, _, HR.out, HE.out, by have := HX.out; simpa [ByteArray.size] using this, HS.out _ _ (by omega) (by omega) (fun e => absurd ht e), (RdK.refl _ _).set _ _⟩
    · go_ret
      exact ⟨_, rfl, _, HR.out, HE.out, by have := HX.out; simpa [ByteArray.size] using this, HS.out _ _ (by omega) (by omega) (fun _ => rfl), (RdK.refl _ _).set _ _⟩
theorem RfS.c1 {rb : Nat} {w : World} {st : Option (List UInt8)} (h : RfS rb w st) : ∃ b, w.cell? ⟨rb, 1, none⟩ = some (.bool b) ∧ (∀ o, w.frozen? ⟨rb, o, none⟩ = false) ∧ (b = true ↔ st ≠ none) := by
  obtain ⟨ws, ad, cap, b, hb, hw, h1, h2⟩ := h.open
  refine ⟨b, by rw [cell_of_row _ _ _ _ _ _ hb]; rfl, row_free hb, ?_⟩
  cases b with
  | true => rw [(h1 rfl).2]; simp
  | false => rw [h2 rfl]; simp
set_option maxHeartbeats 1000000 in
theorem rfN_any {rb : Nat} {w : World} {st : Option (List UInt8)} (h : RfS rb w st) : Calls Tryz.prog 25 #[.pointer (some ⟨rb, 0, none⟩)] w fun e w' => ∃ n st', e = .returned (.int .i64 n) ∧ RdR takeNum st n st' ∧ RfS rb w' st' ∧ RdK rb w w' := by
  go_enter Tryz.func25, Tryz.ntmps25
  go_wp2_with (go_at_call 27; refine (rfW_any h).mono ?_; rintro e w1 ⟨s, st1, rfl, hR1, hem, hsz, hS1, hK1⟩; refine Hid.out ?_)
  refine Lib.hid ?_
  obtain ⟨⟨tp, p, hv1⟩, ⟨tr, r, hv2⟩, -⟩ := hS1.vars.here
  go_wp2_with (go_at_call 48; refine (strconv_Atoi_any s (by omega) tp tr p r w1 hv1 hv2).mono ?_; rintro e w2 ⟨hb2, v, ev, rfl, hev⟩; refine Hid.out ?_)
  refine Lib.hid ?_
  have hS2 := hS1.later hb2
  have hK2 : RdK rb w w2 := hK1.trans (.of_below (Nat.le_of_lt hS1.lt) hb2)
  clear hv1 hv2
  have HW : Hid (∀ l r, st = some l → takeWord l = some (s.toList, r) → st1 = some r) := fun l r e hw => by
    subst e
    rcases hR1.cases with ⟨l', r', e', hf, rfl⟩ | ⟨rfl, hf⟩
    · cases e'
      unfold takeName at hf
      rw [hw] at hf
      simp only [Option.bind_some, Option.some.injEq, Prod.mk.injEq] at hf
      rw [hf.2]
    · have := hf l rfl
      unfold takeName at this
      rw [hw] at this
      cases this
  have HF : Hid (∀ l, st = some l → takeWord l = none → s = ⟨#[]⟩) := fun l e hw => by
    subst e
    rcases hR1.cases with ⟨l', r', e', hf, rfl⟩ | ⟨rfl, hf⟩
    · cases e'
      unfold takeName at hf
      rw [hw] at hf
      cases hf
    · exact hem (by simp) rfl
  have HG : Hid (∀ l q r, st = some l → takeWord l = some (q, r) → q = s.toList) := fun l q r e hw => by
    subst e
    rcases hR1.cases with ⟨l', r', e', hf, rfl⟩ | ⟨rfl, hf⟩
    · cases e'
      unfold takeName at hf
      rw [hw] at hf
      simp only [Option.bind_some, Option.some.injEq, Prod.mk.injEq] at hf
      rw [← hf.1, ByteArray.toList_eq]
    · have := hf l rfl
      unfold takeName at this
      rw [hw] at this
      cases this
  rcases hev with ⟨rfl, hok⟩ | ⟨⟨q, rfl⟩, hno⟩
  · obtain ⟨v0, v1⟩ := Lib.atoiAll_bounds hok
    have hIt := strconv_Itoa v v0 v1 w2 hS2.vars.here.tab
    rw [← ByteArray.toList_eq] at hok
    cases hq : (Lib.itoa v == s.toList)
    · have HR : Hid (RdR takeNum st v none) := by
        show RdR _ _ _ _
        cases st with
        | none => exact RdR.none _
        | some l =>
          refine RdR.bad _ ?_
          unfold takeNum
          cases hw : takeWord l with
          | none => rfl
          | some z =>
            obtain ⟨z1, z2⟩ := z
            have := HG.out l z1 z2 rfl hw
            subst this
            simp only
            rw [hok]
            simp only
            rw [if_neg (by simpa using hq)]
      go_wp2_with (go_at_call 22; refine hIt.mono ?_; rintro e w3 ⟨rfl, kk, os, rfl⟩; have hb3 := below_grow w2.heap.size w2 (Nat.le_refl _) kk os; have hS3 := hS2.later hb3; obtain ⟨bb, d1, df, -⟩ := hS3.c1)
      go_ret
      exact ⟨v, none, rfl, HR.out, hS3.bad, (hK2.trans (.of_below (Nat.le_of_lt hS2.lt) hb3)).set _ _⟩
    · have HR : Hid (RdR takeNum st v st1) := by
        show RdR _ _ _ _
        cases st with
        | none => obtain rfl : st1 = none := hR1; exact RdR.none _
        | some l =>
          cases hw : takeWord l with
          | none =>
            have e0 := HF.out l rfl hw
            rw [e0, ByteArray.toList_eq] at hok
            have e9 : Lib.atoiAll ([] : List UInt8) = .ok v := hok
            cases e9
          | some z =>
            obtain ⟨z1, z2⟩ := z
            have e1 := HG.out l z1 z2 rfl hw
            subst e1
            rw [HW.out l z2 rfl hw]
            refine RdR.some ?_
            unfold takeNum
            rw [hw]
            simp only
            rw [hok]
            simp only
            rw [if_pos (by simpa using hq)]
      go_wp2_with (go_at_call 22; refine hIt.mono ?_; rintro e w3 ⟨rfl, kk, os, rfl⟩; have hb3 := below_grow w2.heap.size w2 (Nat.le_refl _) kk os)
      go_ret
      exact ⟨v, st1, rfl, HR.out, hS2.later hb3, hK2.trans (.of_below (Nat.le_of_lt hS2.lt) hb3)⟩
  · have HR : Hid (RdR takeNum st v none) := by
      show RdR _ _ _ _
      cases st with
      | none => exact RdR.none _
      | some l =>
        refine RdR.bad _ ?_
        unfold takeNum
        cases hw : takeWord l with
        | none => rfl
        | some z =>
          obtain ⟨z1, z2⟩ := z
          have e1 := HG.out l z1 z2 rfl hw
          subst e1
          rw [ByteArray.toList_eq]
          cases ha : Lib.atoiAll s.data.toList
          · exact absurd ha (hno _)
          · simp [ha]
          · simp [ha]
    obtain ⟨bb, d1, df, -⟩ := hS2.c1
    go_wp2
    go_ret
    exact ⟨v, none, rfl, HR.out, hS2.bad, hK2.set _ _⟩
set_option maxHeartbeats 1000000 in
theorem rfK_any {rb : Nat} {w : World} {st : Option (List UInt8)} (most : Nat) (hm : most ≤ 1000) (h : RfS rb w st) : Calls Tryz.prog 26 #[.pointer (some ⟨rb, 0, none⟩), .int .i64 (most : Int)] w fun e w' => ∃ (n : Nat) (st' : Option (List UInt8)), e = .returned (.int .i64 (n : Int)) ∧ RdR (takeCount most) st n st' ∧ n ≤ most ∧ RfS rb w' st' ∧ RdK rb w w' := by
  go_enter Tryz.func26, Tryz.ntmps26
  go_wp2_with (go_at_call 25; refine (rfN_any h).mono ?_; rintro e w1 ⟨n, st1, rfl, hR1, hS1, hK1⟩; refine Hid.out ?_)
  refine Lib.hid ?_
  obtain ⟨bb, d1, df, hbb⟩ := hS1.c1
  have HBad : Hid ((n < 0 ∨ (most : Int) < n ∨ bb = false) → RdR (takeCount most) st 0 none) := fun hx => by
    rcases hR1.cases with ⟨l, r, rfl, hf, rfl⟩ | ⟨rfl, hf⟩
    · refine RdR.bad _ ?_
      unfold takeCount
      rw [hf]
      simp only [Option.bind_some]
      rw [if_neg]
      rintro ⟨y1, y2⟩
      rcases hx with hx | hx | hx
      · omega
      · omega
      · rw [hx] at hbb; simp at hbb
    · cases st with
      | none => exact RdR.none _
      | some l => refine RdR.bad _ ?_; unfold takeCount; rw [hf l rfl]; rfl
  by_cases h0 : n < 0
  · have h0' : decide (n < 0) = true := by simpa using h0
    have HB := hid (HBad.out (.inl h0))
    go_wp2
    go_ret
    first | exact ⟨0, rfl, none, HB.out, by omega, hS1.bad, hK1.set _ _⟩ | exact ⟨0, none, rfl, HB.out, by omega, hS1.bad, hK1.set _ _⟩
  by_cases h1 : (most : Int) < n
  · have h0' : decide (n < 0) = false := by simpa using h0
    have h1' : decide ((most : Int) < n) = true := by simpa using h1
    have HB := hid (HBad.out (.inr (.inl h1)))
    go_wp2
    go_ret
    first | exact ⟨0, rfl, none, HB.out, by omega, hS1.bad, hK1.set _ _⟩ | exact ⟨0, none, rfl, HB.out, by omega, hS1.bad, hK1.set _ _⟩
  have h0' : decide (n < 0) = false := by simpa using h0
  have h1' : decide ((most : Int) < n) = false := by simpa using h1
  cases bb with
  | false =>
    have HB := hid (HBad.out (.inr (.inr rfl)))
    clear hbb HBad
    go_wp2
    go_ret
    first | exact ⟨0, rfl, none, HB.out, by omega, hS1.bad, hK1.set _ _⟩ | exact ⟨0, none, rfl, HB.out, by omega, hS1.bad, hK1.set _ _⟩
  | true =>
    have HR : Hid (RdR (takeCount most) st n.toNat st1) := by
      show RdR _ _ _ _
      rcases hR1.cases with ⟨l, r, rfl, hf, rfl⟩ | ⟨rfl, hf⟩
      · refine RdR.some ?_
        unfold takeCount
        rw [hf]
        simp only [Option.bind_some]
        rw [if_pos ⟨by omega, by omega⟩]
      · exact absurd rfl (hbb.1 rfl)
    have HN : Hid (((n.toNat : Nat) : Int) = n) := by show _ = _; omega
    have HM : Hid (n.toNat ≤ most) := by show _ ≤ _; omega
    clear h0 h1 hbb HBad
    go_wp2
    go_ret
    exact ⟨n.toNat, st1, by rw [HN.out]; rfl, HR.out, HM.out, hS1, hK1⟩
end Go.Proofs.YtjmidhghiahbaaaGreatDoor

/- Rows that grow, one element behind the other. -/
namespace Go.Proofs.YtjmidhghiahbaaaGreatDoor
open Go.ChangeShapes Go.WideShapes Go.ChangeAt Go.RowKit
set_option linter.unusedSimpArgs false
set_option linter.unusedVariables false
set_option maxRecDepth 8000

section
variable {α : Type} {E : Lay α} {sz bytes : Nat} {P : Nat → Prop} {w : World} {v : Value} {xs : List α} {f : Nat → Option Value}
theorem IsRow.both (G : Good E sz) (hE : ∀ f x, E P w f x → E (fun b => P b ∧ b < w.heap.size) w f x) (h : IsRow E sz bytes P w v xs) : IsRow E sz bytes (fun b => P b ∧ b < w.heap.size) w v xs := by
  obtain ⟨ad, cap, h1, h2, h3, h4, h5⟩ := h
  refine ⟨ad, cap, h1, h2, h3, h4, fun i x hx => ?_⟩
  obtain ⟨b, o, e1, e2, e3⟩ := h5 i x hx
  obtain ⟨u, hu, -⟩ := G.there e3 0 G.pos
  exact ⟨b, o, e1, ⟨e2, World.block_lt_of_cell? w _ hu⟩, hE _ _ e3⟩
theorem bothM {x : QM} (h : MethC P w f x) : MethC (fun b => P b ∧ b < w.heap.size) w f x := by
  obtain ⟨h0, h1, h2, h3, h4, v, h5, h6⟩ := h
  exact ⟨h0, h1, h2, h3, h4, v, h5, h6.both goodI fun _ _ h => h⟩
end

/-- The row v of one's own, from block lo on, is ys; what its elements reach lies in other blocks, from lo on. -/
def GrR {α : Type} (E : Lay α) (sz : Nat) (t : TypeId) (lo : Nat) (w : World) (v : Value) (ys : List α) : Prop :=
  ∃ xs, ownsAt w lo t sz v ys.length xs ∧ ∀ i x, ys[i]? = some x → E (fun b => lo ≤ b ∧ b < w.heap.size ∧ some b ≠ v.ownBlock) w (fun k => xs[i * sz + k]?) x
section
variable {α : Type} {E : Lay α} {sz : Nat} {t : TypeId} {lo br : Nat} {w w' : World} {v : Value} {ys : List α}
theorem GrR.nil (w : World) : GrR E sz t lo w (.slice none 0 0) ([] : List α) := ⟨[], ⟨by simp, .inl ⟨rfl, rfl⟩⟩, fun i x hx => by simp at hx⟩
theorem GrR.keep (h : GrR E sz t lo w v ys) (G : Good E sz) (hs : w.heap.size ≤ w'.heap.size) (hk : ∀ b, lo ≤ b → b < w.heap.size → w'.heap[b]? = w.heap[b]?) : GrR E sz t lo w' v ys := by
  obtain ⟨xs, h1, h2⟩ := h
  refine ⟨xs, h1.keep fun g hg => hk g (h1.lt g hg).1 (h1.lt g hg).2, fun i x hx => ?_⟩
  exact G.move (h2 i x hx) (fun b hb => ⟨hb.1, Nat.lt_of_lt_of_le hb.2.1 hs, hb.2.2⟩) (Keeps.of_block fun b hb hl => hk b hb.1 hl) fun k _ v hv => hv
theorem GrR.rdk (h : GrR E sz t lo w v ys) (G : Good E sz) (hk : RdK br w w') (hl : br < lo) : GrR E sz t lo w' v ys := h.keep G hk.bel.size fun b h1 h2 => hk.oth b h2 (by omega)
theorem GrR.later (h : GrR E sz t lo w v ys) (G : Good E sz) (hb : Below w.heap.size w w') : GrR E sz t lo w' v ys := h.keep G hb.size fun b _ h2 => hb.block b h2
theorem GrR.form (h : GrR E sz t lo w v ys) : ∃ a cap, v = .slice a ys.length cap := by
  obtain ⟨xs, h1, -⟩ := h
  obtain ⟨a, cap, e, -⟩ := h1.form
  exact ⟨a, cap, e⟩
theorem GrR.lt (h : GrR E sz t lo w v ys) : ∀ g, some g = v.ownBlock → g < w.heap.size := by
  obtain ⟨xs, h1, -⟩ := h
  exact fun g hg => (h1.lt g hg.symm).2
theorem GrR.row {bytes : Nat} (h : GrR E sz t lo w v ys) (G : Good E sz) (hb : ys.length * bytes ≤ 140737488351232) : IsRow E sz bytes (fun b => lo ≤ b) w v ys := by
  obtain ⟨xs, h1, h2⟩ := h
  obtain ⟨hl, ⟨rfl, h0⟩ | ⟨g, o, cap, cur, rfl, h3, h4, h5, h6, h7, h8⟩⟩ := h1
  · obtain rfl : ys = [] := List.eq_nil_of_length_eq_zero h0
    exact isRow_empty _ _ _ _ _
  · refine ⟨_, cap, rfl, h5, h6, hb, fun i x hx => ⟨g, o, rfl, h3, ?_⟩⟩
    refine G.move (h2 i x hx) (fun b h => h.1) (.refl _ _) fun k hk v hv => ?_
    rw [← h8, List.getElem?_take] at hv
    split at hv
    · rw [List.getElem?_drop] at hv
      rw [cell_of_row _ _ _ _ _ _ h4]
      simpa [Nat.add_assoc] using hv
    · cases hv
theorem GrR.step {xs news : List Value} {v' : Value} {x : α} (h1 : ownsAt w lo t sz v ys.length xs) (h2 : ∀ i x, ys[i]? = some x → E (fun b => lo ≤ b ∧ b < w.heap.size ∧ some b ≠ v.ownBlock) w (fun k => xs[i * sz + k]?) x) (G : Good E sz) (hl : news.length = sz) (hE : E (fun b => lo ≤ b ∧ b < w.heap.size ∧ some b ≠ v.ownBlock) w (fun k => news[k]?) x)
    (o2 : ownsAt w' lo t sz v' (ys.length + 1) (xs ++ news)) (hob : v'.ownBlock = v.ownBlock ∨ ∃ g, v'.ownBlock = some g ∧ w.heap.size ≤ g) (hb : Below lo w w') (hk : ∀ b, b < w.heap.size → some b ≠ v.ownBlock → w'.heap[b]? = w.heap[b]?) : GrR E sz t lo w' v' (ys ++ [x]) := by
  have hP : ∀ b, (lo ≤ b ∧ b < w.heap.size ∧ some b ≠ v.ownBlock) → (lo ≤ b ∧ b < w'.heap.size ∧ some b ≠ v'.ownBlock) := fun b hb' => ⟨hb'.1, Nat.lt_of_lt_of_le hb'.2.1 hb.size, fun e => by
    rcases hob with h | ⟨g, h, hg⟩
    · exact hb'.2.2 (e.trans h)
    · rw [h] at e; cases e; omega⟩
  have hK : Keeps (fun b => lo ≤ b ∧ b < w.heap.size ∧ some b ≠ v.ownBlock) w w' := Keeps.of_block fun b hb _ => hk b hb.2.1 hb.2.2
  have hxl : xs.length = ys.length * sz := h1.1
  refine ⟨xs ++ news, by rw [List.length_append]; exact o2, fun i y hy => ?_⟩
  by_cases hij : i = ys.length
  · subst hij
    rw [List.getElem?_append_right (Nat.le_refl _)] at hy
    simp at hy
    subst hy
    refine G.move hE hP hK fun k hk v hv => ?_
    rw [List.getElem?_append_right (by omega), show ys.length * sz + k - xs.length = k by omega]
    exact hv
  · have hi : i < ys.length := by
      have := lt_of_get hy
      simp at this
      omega
    rw [List.getElem?_append_left hi] at hy
    refine G.move (h2 i y hy) hP hK fun k hk v hv => ?_
    rw [List.getElem?_append_left (lt_of_get hv)]
    exact hv
theorem run_grow {bytes : Nat} (T ty : TypeId) (z : Value) (hT : Tryz.prog.underlying T = some (.slice t)) (hI : (Tryz.prog.info? t).map (fun i => (i.zero, i.size, i.bytes)) = some (some z, sz, bytes)) (hzs : z.cells.size = sz) (G : Good E sz)
    (h : GrR E sz t lo w v ys) (Bb : Nat) (news : List Value) (hl : news.length = sz) (hX : w.heap[Bb]? = some (.cells news.toArray t (0, 0))) {x : α} (hE : E (fun b => lo ≤ b ∧ b < w.heap.size ∧ some b ≠ v.ownBlock) w (fun k => news[k]?) x) (hn : ys.length ≤ 1000) (hby : bytes ≤ 1000) (hbase : lo ≤ w.heap.size) :
    ∃ a' cap' w', (Builtin.append_ #[T, T] ty #[v, .slice (some ⟨Bb, 0, none⟩) 1 1]).run Tryz.prog w = .ok (.slice a' (ys.length + 1) cap') w' ∧ GrR E sz t lo w' (.slice a' (ys.length + 1) cap') (ys ++ [x]) ∧ Below lo w w' := by
  obtain ⟨xs, h1, h2⟩ := h
  have hone : ∀ u ∈ news, u.oneCell' = true := fun u hu => by
    obtain ⟨k, hk, e⟩ := List.mem_iff_getElem.1 hu
    obtain ⟨u', e', ho⟩ := G.there hE k (by omega)
    rw [List.getElem?_eq_getElem hk, e] at e'
    cases e'
    exact ho
  have hmul : (ys.length + 1) * bytes ≤ 1001 * 1000 := Nat.mul_le_mul (by omega) hby
  obtain ⟨v', w', hrun, r1, r2, r3, r4⟩ := run_append_at T ty t z sz bytes hT hI hzs G.pos lo ys.length v xs h1 Bb news hl hX hone (by unfold maxLen; omega) (by omega) hbase
  obtain ⟨a', cap', rfl, -⟩ := r1.form
  exact ⟨a', cap', w', hrun, GrR.step h1 h2 G hl hE r1 r2 r3 r4, r3⟩
theorem wpList_grow {bytes : Nat} {ops : Array Oper} {rest : List Oper} {o : Oper} {a : Act} {Q : Exit → Act → World → Prop} (hgd : o.guard = none) (s x : Operand) (T : TypeId) (z : Value)
    (hop : o.op = Op.call { callee := Callee.builtin Builtin.append, args := #[s, x], argTypes := #[T, T] }) (hT : Tryz.prog.underlying T = some (.slice t)) (hI : (Tryz.prog.info? t).map (fun i => (i.zero, i.size, i.bytes)) = some (some z, sz, bytes)) (hzs : z.cells.size = sz) (G : Good E sz)
    (h : GrR E sz t lo w v ys) (hs : a.eval s = v) (Bb : Nat) (hx : a.eval x = .slice (some ⟨Bb, 0, none⟩) 1 1) (news : List Value) (hl : news.length = sz) (hX : w.heap[Bb]? = some (.cells news.toArray t (0, 0))) {y : α} (hE : E (fun b => lo ≤ b ∧ b < w.heap.size ∧ some b ≠ v.ownBlock) w (fun k => news[k]?) y) (hn : ys.length ≤ 1000) (hby : bytes ≤ 1000) (hbase : lo ≤ w.heap.size)
    (hK : ∀ a' cap' w', GrR E sz t lo w' (.slice a' (ys.length + 1) cap') (ys ++ [y]) → Below lo w w' → wpList Tryz.prog ops Q rest (a.put o.dst (.slice a' (ys.length + 1) cap')) w') :
    wpList Tryz.prog ops Q (o :: rest) a w := by
  refine wpList_plain hgd fun K hKK => ?_
  obtain ⟨a', cap', w', hrun, r1, r2⟩ := run_grow T o.type z hT hI hzs G h Bb news hl hX hE hn hby hbase
  unfold Oper.wp
  simp [execOp, hop, resolve, invoke, builtin, hs, hx, hrun, Result.andThen]
  exact hKK _ _ (hK a' cap' w' r1 r2)
theorem step_grow {bytes : Nat} {ops : Array Oper} {o : Oper} {a : Act} {K : Act → World → Prop} {Q : Exit → Act → World → Prop} {F : Prop} (hgd : o.guard = none) (s x : Operand) (T : TypeId) (z : Value)
    (hop : o.op = Op.call { callee := Callee.builtin Builtin.append, args := #[s, x], argTypes := #[T, T] }) (hT : Tryz.prog.underlying T = some (.slice t)) (hI : (Tryz.prog.info? t).map (fun i => (i.zero, i.size, i.bytes)) = some (some z, sz, bytes)) (hzs : z.cells.size = sz) (G : Good E sz)
    (h : GrR E sz t lo w v ys) (hs : a.eval s = v) (Bb : Nat) (hx : a.eval x = .slice (some ⟨Bb, 0, none⟩) 1 1) (news : List Value) (hl : news.length = sz) (hX : w.heap[Bb]? = some (.cells news.toArray t (0, 0))) {y : α} (hE : E (fun b => lo ≤ b ∧ b < w.heap.size ∧ some b ≠ v.ownBlock) w (fun k => news[k]?) y) (hn : ys.length ≤ 1000) (hby : bytes ≤ 1000) (hbase : lo ≤ w.heap.size)
    (hK : ∀ a' cap' w', GrR E sz t lo w' (.slice a' (ys.length + 1) cap') (ys ++ [y]) → Below lo w w' → K (a.put o.dst (.slice a' (ys.length + 1) cap')) w') :
    if Region.wanted o (yielded ops a.tmps) = true then Oper.wp Tryz.prog o a w K Q else F := by
  have hw : Region.wanted o (yielded ops a.tmps) = true := by simp [Region.wanted, hgd]
  rw [if_pos hw]
  obtain ⟨a', cap', w', hrun, r1, r2⟩ := run_grow T o.type z hT hI hzs G h Bb news hl hX hE hn hby hbase
  unfold Oper.wp
  simp [execOp, hop, resolve, invoke, builtin, hs, hx, hrun, Result.andThen]
  exact hK a' cap' w' r1 r2
end
/-- A loop that reads into a field of the box d: what it holds. -/
structure BxS (w0 : World) (rb d : Nat) (cs : Value → Array Value) (t : TypeId) (st : Option (List UInt8)) (v : Value) (w' : World) : Prop where
  S : RfS rb w' st
  K : ∀ b, b < w0.heap.size → b ≠ rb → b ≠ d → w'.heap[b]? = w0.heap[b]?
  bel : Below rb w0 w'
  box : w'.heap[d]? = some (.cells (cs v) t (0, 0))
section
variable {w0 w' w2 : World} {rb d : Nat} {cs : Value → Array Value} {t : TypeId} {st st2 : Option (List UInt8)} {v : Value}
theorem BxS.start (hS : RfS rb w0 st) (hb : w0.heap[d]? = some (.cells (cs v) t (0, 0))) : BxS w0 rb d cs t st v w0 := ⟨hS, fun _ _ _ _ => rfl, .refl _ _, hb⟩
theorem BxS.call (h : BxS w0 rb d cs t st v w') (hd : d ≠ rb) (hs : RfS rb w2 st2) (hk : RdK rb w' w2) : BxS w0 rb d cs t st2 v w2 :=
  ⟨hs, fun b h1 h2 h3 => (hk.oth b (Nat.lt_of_lt_of_le h1 h.bel.size) h2).trans (h.K b h1 h2 h3), h.bel.trans hk.bel, (hk.oth d (blk_lt h.box) hd).trans h.box⟩
theorem BxS.grow (h : BxS w0 rb d cs t st v w') (hr : rb < w0.heap.size) (hd : d < w0.heap.size) (hb : Below w0.heap.size w' w2) : BxS w0 rb d cs t st v w2 :=
  ⟨h.S.keep (hb.mono (Nat.le_of_lt hr)) (hb.block _ hr), fun b h1 h2 h3 => (hb.block b h1).trans (h.K b h1 h2 h3), h.bel.trans (hb.mono (Nat.le_of_lt hr)), (hb.block d hd).trans h.box⟩
theorem BxS.set (h : BxS w0 rb d cs t st v w') (hd : rb < d) {k : Nat} {v2 : Value} (e : (cs v).setIfInBounds k v2 = cs v2) : BxS w0 rb d cs t st v2 (w'.setCell ⟨d, k, none⟩ v2) :=
  ⟨h.S.setHi hd _ _, fun b h1 h2 h3 => (setCell_else h3 _).trans (h.K b h1 h2 h3), h.bel.setCell (Nat.le_of_lt hd) _, by rw [setCell_same h.box, e]⟩
theorem BxS.rdk (h : BxS w0 rb d cs t st v w') {wr : World} (hk : RdK rb wr w0) (hd : wr.heap.size ≤ d) : RdK rb wr w' := ⟨hk.bel.trans h.bel, fun b hb hn => (h.K b (Nat.lt_of_lt_of_le hb hk.bel.size) hn (by omega)).trans (hk.oth b hb hn)⟩
theorem BxS.c (h : BxS w0 rb d cs t st v w') (k : Nat) : w'.cell? ⟨d, k, none⟩ = (cs v)[k]? := cell_of_row _ _ _ _ _ _ h.box
end
end Go.Proofs.YtjmidhghiahbaaaGreatDoor

/- The document's reader (package qcref1): Parse. -/
namespace Go.Proofs.YtjmidhghiahbaaaGreatDoor
open Go.ChangeShapes Go.WideShapes Go.ChangeAt Go.RowKit
set_option linter.unusedSimpArgs false
set_option linter.unusedVariables false
set_option maxRecDepth 8000

theorem BytesIn.conv {w : World} {v : Value} {l : List UInt8} (h : BytesIn w v l) : (convert 26 9 v).run Tryz.prog w = .ok (SV l) w := by
  obtain ⟨ad, cap, rfl, h2, h3, h4, h5, h6⟩ := h
  cases ad with
  | none =>
    have := h4 rfl
    subst this
    have : l = [] := List.eq_nil_of_length_eq_zero (by omega)
    subst this
    exact run_convert_bytes_nil (P := Tryz.prog) w 26 5 Tryz.underlying26 Tryz.underlying5 0 0 9 Tryz.underlying9
  | some a =>
    exact run_convert_bytes_back (P := Tryz.prog) w 26 9 5 a cap l Tryz.underlying26 Tryz.underlying5 Tryz.underlying9 (fun j hj => by
      obtain ⟨b, o, e, -, hc⟩ := h6 j _ (List.getElem?_eq_getElem hj)
      cases e
      rw [Addr.add_lit, hc])
theorem box_rdk {b rb : Nat} {o : Obj} {w' w2 : World} (hb : w'.heap[b]? = some o) (hn : b ≠ rb) (hk : RdK rb w' w2) : w2.heap[b]? = some o := (hk.oth _ (blk_lt hb) hn).trans hb
theorem GrR.setLo {α : Type} {E : Lay α} {sz : Nat} {t : TypeId} {lo : Nat} {w : World} {v : Value} {ys : List α} (h : GrR E sz t lo w v ys) (G : Good E sz) {d : Nat} (hd : d < lo) (o : Nat) (u : Value) : GrR E sz t lo (w.setCell ⟨d, o, none⟩ u) v ys :=
  h.keep G (((Below.refl d w).setCell (Nat.le_refl _) _).size) fun b h1 _ => setCell_else (by omega) _
/-- A row within an element of a row. -/
theorem el_in {α : Type} {E : Lay α} {sz bytes lo lo' : Nat} {w : World} {v u : Value} {xs : List α} (G : Good E sz) (hE : ∀ f x, E (fun b => lo' ≤ b) w f x → E (fun b => lo' ≤ b ∧ b < w.heap.size) w f x) (h : IsRow E sz bytes (fun b => lo' ≤ b) w u xs) (hl : lo ≤ lo') (hv : ∀ g, some g = v.ownBlock → g < lo') : IsRow E sz bytes (fun b => lo ≤ b ∧ b < w.heap.size ∧ some b ≠ v.ownBlock) w u xs :=
  (h.both G hE).mono G fun b hb => ⟨by omega, hb.2, fun e => by have := hv b e; omega⟩
theorem parse_pe {l : List UInt8} {X : QW} {st' : Option (List UInt8)} (hR : RdR takeWorld (some l) X st') : (st' = none → parseE l = (⟨[], [], 0⟩, 2)) ∧ (∀ r, st' = some r → r ≠ [] → parseE l = (⟨[], [], 0⟩, 2)) ∧ (st' = some [] → parseE l = if rightE X = 0 then (X, 0) else (⟨[], [], 0⟩, rightE X)) := by
  rcases hR.cases with ⟨l', r, e, hf, rfl⟩ | ⟨rfl, hf⟩
  · cases e
    unfold parseE
    rw [hf]
    refine ⟨(fun e => by cases e), fun r' e hne => ?_, fun e => ?_⟩
    · cases e
      cases r with
      | nil => exact absurd rfl hne
      | cons a r => rfl
    · cases e
      rfl
  · unfold parseE
    rw [hf l rfl]
    exact ⟨fun _ => rfl, (fun r e => by cases e), (fun e => by cases e)⟩
theorem wordsIn_of {w : World} {v : Value} {ws : List (List UInt8)} {base : Nat} (h : w.ownsRow base 9 1 v ws.length (wcells ws)) (hf : ∀ x ∈ ws, x.length ≤ 1048576) : ∃ ad cap, v = .slice ad ws.length cap ∧ WordsIn w.heap.size w ad cap ws := by
  obtain ⟨-, ⟨rfl, h0⟩ | ⟨g, cap, cur, rfl, hg, hh, hn, hc, hs, ht⟩⟩ := h
  · obtain rfl : ws = [] := List.eq_nil_of_length_eq_zero h0
    exact ⟨none, 0, rfl, by simp, by omega, fun i x hx => by simp at hx, hf⟩
  · refine ⟨_, cap, rfl, hn, by unfold maxLen at hc; omega, fun i x hx => ⟨g, 0, rfl, blk_lt hh, ?_⟩, hf⟩
    rw [Nat.zero_add, cell_of_row _ _ _ _ _ _ hh, ← Array.getElem?_toList]
    have e := congrArg (fun z => z[i]?) ht
    simp only [List.getElem?_take] at e
    have hi := lt_of_get hx
    rw [if_pos (by omega)] at e
    rw [e]
    unfold wcells
    rw [List.getElem?_map, hx]
    rfl
theorem joinW_mem {ws : List (List UInt8)} {x : List UInt8} (h : x ∈ ws) : x.length ≤ (joinW ws).length := by
  induction ws with
  | nil => cases h
  | cons a t ih =>
    rw [join_cons, List.length_append, List.length_cons]
    rcases List.mem_cons.1 h with rfl | h
    · omega
    · have := ih h; omega
theorem step_call {P : Program} {ops : Array Oper} {o : Oper} {a : Act} {w : World} {K : Act → World → Prop} {Q : Exit → Act → World → Prop} {E : Prop} (hg : o.guard = none) (fn : Nat) (cal : Operand) (args : Array Operand) (tys : Array TypeId) (hop : o.op = Op.call { callee := Callee.value cal, args := args, argTypes := tys })
    (caps : Array Value) (hcal : a.eval cal = .func (.func fn) #[] caps) (vs : Array Value) (hvs : args.map a.eval = vs) (hcf : (callFunc fn (vs ++ caps)).run P w = .ok (.enter fn (vs ++ caps)) w) (hc : Calls P fn (vs ++ caps) w fun e w' => ∃ v, e = .returned v ∧ K (a.put o.dst v) w') : if Region.wanted o (yielded ops a.tmps) = true then Oper.wp P o a w K Q else E := by
  have hw : Region.wanted o (yielded ops a.tmps) = true := by simp [Region.wanted, hg]
  rw [if_pos hw]
  unfold Oper.wp
  have hr : (execOp a.eval o).run P w = .ok (.enter fn (vs ++ caps)) w := by
    simp [execOp, hop, resolve, invoke, hcal, hvs, Deferred.ofValue]
    exact hcf
  rw [hr, Oper.upon_enter]
  refine hc.mono ?_
  rintro e w' ⟨v, rfl, h⟩
  exact h
theorem cf_of {fn : Nat} {f : Func} (hf : Tryz.prog.funcs[fn]? = some f) (hn : (f.name == "runtime.NumGoroutine") = false) (hb : f.body.isSome = true) (args : Array Value) (w : World) : (callFunc fn args).run Tryz.prog w = .ok (.enter fn args) w := by
  have h1 : ¬ f.name = "runtime.NumGoroutine" := by simpa using hn
  have h2 : ¬ f.body = none := by intro h; rw [h] at hb; cases hb
  simp [callFunc, hf, h1, h2]
theorem step25 {ops : Array Oper} {o : Oper} {a : Act} {w : World} {K : Act → World → Prop} {Q : Exit → Act → World → Prop} {F : Prop} {rb : Nat} (hg : o.guard = none) (t : Nat) (hop : o.op = Op.call { callee := Callee.value (.func 25), args := #[.tmp t], argTypes := #[68] }) (hv : a.eval (.tmp t) = .pointer (some ⟨rb, 0, none⟩))
    (hc : Calls Tryz.prog 25 #[.pointer (some ⟨rb, 0, none⟩)] w fun e w' => ∃ v, e = .returned v ∧ K (a.put o.dst v) w') : if Region.wanted o (yielded ops a.tmps) = true then Oper.wp Tryz.prog o a w K Q else F :=
  step_call hg 25 (.func 25) #[.tmp t] #[68] hop #[] rfl #[.pointer (some ⟨rb, 0, none⟩)] (by simp [hv]) (cf_of Tryz.func25 (by kernel_rfl) (by kernel_rfl) _ _) (by simpa using hc)
theorem rfN_box {W wr w' : World} {rb d : Nat} {cs : Value → Array Value} {t : TypeId} {st : Option (List UInt8)} {v : Value} (hB : BxS W rb d cs t st v wr) (hd : d ≠ rb) (hb : Below wr.heap.size wr w') : Calls Tryz.prog 25 #[.pointer (some ⟨rb, 0, none⟩)] w' fun e w2 => ∃ n st', e = .returned (.int .i64 n) ∧ RdR takeNum st n st' ∧ BxS W rb d cs t st' v w2 ∧ RdK rb wr w2 := by
  refine (rfN_any (hB.S.later hb)).mono ?_
  rintro e w2 ⟨n, st', rfl, h1, h2, h3⟩
  have hk : RdK rb wr w2 := (RdK.of_below (Nat.le_of_lt hB.S.lt) hb).trans h3
  exact ⟨n, st', rfl, h1, hB.call hd h2 hk, hk⟩
theorem joinW_ne {a : List UInt8} {t : List (List UInt8)} : joinW (a :: t) ≠ [] := by rw [join_cons]; simp
set_option maxHeartbeats 8000000 in
theorem rparse_any (l : List UInt8) (v : Value) (w : World) (hb : BytesIn w v l) (hV : Vars w) (hll : l.length ≤ 1048576) : Calls Tryz.prog 9 #[v] w (PaPost w (parseE l).1 (parseE l).2) := by
  have hbl0 := bel1 w (.cells #[.slice none 0 0, .slice none 0 0, .int .i64 0] 25)
  have hcv := (hb.later hbl0).conv
  have hP0 : PaS w (w.alloc (.cells #[.slice none 0 0, .slice none 0 0, .int .i64 0] 25)) := ⟨heap_alloc_new w _, hbl0⟩
  have hV0 := hV.later hbl0
  have hsz0 : (w.alloc (.cells #[.slice none 0 0, .slice none 0 0, .int .i64 0] 25)).heap.size = w.heap.size + 1 := by simp
  obtain ⟨ad0, cap0, rfl, -⟩ := hb
  clear hV hbl0
  have HPE : Hid (∀ X st', RdR takeWorld (some l) X st' → (st' = none → parseE l = (⟨[], [], 0⟩, 2)) ∧ (∀ r, st' = some r → r ≠ [] → parseE l = (⟨[], [], 0⟩, 2)) ∧ (st' = some [] → parseE l = if rightE X = 0 then (X, 0) else (⟨[], [], 0⟩, rightE X))) := fun X st' hR => parse_pe hR
  have HPN : Hid (¬ Joins l → parseE l = (⟨[], [], 0⟩, 2)) := fun h => parse_noWords h
  generalize parseE l = R at *
  go_enter Tryz.func9, Tryz.ntmps9
  go_upto_region 1 with (fail)
  generalize (w.alloc (.cells #[.slice none 0 0, .slice none 0 0, .int .i64 0] 25)) = W0 at *
  go_wp2_with (go_at_call 24; refine (words_any ⟨l.toArray⟩ W0 (by simpa [ByteArray.size] using hll)).mono ?_; rintro e w1 ⟨hb1, wv, ok, rfl, hok, hno⟩; refine Hid.out ?_)
  refine Lib.hid ?_
  replace hP0 := hP0.later hb1
  have hV1 := hV0.later hb1
  have hs1 := hb1.size
  clear hcv hV0
  cases ok with
  | false =>
    have hR := HPN.out (hno rfl)
    have z0 : w1.cell? ⟨w.heap.size, 0, none⟩ = some (.slice none 0 0) := hP0.z 0
    have z1 : w1.cell? ⟨w.heap.size, 1, none⟩ = some (.slice none 0 0) := hP0.z 1
    have z2 : w1.cell? ⟨w.heap.size, 2, none⟩ = some (.int .i64 0) := hP0.z 2
    have zf := row_free hP0.res
    have HF : Hid (PaPost w R.1 R.2 (.returned (.tuple #[WV (.slice none 0 0) (.slice none 0 0) 0, .int .i64 2])) (w1.setCells w.heap.size 0 [.slice none 0 0, .slice none 0 0, .int .i64 0])) := by
      rw [hR]
      exact ⟨_, _, rfl, isRow_empty _ _ _ _ _, isRow_empty _ _ _ _ _, ⟨hP0.bel.os, hP0.bel.tape, hP0.bel.output, by rw [setCells_size]; exact hP0.bel.size, fun b hl => (setCells_else (by omega) _ _ _).trans (hP0.bel.block b hl)⟩⟩
    clear hok hno hR HPN HPE hb1
    go_wp2
    refine bodyPost_ret (v := .tuple #[WV (.slice none 0 0) (.slice none 0 0) 0, .int .i64 2]) ?_ rfl HF.out
    simp [results, Tryz.results9, go_sem, z0, z1, z2]
  | true =>
    obtain ⟨ws, hgw, hjw, hown⟩ := hok rfl
    obtain ⟨wa, wc, rfl, hWI⟩ := wordsIn_of hown fun x hx => by have := joinW_mem hx; rw [← hjw] at this; have h2 : x.length ≤ l.length := this; omega
    have hjl : l = joinW ws := by simpa using hjw
    have rbx := heap_alloc_new w1 (.cells #[.slice wa ws.length wc, .bool true] 70)
    have rbl := bel1 w1 (.cells #[.slice wa ws.length wc, .bool true] 70)
    have hP1 := hP0.later rbl
    have hS1 : RfS w1.heap.size (w1.alloc (.cells #[.slice wa ws.length wc, .bool true] 70)) (some l) := ⟨⟨ws, wa, wc, hgw, hjl, rbx, hWI.keep fun b hl => rbl.block b hl⟩, hV1.from.on rbl⟩
    clear hok hno hgw hjw hown hWI hjl HPN hP0 hV1 hb1
    have hs2 : w.heap.size < w1.heap.size := by omega
    go_upto_region 5 with (fail)
    generalize (w1.alloc (.cells #[.slice wa ws.length wc, .bool true] 70)) = W1 at *
    generalize w1.heap.size = rb at *
    go_wp2_with (go_at_call 25; refine (rfN_any hS1).mono ?_; rintro e pw1 ⟨ep, pt1, rfl, pR1, pS1, pK1⟩; refine Hid.out ?_)
    refine Lib.hid ?_
    have pLT := pS1.lt
    have pLE := pK1.bel.size
    have pbx := heap_alloc_new pw1 (.cells #[.slice none 0 0, .slice none 0 0, .int .i64 ep] 25)
    have pbl := bel1 pw1 (.cells #[.slice none 0 0, .slice none 0 0, .int .i64 ep] 25)
    replace pS1 := pS1.later pbl
    replace pK1 := pK1.trans (.of_below (Nat.le_of_lt pLT) pbl)
    have pLU : pw1.heap.size < (pw1.alloc (.cells #[.slice none 0 0, .slice none 0 0, .int .i64 ep] 25)).heap.size := by simp
    clear pbl
    go_upto_region 6 with (fail)
    generalize (pw1.alloc (.cells #[.slice none 0 0, .slice none 0 0, .int .i64 ep] 25)) = pU at *
    generalize pw1.heap.size = wb at *
    go_wp2_with (go_at_call 26; refine (rfK_any 12 (by omega) pS1).mono ?_; rintro e pw2 ⟨kk, pt2, rfl, pR2, pm2, pS2, pK2⟩; refine Hid.out ?_)
    refine Lib.hid ?_
    have pLV := pK2.bel.size
    replace pbx := box_rdk pbx (by omega) pK2
    replace pK2 := pK1.trans pK2
    clear pK1 pS1
    have hP2 : PaS w pw2 := ⟨(pK2.oth _ (blk_lt hP1.res) (by omega)).trans hP1.res, hP1.bel.trans (pK2.bel.mono (by omega))⟩
    have bs := pS2
    have bx := pbx
    clear pS2 pbx hP1 rbx rbl
    generalize pw2 = W2 at *
    have br : rb < W2.heap.size := bs.lt
    have bd : wb < W2.heap.size := blk_lt bx
    have bB0 : BxS W2 rb wb (fun v => #[v, .slice none 0 0, .int .i64 ep]) 25 pt2 (.slice none 0 0) W2 := BxS.start bs bx
    go_wp2_with (fail)
    go_loopg [30] kk (fun g c wr => ∃ (ys : List QC) (stj : Option (List UInt8)) (v : Value), ys.length + g = kk ∧ c = .int .i64 (ys.length : Int) ∧ BxS W2 rb wb (fun v => #[v, .slice none 0 0, .int .i64 ep]) 25 stj v wr ∧ GrR ClassC 4 38 W2.heap.size wr v ys ∧ RdR (takeMany takeClass ys.length) pt2 ys stj)
    case atStart => exact ⟨[], _, _, by simp, rfl, bB0, GrR.nil _, rdr_many0 _⟩
    case round =>
      clear bB0
      obtain ⟨bys, bst, bv, bg, rfl, bB, bG, bQ⟩ := hrel
      obtain ⟨bad, bcp, rfl⟩ := bG.form
      have bO := bG.lt
      have bW := bB.bel.size
      by_cases bj : bys.length < kk
      · have bj1 : (bys.length : Int) < (kk : Int) := by omega
        have bj0 : (0 : Int) ≤ (bys.length : Int) := by omega
        go_wp2_with (go_at_call 27; refine (rfW_any bB.S).mono ?_; rintro e kw1 ⟨cnm, kt1, rfl, kR1, -, kz1, kS1, kK1⟩; refine Hid.out ?_)
        refine Lib.hid ?_
        go_wp2_with (go_at_call 25; refine (rfN_any kS1).mono ?_; rintro e kw2 ⟨cna, kt2, rfl, kR2, kS2, kK2⟩; refine Hid.out ?_)
        refine Lib.hid ?_
        replace kK2 := kK1.trans kK2
        clear kK1 kS1
        go_wp2_with (go_at_call 25; refine (rfN_any kS2).mono ?_; rintro e kw3 ⟨cnb, kt3, rfl, kR3, kS3, kK3⟩; refine Hid.out ?_)
        refine Lib.hid ?_
        replace kK3 := kK2.trans kK3
        clear kK2 kS2
        have kLT := kS3.lt
        have kLE := kK3.bel.size
        have kbx := heap_alloc_new kw3 (.cells #[.string cnm, .int .i64 cna, .int .i64 cnb, .slice none 0 0] 38)
        have kbl := bel1 kw3 (.cells #[.string cnm, .int .i64 cna, .int .i64 cnb, .slice none 0 0] 38)
        replace kS3 := kS3.later kbl
        replace kK3 := kK3.trans (.of_below (Nat.le_of_lt kLT) kbl)
        have kLU : kw3.heap.size < (kw3.alloc (.cells #[.string cnm, .int .i64 cna, .int .i64 cnb, .slice none 0 0] 38)).heap.size := by simp
        clear kbl
        go_upto_region 9 with (fail)
        generalize (kw3.alloc (.cells #[.string cnm, .int .i64 cna, .int .i64 cnb, .slice none 0 0] 38)) = kU at *
        generalize kw3.heap.size = cb at *
        go_wp2_with (go_at_call 26; refine (rfK_any 8 (by omega) kS3).mono ?_; rintro e kw4 ⟨kc, kt4, rfl, kR4, km4, kS4, kK4⟩; refine Hid.out ?_)
        refine Lib.hid ?_
        have kLV := kK4.bel.size
        replace kbx := box_rdk kbx (by omega) kK4
        replace kK4 := kK3.trans kK4
        clear kK3 kS3
        have kLW := kK4.bel.size
        have cs := kS4
        have cx := kbx
        clear kS4 kbx
        generalize kw4 = W3 at *
        have cr : rb < W3.heap.size := cs.lt
        have cd : cb < W3.heap.size := blk_lt cx
        have cB0 : BxS W3 rb cb (fun v => #[.string cnm, .int .i64 cna, .int .i64 cnb, v]) 38 kt4 (.slice none 0 0) W3 := BxS.start cs cx
        go_wp2_with (fail)
        go_loopg [41] kc (fun g c wr => ∃ (ys : List QM) (stj : Option (List UInt8)) (v : Value), ys.length + g = kc ∧ c = .int .i64 (ys.length : Int) ∧ BxS W3 rb cb (fun v => #[.string cnm, .int .i64 cna, .int .i64 cnb, v]) 38 stj v wr ∧ GrR MethC 5 43 W3.heap.size wr v ys ∧ RdR (takeMany takeMeth ys.length) kt4 ys stj)
        case atStart => exact ⟨[], _, _, by simp, rfl, cB0, GrR.nil _, rdr_many0 _⟩
        case round =>
          clear cB0
          obtain ⟨cys, cst, cv, cg, rfl, cB, cG, cQ⟩ := hrel
          obtain ⟨cad, ccp, rfl⟩ := cG.form
          have cO := cG.lt
          have cW := cB.bel.size
          by_cases cj : cys.length < kc
          · have cj1 : (cys.length : Int) < (kc : Int) := by omega
            have cj0 : (0 : Int) ≤ (cys.length : Int) := by omega
            go_wp2_with (go_at_call 27; refine (rfW_any cB.S).mono ?_; rintro e mw1 ⟨mnm, mt1, rfl, mR1, -, mz1, mS1, mK1⟩; refine Hid.out ?_)
            refine Lib.hid ?_
            go_wp2_with (go_at_call 25; refine (rfN_any mS1).mono ?_; rintro e mw2 ⟨ma, mt2, rfl, mR2, mS2, mK2⟩; refine Hid.out ?_)
            refine Lib.hid ?_
            replace mK2 := mK1.trans mK2
            clear mK1 mS1
            go_wp2_with (go_at_call 25; refine (rfN_any mS2).mono ?_; rintro e mw3 ⟨mt, mt3, rfl, mR3, mS3, mK3⟩; refine Hid.out ?_)
            refine Lib.hid ?_
            replace mK3 := mK2.trans mK3
            clear mK2 mS2
            go_wp2_with (go_at_call 25; refine (rfN_any mS3).mono ?_; rintro e mw4 ⟨mp, mt4, rfl, mR4, mS4, mK4⟩; refine Hid.out ?_)
            refine Lib.hid ?_
            replace mK4 := mK3.trans mK4
            clear mK3 mS3
            have mLT := mS4.lt
            have mLE := mK4.bel.size
            have mbx := heap_alloc_new mw4 (.cells #[.string mnm, .int .i64 ma, .int .i64 mt, .int .i64 mp, .slice none 0 0] 43)
            have mbl := bel1 mw4 (.cells #[.string mnm, .int .i64 ma, .int .i64 mt, .int .i64 mp, .slice none 0 0] 43)
            replace mS4 := mS4.later mbl
            replace mK4 := mK4.trans (.of_below (Nat.le_of_lt mLT) mbl)
            have mLU : mw4.heap.size < (mw4.alloc (.cells #[.string mnm, .int .i64 ma, .int .i64 mt, .int .i64 mp, .slice none 0 0] 43)).heap.size := by simp
            clear mbl
            go_upto_region 12 with (fail)
            generalize (mw4.alloc (.cells #[.string mnm, .int .i64 ma, .int .i64 mt, .int .i64 mp, .slice none 0 0] 43)) = mU at *
            generalize mw4.heap.size = mb at *
            go_wp2_with (go_at_call 26; refine (rfK_any 60 (by omega) mS4).mono ?_; rintro e mw5 ⟨km, mt5, rfl, mR5, mm5, mS5, mK5⟩; refine Hid.out ?_)
            refine Lib.hid ?_
            have mLV := mK5.bel.size
            replace mbx := box_rdk mbx (by omega) mK5
            replace mK5 := mK4.trans mK5
            clear mK4 mS4
            have mLW := mK5.bel.size
            have ds := mS5
            have dx := mbx
            clear mS5 mbx
            generalize mw5 = W4 at *
            have dr : rb < W4.heap.size := ds.lt
            have dd : mb < W4.heap.size := blk_lt dx
            have dB0 : BxS W4 rb mb (fun v => #[.string mnm, .int .i64 ma, .int .i64 mt, .int .i64 mp, v]) 43 mt5 (.slice none 0 0) W4 := BxS.start ds dx
            go_wp2_with (fail)
            go_loopg [54] km (fun g c wr => ∃ (ys : List QI) (stj : Option (List UInt8)) (v : Value), ys.length + g = km ∧ c = .int .i64 (ys.length : Int) ∧ BxS W4 rb mb (fun v => #[.string mnm, .int .i64 ma, .int .i64 mt, .int .i64 mp, v]) 43 stj v wr ∧ GrR InstrC 5 62 W4.heap.size wr v ys ∧ RdR (takeMany takeInstr ys.length) mt5 ys stj)
            case atStart => exact ⟨[], _, _, by simp, rfl, dB0, GrR.nil _, rdr_many0 _⟩
            case round =>
              clear dB0
              obtain ⟨dys, dst, dv, dg, rfl, dB, dG, dQ⟩ := hrel
              obtain ⟨dad, dcp, rfl⟩ := dG.form
              have dO := dG.lt
              have dW := dB.bel.size
              by_cases dj : dys.length < km
              · have dj1 : (dys.length : Int) < (km : Int) := by omega
                have dj0 : (0 : Int) ≤ (dys.length : Int) := by omega
                go_wp2_with (go_at_call 25; refine (rfN_any dB.S).mono ?_; rintro e iw1 ⟨io, it1, rfl, iR1, iS1, iK1⟩; refine Hid.out ?_)
                refine Lib.hid ?_
                go_wp2_with (go_at_call 25; refine (rfN_any iS1).mono ?_; rintro e iw2 ⟨ia, it2, rfl, iR2, iS2, iK2⟩; refine Hid.out ?_)
                refine Lib.hid ?_
                replace iK2 := iK1.trans iK2
                clear iK1 iS1
                have iLT := iS2.lt
                have iLE := iK2.bel.size
                have ibx := heap_alloc_new iw2 (.cells #[.int .i64 io, .int .i64 ia, .int .i64 0, .int .i64 0, .string ⟨#[]⟩] 62)
                have ibl := bel1 iw2 (.cells #[.int .i64 io, .int .i64 ia, .int .i64 0, .int .i64 0, .string ⟨#[]⟩] 62)
                replace iS2 := iS2.later ibl
                replace iK2 := iK2.trans (.of_below (Nat.le_of_lt iLT) ibl)
                have iLU : iw2.heap.size < (iw2.alloc (.cells #[.int .i64 io, .int .i64 ia, .int .i64 0, .int .i64 0, .string ⟨#[]⟩] 62)).heap.size := by simp
                clear ibl
                go_upto_region 15 with (fail)
                generalize (iw2.alloc (.cells #[.int .i64 io, .int .i64 ia, .int .i64 0, .int .i64 0, .string ⟨#[]⟩] 62)) = iU at *
                generalize iw2.heap.size = ib at *
                have e0 : iU.cell? ⟨ib, 0, none⟩ = some (.int .i64 io) := by rw [cell_of_row _ _ _ _ _ _ ibx]; rfl
                by_cases hop : io = 14
                · subst hop
                  go_wp2_with (go_at_call 27; refine (rfW_any iS2).mono ?_; rintro e w5 ⟨inm, it3, rfl, iR3, -, iz3, iS3, iK3⟩; refine Hid.out ?_)
                  refine Lib.hid ?_
                  replace ibx := box_rdk ibx (by omega) iK3
                  have iLV := iK3.bel.size
                  replace iK3 := iK2.trans iK3
                  clear iK2 iS2 e0
                  have ic4 : w5.cell? ⟨ib, 4, none⟩ = some (.string ⟨#[]⟩) := by rw [cell_of_row _ _ _ _ _ _ ibx]; rfl
                  have icf := row_free ibx
                  replace iS3 := iS3.setHi (show rb < ib by omega) 4 (.string inm)
                  replace iK3 := iK3.setHi (show _ ≤ ib by omega) (show rb ≤ ib by omega) 4 (.string inm)
                  replace ibx := setCell_same (o := 4) ibx (.string inm)
                  go_upto_region 17 with (fail)
                  generalize (w5.setCell ⟨ib, 4, none⟩ (.string inm)) = iV at *
                  clear ic4 icf
                  have e0 : iV.cell? ⟨ib, 0, none⟩ = some (.int .i64 14) := by rw [cell_of_row _ _ _ _ _ _ ibx]; rfl
                  have e1 : iV.cell? ⟨ib, 1, none⟩ = some (.int .i64 ia) := by rw [cell_of_row _ _ _ _ _ _ ibx]; rfl
                  have e2 : iV.cell? ⟨ib, 2, none⟩ = some (.int .i64 0) := by rw [cell_of_row _ _ _ _ _ _ ibx]; rfl
                  have e3 : iV.cell? ⟨ib, 3, none⟩ = some (.int .i64 0) := by rw [cell_of_row _ _ _ _ _ _ ibx]; rfl
                  have e4 : iV.cell? ⟨ib, 4, none⟩ = some (.string inm) := by rw [cell_of_row _ _ _ _ _ _ ibx]; rfl
                  replace dB := dB.call (by omega) iS3 iK3
                  replace dG := dG.rdk goodI iK3 dr
                  have df : iV.cell? ⟨mb, 4, none⟩ = some (.slice dad dys.length dcp) := dB.c 4
                  have dH := dB.bel.size
                  have dbl := bel1 iV (.cells #[.int .i64 14, .int .i64 ia, .int .i64 0, .int .i64 0, .string inm] 62)
                  have dX := heap_alloc_new iV (.cells #[.int .i64 14, .int .i64 ia, .int .i64 0, .int .i64 0, .string inm] 62)
                  have dG1 := dG.later goodI dbl
                  have dB1 := dB.grow dr dd (dbl.mono dH)
                  have dH1 : W4.heap.size ≤ (iV.alloc (.cells #[.int .i64 14, .int .i64 ia, .int .i64 0, .int .i64 0, .string inm] 62)).heap.size := by simp; omega
                  have dQQ := rdr_snoc dQ (rdr_instr iR1 iR2 (by rw [if_pos rfl]; exact iR3))
                  have dE0 : InstrC (fun b => W4.heap.size ≤ b ∧ b < (iV.alloc (.cells #[.int .i64 14, .int .i64 ia, .int .i64 0, .int .i64 0, .string inm] 62)).heap.size ∧ some b ≠ (Value.slice dad dys.length dcp).ownBlock) (iV.alloc (.cells #[.int .i64 14, .int .i64 ia, .int .i64 0, .int .i64 0, .string inm] 62)) (fun k => [.int .i64 14, .int .i64 ia, .int .i64 0, .int .i64 0, .string inm][k]?) ⟨14, ia, 0, 0, inm⟩ := ⟨rfl, rfl, rfl, rfl, rfl, Nat.le_trans iz3 (by omega)⟩
                  clear dB dG dbl dQ
                  go_wp2_with (at_builtin; refine wpList_grow rfl (.tmp 68) (.tmp 70) 41 zI rfl Tryz.underlying41 info62 rfl goodI dG1 rfl iV.heap.size rfl [.int .i64 14, .int .i64 ia, .int .i64 0, .int .i64 0, .string inm] rfl dX (y := ⟨14, ia, 0, 0, inm⟩) dE0 (by omega) (by omega) dH1 ?_; intro da2 dc2 dw7 dG7 db7; have dB7 := dB1.grow dr dd db7; have df7 : dw7.cell? ⟨mb, 4, none⟩ = some (.slice dad dys.length dcp) := dB7.c 4; have dff := row_free dB7.box)
                  go_roundg (km - (dys.length + 1))
                  case measure => omega
                  case rel => exact ⟨dys ++ [⟨14, ia, 0, 0, inm⟩], _, _, by simp; omega, by simp; try go_num, dB7.set (by omega) rfl, dG7.setLo goodI dd _ _, by rw [List.length_append]; exact dQQ⟩
                · have hop' : (io == 14) = false := by simpa using hop
                  have e1 : iU.cell? ⟨ib, 1, none⟩ = some (.int .i64 ia) := by rw [cell_of_row _ _ _ _ _ _ ibx]; rfl
                  have e2 : iU.cell? ⟨ib, 2, none⟩ = some (.int .i64 0) := by rw [cell_of_row _ _ _ _ _ _ ibx]; rfl
                  have e3 : iU.cell? ⟨ib, 3, none⟩ = some (.int .i64 0) := by rw [cell_of_row _ _ _ _ _ _ ibx]; rfl
                  have e4 : iU.cell? ⟨ib, 4, none⟩ = some (.string ⟨#[]⟩) := by rw [cell_of_row _ _ _ _ _ _ ibx]; rfl
                  have iR3 := rdr_instr (nm := ⟨#[]⟩) (s3 := it2) iR1 iR2 (by rw [if_neg hop]; exact ⟨rfl, rfl⟩)
                  clear hop
                  go_upto_region 17 with (fail)
                  replace dB := dB.call (by omega) iS2 iK2
                  replace dG := dG.rdk goodI iK2 dr
                  have df : iU.cell? ⟨mb, 4, none⟩ = some (.slice dad dys.length dcp) := dB.c 4
                  have dH := dB.bel.size
                  have dbl := bel1 iU (.cells #[.int .i64 io, .int .i64 ia, .int .i64 0, .int .i64 0, .string ⟨#[]⟩] 62)
                  have dX := heap_alloc_new iU (.cells #[.int .i64 io, .int .i64 ia, .int .i64 0, .int .i64 0, .string ⟨#[]⟩] 62)
                  have dG1 := dG.later goodI dbl
                  have dB1 := dB.grow dr dd (dbl.mono dH)
                  have dH1 : W4.heap.size ≤ (iU.alloc (.cells #[.int .i64 io, .int .i64 ia, .int .i64 0, .int .i64 0, .string ⟨#[]⟩] 62)).heap.size := by simp; omega
                  have dQQ := rdr_snoc dQ iR3
                  have dE0 : InstrC (fun b => W4.heap.size ≤ b ∧ b < (iU.alloc (.cells #[.int .i64 io, .int .i64 ia, .int .i64 0, .int .i64 0, .string ⟨#[]⟩] 62)).heap.size ∧ some b ≠ (Value.slice dad dys.length dcp).ownBlock) (iU.alloc (.cells #[.int .i64 io, .int .i64 ia, .int .i64 0, .int .i64 0, .string ⟨#[]⟩] 62)) (fun k => [.int .i64 io, .int .i64 ia, .int .i64 0, .int .i64 0, .string ⟨#[]⟩][k]?) ⟨io, ia, 0, 0, ⟨#[]⟩⟩ := ⟨rfl, rfl, rfl, rfl, rfl, Nat.zero_le _⟩
                  clear dB dG dbl dQ
                  go_wp2_with (at_builtin; refine wpList_grow rfl (.tmp 68) (.tmp 70) 41 zI rfl Tryz.underlying41 info62 rfl goodI dG1 rfl iU.heap.size rfl [.int .i64 io, .int .i64 ia, .int .i64 0, .int .i64 0, .string ⟨#[]⟩] rfl dX (y := ⟨io, ia, 0, 0, ⟨#[]⟩⟩) dE0 (by omega) (by omega) dH1 ?_; intro da2 dc2 dw7 dG7 db7; have dB7 := dB1.grow dr dd db7; have df7 : dw7.cell? ⟨mb, 4, none⟩ = some (.slice dad dys.length dcp) := dB7.c 4; have dff := row_free dB7.box)
                  go_roundg (km - (dys.length + 1))
                  case measure => omega
                  case rel => exact ⟨dys ++ [⟨io, ia, 0, 0, ⟨#[]⟩⟩], _, _, by simp; omega, by simp; try go_num, dB7.set (by omega) rfl, dG7.setLo goodI dd _ _, by rw [List.length_append]; exact dQQ⟩
              · obtain rfl : km = dys.length := by omega
                have mLL := dB.rdk mK5 (show _ ≤ mb by omega)
                have dI := dG.row (bytes := 48) goodI (by omega)
                have dz := dB.bel.size
                have dS := dB.S
                have dx2 := dB.box
                have mR := rdr_meth mR1 mR2 mR3 mR4 (rdr_list mR5 dQ)
                clear dG dQ mR1 mR2 mR3 mR4 mR5 mK5 ds dx dB
                go_upto_region 19 with (fail)
                have q0 : wr.cell? ⟨mb, 0, none⟩ = some (.string mnm) := by rw [cell_of_row _ _ _ _ _ _ dx2]; rfl
                have q1 : wr.cell? ⟨mb, 1, none⟩ = some (.int .i64 ma) := by rw [cell_of_row _ _ _ _ _ _ dx2]; rfl
                have q2 : wr.cell? ⟨mb, 2, none⟩ = some (.int .i64 mt) := by rw [cell_of_row _ _ _ _ _ _ dx2]; rfl
                have q3 : wr.cell? ⟨mb, 3, none⟩ = some (.int .i64 mp) := by rw [cell_of_row _ _ _ _ _ _ dx2]; rfl
                have q4 : wr.cell? ⟨mb, 4, none⟩ = some (.slice dad dys.length dcp) := by rw [cell_of_row _ _ _ _ _ _ dx2]; rfl
                replace cB := cB.call (by omega) dS mLL
                replace cG := cG.rdk goodM mLL cr
                have cf : wr.cell? ⟨cb, 3, none⟩ = some (.slice cad cys.length ccp) := cB.c 3
                have cH := cB.bel.size
                have cbl := bel1 wr (.cells #[.string mnm, .int .i64 ma, .int .i64 mt, .int .i64 mp, .slice dad dys.length dcp] 43)
                have cX := heap_alloc_new wr (.cells #[.string mnm, .int .i64 ma, .int .i64 mt, .int .i64 mp, .slice dad dys.length dcp] 43)
                have cG1 := cG.later goodM cbl
                have cB1 := cB.grow cr cd (cbl.mono cH)
                have cH1 : W3.heap.size ≤ (wr.alloc (.cells #[.string mnm, .int .i64 ma, .int .i64 mt, .int .i64 mp, .slice dad dys.length dcp] 43)).heap.size := by simp; omega
                have cQQ := rdr_snoc cQ mR
                have cE := el_in (lo := W3.heap.size) (v := .slice cad cys.length ccp) goodI (fun _ _ h => h) (dI.later goodI cbl) (by omega) (fun g hg => by have := cO g hg; omega)
                have cE0 : MethC (fun b => W3.heap.size ≤ b ∧ b < (wr.alloc (.cells #[.string mnm, .int .i64 ma, .int .i64 mt, .int .i64 mp, .slice dad dys.length dcp] 43)).heap.size ∧ some b ≠ (Value.slice cad cys.length ccp).ownBlock) (wr.alloc (.cells #[.string mnm, .int .i64 ma, .int .i64 mt, .int .i64 mp, .slice dad dys.length dcp] 43)) (fun k => [.string mnm, .int .i64 ma, .int .i64 mt, .int .i64 mp, .slice dad dys.length dcp][k]?) ⟨mnm, ma, mt, mp, dys⟩ := ⟨rfl, rfl, rfl, rfl, Nat.le_trans mz1 (by omega), _, rfl, cE⟩
                clear cB cG cbl cQ
                go_wp2_with (at_builtin; refine wpList_grow rfl (.tmp 75) (.tmp 77) 36 zM rfl Tryz.underlying36 info43 rfl goodM cG1 rfl wr.heap.size rfl [.string mnm, .int .i64 ma, .int .i64 mt, .int .i64 mp, .slice dad dys.length dcp] rfl cX (y := ⟨mnm, ma, mt, mp, dys⟩) cE0 (by omega) (by omega) cH1 ?_; intro ca2 cc2 cw7 cG7 cb7; have cB7 := cB1.grow cr cd cb7; have cf7 : cw7.cell? ⟨cb, 3, none⟩ = some (.slice cad cys.length ccp) := cB7.c 3; have cff := row_free cB7.box)
                go_roundg (kc - (cys.length + 1))
                case measure => omega
                case rel => exact ⟨cys ++ [⟨mnm, ma, mt, mp, dys⟩], _, _, by simp; omega, by simp; try go_num, cB7.set (by omega) rfl, cG7.setLo goodM cd _ _, by rw [List.length_append]; exact cQQ⟩
          · obtain rfl : kc = cys.length := by omega
            have kLL := cB.rdk kK4 (show _ ≤ cb by omega)
            have cI := cG.row (bytes := 64) goodM (by omega)
            have cz := cB.bel.size
            have cS := cB.S
            have cx2 := cB.box
            have kR := rdr_class kR1 kR2 kR3 (rdr_list kR4 cQ)
            clear cG cQ kR1 kR2 kR3 kR4 kK4 cs cx cB
            go_upto_region 21 with (fail)
            have q0 : wr.cell? ⟨cb, 0, none⟩ = some (.string cnm) := by rw [cell_of_row _ _ _ _ _ _ cx2]; rfl
            have q1 : wr.cell? ⟨cb, 1, none⟩ = some (.int .i64 cna) := by rw [cell_of_row _ _ _ _ _ _ cx2]; rfl
            have q2 : wr.cell? ⟨cb, 2, none⟩ = some (.int .i64 cnb) := by rw [cell_of_row _ _ _ _ _ _ cx2]; rfl
            have q3 : wr.cell? ⟨cb, 3, none⟩ = some (.slice cad cys.length ccp) := by rw [cell_of_row _ _ _ _ _ _ cx2]; rfl
            replace bB := bB.call (by omega) cS kLL
            replace bG := bG.rdk goodC kLL br
            have bf : wr.cell? ⟨wb, 0, none⟩ = some (.slice bad bys.length bcp) := bB.c 0
            have bH := bB.bel.size
            have bbl := bel1 wr (.cells #[.string cnm, .int .i64 cna, .int .i64 cnb, .slice cad cys.length ccp] 38)
            have bX := heap_alloc_new wr (.cells #[.string cnm, .int .i64 cna, .int .i64 cnb, .slice cad cys.length ccp] 38)
            have bG1 := bG.later goodC bbl
            have bB1 := bB.grow br bd (bbl.mono bH)
            have bH1 : W2.heap.size ≤ (wr.alloc (.cells #[.string cnm, .int .i64 cna, .int .i64 cnb, .slice cad cys.length ccp] 38)).heap.size := by simp; omega
            have bQQ := rdr_snoc bQ kR
            have bE := el_in (lo := W2.heap.size) (v := .slice bad bys.length bcp) goodM (fun _ _ h => bothM h) (cI.later goodM bbl) (by omega) (fun g hg => by have := bO g hg; omega)
            have bE0 : ClassC (fun b => W2.heap.size ≤ b ∧ b < (wr.alloc (.cells #[.string cnm, .int .i64 cna, .int .i64 cnb, .slice cad cys.length ccp] 38)).heap.size ∧ some b ≠ (Value.slice bad bys.length bcp).ownBlock) (wr.alloc (.cells #[.string cnm, .int .i64 cna, .int .i64 cnb, .slice cad cys.length ccp] 38)) (fun k => [.string cnm, .int .i64 cna, .int .i64 cnb, .slice cad cys.length ccp][k]?) ⟨cnm, cna, cnb, cys⟩ := ⟨rfl, rfl, rfl, Nat.le_trans kz1 (by omega), _, rfl, bE⟩
            clear bB bG bbl bQ
            go_wp2_with (at_builtin; refine wpList_grow rfl (.tmp 82) (.tmp 84) 22 zC rfl Tryz.underlying22 info38 rfl goodC bG1 rfl wr.heap.size rfl [.string cnm, .int .i64 cna, .int .i64 cnb, .slice cad cys.length ccp] rfl bX (y := ⟨cnm, cna, cnb, cys⟩) bE0 (by omega) (by omega) bH1 ?_; intro ba2 bc2 bw7 bG7 bb7; have bB7 := bB1.grow br bd bb7; have bf7 : bw7.cell? ⟨wb, 0, none⟩ = some (.slice bad bys.length bcp) := bB7.c 0; have bff := row_free bB7.box)
            go_roundg (kk - (bys.length + 1))
            case measure => omega
            case rel => exact ⟨bys ++ [⟨cnm, cna, cnb, cys⟩], _, _, by simp; omega, by simp; try go_num, bB7.set (by omega) rfl, bG7.setLo goodC bd _ _, by rw [List.length_append]; exact bQQ⟩
      · obtain rfl : kk = bys.length := by omega
        have bI := bG.row (bytes := 56) goodC (by omega)
        have bz := bB.bel.size
        have bS := bB.S
        have bx2 := bB.box
        have bQ2 := rdr_list pR2 bQ
        have hP3 : PaS w wr := ⟨(bB.K _ (blk_lt hP2.res) (by omega) (by omega)).trans hP2.res, hP2.bel.trans (bB.bel.mono (by omega))⟩
        clear bG bQ bB bs bx hP2 pR2 pK2
        go_wp2_with (go_at_call 26; refine (rfK_any 60 (by omega) bS).mono ?_; rintro e W5 ⟨kh, pt3, rfl, pR3, pm3, hs, hK5⟩; refine Hid.out ?_)
        refine Lib.hid ?_
        have hx := box_rdk bx2 (by omega) hK5
        have hP4 : PaS w W5 := ⟨(hK5.oth _ (blk_lt hP3.res) (by omega)).trans hP3.res, hP3.bel.trans (hK5.bel.mono (by omega))⟩
        have bI5 : IsClasses (fun b => W2.heap.size ≤ b) W5 (.slice bad bys.length bcp) bys := bI.keep goodC (Keeps.of_block fun b hb hl => hK5.oth b hl (by omega)) fun b hb => hb
        have hLV := hK5.bel.size
        clear bI bS bx2 hP3 hK5
        have hr : rb < W5.heap.size := hs.lt
        have hd : wb < W5.heap.size := blk_lt hx
        have hB0 : BxS W5 rb wb (fun v => #[.slice bad bys.length bcp, v, .int .i64 ep]) 25 pt3 (.slice none 0 0) W5 := BxS.start hs hx
        go_wp2_with (fail)
        go_loopg [90] kh (fun g c wr => ∃ (ys : List QO) (stj : Option (List UInt8)) (v : Value), ys.length + g = kh ∧ c = .int .i64 (ys.length : Int) ∧ BxS W5 rb wb (fun v => #[.slice bad bys.length bcp, v, .int .i64 ep]) 25 stj v wr ∧ GrR ObjC 2 49 W5.heap.size wr v ys ∧ RdR (takeMany takeObj ys.length) pt3 ys stj)
        case atStart => exact ⟨[], _, _, by simp, rfl, hB0, GrR.nil _, rdr_many0 _⟩
        case round =>
          clear hB0
          obtain ⟨hys, hst, hv, hg, rfl, hB, hG, hQ⟩ := hrel
          obtain ⟨had, hcp, rfl⟩ := hG.form
          have hO := hG.lt
          have hW := hB.bel.size
          by_cases hj : hys.length < kh
          · have hj1 : (hys.length : Int) < (kh : Int) := by omega
            have hj0 : (0 : Int) ≤ (hys.length : Int) := by omega
            go_wp2_with (go_at_call 25; refine (rfN_any hB.S).mono ?_; rintro e ow1 ⟨ocl, ot1, rfl, oR1, oS1, oK1⟩; refine Hid.out ?_)
            refine Lib.hid ?_
            have oLT := oS1.lt
            have oLE := oK1.bel.size
            have obx := heap_alloc_new ow1 (.cells #[.int .i64 ocl, .slice none 0 0] 49)
            have obl := bel1 ow1 (.cells #[.int .i64 ocl, .slice none 0 0] 49)
            replace oS1 := oS1.later obl
            replace oK1 := oK1.trans (.of_below (Nat.le_of_lt oLT) obl)
            have oLU : ow1.heap.size < (ow1.alloc (.cells #[.int .i64 ocl, .slice none 0 0] 49)).heap.size := by simp
            clear obl
            go_upto_region 26 with (fail)
            generalize (ow1.alloc (.cells #[.int .i64 ocl, .slice none 0 0] 49)) = oU at *
            generalize ow1.heap.size = ob at *
            go_wp2_with (go_at_call 26; refine (rfK_any 6 (by omega) oS1).mono ?_; rintro e ow2 ⟨ko, ot2, rfl, oR2, om2, oS2, oK2⟩; refine Hid.out ?_)
            refine Lib.hid ?_
            have oLV := oK2.bel.size
            replace obx := box_rdk obx (by omega) oK2
            replace oK2 := oK1.trans oK2
            clear oK1 oS1
            have oLW := oK2.bel.size
            have fs := oS2
            have fx := obx
            clear oS2 obx
            generalize ow2 = W6 at *
            have fr : rb < W6.heap.size := fs.lt
            have fd : ob < W6.heap.size := blk_lt fx
            have fB0 : BxS W6 rb ob (fun v => #[.int .i64 ocl, v]) 49 ot2 (.slice none 0 0) W6 := BxS.start fs fx
            go_wp2_with (fail)
            go_loopg [97] ko (fun g c wr => ∃ (ys : List QV) (stj : Option (List UInt8)) (v : Value), ys.length + g = ko ∧ c = .int .i64 (ys.length : Int) ∧ BxS W6 rb ob (fun v => #[.int .i64 ocl, v]) 49 stj v wr ∧ GrR ValC 2 51 W6.heap.size wr v ys ∧ RdR (takeMany takeVal ys.length) ot2 ys stj)
            case atStart => exact ⟨[], _, _, by simp, rfl, fB0, GrR.nil _, rdr_many0 _⟩
            case round =>
              clear fB0
              obtain ⟨fys, fst, fv, fg, rfl, fB, fG, fQ⟩ := hrel
              obtain ⟨fad, fcp, rfl⟩ := fG.form
              have fO := fG.lt
              have fW := fB.bel.size
              by_cases fj : fys.length < ko
              · have fj1 : (fys.length : Int) < (ko : Int) := by omega
                have fj0 : (0 : Int) ≤ (fys.length : Int) := by omega
                have ff0 := fB.c 1
                have fc1 : wr.cell? ⟨ob, 1, none⟩ = some (.slice fad fys.length fcp) := ff0
                clear ff0
                go_wp2_with (fail)
                go_region_law
                  (first
                    | (refine step25 (by rfl) 101 (by rfl) (by rfl) ?_; refine (rfN_box fB (by omega) (by first | exact Below.refl _ _ | exact (Below.refl _ _).drew)).mono ?_; rintro e v1 ⟨vk, vt1, rfl, vR1, vB1, vK1⟩; refine ⟨_, rfl, ?_⟩; have s1 : v1.cell? ⟨ob, 1, none⟩ = some (.slice fad fys.length fcp) := vB1.c 1)
                    | (refine step25 (by rfl) 103 (by rfl) (by rfl) ?_; refine (rfN_box vB1 (by omega) (by first | exact Below.refl _ _ | exact (Below.refl _ _).drew)).mono ?_; rintro e v2 ⟨vn, vt2, rfl, vR2, vB2, vK2⟩; refine ⟨_, rfl, ?_⟩; have s2 : v2.cell? ⟨ob, 1, none⟩ = some (.slice fad fys.length fcp) := vB2.c 1; have gX := heap_alloc_new v2 (.cells #[.int .i64 vk, .int .i64 vn] 51); have gbl := bel1 v2 (.cells #[.int .i64 vk, .int .i64 vn] 51); have gH := vB2.bel.size; have gG := ((fG.rdk goodV vK1 fr).rdk goodV vK2 fr).later goodV gbl; have gB := vB2.grow fr fd (gbl.mono gH); have s3 : (v2.alloc (.cells #[.int .i64 vk, .int .i64 vn] 51)).cell? ⟨ob, 1, none⟩ = some (.slice fad fys.length fcp) := gB.c 1; have gH1 : W6.heap.size ≤ (v2.alloc (.cells #[.int .i64 vk, .int .i64 vn] 51)).heap.size := by simp; omega)
                    | (refine step_grow (by rfl) (.tmp 100) (.tmp 106) 47 (.agg #[.int .i64 0, .int .i64 0]) (by rfl) Tryz.underlying47 info51 rfl goodV gG (by rfl) v2.heap.size (by rfl) [.int .i64 vk, .int .i64 vn] rfl gX (y := ⟨vk, vn⟩) ⟨rfl, rfl⟩ (by omega) (by omega) gH1 ?_; intro ga2 gc2 gw7 gG7 gb7; have gB7 := gB.grow fr fd gb7; have gf7 : gw7.cell? ⟨ob, 1, none⟩ = some (.slice fad fys.length fcp) := gB7.c 1; have gff := row_free gB7.box))
                all_goals
                  go_wp2
                  go_roundg (ko - (fys.length + 1))
                  case measure => omega
                  case rel => exact ⟨fys ++ [⟨vk, vn⟩], _, _, by simp; omega, by simp; try go_num, gB7.set (by omega) rfl, gG7.setLo goodV fd _ _, by rw [List.length_append]; exact rdr_snoc fQ (rdr_val vR1 vR2)⟩
              · obtain rfl : ko = fys.length := by omega
                have oLL := fB.rdk oK2 (show _ ≤ ob by omega)
                have fI := fG.row (bytes := 16) goodV (by omega)
                have fz := fB.bel.size
                have fS := fB.S
                have fx2 := fB.box
                have oR := rdr_obj oR1 (rdr_list oR2 fQ)
                clear fG fQ oR1 oR2 oK2 fs fx fB
                go_upto_region 30 with (fail)
                have q0 : wr.cell? ⟨ob, 0, none⟩ = some (.int .i64 ocl) := by rw [cell_of_row _ _ _ _ _ _ fx2]; rfl
                have q1 : wr.cell? ⟨ob, 1, none⟩ = some (.slice fad fys.length fcp) := by rw [cell_of_row _ _ _ _ _ _ fx2]; rfl
                replace hB := hB.call (by omega) fS oLL
                replace hG := hG.rdk goodO oLL hr
                have hf : wr.cell? ⟨wb, 1, none⟩ = some (.slice had hys.length hcp) := hB.c 1
                have hH := hB.bel.size
                have hbl := bel1 wr (.cells #[.int .i64 ocl, .slice fad fys.length fcp] 49)
                have hX := heap_alloc_new wr (.cells #[.int .i64 ocl, .slice fad fys.length fcp] 49)
                have hG1 := hG.later goodO hbl
                have hB1 := hB.grow hr hd (hbl.mono hH)
                have hH1 : W5.heap.size ≤ (wr.alloc (.cells #[.int .i64 ocl, .slice fad fys.length fcp] 49)).heap.size := by simp; omega
                have hQQ := rdr_snoc hQ oR
                have hE := el_in (lo := W5.heap.size) (v := .slice had hys.length hcp) goodV (fun _ _ h => h) (fI.later goodV hbl) (by omega) (fun g hg => by have := hO g hg; omega)
                have hE0 : ObjC (fun b => W5.heap.size ≤ b ∧ b < (wr.alloc (.cells #[.int .i64 ocl, .slice fad fys.length fcp] 49)).heap.size ∧ some b ≠ (Value.slice had hys.length hcp).ownBlock) (wr.alloc (.cells #[.int .i64 ocl, .slice fad fys.length fcp] 49)) (fun k => [.int .i64 ocl, .slice fad fys.length fcp][k]?) ⟨ocl, fys⟩ := ⟨rfl, _, rfl, hE⟩
                clear hB hG hbl hQ
                go_wp2_with (at_builtin; refine wpList_grow rfl (.tmp 111) (.tmp 113) 23 (.agg #[.int .i64 0, .slice none 0 0]) rfl Tryz.underlying23 info49 rfl goodO hG1 rfl wr.heap.size rfl [.int .i64 ocl, .slice fad fys.length fcp] rfl hX (y := ⟨ocl, fys⟩) hE0 (by omega) (by omega) hH1 ?_; intro ha2 hc2 hw7 hG7 hb7; have hB7 := hB1.grow hr hd hb7; have hf7 : hw7.cell? ⟨wb, 1, none⟩ = some (.slice had hys.length hcp) := hB7.c 1; have hff := row_free hB7.box)
                go_roundg (kh - (hys.length + 1))
                case measure => omega
                case rel => exact ⟨hys ++ [⟨ocl, fys⟩], _, _, by simp; omega, by simp; try go_num, hB7.set (by omega) rfl, hG7.setLo goodO hd _ _, by rw [List.length_append]; exact hQQ⟩
          · obtain rfl : kh = hys.length := by omega
            have hI := hG.row (bytes := 32) goodO (by omega)
            have hz := hB.bel.size
            have hR := rdr_world pR1 bQ2 (rdr_list pR3 hQ)
            have hP : PaS w wr := ⟨(hB.K _ (blk_lt hP4.res) (by omega) (by omega)).trans hP4.res, hP4.bel.trans (hB.bel.mono (by omega))⟩
            have hC : IsClasses (fun b => w.heap.size + 2 ≤ b) wr (.slice bad bys.length bcp) bys := bI5.keep goodC (Keeps.of_block fun b hb hl => hB.K b hl (by omega) (by omega)) fun b hb => by omega
            have hH : IsHeap (fun b => w.heap.size + 2 ≤ b) wr (.slice had hys.length hcp) hys := hI.mono goodO fun b hb => by omega
            have hbx := hB.box
            obtain ⟨ws2, wa2, wc2, ok2, hrb, -, ht1, ht2⟩ := hB.S.open
            obtain ⟨HA', HB', HC'⟩ := HPE.out _ _ hR
            clear hG hQ hB hx hs hP4 bI5 pR1 pR3 bQ2 hI hR HPE
            generalize wr = W9 at *
            have z0 : W9.cell? ⟨w.heap.size, 0, none⟩ = some (.slice none 0 0) := hP.z 0
            have z1 : W9.cell? ⟨w.heap.size, 1, none⟩ = some (.slice none 0 0) := hP.z 1
            have z2 : W9.cell? ⟨w.heap.size, 2, none⟩ = some (.int .i64 0) := hP.z 2
            have zf := row_free hP.res
            have x0 : W9.cell? ⟨wb, 0, none⟩ = some (.slice bad bys.length bcp) := by rw [cell_of_row _ _ _ _ _ _ hbx]; rfl
            have x1 : W9.cell? ⟨wb, 1, none⟩ = some (.slice had hys.length hcp) := by rw [cell_of_row _ _ _ _ _ _ hbx]; rfl
            have x2 : W9.cell? ⟨wb, 2, none⟩ = some (.int .i64 ep) := by rw [cell_of_row _ _ _ _ _ _ hbx]; rfl
            have c0 : W9.cell? ⟨rb, 0, none⟩ = some (.slice wa2 ws2.length wc2) := by rw [cell_of_row _ _ _ _ _ _ hrb]; rfl
            have c1 : W9.cell? ⟨rb, 1, none⟩ = some (.bool ok2) := by rw [cell_of_row _ _ _ _ _ _ hrb]; rfl
            have HE : Hid (∀ w2, Below W9.heap.size W9 w2 → ∀ n, R = (⟨[], [], 0⟩, n) → PaPost w R.1 R.2 (.returned (.tuple #[WV (.slice none 0 0) (.slice none 0 0) 0, .int .i64 n])) (w2.setCells w.heap.size 0 [.slice none 0 0, .slice none 0 0, .int .i64 0])) := fun w2 hb n hR => by
              rw [hR]
              exact ⟨_, _, rfl, isRow_empty _ _ _ _ _, isRow_empty _ _ _ _ _, ⟨(hP.later hb).bel.os, (hP.later hb).bel.tape, (hP.later hb).bel.output, by rw [setCells_size]; exact (hP.later hb).bel.size, fun b hl => (setCells_else (by omega) _ _ _).trans ((hP.later hb).bel.block b hl)⟩⟩
            cases ok2 with
            | false =>
              have HF := hid (HE.out W9 (Below.refl _ _) 2 (HA' (ht2 rfl)))
              clear hC hH HE hbx x0 x1 x2 HA' HB' HC' ht1 ht2 hrb
              go_wp2
              refine bodyPost_ret (v := .tuple #[WV (.slice none 0 0) (.slice none 0 0) 0, .int .i64 2]) ?_ rfl HF.out
              simp [results, Tryz.results9, go_sem, z0, z1, z2]
            | true =>
              obtain ⟨-, hst⟩ := ht1 rfl
              cases ws2 with
              | cons q ws2 =>
                have hrl : (0 : Int) < ((ws2.length : Nat) : Int) + 1 := by omega
                have HF := hid (HE.out W9 (Below.refl _ _) 2 (HB' _ hst joinW_ne))
                have c0' : W9.cell? ⟨rb, 0, none⟩ = some (.slice wa2 (ws2.length + 1) wc2) := c0
                clear hC hH HE hbx x0 x1 x2 HA' HB' HC' ht1 ht2 hrb c0 hst
                go_wp2
                refine bodyPost_ret (v := .tuple #[WV (.slice none 0 0) (.slice none 0 0) 0, .int .i64 2]) ?_ rfl HF.out
                simp [results, Tryz.results9, go_sem, z0, z1, z2]
              | nil =>
                have HC := hid (HC' hst)
                have c0' : W9.cell? ⟨rb, 0, none⟩ = some (.slice wa2 0 wc2) := c0
                clear c0 HA' HB' HC' ht1 ht2 hrb hst hbx
                by_cases hre : rightE ⟨bys, hys, ep⟩ = 0
                · have hW : Calls Tryz.prog 5 #[WV (.slice bad bys.length bcp) (.slice had hys.length hcp) ep] W9 fun e w' => e = .returned (.int .i64 0) ∧ Below W9.heap.size W9 w' := by have := rright_any ⟨bys, hys, ep⟩ _ _ W9 hC hH; rw [hre] at this; exact this
                  have HF : Hid (∀ w2, Below W9.heap.size W9 w2 → PaPost w R.1 R.2 (.returned (.tuple #[WV (.slice bad bys.length bcp) (.slice had hys.length hcp) ep, .int .i64 0])) (w2.setCells w.heap.size 0 [.slice bad bys.length bcp, .slice had hys.length hcp, .int .i64 ep])) := fun w2 hb => by
                    rw [HC.out, if_pos hre]
                    have k : Keeps (fun b => w.heap.size + 2 ≤ b) w2 (w2.setCells w.heap.size 0 [.slice bad bys.length bcp, .slice had hys.length hcp, .int .i64 ep]) := Keeps.of_block fun b hb hl => setCells_else (by omega) _ _ _
                    exact ⟨_, _, rfl, (hC.later goodC hb).keep goodC k fun b hb => by omega, (hH.later goodO hb).keep goodO k fun b hb => by omega, ⟨(hP.later hb).bel.os, (hP.later hb).bel.tape, (hP.later hb).bel.output, by rw [setCells_size]; exact (hP.later hb).bel.size, fun b hl => (setCells_else (by omega) _ _ _).trans ((hP.later hb).bel.block b hl)⟩⟩
                  have HP2 := hid (fun w2 hb => hP.later (w2 := w2) hb)
                  clear hC hH HE hre HC
                  go_wp2_with (go_at_call 5; refine hW.mono ?_; rintro e w2 ⟨rfl, hb2⟩; refine Hid.out ?_)
                  refine Lib.hid ?_
                  replace z0 := cell_later hb2 z0
                  replace z1 := cell_later hb2 z1
                  replace z2 := cell_later hb2 z2
                  replace x0 := cell_later hb2 x0
                  replace x1 := cell_later hb2 x1
                  replace x2 := cell_later hb2 x2
                  clear zf
                  have zf := row_free (HP2.out w2 hb2).res
                  replace HF := hid (HF.out w2 hb2)
                  clear c0' c1 hW hb2
                  go_wp2
                  refine bodyPost_ret (v := .tuple #[WV (.slice bad bys.length bcp) (.slice had hys.length hcp) ep, .int .i64 0]) ?_ rfl HF.out
                  simp [results, Tryz.results9, go_sem, z0, z1, z2]
                · obtain ⟨n, hn⟩ : ∃ n, n = rightE ⟨bys, hys, ep⟩ := ⟨_, rfl⟩
                  have hW : Calls Tryz.prog 5 #[WV (.slice bad bys.length bcp) (.slice had hys.length hcp) ep] W9 fun e w' => e = .returned (.int .i64 n) ∧ Below W9.heap.size W9 w' := by have := rright_any ⟨bys, hys, ep⟩ _ _ W9 hC hH; rw [← hn] at this; exact this
                  have hnn : (n != 0) = true := by rw [hn]; simpa using hre
                  have HF : Hid (∀ w2, Below W9.heap.size W9 w2 → PaPost w R.1 R.2 (.returned (.tuple #[WV (.slice none 0 0) (.slice none 0 0) 0, .int .i64 n])) (w2.setCells w.heap.size 0 [.slice none 0 0, .slice none 0 0, .int .i64 0])) := fun w2 hb => HE.out w2 hb n (by rw [HC.out, if_neg hre, hn])
                  have HP2 := hid (fun w2 hb => hP.later (w2 := w2) hb)
                  clear hC hH HE hre HC hn
                  go_wp2_with (go_at_call 5; refine hW.mono ?_; rintro e w2 ⟨rfl, hb2⟩; refine Hid.out ?_)
                  refine Lib.hid ?_
                  replace z0 := cell_later hb2 z0
                  replace z1 := cell_later hb2 z1
                  replace z2 := cell_later hb2 z2
                  clear zf
                  have zf := row_free (HP2.out w2 hb2).res
                  replace HF := hid (HF.out w2 hb2)
                  clear c0' c1 hW hb2 x0 x1 x2
                  go_wp2
                  refine bodyPost_ret (v := .tuple #[WV (.slice none 0 0) (.slice none 0 0) 0, .int .i64 n]) ?_ rfl HF.out
                  simp [results, Tryz.results9, go_sem, z0, z1, z2]
end Go.Proofs.YtjmidhghiahbaaaGreatDoor

/- WireTells: the law's walk, for texts of 1048576 bytes at the most. -/
namespace Go.Proofs.YtjmidhghiahbaaaGreatDoor
open Go.ChangeShapes Go.WideShapes Go.ChangeAt Go.RowKit
set_option linter.unusedSimpArgs false
set_option linter.unusedVariables false
set_option maxRecDepth 8000

/-- A world's box. -/
structure LwS (w : World) (X : QW) (cv hv : Value) (w' : World) : Prop where
  c0 : w'.cell? ⟨w.heap.size, 0, none⟩ = some cv
  c1 : w'.cell? ⟨w.heap.size, 1, none⟩ = some hv
  c2 : w'.cell? ⟨w.heap.size, 2, none⟩ = some (.int .i64 X.epoch)
  cls : IsClasses (fun _ => True) w' cv X.classes
  heap : IsHeap (fun _ => True) w' hv X.heap
  vars : Vars w'
  bel : Below w.heap.size w w'
theorem LwS.later {w : World} {X : QW} {cv hv : Value} {w' w2 : World} (h : LwS w X cv hv w') (hb : Below w'.heap.size w' w2) : LwS w X cv hv w2 := ⟨cell_later hb h.c0, cell_later hb h.c1, cell_later hb h.c2, h.cls.later goodC hb, h.heap.later goodO hb, h.vars.later hb, nstep h.bel hb⟩
theorem lws_start {P : Nat → Prop} {w : World} {X : QW} {cv hv : Value} (hh : IsClasses P w cv X.classes) (hH : IsHeap P w hv X.heap) (hV : Vars w) : LwS w X cv hv (w.alloc (.cells #[cv, hv, .int .i64 X.epoch] 25)) :=
  ⟨cell_new _ _ _ _ rfl 0, cell_new _ _ _ _ rfl 1, cell_new _ _ _ _ rfl 2, (hh.mono goodC fun _ _ => trivial).later goodC (bel1 _ _), (hH.mono goodO fun _ _ => trivial).later goodO (bel1 _ _), hV.later (bel1 _ _), bel1 _ _⟩
theorem LwS.al {w : World} {X : QW} {cv hv : Value} {w' : World} (h : LwS w X cv hv w') : w'.cell? ⟨w.heap.size, 0, none⟩ = some cv ∧ w'.cell? ⟨w.heap.size, 1, none⟩ = some hv ∧ w'.cell? ⟨w.heap.size, 2, none⟩ = some (.int .i64 X.epoch) := ⟨h.c0, h.c1, h.c2⟩
theorem LwS.drew {w : World} {X : QW} {cv hv : Value} {w' : World} (h : LwS w X cv hv w') : LwS w X cv hv w'.drew := h.later (Below.refl _ _).drew
set_option maxHeartbeats 4000000 in
theorem tells_any {P : Nat → Prop} (X : QW) (l : List UInt8) (cv hv v : Value) (w : World) (hh : IsClasses P w cv X.classes) (hH : IsHeap P w hv X.heap) (hI : BytesIn w v l) (hV : Vars w) (hll : l.length ≤ 1048576) : Calls Tryz.prog 3 #[WV cv hv X.epoch, v] w fun e w' => e = .returned (.bool true) ∧ Below w.heap.size w w' := by
  obtain ⟨ac, cc, rfl⟩ := hh.get
  obtain ⟨ah, ch, rfl⟩ := hH.get
  obtain ⟨ab, kb, rfl, -⟩ := id hI
  have hS := lws_start hh hH hV
  replace hI := hI.later (bel1 w (.cells #[.slice ac X.classes.length cc, .slice ah X.heap.length ch, .int .i64 X.epoch] 25))
  clear hh hH hV
  have hR4 : ∀ (w' : World), LwS w X (.slice ac X.classes.length cc) (.slice ah X.heap.length ch) w' → Calls Tryz.prog 4 #[WV (.slice ac X.classes.length cc) (.slice ah X.heap.length ch) X.epoch] w' fun e w2 => e = .returned (.int .i64 (rightE X)) ∧ Below w'.heap.size w' w2 := fun w' h => wright_any X _ _ w' h.cls h.heap
  have hR5 : ∀ (w' : World), LwS w X (.slice ac X.classes.length cc) (.slice ah X.heap.length ch) w' → Calls Tryz.prog 5 #[WV (.slice ac X.classes.length cc) (.slice ah X.heap.length ch) X.epoch] w' fun e w2 => e = .returned (.int .i64 (rightE X)) ∧ Below w'.heap.size w' w2 := fun w' h => rright_any X _ _ w' h.cls h.heap
  go_enter Tryz.func3, Tryz.ntmps3
  go_upto_region 1 with (fail)
  generalize (w.alloc (.cells #[.slice ac X.classes.length cc, .slice ah X.heap.length ch, .int .i64 X.epoch] 25)) = W0 at *
  have hB6 : rightE X = 0 → ∀ (w' : World), LwS w X (.slice ac X.classes.length cc) (.slice ah X.heap.length ch) w' → Calls Tryz.prog 6 #[WV (.slice ac X.classes.length cc) (.slice ah X.heap.length ch) X.epoch] w' fun e w2 => ∃ a k, e = .returned (.slice a (worldW X).length k) ∧ (∀ w3, Below w2.heap.size w2 w3 → (convert 26 9 (.slice a (worldW X).length k)).run Tryz.prog w3 = .ok (SV (worldW X)) w3) ∧ Below w'.heap.size w' w2 := fun hr w' h => by
    refine (bytes_any X _ _ w' h.cls h.heap hr h.vars.tab).mono ?_
    rintro e w2 ⟨v2, rfl, hT, hb⟩
    have hI := hT.bytes (Nat.le_trans (worldW_len hr) (by decide))
    obtain ⟨a, k, rfl, -⟩ := id hT
    exact ⟨a, k, rfl, fun w3 h3 => (hI.later h3).conv, hb⟩
  have hT7 : rightE X = 0 → ∀ (w' : World), LwS w X (.slice ac X.classes.length cc) (.slice ah X.heap.length ch) w' → Calls Tryz.prog 7 #[WV (.slice ac X.classes.length cc) (.slice ah X.heap.length ch) X.epoch] w' fun e w2 => e = .returned (SV (worldW X)) ∧ Below w'.heap.size w' w2 := fun hr w' h => text_any X _ _ w' h.cls h.heap hr h.vars
  go_cut [13] (fun s wx => s = .bool false ∧ LwS w X (.slice ac X.classes.length cc) (.slice ah X.heap.length ch) wx ∧ BytesIn wx (.slice ab l.length kb) l)
  case first =>
    clear hB6 hT7
    have hS0 := hS.drew
    have hI0 := hI.later (Below.refl _ W0).drew
    generalize rightE X = r at *
    clear hS hI
    go_region_held3 (fun w' => w'.cell? ⟨w.heap.size, 0, none⟩ = some (.slice ac X.classes.length cc) ∧ w'.cell? ⟨w.heap.size, 1, none⟩ = some (.slice ah X.heap.length ch) ∧ w'.cell? ⟨w.heap.size, 2, none⟩ = some (.int .i64 X.epoch))
      (first | with_reducible exact hS0.al | with_reducible exact hS5.al | with_reducible exact hS6.al)
      (first
        | (go_at_call 4; refine (hR4 _ hS0).mono ?_; rintro e w5 ⟨rfl, hb5⟩; have hS5 := hS0.later hb5; have hI5 := hI0.later hb5)
        | (go_at_call 5; refine (hR5 _ hS5).mono ?_; rintro e w6 ⟨rfl, hb6⟩; have hS6 := hS5.later hb6; have hI6 := hI5.later hb6))
    go_wp2_with (fail)
    go_meet
    case rel => exact ⟨by simp, hS6, hI6⟩
  case rest =>
    clear hS hI hR4
    obtain ⟨rfl, hS, hI⟩ := hcut
    go_wp2_with (fail)
    go_cut [24] (fun s wx => s = .bool false ∧ LwS w X (.slice ac X.classes.length cc) (.slice ah X.heap.length ch) wx ∧ BytesIn wx (.slice ab l.length kb) l)
    case first =>
      have hS0 := hS.drew
      have hI0 := hI.later (Below.refl _ _).drew
      obtain ⟨d0, d1, d2⟩ := hS0.al
      by_cases hr : rightE X = 0
      · replace hB6 := hB6 hr
        replace hT7 := hT7 hr
        rw [hr] at hR5
        generalize worldW X = T at *
        clear hS hI hr
        go_region_with (first
          | (go_at_call 5; refine (hR5 _ hS0).mono ?_; rintro e w5 ⟨rfl, hb5⟩; have hS5 := hS0.later hb5; have hI5 := hI0.later hb5; obtain ⟨e0, e1, e2⟩ := hS5.al)
          | (go_at_call 6; refine (hB6 _ hS5).mono ?_; rintro e w6 ⟨a8, k8, rfl, hcv8, hb6⟩; have hS6 := hS5.later hb6; have hI6 := hI5.later hb6; obtain ⟨f0, f1, f2⟩ := hS6.al; have hcA := hcv8 _ (Below.refl _ _))
          | (go_at_call 7; refine (hT7 _ hS6).mono ?_; rintro e w7 ⟨rfl, hb7⟩; have hS7 := hS6.later hb7; have hI7 := hI6.later hb7; have hcB := hcv8 _ hb7))
        all_goals
          go_wp2_with (fail)
          go_meet
          case rel => exact ⟨by simp, hS7, hI7⟩
      · have hr' : (rightE X == 0) = false := by simpa using hr
        generalize rightE X = r at *
        clear hB6 hT7 hS hI hr
        go_region_with (first
          | (go_at_call 5; refine (hR5 _ hS0).mono ?_; rintro e w5 ⟨rfl, hb5⟩; have hS5 := hS0.later hb5; have hI5 := hI0.later hb5))
        all_goals
          go_wp2_with (fail)
          go_meet
          case rel => exact ⟨rfl, hS5, hI5⟩
    case rest =>
      clear hS hI hR5 hB6 hT7
      obtain ⟨rfl, hS, hI⟩ := hcut
      have hP := fun w' hI' hV' => parse_any l (.slice ab l.length kb) w' hI' hV'
      have hQ := fun w' hI' hV' => rparse_any l (.slice ab l.length kb) w' hI' hV' hll
      generalize parseE l = R at *
      obtain ⟨Y, n⟩ := R
      go_wp2_with (go_at_call 8; refine (hP _ hI hS.vars).mono ?_; rintro e w3 ⟨cv3, hv3, rfl, hC3, hH3, hb3⟩; refine Hid.out ?_)
      refine Lib.hid ?_
      obtain ⟨a3, k3, rfl⟩ := hC3.get
      obtain ⟨a4, k4, rfl⟩ := hH3.get
      (try dsimp only at hC3 hH3)
      have hb3' := nstep hb3 (bel1 w3 (.cells #[.slice a3 Y.classes.length k3, .slice a4 Y.heap.length k4, .int .i64 Y.epoch] 25))
      have hx3 := heap_alloc_new w3 (.cells #[.slice a3 Y.classes.length k3, .slice a4 Y.heap.length k4, .int .i64 Y.epoch] 25)
      replace hC3 := (hC3.mono (Q := fun _ => True) goodC fun _ _ => trivial).later goodC (bel1 w3 (.cells #[.slice a3 Y.classes.length k3, .slice a4 Y.heap.length k4, .int .i64 Y.epoch] 25))
      replace hH3 := (hH3.mono (Q := fun _ => True) goodO fun _ _ => trivial).later goodO (bel1 w3 (.cells #[.slice a3 Y.classes.length k3, .slice a4 Y.heap.length k4, .int .i64 Y.epoch] 25))
      replace hS := hS.later hb3'
      replace hI := hI.later hb3'
      clear hb3 hb3' hP
      go_upto_region 6 with (fail)
      generalize (w3.alloc (.cells #[.slice a3 Y.classes.length k3, .slice a4 Y.heap.length k4, .int .i64 Y.epoch] 25)) = V at *
      generalize w3.heap.size = B at *
      go_wp2_with (go_at_call 9; refine (hQ _ hI hS.vars).mono ?_; rintro e w4 ⟨cv5, hv5, rfl, hC5, hH5, hb5⟩; refine Hid.out ?_)
      refine Lib.hid ?_
      obtain ⟨a5, k5, rfl⟩ := hC5.get
      obtain ⟨a6, k6, rfl⟩ := hH5.get
      (try dsimp only at hC5 hH5)
      have hb5' := nstep hb5 (bel1 w4 (.cells #[.slice a5 Y.classes.length k5, .slice a6 Y.heap.length k6, .int .i64 Y.epoch] 25))
      have hx5 := heap_alloc_new w4 (.cells #[.slice a5 Y.classes.length k5, .slice a6 Y.heap.length k6, .int .i64 Y.epoch] 25)
      replace hC5 := (hC5.mono (Q := fun _ => True) goodC fun _ _ => trivial).later goodC (bel1 w4 (.cells #[.slice a5 Y.classes.length k5, .slice a6 Y.heap.length k6, .int .i64 Y.epoch] 25))
      replace hH5 := (hH5.mono (Q := fun _ => True) goodO fun _ _ => trivial).later goodO (bel1 w4 (.cells #[.slice a5 Y.classes.length k5, .slice a6 Y.heap.length k6, .int .i64 Y.epoch] 25))
      replace hx3 := (hb5'.block _ (blk_lt hx3)).trans hx3
      replace hC3 := hC3.later goodC hb5'
      replace hH3 := hH3.later goodO hb5'
      replace hS := hS.later hb5'
      clear hb5 hb5' hQ hI
      go_upto_region 7 with (fail)
      generalize (w4.alloc (.cells #[.slice a5 Y.classes.length k5, .slice a6 Y.heap.length k6, .int .i64 Y.epoch] 25)) = V2 at *
      generalize w4.heap.size = B2 at *
      have x0 : V2.cell? ⟨B, 0, none⟩ = some (.slice a3 Y.classes.length k3) := by rw [cell_of_row _ _ _ _ _ _ hx3]; rfl
      have x1 : V2.cell? ⟨B, 1, none⟩ = some (.slice a4 Y.heap.length k4) := by rw [cell_of_row _ _ _ _ _ _ hx3]; rfl
      have x2 : V2.cell? ⟨B, 2, none⟩ = some (.int .i64 Y.epoch) := by rw [cell_of_row _ _ _ _ _ _ hx3]; rfl
      have y0 : V2.cell? ⟨B2, 0, none⟩ = some (.slice a5 Y.classes.length k5) := by rw [cell_of_row _ _ _ _ _ _ hx5]; rfl
      have y1 : V2.cell? ⟨B2, 1, none⟩ = some (.slice a6 Y.heap.length k6) := by rw [cell_of_row _ _ _ _ _ _ hx5]; rfl
      have y2 : V2.cell? ⟨B2, 2, none⟩ = some (.int .i64 Y.epoch) := by rw [cell_of_row _ _ _ _ _ _ hx5]; rfl
      have hSm := same_any Y _ _ _ _ V2 hC3 hH3 hC5 hH5
      have HB := hid hS.bel
      clear hx3 hx5 hC3 hH3 hC5 hH5 hS
      go_wp2_with (go_at_call 10; refine hSm.mono ?_; rintro e w6 ⟨rfl, hb6⟩)
      go_ret
      exact ⟨rfl, nstep HB.out hb6⟩
end Go.Proofs.YtjmidhghiahbaaaGreatDoor

/- What the program's own text lays: strconv's table and errors; a slice of bytes, read. -/
namespace Go.Proofs.YtjmidhghiahbaaaGreatDoor
open Go.ChangeShapes Go.WideShapes Go.ChangeAt Go.RowKit
set_option linter.unusedSimpArgs false
set_option linter.unusedVariables false
set_option maxRecDepth 8000

theorem gPow : Tryz.prog.globalNamed "internal/strconv.uint64pow10" = some 0 := by kernel_rfl
theorem gPowT : (Tryz.prog.globals[0]?).map (·.type) = some 142 := by kernel_rfl
theorem gSyn : Tryz.prog.globalNamed "strconv.ErrSyntax" = some 1 := by kernel_rfl
theorem gSynT : (Tryz.prog.globals[1]?).map (·.type) = some 94 := by kernel_rfl
theorem gRng : Tryz.prog.globalNamed "strconv.ErrRange" = some 2 := by kernel_rfl
theorem gRngT : (Tryz.prog.globals[2]?).map (·.type) = some 94 := by kernel_rfl
theorem cells161 : Tryz.prog.cellsOf 161 = 1 := by kernel_rfl
theorem cellsOf9 : Tryz.prog.cellsOf 9 = 1 := by kernel_rfl
theorem cells142 : Tryz.prog.cellsOf 142 = 20 := by kernel_rfl
theorem cells118 : Tryz.prog.cellsOf 118 = 1 := by kernel_rfl
theorem cellsOf5 : Tryz.prog.cellsOf 5 = 1 := by kernel_rfl
theorem bytesOf5 : Tryz.prog.bytesOf 5 = 1 := by kernel_rfl
theorem starE : "*" ++ "errors.errorString" = "*errors.errorString" := by decide
theorem row159 (u : TypeId) (h : Tryz.prog.typeName? 3 u = some "*errors.errorString") : u = 159 :=
  typeName_ptr_named (nm := "errors.errorString") (by rw [starE]; kernel_rfl) (by kernel_rfl) (by decide) u (by rw [starE]; exact h)
def laid5 : List (String × DataW Unit) := [("math/bits.deBruijn32tab", Rows.laid_math_bits_deBruijn32tab), ("math/bits.deBruijn64tab", Rows.laid_math_bits_deBruijn64tab), ("internal/strconv.uint64pow10", Rows.laid_internal_strconv_uint64pow10), ("strconv.ErrRange", Rows.laid_strconv_ErrRange), ("strconv.ErrSyntax", Rows.laid_strconv_ErrSyntax)]
theorem vars_of_laid {W : World} (h : laidMetH Tryz.prog laid5 W) : Vars W := by
  rw [MakeChecks.laidMetH_plain _ _ _ (by kernel_rfl)] at h
  have h2 : laidMet Tryz.prog (("internal/strconv.uint64pow10", Lib.tabData .u64 Lib.pow10Tab) :: [("strconv.ErrRange", Rows.laid_strconv_ErrRange), ("strconv.ErrSyntax", Rows.laid_strconv_ErrSyntax)]) W := h.tail.tail
  obtain ⟨a0, s0, hv0, -, -, -⟩ := laid_sentinel h2.tail gRng gRngT Tryz.underlying94 row159 Tryz.underlying159 Tryz.underlying161 rfl rfl Tryz.underlying9 cells161 cellsOf9
  obtain ⟨a1, s1, hv1, -, -, -⟩ := laid_sentinel h2.tail.tail gSyn gSynT Tryz.underlying94 row159 Tryz.underlying159 Tryz.underlying161 rfl rfl Tryz.underlying9 cells161 cellsOf9
  exact ⟨⟨_, _, hv1⟩, ⟨_, _, hv0⟩, Lib.tabIs_of_head gPow gPowT Tryz.underlying142 Tryz.underlying118 cells118 cells142 h2⟩
/-- How much is counted at the least. -/
theorem bulk_len {H : Type} : ∀ l : List (DataW H), l.length ≤ Rows.uptoBulkAll l
  | [] => by simp
  | d :: r => by
    have ih := bulk_len r
    have h1 : 1 ≤ Rows.uptoBulk d := by
      cases d with
      | lit l => cases l <;> simp [Rows.uptoBulk]
      | nil => simp [Rows.uptoBulk]
      | ptr d => simp [Rows.uptoBulk]
      | slice elems spare => simp [Rows.uptoBulk]
      | agg parts => simp [Rows.uptoBulk]
      | iface t d => simp [Rows.uptoBulk]
      | map entries => simp [Rows.uptoBulk]
      | held h => simp [Rows.uptoBulk]
    simp only [Rows.uptoBulkAll, List.length_cons]
    omega
section
variable {H : Type} {enc : TypeId × Value → H} {w : World} {base : Nat} {spare : Nat → Bool} {held : Bool}
theorem open_bytesIn {r : Reach} {b0 : Nat} {v : Value} {d : DataW H} {p : List MemPlace} (hv : Value.okWide Tryz.prog w r b0 26 v) (h : DataW.Trod enc Tryz.prog w base spare held 26 v d p) (hw : ∀ n ∈ d.weights Tryz.prog 26, n ≤ 140737488351232) : ∃ l, BytesIn w v l ∧ l.length ≤ Rows.uptoBulk d := by
  obtain ⟨a1, len, cap, rfl⟩ := okWide_slice Tryz.underlying26 hv
  obtain ⟨fuel, hf⟩ := h
  rcases open_ints Tryz.underlying26 Tryz.underlying5 cellsOf5 hf with ⟨hcs, hx⟩ | ⟨a, len', cap', zs, hcs, _, hl, hm, hz, hx, hcell, hwz⟩
  · simp [Value.cells] at hcs
    obtain ⟨rfl, rfl, rfl⟩ := hcs
    exact ⟨[], ⟨none, 0, rfl, by simp, by unfold maxLen; omega, fun _ => rfl, by simp, fun i x hx => by simp at hx⟩, by simp⟩
  · simp [Value.cells] at hcs
    obtain ⟨rfl, rfl, rfl⟩ := hcs
    simp only [Prod.mk.injEq] at hx
    obtain ⟨rfl, rfl⟩ := hx
    have hzl : len ≤ zs.length := by rw [hz]; split <;> omega
    have hlen : ((zs.take len).map fun n => UInt8.ofNat n.toNat).length = len := by simp; omega
    have hbd : len ≤ 140737488351232 := by
      have := hw (((lits .u8 (zs.take len) : List (DataW H)).length + (lits .u8 (zs.drop len) : List (DataW H)).length) * Tryz.prog.bytesOf 5) (by simp [DataW.weights, Tryz.underlying26])
      rw [bytesOf5] at this
      simp [lits] at this
      omega
    refine ⟨(zs.take len).map fun n => UInt8.ofNat n.toNat, ⟨some a, cap, by rw [hlen], by omega, hm, (fun e => by cases e), by omega, fun i x hx => ?_⟩, ?_⟩
    rotate_left
    · rw [hlen]
      have := bulk_len (lits .u8 (zs.take len) : List (DataW H))
      simp only [lits, List.length_map, List.length_take] at this
      simp only [Rows.uptoBulk, lits]
      omega
    have hi := lt_of_get hx
    rw [hlen] at hi
    obtain ⟨ab, ao, spot⟩ := a
    have hspot : spot = none := by simpa [Addr.add] using World.cell?_spot (hcell 0 (by omega))
    subst hspot
    have hcj := hcell i (by omega)
    rw [Addr.add_lit] at hcj
    refine ⟨ab, ao, rfl, World.block_lt_of_cell? w _ hcj, ?_⟩
    rw [hcj]
    have hb := range_u8 hwz i
    have e : zs.getD i 0 = zs[i]'(by omega) := by simp [List.getD, List.getElem?_eq_getElem (show i < zs.length by omega)]
    rw [List.getElem?_map, List.getElem?_take, if_pos hi, List.getElem?_eq_getElem (show i < zs.length by omega)] at hx
    simp only [Option.map_some, Option.some.injEq] at hx
    subst hx
    rw [List.getElem?_eq_getElem (show i < zs.length by omega), Option.getD_some] at hb
    rw [e]
    congr 2
    simp only [UInt8.toNat_ofNat']
    omega
end
end Go.Proofs.YtjmidhghiahbaaaGreatDoor

/- WireTells: Right and the reference's, Bytes and the document's text, Parse and the document's reader agree. For inputs of bulk 1048576 at the most; strconv's table and errors as the program's own text lays them. -/
namespace Go.Proofs.YtjmidhghiahbaaaGreatDoor
open Go.ChangeShapes Go.WideShapes Go.ChangeAt Go.RowKit
set_option linter.unusedSimpArgs false
set_option linter.unusedVariables false
set_option maxRecDepth 8000

/-- The heap that the program's own initialisers leave meets the condition. -/
theorem door_met (os : Os) (args : Array Value) : laidMetH Tryz.prog laid5 ((World.doorLaid Tryz.prog 400 os).forCall (fun _ _ => 0) ⟨#[], args, []⟩).memory :=
  laidMetH_of_parts3 (fuel := 8) (laidMet_of_run' 8 (by kernel_rfl) (by kernel_rfl)) (by kernel_rfl) (by kernel_rfl)
theorem wt_reads (os : Os) {H : Type} (enc : TypeId × Value → H) : ∃ places, DataW.whole enc Tryz.prog ((World.doorLaid Tryz.prog 400 os).forCall (fun _ _ => 0) ⟨#[], #[WV (.slice none 0 0) (.slice none 0 0) 0, .slice none 0 0], []⟩).memory Tryz.f3.params.toList (Rows.OpenSpec.upto Rows.wireTellsSpec).vars false #[WV (.slice none 0 0) (.slice none 0 0) 0, .slice none 0 0].toList 8 = some ([.agg [.nil, .nil, .lit (.int .i64 0)], .nil], [], places) :=
  ⟨[], by kernel_rfl⟩
set_option maxRecDepth 100000 in
theorem wt_lifted (os : Os) (started : os.Started) (H : Type) (enc : TypeId × Value → H) (F : Stop.Interp) :
    ReturnsInHanded {} Tryz.checked os 3 .any ((Rows.OpenSpec.upto Rows.wireTellsSpec).preRow enc Tryz.prog Tryz.f3 Rows.wireTellsUptoRow.domain false Rows.wireTellsUptoRow.laid) (((Rows.OpenSpec.upto Rows.wireTellsSpec).at F).post enc Tryz.prog Tryz.f3 false true false false) := by
  obtain ⟨places, hx⟩ := wt_reads os enc
  refine returnsInHanded_of_row (C := Tryz.checked) (s := Rows.OpenSpec.upto Rows.wireTellsSpec) own started (by kernel_rfl) Tryz.func3
    (witness_row_atRef (enc := enc) (C := Tryz.checked) false (World.doorLaid Tryz.prog 400 os) #[WV (.slice none 0 0) (.slice none 0 0) 0, .slice none 0 0] rfl (by kernel_rfl) (by kernel_rfl) (by kernel_rfl)
      (OpenSpec.preRow_of_cond 8 hx (by kernel_rfl) (fun k hk => by cases hk; kernel_rfl) (by kernel_rfl) (door_met os _))) ?_
  intro W base args ds gs before hval0 hW _ hcnd hsz0 hL _ _
  have hval : ∀ (j : Nat) t v, Tryz.f3.params[j]? = some t → args[j]? = some v → Value.okWide Tryz.prog W .any base t v := hval0
  have hsz : (DataW.weightsEach Tryz.prog (Tryz.f3.params.toList ++ (Rows.OpenSpec.upto Rows.wireTellsSpec).bare.plain.varTypes Tryz.prog) (ds ++ gs)).all (· ≤ reachBytes) = true := hsz0
  have hk0 := hcnd _ rfl
  have hW' := hW
  obtain ⟨p, q, hA0, hV, rfl, hfz, hnd⟩ := hW
  have hA : DataW.TrodAll enc Tryz.prog W 0 (fun _ => true) true Tryz.f3.params.toList args.toList ds p := hA0
  rw [Tryz.params3] at hA hval hsz
  obtain ⟨v0, vs0, d0, ds0, p0, q0, hargs, rfl, rfl, h0, r0⟩ := trodAll_cons hA
  obtain ⟨v1, vs1, d1, ds1, p1, q1, rfl, rfl, rfl, h1, r1⟩ := trodAll_cons r0
  obtain ⟨rfl, rfl, rfl⟩ := trodAll_nil r1
  obtain rfl : args = #[v0, v1] := by cases args; simp_all
  obtain ⟨rfl, rfl⟩ := trodVars_none hV
  have lt : ∀ {t : TypeId} {v : Value} {d : DataW H} {p : List MemPlace}, DataW.Trod enc Tryz.prog W 0 (fun _ => true) true t v d p → ∀ x ∈ p, x.block < W.heap.size := fun h => by obtain ⟨m, hm⟩ := h; exact DataW.trod_lt m _ _ _ hm
  have big : ∀ {j : Nat} {t : TypeId} {d : DataW H}, ([25, 26] : List TypeId)[j]? = some t → [d0, d1][j]? = some d → ∀ n ∈ d.weights Tryz.prog t, n ≤ 140737488351232 := fun {j t d} ht hd n hn => by
    have := List.all_eq_true.1 hsz _ (DataW.weights_mem_each (j := j) (t := t) (by exact ht) (by exact hd) n hn)
    exact of_decide_eq_true this
  have hk : Rows.uptoBulkAll [d0, d1] ≤ 1048576 := by
    have := of_decide_eq_true hk0
    simpa using this
  simp only [Rows.uptoBulkAll] at hk
  have k0 := h0
  have k1 := h1
  obtain ⟨X0, cv0, hv0, rfl, hC0, hH0⟩ := open_world (hval 0 25 v0 rfl rfl) h0 (big (j := 0) rfl rfl)
  obtain ⟨l1, hI1, hb1⟩ := open_bytesIn (hval 1 26 v1 rfl rfl) h1 (big (j := 1) rfl rfl)
  clear hA0 hval0
  refine (tells_any X0 l1 _ _ _ W hC0 hH0 hI1 (vars_of_laid hL) (by omega)).mono fun e W' ⟨he, bel⟩ => ?_
  subst he
  have again : ∀ {t : TypeId} {v : Value} {d : DataW H} {p : List MemPlace}, Tryz.prog.readableRec t = true → t < Tryz.prog.types.size → DataW.Trod enc Tryz.prog W 0 (fun _ => true) true t v d p → DataW.Trod enc Tryz.prog W' 0 (fun b => decide (b < W.heap.size)) true t v d p := fun hr ht h => Below.trod laidOut hr ht h bel (lt h)
  exact ⟨_, rfl, _, _, _, [], _, [], hW', trodAll_mk1 (shut_bool Tryz.underlying4 _), (trodAll_cons_mk (again (by kernel_rfl) (of_decide_eq_true (by kernel_rfl)) k0) (trodAll_cons_mk (again (by kernel_rfl) (of_decide_eq_true (by kernel_rfl)) k1) trodAll_mk0)), rfl, bel.frame _, fun h => by cases h⟩

theorem wt_over : Rows.WireTellsUptoSaid :=
  OpenClaim.holds_of_cond 3 Tryz.f3 rfl rfl rfl rfl rfl rfl rfl ⟨rfl, rfl, rfl, rfl, rfl⟩ rfl rfl rfl rfl rfl (by kernel_rfl) Tryz.func3 (by kernel_rfl)
    (of_decide_eq_true (by kernel_rfl)) (by unfold Func.isWrapper; first | (rw [if_pos (by decide +kernel)]; kernel_rfl) | (rw [if_neg (by decide +kernel)]; exact ⟨rfl, rfl⟩))
    (fun os started H enc _ F => by rw [OpenClaim.pre_eq_preRow]; exact wt_lifted os started H enc F)

/-- The statement: the card, with its bound. -/
theorem wireTellsUpto_holds : Rows.WireTellsUptoCardSaid :=
  Claim7.holds_tied_plain_at .later [] _ _ _ _ wt_over (fun _ h => by cases h) (by kernel_rfl) (fun _ h => by cases h) wireTellsUpto_row_tie rfl ⟨rfl, rfl⟩ (by kernel_rfl) rfl
    (fun f fn hf hfn => by
      obtain rfl : f = 3 := Option.some.inj ((show Tryz.prog.funcNamed "quickchange/qclaw4.WireTells" = some 3 by kernel_rfl).symm.trans hf) |>.symm
      obtain rfl : fn = Tryz.f3 := (Option.some.inj (Tryz.func3.symm.trans hfn)).symm
      refine ⟨by kernel_rfl, fun j t ht => ?_⟩
      rw [Tryz.params3] at ht
      have hm := Array.mem_of_getElem? ht
      simp only [List.mem_toArray, List.mem_cons, List.not_mem_nil, or_false] at hm
      rcases hm with rfl | rfl
      · exact (show Tryz.prog.wantsStandIn 25 = false by kernel_rfl)
      · exact (show Tryz.prog.wantsStandIn 26 = false by kernel_rfl))
    (by kernel_rfl)
#print axioms wireTellsUpto_holds
end Go.Proofs.YtjmidhghiahbaaaGreatDoor

