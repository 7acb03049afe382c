/- The document's own text of a world (package qcref1: Text). -/
import Derived.Test.YtjmidhghiahbaaaGreatDoorWk
import Derived.Laws.Concat
import Derived.Deep.RegionWith
namespace Go.Proofs.YtjmidhghiahbaaaGreatDoor
open Go.ChangeShapes Go.WideShapes Go.ChangeAt Go.RowKit
set_option linter.unusedSimpArgs false
set_option linter.unusedVariables false
set_option maxRecDepth 8000

abbrev SV (l : List UInt8) : Value := .string ⟨l.toArray⟩
/-- Block bs holds the text l. -/
structure TxS (bs : Nat) (w : World) (l : List UInt8) : Prop where
  box : w.heap[bs]? = some (.cells #[SV l] 9 (0, 0))
  vars : VarsB bs w
theorem TxS.lt {bs : Nat} {w : World} {l : List UInt8} (h : TxS bs w l) : bs < w.heap.size := blk_lt h.box
theorem TxS.later {bs : Nat} {w w' : World} {l : List UInt8} (h : TxS bs w l) (hb : Below w.heap.size w w') : TxS bs w' l := ⟨(hb.block _ h.lt).trans h.box, h.vars.on (hb.mono (Nat.le_of_lt h.lt))⟩
theorem TxS.set {bs : Nat} {w : World} {l : List UInt8} (h : TxS bs w l) (l' : List UInt8) : TxS bs (w.setCell ⟨bs, 0, none⟩ (SV l')) l' := ⟨by rw [setCell_same h.box]; rfl, h.vars.on ((RdK.refl bs w).set _ _).bel⟩
theorem str3 (a b : List UInt8) : Value.string (ByteArray.mk a.toArray ++ ByteArray.mk b.toArray ++ ByteArray.mk #[32]) = SV (a ++ (b ++ [32])) := by
  rw [ByteArray.mk_append_mk, ← List.append_assoc]
  have := ByteArray.mk_append_mk (a ++ b) [32]
  exact congrArg Value.string this
def numsW (ks : List Int) : List UInt8 := manyW numW ks
set_option maxHeartbeats 1000000 in
theorem tn_any {bs g : Nat} {w : World} {l : List UInt8} (ks : List Int) (hk : ∀ k ∈ ks, I64 k) (hl : ks.length ≤ 10) (hlim : l.length + 1000 ≤ 140737488355328) (h : TxS bs w l) (hg : w.heap[g]? = some (.cells (ks.map fun k => Value.int .i64 k).toArray 3 (0, 0))) (hne : g ≠ bs) :
    Calls Tryz.prog 21 #[.slice (some ⟨g, 0, none⟩) ks.length ks.length, .pointer (some ⟨bs, 0, none⟩)] w fun e w' => e = .returned (.tuple #[]) ∧ TxS bs w' (l ++ numsW ks) ∧ RdK bs w w' := by
  have hgl := blk_lt hg
  go_enter Tryz.func21, Tryz.ntmps21
  go_wp2_with (fail)
  go_loopg [7] ks.length (fun q c wr => ∃ j : Nat, j + q = ks.length ∧ c = .int .i64 j ∧ TxS bs wr (l ++ numsW (ks.take j)) ∧ RdK bs w wr)
  case atStart => exact ⟨0, by omega, rfl, by simpa [numsW, manyW] using h, .refl _ _⟩
  case round =>
    obtain ⟨j, hq, rfl, hT, hK⟩ := hrel
    by_cases hj : j < ks.length
    · have hj1 : (j : Int) < (ks.length : Int) := by omega
      have hj0 : (0 : Int) ≤ (j : Int) := by omega
      obtain ⟨k, hx⟩ : ∃ k, ks[j]? = some k := ⟨_, List.getElem?_eq_getElem hj⟩
      have hg2 := (hK.oth g hgl hne).trans hg
      have v0 : wr.cell? ⟨g, j, none⟩ = some (.int .i64 k) := by rw [cell_of_row _ _ _ _ _ _ hg2]; simp [hx]
      have hI := hk k (List.mem_of_getElem? hx)
      have hn1 := manyW_take (enc := numW) (k := 22) hl (fun y hy => numW_len (hk y hy)) j
      have hn2 := Lib.itoa_length_le k hI.1 hI.2
      have hn3 : (l ++ numsW (ks.take j)).length ≤ l.length + 220 := by rw [List.length_append]; unfold numsW; omega
      have HL : Hid (l ++ numsW (ks.take (j + 1)) = l ++ numsW (ks.take j) ++ (Lib.itoa k ++ [32])) := by show _ = _; unfold numsW; rw [manyW_succ hx]; unfold numW; simp
      have s0 : wr.cell? ⟨bs, 0, none⟩ = some (SV (l ++ numsW (ks.take j))) := by rw [cell_of_row _ _ _ _ _ _ hT.box]; rfl
      have sf := row_free hT.box
      have hIt : ∀ w', Below wr.heap.size wr w' → Calls Tryz.prog 22 #[.int .i64 k] w' fun e w2 => e = .returned (SV (Lib.itoa k)) ∧ w2.cell? ⟨bs, 0, none⟩ = some (SV (l ++ numsW (ks.take j))) ∧ (∀ o, w2.frozen? ⟨bs, o, none⟩ = false) ∧ Below wr.heap.size wr w2 := fun w' hb => by
        refine (strconv_Itoa k hI.1 hI.2 w' (hT.later hb).vars.here.tab).mono ?_
        rintro e w2 ⟨rfl, kk, os, rfl⟩
        have hb2 := nstep hb (below_grow _ _ (Nat.le_refl _) kk os)
        exact ⟨rfl, cell_later hb2 s0, row_free (hT.later hb2).box, hb2⟩
      generalize l ++ numsW (ks.take j) = L at *
      have ha1 : ¬ (9223372036854775807 < L.length + (Lib.itoa k).length) := by omega
      have ha2 : ¬ (9223372036854775807 < L.length + (Lib.itoa k).length + 1) := by omega
      have HT := hid hT
      clear hx hg2 hn1 hn2 hn3 hT
      go_upto_region 3 with (fail)
      go_region_with (go_at_call 22; refine (hIt _ (by first | exact Below.refl _ _ | exact (Below.refl _ _).drew)).mono ?_; rintro e w3 ⟨rfl, s1, sf1, hb3⟩)
      all_goals
        have HS3 := hid ((HT.out.later hb3).set (L ++ (Lib.itoa k ++ [32])))
        have HK3 := hid ((hK.trans (.of_below (Nat.le_of_lt HT.out.lt) hb3)).set 0 (SV (L ++ (Lib.itoa k ++ [32]))))
        rw [str3]
        clear s0 s1 sf sf1 hb3 hIt
        go_wp2
        go_roundg (gk - 1)
        case measure => omega
        case rel => exact ⟨j + 1, by omega, by go_num, by rw [HL.out]; exact HS3.out, HK3.out⟩
    · obtain rfl : j = ks.length := by omega
      have e : ks.take ks.length = ks := List.take_length
      rw [e] at hT
      go_wp2
      refine bodyPost_end (v := .tuple #[]) (by simp [results, Tryz.results21, go_sem]) rfl ⟨rfl, hT, hK⟩
end Go.Proofs.YtjmidhghiahbaaaGreatDoor
