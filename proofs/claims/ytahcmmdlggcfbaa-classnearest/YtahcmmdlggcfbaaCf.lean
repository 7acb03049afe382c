/- Names; making a class. -/
import Derived.Test.YtahcmmdlggcfbaaCe
import Derived.Deep.RegionLawGrows
namespace Go.Proofs.Ytahcmmdlggcfbaa
open Go.ChangeShapes Go.WideShapes Go.ChangeAt Go.RowKit
set_option linter.unusedSimpArgs false
set_option linter.unusedVariables false

theorem b_true {b : Bool} (h : ¬ b = false) : b = true := by cases b <;> simp_all
theorem b_false {b : Bool} (h : ¬ b = true) : b = false := by cases b <;> simp_all
/-- Whether s may be a name. -/
def okB (s : ByteArray) : Bool := decide (∀ j : Fin s.size, 33 ≤ (s[j.1]'j.2).toNat ∧ (s[j.1]'j.2).toNat ≤ 126)
def nameB (s : ByteArray) : Bool := decide (1 ≤ s.size ∧ s.size ≤ 12) && okB s
theorem okB_no {s : ByteArray} {j : Nat} (hj : j < s.size) (h : ¬ (33 ≤ s[j].toNat ∧ s[j].toNat ≤ 126)) : okB s = false := by
  unfold okB
  simp only [decide_eq_false_iff_not]
  exact fun k => h (k ⟨j, hj⟩)
theorem okB_yes {s : ByteArray} (h : ∀ j (hj : j < s.size), 33 ≤ s[j].toNat ∧ s[j].toNat ≤ 126) : okB s = true := by
  unfold okB
  simp only [decide_eq_true_eq]
  exact fun j => h j.1 j.2

set_option maxHeartbeats 1000000 in
theorem name_any (s : ByteArray) (w : World) (hs : s.size ≤ 140737488351232) : Calls Try.prog 14 #[.string s] w fun e w' => e = .returned (.bool (nameB s)) ∧ Below w.heap.size w w' := by
  by_cases h0 : s.size < 1
  · have h0' : (s.size : Int) < 1 := by omega
    have hn : nameB s = false := by simp [nameB]; omega
    rw [hn]
    go_enter Try.func14, Try.ntmps14
    go_wp2
    go_ret
    exact ⟨rfl, Below.refl _ _⟩
  · have h0' : (1 : Int) ≤ (s.size : Int) := by omega
    by_cases h1 : 12 < s.size
    · have h1' : (12 : Int) < (s.size : Int) := by omega
      have hn : nameB s = false := by simp [nameB]; omega
      rw [hn]
      go_enter Try.func14, Try.ntmps14
      go_wp2
      go_ret
      exact ⟨rfl, Below.refl _ _⟩
    · have h1' : (s.size : Int) ≤ 12 := by omega
      have HN : Hid (nameB s = okB s) := by show _ = _; unfold nameB; rw [decide_eq_true (by omega)]; rfl
      go_enter Try.func14, Try.ntmps14
      go_wp2
      go_loopg [14] s.size (fun g c wr => ∃ j : Nat, j + g = s.size ∧ c = .int .i64 j ∧ wr = w ∧ ∀ i (hi : i < s.size), i < j → 33 ≤ s[i].toNat ∧ s[i].toNat ≤ 126)
      case atStart => exact ⟨0, by omega, rfl, rfl, fun i _ hi => by omega⟩
      case round =>
        obtain ⟨j, hj, rfl, rfl, hok⟩ := hrel
        have HO : Hid (∀ i (hi : i < s.size), i < j → 33 ≤ s[i].toNat ∧ s[i].toNat ≤ 126) := hok
        clear hok
        by_cases hlt : j < s.size
        · have hj0 : (0 : Int) ≤ (j : Int) := by omega
          have hj1 : (j : Int) < (s.size : Int) := by omega
          by_cases c1 : s[j].toNat ≤ 32
          · have hn : Hid (okB s = false) := okB_no hlt (by omega)
            have c1' : ((s[j].toNat : Nat) : Int) ≤ 32 := by omega
            go_wp2
            go_ret
            exact ⟨ret_b (by rw [HN.out, hn.out]), Below.refl _ _⟩
          · have c1' : (32 : Int) < ((s[j].toNat : Nat) : Int) := by omega
            by_cases c2 : 126 < s[j].toNat
            · have hn : Hid (okB s = false) := okB_no hlt (by omega)
              have c2' : (126 : Int) < ((s[j].toNat : Nat) : Int) := by omega
              go_wp2
              go_ret
              exact ⟨ret_b (by rw [HN.out, hn.out]), Below.refl _ _⟩
            · have c2' : ((s[j].toNat : Nat) : Int) ≤ 126 := by omega
              have HT : Hid (33 ≤ s[j].toNat ∧ s[j].toNat ≤ 126) := by constructor <;> omega
              clear c1 c2
              go_wp2
              go_roundg (gk - 1)
              case measure => omega
              case rel =>
                refine ⟨j + 1, by omega, by go_num, rfl, fun i hi hij => ?_⟩
                by_cases he : i = j
                · subst he; exact HT.out
                · exact HO.out i hi (by omega)
        · go_wp2
          go_ret
          exact ⟨ret_b (by rw [HN.out, okB_yes fun i hi => HO.out i hi (by omega)]), Below.refl _ _⟩

def plainB (c : Int) : Bool := decide (c = 1 ∨ c = 2 ∨ c = 3)
theorem isPlain_any (c : Int) (w : World) : Calls Try.prog 57 #[.int .i64 c] w fun e w' => e = .returned (.bool (plainB c)) ∧ Below w.heap.size w w' := by
  by_cases h1 : c = 1
  · subst h1
    go_enter Try.func57, Try.ntmps57
    go_wp2
    go_ret
    exact ⟨rfl, Below.refl _ _⟩
  · by_cases h2 : c = 2
    · subst h2
      go_enter Try.func57, Try.ntmps57
      go_wp2
      go_ret
      exact ⟨rfl, Below.refl _ _⟩
    · have h1' : (c == 1) = false := by simpa using h1
      have h2' : (c == 2) = false := by simpa using h2
      have HP : Hid (plainB c = (c == 3)) := by show _ = _; rw [Bool.eq_iff_iff]; simp [plainB, h1, h2]
      clear h1 h2
      go_enter Try.func57, Try.ntmps57
      go_wp2
      go_ret
      exact ⟨ret_b HP.out.symm, Below.refl _ _⟩

theorem slotsE_range {xs : List QC} (ho : SlotsOk xs) (hl : xs.length * 56 ≤ 140737488351232) (c : Int) : 0 ≤ slotsE xs c ∧ slotsE xs c ≤ 9000000000000000000 := by
  have := slotsE_le ho (xs.length + 1) c 0 (by omega)
  unfold slotsE
  omega

theorem room_any {P : Nat → Prop} (X : QW) (c : Int) (cv hv : Value) (w : World) (hh : IsClasses P w cv X.classes) (hH : IsHeap P w hv X.heap) (ho : SlotsOk X.classes) : Calls Try.prog 56 #[WV cv hv X.epoch, .int .i64 c] w fun e w' => e = .returned (.int .i64 (6 - slotsE X.classes c)) ∧ Below w.heap.size w w' := by
  obtain ⟨ad, cap, rfl, hl, hcap, hby, -⟩ := id hh
  obtain ⟨ah, ch, rfl, -, -, -, -⟩ := id hH
  have hr := slotsE_range ho hby c
  go_enter Try.func56, Try.ntmps56
  go_wp2_with fail
  refine (slots_any X c _ _ _ (hh.later goodC (bel1 _ _)) (hH.later goodO (bel1 _ _)) ho).mono ?_
  rintro e w1 ⟨rfl, hb⟩
  go_wp2
  go_ret
  exact ⟨ret_i rfl, nstep1 (Below.refl _ _) hb⟩

/-- Whether a class of that name is there. -/
def takenB (xs : List QC) (name : ByteArray) : Bool := decide (0 ≤ findI (fun m : QC => eqN m.name name) xs)
/-- Why there can be no such class. -/
def wrongE (xs : List QC) (name : ByteArray) (super slots : Int) : Int :=
  if nameB name = false ∨ takenB xs name = true then 7
  else if hasB xs.length super = false then 6
  else if slots < 0 ∨ 6 - slotsE xs super < slots ∨ plainB super = true then 3
  else if 12 ≤ xs.length then 5 else 0

set_option maxHeartbeats 2000000 in
theorem wrongClass_any {P : Nat → Prop} (X : QW) (name : ByteArray) (super slots : Int) (cv hv : Value) (w : World) (hn : name.size ≤ 140737488351232) (hh : IsClasses P w cv X.classes) (hH : IsHeap P w hv X.heap) (ho : SlotsOk X.classes) : Calls Try.prog 41 #[WV cv hv X.epoch, .string name, .int .i64 super, .int .i64 slots] w fun e w' => e = .returned (.int .i64 (wrongE X.classes name super slots)) ∧ Below w.heap.size w w' := by
  have hm := hmf
  obtain ⟨ad, cap, rfl, hl, hcap, hby, -⟩ := id hh
  obtain ⟨ah, ch, rfl, -, -, -, -⟩ := id hH
  go_enter Try.func41, Try.ntmps41
  have HC : Hid (∀ x : Obj, True) := fun _ => trivial
  have hc0 : ((w.alloc (Obj.cells #[Value.slice ad X.classes.length cap, Value.slice ah X.heap.length ch, Value.int IntKind.i64 X.epoch] 25)).alloc (Obj.cells #[Value.string name] 9)).cell? ⟨w.heap.size, 0, none⟩ = some (Value.slice ad X.classes.length cap) := cell_later (bel1 _ _) (by rw [cell_new _ _ _ _ rfl]; rfl)
  have hc1 : ((w.alloc (Obj.cells #[Value.slice ad X.classes.length cap, Value.slice ah X.heap.length ch, Value.int IntKind.i64 X.epoch] 25)).alloc (Obj.cells #[Value.string name] 9)).cell? ⟨w.heap.size, 1, none⟩ = some (Value.slice ah X.heap.length ch) := cell_later (bel1 _ _) (by rw [cell_new _ _ _ _ rfl]; rfl)
  have hc2 : ((w.alloc (Obj.cells #[Value.slice ad X.classes.length cap, Value.slice ah X.heap.length ch, Value.int IntKind.i64 X.epoch] 25)).alloc (Obj.cells #[Value.string name] 9)).cell? ⟨w.heap.size, 2, none⟩ = some (Value.int IntKind.i64 X.epoch) := cell_later (bel1 _ _) (by rw [cell_new _ _ _ _ rfl]; rfl)
  have hc3 : ((w.alloc (Obj.cells #[Value.slice ad X.classes.length cap, Value.slice ah X.heap.length ch, Value.int IntKind.i64 X.epoch] 25)).alloc (Obj.cells #[Value.string name] 9)).cell? ⟨w.heap.size + 1, 0, none⟩ = some (Value.string name) := by rw [cell_new _ _ _ _ (by simp)]; rfl
  go_wp2_with fail
  refine (contains_any X.classes _ _ name _ hc3 (hh.later goodC (bel2 _ _ _))).mono ?_
  rintro e w1 ⟨rfl, hb⟩
  replace hc0 := cell_later hb hc0
  replace hc1 := cell_later hb hc1
  replace hc2 := cell_later hb hc2
  replace hc3 := cell_later hb hc3
  have hB := nstep (bel2 _ _ _) hb
  clear hb
  go_wp2_with fail
  refine (name_any name _ hn).mono ?_
  rintro e w2 ⟨rfl, hb⟩
  replace hc0 := cell_later hb hc0
  replace hc1 := cell_later hb hc1
  replace hc2 := cell_later hb hc2
  replace hB := nstep hB hb
  clear hb hc3
  have hTK : decide (0 ≤ findI (fun m : QC => eqN m.name name) X.classes) = takenB X.classes name := rfl
  rw [hTK]
  clear hTK
  by_cases t1 : nameB name = false ∨ takenB X.classes name = true
  · have HE : Hid (wrongE X.classes name super slots = 7) := by show _ = _; unfold wrongE; rw [if_pos t1]
    cases hnb : nameB name
    · go_wp2
      go_ret
      exact ⟨ret_i HE.out.symm, hB⟩
    · have htk : takenB X.classes name = true := t1.resolve_left (by rw [hnb]; simp)
      rw [htk]
      go_wp2
      go_ret
      exact ⟨ret_i HE.out.symm, hB⟩
  · have hnb : nameB name = true := b_true fun h => t1 (Or.inl h)
    have htk : takenB X.classes name = false := b_false fun h => t1 (Or.inr h)
    rw [hnb, htk]
    go_wp2_with fail
    refine (has_any _ _ _ _ _ _ _ _ _).mono ?_
    rintro e w3 ⟨rfl, hb⟩
    replace hc0 := cell_later hb hc0
    replace hc1 := cell_later hb hc1
    replace hc2 := cell_later hb hc2
    replace hB := nstep hB hb
    clear hb
    cases hhas : hasB X.classes.length super
    · have HE : Hid (wrongE X.classes name super slots = 6) := by show _ = _; unfold wrongE; rw [if_neg t1, if_pos hhas]
      go_wp2
      go_ret
      exact ⟨ret_i HE.out.symm, hB⟩
    · have HE : Hid (wrongE X.classes name super slots = if slots < 0 ∨ 6 - slotsE X.classes super < slots ∨ plainB super = true then 3 else if 12 ≤ X.classes.length then 5 else 0) := by show _ = _; unfold wrongE; rw [if_neg t1, if_neg (by rw [hhas]; simp)]
      by_cases s0 : slots < 0
      · go_wp2
        go_ret
        exact ⟨ret_i (by rw [HE.out, if_pos (Or.inl s0)]), hB⟩
      · have s0' : (0 : Int) ≤ slots := by omega
        go_wp2_with fail
        refine (room_any X super _ _ _ (hh.later goodC hB) (hH.later goodO hB) ho).mono ?_
        rintro e w4 ⟨rfl, hb⟩
        replace hc0 := cell_later hb hc0
        replace hB := nstep hB hb
        clear hb hc1 hc2
        by_cases s1 : 6 - slotsE X.classes super < slots
        · go_wp2
          go_ret
          exact ⟨ret_i (by rw [HE.out, if_pos (Or.inr (Or.inl s1))]), hB⟩
        · have s1' : slots ≤ 6 - slotsE X.classes super := by omega
          go_wp2_with fail
          refine (isPlain_any super _).mono ?_
          rintro e w5 ⟨rfl, hb⟩
          replace hc0 := cell_later hb hc0
          replace hB := nstep hB hb
          clear hb
          cases hpl : plainB super
          · have hE2 : Hid (wrongE X.classes name super slots = if 12 ≤ X.classes.length then 5 else 0) := by
              show _ = _
              rw [HE.out, if_neg]
              rintro (h | h | h)
              · omega
              · omega
              · rw [hpl] at h; cases h
            by_cases s2 : 12 ≤ X.classes.length
            · have s2' : (12 : Int) ≤ (X.classes.length : Int) := by omega
              go_wp2
              go_ret
              exact ⟨ret_i (by rw [hE2.out, if_pos s2]), hB⟩
            · have s2' : (X.classes.length : Int) < 12 := by omega
              go_wp2
              go_ret
              exact ⟨ret_i (by rw [hE2.out, if_neg s2]), hB⟩
          · go_wp2
            go_ret
            exact ⟨ret_i (by rw [HE.out, if_pos (Or.inr (Or.inr hpl))]), hB⟩

theorem wV_zero : (Value.agg #[Value.slice none 0 0, Value.slice none 0 0, Value.int IntKind.i64 0]) = WV (.slice none 0 0) (.slice none 0 0) 0 := rfl

/-- 'append(made.Classes, Class{..})' where made.Classes is full: the walk's step. -/
theorem wpList_append_class {ops : Array Oper} {rest : List Oper} {o : Oper} {a : Act} {w : World} {Q : Exit → Act → World → Prop} (hgd : o.guard = none) (s x : Operand)
    (hop : o.op = Op.call { callee := Callee.builtin Builtin.append, args := #[s, x], argTypes := #[22, 22] }) (g n : Nat) (hs : a.eval s = .slice (some ⟨g, 0, none⟩) n n) (Bb : Nat) (hx : a.eval x = .slice (some ⟨Bb, 0, none⟩) 1 1)
    (cur : Array Value) (hcur : w.heap[g]? = some (.cells cur 31 (0, 0))) (hlen : cur.size = n * 4) (xs : List Value) (hX : w.heap[Bb]? = some (.cells xs.toArray 31 (0, 0))) (hxl : xs.length = 4) (h1 : ∀ u ∈ xs, u.oneCell' = true) (hn : n < 1000)
    (hK : ∀ g' cap cur' w', n + 1 ≤ cap → cap ≤ maxLen → w'.heap[g']? = some (.cells cur' 31 (0, 0)) → cur'.toList.take ((n + 1) * 4) = cur.toList ++ xs → w.heap.size ≤ g' → Below w.heap.size w w' → wpList Try.prog ops Q rest (a.put o.dst (.slice (some ⟨g', 0, none⟩) (n + 1) cap)) w') :
    wpList Try.prog ops Q (o :: rest) a w := by
  obtain ⟨i0, hi, hz0, hz1, hz2⟩ := info_parts info31
  refine wpList_plain hgd fun K hKK => ?_
  obtain ⟨v', w', hrun, r1, r2⟩ := run_append_arg_grows (P := Try.prog) w 22 o.type 31 i0 _ 4 56 Try.underlying22 hi hz0 hz1 hz2 rfl (by decide) ⟨g, 0, none⟩ n n cur.toList (by simpa using hlen) (fun j u hu => by rw [Addr.add_lit, Nat.zero_add, cell_of_row _ _ _ _ _ _ hcur]; simpa using hu) ⟨Bb, 0, none⟩ 1 1 xs (by simpa using hxl) (fun j u hu => by rw [Addr.add_lit, Nat.zero_add, cell_of_row _ _ _ _ _ _ hX]; simpa using hu) (by omega) (by unfold maxLen; omega) (by omega)
  obtain ⟨-, h | ⟨g', cap, cur', rfl, hb, hh, hc1, hc2, hc3, hc4⟩⟩ := r1
  · omega
  unfold Oper.wp
  simp [execOp, hop, resolve, invoke, builtin, hs, hx, hrun, Result.andThen]
  exact hKK _ _ (hK g' cap cur' w' hc1 hc2 hh hc4 hb ((Below.refl _ _).grown r2 (Nat.le_refl _) (fun k hk => by cases hk)))

theorem blk_new (w : World) (o : Obj) (n : Nat) (hn : w.heap.size = n) : (w.alloc o).heap[n]? = some o := by subst hn; exact heap_alloc_new w o
/-- A class more. -/
def madeX (X : QW) (name : ByteArray) (super slots : Int) : QW := ⟨X.classes ++ [⟨name, super, slots, []⟩], X.heap, X.epoch⟩

set_option maxHeartbeats 1000000 in
theorem make_wrong {P : Nat → Prop} (X : QW) (name : ByteArray) (super slots : Int) (cv hv : Value) (w : World) (hn : name.size ≤ 140737488351232) (hh : IsClasses P w cv X.classes) (hH : IsHeap P w hv X.heap) (ho : SlotsOk X.classes) (he : wrongE X.classes name super slots ≠ 0) : Calls Try.prog 20 #[WV cv hv X.epoch, .string name, .int .i64 super, .int .i64 slots] w fun e w' => e = .returned (.tuple #[WV (.slice none 0 0) (.slice none 0 0) 0, .int .i64 0, .int .i64 (wrongE X.classes name super slots)]) ∧ Below w.heap.size w w' := by
  obtain ⟨ad, cap, rfl, hl, hcap, hby, -⟩ := id hh
  obtain ⟨ah, ch, rfl, -, -, -, -⟩ := id hH
  have he' : (wrongE X.classes name super slots != 0) = true := by simpa using he
  go_enter Try.func20, Try.ntmps20
  go_wp2_with fail
  refine (wrongClass_any X name super slots _ _ _ hn (hh.later goodC (bel2 _ _ _)) (hH.later goodO (bel2 _ _ _)) ho).mono ?_
  rintro e w1 ⟨rfl, hb⟩
  obtain ⟨hc, hf⟩ := bcell hb
  have hz : w.heap.size + 1 < w1.heap.size := by have := hb.size; simp at this; omega
  go_wp2
  refine bodyPost_ret (v := .tuple #[WV (.slice none 0 0) (.slice none 0 0) 0, .int .i64 0, .int .i64 (wrongE X.classes name super slots)]) (by simp [results, Try.results20, go_sem, hc, hz]) rfl ⟨rfl, ?_⟩
  exact (((nstep (bel2 _ _ _) hb).setCell (by simp) _).setCell (by simp) _).setCell (by simp) _

set_option maxHeartbeats 2000000 in
theorem make_right {P : Nat → Prop} (X : QW) (name : ByteArray) (super slots : Int) (cv hv : Value) (w : World) (hn : name.size ≤ 140737488351232) (hh : IsClasses P w cv X.classes) (hH : IsHeap P w hv X.heap) (ho : SlotsOk X.classes) (he : wrongE X.classes name super slots = 0) : Calls Try.prog 20 #[WV cv hv X.epoch, .string name, .int .i64 super, .int .i64 slots] w fun e w' => ∃ cv' hv', e = .returned (.tuple #[WV cv' hv' X.epoch, .int .i64 X.classes.length, .int .i64 0]) ∧ IsClasses (fun b => w.heap.size ≤ b) w' cv' (madeX X name super slots).classes ∧ IsHeap (fun b => w.heap.size ≤ b) w' hv' X.heap ∧ Below w.heap.size w w' := by
  obtain ⟨ad, cap, rfl, hl, hcap, hby, -⟩ := id hh
  obtain ⟨ah, ch, rfl, -, -, -, -⟩ := id hH
  have hlen : X.classes.length < 12 := by
    unfold wrongE at he
    (repeat' split at he) <;> omega
  go_enter Try.func20, Try.ntmps20
  go_wp2_with fail
  refine (wrongClass_any X name super slots _ _ _ hn (hh.later goodC (bel2 _ _ _)) (hH.later goodO (bel2 _ _ _)) ho).mono ?_
  rintro e w1 ⟨rfl, hb⟩
  rw [he]
  obtain ⟨hc, hf⟩ := bcell hb
  have hz : w.heap.size + 1 < w1.heap.size := by have := hb.size; simp at this; omega
  have hB := nstep (bel2 _ _ _) hb
  go_wp2_with fail
  refine (own_any X _ _ _ (hh.later goodC hB) (hH.later goodO hB)).mono ?_
  rintro e w2 ⟨g, gh, s, rfl, hO, hHo, hg, hb2⟩
  have a0 : w1.cell? ⟨w.heap.size, 0, none⟩ = some (Value.slice ad X.classes.length cap) := by rw [hc _ _ (by simp; omega)]; simp
  have b0 : w1.cell? ⟨w.heap.size + 1, 0, none⟩ = some (Value.slice none 0 0) := by rw [hc _ _ (by simp)]; simp
  have b1 : w1.cell? ⟨w.heap.size + 1, 1, none⟩ = some (Value.slice none 0 0) := by rw [hc _ _ (by simp)]; simp
  have b2 : w1.cell? ⟨w.heap.size + 1, 2, none⟩ = some (Value.int IntKind.i64 0) := by rw [hc _ _ (by simp)]; simp
  have bf : ∀ o, w1.frozen? ⟨w.heap.size + 1, o, none⟩ = false := fun o => by rw [hf _ _ (by simp)]; simp
  clear hc hf
  obtain ⟨⟨cur, hcur, hcl⟩, -⟩ := id hO
  have hgl := blk_lt hcur
  have hz2 := hb2.size
  go_wp2_with (at_builtin; refine wpList_append_class rfl (.tmp 25) (.tmp 30) rfl g X.classes.length rfl _ rfl cur (((bel2 _ _ _).block _ hgl).trans hcur) hcl [.string name, .int .i64 super, .int .i64 slots, .slice none 0 0] (blk_new _ _ _ (by simp)) rfl (by intro u hu; simp at hu; rcases hu with rfl | rfl | rfl | rfl <;> rfl) (by omega) ?_; intro g' cap' cur' w3 n1 n2 hh3 hcl3 hg3 hb3; have hB13 := nstep hb2 (nstep (bel2 _ _ _) hb3); have p0 := cell_later hB13 a0; have q0 := cell_later hB13 b0; have q1 := cell_later hB13 b1; have q2 := cell_later hB13 b2; have qf : ∀ o, w3.frozen? ⟨w.heap.size + 1, o, none⟩ = false := (fun o => (hB13.frozen (by simp; omega)).trans (bf o)); have m0 := cell_later hb3 (cell_later (bel1 _ _) ((cell_new w2 #[Value.slice (some ⟨g, 0, none⟩) X.classes.length X.classes.length, Value.slice (some ⟨gh, 0, none⟩) X.heap.length X.heap.length, Value.int IntKind.i64 X.epoch] 25 _ rfl 0).trans rfl)); have m1 := cell_later hb3 (cell_later (bel1 _ _) ((cell_new w2 #[Value.slice (some ⟨g, 0, none⟩) X.classes.length X.classes.length, Value.slice (some ⟨gh, 0, none⟩) X.heap.length X.heap.length, Value.int IntKind.i64 X.epoch] 25 _ rfl 1).trans rfl)); have m2 := cell_later hb3 (cell_later (bel1 _ _) ((cell_new w2 #[Value.slice (some ⟨g, 0, none⟩) X.classes.length X.classes.length, Value.slice (some ⟨gh, 0, none⟩) X.heap.length X.heap.length, Value.int IntKind.i64 X.epoch] 25 _ rfl 2).trans rfl)); have mf : ∀ o, w3.frozen? ⟨w2.heap.size, o, none⟩ = false := (fun o => (hb3.frozen (by simp; omega)).trans (((bel1 _ _).frozen (by simp)).trans (World.frozen?_alloc_new _ _ _ _))); have ms := cell_set_self m0 (.slice (some ⟨g', 0, none⟩) (X.classes.length + 1) cap'); have hne1 : ¬ w2.heap.size = w.heap.size := (by omega); have hne2 : ¬ w2.heap.size = w.heap.size + 1 := (by omega); have hne3 : ¬ w.heap.size + 1 = w2.heap.size := (by omega); have hne4 : ¬ w.heap.size = w2.heap.size := (by omega))
  go_region
  go_wp2
  have hO2 := hO.row hby
  have hcs := hO2.blkCells goodC hcur hcl
  have hB23 := nstep (bel2 w2 (Obj.cells #[Value.slice (some ⟨g, 0, none⟩) X.classes.length X.classes.length, Value.slice (some ⟨gh, 0, none⟩) X.heap.length X.heap.length, Value.int IntKind.i64 X.epoch] 25) (Obj.cells #[Value.string name, Value.int IntKind.i64 super, Value.int IntKind.i64 slots, Value.slice none 0 0] 31)) hb3
  have hg3' : w2.heap.size + 1 + 1 ≤ g' := by simpa using hg3
  have hs0 := hO.2.1
  have hs1 := hO.mono 0 X.classes.length (by omega) (Nat.le_refl _)
  refine bodyPost_ret (v := .tuple #[WV (.slice (some ⟨g', 0, none⟩) (X.classes.length + 1) cap') (.slice (some ⟨gh, 0, none⟩) X.heap.length X.heap.length) X.epoch, .int .i64 X.classes.length, .int .i64 0]) ?_ rfl ⟨_, _, rfl, ?_, ?_, ?_⟩
  · simp [results, Try.results20, go_sem, q0, q1, q2, hne2, hne3]
  · have h5 : Cells ClassC 4 (fun b => w1.heap.size ≤ b ∧ b ≠ w2.heap.size) w3 (cur.toList ++ [.string name, .int .i64 super, .int .i64 slots, .slice none 0 0]) (madeX X name super slots).classes := by
      refine ((hcs.keep goodC (.of_below hB23) fun b hb => ⟨by have := hb.1; omega, by have := hb.2; omega⟩).append goodC (Cells.one goodC rfl ?_))
      exact ⟨rfl, rfl, rfl, hn, _, rfl, none, 0, rfl, Nat.le_refl _, by unfold maxLen; omega, by simp, fun i x hx => by simp at hx⟩
    have h6 : IsClasses (fun b => w1.heap.size ≤ b ∧ b ≠ w2.heap.size) w3 (.slice (some ⟨g', 0, none⟩) (madeX X name super slots).classes.length cap') (madeX X name super slots).classes := h5.row goodC ⟨by omega, by omega⟩ hh3 (by simpa [madeX] using hcl3) (by simpa [madeX] using n1) n2 (by simp [madeX]; omega)
    have h7 := h6.keep goodC (keep_set (keep_set (keep_set (keep_set (Keeps.refl _ _) (fun h => h.2 rfl) (.slice (some ⟨g', 0, none⟩) (X.classes.length + 1) cap') (o := 0)) (b := w.heap.size + 1) (o := 0) (fun h => by have := h.1; omega) (.slice (some ⟨g', 0, none⟩) (X.classes.length + 1) cap')) (b := w.heap.size + 1) (o := 1) (fun h => by have := h.1; omega) (.slice (some ⟨gh, 0, none⟩) X.heap.length X.heap.length)) (b := w.heap.size + 1) (o := 2) (fun h => by have := h.1; omega) (Value.int IntKind.i64 X.epoch)) (Q := fun b => w.heap.size ≤ b) (fun b hb => by have := hb.1; omega)
    have h8 : (madeX X name super slots).classes.length = X.classes.length + 1 := by simp [madeX]
    rw [h8] at h7
    exact h7.later goodC (Below.refl _ _).drew
  · have h7 := (hHo.later goodO hB23).keep goodO (keep_set (keep_set (keep_set (keep_set (Keeps.refl _ _) (b := w2.heap.size) (o := 0) (fun h => by have := h.2; omega) (.slice (some ⟨g', 0, none⟩) (X.classes.length + 1) cap')) (b := w.heap.size + 1) (o := 0) (fun h => by have := h.1; omega) (.slice (some ⟨g', 0, none⟩) (X.classes.length + 1) cap')) (b := w.heap.size + 1) (o := 1) (fun h => by have := h.1; omega) (.slice (some ⟨gh, 0, none⟩) X.heap.length X.heap.length)) (b := w.heap.size + 1) (o := 2) (fun h => by have := h.1; omega) (Value.int IntKind.i64 X.epoch)) (Q := fun b => w.heap.size ≤ b) (fun b hb => by have := hb.1; omega)
    exact h7.later goodO (Below.refl _ _).drew
  · exact Below.drew (((((nstep hB hB13).setCell (by simp; omega) _).setCell (by simp) _).setCell (by simp) _).setCell (by simp) _)
end Go.Proofs.Ytahcmmdlggcfbaa
