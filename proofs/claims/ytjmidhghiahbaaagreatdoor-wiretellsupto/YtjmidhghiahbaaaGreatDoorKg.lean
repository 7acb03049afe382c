/- Package code: what is wrong with an instruction, with a method. -/
import Derived.Test.YtjmidhghiahbaaaGreatDoorKf
namespace Go.Proofs.YtjmidhghiahbaaaGreatDoor
open Go.ChangeShapes Go.WideShapes Go.ChangeAt Go.RowKit
set_option linter.unusedSimpArgs false
set_option linter.unusedVariables false
set_option maxRecDepth 8000

/-- Slots of whatever world: as int's sum comes round. -/
def slotsVW (s : Int) (_ : Nat) (x : QC) : Int × Bool := (IntKind.i64.wrap (s + x.slots), true)
def slotsW (xs : List QC) (c : Int) : Int := upE slotsVW xs (xs.length + 1) c 0
theorem slotsW_eq {xs : List QC} (ho : SlotsOk xs) (hb : xs.length * 56 ≤ 140737488351232) : ∀ (n : Nat) (c s : Int), 0 ≤ s → s + 6 * n ≤ 9000000000000000000 → upE slotsVW xs n c s = upE slotsV xs n c s
  | 0, c, s, h, _ => rfl
  | n + 1, c, s, h, h2 => by
    unfold upE
    cases hx : clsAt xs c with
    | none => rfl
    | some x =>
      obtain ⟨k, rfl, hk⟩ := clsAt_some hx
      obtain ⟨h3, h4⟩ := ho k x hk
      have e : IntKind.i64.wrap (s + x.slots) = s + x.slots := wrap_of (by omega) (by omega)
      simp only [slotsVW, slotsV, if_true, e]
      exact slotsW_eq ho hb n x.super (s + x.slots) (by omega) (by omega)
theorem slotsW_E {xs : List QC} (ho : SlotsOk xs) (hb : xs.length * 56 ≤ 140737488351232) (c : Int) : slotsW xs c = slotsE xs c := slotsW_eq ho hb _ c 0 (by omega) (by omega)

set_option maxHeartbeats 1000000 in
theorem slotsW1_any {P : Nat → Prop} (xs : List QC) (cv : Value) (s : Int) (k : Nat) (x : QC) (bs bw : Nat) (w : World) (hne : bs ≠ bw) (hs : w.heap[bs]? = some (.cells #[.int .i64 s] 3 (0, 0))) (hw : w.cell? ⟨bw, 0, none⟩ = some cv) (hh : IsClasses P w cv xs) (hx : xs[k]? = some x) :
    Calls Tryz.prog 50 #[.int .i64 k, .pointer (some ⟨bs, 0, none⟩), .pointer (some ⟨bw, 0, none⟩)] w fun e w'' => e = .returned (.bool true) ∧ w''.heap[bs]? = some (.cells #[.int .i64 (slotsVW s k x).1] 3 (0, 0)) ∧ Keeps (fun b => b ≠ bs) w w'' ∧ Below bs w w'' := by
  obtain ⟨ad, cap, rfl, hl, hcap, hby, hrow⟩ := id hh
  have hk := lt_of_get hx
  obtain ⟨b, o, rfl, -, hv0, hv1, hv2, -⟩ := hrow k x hx
  have hk0 : (0 : Int) ≤ (k : Int) := by omega
  have hk1 : (k : Int) < (xs.length : Int) := by omega
  have c1 := cell_of_one hs
  have f1 := free_of_one hs
  have HV : Hid ((slotsVW s k x).1 = IntKind.i64.wrap (s + x.slots)) := rfl
  generalize (slotsVW s k x).1 = u at *
  have hwr : IntKind.i64.wrap (s + x.slots) = u := HV.out.symm
  clear hrow hh hx
  go_enter Tryz.func50, Tryz.ntmps50
  go_wp2
  go_region
  all_goals go_wp2
  all_goals go_ret
  all_goals
    refine ⟨rfl, ?_, ?_, ?_⟩
    · first | exact one_setCell (by first | exact hs | simpa using hs) | (rw [HV.out]; exact one_setCell (by first | exact hs | simpa using hs))
    · exact Keeps.of_setCell (fun h => h rfl) _
    · first | exact bel_set _ _ _ _ | exact (bel_set _ _ _ _).drew
def SlRW {P : Nat → Prop} (w0 : World) (cv : Value) (xs : List QC) (j : Nat) (s : Int) (w' : World) : Prop :=
  Below w0.heap.size w0 w' ∧ IsClasses P w' cv xs ∧ w'.heap[w0.heap.size + 1]? = some (.cells #[.int .i64 s] 3 (0, 0)) ∧ w'.cell? ⟨w0.heap.size, 0, none⟩ = some cv
set_option maxHeartbeats 1000000 in
theorem slotsW_any {P : Nat → Prop} (X : QW) (c : Int) (cv hv : Value) (w : World) (hh : IsClasses P w cv X.classes) (hH : IsHeap P w hv X.heap) : Calls Tryz.prog 33 #[WV cv hv X.epoch, .int .i64 c] w fun e w' => e = .returned (.int .i64 (slotsW X.classes c)) ∧ Below w.heap.size w w' := by
  have hm := hmf
  obtain ⟨ad, cap, rfl, hl, hcap, hby, -⟩ := id hh
  obtain ⟨ah, ch, rfl, -, -, -, -⟩ := id hH
  go_enter Tryz.func33, Tryz.ntmps33
  go_wp2_with fail
  refine (up28_any (P := P) (M := fun b => b = w.heap.size + 1) slotsVW (SlRW (P := P) w (.slice ad X.classes.length cap) X.classes) _ _ X.classes c 0 _ _ _ _ (hh.later goodC (bel2 _ _ _)) ⟨_, _, _, rfl⟩ ?_ ?_ ?_ ?_ ?_).mono ?_
  · refine ⟨bel2 _ _ _, hh.later goodC (bel2 _ _ _), ?_, ?_⟩
    · have := heap_alloc_new (w.alloc (Obj.cells #[Value.slice ad X.classes.length cap, Value.slice ah X.heap.length ch, Value.int IntKind.i64 X.epoch] 25)) (Obj.cells #[Value.int IntKind.i64 0] 3)
      simpa using this
    · exact cell_later (bel1 _ _) (by rw [cell_new _ _ _ _ rfl]; rfl)
  · rintro b rfl; simp
  · exact fun j s w' h => h.2.1
  · rintro j s w' w'' ⟨h1, h2, h3, h4⟩ hb
    exact ⟨nstep h1 hb, h2.later goodC hb, by rw [hb.block _ (blk_lt h3)]; exact h3, cell_later hb h4⟩
  · rintro j s k x w' hj ⟨h1, h2, h3, h4⟩ hx
    refine (slotsW1_any X.classes _ s k x (w.heap.size + 1) w.heap.size w' (by omega) h3 h4 h2 hx).mono ?_
    rintro e w'' ⟨rfl, k1, k2, k3⟩
    refine ⟨rfl, ⟨h1.trans (k3.mono (by omega)), ?_, k1, k2 _ _ _ (by show _ ≠ _; omega) h4⟩, k2.mono fun b hb => hb, k3.size⟩
    exact hh.later goodC (h1.trans (k3.mono (by omega)))
  · rintro e w1 ⟨rfl, j, h1, h2, h3, h4⟩
    have c1 := cell_of_one h3
    go_wp2
    go_ret
    exact ⟨rfl, h1⟩

def inR (n low high : Int) : Bool := decide (low ≤ n ∧ n ≤ high)
theorem within_any (n low high : Int) (w : World) : Calls Tryz.prog 89 #[.int .i64 n, .int .i64 low, .int .i64 high] w fun e w' => e = .returned (.bool (inR n low high)) ∧ Below w.heap.size w w' := by
  go_enter Tryz.func89, Tryz.ntmps89
  by_cases h1 : low ≤ n
  · by_cases h2 : n ≤ high
    · go_wp2
      go_ret
      exact ⟨ret_b (by simp [inR, h1, h2]), Below.refl _ _⟩
    · have h2' : decide (n ≤ high) = false := by simpa using h2
      go_wp2
      go_ret
      exact ⟨ret_b (by simp [inR]; omega), Below.refl _ _⟩
  · have h1' : decide (low ≤ n) = false := by simpa using h1
    go_wp2
    go_ret
    exact ⟨ret_b (by simp [inR]; omega), Below.refl _ _⟩

def emptyB (s : ByteArray) : Bool := s.toList.isEmpty
def rnB (x : QI) : Bool := if x.op = 14 then nameB x.name else emptyB x.name
theorem rightName_any (x : QI) (w : World) (hn : x.name.size ≤ 140737488351232) : Calls Tryz.prog 91 #[IV x] w fun e w' => e = .returned (.bool (rnB x)) ∧ Below w.heap.size w w' := by
  obtain ⟨op, xa, xb, xc, nm⟩ := x
  go_enter Tryz.func91, Tryz.ntmps91
  by_cases h : op = 14
  · subst h
    go_wp2_with fail
    refine (name_any nm _ hn).mono ?_
    rintro e w1 ⟨rfl, hb⟩
    go_wp2
    go_ret
    exact ⟨ret_b (by simp [rnB]), nstep (bel1 _ _) hb⟩
  · go_wp2
    go_ret
    exact ⟨ret_b (by simp [rnB, h, emptyB]), bel1 _ _⟩

/-- Whether an instruction's number is right: S slots, n classes. -/
def raE (S n : Int) (m : QM) (x : QI) : Bool :=
  if x.op = 2 then inR x.a 0 (m.args - 1)
  else if x.op = 3 ∨ x.op = 11 then inR x.a 0 (m.temps - 1)
  else if x.op = 4 ∨ x.op = 12 then inR x.a 0 (IntKind.i64.wrap (S - 1))
  else if x.op = 15 ∨ x.op = 16 then inR x.a 0 ((m.code.length : Int) - 1)
  else if x.op = 14 then inR x.a 0 4
  else if x.op = 5 then inR x.a (-1073741824) 1073741824
  else if x.op = 13 then decide (x.a = 0) || inR x.a 4 (n - 1)
  else decide (x.a = 0)
def numE (S n : Int) (m : QM) (x : QI) : Int :=
  if inR x.op 1 17 = false then 1 else if raE S n m x = false then 3 else if rnB x = false ∨ x.b ≠ 0 ∨ x.c ≠ 0 then 2 else 0
/-- What is wrong with a method, whatever its instructions are. -/
def wmE (n c : Int) (m : QM) : Int :=
  if inR c 0 (n - 1) = false then 6 else if nameB m.name = false then 7 else if inR m.args 0 4 = false ∨ inR m.temps 0 6 = false then 3 else if m.prim ≠ 0 then 1 else if inR m.code.length 1 60 = false then 5 else 0

theorem four_later {a0 a1 a2 a3 : Addr} {v0 v1 v2 v3 : Value} {W w w' : World} (h : w.cell? a0 = some v0 ∧ w.cell? a1 = some v1 ∧ w.cell? a2 = some v2 ∧ w.cell? a3 = some v3 ∧ Below W.heap.size W w) (hb : Below w.heap.size w w') : w'.cell? a0 = some v0 ∧ w'.cell? a1 = some v1 ∧ w'.cell? a2 = some v2 ∧ w'.cell? a3 = some v3 ∧ Below W.heap.size W w' :=
  ⟨cell_later hb h.1, cell_later hb h.2.1, cell_later hb h.2.2.1, cell_later hb h.2.2.2.1, nstep h.2.2.2.2 hb⟩
set_option maxHeartbeats 2000000 in
theorem rightA_any {P : Nat → Prop} (X : QW) (c : Int) (m : QM) (x : QI) (cv hv mv : Value) (w : World) (hh : IsClasses P w cv X.classes) (hH : IsHeap P w hv X.heap) (hM : IsCode P w mv m.code) (ha : 0 ≤ m.args ∧ m.args ≤ 4) (ht : 0 ≤ m.temps ∧ m.temps ≤ 6) : Calls Tryz.prog 90 #[WV cv hv X.epoch, .int .i64 c, MV m mv, IV x] w fun e w' => e = .returned (.bool (raE (slotsW X.classes c) X.classes.length m x)) ∧ Below w.heap.size w w' := by
  obtain ⟨op, xa, xb, xc, nm⟩ := x
  obtain ⟨ad, cap, rfl, hl, hcap, hby, -⟩ := id hh
  obtain ⟨ah, ch, rfl, -, -, -, -⟩ := id hH
  obtain ⟨am, cm, rfl, -, -, hcb, -⟩ := id hM
  have hw1 : IntKind.i64.wrap (m.args - 1) = m.args - 1 := wrap_of (by omega) (by omega)
  have hw2 : IntKind.i64.wrap (m.temps - 1) = m.temps - 1 := wrap_of (by omega) (by omega)
  have hw3 : IntKind.i64.wrap ((m.code.length : Int) - 1) = (m.code.length : Int) - 1 := wrap_of (by omega) (by omega)
  have hw4 : IntKind.i64.wrap ((X.classes.length : Int) - 1) = (X.classes.length : Int) - 1 := wrap_of (by omega) (by omega)
  have hb3 := bel3 w (Obj.cells #[Value.slice ad X.classes.length cap, Value.slice ah X.heap.length ch, Value.int IntKind.i64 X.epoch] 25) (Obj.cells #[Value.string m.name, Value.int IntKind.i64 m.args, Value.int IntKind.i64 m.temps, Value.int IntKind.i64 m.prim, Value.slice am m.code.length cm] 43) (Obj.cells #[Value.int IntKind.i64 op, Value.int IntKind.i64 xa, Value.int IntKind.i64 xb, Value.int IntKind.i64 xc, Value.string nm] 62)
  go_enter Tryz.func90, Tryz.ntmps90
  by_cases h2 : op = 2
  · subst h2
    go_wp2_with fail
    refine (within_any _ _ _ _).mono ?_
    rintro e w1 ⟨rfl, hb⟩
    go_wp2
    go_ret
    exact ⟨ret_b (by simp [raE]), nstep hb3 hb⟩
  · by_cases h3 : op = 3 ∨ op = 11
    · rcases h3 with rfl | rfl
      all_goals
        go_wp2_with fail
        refine (within_any _ _ _ _).mono ?_
        rintro e w1 ⟨rfl, hb⟩
        go_wp2
        go_ret
        exact ⟨ret_b (by simp [raE]), nstep hb3 hb⟩
    · by_cases h4 : op = 4 ∨ op = 12
      · rcases h4 with rfl | rfl
        · go_wp2
          have hS0 : (((w.alloc (Obj.cells #[Value.slice ad X.classes.length cap, Value.slice ah X.heap.length ch, Value.int IntKind.i64 X.epoch] 25)).alloc (Obj.cells #[Value.string m.name, Value.int IntKind.i64 m.args, Value.int IntKind.i64 m.temps, Value.int IntKind.i64 m.prim, Value.slice am m.code.length cm] 43)).alloc (Obj.cells #[Value.int IntKind.i64 4, Value.int IntKind.i64 xa, Value.int IntKind.i64 xb, Value.int IntKind.i64 xc, Value.string nm] 62)).drew.cell? ⟨w.heap.size + 1 + 1, 1, none⟩ = some (.int .i64 xa) ∧ (((w.alloc (Obj.cells #[Value.slice ad X.classes.length cap, Value.slice ah X.heap.length ch, Value.int IntKind.i64 X.epoch] 25)).alloc (Obj.cells #[Value.string m.name, Value.int IntKind.i64 m.args, Value.int IntKind.i64 m.temps, Value.int IntKind.i64 m.prim, Value.slice am m.code.length cm] 43)).alloc (Obj.cells #[Value.int IntKind.i64 4, Value.int IntKind.i64 xa, Value.int IntKind.i64 xb, Value.int IntKind.i64 xc, Value.string nm] 62)).drew.cell? ⟨w.heap.size, 0, none⟩ = some (.slice ad X.classes.length cap) ∧ (((w.alloc (Obj.cells #[Value.slice ad X.classes.length cap, Value.slice ah X.heap.length ch, Value.int IntKind.i64 X.epoch] 25)).alloc (Obj.cells #[Value.string m.name, Value.int IntKind.i64 m.args, Value.int IntKind.i64 m.temps, Value.int IntKind.i64 m.prim, Value.slice am m.code.length cm] 43)).alloc (Obj.cells #[Value.int IntKind.i64 4, Value.int IntKind.i64 xa, Value.int IntKind.i64 xb, Value.int IntKind.i64 xc, Value.string nm] 62)).drew.cell? ⟨w.heap.size, 1, none⟩ = some (.slice ah X.heap.length ch) ∧ (((w.alloc (Obj.cells #[Value.slice ad X.classes.length cap, Value.slice ah X.heap.length ch, Value.int IntKind.i64 X.epoch] 25)).alloc (Obj.cells #[Value.string m.name, Value.int IntKind.i64 m.args, Value.int IntKind.i64 m.temps, Value.int IntKind.i64 m.prim, Value.slice am m.code.length cm] 43)).alloc (Obj.cells #[Value.int IntKind.i64 4, Value.int IntKind.i64 xa, Value.int IntKind.i64 xb, Value.int IntKind.i64 xc, Value.string nm] 62)).drew.cell? ⟨w.heap.size, 2, none⟩ = some (.int .i64 X.epoch) ∧ Below w.heap.size w (((w.alloc (Obj.cells #[Value.slice ad X.classes.length cap, Value.slice ah X.heap.length ch, Value.int IntKind.i64 X.epoch] 25)).alloc (Obj.cells #[Value.string m.name, Value.int IntKind.i64 m.args, Value.int IntKind.i64 m.temps, Value.int IntKind.i64 m.prim, Value.slice am m.code.length cm] 43)).alloc (Obj.cells #[Value.int IntKind.i64 4, Value.int IntKind.i64 xa, Value.int IntKind.i64 xb, Value.int IntKind.i64 xc, Value.string nm] 62)).drew :=
            ⟨(cell_new _ _ _ _ (by simp) 1).trans rfl, cell_later (bel2 _ _ _).drew (by rw [cell_new _ _ _ _ rfl]; rfl), cell_later (bel2 _ _ _).drew (by rw [cell_new _ _ _ _ rfl]; rfl), cell_later (bel2 _ _ _).drew (by rw [cell_new _ _ _ _ rfl]; rfl), hb3.drew⟩
          generalize (((w.alloc (Obj.cells #[Value.slice ad X.classes.length cap, Value.slice ah X.heap.length ch, Value.int IntKind.i64 X.epoch] 25)).alloc (Obj.cells #[Value.string m.name, Value.int IntKind.i64 m.args, Value.int IntKind.i64 m.temps, Value.int IntKind.i64 m.prim, Value.slice am m.code.length cm] 43)).alloc (Obj.cells #[Value.int IntKind.i64 4, Value.int IntKind.i64 xa, Value.int IntKind.i64 xb, Value.int IntKind.i64 xc, Value.string nm] 62)) = W at *
          go_region_held3 (fun w' => w'.cell? ⟨w.heap.size + 1 + 1, 1, none⟩ = some (.int .i64 xa) ∧ w'.cell? ⟨w.heap.size, 0, none⟩ = some (.slice ad X.classes.length cap) ∧ w'.cell? ⟨w.heap.size, 1, none⟩ = some (.slice ah X.heap.length ch) ∧ w'.cell? ⟨w.heap.size, 2, none⟩ = some (.int .i64 X.epoch) ∧ Below w.heap.size w w')
            (first | with_reducible exact hS0 | with_reducible exact four_later (‹_ ∧ _ ∧ _ ∧ _ ∧ Below w.heap.size w _›) hb)
            (first
              | (go_at_call 33; refine (slotsW_any X c _ _ _ (hh.later goodC (‹_ ∧ _ ∧ _ ∧ _ ∧ Below w.heap.size w _›).2.2.2.2) (hH.later goodO (‹_ ∧ _ ∧ _ ∧ _ ∧ Below w.heap.size w _›).2.2.2.2)).mono ?_; rintro e w' ⟨rfl, hb⟩)
              | (go_at_call 89; refine (within_any _ _ _ _).mono ?_; rintro e w' ⟨rfl, hb⟩))
          all_goals go_wp2
          all_goals go_ret
          all_goals exact ⟨ret_b (by simp [raE]), (‹_ ∧ _ ∧ _ ∧ _ ∧ Below w.heap.size w _›).2.2.2.2⟩
        · go_wp2
          have hS0 : (((w.alloc (Obj.cells #[Value.slice ad X.classes.length cap, Value.slice ah X.heap.length ch, Value.int IntKind.i64 X.epoch] 25)).alloc (Obj.cells #[Value.string m.name, Value.int IntKind.i64 m.args, Value.int IntKind.i64 m.temps, Value.int IntKind.i64 m.prim, Value.slice am m.code.length cm] 43)).alloc (Obj.cells #[Value.int IntKind.i64 12, Value.int IntKind.i64 xa, Value.int IntKind.i64 xb, Value.int IntKind.i64 xc, Value.string nm] 62)).drew.cell? ⟨w.heap.size + 1 + 1, 1, none⟩ = some (.int .i64 xa) ∧ (((w.alloc (Obj.cells #[Value.slice ad X.classes.length cap, Value.slice ah X.heap.length ch, Value.int IntKind.i64 X.epoch] 25)).alloc (Obj.cells #[Value.string m.name, Value.int IntKind.i64 m.args, Value.int IntKind.i64 m.temps, Value.int IntKind.i64 m.prim, Value.slice am m.code.length cm] 43)).alloc (Obj.cells #[Value.int IntKind.i64 12, Value.int IntKind.i64 xa, Value.int IntKind.i64 xb, Value.int IntKind.i64 xc, Value.string nm] 62)).drew.cell? ⟨w.heap.size, 0, none⟩ = some (.slice ad X.classes.length cap) ∧ (((w.alloc (Obj.cells #[Value.slice ad X.classes.length cap, Value.slice ah X.heap.length ch, Value.int IntKind.i64 X.epoch] 25)).alloc (Obj.cells #[Value.string m.name, Value.int IntKind.i64 m.args, Value.int IntKind.i64 m.temps, Value.int IntKind.i64 m.prim, Value.slice am m.code.length cm] 43)).alloc (Obj.cells #[Value.int IntKind.i64 12, Value.int IntKind.i64 xa, Value.int IntKind.i64 xb, Value.int IntKind.i64 xc, Value.string nm] 62)).drew.cell? ⟨w.heap.size, 1, none⟩ = some (.slice ah X.heap.length ch) ∧ (((w.alloc (Obj.cells #[Value.slice ad X.classes.length cap, Value.slice ah X.heap.length ch, Value.int IntKind.i64 X.epoch] 25)).alloc (Obj.cells #[Value.string m.name, Value.int IntKind.i64 m.args, Value.int IntKind.i64 m.temps, Value.int IntKind.i64 m.prim, Value.slice am m.code.length cm] 43)).alloc (Obj.cells #[Value.int IntKind.i64 12, Value.int IntKind.i64 xa, Value.int IntKind.i64 xb, Value.int IntKind.i64 xc, Value.string nm] 62)).drew.cell? ⟨w.heap.size, 2, none⟩ = some (.int .i64 X.epoch) ∧ Below w.heap.size w (((w.alloc (Obj.cells #[Value.slice ad X.classes.length cap, Value.slice ah X.heap.length ch, Value.int IntKind.i64 X.epoch] 25)).alloc (Obj.cells #[Value.string m.name, Value.int IntKind.i64 m.args, Value.int IntKind.i64 m.temps, Value.int IntKind.i64 m.prim, Value.slice am m.code.length cm] 43)).alloc (Obj.cells #[Value.int IntKind.i64 12, Value.int IntKind.i64 xa, Value.int IntKind.i64 xb, Value.int IntKind.i64 xc, Value.string nm] 62)).drew :=
            ⟨(cell_new _ _ _ _ (by simp) 1).trans rfl, cell_later (bel2 _ _ _).drew (by rw [cell_new _ _ _ _ rfl]; rfl), cell_later (bel2 _ _ _).drew (by rw [cell_new _ _ _ _ rfl]; rfl), cell_later (bel2 _ _ _).drew (by rw [cell_new _ _ _ _ rfl]; rfl), hb3.drew⟩
          generalize (((w.alloc (Obj.cells #[Value.slice ad X.classes.length cap, Value.slice ah X.heap.length ch, Value.int IntKind.i64 X.epoch] 25)).alloc (Obj.cells #[Value.string m.name, Value.int IntKind.i64 m.args, Value.int IntKind.i64 m.temps, Value.int IntKind.i64 m.prim, Value.slice am m.code.length cm] 43)).alloc (Obj.cells #[Value.int IntKind.i64 12, Value.int IntKind.i64 xa, Value.int IntKind.i64 xb, Value.int IntKind.i64 xc, Value.string nm] 62)) = W at *
          go_region_held3 (fun w' => w'.cell? ⟨w.heap.size + 1 + 1, 1, none⟩ = some (.int .i64 xa) ∧ w'.cell? ⟨w.heap.size, 0, none⟩ = some (.slice ad X.classes.length cap) ∧ w'.cell? ⟨w.heap.size, 1, none⟩ = some (.slice ah X.heap.length ch) ∧ w'.cell? ⟨w.heap.size, 2, none⟩ = some (.int .i64 X.epoch) ∧ Below w.heap.size w w')
            (first | with_reducible exact hS0 | with_reducible exact four_later (‹_ ∧ _ ∧ _ ∧ _ ∧ Below w.heap.size w _›) hb)
            (first
              | (go_at_call 33; refine (slotsW_any X c _ _ _ (hh.later goodC (‹_ ∧ _ ∧ _ ∧ _ ∧ Below w.heap.size w _›).2.2.2.2) (hH.later goodO (‹_ ∧ _ ∧ _ ∧ _ ∧ Below w.heap.size w _›).2.2.2.2)).mono ?_; rintro e w' ⟨rfl, hb⟩)
              | (go_at_call 89; refine (within_any _ _ _ _).mono ?_; rintro e w' ⟨rfl, hb⟩))
          all_goals go_wp2
          all_goals go_ret
          all_goals exact ⟨ret_b (by simp [raE]), (‹_ ∧ _ ∧ _ ∧ _ ∧ Below w.heap.size w _›).2.2.2.2⟩
      · by_cases h5 : op = 15 ∨ op = 16
        · rcases h5 with rfl | rfl
          all_goals
            go_wp2_with fail
            refine (within_any _ _ _ _).mono ?_
            rintro e w1 ⟨rfl, hb⟩
            go_wp2
            go_ret
            exact ⟨ret_b (by simp [raE]), nstep hb3 hb⟩
        · by_cases h6 : op = 14
          · subst h6
            go_wp2_with fail
            refine (within_any _ _ _ _).mono ?_
            rintro e w1 ⟨rfl, hb⟩
            go_wp2
            go_ret
            exact ⟨ret_b (by simp [raE]), nstep hb3 hb⟩
          · by_cases h7 : op = 5
            · subst h7
              go_wp2_with fail
              refine (within_any _ _ _ _).mono ?_
              rintro e w1 ⟨rfl, hb⟩
              go_wp2
              go_ret
              exact ⟨ret_b (by simp [raE]), nstep hb3 hb⟩
            · by_cases h8 : op = 13
              · subst h8
                by_cases h9 : xa = 0
                · subst h9
                  go_wp2
                  go_ret
                  exact ⟨ret_b (by simp [raE]), hb3⟩
                · have h9' : (xa == 0) = false := by simpa using h9
                  go_wp2_with fail
                  refine (within_any _ _ _ _).mono ?_
                  rintro e w1 ⟨rfl, hb⟩
                  go_wp2
                  go_ret
                  exact ⟨ret_b (by simp [raE, h9]), nstep hb3 hb⟩
              · have n1 : ¬ op = 3 := fun h => h3 (Or.inl h)
                have n2 : ¬ op = 11 := fun h => h3 (Or.inr h)
                have n3 : ¬ op = 4 := fun h => h4 (Or.inl h)
                have n4 : ¬ op = 12 := fun h => h4 (Or.inr h)
                have n5 : ¬ op = 15 := fun h => h5 (Or.inl h)
                have n6 : ¬ op = 16 := fun h => h5 (Or.inr h)
                go_wp2
                go_ret
                exact ⟨ret_b (by simp [raE, h2, h6, h7, h8, n1, n2, n3, n4, n5, n6]; rw [Bool.eq_iff_iff]; simp), hb3⟩
end Go.Proofs.YtjmidhghiahbaaaGreatDoor
