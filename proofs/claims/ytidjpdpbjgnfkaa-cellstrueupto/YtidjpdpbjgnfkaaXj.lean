/- The reference's Put: what it does with a cell. -/
import Derived.Test.YtidjpdpbjgnfkaaXi
import Derived.Test.YtidjpdpbjgnfkaaXh
import Derived.Deep.RegionHeld3
import Derived.Test.YtidjpdpbjgnfkaaTk
namespace Go.Proofs.Ytidjpdpbjgnfkaa
open Go.ChangeShapes Go.WideShapes Go.ChangeAt Go.RowKit
set_option linter.unusedSimpArgs false
set_option linter.unusedVariables false
set_option maxRecDepth 8000

theorem blk_drew (w : World) (n : Nat) : w.drew.heap[n]? = w.heap[n]? := rfl
theorem blk_at (w : World) (o : Obj) (n : Nat) : (w.alloc o).heap[n]? = if n = w.heap.size then some o else w.heap[n]? := by
  show (w.heap.push o)[n]? = _
  rw [Array.getElem?_push]
theorem siz_drew (w : World) : w.drew.heap.size = w.heap.size := rfl
theorem siz_alloc (w : World) (o : Obj) : (w.alloc o).heap.size = w.heap.size + 1 := by simp
/-- Whether a line of class c is among them. -/
def anyL (ls : List QL) (c : Int) : Bool := ls.any fun y => y.cls == c
theorem anyL_snoc (ls : List QL) (y : QL) (c : Int) : anyL (ls ++ [y]) c = (anyL ls c || y.cls == c) := by simp [anyL]
theorem anyL_find (ls : List QL) (c : Int) : anyL ls c = true ↔ 0 ≤ findI (fun y : QL => y.cls == c) ls := by
  rcases findI_cases (fun y : QL => y.cls == c) ls with hf | ⟨j, y, hf, hy, hp, -⟩
  · rw [hf]
    have := find_none hf
    rw [List.find?_eq_none] at this
    constructor
    · intro h
      unfold anyL at h
      rw [List.any_eq_true] at h
      obtain ⟨y, hy, hc⟩ := h
      exact absurd hc (this y hy)
    · intro h; omega
  · rw [hf]
    refine ⟨fun _ => by omega, fun _ => ?_⟩
    unfold anyL
    rw [List.any_eq_true]
    exact ⟨y, List.mem_of_getElem? hy, hp⟩
theorem withLine_has {x : QE} {y : QL} (h : (x.many || anyL x.lines y.cls) = true) : withLineE x y = x := by
  unfold withLineE
  rw [if_pos]
  rw [Bool.or_eq_true] at h
  rcases h with h | h
  · exact Or.inl h
  · exact Or.inr ((anyL_find _ _).1 h)
theorem withLine_no {x : QE} {y : QL} (h : (x.many || anyL x.lines y.cls) = false) : withLineE x y = if 3 ≤ x.lines.length then ⟨x.site, x.epoch, true, []⟩ else ⟨x.site, x.epoch, false, x.lines ++ [y]⟩ := by
  rw [Bool.or_eq_false_iff] at h
  unfold withLineE
  rw [if_neg, h.1]
  rw [h.1, ← anyL_find, h.2]
  simp

set_option maxHeartbeats 4000000 in
theorem radd_any (B : Nat) (s : QS) (ep c fd : Int) (ov : Value) (pre : List QE) (d : Bool) (x : QE) (lv : Value) (w : World) (h : PutR B s ep c fd ov pre d w) (hl : IsLines (fun b => b < B) w lv x.lines) (hb1 : pre.length + 1 ≤ maxLen) (hb2 : (pre.length + 1) * 72 ≤ 140737488355328) :
    Calls Try.prog 32 #[EV x lv, .pointer (some ⟨B + 1, 0, none⟩), .pointer (some ⟨B, 0, none⟩), .pointer (some ⟨B + 2, 0, none⟩), .pointer (some ⟨B + 3, 0, none⟩), .pointer (some ⟨B + 4, 0, none⟩), .pointer (some ⟨B + 5, 0, none⟩)] w
      fun e w' => e = .returned (.tuple #[]) ∧ ∃ ov', PutR B s ep c fd ov' (pre ++ [withLineE (freshE x s ep) ⟨c, fd⟩]) true w' ∧ Below (B + 4) w w' := by
  obtain ⟨X, LV', hX, hXl, hXL⟩ : ∃ X LV', X = freshE x s ep ∧ (LV' = (if x.epoch = ep then lv else .slice none 0 0)) ∧ IsLines (fun b => b < B) w LV' X.lines := by
    refine ⟨_, _, rfl, rfl, ?_⟩
    unfold freshE
    by_cases he : x.epoch = ep
    · rw [if_pos he, if_pos he]; exact hl
    · rw [if_neg he, if_neg he]; exact ⟨none, 0, rfl, by simp, by simp, by simp, fun i x hx => by simp at hx⟩
  have hbx := bel1 w (.cells #[.int .i64 X.site.cls, .string X.site.name, .int .i64 X.site.at', .int .i64 X.epoch, .bool X.many, LV'] 49)
  have hbox := boxE_new w X LV' 49
  have hP1 := h.later hbx
  have hl1 := hXL.later goodL hbx
  have hz1 : (w.alloc (.cells #[.int .i64 X.site.cls, .string X.site.name, .int .i64 X.site.at', .int .i64 X.epoch, .bool X.many, LV'] 49)).heap.size = w.heap.size + 1 := by simp
  have hfz1 := fun o => frozen_new w #[.int .i64 X.site.cls, .string X.site.name, .int .i64 X.site.at', .int .i64 X.epoch, .bool X.many, LV'] 49 w.heap.size o rfl
  obtain ⟨s0, s1, s2⟩ := id h.site
  have k0 := fun y => cell_later (bel1 w y) s0
  have k1 := fun y => cell_later (bel1 w y) s1
  have k2 := fun y => cell_later (bel1 w y) s2
  have ke := fun y => cell_later (bel1 w y) h.e
  have hzB := h.sz
  rw [← hX]
  go_enter Try.func32, Try.ntmps32
  go_upto_if 14 with (fail)
  go_cut [] (fun wx => wx = (w.alloc (.cells #[.int .i64 X.site.cls, .string X.site.name, .int .i64 X.site.at', .int .i64 X.epoch, .bool X.many, LV'] 49)))
  case first =>
    by_cases he : x.epoch = ep
    · have hd : (x.epoch != ep) = false := by simpa using he
      have HXX : Hid (X = x) := by show _ = _; rw [hX]; unfold freshE; rw [if_pos he]
      have HLL : Hid (LV' = lv) := by show _ = _; rw [hXl, if_pos he]
      clear hX hXl hXL hbx hbox hP1 hl1 hz1 hfz1 he
      go_wp2_with fail
      go_meet
      case rel => rw [HXX.out, HLL.out]
    · have hd : (x.epoch != ep) = true := by simpa using he
      have HXX : Hid (X = ⟨s, ep, false, []⟩) := by show _ = _; rw [hX]; unfold freshE; rw [if_neg he]
      have HLL : Hid (LV' = .slice none 0 0) := by show _ = _; rw [hXl, if_neg he]
      clear hX hXl hXL hbx hbox hP1 hl1 hz1 hfz1
      go_wp2_with fail
      go_meet
      case rel => rw [HXX.out, HLL.out]
  case rest =>
    subst hcut
    clear hX hXl hXL hl k0 k1 k2 ke s0 s1 s2
    generalize (w.alloc (.cells #[.int .i64 X.site.cls, .string X.site.name, .int .i64 X.site.at', .int .i64 X.epoch, .bool X.many, LV'] 49)) = W1 at *
    have hbw1 : Below (B + 4) w W1 := hbx.mono (by omega)
    have HP0 : Hid (∀ w', Below w.heap.size w w' → PutR B s ep c fd ov pre d w') := fun w' hb => h.later hb
    have HQ : Hid (∀ w', Below W1.heap.size W1 w' → Below w.heap.size w w') := fun w' hb => hbx.trans (hb.mono hbx.size)
    clear hbx h
    generalize w.heap.size = XB at *
    obtain ⟨c0, c1, c2, c3, c4, c5⟩ := id hbox
    obtain ⟨al, cl, rfl, hcl1, hcl2, -, -⟩ := id hl1
    unfold maxLen at hcl2
    go_wp2
    go_loopg [8, 23] X.lines.length (fun g hs i wr => ∃ q : Nat, q + g = X.lines.length ∧ i = .int .i64 q ∧ hs = .bool (X.many || anyL (X.lines.take q) c) ∧ Below W1.heap.size W1 wr)
    case atStart => exact ⟨0, by omega, rfl, by simp [anyL], Below.refl _ _⟩
    case round =>
      obtain ⟨q, hq, rfl, rfl, hbq⟩ := hrel
      have hPq := hP1.later hbq
      have hboxq := hbox.later hbq
      have hlq := hl1.later goodL hbq
      have hzq := hbq.size
      by_cases hltq : q < X.lines.length
      · obtain ⟨ad3, cap3, e3, -, -, -, hrow3⟩ := id hlq
        simp only [Value.slice.injEq] at e3
        obtain ⟨rfl, -, -⟩ := e3
        obtain ⟨b3, o3, rfl, -, y0, y1⟩ := hrow3 q X.lines[q] (by simp [hltq])
        have hyq : Hid (X.lines[q]? = some X.lines[q]) := by show _ = _; simp [hltq]
        generalize X.lines[q] = y at *
        have HN : Hid (anyL (X.lines.take (q + 1)) c = (anyL (X.lines.take q) c || y.cls == c)) := by show _ = _; rw [take_snoc hyq.out, anyL_snoc]
        simp only [Nat.add_zero] at y0
        have hq1 : (q : Int) < (X.lines.length : Int) := by omega
        have hq0 : (0 : Int) ≤ (q : Int) := by omega
        have hby := bel1 wr (Obj.cells #[Value.int IntKind.i64 y.cls, Value.int IntKind.i64 y.found] 55)
        have kc := fun y => cell_later (bel1 wr y) hPq.c
        clear hrow3
        cases hH : (X.many || anyL (X.lines.take q) c) with
        | true =>
          have HR : Hid ((X.many || anyL (X.lines.take (q + 1)) c) = true) := by show _ = _; rw [HN.out, ← Bool.or_assoc, hH]; rfl
          clear hH
          go_wp2
          go_roundg (gk - 1)
          case measure => omega
          case rel => exact ⟨q + 1, by omega, by go_num, by rw [HR.out], nstep hbq hby⟩
        | false =>
          have HR : Hid ((X.many || anyL (X.lines.take (q + 1)) c) = (y.cls == c)) := by show _ = _; rw [HN.out, ← Bool.or_assoc, hH]; rfl
          clear hH
          go_wp2
          go_roundg (gk - 1)
          case measure => omega
          case rel => exact ⟨q + 1, by omega, by go_num, by rw [HR.out], nstep hbq hby⟩
      · obtain rfl : q = X.lines.length := by omega
        have HTq : Hid (X.lines.take X.lines.length = X.lines) := List.take_of_length_le (Nat.le_refl _)
        rw [HTq.out]
        have hbwq : Below (B + 4) w wr := hbw1.trans (hbq.mono (by omega))
        have hfq := fun o => (hbq.frozen (p := ⟨XB, o, none⟩) (by simp; omega)).trans (hfz1 o)
        clear hP1 hbox hl1 hfz1 hbw1 c0 c1 c2 c3 c4 c5
        obtain ⟨c0, c1, c2, c3, c4, c5⟩ := id hboxq
        have eo := hPq.o
        have fo := hPq.fo
        have ed := hPq.d
        have fd' := hPq.fd
        obtain ⟨aov, cov, rfl⟩ := hPq.out.form
        have hob := hPq.out.block
        cases hH : (X.many || anyL X.lines c) with
        | true =>
          have HW : Hid (withLineE X ⟨c, fd⟩ = X) := withLine_has hH
          clear hH
          go_wp2_with (at_builtin; refine wpList_append_outN goodE rfl (.tmp 57) (.tmp 59) 22 rfl 49 _ 72 Try.underlying22 info49 rfl (B + 6) _ pre rfl (hPq.out.later goodE (bel1 _ _)) _ 49 [.int .i64 X.site.cls, .string X.site.name, .int .i64 X.site.at', .int .i64 X.epoch, .bool X.many, .slice al X.lines.length cl] rfl (heap_alloc_new _ _) rfl X (R' := fun b => b < B) ⟨rfl, rfl, rfl, rfl, rfl, _, rfl, hlq.later goodL (bel1 _ _)⟩ (fun b hb => ⟨Or.inl hb, by simp; omega, fun e => by have := (hob b e.symm).1; omega⟩) (by simp; omega) hb1 hb2 ?_; intro g3 cap3 w3 hout3 hbel3; have hb3 := ((bel1 _ _).mono (show B + 6 ≤ wr.heap.size by omega)).trans hbel3; have hP3 := hPq.next hb3 hout3; have ed3 := hP3.d; have fd3 := hP3.fd; have eo3 := (hb3.cell (p := ⟨B + 4, 0, none⟩) (by simp)).trans eo; have fo3 := (hb3.frozen (p := ⟨B + 4, 0, none⟩) (by simp)).trans fo)
          refine bodyPost_end (v := .tuple #[]) (by simp [results, Try.results32, go_sem]) rfl ⟨rfl, _, by rw [HW.out]; exact hP3.done true, ((hbwq.trans (hb3.mono (by omega))).setCell (by simp) _).setCell (by simp) _⟩
        | false =>
          have hbXw := HQ.out _ hbq
          have hne4 : ¬ XB = B + 4 := by omega
          have hne5 : ¬ XB = B + 5 := by omega
          have hne4' : ¬ B + 4 = XB := by omega
          have hne5' : ¬ B + 5 = XB := by omega
          by_cases h3 : 3 ≤ X.lines.length
          · have h3' : (3 : Int) ≤ (X.lines.length : Int) := by omega
            have HW : Hid (withLineE X ⟨c, fd⟩ = ⟨X.site, X.epoch, true, []⟩) := by show _ = _; rw [withLine_no hH, if_pos h3]
            clear hH
            have hS4 := (hbXw.setCell (p := ⟨XB, 4, none⟩) (Nat.le_refl _) (.bool true)).setCell (p := ⟨XB, 5, none⟩) (Nat.le_refl _) (.slice none 0 0)
            have hP4 := HP0.out _ hS4
            have hz4 := hP4.sz
            have eo4 := hP4.o
            have fo4 := hP4.fo
            have ob4 := hP4.out.block
            go_wp2_with (at_builtin; refine wpList_append_outN goodE rfl (.tmp 57) (.tmp 59) 22 rfl 49 _ 72 Try.underlying22 info49 rfl (B + 6) _ pre rfl (hP4.out.later goodE (bel1 _ _)) _ 49 [.int .i64 X.site.cls, .string X.site.name, .int .i64 X.site.at', .int .i64 X.epoch, .bool true, .slice none 0 0] rfl (blkN _ _ _ (by simp)) rfl ⟨X.site, X.epoch, true, []⟩ (R' := fun b => False) ⟨rfl, rfl, rfl, rfl, rfl, _, rfl, none, 0, rfl, by simp, by simp, by simp, fun i x hx => by simp at hx⟩ (fun b hb => hb.elim) (by simp; omega) hb1 hb2 ?_; intro g3 cap3 w3 hout3 hbel3; have hb3 := ((bel1 _ _).mono hz4).trans hbel3; have hP3 := hP4.next hb3 hout3; have ed3 := hP3.d; have fd3 := hP3.fd; have eo3 := (hb3.cell (p := ⟨B + 4, 0, none⟩) (by simp)).trans eo4; have fo3 := (hb3.frozen (p := ⟨B + 4, 0, none⟩) (by simp)).trans fo4)
            refine bodyPost_end (v := .tuple #[]) (by simp [results, Try.results32, go_sem]) rfl ⟨rfl, _, by rw [HW.out]; exact hP3.done true, (((hS4.mono (by omega)).trans (hb3.mono (by omega))).setCell (by simp) _).setCell (by simp) _⟩
          · have h3' : (X.lines.length : Int) < (3 : Int) := by omega
            have HW : Hid (withLineE X ⟨c, fd⟩ = ⟨X.site, X.epoch, false, X.lines ++ [⟨c, fd⟩]⟩) := by show _ = _; rw [withLine_no hH, if_neg h3]
            have HM : Hid (X.many = false) := by
              rw [Bool.or_eq_false_iff] at hH; exact hH.1
            clear hH
            go_wp2
            have hSl : ∀ w', Below wr.heap.size wr w' → w'.cell? ⟨XB, 5, none⟩ = some (.slice al X.lines.length cl) ∧ w'.cell? ⟨B + 2, 0, none⟩ = some (.int .i64 c) ∧ w'.cell? ⟨B + 3, 0, none⟩ = some (.int .i64 fd) ∧ Below wr.heap.size wr w' := fun w' hb => ⟨cell_later hb c5, cell_later hb hPq.c, cell_later hb hPq.f, hb⟩
            have hS0 := hSl _ (Below.refl _ wr).drew
            refine wp_region_last (S := fun w' => w'.cell? ⟨XB, 5, none⟩ = some (.slice al X.lines.length cl) ∧ w'.cell? ⟨B + 2, 0, none⟩ = some (.int .i64 c) ∧ w'.cell? ⟨B + 3, 0, none⟩ = some (.int .i64 fd) ∧ Below wr.heap.size wr w') 10 (by kernel_rfl) ?_
            refine wpAnyL_take (i := 1) (oi := { dst := some 48, op := .fieldAddr 49 (.tmp 7) 3, type := 0, pos := "ref.go:578", after := #[], guard := none }) (v := .pointer (some ⟨XB, 5, none⟩)) (by kernel_rfl) rfl rfl (by kernel_rfl) (by kernel_rfl) (by kernel_rfl) (fun _ _ _ h => h) (Or.inl ⟨by rfl, ?_⟩) hS0 ?_
            · intro w hSw
              obtain ⟨q5, qc, qf, -⟩ := hSw
              go_simp
            try simp only [Act.put, List.setIfInBounds_toArray, List.set_cons_zero, List.set_cons_succ]
            refine wpAnyL_take (i := 2) (oi := { dst := some 49, op := .load 47 (.tmp 48), type := 47, pos := "ref.go:578", after := #[{ on := 1, ground := .data }], guard := none }) (v := .slice al X.lines.length cl) (by kernel_rfl) rfl rfl (by kernel_rfl) (by kernel_rfl) (by kernel_rfl) (fun _ _ _ h => h) (Or.inl ⟨by rfl, ?_⟩) hS0 ?_
            · intro w hSw
              obtain ⟨q5, qc, qf, -⟩ := hSw
              go_simp
            try simp only [Act.put, List.setIfInBounds_toArray, List.set_cons_zero, List.set_cons_succ]
            refine wpAnyL_take (i := 4) (oi := { dst := some 51, op := .load 3 (.tmp 3), type := 3, pos := "ref.go:578", after := #[], guard := none }) (v := .int .i64 c) (by kernel_rfl) rfl rfl (by kernel_rfl) (by kernel_rfl) (by kernel_rfl) (fun _ _ _ h => h) (Or.inl ⟨by rfl, ?_⟩) hS0 ?_
            · intro w hSw
              obtain ⟨q5, qc, qf, -⟩ := hSw
              go_simp
            try simp only [Act.put, List.setIfInBounds_toArray, List.set_cons_zero, List.set_cons_succ]
            refine wpAnyL_take (i := 5) (oi := { dst := some 52, op := .load 3 (.tmp 4), type := 3, pos := "ref.go:578", after := #[], guard := none }) (v := .int .i64 fd) (by kernel_rfl) rfl rfl (by kernel_rfl) (by kernel_rfl) (by kernel_rfl) (fun _ _ _ h => h) (Or.inl ⟨by rfl, ?_⟩) hS0 ?_
            · intro w hSw
              obtain ⟨q5, qc, qf, -⟩ := hSw
              go_simp
            try simp only [Act.put, List.setIfInBounds_toArray, List.set_cons_zero, List.set_cons_succ]
            refine wpAnyL_take (i := 6) (oi := { dst := some 53, op := .build 55 #[(0, .tmp 51), (1, .tmp 52)], type := 55, pos := "ref.go:578", after := #[{ on := 4, ground := .data }, { on := 5, ground := .data }], guard := none }) (v := .agg #[.int .i64 c, .int .i64 fd]) (by kernel_rfl) rfl rfl (by kernel_rfl) (by kernel_rfl) (by kernel_rfl) (fun _ _ _ h => h) (Or.inl ⟨by rfl, ?_⟩) hS0 ?_
            · intro w hSw
              obtain ⟨q5, qc, qf, -⟩ := hSw
              go_simp
            try simp only [Act.put, List.setIfInBounds_toArray, List.set_cons_zero, List.set_cons_succ]
            refine wpAnyL_ready (rs := [0, 7]) (by kernel_rfl) (by simp) ?_
            intro i hi
            simp only [List.mem_cons, List.not_mem_nil, or_false] at hi
            rcases hi with rfl | rfl
            · refine stepL (o := { dst := some 47, op := .buildSlice 47 0 #[], type := 47, pos := "ref.go:578", after := #[], guard := none }) rfl (fun K hK => ?_)
              go_simp
              refine hK _ _ (fun _ => hSl _ ((bel1 _ _).drew)) ?_
              clear hK K
              try simp only [Act.put, List.setIfInBounds_toArray, List.set_cons_zero, List.set_cons_succ]
              refine wpAnyL_ready (rs := [3, 7]) (by kernel_rfl) (by simp) ?_
              intro i hi
              simp only [List.mem_cons, List.not_mem_nil, or_false] at hi
              rcases hi with rfl | rfl
              · refine stepL (o := { dst := some 50, op := .call { callee := .builtin .append, args := #[.tmp 47, .tmp 49], argTypes := #[47, 47] }, type := 47, pos := "ref.go:578", after := #[{ on := 0, ground := .data }, { on := 2, ground := .data }], guard := none }) rfl (fun K hK => ?_)
                refine step_lines_src (by rfl) (.tmp 47) (.tmp 49) rfl wr.heap.size (wr.heap.size) rfl (by (try rw [blk_drew]); first | exact heap_alloc_new _ _ | exact blkN _ _ _ (by simp) | exact ((bel1 _ _).block _ (by simp)).trans (heap_alloc_new _ _)) (by omega) al cl X.lines rfl (hlq.later goodL ((bel1 _ _).drew)) (by omega) ?_
                intro g4 cap4 w4 hout4 hb4
                have hbB := nstep ((bel1 _ _).drew) hb4
                refine hK _ _ (fun _ => hSl _ hbB) ?_
                clear hK K
                try simp only [Act.put, List.setIfInBounds_toArray, List.set_cons_zero, List.set_cons_succ]
                refine wpAnyL_ready (rs := [7]) (by kernel_rfl) (by simp) ?_
                intro i hi
                simp only [List.mem_cons, List.not_mem_nil, or_false] at hi
                subst hi
                refine stepL (o := { dst := some 54, op := .buildSlice 47 1 #[(0, .tmp 53)], type := 47, pos := "ref.go:578", after := #[{ on := 6, ground := .data }], guard := none }) rfl (fun K hK => ?_)
                go_simp
                refine hK _ _ (fun _ => hSl _ (hbB.alloc hbB.size _)) ?_
                clear hK K
                try simp only [Act.put, List.setIfInBounds_toArray, List.set_cons_zero, List.set_cons_succ]
                refine wpAnyL_ready (rs := [8]) (by kernel_rfl) (by simp) ?_
                intro i hi
                simp only [List.mem_cons, List.not_mem_nil, or_false] at hi
                subst hi
                refine stepL (o := { dst := some 55, op := .call { callee := .builtin .append, args := #[.tmp 50, .tmp 54], argTypes := #[47, 47] }, type := 47, pos := "ref.go:578", after := #[{ on := 3, ground := .data }, { on := 7, ground := .data }, { on := 3, ground := .chain }], guard := none }) rfl (fun K hK => ?_)
                refine step_lines_out (by rfl) (.tmp 50) (.tmp 54) rfl wr.heap.size _ X.lines rfl (hout4.later goodL (bel1 _ _)) (hbB.alloc hbB.size (.cells #[.int .i64 c, .int .i64 fd] 55)).size (w4.heap.size) ⟨c, fd⟩ rfl (heap_alloc_new _ _) (by omega) ?_
                intro g8 cap8 w8 hout8 hb8
                have hbC := (hbB.alloc hbB.size (.cells #[.int .i64 c, .int .i64 fd] 55)).trans hb8
                refine hK _ _ (fun _ => hSl _ hbC) ?_
                clear hK K
                try simp only [Act.put, List.setIfInBounds_toArray, List.set_cons_zero, List.set_cons_succ]
                refine wpAnyL_take (i := 9) (oi := { dst := some 56, op := .fieldAddr 49 (.tmp 7) 3, type := 0, pos := "ref.go:578", after := #[{ on := 0, ground := .phase }, { on := 1, ground := .phase }, { on := 2, ground := .phase }, { on := 3, ground := .phase }, { on := 4, ground := .phase }, { on := 5, ground := .phase }, { on := 6, ground := .phase }, { on := 7, ground := .phase }, { on := 8, ground := .phase }], guard := none }) (v := .pointer (some ⟨XB, 5, none⟩)) (by kernel_rfl) rfl rfl (by kernel_rfl) (by kernel_rfl) (by kernel_rfl) (fun _ _ _ h => h) (Or.inl ⟨by rfl, ?_⟩) (hSl _ hbC) ?_
                · intro w hSw
                  obtain ⟨q5, qc, qf, -⟩ := hSw
                  go_simp
                try simp only [Act.put, List.setIfInBounds_toArray, List.set_cons_zero, List.set_cons_succ]
                refine wpAnyL_ready (rs := [10]) (by kernel_rfl) (by simp) ?_
                intro i hi
                simp only [List.mem_cons, List.not_mem_nil, or_false] at hi
                subst hi
                refine stepL (o := { dst := none, op := .store 47 (.tmp 56) (.tmp 55), type := 0, pos := "ref.go:578", after := #[{ on := 9, ground := .data }, { on := 8, ground := .data }, { on := 8, ground := .chain }, { on := 0, ground := .phase }, { on := 1, ground := .phase }, { on := 2, ground := .phase }, { on := 3, ground := .phase }, { on := 4, ground := .phase }, { on := 5, ground := .phase }, { on := 6, ground := .phase }, { on := 7, ground := .phase }, { on := 8, ground := .phase }], guard := none }) rfl (fun K hK => ?_)
                have c58 := cell_later hbC c5
                have f58 := (hbC.frozen (p := ⟨XB, 5, none⟩) (by simp; omega)).trans (hfq 5)
                go_simp
                refine hK _ _ (fun h => absurd rfl h) ?_
                clear hK K
                refine wpAnyL_done (by kernel_rfl) ?_ _
                try simp only [Act.put, List.setIfInBounds_toArray, List.set_cons_zero, List.set_cons_succ]
                have hS4 := (HQ.out _ (nstep hbq hbC)).setCell (p := ⟨XB, 5, none⟩) (Nat.le_refl _) (.slice (some ⟨g8, 0, none⟩) (X.lines.length + 1) cap8)
                have hP4 := HP0.out _ hS4
                have hz4 := hP4.sz
                have hz8 := hbC.size
                have eo4 := hP4.o
                have fo4 := hP4.fo
                have ob4 := hP4.out.block
                have hl8 := hout8.lines.keep goodL (Keeps.of_setCell (a := ⟨XB, 5, none⟩) (by intro h; have := h.1; simp at this; omega) (.slice (some ⟨g8, 0, none⟩) (X.lines.length + 1) cap8)) (fun _ h => h)
                obtain ⟨x0, x1, x2, x3, x4, x5⟩ := hboxq.later hbC
                have ed8 := cell_later hbC ed
                have fd8 := (hbC.frozen (p := ⟨B + 5, 0, none⟩) (by simp; omega)).trans fd'
                rw [HM.out] at x4
                clear c0 c1 c2 c3 c4 c5 eo fo ed fd' hS0 hSl hlq hboxq hPq
                go_wp2_with (at_builtin; refine wpList_append_outN goodE rfl (.tmp 57) (.tmp 59) 22 rfl 49 _ 72 Try.underlying22 info49 rfl (B + 6) _ pre rfl (hP4.out.later goodE (bel1 _ _)) _ 49 [.int .i64 X.site.cls, .string X.site.name, .int .i64 X.site.at', .int .i64 X.epoch, .bool false, .slice (some ⟨g8, 0, none⟩) (X.lines.length + 1) cap8] rfl (blkN _ _ _ (by simp)) rfl ⟨X.site, X.epoch, false, X.lines ++ [⟨c, fd⟩]⟩ (R' := fun b => wr.heap.size ≤ b ∧ b < w8.heap.size) ⟨rfl, rfl, rfl, rfl, rfl, _, rfl, hl8.later goodL (bel1 _ _)⟩ (fun b hb => ⟨Or.inr (by omega), by simp; omega, fun e => by have := (hob b e.symm).2; omega⟩) (by simp; omega) hb1 hb2 ?_; intro g9 cap9 w9 hout9 hbel9; have hb9 := ((bel1 _ _).mono hz4).trans hbel9; have hP9 := hP4.next hb9 hout9; have ed9 := hP9.d; have fd9 := hP9.fd; have eo9 := (hb9.cell (p := ⟨B + 4, 0, none⟩) (by simp)).trans eo4; have fo9 := (hb9.frozen (p := ⟨B + 4, 0, none⟩) (by simp)).trans fo4)
                refine bodyPost_end (v := .tuple #[]) (by simp [results, Try.results32, go_sem]) rfl ⟨rfl, _, by rw [HW.out]; exact hP9.done true, (((hS4.mono (by omega)).trans (hb9.mono (by omega))).setCell (by simp) _).setCell (by simp) _⟩
              · refine stepL (o := { dst := some 54, op := .buildSlice 47 1 #[(0, .tmp 53)], type := 47, pos := "ref.go:578", after := #[{ on := 6, ground := .data }], guard := none }) rfl (fun K hK => ?_)
                go_simp
                refine hK _ _ (fun _ => hSl _ ((bel2 _ _ _).drew)) ?_
                clear hK K
                try simp only [Act.put, List.setIfInBounds_toArray, List.set_cons_zero, List.set_cons_succ]
                refine wpAnyL_ready (rs := [3]) (by kernel_rfl) (by simp) ?_
                intro i hi
                simp only [List.mem_cons, List.not_mem_nil, or_false] at hi
                subst hi
                refine stepL (o := { dst := some 50, op := .call { callee := .builtin .append, args := #[.tmp 47, .tmp 49], argTypes := #[47, 47] }, type := 47, pos := "ref.go:578", after := #[{ on := 0, ground := .data }, { on := 2, ground := .data }], guard := none }) rfl (fun K hK => ?_)
                refine step_lines_src (by rfl) (.tmp 47) (.tmp 49) rfl wr.heap.size (wr.heap.size) rfl (by (try rw [blk_drew]); first | exact heap_alloc_new _ _ | exact blkN _ _ _ (by simp) | exact ((bel1 _ _).block _ (by simp)).trans (heap_alloc_new _ _)) (by omega) al cl X.lines rfl (hlq.later goodL ((bel2 _ _ _).drew)) (by omega) ?_
                intro g4 cap4 w4 hout4 hb4
                have hbB := nstep ((bel2 _ _ _).drew) hb4
                refine hK _ _ (fun _ => hSl _ hbB) ?_
                clear hK K
                try simp only [Act.put, List.setIfInBounds_toArray, List.set_cons_zero, List.set_cons_succ]
                refine wpAnyL_ready (rs := [8]) (by kernel_rfl) (by simp) ?_
                intro i hi
                simp only [List.mem_cons, List.not_mem_nil, or_false] at hi
                subst hi
                refine stepL (o := { dst := some 55, op := .call { callee := .builtin .append, args := #[.tmp 50, .tmp 54], argTypes := #[47, 47] }, type := 47, pos := "ref.go:578", after := #[{ on := 3, ground := .data }, { on := 7, ground := .data }, { on := 3, ground := .chain }], guard := none }) rfl (fun K hK => ?_)
                refine step_lines_out (by rfl) (.tmp 50) (.tmp 54) rfl wr.heap.size _ X.lines rfl (hout4) (hbB).size (wr.heap.size + 1) ⟨c, fd⟩ rfl (by rw [hb4.block _ (by simp)]; (try rw [blk_drew]); exact blkN _ _ _ (by simp)) (by omega) ?_
                intro g8 cap8 w8 hout8 hb8
                have hbC := (hbB).trans hb8
                refine hK _ _ (fun _ => hSl _ hbC) ?_
                clear hK K
                try simp only [Act.put, List.setIfInBounds_toArray, List.set_cons_zero, List.set_cons_succ]
                refine wpAnyL_take (i := 9) (oi := { dst := some 56, op := .fieldAddr 49 (.tmp 7) 3, type := 0, pos := "ref.go:578", after := #[{ on := 0, ground := .phase }, { on := 1, ground := .phase }, { on := 2, ground := .phase }, { on := 3, ground := .phase }, { on := 4, ground := .phase }, { on := 5, ground := .phase }, { on := 6, ground := .phase }, { on := 7, ground := .phase }, { on := 8, ground := .phase }], guard := none }) (v := .pointer (some ⟨XB, 5, none⟩)) (by kernel_rfl) rfl rfl (by kernel_rfl) (by kernel_rfl) (by kernel_rfl) (fun _ _ _ h => h) (Or.inl ⟨by rfl, ?_⟩) (hSl _ hbC) ?_
                · intro w hSw
                  obtain ⟨q5, qc, qf, -⟩ := hSw
                  go_simp
                try simp only [Act.put, List.setIfInBounds_toArray, List.set_cons_zero, List.set_cons_succ]
                refine wpAnyL_ready (rs := [10]) (by kernel_rfl) (by simp) ?_
                intro i hi
                simp only [List.mem_cons, List.not_mem_nil, or_false] at hi
                subst hi
                refine stepL (o := { dst := none, op := .store 47 (.tmp 56) (.tmp 55), type := 0, pos := "ref.go:578", after := #[{ on := 9, ground := .data }, { on := 8, ground := .data }, { on := 8, ground := .chain }, { on := 0, ground := .phase }, { on := 1, ground := .phase }, { on := 2, ground := .phase }, { on := 3, ground := .phase }, { on := 4, ground := .phase }, { on := 5, ground := .phase }, { on := 6, ground := .phase }, { on := 7, ground := .phase }, { on := 8, ground := .phase }], guard := none }) rfl (fun K hK => ?_)
                have c58 := cell_later hbC c5
                have f58 := (hbC.frozen (p := ⟨XB, 5, none⟩) (by simp; omega)).trans (hfq 5)
                go_simp
                refine hK _ _ (fun h => absurd rfl h) ?_
                clear hK K
                refine wpAnyL_done (by kernel_rfl) ?_ _
                try simp only [Act.put, List.setIfInBounds_toArray, List.set_cons_zero, List.set_cons_succ]
                have hS4 := (HQ.out _ (nstep hbq hbC)).setCell (p := ⟨XB, 5, none⟩) (Nat.le_refl _) (.slice (some ⟨g8, 0, none⟩) (X.lines.length + 1) cap8)
                have hP4 := HP0.out _ hS4
                have hz4 := hP4.sz
                have hz8 := hbC.size
                have eo4 := hP4.o
                have fo4 := hP4.fo
                have ob4 := hP4.out.block
                have hl8 := hout8.lines.keep goodL (Keeps.of_setCell (a := ⟨XB, 5, none⟩) (by intro h; have := h.1; simp at this; omega) (.slice (some ⟨g8, 0, none⟩) (X.lines.length + 1) cap8)) (fun _ h => h)
                obtain ⟨x0, x1, x2, x3, x4, x5⟩ := hboxq.later hbC
                have ed8 := cell_later hbC ed
                have fd8 := (hbC.frozen (p := ⟨B + 5, 0, none⟩) (by simp; omega)).trans fd'
                rw [HM.out] at x4
                clear c0 c1 c2 c3 c4 c5 eo fo ed fd' hS0 hSl hlq hboxq hPq
                go_wp2_with (at_builtin; refine wpList_append_outN goodE rfl (.tmp 57) (.tmp 59) 22 rfl 49 _ 72 Try.underlying22 info49 rfl (B + 6) _ pre rfl (hP4.out.later goodE (bel1 _ _)) _ 49 [.int .i64 X.site.cls, .string X.site.name, .int .i64 X.site.at', .int .i64 X.epoch, .bool false, .slice (some ⟨g8, 0, none⟩) (X.lines.length + 1) cap8] rfl (blkN _ _ _ (by simp)) rfl ⟨X.site, X.epoch, false, X.lines ++ [⟨c, fd⟩]⟩ (R' := fun b => wr.heap.size ≤ b ∧ b < w8.heap.size) ⟨rfl, rfl, rfl, rfl, rfl, _, rfl, hl8.later goodL (bel1 _ _)⟩ (fun b hb => ⟨Or.inr (by omega), by simp; omega, fun e => by have := (hob b e.symm).2; omega⟩) (by simp; omega) hb1 hb2 ?_; intro g9 cap9 w9 hout9 hbel9; have hb9 := ((bel1 _ _).mono hz4).trans hbel9; have hP9 := hP4.next hb9 hout9; have ed9 := hP9.d; have fd9 := hP9.fd; have eo9 := (hb9.cell (p := ⟨B + 4, 0, none⟩) (by simp)).trans eo4; have fo9 := (hb9.frozen (p := ⟨B + 4, 0, none⟩) (by simp)).trans fo4)
                refine bodyPost_end (v := .tuple #[]) (by simp [results, Try.results32, go_sem]) rfl ⟨rfl, _, by rw [HW.out]; exact hP9.done true, (((hS4.mono (by omega)).trans (hb9.mono (by omega))).setCell (by simp) _).setCell (by simp) _⟩
            · refine stepL (o := { dst := some 54, op := .buildSlice 47 1 #[(0, .tmp 53)], type := 47, pos := "ref.go:578", after := #[{ on := 6, ground := .data }], guard := none }) rfl (fun K hK => ?_)
              go_simp
              refine hK _ _ (fun _ => hSl _ ((bel1 _ _).drew)) ?_
              clear hK K
              try simp only [Act.put, List.setIfInBounds_toArray, List.set_cons_zero, List.set_cons_succ]
              refine wpAnyL_ready (rs := [0]) (by kernel_rfl) (by simp) ?_
              intro i hi
              simp only [List.mem_cons, List.not_mem_nil, or_false] at hi
              subst hi
              refine stepL (o := { dst := some 47, op := .buildSlice 47 0 #[], type := 47, pos := "ref.go:578", after := #[], guard := none }) rfl (fun K hK => ?_)
              go_simp
              refine hK _ _ (fun _ => hSl _ ((bel2 _ _ _).drew)) ?_
              clear hK K
              try simp only [Act.put, List.setIfInBounds_toArray, List.set_cons_zero, List.set_cons_succ]
              refine wpAnyL_ready (rs := [3]) (by kernel_rfl) (by simp) ?_
              intro i hi
              simp only [List.mem_cons, List.not_mem_nil, or_false] at hi
              subst hi
              refine stepL (o := { dst := some 50, op := .call { callee := .builtin .append, args := #[.tmp 47, .tmp 49], argTypes := #[47, 47] }, type := 47, pos := "ref.go:578", after := #[{ on := 0, ground := .data }, { on := 2, ground := .data }], guard := none }) rfl (fun K hK => ?_)
              refine step_lines_src (by rfl) (.tmp 47) (.tmp 49) rfl wr.heap.size (wr.heap.size + 1) rfl (by (try rw [blk_drew]); first | exact heap_alloc_new _ _ | exact blkN _ _ _ (by simp) | exact ((bel1 _ _).block _ (by simp)).trans (heap_alloc_new _ _)) (by omega) al cl X.lines rfl (hlq.later goodL ((bel2 _ _ _).drew)) (by omega) ?_
              intro g4 cap4 w4 hout4 hb4
              have hbB := nstep ((bel2 _ _ _).drew) hb4
              refine hK _ _ (fun _ => hSl _ hbB) ?_
              clear hK K
              try simp only [Act.put, List.setIfInBounds_toArray, List.set_cons_zero, List.set_cons_succ]
              refine wpAnyL_ready (rs := [8]) (by kernel_rfl) (by simp) ?_
              intro i hi
              simp only [List.mem_cons, List.not_mem_nil, or_false] at hi
              subst hi
              refine stepL (o := { dst := some 55, op := .call { callee := .builtin .append, args := #[.tmp 50, .tmp 54], argTypes := #[47, 47] }, type := 47, pos := "ref.go:578", after := #[{ on := 3, ground := .data }, { on := 7, ground := .data }, { on := 3, ground := .chain }], guard := none }) rfl (fun K hK => ?_)
              refine step_lines_out (by rfl) (.tmp 50) (.tmp 54) rfl wr.heap.size _ X.lines rfl (hout4) (hbB).size (wr.heap.size) ⟨c, fd⟩ rfl (by rw [hb4.block _ (by simp; omega)]; (try rw [blk_drew]); exact ((bel1 _ _).block _ (by simp)).trans (heap_alloc_new _ _)) (by omega) ?_
              intro g8 cap8 w8 hout8 hb8
              have hbC := (hbB).trans hb8
              refine hK _ _ (fun _ => hSl _ hbC) ?_
              clear hK K
              try simp only [Act.put, List.setIfInBounds_toArray, List.set_cons_zero, List.set_cons_succ]
              refine wpAnyL_take (i := 9) (oi := { dst := some 56, op := .fieldAddr 49 (.tmp 7) 3, type := 0, pos := "ref.go:578", after := #[{ on := 0, ground := .phase }, { on := 1, ground := .phase }, { on := 2, ground := .phase }, { on := 3, ground := .phase }, { on := 4, ground := .phase }, { on := 5, ground := .phase }, { on := 6, ground := .phase }, { on := 7, ground := .phase }, { on := 8, ground := .phase }], guard := none }) (v := .pointer (some ⟨XB, 5, none⟩)) (by kernel_rfl) rfl rfl (by kernel_rfl) (by kernel_rfl) (by kernel_rfl) (fun _ _ _ h => h) (Or.inl ⟨by rfl, ?_⟩) (hSl _ hbC) ?_
              · intro w hSw
                obtain ⟨q5, qc, qf, -⟩ := hSw
                go_simp
              try simp only [Act.put, List.setIfInBounds_toArray, List.set_cons_zero, List.set_cons_succ]
              refine wpAnyL_ready (rs := [10]) (by kernel_rfl) (by simp) ?_
              intro i hi
              simp only [List.mem_cons, List.not_mem_nil, or_false] at hi
              subst hi
              refine stepL (o := { dst := none, op := .store 47 (.tmp 56) (.tmp 55), type := 0, pos := "ref.go:578", after := #[{ on := 9, ground := .data }, { on := 8, ground := .data }, { on := 8, ground := .chain }, { on := 0, ground := .phase }, { on := 1, ground := .phase }, { on := 2, ground := .phase }, { on := 3, ground := .phase }, { on := 4, ground := .phase }, { on := 5, ground := .phase }, { on := 6, ground := .phase }, { on := 7, ground := .phase }, { on := 8, ground := .phase }], guard := none }) rfl (fun K hK => ?_)
              have c58 := cell_later hbC c5
              have f58 := (hbC.frozen (p := ⟨XB, 5, none⟩) (by simp; omega)).trans (hfq 5)
              go_simp
              refine hK _ _ (fun h => absurd rfl h) ?_
              clear hK K
              refine wpAnyL_done (by kernel_rfl) ?_ _
              try simp only [Act.put, List.setIfInBounds_toArray, List.set_cons_zero, List.set_cons_succ]
              have hS4 := (HQ.out _ (nstep hbq hbC)).setCell (p := ⟨XB, 5, none⟩) (Nat.le_refl _) (.slice (some ⟨g8, 0, none⟩) (X.lines.length + 1) cap8)
              have hP4 := HP0.out _ hS4
              have hz4 := hP4.sz
              have hz8 := hbC.size
              have eo4 := hP4.o
              have fo4 := hP4.fo
              have ob4 := hP4.out.block
              have hl8 := hout8.lines.keep goodL (Keeps.of_setCell (a := ⟨XB, 5, none⟩) (by intro h; have := h.1; simp at this; omega) (.slice (some ⟨g8, 0, none⟩) (X.lines.length + 1) cap8)) (fun _ h => h)
              obtain ⟨x0, x1, x2, x3, x4, x5⟩ := hboxq.later hbC
              have ed8 := cell_later hbC ed
              have fd8 := (hbC.frozen (p := ⟨B + 5, 0, none⟩) (by simp; omega)).trans fd'
              rw [HM.out] at x4
              clear c0 c1 c2 c3 c4 c5 eo fo ed fd' hS0 hSl hlq hboxq hPq
              go_wp2_with (at_builtin; refine wpList_append_outN goodE rfl (.tmp 57) (.tmp 59) 22 rfl 49 _ 72 Try.underlying22 info49 rfl (B + 6) _ pre rfl (hP4.out.later goodE (bel1 _ _)) _ 49 [.int .i64 X.site.cls, .string X.site.name, .int .i64 X.site.at', .int .i64 X.epoch, .bool false, .slice (some ⟨g8, 0, none⟩) (X.lines.length + 1) cap8] rfl (blkN _ _ _ (by simp)) rfl ⟨X.site, X.epoch, false, X.lines ++ [⟨c, fd⟩]⟩ (R' := fun b => wr.heap.size ≤ b ∧ b < w8.heap.size) ⟨rfl, rfl, rfl, rfl, rfl, _, rfl, hl8.later goodL (bel1 _ _)⟩ (fun b hb => ⟨Or.inr (by omega), by simp; omega, fun e => by have := (hob b e.symm).2; omega⟩) (by simp; omega) hb1 hb2 ?_; intro g9 cap9 w9 hout9 hbel9; have hb9 := ((bel1 _ _).mono hz4).trans hbel9; have hP9 := hP4.next hb9 hout9; have ed9 := hP9.d; have fd9 := hP9.fd; have eo9 := (hb9.cell (p := ⟨B + 4, 0, none⟩) (by simp)).trans eo4; have fo9 := (hb9.frozen (p := ⟨B + 4, 0, none⟩) (by simp)).trans fo4)
              refine bodyPost_end (v := .tuple #[]) (by simp [results, Try.results32, go_sem]) rfl ⟨rfl, _, by rw [HW.out]; exact hP9.done true, (((hS4.mono (by omega)).trans (hb9.mono (by omega))).setCell (by simp) _).setCell (by simp) _⟩
end Go.Proofs.Ytidjpdpbjgnfkaa
