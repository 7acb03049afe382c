/- Body's switch: kind 13. -/
import Derived.Test.YtfdonemehiamjaaPG14
namespace Go.Proofs.Ytfdonemehiamjaa
open Go.ChangeShapes Go.WideShapes Go.ChangeAt Go.RowKit
set_option linter.unusedSimpArgs false
set_option linter.unusedVariables false
set_option maxRecDepth 100000

set_option maxHeartbeats 8000000 in
theorem br13 {p : Rp} {d : Nat} {T T1 : Nat → Nat} {w wr W : World} {mb K : Nat} {R : Mc RSt × QV × Int} {av kv : Value} {gk G' : Nat} {m : Mc RSt} {f : Fr} {c : Int} {n1 n2 n3 k : Nat} {x : QI} {hv sv ov : Value} {sa : Option Addr} {sc : Nat} (H : SwC p d T w mb K R av kv gk G' c n1 n2 n3 T1 m f wr W k x hv sv ov sa sc) (hop : x.op = 13)
    {u0 u1 u2 u3 u4 u5 u6 u7 u8 u9 ua ub uc ud ue uf ug uh ui uj uk ul um un uo up uq ur us ut uu uv uw ux uy uz ua0 ua1 ua2 ua3 ua4 ua5 ua6 ua7 ua8 ua9
    uaa uab uac uad uae uaf uag uah uai uaj uak ual uam uan uao uap uaq uar uas uat uau uav uaw uax uay uaz ub0 ub1 ub2 ub3 ub4 ub5 ub6 ub7 ub8 ub9 uba ubb ubc ubd ube ubf ubg ubh
    ubi ubj ubk ubl ubm ubn ubo ubp ubq ubr ubs ubt ubu ubv ubw ubx uby ubz uc0 uc1 uc2 uc3 uc4 uc5 uc6 uc7 uc8 uc9 uca ucb ucc ucd uce ucf ucg uch
    uci ucj uck ucl ucm ucn uco ucp ucq ucr ucs uct ucu ucv ucw ucx ucy ucz ud0 ud1 ud2 ud3 ud4 ud5 ud6 ud7 ud8 ud9 uda udb udc udd ude udf udg udh
    udi udj udk udl udm udn udo udp udq udr uds udt udu udv udw udx udy udz ue0 ue1 ue2 ue3 ue4 ue5 ue6 ue7 ue8 ue9 uea ueb uec ued uee uef ueg ueh
    uei uej uek uel uem uen ueo uep ueq uer ues uet ueu uev uew uex uey uez uf0 uf1 uf2 uf3 uf4 uf5 uf6 uf7 uf8 uf9 ufa ufb ufc ufd ufe uff ufg ufh
    ufi ufj ufk ufl ufm ufn ufo ufp ufq ufr ufs uft ufu ufv ufw ufx ufy ufz ug0 ug1 ug2 ug3 ug4 ug5 ug6 ug7 ug8 ug9 uga ugb ugc ugd uge ugf ugg ugh
    ugi ugj ugk ugl ugm ugn ugo ugp ugq ugr ugs ugt ugu ugv ugw ugx ugy ugz uh0 uh1 uh2 uh3 : Value}
    {KT K2 K3 : Act → World → Prop}
    (hN : ∀ (u5 u6 u7 u8 u9 ua ub uc uu uv uw ux uy uz ua0 ua1 ua2 ua3 ua4 ua5 ua6 ua7 ua8 ua9 uaa uab uac uad uae uaf uag uah uai uaj uak ual uam uan uao uap uaq uar uas uat uau
    uav uaw uax uay uaz ub0 ub1 ub2 ub3 ub4 ub5 ub6 ub7 ub8 ub9 uba ubb ubc ubd ube ubf ubg ubh ubi ubj ubk ubl ubm ubn ubo ubp ubq ubr ubs ubt ubu ubv ubw ubx uby
    ubz uc0 uc1 uc2 uc3 uc4 uc5 uc6 uc7 uc8 uc9 uca ucb ucc ucd uce ucf ucg uch uci ucj uck ucl ucm ucn uco ucp ucq ucr ucs uct ucu ucv ucw ucx ucy
    ucz ud0 ud1 ud2 ud3 ud4 ud5 ud6 ud7 ud8 ud9 uda udb udc udd ude udf udg udh udi udj udk udl udm udn udo udp udq udr uds udt udu udv udw udx udy
    udz ue0 ue1 ue2 ue3 ue4 ue5 ue6 ue7 ue8 ue9 uea ueb uec ued uee uef ueg ueh uei uej uek uel uem uen ueo uep ueq uer ues uet ueu uev uew uex uey
    uez uf0 uf1 uf2 uf3 uf4 uf5 uf6 uf7 uf8 uf9 ufa ufb ufc ufd ufe uff ufg ufh ufi ufj ufk ufl ufm ufn ufo ufp ufq ufr ufs uft ufu ufv ufw ufx ufy
    ufz ug0 ug1 ug2 ug3 ug4 ug5 ug6 ug7 ug8 ug9 uga ugb ugc ugd uge ugf ugg ugh ugi ugj : Value) (tg : Int) (w' : World), SwOk p d T w mb K R av kv G' c n1 n2 n3 T1 m f wr k x tg w' → KT (Act.mk #[.pointer (some ⟨mb, 0, none⟩), .int .i64 c,u0,u1, av,u2,u3, .pointer (some ⟨w.heap.size, 0, none⟩), .pointer (some ⟨w.heap.size + 1, 0, none⟩),u4, .pointer (some
    ⟨w.heap.size + 2, 0, none⟩), .slice (some ⟨w.heap.size + 3, 0, none⟩) n2 n2, .pointer (some ⟨w.heap.size + 4, 0, none⟩), .func (.func 47) #[] #[.pointer (some ⟨w.heap.size + 4, 0,
    none⟩)], .int .i64 (k : Int), .pointer (some ⟨wr.heap.size, 0, none⟩), .int .i64 tg,u5,u6,u7,u8,u9,ua,ub,uc,ud,ue,uf,ug,uh,ui,uj,uk,ul,um,un,
    uo,up,uq,ur,us,ut, .int .i64 13,uu,uv,uw,ux,uy,uz,ua0,ua1,ua2,ua3,ua4,ua5,ua6,ua7,ua8,ua9,uaa,uab,uac,uad,uae,uaf,uag,uah,uai,uaj,uak,
    ual,uam,uan,uao,uap,uaq,uar,uas,uat,uau,uav,uaw,uax,uay,uaz,ub0,ub1,ub2,ub3,ub4,ub5,ub6,ub7,ub8,ub9,uba,ubb,ubc,ubd,ube,ubf,ubg,ubh,ubi,ubj,
    ubk,ubl,ubm,ubn,ubo,ubp,ubq,ubr,ubs,ubt,ubu,ubv,ubw,ubx,uby,ubz,uc0,uc1,uc2,uc3,uc4,uc5,uc6,uc7,uc8,uc9,uca,ucb,ucc,ucd,
    uce,ucf,ucg,uch,uci,ucj,uck,ucl,ucm,ucn,uco,ucp,ucq,ucr,ucs,uct,ucu,ucv,ucw,ucx,ucy,ucz,ud0,ud1,ud2,ud3,ud4,ud5,ud6,ud7,
    ud8,ud9,uda,udb,udc,udd,ude,udf,udg,udh,udi,udj,udk,udl,udm,udn,udo,udp,udq,udr,uds,udt,udu,udv,udw,udx,udy,udz,ue0,ue1,
    ue2,ue3,ue4,ue5,ue6,ue7,ue8,ue9,uea,ueb,uec,ued,uee,uef,ueg,ueh,uei,uej,uek,uel,uem,uen,ueo,uep,ueq,uer,ues,uet,ueu,uev,
    uew,uex,uey,uez,uf0,uf1,uf2,uf3,uf4,uf5,uf6,uf7,uf8,uf9,ufa,ufb,ufc,ufd,ufe,uff,ufg,ufh,ufi,ufj,ufk,ufl,ufm,ufn,ufo,ufp,
    ufq,ufr,ufs,uft,ufu,ufv,ufw,ufx,ufy,ufz,ug0,ug1,ug2,ug3,ug4,ug5,ug6,ug7,ug8,ug9,uga,ugb,ugc,ugd,uge,ugf,ugg,ugh,ugi,ugj,
    ugk,ugl,ugm,ugn,ugo,ugp,ugq,ugr,ugs,ugt,ugu,ugv,ugw,ugx,ugy,ugz,uh0,uh1,uh2,uh3] []) w')
    {K9 : Act → World → Prop} (hK9 : ∀ a w', Code.wp Try.prog sw9 (Exit.inBlock 2 (Exit.then KT (Exit.inBlock 1 (Exit.then K2 (Exit.inBlock 0 (Exit.then K3 (bodyPost Try.prog Try.f37 fun e w' => RePost p T w mb (20 - (d : Int)) K R e w'))))))) a w' → K9 a w') :
    Code.wp Try.prog reg9 (Exit.then K9 (Exit.inBlock 2 (Exit.then KT (Exit.inBlock 1 (Exit.then K2 (Exit.inBlock 0 (Exit.then K3 (bodyPost Try.prog Try.f37 fun e w' => RePost p T w mb (20 - (d : Int)) K R e w')))))))) (Act.mk #[.pointer (some ⟨mb, 0, none⟩), .int .i64 c,u0,u1, av,u2,u3, .pointer (some ⟨w.heap.size, 0, none⟩), .pointer (some ⟨w.heap.size + 1, 0, none⟩),u4, .pointer (some
    ⟨w.heap.size + 2, 0, none⟩), .slice (some ⟨w.heap.size + 3, 0, none⟩) n2 n2, .pointer (some ⟨w.heap.size + 4, 0, none⟩), .func (.func 47) #[] #[.pointer (some ⟨w.heap.size + 4, 0,
    none⟩)], .int .i64 (k : Int), .pointer (some ⟨wr.heap.size, 0, none⟩), .int .i64 ((k : Int) + 1),u5,u6,u7,u8,u9,ua,ub,uc,ud,ue,uf,ug,uh,ui,uj,uk,
    ul,um,un,uo,up,uq,ur,us,ut, .int .i64 13,uu,uv,uw,ux,uy,uz,ua0,ua1,ua2,ua3,ua4,ua5,ua6,ua7,ua8,ua9,uaa,uab,uac,uad,uae,uaf,uag,uah,
    uai,uaj,uak,ual,uam,uan,uao,uap,uaq,uar,uas,uat,uau,uav,uaw,uax,uay,uaz,ub0,ub1,ub2,ub3,ub4,ub5,ub6,ub7,ub8,ub9,uba,ubb,ubc,ubd,ube,ubf,ubg,
    ubh,ubi,ubj,ubk,ubl,ubm,ubn,ubo,ubp,ubq,ubr,ubs,ubt,ubu,ubv,ubw,ubx,uby,ubz,uc0,uc1,uc2,uc3,uc4,uc5,uc6,uc7,uc8,uc9,uca,
    ucb,ucc,ucd,uce,ucf,ucg,uch,uci,ucj,uck,ucl,ucm,ucn,uco,ucp,ucq,ucr,ucs,uct,ucu,ucv,ucw,ucx,ucy,ucz,ud0,ud1,ud2,ud3,ud4,
    ud5,ud6,ud7,ud8,ud9,uda,udb,udc,udd,ude,udf,udg,udh,udi,udj,udk,udl,udm,udn,udo,udp,udq,udr,uds,udt,udu,udv,udw,udx,udy,
    udz,ue0,ue1,ue2,ue3,ue4,ue5,ue6,ue7,ue8,ue9,uea,ueb,uec,ued,uee,uef,ueg,ueh,uei,uej,uek,uel,uem,uen,ueo,uep,ueq,uer,ues,
    uet,ueu,uev,uew,uex,uey,uez,uf0,uf1,uf2,uf3,uf4,uf5,uf6,uf7,uf8,uf9,ufa,ufb,ufc,ufd,ufe,uff,ufg,ufh,ufi,ufj,ufk,ufl,ufm,
    ufn,ufo,ufp,ufq,ufr,ufs,uft,ufu,ufv,ufw,ufx,ufy,ufz,ug0,ug1,ug2,ug3,ug4,ug5,ug6,ug7,ug8,ug9,uga,ugb,ugc,ugd,uge,ugf,ugg,
    ugh,ugi,ugj,ugk,ugl,ugm,ugn,ugo,ugp,ugq,ugr,ugs,ugt,ugu,ugv,ugw,ugx,ugy,ugz,uh0,uh1,uh2,uh3] []) W := by
  obtain ⟨hX, hEn, HR0, HG0, HX0, HMa0, HF0, hscap, HL0, hbel, hxb, ⟨aa, ca, rfl, hca⟩, ht40, HI0⟩ := H
  have HR := hid HR0
  have HG := hid HG0
  have HX := hid HX0
  have HMa := hid HMa0
  have HF := hid HF0
  have HL := hid HL0
  have HB1 := hid hbel
  have HI := hid HI0
  have HOP := hid hop
  have HEn := hid hEn
  have hM1 := HMa0.later hbel
  have hF1 := HF0.later hbel
  obtain ⟨hsc1, hsc2⟩ := hscap
  have hBl : w.heap.size + 4 < wr.heap.size := blk_lt HF0.sb
  have hWl : wr.heap.size ≤ W.heap.size := hbel.size
  clear HR0 HG0 HX0 HMa0 HF0 HL0 HI0 hop hbel hEn
  unfold reg9
  unfold sw9 at hK9
  obtain ⟨hI, hW, hFo, hPl⟩ := HI.out
  have x1 := hxb.x1
  have hfw := HX.out.few
  have hp5 := hF1.pos
  obtain ⟨ah, ch, rfl, -⟩ := id hM1.heap
  have c1 := hM1.c1
  have c7 := hM1.c7
  have cf7 := row_free hM1.box
  by_cases h6 : 60 ≤ m.heap.length
  · have h6' : (60 : Int) ≤ (m.heap.length : Int) := by omega
    have H6 := hid h6
    have HN7 := hid (hM1.num7 15)
    have HT7 := hid hM1.tag
    have HMl := hid (blk_lt HMa.out.box)
    clear hF1 hM1 h6 hI hW hFo hPl
    go_wp2
    exact Or.inl ⟨rfl, make_full hX HR.out HG.out HX.out HOP.out H6.out (.refl _ _) ((Kp.of_below HB1.out).set (fun _ => Or.inl HT7.out) _ _) HN7.out⟩
  · have h6' : ¬ ((60 : Int) ≤ (m.heap.length : Int)) := by omega
    have H6 := hid h6
    have hSl : ∀ w', Below W.heap.size W w' → w'.cell? ⟨w.heap.size + 4, 0, none⟩ = some (.slice sa f.stack.length sc) ∧ w'.cell? ⟨mb, 1, none⟩ = some (.slice ah m.heap.length ch) := fun w' hb => ⟨cell_later hb hF1.st, cell_later hb hM1.c1⟩
    have hS0 := hSl _ (Below.refl _ W).drew
    go_upto_region 37 with (fail)
    refine wp_region_late (S := fun w' => w'.cell? ⟨w.heap.size + 4, 0, none⟩ = some (.slice sa f.stack.length sc) ∧ w'.cell? ⟨mb, 1, none⟩ = some (.slice ah m.heap.length ch)) [10] (by kernel_rfl) ?_
    refine wpAnyM_take (i := 0) (oi := ⟨some 151, .load 28 (.tmp 12), 28, "ref.go:104", #[], none⟩) (v := .slice sa f.stack.length sc) (by kernel_rfl) (by kernel_rfl) rfl (by kernel_rfl) (by kernel_rfl) (by kernel_rfl) (fun _ _ _ h => h) (Or.inl ⟨by rfl, ?_⟩) (hS0) ?_
    · intro w hSw
      obtain ⟨q0, q1⟩ := hSw
      go_simp
    try simp only [Act.put, List.setIfInBounds_toArray, List.set_cons_zero, List.set_cons_succ]
    refine wpAnyM_take (i := 1) (oi := ⟨some 152, .move (.tmp 0), 37, "ref.go:104", #[], none⟩) (v := .pointer (some ⟨mb, 0, none⟩)) (by kernel_rfl) (by kernel_rfl) rfl (by kernel_rfl) (by kernel_rfl) (by kernel_rfl) (fun _ _ _ h => h) (Or.inl ⟨by rfl, ?_⟩) (hS0) ?_
    · intro w hSw
      obtain ⟨q0, q1⟩ := hSw
      go_simp
    try simp only [Act.put, List.setIfInBounds_toArray, List.set_cons_zero, List.set_cons_succ]
    refine wpAnyM_take (i := 2) (oi := ⟨some 153, .nilCheck (.tmp 152), 0, "ref.go:104", #[⟨1,.data⟩], none⟩) (v := .pointer (some ⟨mb, 0, none⟩)) (by kernel_rfl) (by kernel_rfl) rfl (by kernel_rfl) (by kernel_rfl) (by kernel_rfl) (fun _ _ _ h => h) (Or.inl ⟨by rfl, ?_⟩) (hS0) ?_
    · intro w hSw
      obtain ⟨q0, q1⟩ := hSw
      go_simp
    try simp only [Act.put, List.setIfInBounds_toArray, List.set_cons_zero, List.set_cons_succ]
    refine wpAnyM_take (i := 3) (oi := ⟨some 154, .fieldAddr 68 (.tmp 153) 0, 0, "ref.go:104", #[⟨2,.data⟩], none⟩) (v := .pointer (some ⟨mb, 0, none⟩)) (by kernel_rfl) (by kernel_rfl) rfl (by kernel_rfl) (by kernel_rfl) (by kernel_rfl) (fun _ _ _ h => h) (Or.inl ⟨by rfl, ?_⟩) (hS0) ?_
    · intro w hSw
      obtain ⟨q0, q1⟩ := hSw
      go_simp
    try simp only [Act.put, List.setIfInBounds_toArray, List.set_cons_zero, List.set_cons_succ]
    refine wpAnyM_take (i := 4) (oi := ⟨some 155, .fieldAddr 25 (.tmp 154) 1, 0, "ref.go:104", #[⟨3,.data⟩], none⟩) (v := .pointer (some ⟨mb, 1, none⟩)) (by kernel_rfl) (by kernel_rfl) rfl (by kernel_rfl) (by kernel_rfl) (by kernel_rfl) (fun _ _ _ h => h) (Or.inl ⟨by rfl, ?_⟩) (hS0) ?_
    · intro w hSw
      obtain ⟨q0, q1⟩ := hSw
      go_simp
    try simp only [Act.put, List.setIfInBounds_toArray, List.set_cons_zero, List.set_cons_succ]
    refine wpAnyM_take (i := 5) (oi := ⟨some 156, .load 23 (.tmp 155), 23, "ref.go:104", #[⟨4,.data⟩], none⟩) (v := .slice ah m.heap.length ch) (by kernel_rfl) (by kernel_rfl) rfl (by kernel_rfl) (by kernel_rfl) (by kernel_rfl) (fun _ _ _ h => h) (Or.inl ⟨by rfl, ?_⟩) (hS0) ?_
    · intro w hSw
      obtain ⟨q0, q1⟩ := hSw
      go_simp
    try simp only [Act.put, List.setIfInBounds_toArray, List.set_cons_zero, List.set_cons_succ]
    refine wpAnyM_take (i := 6) (oi := ⟨some 157, .call ⟨.builtin .len, #[.tmp 156], #[23]⟩, 3, "ref.go:104", #[⟨5,.data⟩], none⟩) (v := .int .i64 (m.heap.length : Int)) (by kernel_rfl) (by kernel_rfl) rfl (by kernel_rfl) (by kernel_rfl) (by kernel_rfl) (fun _ _ _ h => h) (Or.inl ⟨by rfl, ?_⟩) (hS0) ?_
    · intro w hSw
      obtain ⟨q0, q1⟩ := hSw
      go_simp
    try simp only [Act.put, List.setIfInBounds_toArray, List.set_cons_zero, List.set_cons_succ]
    refine wpAnyM_take (i := 7) (oi := ⟨some 158, .build 27 #[(0, .const (.int .i64 4)), (1, .tmp 157)], 27, "ref.go:104", #[⟨6,.data⟩], none⟩) (v := VV ⟨4, (m.heap.length : Int)⟩) (by kernel_rfl) (by kernel_rfl) rfl (by kernel_rfl) (by kernel_rfl) (by kernel_rfl) (fun _ _ _ h => h) (Or.inl ⟨by rfl, ?_⟩) (hS0) ?_
    · intro w hSw
      obtain ⟨q0, q1⟩ := hSw
      go_simp
    try simp only [Act.put, List.setIfInBounds_toArray, List.set_cons_zero, List.set_cons_succ]
    refine wpAnyM_ready (rs := [8]) (by kernel_rfl) (by simp) ?_
    intro i hi
    simp only [List.mem_cons, List.not_mem_nil, or_false] at hi
    subst hi
    refine stepM (o := ⟨some 159, .buildSlice 28 1 #[(0, .tmp 158)], 28, "ref.go:104", #[⟨7,.data⟩], none⟩) rfl (fun K' hK => ?_)
    go_simp
    refine hK _ _ (fun _ => hSl _ (nstep (Below.refl _ W).drew (bel1 _ _))) ?_
    clear hK K'
    try simp only [Act.put, List.setIfInBounds_toArray, List.set_cons_zero, List.set_cons_succ]
    refine wpAnyM_ready (rs := [9]) (by kernel_rfl) (by simp) ?_
    intro i hi
    simp only [List.mem_cons, List.not_mem_nil, or_false] at hi
    subst hi
    refine stepM (o := ⟨some 160, .call ⟨.builtin .append, #[.tmp 151, .tmp 159], #[28, 28]⟩, 28, "ref.go:104", #[⟨0,.data⟩,⟨8,.data⟩], none⟩) rfl (fun K' hK => ?_)
    have hst : ownsAt ((W.drew).alloc (.cells #[.int .i64 4, .int .i64 (m.heap.length : Int)] 27)) 0 27 2 (.slice sa f.stack.length sc) f.stack.length (vcells f.stack) := ((hF1.later (Below.refl _ W).drew).stack.alloc _)
    obtain ⟨v', w', hrun, r1, r2, r3, r4⟩ := run_append_at (w := (W.drew).alloc (.cells #[.int .i64 4, .int .i64 (m.heap.length : Int)] 27)) 28 28 27 _ 2 16 Try.underlying28 info27 rfl (by omega) 0 f.stack.length (.slice sa f.stack.length sc) (vcells f.stack) hst (W.drew).heap.size [.int .i64 4, .int .i64 (m.heap.length : Int)] rfl (heap_alloc_new (W.drew) _) (by intro u hu; simp only [List.mem_cons, List.not_mem_nil, or_false] at hu; rcases hu with h | h <;> (subst h; rfl)) (by unfold maxLen; omega) (by omega) (by omega)
    obtain ⟨a', cap', rfl, -⟩ := r1.form
    have hbU : Below wr.heap.size wr (W.drew.alloc (.cells #[.int .i64 4, .int .i64 (m.heap.length : Int)] 27)) := nstep (nstep HB1.out (Below.refl _ W).drew) (bel1 _ _)
    obtain ⟨d0, df⟩ := push_box HF.out hbU r4
    refine step_append_run rfl (.tmp 151) (.tmp 159) 28 rfl (.slice sa f.stack.length sc) (.slice (some ⟨W.drew.heap.size, 0, none⟩) 1 1) (.slice a' (f.stack.length + 1) cap') (by simp [Act.eval, Act.put]) (by simp [Act.eval, Act.put]) hrun ?_
    obtain ⟨z0, z1⟩ := hSl _ (nstep (Below.refl _ W).drew (bel1 W.drew (.cells #[.int .i64 4, .int .i64 (m.heap.length : Int)] 27)))
    have hSa : w'.cell? ⟨w.heap.size + 4, 0, none⟩ = some (.slice sa f.stack.length sc) ∧ w'.cell? ⟨mb, 1, none⟩ = some (.slice ah m.heap.length ch) := ⟨d0, app_cell HF.out r4 (fun _ => by rw [HMa.out.tag]; omega) z1⟩
    refine hK _ _ (fun _ => hSa) ?_
    clear hK K'
    try simp only [Act.put, List.setIfInBounds_toArray, List.set_cons_zero, List.set_cons_succ]
    refine wpAnyM_ready (rs := [10]) (by kernel_rfl) (by simp) ?_
    intro i hi
    simp only [List.mem_cons, List.not_mem_nil, or_false] at hi
    subst hi
    refine stepM (o := ⟨none, .store 28 (.tmp 12) (.tmp 160), 0, "ref.go:104", #[⟨9,.data⟩,⟨9,.chain⟩,⟨0,.phase⟩,⟨1,.phase⟩,⟨2,.phase⟩,⟨3,.phase⟩,⟨4,.phase⟩,⟨5,.phase⟩,⟨6,.phase⟩,⟨7,.phase⟩,⟨8,.phase⟩,⟨9,.phase⟩], none⟩) rfl (fun K' hK => ?_)
    go_simp
    refine hK _ _ (fun h => absurd h (by decide)) ?_
    clear hK K'
    try simp only [Act.put, List.setIfInBounds_toArray, List.set_cons_zero, List.set_cons_succ]
    refine wpAnyM_done (by kernel_rfl) ?_ _
    try simp only [Act.put, List.setIfInBounds_toArray, List.set_cons_zero, List.set_cons_succ]

    obtain ⟨⟨T2, e1, e2⟩, e3⟩ := HF.out.pushed (vs := [⟨4, (m.heap.length : Int)⟩]) hbU (by simp; omega) (by simpa [vcells] using r1) r2 r3 r4
    have hM2 := HMa.out.keep e1 e3 (by omega) (by omega) (by omega) (by omega)
    have x2 : (w'.setCell ⟨w.heap.size + 4, 0, none⟩ (.slice a' (f.stack.length + 1) cap')).cell? ⟨wr.heap.size, 1, none⟩ = some (.int .i64 x.a) := (World.cell?_setCell_far _ _ _ _ (by simp; omega)).trans (app_cell HF.out r4 (fun h => absurd h (Nat.lt_irrefl _)) (cell_later (nstep (Below.refl _ W).drew (bel1 _ _)) x1))
    obtain ⟨ac, cc, hcv, -⟩ := id hM2.cls
    obtain ⟨ho, sl, hsl, hsl2⟩ := right_sl hX x.a
    have E1 := hid e1
    have E2 := hid e2
    have E3 := hid e3
    clear hS0 hSl hF1 hM1 d0 df hst hrun r1 r2 r3 r4 hbU e1 e2 e3 c1 c7 cf7 x1
    go_upto_region 38 with (fail)
    generalize (w'.setCell ⟨w.heap.size + 4, 0, none⟩ (.slice a' (f.stack.length + 1) cap')) = U at *
    have hSl : ∀ w', Below U.heap.size U w' → w'.cell? ⟨mb, 0, none⟩ = some (.slice ac p.X.classes.length cc) ∧ w'.cell? ⟨mb, 1, none⟩ = some (.slice ah m.heap.length ch) ∧ w'.cell? ⟨mb, 2, none⟩ = some (.int .i64 p.X.epoch) ∧ w'.cell? ⟨wr.heap.size, 1, none⟩ = some (.int .i64 x.a) := fun w' hb => ⟨by rw [← hcv]; exact cell_later hb hM2.c0, cell_later hb hM2.c1, cell_later hb hM2.c2, cell_later hb x2⟩
    have hS0 := hSl _ (Below.refl _ U).drew
    obtain ⟨cs, hcs, hsrc⟩ := row_heapV hM2.heap
    have hlen := hcs.1
    have hmk := make_vals sl (by omega)
    have hmbl := blk_lt hM2.box
    have hbD : Below U.heap.size U U.drew := (Below.refl _ U).drew
    have hbE : Below U.heap.size U (U.drew.alloc (.cells #[] 59)) := nstep hbD (bel1 _ _)
    refine wp_region_late (S := fun w' => w'.cell? ⟨mb, 0, none⟩ = some (.slice ac p.X.classes.length cc) ∧ w'.cell? ⟨mb, 1, none⟩ = some (.slice ah m.heap.length ch) ∧ w'.cell? ⟨mb, 2, none⟩ = some (.int .i64 p.X.epoch) ∧ w'.cell? ⟨wr.heap.size, 1, none⟩ = some (.int .i64 x.a)) [24] (by kernel_rfl) ?_
    refine wpAnyM_take (i := 0) (oi := ⟨some 161, .move (.tmp 0), 37, "ref.go:105", #[], none⟩) (v := .pointer (some ⟨mb, 0, none⟩)) (by kernel_rfl) (by kernel_rfl) rfl (by kernel_rfl) (by kernel_rfl) (by kernel_rfl) (fun _ _ _ h => h) (Or.inl ⟨by rfl, ?_⟩) (hS0) ?_
    · intro w hSw
      obtain ⟨q0, q1, q2, q3⟩ := hSw
      go_simp
    try simp only [Act.put, List.setIfInBounds_toArray, List.set_cons_zero, List.set_cons_succ]
    refine wpAnyM_take (i := 2) (oi := ⟨some 163, .move (.tmp 0), 37, "ref.go:105", #[], none⟩) (v := .pointer (some ⟨mb, 0, none⟩)) (by kernel_rfl) (by kernel_rfl) rfl (by kernel_rfl) (by kernel_rfl) (by kernel_rfl) (fun _ _ _ h => h) (Or.inl ⟨by rfl, ?_⟩) (hS0) ?_
    · intro w hSw
      obtain ⟨q0, q1, q2, q3⟩ := hSw
      go_simp
    try simp only [Act.put, List.setIfInBounds_toArray, List.set_cons_zero, List.set_cons_succ]
    refine wpAnyM_take (i := 3) (oi := ⟨some 164, .nilCheck (.tmp 163), 0, "ref.go:105", #[⟨2,.data⟩], none⟩) (v := .pointer (some ⟨mb, 0, none⟩)) (by kernel_rfl) (by kernel_rfl) rfl (by kernel_rfl) (by kernel_rfl) (by kernel_rfl) (fun _ _ _ h => h) (Or.inl ⟨by rfl, ?_⟩) (hS0) ?_
    · intro w hSw
      obtain ⟨q0, q1, q2, q3⟩ := hSw
      go_simp
    try simp only [Act.put, List.setIfInBounds_toArray, List.set_cons_zero, List.set_cons_succ]
    refine wpAnyM_take (i := 4) (oi := ⟨some 165, .fieldAddr 68 (.tmp 164) 0, 0, "ref.go:105", #[⟨3,.data⟩], none⟩) (v := .pointer (some ⟨mb, 0, none⟩)) (by kernel_rfl) (by kernel_rfl) rfl (by kernel_rfl) (by kernel_rfl) (by kernel_rfl) (fun _ _ _ h => h) (Or.inl ⟨by rfl, ?_⟩) (hS0) ?_
    · intro w hSw
      obtain ⟨q0, q1, q2, q3⟩ := hSw
      go_simp
    try simp only [Act.put, List.setIfInBounds_toArray, List.set_cons_zero, List.set_cons_succ]
    refine wpAnyM_take (i := 5) (oi := ⟨some 166, .fieldAddr 25 (.tmp 165) 1, 0, "ref.go:105", #[⟨4,.data⟩], none⟩) (v := .pointer (some ⟨mb, 1, none⟩)) (by kernel_rfl) (by kernel_rfl) rfl (by kernel_rfl) (by kernel_rfl) (by kernel_rfl) (fun _ _ _ h => h) (Or.inl ⟨by rfl, ?_⟩) (hS0) ?_
    · intro w hSw
      obtain ⟨q0, q1, q2, q3⟩ := hSw
      go_simp
    try simp only [Act.put, List.setIfInBounds_toArray, List.set_cons_zero, List.set_cons_succ]
    refine wpAnyM_take (i := 6) (oi := ⟨some 167, .load 23 (.tmp 166), 23, "ref.go:105", #[⟨5,.data⟩], none⟩) (v := .slice ah m.heap.length ch) (by kernel_rfl) (by kernel_rfl) rfl (by kernel_rfl) (by kernel_rfl) (by kernel_rfl) (fun _ _ _ h => h) (Or.inl ⟨by rfl, ?_⟩) (hS0) ?_
    · intro w hSw
      obtain ⟨q0, q1, q2, q3⟩ := hSw
      go_simp
    try simp only [Act.put, List.setIfInBounds_toArray, List.set_cons_zero, List.set_cons_succ]
    refine wpAnyM_take (i := 8) (oi := ⟨some 169, .fieldAddr 81 (.tmp 15) 1, 0, "ref.go:105", #[], none⟩) (v := .pointer (some ⟨wr.heap.size, 1, none⟩)) (by kernel_rfl) (by kernel_rfl) rfl (by kernel_rfl) (by kernel_rfl) (by kernel_rfl) (fun _ _ _ h => h) (Or.inl ⟨by rfl, ?_⟩) (hS0) ?_
    · intro w hSw
      obtain ⟨q0, q1, q2, q3⟩ := hSw
      go_simp
    try simp only [Act.put, List.setIfInBounds_toArray, List.set_cons_zero, List.set_cons_succ]
    refine wpAnyM_take (i := 9) (oi := ⟨some 170, .load 3 (.tmp 169), 3, "ref.go:105", #[⟨8,.data⟩], none⟩) (v := .int .i64 x.a) (by kernel_rfl) (by kernel_rfl) rfl (by kernel_rfl) (by kernel_rfl) (by kernel_rfl) (fun _ _ _ h => h) (Or.inl ⟨by rfl, ?_⟩) (hS0) ?_
    · intro w hSw
      obtain ⟨q0, q1, q2, q3⟩ := hSw
      go_simp
    try simp only [Act.put, List.setIfInBounds_toArray, List.set_cons_zero, List.set_cons_succ]
    refine wpAnyM_take (i := 10) (oi := ⟨some 171, .move (.tmp 0), 37, "ref.go:105", #[], none⟩) (v := .pointer (some ⟨mb, 0, none⟩)) (by kernel_rfl) (by kernel_rfl) rfl (by kernel_rfl) (by kernel_rfl) (by kernel_rfl) (fun _ _ _ h => h) (Or.inl ⟨by rfl, ?_⟩) (hS0) ?_
    · intro w hSw
      obtain ⟨q0, q1, q2, q3⟩ := hSw
      go_simp
    try simp only [Act.put, List.setIfInBounds_toArray, List.set_cons_zero, List.set_cons_succ]
    refine wpAnyM_take (i := 11) (oi := ⟨some 172, .nilCheck (.tmp 171), 0, "ref.go:105", #[⟨10,.data⟩], none⟩) (v := .pointer (some ⟨mb, 0, none⟩)) (by kernel_rfl) (by kernel_rfl) rfl (by kernel_rfl) (by kernel_rfl) (by kernel_rfl) (fun _ _ _ h => h) (Or.inl ⟨by rfl, ?_⟩) (hS0) ?_
    · intro w hSw
      obtain ⟨q0, q1, q2, q3⟩ := hSw
      go_simp
    try simp only [Act.put, List.setIfInBounds_toArray, List.set_cons_zero, List.set_cons_succ]
    refine wpAnyM_take (i := 12) (oi := ⟨some 173, .fieldAddr 68 (.tmp 172) 0, 0, "ref.go:105", #[⟨11,.data⟩], none⟩) (v := .pointer (some ⟨mb, 0, none⟩)) (by kernel_rfl) (by kernel_rfl) rfl (by kernel_rfl) (by kernel_rfl) (by kernel_rfl) (fun _ _ _ h => h) (Or.inl ⟨by rfl, ?_⟩) (hS0) ?_
    · intro w hSw
      obtain ⟨q0, q1, q2, q3⟩ := hSw
      go_simp
    try simp only [Act.put, List.setIfInBounds_toArray, List.set_cons_zero, List.set_cons_succ]
    refine wpAnyM_take (i := 13) (oi := ⟨some 174, .load 25 (.tmp 173), 25, "ref.go:105", #[⟨12,.data⟩], none⟩) (v := WV (.slice ac p.X.classes.length cc) (.slice ah m.heap.length ch) p.X.epoch) (by kernel_rfl) (by kernel_rfl) rfl (by kernel_rfl) (by kernel_rfl) (by kernel_rfl) (fun _ _ _ h => h) (Or.inl ⟨by rfl, ?_⟩) (hS0) ?_
    · intro w hSw
      obtain ⟨q0, q1, q2, q3⟩ := hSw
      go_simp
    try simp only [Act.put, List.setIfInBounds_toArray, List.set_cons_zero, List.set_cons_succ]
    refine wpAnyM_take (i := 14) (oi := ⟨some 175, .fieldAddr 81 (.tmp 15) 1, 0, "ref.go:105", #[], none⟩) (v := .pointer (some ⟨wr.heap.size, 1, none⟩)) (by kernel_rfl) (by kernel_rfl) rfl (by kernel_rfl) (by kernel_rfl) (by kernel_rfl) (fun _ _ _ h => h) (Or.inl ⟨by rfl, ?_⟩) (hS0) ?_
    · intro w hSw
      obtain ⟨q0, q1, q2, q3⟩ := hSw
      go_simp
    try simp only [Act.put, List.setIfInBounds_toArray, List.set_cons_zero, List.set_cons_succ]
    refine wpAnyM_take (i := 15) (oi := ⟨some 176, .load 3 (.tmp 175), 3, "ref.go:105", #[⟨14,.data⟩], none⟩) (v := .int .i64 x.a) (by kernel_rfl) (by kernel_rfl) rfl (by kernel_rfl) (by kernel_rfl) (by kernel_rfl) (fun _ _ _ h => h) (Or.inl ⟨by rfl, ?_⟩) (hS0) ?_
    · intro w hSw
      obtain ⟨q0, q1, q2, q3⟩ := hSw
      go_simp
    try simp only [Act.put, List.setIfInBounds_toArray, List.set_cons_zero, List.set_cons_succ]
    refine wpAnyM_ready (rs := [1]) (by kernel_rfl) (by simp) ?_
    intro i hi
    simp only [List.mem_cons, List.not_mem_nil, or_false] at hi
    subst hi
    refine stepM (o := ⟨some 162, .buildSlice 23 0 #[], 23, "ref.go:105", #[], none⟩) rfl (fun K' hK => ?_)
    go_simp
    refine hK _ _ (fun _ => hSl _ hbE) ?_
    clear hK K'
    try simp only [Act.put, List.setIfInBounds_toArray, List.set_cons_zero, List.set_cons_succ]
    refine wpAnyM_ready (rs := [7]) (by kernel_rfl) (by simp) ?_
    intro i hi
    simp only [List.mem_cons, List.not_mem_nil, or_false] at hi
    subst hi
    refine stepM (o := ⟨some 168, .call ⟨.builtin .append, #[.tmp 162, .tmp 167], #[23, 23]⟩, 23, "ref.go:105", #[⟨1,.data⟩,⟨6,.data⟩], none⟩) rfl (fun K' hK => ?_)
    obtain ⟨g, cap1, w1, hrun1, hown, hgB, hgl, hbA⟩ := run_append_src (w := U.drew.alloc (.cells #[] 59)) 23 23 59 _ 2 32 Try.underlying23 info59 rfl (by omega) (by omega) U.drew.heap.size (heap_alloc_new U.drew _) ah m.heap.length ch cs hlen (fun j u hj => by obtain ⟨b, e, h⟩ := hsrc j u hj; exact ⟨b, e, cell_later hbE h⟩) (by omega)
    have hb1 : Below U.heap.size U w1 := nstep hbE hbA
    have hgU : U.heap.size ≤ g := by
      rcases hgB with h | h
      · rw [h]; exact Nat.le_refl _
      · have := hbE.size; omega
    refine step_append_run rfl (.tmp 162) (.tmp 167) 23 rfl (.slice (some ⟨U.drew.heap.size, 0, none⟩) 0 0) (.slice ah m.heap.length ch) (.slice (some ⟨g, 0, none⟩) m.heap.length cap1) (by simp [Act.eval, Act.put]) (by simp [Act.eval, Act.put]) hrun1 ?_
    refine hK _ _ (fun _ => hSl _ hb1) ?_
    clear hK K'
    try simp only [Act.put, List.setIfInBounds_toArray, List.set_cons_zero, List.set_cons_succ]
    refine wpAnyM_ready (rs := [16]) (by kernel_rfl) (by simp) ?_
    intro i hi
    simp only [List.mem_cons, List.not_mem_nil, or_false] at hi
    subst hi
    refine stepM (o := ⟨some 177, .call ⟨.value (.func 17), #[.tmp 174, .tmp 176], #[25, 3]⟩, 3, "ref.go:105", #[⟨13,.data⟩,⟨15,.data⟩,⟨7,.chain⟩], none⟩) rfl (fun K' hK => ?_)
    refine step_call rfl 17 (.func 17) #[.tmp 174, .tmp 176] _ rfl #[] rfl #[WV (.slice ac p.X.classes.length cc) (.slice ah m.heap.length ch) p.X.epoch, .int .i64 x.a] (by simp [Act.eval, Act.put]) (cf17 _ _) ?_
    refine (show Calls Try.prog 17 #[WV (.slice ac p.X.classes.length cc) (.slice ah m.heap.length ch) p.X.epoch, .int .i64 x.a] w1 _ from (rslots_any ⟨p.X.classes, m.heap, p.X.epoch⟩ x.a _ _ w1 (by rw [← hcv]; exact (hM2.cls.later goodC hb1)) (hM2.heap.later goodO hb1) ho).mono ?_)
    rintro e w2 ⟨rfl, hbS⟩
    rw [show slotsE (QW.mk p.X.classes m.heap p.X.epoch).classes x.a = (sl : Int) from hsl]
    refine ⟨_, rfl, ?_⟩
    have hb2 : Below U.heap.size U w2 := nstep hb1 hbS
    have hb3 : Below U.heap.size U (w2.alloc (.cells (madeCells #[.int .i64 0, .int .i64 0] (sl * 2)) 27)) := nstep hb2 (bel1 _ _)
    have hb4 : Below U.heap.size U ((w2.alloc (.cells (madeCells #[.int .i64 0, .int .i64 0] (sl * 2)) 27)).alloc (.cells #[.int .i64 x.a, .slice (some ⟨w2.heap.size, 0, none⟩) sl sl] 59)) := nstep hb3 (bel1 _ _)
    have hvb : U.heap.size ≤ w2.heap.size := hb2.size
    refine hK _ _ (fun _ => hSl _ hb2) ?_
    clear hK K'
    try simp only [Act.put, List.setIfInBounds_toArray, List.set_cons_zero, List.set_cons_succ]
    refine wpAnyM_ready (rs := [17]) (by kernel_rfl) (by simp) ?_
    intro i hi
    simp only [List.mem_cons, List.not_mem_nil, or_false] at hi
    subst hi
    refine stepM (o := ⟨some 178, .makeSlice 28 (.tmp 177) (.tmp 177), 28, "ref.go:105", #[⟨16,.data⟩,⟨16,.data⟩], none⟩) rfl (fun K' hK => ?_)
    go_simp
    refine hK _ _ (fun _ => hSl _ hb3) ?_
    clear hK K'
    try simp only [Act.put, List.setIfInBounds_toArray, List.set_cons_zero, List.set_cons_succ]
    refine wpAnyM_take (i := 18) (oi := ⟨some 179, .build 59 #[(0, .tmp 170), (1, .tmp 178)], 59, "ref.go:105", #[⟨9,.data⟩,⟨17,.data⟩], none⟩) (v := .agg #[.int .i64 x.a, .slice (some ⟨w2.heap.size, 0, none⟩) sl sl]) (by kernel_rfl) (by kernel_rfl) rfl (by kernel_rfl) (by kernel_rfl) (by kernel_rfl) (fun _ _ _ h => h) (Or.inl ⟨by rfl, ?_⟩) (hSl _ hb3) ?_
    · intro w hSw
      obtain ⟨q0, q1, q2, q3⟩ := hSw
      go_simp
    try simp only [Act.put, List.setIfInBounds_toArray, List.set_cons_zero, List.set_cons_succ]
    refine wpAnyM_ready (rs := [19]) (by kernel_rfl) (by simp) ?_
    intro i hi
    simp only [List.mem_cons, List.not_mem_nil, or_false] at hi
    subst hi
    refine stepM (o := ⟨some 180, .buildSlice 23 1 #[(0, .tmp 179)], 23, "ref.go:105", #[⟨18,.data⟩], none⟩) rfl (fun K' hK => ?_)
    go_simp
    refine hK _ _ (fun _ => hSl _ hb4) ?_
    clear hK K'
    try simp only [Act.put, List.setIfInBounds_toArray, List.set_cons_zero, List.set_cons_succ]
    refine wpAnyM_ready (rs := [20]) (by kernel_rfl) (by simp) ?_
    intro i hi
    simp only [List.mem_cons, List.not_mem_nil, or_false] at hi
    subst hi
    refine stepM (o := ⟨some 181, .call ⟨.builtin .append, #[.tmp 168, .tmp 180], #[23, 23]⟩, 23, "ref.go:105", #[⟨7,.data⟩,⟨19,.data⟩,⟨16,.chain⟩], none⟩) rfl (fun K' hK => ?_)
    have hgw : g < w2.heap.size := Nat.lt_of_lt_of_le hgl hbS.size
    have hst4 : ownsAt ((w2.alloc (.cells (madeCells #[.int .i64 0, .int .i64 0] (sl * 2)) 27)).alloc (.cells #[.int .i64 x.a, .slice (some ⟨w2.heap.size, 0, none⟩) sl sl] 59)) U.heap.size 59 2 (.slice (some ⟨g, 0, none⟩) m.heap.length cap1) m.heap.length cs := (((ownsAt_of hown (Nat.le_refl _)).base (base' := U.heap.size) (fun g' hg' => by cases hg'; exact hgU)).keep (fun g' hg' => by cases hg'; exact hbS.block _ hgl)).alloc _ |>.alloc _
    have hvw : ((w2.alloc (.cells (madeCells #[.int .i64 0, .int .i64 0] (sl * 2)) 27)).alloc (.cells #[.int .i64 x.a, .slice (some ⟨w2.heap.size, 0, none⟩) sl sl] 59)).heap[w2.heap.size]? = some (.cells (vcells (List.replicate sl nilV)).toArray 27 (0, 0)) := by
      rw [← madeV]; exact box_later' (heap_alloc_new w2 _) (bel1 _ _)
    have hvg : some w2.heap.size ≠ (Value.slice (some ⟨g, 0, none⟩) m.heap.length cap1).ownBlock := fun e => by have h1 : w2.heap.size = g := (by simpa [Value.ownBlock] using e); omega
    obtain ⟨v5, w5, hrun5, r1, r2, r3, r4⟩ := run_append_at (w := (w2.alloc (.cells (madeCells #[.int .i64 0, .int .i64 0] (sl * 2)) 27)).alloc (.cells #[.int .i64 x.a, .slice (some ⟨w2.heap.size, 0, none⟩) sl sl] 59)) 23 23 59 _ 2 32 Try.underlying23 info59 rfl (by omega) U.heap.size m.heap.length (.slice (some ⟨g, 0, none⟩) m.heap.length cap1) cs hst4 (w2.heap.size + 1) [.int .i64 x.a, .slice (some ⟨w2.heap.size, 0, none⟩) sl sl] rfl (by have := heap_alloc_new (w2.alloc (.cells (madeCells #[.int .i64 0, .int .i64 0] (sl * 2)) 27)) (.cells #[.int .i64 x.a, .slice (some ⟨w2.heap.size, 0, none⟩) sl sl] 59); simpa using this) (by intro u hu; simp only [List.mem_cons, List.not_mem_nil, or_false] at hu; rcases hu with h | h <;> (subst h; rfl)) (by unfold maxLen; omega) (by omega) (by have := hb4.size; omega)
    obtain ⟨a5, cap5, rfl, -⟩ := r1.form
    have hb5 : Below U.heap.size U w5 := hb4.trans r3
    have cf5 : ∀ o, w5.frozen? ⟨mb, o, none⟩ = false := row_free (by rw [hb5.block _ hmbl]; exact hM2.box)
    have c51 := (hSl _ hb4).2.1
    have c5 : w5.cell? ⟨mb, 1, none⟩ = some (.slice ah m.heap.length ch) := by rw [cell_of_row _ _ _ _ _ _ (show w5.heap[mb]? = _ by rw [hb5.block _ hmbl]; exact hM2.box)]; rfl
    have hS5 : w5.cell? ⟨mb, 0, none⟩ = some (.slice ac p.X.classes.length cc) ∧ w5.cell? ⟨mb, 1, none⟩ = some (.slice ah m.heap.length ch) ∧ w5.cell? ⟨mb, 2, none⟩ = some (.int .i64 p.X.epoch) ∧ w5.cell? ⟨wr.heap.size, 1, none⟩ = some (.int .i64 x.a) := by
      have hc : ∀ (b o : Nat) v, b < U.heap.size → U.cell? ⟨b, o, none⟩ = some v → w5.cell? ⟨b, o, none⟩ = some v := fun b o v hb h => by
        unfold World.cell? at h ⊢; rw [hb5.block b hb]; exact h
      obtain ⟨y0, y1, y2, y3⟩ := hSl _ (Below.refl _ U)
      exact ⟨hc _ _ _ hmbl y0, hc _ _ _ hmbl y1, hc _ _ _ hmbl y2, hc _ _ _ (World.block_lt_of_cell? U ⟨wr.heap.size, 1, none⟩ y3) y3⟩
    refine step_append_run rfl (.tmp 168) (.tmp 180) 23 rfl (.slice (some ⟨g, 0, none⟩) m.heap.length cap1) (.slice (some ⟨w2.heap.size + 1, 0, none⟩) 1 1) (.slice a5 (m.heap.length + 1) cap5) (by simp [Act.eval, Act.put]) (by simp [Act.eval, Act.put]) hrun5 ?_
    refine hK _ _ (fun _ => hS5) ?_
    clear hK K'
    try simp only [Act.put, List.setIfInBounds_toArray, List.set_cons_zero, List.set_cons_succ]
    refine wpAnyM_take (i := 21) (oi := ⟨some 182, .nilCheck (.tmp 161), 0, "ref.go:105", #[⟨0,.data⟩,⟨0,.phase⟩,⟨1,.phase⟩,⟨2,.phase⟩,⟨3,.phase⟩,⟨4,.phase⟩,⟨5,.phase⟩,⟨6,.phase⟩,⟨7,.phase⟩,⟨8,.phase⟩,⟨9,.phase⟩,⟨10,.phase⟩,⟨11,.phase⟩,⟨12,.phase⟩,⟨13,.phase⟩,⟨14,.phase⟩,⟨15,.phase⟩,⟨16,.phase⟩,⟨17,.phase⟩,⟨18,.phase⟩,⟨19,.phase⟩,⟨20,.phase⟩], none⟩) (v := .pointer (some ⟨mb, 0, none⟩)) (by kernel_rfl) (by kernel_rfl) rfl (by kernel_rfl) (by kernel_rfl) (by kernel_rfl) (fun _ _ _ h => h) (Or.inl ⟨by rfl, ?_⟩) (hS5) ?_
    · intro w hSw
      obtain ⟨q0, q1, q2, q3⟩ := hSw
      go_simp
    try simp only [Act.put, List.setIfInBounds_toArray, List.set_cons_zero, List.set_cons_succ]
    refine wpAnyM_take (i := 22) (oi := ⟨some 183, .fieldAddr 68 (.tmp 182) 0, 0, "ref.go:105", #[⟨21,.data⟩,⟨0,.phase⟩,⟨1,.phase⟩,⟨2,.phase⟩,⟨3,.phase⟩,⟨4,.phase⟩,⟨5,.phase⟩,⟨6,.phase⟩,⟨7,.phase⟩,⟨8,.phase⟩,⟨9,.phase⟩,⟨10,.phase⟩,⟨11,.phase⟩,⟨12,.phase⟩,⟨13,.phase⟩,⟨14,.phase⟩,⟨15,.phase⟩,⟨16,.phase⟩,⟨17,.phase⟩,⟨18,.phase⟩,⟨19,.phase⟩,⟨20,.phase⟩], none⟩) (v := .pointer (some ⟨mb, 0, none⟩)) (by kernel_rfl) (by kernel_rfl) rfl (by kernel_rfl) (by kernel_rfl) (by kernel_rfl) (fun _ _ _ h => h) (Or.inl ⟨by rfl, ?_⟩) (hS5) ?_
    · intro w hSw
      obtain ⟨q0, q1, q2, q3⟩ := hSw
      go_simp
    try simp only [Act.put, List.setIfInBounds_toArray, List.set_cons_zero, List.set_cons_succ]
    refine wpAnyM_take (i := 23) (oi := ⟨some 184, .fieldAddr 25 (.tmp 183) 1, 0, "ref.go:105", #[⟨22,.data⟩,⟨0,.phase⟩,⟨1,.phase⟩,⟨2,.phase⟩,⟨3,.phase⟩,⟨4,.phase⟩,⟨5,.phase⟩,⟨6,.phase⟩,⟨7,.phase⟩,⟨8,.phase⟩,⟨9,.phase⟩,⟨10,.phase⟩,⟨11,.phase⟩,⟨12,.phase⟩,⟨13,.phase⟩,⟨14,.phase⟩,⟨15,.phase⟩,⟨16,.phase⟩,⟨17,.phase⟩,⟨18,.phase⟩,⟨19,.phase⟩,⟨20,.phase⟩], none⟩) (v := .pointer (some ⟨mb, 1, none⟩)) (by kernel_rfl) (by kernel_rfl) rfl (by kernel_rfl) (by kernel_rfl) (by kernel_rfl) (fun _ _ _ h => h) (Or.inl ⟨by rfl, ?_⟩) (hS5) ?_
    · intro w hSw
      obtain ⟨q0, q1, q2, q3⟩ := hSw
      go_simp
    try simp only [Act.put, List.setIfInBounds_toArray, List.set_cons_zero, List.set_cons_succ]
    refine wpAnyM_ready (rs := [24]) (by kernel_rfl) (by simp) ?_
    intro i hi
    simp only [List.mem_cons, List.not_mem_nil, or_false] at hi
    subst hi
    refine stepM (o := ⟨none, .store 23 (.tmp 184) (.tmp 181), 0, "ref.go:105", #[⟨23,.data⟩,⟨20,.data⟩,⟨20,.chain⟩,⟨0,.phase⟩,⟨1,.phase⟩,⟨2,.phase⟩,⟨3,.phase⟩,⟨4,.phase⟩,⟨5,.phase⟩,⟨6,.phase⟩,⟨7,.phase⟩,⟨8,.phase⟩,⟨9,.phase⟩,⟨10,.phase⟩,⟨11,.phase⟩,⟨12,.phase⟩,⟨13,.phase⟩,⟨14,.phase⟩,⟨15,.phase⟩,⟨16,.phase⟩,⟨17,.phase⟩,⟨18,.phase⟩,⟨19,.phase⟩,⟨20,.phase⟩], none⟩) rfl (fun K' hK => ?_)
    go_simp
    refine hK _ _ (fun h => absurd h (by decide)) ?_
    clear hK K'
    try simp only [Act.put, List.setIfInBounds_toArray, List.set_cons_zero, List.set_cons_succ]
    refine wpAnyM_done (by kernel_rfl) ?_ _
    try simp only [Act.put, List.setIfInBounds_toArray, List.set_cons_zero, List.set_cons_succ]

    obtain ⟨f1, f2⟩ := new_fin (c := x.a) hM2 hcs hb4 hvb hvw hvg r1 r3 r4 (by omega) (by omega)
    have hE' : Ext T1 (tagged T2 U 0) wr := E1.out.trans E3.out.size (tagged_ext T2 U 0)
    have hFU := E2.out.keep (tagged_ext T2 U 0) f2 (by omega) (by omega) (by omega) (by omega) (by omega)
    have hKK : Kp (All K) T1 wr _ := (kpAll E3.out fun t ht => by omega).trans E1.out (kpAll f2 fun t ht => by omega)
    have HE' := hid hE'
    have HFU := hid hFU
    have HKK := hid hKK
    have F1 := hid f1
    have HSL := hid hsl
    clear hE' hFU hKK f1 f2 hsl
    go_wp2
    exact Or.inl ⟨rfl, make_end hX HR.out HG.out HX.out HOP.out H6.out HSL.out (by omega) HL.out HE'.out HKK.out F1.out HFU.out⟩
end Go.Proofs.Ytfdonemehiamjaa
