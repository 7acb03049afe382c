/- Body's switch, whole. -/
import Derived.Test.YtfdonemehiamjaaPG11
import Derived.Test.YtfdonemehiamjaaPG8
import Derived.Test.YtfdonemehiamjaaPG9
import Derived.Test.YtfdonemehiamjaaPSw13
namespace Go.Proofs.Ytfdonemehiamjaa
open Go.ChangeShapes Go.WideShapes Go.ChangeAt Go.RowKit
set_option linter.unusedSimpArgs false
set_option linter.unusedVariables false
set_option maxRecDepth 100000

set_option maxHeartbeats 8000000 in
theorem switch_any {p : Rp} {d : Nat} {T T1 : Nat → Nat} {w wr W : World} {mb K : Nat} {R : Mc RSt × QV × Int} {av kv : Value} {gk G' : Nat} {m : Mc RSt} {f : Fr} {c : Int} {n1 n2 n3 k : Nat} {x : QI} {hv sv ov : Value} {sa : Option Addr} {sc : Nat} (H : SwC p d T w mb K R av kv gk G' c n1 n2 n3 T1 m f wr W k x hv sv ov sa sc) 
    {u0 u1 u2 u3 u4 u5 u6 u7 u8 u9 ua ub uc ud ue uf ug uh ui uj uk ul um un uo up uq ur us ut uu uv uw ux uy uz ua0 ua1 ua2 ua3 ua4 ua5 ua6 ua7 ua8 ua9
    uaa uab uac uad uae uaf uag uah uai uaj uak ual uam uan uao uap uaq uar uas uat uau uav uaw uax uay uaz ub0 ub1 ub2 ub3 ub4 ub5 ub6 ub7 ub8 ub9 uba ubb ubc ubd ube ubf ubg ubh
    ubi ubj ubk ubl ubm ubn ubo ubp ubq ubr ubs ubt ubu ubv ubw ubx uby ubz uc0 uc1 uc2 uc3 uc4 uc5 uc6 uc7 uc8 uc9 uca ucb ucc ucd uce ucf ucg uch
    uci ucj uck ucl ucm ucn uco ucp ucq ucr ucs uct ucu ucv ucw ucx ucy ucz ud0 ud1 ud2 ud3 ud4 ud5 ud6 ud7 ud8 ud9 uda udb udc udd ude udf udg udh
    udi udj udk udl udm udn udo udp udq udr uds udt udu udv udw udx udy udz ue0 ue1 ue2 ue3 ue4 ue5 ue6 ue7 ue8 ue9 uea ueb uec ued uee uef ueg ueh
    uei uej uek uel uem uen ueo uep ueq uer ues uet ueu uev uew uex uey uez uf0 uf1 uf2 uf3 uf4 uf5 uf6 uf7 uf8 uf9 ufa ufb ufc ufd ufe uff ufg ufh
    ufi ufj ufk ufl ufm ufn ufo ufp ufq ufr ufs uft ufu ufv ufw ufx ufy ufz ug0 ug1 ug2 ug3 ug4 ug5 ug6 ug7 ug8 ug9 uga ugb ugc ugd uge ugf ugg ugh
    ugi ugj ugk ugl ugm ugn ugo ugp ugq ugr ugs ugt ugu ugv ugw ugx ugy ugz uh0 uh1 uh2 uh3 : Value}
    {KT K2 K3 : Act → World → Prop}
    (hN : ∀ (u5 u6 u7 u8 u9 ua ub uc uu uv uw ux uy uz ua0 ua1 ua2 ua3 ua4 ua5 ua6 ua7 ua8 ua9 uaa uab uac uad uae uaf uag uah uai uaj uak ual uam uan uao uap uaq uar uas uat uau
    uav uaw uax uay uaz ub0 ub1 ub2 ub3 ub4 ub5 ub6 ub7 ub8 ub9 uba ubb ubc ubd ube ubf ubg ubh ubi ubj ubk ubl ubm ubn ubo ubp ubq ubr ubs ubt ubu ubv ubw ubx uby
    ubz uc0 uc1 uc2 uc3 uc4 uc5 uc6 uc7 uc8 uc9 uca ucb ucc ucd uce ucf ucg uch uci ucj uck ucl ucm ucn uco ucp ucq ucr ucs uct ucu ucv ucw ucx ucy
    ucz ud0 ud1 ud2 ud3 ud4 ud5 ud6 ud7 ud8 ud9 uda udb udc udd ude udf udg udh udi udj udk udl udm udn udo udp udq udr uds udt udu udv udw udx udy
    udz ue0 ue1 ue2 ue3 ue4 ue5 ue6 ue7 ue8 ue9 uea ueb uec ued uee uef ueg ueh uei uej uek uel uem uen ueo uep ueq uer ues uet ueu uev uew uex uey
    uez uf0 uf1 uf2 uf3 uf4 uf5 uf6 uf7 uf8 uf9 ufa ufb ufc ufd ufe uff ufg ufh ufi ufj ufk ufl ufm ufn ufo ufp ufq ufr ufs uft ufu ufv ufw ufx ufy
    ufz ug0 ug1 ug2 ug3 ug4 ug5 ug6 ug7 ug8 ug9 uga ugb ugc ugd uge ugf ugg ugh ugi ugj : Value) (tg : Int) (w' : World), SwOk p d T w mb K R av kv G' c n1 n2 n3 T1 m f wr k x tg w' → KT (Act.mk #[.pointer (some ⟨mb, 0, none⟩), .int .i64 c,u0,u1, av,u2,u3, .pointer (some ⟨w.heap.size, 0, none⟩), .pointer (some ⟨w.heap.size + 1, 0, none⟩),u4, .pointer (some
    ⟨w.heap.size + 2, 0, none⟩), .slice (some ⟨w.heap.size + 3, 0, none⟩) n2 n2, .pointer (some ⟨w.heap.size + 4, 0, none⟩), .func (.func 47) #[] #[.pointer (some ⟨w.heap.size + 4, 0,
    none⟩)], .int .i64 (k : Int), .pointer (some ⟨wr.heap.size, 0, none⟩), .int .i64 tg,u5,u6,u7,u8,u9,ua,ub,uc,ud,ue,uf,ug,uh,ui,uj,uk,ul,um,un,
    uo,up,uq,ur,us,ut, .int .i64 x.op,uu,uv,uw,ux,uy,uz,ua0,ua1,ua2,ua3,ua4,ua5,ua6,ua7,ua8,ua9,uaa,uab,uac,uad,uae,uaf,uag,uah,uai,uaj,uak,
    ual,uam,uan,uao,uap,uaq,uar,uas,uat,uau,uav,uaw,uax,uay,uaz,ub0,ub1,ub2,ub3,ub4,ub5,ub6,ub7,ub8,ub9,uba,ubb,ubc,ubd,ube,ubf,ubg,ubh,ubi,ubj,
    ubk,ubl,ubm,ubn,ubo,ubp,ubq,ubr,ubs,ubt,ubu,ubv,ubw,ubx,uby,ubz,uc0,uc1,uc2,uc3,uc4,uc5,uc6,uc7,uc8,uc9,uca,ucb,ucc,ucd,
    uce,ucf,ucg,uch,uci,ucj,uck,ucl,ucm,ucn,uco,ucp,ucq,ucr,ucs,uct,ucu,ucv,ucw,ucx,ucy,ucz,ud0,ud1,ud2,ud3,ud4,ud5,ud6,ud7,
    ud8,ud9,uda,udb,udc,udd,ude,udf,udg,udh,udi,udj,udk,udl,udm,udn,udo,udp,udq,udr,uds,udt,udu,udv,udw,udx,udy,udz,ue0,ue1,
    ue2,ue3,ue4,ue5,ue6,ue7,ue8,ue9,uea,ueb,uec,ued,uee,uef,ueg,ueh,uei,uej,uek,uel,uem,uen,ueo,uep,ueq,uer,ues,uet,ueu,uev,
    uew,uex,uey,uez,uf0,uf1,uf2,uf3,uf4,uf5,uf6,uf7,uf8,uf9,ufa,ufb,ufc,ufd,ufe,uff,ufg,ufh,ufi,ufj,ufk,ufl,ufm,ufn,ufo,ufp,
    ufq,ufr,ufs,uft,ufu,ufv,ufw,ufx,ufy,ufz,ug0,ug1,ug2,ug3,ug4,ug5,ug6,ug7,ug8,ug9,uga,ugb,ugc,ugd,uge,ugf,ugg,ugh,ugi,ugj,
    ugk,ugl,ugm,ugn,ugo,ugp,ugq,ugr,ugs,ugt,ugu,ugv,ugw,ugx,ugy,ugz,uh0,uh1,uh2,uh3] []) w')
    {K9 : Act → World → Prop} (hK9 : ∀ a w', Code.wp Try.prog sw9 (Exit.inBlock 2 (Exit.then KT (Exit.inBlock 1 (Exit.then K2 (Exit.inBlock 0 (Exit.then K3 (bodyPost Try.prog Try.f37 fun e w' => RePost p T w mb (20 - (d : Int)) K R e w'))))))) a w' → K9 a w') :
    Code.wp Try.prog reg9 (Exit.then K9 (Exit.inBlock 2 (Exit.then KT (Exit.inBlock 1 (Exit.then K2 (Exit.inBlock 0 (Exit.then K3 (bodyPost Try.prog Try.f37 fun e w' => RePost p T w mb (20 - (d : Int)) K R e w')))))))) (Act.mk #[.pointer (some ⟨mb, 0, none⟩), .int .i64 c,u0,u1, av,u2,u3, .pointer (some ⟨w.heap.size, 0, none⟩), .pointer (some ⟨w.heap.size + 1, 0, none⟩),u4, .pointer (some
    ⟨w.heap.size + 2, 0, none⟩), .slice (some ⟨w.heap.size + 3, 0, none⟩) n2 n2, .pointer (some ⟨w.heap.size + 4, 0, none⟩), .func (.func 47) #[] #[.pointer (some ⟨w.heap.size + 4, 0,
    none⟩)], .int .i64 (k : Int), .pointer (some ⟨wr.heap.size, 0, none⟩), .int .i64 ((k : Int) + 1),u5,u6,u7,u8,u9,ua,ub,uc,ud,ue,uf,ug,uh,ui,uj,uk,
    ul,um,un,uo,up,uq,ur,us,ut, .int .i64 x.op,uu,uv,uw,ux,uy,uz,ua0,ua1,ua2,ua3,ua4,ua5,ua6,ua7,ua8,ua9,uaa,uab,uac,uad,uae,uaf,uag,uah,
    uai,uaj,uak,ual,uam,uan,uao,uap,uaq,uar,uas,uat,uau,uav,uaw,uax,uay,uaz,ub0,ub1,ub2,ub3,ub4,ub5,ub6,ub7,ub8,ub9,uba,ubb,ubc,ubd,ube,ubf,ubg,
    ubh,ubi,ubj,ubk,ubl,ubm,ubn,ubo,ubp,ubq,ubr,ubs,ubt,ubu,ubv,ubw,ubx,uby,ubz,uc0,uc1,uc2,uc3,uc4,uc5,uc6,uc7,uc8,uc9,uca,
    ucb,ucc,ucd,uce,ucf,ucg,uch,uci,ucj,uck,ucl,ucm,ucn,uco,ucp,ucq,ucr,ucs,uct,ucu,ucv,ucw,ucx,ucy,ucz,ud0,ud1,ud2,ud3,ud4,
    ud5,ud6,ud7,ud8,ud9,uda,udb,udc,udd,ude,udf,udg,udh,udi,udj,udk,udl,udm,udn,udo,udp,udq,udr,uds,udt,udu,udv,udw,udx,udy,
    udz,ue0,ue1,ue2,ue3,ue4,ue5,ue6,ue7,ue8,ue9,uea,ueb,uec,ued,uee,uef,ueg,ueh,uei,uej,uek,uel,uem,uen,ueo,uep,ueq,uer,ues,
    uet,ueu,uev,uew,uex,uey,uez,uf0,uf1,uf2,uf3,uf4,uf5,uf6,uf7,uf8,uf9,ufa,ufb,ufc,ufd,ufe,uff,ufg,ufh,ufi,ufj,ufk,ufl,ufm,
    ufn,ufo,ufp,ufq,ufr,ufs,uft,ufu,ufv,ufw,ufx,ufy,ufz,ug0,ug1,ug2,ug3,ug4,ug5,ug6,ug7,ug8,ug9,uga,ugb,ugc,ugd,uge,ugf,ugg,
    ugh,ugi,ugj,ugk,ugl,ugm,ugn,ugo,ugp,ugq,ugr,ugs,ugt,ugu,ugv,ugw,ugx,ugy,ugz,uh0,uh1,uh2,uh3] []) W := by
  have hkd := H.nx.kind
  obtain ⟨on, hon, h1, h2⟩ : ∃ on : Nat, x.op = (on : Int) ∧ 1 ≤ on ∧ on ≤ 17 := ⟨x.op.toNat, by omega, by omega, by omega⟩
  rw [hon] at hN ⊢
  match on, h1, h2 with
  | 1, _, _ => exact br1 H hon hN hK9
  | 2, _, _ => exact br2 H hon hN hK9
  | 3, _, _ => exact br3 H hon hN hK9
  | 4, _, _ => exact br4 H hon hN hK9
  | 5, _, _ => exact br5 H hon hN hK9
  | 6, _, _ => exact br6 H hon hN hK9
  | 7, _, _ => exact br7 H hon hN hK9
  | 8, _, _ => exact br8 H hon hN hK9
  | 9, _, _ => exact br9 H hon hN hK9
  | 10, _, _ => exact br10 H hon hN hK9
  | 11, _, _ => exact br11 H hon hN hK9
  | 12, _, _ => exact br12 H hon hN hK9
  | 13, _, _ => exact br13 H hon hN hK9
  | 14, _, _ => exact br14 H hon hN hK9
  | 15, _, _ => exact br15 H hon hN hK9
  | 16, _, _ => exact br16 H hon hN hK9
  | 17, _, _ => exact br17 H hon hN hK9
  | 0, h0, _ => exact absurd h0 (by omega)
  | n + 18, _, h0 => exact absurd h0 (by omega)
end Go.Proofs.Ytfdonemehiamjaa
/- The reference's Body. -/
namespace Go.Proofs.Ytfdonemehiamjaa
open Go.ChangeShapes Go.WideShapes Go.ChangeAt Go.RowKit
set_option linter.unusedSimpArgs false
set_option linter.unusedVariables false
set_option maxRecDepth 8000

section
variable {p : Rp} {d : Nat} {T T1 T2 : Nat → Nat} {w wr w2 : World} {mb K : Nat} {R : Mc RSt × QV × Int} {av kv : Value} {gk : Nat} {at' at2 : Value} {m : Mc RSt} {f : Fr}
theorem jump_fwd {c : Int} {n1 n2 n3 G' k : Nat} {x : QI} {f1 : Fr} {hv sv ov st : Value} {w' : World} (hX : Rx p) (hR : BdR p d T w mb K R av kv gk at' T1 m f 0 wr) (hg : gk = G' + 1) (hx : NxOk f k x) (h17 : x.op ≠ 17) (hr : mstepE (entE p.E d) p.E d m { f with pc := f.pc + 1 } f.pc x = jumpE m f1 k x.a) (hle : ¬ x.a ≤ k) (ht : m.turns ≤ 300) (hE : Ext T1 T2 wr) (hK : Kp (All K) T1 wr w') (hM : RMac p T2 w' mb m (20 - (d : Int)) 0 hv sv ov) (hF : RF T2 K w' w.heap.size f1 av kv st) (hL : Lens c n1 n2 n3 f1) :
    BdX p d T w mb K R av kv c n1 n2 n3 G' (.int .i64 x.a) w' := by
  have hj : jumpE m f1 k x.a = (m, { f1 with pc := x.a }, 0) := by unfold jumpE; simp only [hle, if_false]; rw [if_neg (by omega)]
  exact ⟨_, _, _, _, hR.next hX hg hx h17 (hr.trans hj) hE hK hM (fun _ => ⟨_, hF.at _⟩) (fun _ => rfl), fun _ => hL⟩
theorem jump_back {c : Int} {n1 n2 n3 G' k : Nat} {x : QI} {f1 : Fr} {hv sv ov st : Value} {w' : World} (hX : Rx p) (hR : BdR p d T w mb K R av kv gk at' T1 m f 0 wr) (hg : gk = G' + 1) (hx : NxOk f k x) (h17 : x.op ≠ 17) (hr : mstepE (entE p.E d) p.E d m { f with pc := f.pc + 1 } f.pc x = jumpE m f1 k x.a) (hle : x.a ≤ k) (ht : m.turns + 1 ≤ 300) (hE : Ext T1 T2 wr) (hK : Kp (All K) T1 wr w') (hM : RMac p T2 w' mb m (20 - (d : Int)) 0 hv sv ov) (hF : RF T2 K w' w.heap.size f1 av kv st) (hL : Lens c n1 n2 n3 f1) :
    BdX p d T w mb K R av kv c n1 n2 n3 G' (.int .i64 x.a) (w'.setCell ⟨mb, 5, none⟩ (.int .i64 (m.turns + 1))) := by
  have hp := hF.pos
  have hj : jumpE m f1 k x.a = ({ m with turns := m.turns + 1 }, { f1 with pc := x.a }, 0) := by unfold jumpE; simp only [hle, if_true]; rw [if_neg (by omega)]
  have k1 := kp1 hM 5 (.int .i64 (m.turns + 1))
  exact ⟨_, _, _, _, hR.next hX hg hx h17 (hr.trans hj) hE (hK.trans hE (k1.mono fun t h => Or.inl h)) (hM.num5 _) (fun _ => ⟨_, (hF.keep (.refl _ _) k1 (by omega) (by omega) (by omega) (by omega) (by omega)).at _⟩) (fun _ => rfl), fun _ => hL⟩
theorem jump_stop {c : Int} {n1 n2 n3 G' k : Nat} {x : QI} {f1 : Fr} {hv sv ov : Value} {w' : World} {at2 : Value} (hX : Rx p) (hR : BdR p d T w mb K R av kv gk at' T1 m f 0 wr) (hg : gk = G' + 1) (hx : NxOk f k x) (h17 : x.op ≠ 17) (hr : mstepE (entE p.E d) p.E d m { f with pc := f.pc + 1 } f.pc x = jumpE m f1 k x.a) (hle : x.a ≤ k) (ht : ¬ m.turns + 1 ≤ 300) (hE : Ext T1 T2 wr) (hK : Kp (All K) T1 wr w') (hM : RMac p T2 w' mb m (20 - (d : Int)) 0 hv sv ov) :
    BdX p d T w mb K R av kv c n1 n2 n3 G' at2 ((w'.setCell ⟨mb, 5, none⟩ (.int .i64 (m.turns + 1))).setCell ⟨mb, 7, none⟩ (.int .i64 16)) := by
  have hj : jumpE m f1 k x.a = ({ m with turns := m.turns + 1 }, f1, 16) := by unfold jumpE; simp only [hle, if_true]; rw [if_pos (by omega)]
  have k1 := kp1 hM 5 (.int .i64 (m.turns + 1))
  have hM1 := hM.num5 (m.turns + 1)
  have k2 := kp1 hM1 7 (.int .i64 16)
  exact ⟨_, _, _, _, hR.next hX hg hx h17 (hr.trans hj) hE (hK.trans hE ((k1.mono fun t h => Or.inl h).trans (.refl _ _) (k2.mono fun t h => Or.inl h))) (hM1.num7 16) (fun h => by cases h) (fun h => by cases h), fun h => by cases h⟩
theorem res_bad {err : Int} {hv sv ov : Value} (hR : BdR p d T w mb K R av kv gk at' T1 m f err wr) (hM : RMac p T1 wr mb m (20 - (d : Int)) err hv sv ov) (hE : R = (m, nilV, err)) : RePost p T w mb (20 - (d : Int)) K R (.returned (VV nilV)) ((wr.setCell ⟨w.heap.size + 2, 0, none⟩ (.int .i64 0)).setCell ⟨w.heap.size + 2, 1, none⟩ (.int .i64 0)) := by
  have ht := hR.tres
  have k4 : Kp (fun t => t = 4) T1 wr ((wr.setCell ⟨w.heap.size + 2, 0, none⟩ (.int .i64 0)).setCell ⟨w.heap.size + 2, 1, none⟩ (.int .i64 0)) := ((Kp.refl (fun t => t = 4) T1 wr).set (b := w.heap.size + 2) (fun _ => ht) _ _).set (b := w.heap.size + 2) (fun _ => ht) _ _
  subst hE
  exact ⟨rfl, ⟨T1, _, _, _, hR.ext, hM.keep (.refl _ _) k4 (by omega) (by omega) (by omega) (by omega)⟩, (hR.kp.set (fun h => by omega) _ _).set (fun h => by omega) _ _⟩
set_option maxHeartbeats 20000000 in
theorem body_any (hX : Rx p) (hEn : ReOk p d) (K : Nat) (T : Nat → Nat) (w : World) (mb : Nat) (m : Mc RSt) (hv sv ov : Value) (c n : Int) (self : QV) (args : List QV) (av : Value) (mt : QM) (kv : Value) (hK : 5 ≤ K) (h : RMac p T w mb m (20 - (d : Int)) 0 hv sv ov) (hI : MIn p.E m) (hW : Few m) (hFo : FOk p.X.classes m.heap.length (frameE p.E c n mt self args)) (hPl : PlOk (frameE p.E c n mt self args)) (hA : IsVals (Fx T w) w av args) (hC : IsCode (Fx T w) w kv mt.code) :
    Calls Try.prog 37 #[.pointer (some ⟨mb, 0, none⟩), .int .i64 c, MV mt kv, VV self, av] w fun e w' => RePost p T w mb (20 - (d : Int)) K (finE (entE p.E d) p.E d (gasE (frameE p.E c n mt self args)) m (frameE p.E c n mt self args)) e w' := by
  obtain ⟨aa, ca, rfl, -, hca, -, -⟩ := id hA
  obtain ⟨ak, ck, rfl, -, hck, -, -⟩ := id hC
  unfold maxLen at hca hck
  have hfr : frameE p.E c n mt self args = ⟨c, mt, self, args, roomsE mt.temps, [], mt.code, 0, false⟩ := rfl
  have htl := hPl.temps
  have hlm := blk_lt h.box
  obtain ⟨tn, htn⟩ : ∃ tn : Nat, mt.temps = (tn : Int) := ⟨mt.temps.toNat, by rw [hfr] at htl; simp only at htl; omega⟩
  have htr : roomsE mt.temps = List.replicate tn nilV := by
    rw [hfr] at htl
    simp only [roomsE, List.length_replicate] at htl
    unfold roomsE
    congr 1
    omega
  have ht40 : tn ≤ 40 := by rw [hfr] at htl; simp only [roomsE, List.length_replicate] at htl; omega
  have hmk := make_vals tn (by omega)
  have hStart := fun (U : World) hb u0 u1 u2 u3 u4 => body_start (U := U) h hK hI hW hFo hPl (by rw [hfr]; exact hA) (by rw [hfr]; exact hC) rfl rfl rfl hb u0 u1 u2 u3 u4
  have HSt := hid hStart
  clear hStart hFo hPl hA hC hI hW htl h
  obtain ⟨f0, hf0⟩ : ∃ f0, f0 = frameE p.E c n mt self args := ⟨_, rfl⟩
  obtain ⟨e1, e2, e3, e4⟩ : f0.meth = mt ∧ f0.self = self ∧ f0.temps = List.replicate tn nilV ∧ f0.cls = c ∧ f0.args.length = args.length ∧ f0.code.length = mt.code.length := by rw [hf0, hfr]; exact ⟨rfl, rfl, htr, rfl, rfl, rfl⟩
  rw [← hf0] at HSt ⊢
  have HM := hid (And.intro e1 (And.intro e2 (And.intro e3 e4)))
  generalize finE (entE p.E d) p.E d (gasE f0) m f0 = R at *
  generalize hG : gasE f0 = G at *
  clear hf0 hfr e1 e2 e3 e4 hG htr
  obtain ⟨mname, margs, mtemps, mprim, mcode⟩ := mt
  simp only at htn HM
  subst htn
  simp only at *
  go_enter Try.func37, Try.ntmps37
  go_upto_region 4 with (fail)
  have hbU : Below w.heap.size w (((((w.alloc (.cells #[.string mname, .int .i64 margs, .int .i64 (tn : Int), .int .i64 mprim, .slice ak mcode.length ck] 54)).alloc (.cells #[.int .i64 self.k, .int .i64 self.n] 27)).alloc (.cells #[.int .i64 0, .int .i64 0] 27)).alloc (.cells (madeCells #[.int .i64 0, .int .i64 0] (tn * 2)) 27)).alloc (.cells #[.slice none 0 0] 28)) := by
    refine (((bel3 _ _ _ _).alloc (by simp; omega) _).alloc (by simp; omega) _)
  have hRel : BdR p d T w mb K R (.slice aa args.length ca) (.slice ak mcode.length ck) G (.int .i64 0) (tagB T w.heap.size K) m f0 0 (((((w.alloc (.cells #[.string mname, .int .i64 margs, .int .i64 (tn : Int), .int .i64 mprim, .slice ak mcode.length ck] 54)).alloc (.cells #[.int .i64 self.k, .int .i64 self.n] 27)).alloc (.cells #[.int .i64 0, .int .i64 0] 27)).alloc (.cells (madeCells #[.int .i64 0, .int .i64 0] (tn * 2)) 27)).alloc (.cells #[.slice none 0 0] 28)) := by
    obtain ⟨g1, g2, g3, -⟩ := HM.out
    refine HSt.out _ hbU ?_ ?_ ?_ ?_ ?_
    · rw [g1]; exact (five w _ _ _ _ _).1.1
    · rw [g2]; exact (five w _ _ _ _ _).1.2.1
    · exact (five w _ _ _ _ _).1.2.2
    · rw [g3, ← madeV]; exact (five w _ _ _ _ _).2.1
    · exact (five w _ _ _ _ _).2.2
  generalize (((((w.alloc (.cells #[.string mname, .int .i64 margs, .int .i64 (tn : Int), .int .i64 mprim, .slice ak mcode.length ck] 54)).alloc (.cells #[.int .i64 self.k, .int .i64 self.n] 27)).alloc (.cells #[.int .i64 0, .int .i64 0] 27)).alloc (.cells (madeCells #[.int .i64 0, .int .i64 0] (tn * 2)) 27)).alloc (.cells #[.slice none 0 0] 28)) = W0 at *
  clear hbU HSt hmk
  have HM2 : Hid (f0.meth = ⟨mname, margs, tn, mprim, mcode⟩ ∧ f0.self = self) := ⟨HM.out.1, HM.out.2.1⟩
  simp only [Nat.add_assoc, Nat.reduceAdd]
  go_wp2
  go_loopg [14] G (fun gk at' wr => BdX p d T w mb K R (.slice aa args.length ca) (.slice ak mcode.length ck) c args.length tn mcode.length gk at' wr)
  case atStart => exact ⟨_, _, _, _, hRel, fun _ => by obtain ⟨g1, g2, g3, g4, g5, g6⟩ := HM.out; exact ⟨g4, g5, by rw [g3]; simp, g6⟩⟩
  case round =>
    clear hRel
    obtain ⟨T1, m, f, err, hR, hLen⟩ := hrel
    obtain ⟨hv1, sv1, ov1, hM⟩ := hR.mac
    have c7 := hM.c7
    by_cases herr : err = 0
    · subst herr
      obtain ⟨l0, l1, l2, l3⟩ := hLen rfl
      obtain ⟨hI, hW, hFo, hPl, hmu, hval, hat⟩ := hR.min rfl
      obtain ⟨st, hF⟩ := hR.run rfl
      obtain ⟨sa, sc, rfl, hsc1, hsc2⟩ := hF.stack.form
      unfold maxLen at hsc2
      obtain ⟨k, x, hx⟩ := hPl.nx
      have hpc := hx.pc
      have hkl := hx.lt
      obtain ⟨G', hG'⟩ : ∃ G', gk = G' + 1 := ⟨gk - 1, by
        have : 0 < muE m f := by unfold muE; rw [hpc]; simp; omega
        omega⟩
      rw [hpc] at hat
      subst hat
      have k4 := hF.k4
      obtain ⟨a', cc', e', hlc, hcc, -, hrow⟩ := hF.code
      unfold maxLen at hcc
      simp only [Value.slice.injEq] at e'
      obtain ⟨rfl, -, -⟩ := e'
      obtain ⟨bc, oc, hac, -, i0, i1, i2, i3, i4, -⟩ := hrow k x hx.here
      have hkm : k < mcode.length := by omega
      have hk0 : (0 : Int) ≤ (k : Int) := by omega
      have hk1 : (k : Int) < (mcode.length : Int) := by omega
      have hkw : IntKind.i64.wrap ((k : Int) + 1) = (k : Int) + 1 := wrap_of (by omega) (by omega)
      simp only [Nat.add_zero] at i0
      subst hac
      have hSw0 : Below wr.heap.size wr (wr.alloc (.cells #[.int .i64 x.op, .int .i64 x.a, .int .i64 x.b, .int .i64 x.c, .string x.name] 81)) := bel1 _ _
      have hSw : SwC p d T w mb K R (.slice aa args.length ca) (.slice (some ⟨bc, oc, none⟩) mcode.length ck) gk G' c args.length tn mcode.length T1 m f wr (wr.alloc (.cells #[.int .i64 x.op, .int .i64 x.a, .int .i64 x.b, .int .i64 x.c, .string x.name] 81)) k x hv1 sv1 ov1 sa sc := ⟨hX, hEn, hR, hG', hx, hM, hF, ⟨hsc1, by omega⟩,⟨l0, l1, l2, l3⟩, hSw0, inB_new wr x, ⟨_, _, rfl, by omega⟩, ht40, ⟨hI, hW, hFo, hPl⟩⟩
      have HX := hid hx
      have HSw := hid hSw
      clear hSw hSw0
      have HR := hid hR
      have HMa := hid hM
      have HF := hid hF
      have HL := hid (And.intro l0 (And.intro l1 (And.intro l2 l3)))
      have HG := hid hG'
      have hb1 := bel1 wr (.cells #[.int .i64 x.op, .int .i64 x.a, .int .i64 x.b, .int .i64 x.c, .string x.name] 81)
      have hxb := (inB_new wr x).x0
      have hBl : w.heap.size + 4 < wr.heap.size := blk_lt hF.sb
      clear hx hR hM hF hLen hI hW hFo hPl hmu hval hrow hG' hpc hkl l0 l1 l2 l3
      go_upto_region 9 with (fail)
      generalize (wr.alloc (.cells #[.int .i64 x.op, .int .i64 x.a, .int .i64 x.b, .int .i64 x.c, .string x.name] 81)) = W at *
      have HTu : Hid (0 ≤ m.turns ∧ m.turns ≤ 300) := HSw.out.min.1.turns
      refine switch_any HSw.out ?_ (by assumption)
      intros
      rename_i tg w' hok
      dsimp only
      rcases hok with ⟨rfl, hBd⟩ | ⟨rfl, h17, f1, T2, hv2, sv2, ov2, st2, e1, e2, e3, e4, e5, e6⟩
      · have HBd := hid hBd
        have hkk : decide ((k : Int) + 1 ≤ (k : Int)) = false := by simp; omega
        clear hBd hxb
        go_wp2
        go_roundg G'
        case measure => have := HG.out; omega
        case rel => exact HBd.out
      · by_cases hle : x.a ≤ (k : Int)
        · have hd : decide (x.a ≤ (k : Int)) = true := by simpa using hle
          have c5 := e3.c5
          have f5 := row_free e3.box
          obtain ⟨ht0, ht3⟩ := HTu.out
          have htw : IntKind.i64.wrap (m.turns + 1) = m.turns + 1 := wrap_of (by omega) (by omega)
          have htw' : wrap64 (m.turns + 1) = m.turns + 1 := by unfold wrap64; omega
          have hN5 := e3.num5 (m.turns + 1)
          have g5 := hN5.c5
          have g7 := hN5.c7
          have gf := row_free hN5.box
          have E6 := hid e6
          have E1 := hid e1
          have E2 := hid e2
          have E3 := hid e3
          have E4 := hid e4
          have E5 := hid e5
          have HLE := hid hle
          have H17 := hid h17
          clear e1 e2 e3 e4 e5 e6 hle h17 hN5 hxb ht0 ht3
          simp only [] at g5
          by_cases ht : m.turns + 1 ≤ 300
          · have hd3 : decide (300 < m.turns + 1) = false := by simp; omega
            have HT := hid ht
            clear ht
            go_wp2
            go_roundg G'
            case measure => have := HG.out; omega
            case rel => exact jump_back hX HR.out HG.out HX.out H17.out E6.out HLE.out HT.out E1.out E2.out E3.out E4.out E5.out
          · have hd3 : decide (300 < m.turns + 1) = true := by simp; omega
            have HT := hid ht
            clear ht
            go_wp2
            go_roundg G'
            case measure => have := HG.out; omega
            case rel => exact jump_stop hX HR.out HG.out HX.out H17.out E6.out HLE.out (by have := HT.out; omega) E1.out E2.out E3.out
        · have hd : decide (x.a ≤ (k : Int)) = false := by simpa using hle
          have E6 := hid e6
          have E1 := hid e1
          have E2 := hid e2
          have E3 := hid e3
          have E4 := hid e4
          have E5 := hid e5
          have HLE := hid hle
          have H17 := hid h17
          clear e1 e2 e3 e4 e5 e6 hle h17 hxb
          go_wp2
          go_roundg G'
          case measure => have := HG.out; omega
          case rel => exact jump_fwd hX HR.out HG.out HX.out H17.out E6.out (by have := HLE.out; omega) HTu.out.2 E1.out E2.out E3.out E4.out E5.out
    · have herr' : (err == 0) = false := by simpa using herr
      have HE := hid (hR.bad herr)
      have HMa := hid hM
      have HR := hid hR
      have r0 : wr.cell? ⟨w.heap.size + 2, 0, none⟩ = some (.int .i64 0) := by rw [cell_of_row _ _ _ _ _ _ hR.res]; rfl
      have r1 : wr.cell? ⟨w.heap.size + 2, 1, none⟩ = some (.int .i64 0) := by rw [cell_of_row _ _ _ _ _ _ hR.res]; rfl
      have rf := row_free hR.res
      clear hR hM hLen herr
      go_wp2
      refine bodyPost_ret (v := VV nilV) ?_ rfl (res_bad HR.out HMa.out HE.out)
      simp [results, Try.results37, go_sem, r0, r1]
end
end Go.Proofs.Ytfdonemehiamjaa
