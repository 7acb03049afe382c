/- A part. -/
import Derived.Test.YtapbeiccodnniaaGreatM33
namespace Go.Proofs.YtapbeiccodnniaaGreat
open Go.ChangeShapes Go.WideShapes Go.ChangeAt Go.RowKit
set_option linter.unusedSimpArgs false
set_option linter.unusedVariables false
set_option maxHeartbeats 8000000
set_option maxRecDepth 100000
theorem xc6 {P:Program}{md:Region.Mode}{ops:Array Oper}{Q:Exit->Act->World->Prop}{S:World->Prop}{late late':List Nat}:∀ (fuel:Nat) (listed:Array Bool) (a:Act) (w:World),xbV P md ops Q S late fuel listed a w->xbV P md ops Q (fun _=>True) late' fuel listed a w
 | 0,_,_,_,h=>h
 | fuel+1,_,_,_,h=>⟨h.1,fun i hi=>wpOp_mono (fun a' w' h'=>⟨fun _=>trivial,xc6 fuel _ a' w' h'.2⟩) (h.2 i hi)⟩
theorem xkx:(Tryz.prog.info? 67).map (fun i=>(i.zero,i.size,i.bytes))=some (some (.agg #[.int .i64 0,.string ⟨#[]⟩,.int .i64 0]),3,32):=by kernel_rfl
section
variable {p:Rp} {d:Nat} {mb K B:Nat} {T:Nat->Nat} {U wz w12 w18 w19:World} {m:Mc RSt} {err:Int} {f:Fr} {av kv st hv:Value} {a8 a9:Option Addr} {n8 n9 p8 p9:Nat}
theorem xk1 (h:RMac p T U mb m (20-(d:Int)) err hv (.slice a8 n8 p8) (.slice a9 n9 p9))(hbz:Below U.heap.size U wz)(r4:∀ b,b<wz.heap.size->some b≠(Value.slice a8 n8 p8).ownBlock->w12.heap[b]?=wz.heap[b]?){b:Nat}(hb:b<U.heap.size)(ht:T b≠2):w12.heap[b]?=U.heap[b]?:=by
 have hs:=hbz.size;rw[r4 b (by omega) (fun e=>ht (h.stag b e.symm)),hbz.block b hb]
theorem xh0 (h:RMac p T U mb m (20-(d:Int)) err hv (.slice a8 n8 p8) (.slice a9 n9 p9))(hbz:Below U.heap.size U wz)(r4:∀ b,b<wz.heap.size->some b≠(Value.slice a8 n8 p8).ownBlock->w12.heap[b]?=wz.heap[b]?)(hb18:Below w12.heap.size w12 w18)(hz:wz.heap.size<=w12.heap.size)(s4:∀ b,b<w18.heap.size->some b≠(Value.slice a9 n9 p9).ownBlock->w19.heap[b]?=w18.heap[b]?){b:Nat}(hb:b<U.heap.size)(ht:T b≠2)(ht3:T b≠3):w19.heap[b]?=U.heap[b]?:=by
 have hs:=hbz.size;have hs2:=hb18.size;rw[s4 b (by omega) (fun e=>ht3 (h.otag b e.symm)),hb18.block b (by omega),xk1 h hbz r4 hb ht]
theorem xdx {w w':World}{b o:Nat}{v:Value}(e:w'.heap[b]?=w.heap[b]?)(h:w.cell? ⟨b,o,none⟩=some v):w'.cell? ⟨b,o,none⟩=some v:=by
 unfold World.cell? at h ⊢;rw[e];exact h
theorem xkv (h:RMac p T U mb m (20-(d:Int)) err hv (.slice a8 n8 p8) (.slice a9 n9 p9))(hF:RF T K U B f av kv st)(hbz:Below U.heap.size U wz)(r4:∀ b,b<wz.heap.size->some b≠(Value.slice a8 n8 p8).ownBlock->w12.heap[b]?=wz.heap[b]?):w12.cell? ⟨mb,8,none⟩=some (.slice a8 n8 p8)/\w12.cell? ⟨mb,9,none⟩=some (.slice a9 n9 p9)/\w12.cell? ⟨B,0,none⟩=some (.string f.meth.name):=by
 have e1:=xk1 h hbz r4 (xaf h.box) (by rw[h.tag];omega)
 exact⟨xdx e1 h.c8,xdx e1 h.c9,xdx (xk1 h hbz r4 (xaf hF.m0) (by rw[hF.tB];omega)) hF.k0⟩
theorem xia (h:RMac p T U mb m (20-(d:Int)) err hv (.slice a8 n8 p8) (.slice a9 n9 p9))(hF:RF T K U B f av kv st)(hbz:Below U.heap.size U wz)(r4:∀ b,b<wz.heap.size->some b≠(Value.slice a8 n8 p8).ownBlock->w12.heap[b]?=wz.heap[b]?)(hb18:Below w12.heap.size w12 w18)(hz:wz.heap.size<=w12.heap.size)(s4:∀ b,b<w18.heap.size->some b≠(Value.slice a9 n9 p9).ownBlock->w19.heap[b]?=w18.heap[b]?):w19.cell? ⟨mb,8,none⟩=some (.slice a8 n8 p8)/\w19.cell? ⟨mb,9,none⟩=some (.slice a9 n9 p9)/\w19.cell? ⟨B,0,none⟩=some (.string f.meth.name):=by
 have e1:=xh0 h hbz r4 hb18 hz s4 (xaf h.box) (by rw[h.tag];omega) (by rw[h.tag];omega)
 exact⟨xdx e1 h.c8,xdx e1 h.c9,xdx (xh0 h hbz r4 hb18 hz s4 (xaf hF.m0) (by rw[hF.tB];omega) (by rw[hF.tB];omega)) hF.k0⟩
theorem xio (h:RMac p T U mb m (20-(d:Int)) err hv (.slice a8 n8 p8) (.slice a9 n9 p9))(hbz:Below U.heap.size U wz)(r4:∀ b,b<wz.heap.size->some b≠(Value.slice a8 n8 p8).ownBlock->w12.heap[b]?=wz.heap[b]?)(hb18:Below w12.heap.size w12 w18)(hz:wz.heap.size<=w12.heap.size)(s4:∀ b,b<w18.heap.size->some b≠(Value.slice a9 n9 p9).ownBlock->w19.heap[b]?=w18.heap[b]?):∀ o,w19.frozen? ⟨mb,o,none⟩=false:=
 xam (by rw[xh0 h hbz r4 hb18 hz s4 (xaf h.box) (by rw[h.tag];omega) (by rw[h.tag];omega)];exact h.box)
theorem xo3 {w:World}{o:Obj}{b:Nat}{x y z:Value}(h:w.cell? ⟨mb,8,none⟩=some x/\w.cell? ⟨mb,9,none⟩=some y/\w.cell? ⟨b,0,none⟩=some z):(w.alloc o).cell? ⟨mb,8,none⟩=some x/\(w.alloc o).cell? ⟨mb,9,none⟩=some y/\(w.alloc o).cell? ⟨b,0,none⟩=some z:=⟨qzA (xaj _ _) h.1,qzA (xaj _ _) h.2.1,qzA (xaj _ _) h.2.2⟩
theorem xmJ (h:RMac p T U mb m (20-(d:Int)) err hv (.slice a8 n8 p8) (.slice a9 n9 p9))(hbz:Below U.heap.size U wz)(r4:∀ b,b<wz.heap.size->some b≠(Value.slice a8 n8 p8).ownBlock->w12.heap[b]?=wz.heap[b]?){b:Nat}{o:Obj}(hb:wz.heap[b]?=some o)(hl:U.heap.size<=b):w12.heap[b]?=some o:=by
 rw[r4 b (xaf hb) (fun e=>by have:=(h.sites.lt b e.symm).2;omega)];exact hb
end
theorem xnN {p:Rp}{d:Nat}{T T1:Nat->Nat}{w wr W:World}{mb K:Nat}{R:Mc RSt × QV × Int}{av kv:Value}{gk G':Nat}{m:Mc RSt}{f:Fr}{c:Int}{n1 n2 n3 k:Nat}{x:QI}{hv sv ov:Value}{sa:Option Addr}{sc:Nat}(H:SwC p d T w mb K R av kv gk G' c n1 n2 n3 T1 m f wr W k x hv sv ov sa sc)(hop:x.op=14)
  {V:World} {nn na xb:Nat} {xv:QV} {asv:Value} (hA:SdA wr V f x nn na xb asv xv)
  {u0 u1 u2 u3 u4 u5 u9 ua ub uc ud ue uf ug uh ui uj uk ul um un uo up uq ur us ut uu uv uw ux uy uz ua0 ua1 ua2 ua3 ua4 ua5 ua6 ua7 ua8 ua9 uaa uab uac
  uad uae uaf uag uah uai uaj uak ual uam uan uao uap uaq uar uas uat uau uav uaw uax uay uaz ub0 ub1 ub2 ub3 ub4 ub5 ub6 ub7 ub8 ub9 uba ubb ubc ubd ube ubf ubg ubh ubi ubj ubk
  ubl ubm ubn ubo ubp ubq ubr ubs ubt ubu ubv ubw ubx uby ubz uc0 uc1 uc2 uc3 uc4 uc5 uc6 uc7 uc8 uc9 uca ucb ucc ucd uce ucf ucg uch uci ucj uck
  ucl ucm ucn uco ucp ucq ucr ucs uct ucu ucv ucw ucx ucy ucz ud0 ud1 ud2 ud3 ud4 ud5 ud6 ud7 ud8 ud9 uda udb udc udd ude udf udg udh udi udj udk
  udl udm udn udo udp udq udr uds udt udu udv udw udx udy udz ue0 ue1 ue2 ue3 ue4 ue5 ue6 ue7 ue8 ue9 uea ueb uec ued uee uef ueg ueh uei uej uek
  uel uem uen ueo uep ueq uer ues uet ueu uev uew uex uey uez uf0 uf1 uf2 uf3 uf4 uf5 uf6 uf7 uf8 uf9 ufa ufb ufc ufd ufe uff ufg ufh ufi ufj ufk
  ufl ufm ufn ufo ufp ufq ufr ufs uft ufu ufv ufw ufx ufy ufz ug0 ug1 ug2 ug3 ug4 ug5 ug6 ug7 ug8 ug9 uga ugb ugc ugd uge ugf ugg ugh ugi ugj ugk
  ugl ugm ugn ugo ugp ugq ugr ugs ugt ugu ugv ugw ugx ugy ugz uh0 uh1 uh2 uh3:Value}
  {KT K2 K3:Act->World->Prop}
  (hN:∀ (u5 u6 u7 u8 u9 ua ub uc uu uv uw ux uy uz ua0 ua1 ua2 ua3 ua4 ua5 ua6 ua7 ua8 ua9 uaa uab uac uad uae uaf uag uah uai uaj uak ual uam uan uao uap uaq uar uas uat uau
  uav uaw uax uay uaz ub0 ub1 ub2 ub3 ub4 ub5 ub6 ub7 ub8 ub9 uba ubb ubc ubd ube ubf ubg ubh ubi ubj ubk ubl ubm ubn ubo ubp ubq ubr ubs ubt ubu ubv ubw ubx uby
  ubz uc0 uc1 uc2 uc3 uc4 uc5 uc6 uc7 uc8 uc9 uca ucb ucc ucd uce ucf ucg uch uci ucj uck ucl ucm ucn uco ucp ucq ucr ucs uct ucu ucv ucw ucx ucy
  ucz ud0 ud1 ud2 ud3 ud4 ud5 ud6 ud7 ud8 ud9 uda udb udc udd ude udf udg udh udi udj udk udl udm udn udo udp udq udr uds udt udu udv udw udx udy
  udz ue0 ue1 ue2 ue3 ue4 ue5 ue6 ue7 ue8 ue9 uea ueb uec ued uee uef ueg ueh uei uej uek uel uem uen ueo uep ueq uer ues uet ueu uev uew uex uey
  uez uf0 uf1 uf2 uf3 uf4 uf5 uf6 uf7 uf8 uf9 ufa ufb ufc ufd ufe uff ufg ufh ufi ufj ufk ufl ufm ufn ufo ufp ufq ufr ufs uft ufu ufv ufw ufx ufy
  ufz ug0 ug1 ug2 ug3 ug4 ug5 ug6 ug7 ug8 ug9 uga ugb ugc ugd uge ugf ugg ugh ugi ugj:Value) (tg:Int) (w':World),xf0 p d T w mb K R av kv G' c n1 n2 n3 T1 m f wr k x tg w'->KT (Act.mk #[.pointer (some ⟨mb,0,none⟩),.int .i64 c,u0,u1,av,u2,u3,.pointer (some ⟨w.heap.size,0,none⟩),.pointer (some ⟨w.heap.size+1,0,none⟩),u4,.pointer (some
  ⟨w.heap.size+2,0,none⟩),.slice (some ⟨w.heap.size+3,0,none⟩) n2 n2,.pointer (some ⟨w.heap.size+4,0,none⟩),.func (.func 68) #[] #[.pointer (some ⟨w.heap.size+4,0,
  none⟩)],.int .i64 (k:Int),.pointer (some ⟨wr.heap.size,0,none⟩),.int .i64 tg,u5,u6,u7,u8,u9,ua,ub,uc,ud,ue,uf,ug,uh,ui,uj,uk,ul,um,un,
  uo,up,uq,ur,us,ut,.int .i64 14,uu,uv,uw,ux,uy,uz,ua0,ua1,ua2,ua3,ua4,ua5,ua6,ua7,ua8,ua9,uaa,uab,uac,uad,uae,uaf,uag,uah,uai,uaj,uak,
  ual,uam,uan,uao,uap,uaq,uar,uas,uat,uau,uav,uaw,uax,uay,uaz,ub0,ub1,ub2,ub3,ub4,ub5,ub6,ub7,ub8,ub9,uba,ubb,ubc,ubd,ube,ubf,ubg,ubh,ubi,ubj,
  ubk,ubl,ubm,ubn,ubo,ubp,ubq,ubr,ubs,ubt,ubu,ubv,ubw,ubx,uby,ubz,uc0,uc1,uc2,uc3,uc4,uc5,uc6,uc7,uc8,uc9,uca,ucb,ucc,ucd,
  uce,ucf,ucg,uch,uci,ucj,uck,ucl,ucm,ucn,uco,ucp,ucq,ucr,ucs,uct,ucu,ucv,ucw,ucx,ucy,ucz,ud0,ud1,ud2,ud3,ud4,ud5,ud6,ud7,
  ud8,ud9,uda,udb,udc,udd,ude,udf,udg,udh,udi,udj,udk,udl,udm,udn,udo,udp,udq,udr,uds,udt,udu,udv,udw,udx,udy,udz,ue0,ue1,
  ue2,ue3,ue4,ue5,ue6,ue7,ue8,ue9,uea,ueb,uec,ued,uee,uef,ueg,ueh,uei,uej,uek,uel,uem,uen,ueo,uep,ueq,uer,ues,uet,ueu,uev,
  uew,uex,uey,uez,uf0,uf1,uf2,uf3,uf4,uf5,uf6,uf7,uf8,uf9,ufa,ufb,ufc,ufd,ufe,uff,ufg,ufh,ufi,ufj,ufk,ufl,ufm,ufn,ufo,ufp,
  ufq,ufr,ufs,uft,ufu,ufv,ufw,ufx,ufy,ufz,ug0,ug1,ug2,ug3,ug4,ug5,ug6,ug7,ug8,ug9,uga,ugb,ugc,ugd,uge,ugf,ugg,ugh,ugi,ugj,
  ugk,ugl,ugm,ugn,ugo,ugp,ugq,ugr,ugs,ugt,ugu,ugv,ugw,ugx,ugy,ugz,uh0,uh1,uh2,uh3] []) w')
  {K9:Act->World->Prop} (hK9:∀ a w',Code.wp Tryz.prog sd43 (Exit.inBlock 2 (Exit.then KT (Exit.inBlock 1 (Exit.then K2 (Exit.inBlock 0 (Exit.then K3 (bodyPost Tryz.prog Tryz.f52 fun e w'=>xaS p T w mb (20-(d:Int)) K R e w'))))))) a w'->K9 a w') :
  Code.wp Tryz.prog xoC (Exit.then K9 (Exit.inBlock 2 (Exit.then KT (Exit.inBlock 1 (Exit.then K2 (Exit.inBlock 0 (Exit.then K3 (bodyPost Tryz.prog Tryz.f52 fun e w'=>xaS p T w mb (20-(d:Int)) K R e w')))))))) (Act.mk #[.pointer (some ⟨mb,0,none⟩),.int .i64 c,u0,u1,av,u2,u3,.pointer (some ⟨w.heap.size,0,none⟩),.pointer (some ⟨w.heap.size+1,0,none⟩),u4,.pointer (some
  ⟨w.heap.size+2,0,none⟩),.slice (some ⟨w.heap.size+3,0,none⟩) n2 n2,.pointer (some ⟨w.heap.size+4,0,none⟩),.func (.func 68) #[] #[.pointer (some ⟨w.heap.size+4,0,
  none⟩)],.int .i64 (k:Int),.pointer (some ⟨wr.heap.size,0,none⟩),.int .i64 ((k:Int)+1),u5,.int .i64 ((nn:Int)+1),asv,.pointer (some ⟨xb,0,none⟩),u9,ua,ub,
  uc,ud,ue,uf,ug,uh,ui,uj,uk,ul,um,un,uo,up,uq,ur,us,ut,.int .i64 14,uu,uv,uw,ux,uy,uz,ua0,ua1,ua2,ua3,ua4,ua5,ua6,ua7,ua8,
  ua9,uaa,uab,uac,uad,uae,uaf,uag,uah,uai,uaj,uak,ual,uam,uan,uao,uap,uaq,uar,uas,uat,uau,uav,uaw,uax,uay,uaz,ub0,ub1,ub2,ub3,ub4,ub5,ub6,ub7,ub8,
  ub9,uba,ubb,ubc,ubd,ube,ubf,ubg,ubh,ubi,ubj,ubk,ubl,ubm,ubn,ubo,ubp,ubq,ubr,ubs,ubt,ubu,ubv,ubw,ubx,uby,ubz,uc0,uc1,uc2,uc3,
  uc4,uc5,uc6,uc7,uc8,uc9,uca,ucb,ucc,ucd,uce,ucf,ucg,uch,uci,ucj,uck,ucl,ucm,ucn,uco,ucp,ucq,ucr,ucs,uct,ucu,ucv,ucw,ucx,
  ucy,ucz,ud0,ud1,ud2,ud3,ud4,ud5,ud6,ud7,ud8,ud9,uda,udb,udc,udd,ude,udf,udg,udh,udi,udj,udk,udl,udm,udn,udo,udp,udq,udr,
  uds,udt,udu,udv,udw,udx,udy,udz,ue0,ue1,ue2,ue3,ue4,ue5,ue6,ue7,ue8,ue9,uea,ueb,uec,ued,uee,uef,ueg,ueh,uei,uej,uek,uel,
  uem,uen,ueo,uep,ueq,uer,ues,uet,ueu,uev,uew,uex,uey,uez,uf0,uf1,uf2,uf3,uf4,uf5,uf6,uf7,uf8,uf9,ufa,ufb,ufc,ufd,ufe,uff,
  ufg,ufh,ufi,ufj,ufk,ufl,ufm,ufn,ufo,ufp,ufq,ufr,ufs,uft,ufu,ufv,ufw,ufx,ufy,ufz,ug0,ug1,ug2,ug3,ug4,ug5,ug6,ug7,ug8,ug9,
  uga,ugb,ugc,ugd,uge,ugf,ugg,ugh,ugi,ugj,ugk,ugl,ugm,ugn,ugo,ugp,ugq,ugr,ugs,ugt,ugu,ugv,ugw,ugx,ugy,ugz,uh0,uh1,uh2,uh3]
  []) V:=by
 have HH:=hid H;obtain⟨hX,hEn,HR0,HG0,HX0,HMa0,HF0,hscap,HL0,hbel,hxb,⟨aa,ca,rfl,hca⟩,ht40,HI0⟩:=H;have HOP:=hid hop;have HA:=hid hA;obtain⟨hsc1,hsc2⟩:=hscap;have hp5:=HF0.pos;have hfw:f.stack.length<=12:=HX0.few;have hBl:w.heap.size+4<wr.heap.size:=xaf HF0.sb;have hlen:=hA.len;obtain⟨hB0,hK0⟩:=sd42 HMa0 HF0 hA;have hst:V.cell? ⟨w.heap.size+4,0,none⟩=some (.slice sa f.stack.length sc):=(HF0.later hA.bel).st;have hsf:∀ o,V.frozen? ⟨w.heap.size+4,o,none⟩=false:=(HF0.later hA.bel).sf;have hwn:IntKind.i64.wrap (((nn+1:Nat):Int)-1)=(nn:Int):=by rw[xaE (by omega) (by omega)];omega
 have hwn':IntKind.i64.wrap (nn:Int)=(nn:Int):=xaE (by omega) (by omega)
 have HE1:Hid (Ext T1 (xau T1 wr 0) wr):=xao T1 wr 0
 have hst14:m.st.length<=500:=by
  have h1:=HI0.2.1;have h2:=HI0.1.sz_;have h3:=hX.fuel;unfold Few at h1;have h4:p.E.fuel=p.fuel:=rfl
  omega
 generalize xau T1 wr 0=T2 at *;have HB0:=hid hB0;have HK0:Hid (Kp (All K) T1 wr _):=xdB hK0 fun t ht=>by omega
 have HCL:=hid HL0.1;clear hB0 hK0 HR0 HG0 HX0 HMa0 HF0 HL0 HI0 hop hbel hEn hxb;unfold xoC;unfold sd43 at hK9
 go_upto_region 43 with (fail)
 generalize (V.setCell ⟨w.heap.size+4,0,none⟩ (.slice sa nn sc))=V2 at *;have hB:=HB0.out;obtain⟨ah,ch,rfl,-⟩:=id hB.mac.heap;have hSl:∀ w',Below V2.heap.size V2 w'->w'.cell? ⟨mb,1,none⟩=some (.slice ah m.heap.length ch)/\w'.cell? ⟨xb,0,none⟩=some (.int .i64 xv.k)/\w'.cell? ⟨xb,1,none⟩=some (.int .i64 xv.n):=fun w' hb=>⟨qzA hb hB.mac.c1,qzA hb hB.x0,qzA hb hB.x1⟩
 have hS0:=hSl _ (qzL _ V2).drew;clear hst hsf;refine xaY (S:=fun w'=>w'.cell? ⟨mb,1,none⟩=some (.slice ah m.heap.length ch)/\w'.cell? ⟨xb,0,none⟩=some (.int .i64 xv.k)/\w'.cell? ⟨xb,1,none⟩=some (.int .i64 xv.n)) [] (by kernel_rfl) ?_
 refine tj 0 (⟨some 206,.move (.tmp 0),47,_,_,none⟩) (.pointer (some ⟨mb,0,none⟩)) (hS0) ?_ ?_
 ·rintro w⟨q0,q1,q2⟩;go_simp
 try simp only[Act.put,qzF,qzG,qzH]
 refine tj 1 (⟨some 207,.nilCheck (.tmp 206),0,_,_,none⟩) (.pointer (some ⟨mb,0,none⟩)) (hS0) ?_ ?_
 ·rintro w⟨q0,q1,q2⟩;go_simp
 try simp only[Act.put,qzF,qzG,qzH]
 refine tj 2 (⟨some 208,.fieldAddr 89 (.tmp 207) 0,0,_,_,none⟩) (.pointer (some ⟨mb,0,none⟩)) (hS0) ?_ ?_
 ·rintro w⟨q0,q1,q2⟩;go_simp
 try simp only[Act.put,qzF,qzG,qzH]
 refine tj 3 (⟨some 209,.fieldAddr 25 (.tmp 208) 1,0,_,_,none⟩) (.pointer (some ⟨mb,1,none⟩)) (hS0) ?_ ?_
 ·rintro w⟨q0,q1,q2⟩;go_simp
 try simp only[Act.put,qzF,qzG,qzH]
 refine tj 4 (⟨some 210,.load 23 (.tmp 209),23,_,_,none⟩) (.slice ah m.heap.length ch) (hS0) ?_ ?_
 ·rintro w⟨q0,q1,q2⟩;go_simp
 try simp only[Act.put,qzF,qzG,qzH]
 refine tj 5 (⟨some 211,.load 27 (.tmp 20),27,_,_,none⟩) (VV xv) (hS0) ?_ ?_
 ·rintro w⟨q0,q1,q2⟩;go_simp
 try simp only[Act.put,qzF,qzG,qzH]
 refine xag (rs:=[6]) (by kernel_rfl) (by simp) ?_
 intro i hi;simp only[List.mem_cons,List.not_mem_nil,or_false] at hi;subst hi;refine xa6 (o:=⟨some 212,.call ⟨.value (.func 34),#[.tmp 210,.tmp 211],#[23,27]⟩,3,_,_,none⟩) rfl (fun K' hK=>?_)
 refine xbv rfl 34 (.func 34) #[.tmp 210,.tmp 211] _ rfl #[] rfl #[.slice ah m.heap.length ch,VV xv] (by simp[Act.eval,Act.put]) (cf23 _ _) ?_
 refine (show Calls Tryz.prog 34 #[.slice ah m.heap.length ch,VV xv] V2.drew _ from (xf1 m.heap _ xv V2.drew (hB.mac.heap.later xaD (qzL _ V2).drew)).mono ?_)
 rintro e U ⟨rfl,hbC⟩;refine⟨_,rfl,?_⟩;have hbU:Below V2.heap.size V2 U:=xah (qzL _ V2).drew hbC;obtain⟨kl,HKL⟩:∃ kl,Hid (xar m.heap xv=kl):=⟨_,rfl⟩;rw[HKL.out];refine hK _ _ (fun _=>hSl _ hbU) ?_
 clear hK K'
 try simp only[Act.put,qzF,qzG,qzH]
 refine tj 7 (⟨some 21,.assign (.tmp 212),3,_,_,none⟩) (.int .i64 kl) (hSl _ hbU) ?_ ?_
 ·rintro w⟨q0,q1,q2⟩;go_simp
 try simp only[Act.put,qzF,qzG,qzH]
 refine xa0 (by kernel_rfl) ?_ _
 try simp only[Act.put,qzF,qzG,qzH]
 replace hB:=hB.later hbU;have HKp1:Hid (Kp (All K) T1 wr U):=HK0.out.on hbU;clear hSl hS0 hbU HB0 HK0;obtain⟨a8,p8,rfl,hp8,hp8'⟩:=hB.mac.sites.form;obtain⟨a9,p9,rfl,hp9,hp9'⟩:=hB.mac.of.form;unfold maxLen at hp8' hp9';have hSl:∀ w',Below U.heap.size U w'->w'.cell? ⟨mb,8,none⟩=some (.slice a8 m.st.length p8)/\w'.cell? ⟨mb,9,none⟩=some (.slice a9 m.st.length p9)/\w'.cell? ⟨w.heap.size,0,none⟩=some (.string f.meth.name):=fun w' hb=>⟨qzA hb hB.mac.c8,qzA hb hB.mac.c9,qzA hb hB.fr.k0⟩
 have hS0:=hSl _ (qzL _ U).drew
 go_upto_region 44 with (fail)
 refine xaY (S:=fun _=>True) [] (by kernel_rfl) ?_
 refine tj 1 (⟨some 214,.move (.tmp 0),47,_,_,none⟩) (.pointer (some ⟨mb,0,none⟩)) (trivial) ?_ ?_
 ·intro w hSw;obtain _h:=hSw;go_simp
 try simp only[Act.put,qzF,qzG,qzH]
 refine xc6 (S:=fun w'=>w'.cell? ⟨mb,8,none⟩=some (.slice a8 m.st.length p8)/\w'.cell? ⟨mb,9,none⟩=some (.slice a9 m.st.length p9)/\w'.cell? ⟨w.heap.size,0,none⟩=some (.string f.meth.name)) (late:=[22,23,24,25]) _ _ _ _ ?_
 refine tj 0 (⟨some 213,.move (.tmp 0),47,_,_,none⟩) (.pointer (some ⟨mb,0,none⟩)) (hS0) ?_ ?_
 ·rintro w⟨q0,q1,q2⟩;go_simp
 try simp only[Act.put,qzF,qzG,qzH]
 refine tj 2 (⟨some 215,.move (.tmp 0),47,_,_,none⟩) (.pointer (some ⟨mb,0,none⟩)) (hS0) ?_ ?_
 ·rintro w⟨q0,q1,q2⟩;go_simp
 try simp only[Act.put,qzF,qzG,qzH]
 refine tj 3 (⟨some 216,.nilCheck (.tmp 215),0,_,_,none⟩) (.pointer (some ⟨mb,0,none⟩)) (hS0) ?_ ?_
 ·rintro w⟨q0,q1,q2⟩;go_simp
 try simp only[Act.put,qzF,qzG,qzH]
 refine tj 4 (⟨some 217,.fieldAddr 89 (.tmp 216) 6,0,_,_,none⟩) (.pointer (some ⟨mb,8,none⟩)) (hS0) ?_ ?_
 ·rintro w⟨q0,q1,q2⟩;go_simp
 try simp only[Act.put,qzF,qzG,qzH]
 refine tj 5 (⟨some 218,.load 86 (.tmp 217),86,_,_,none⟩) (.slice a8 m.st.length p8) (hS0) ?_ ?_
 ·rintro w⟨q0,q1,q2⟩;go_simp
 try simp only[Act.put,qzF,qzG,qzH]
 refine tj 6 (⟨some 219,.move (.tmp 1),3,_,_,none⟩) (.int .i64 c) (hS0) ?_ ?_
 ·rintro w⟨q0,q1,q2⟩;go_simp
 try simp only[Act.put,qzF,qzG,qzH]
 refine tj 7 (⟨some 220,.fieldAddr 59 (.tmp 7) 0,0,_,_,none⟩) (.pointer (some ⟨w.heap.size,0,none⟩)) (hS0) ?_ ?_
 ·rintro w⟨q0,q1,q2⟩;go_simp
 try simp only[Act.put,qzF,qzG,qzH]
 refine tj 8 (⟨some 221,.load 9 (.tmp 220),9,_,_,none⟩) (.string f.meth.name) (hS0) ?_ ?_
 ·rintro w⟨q0,q1,q2⟩;go_simp
 try simp only[Act.put,qzF,qzG,qzH]
 refine tj 9 (⟨some 222,.move (.tmp 14),3,_,_,none⟩) (.int .i64 (k:Int)) (hS0) ?_ ?_
 ·rintro w⟨q0,q1,q2⟩;go_simp
 try simp only[Act.put,qzF,qzG,qzH]
 refine tj 10 (⟨some 223,.build 67 #[(0,.tmp 219),(1,.tmp 221),(2,.tmp 222)],67,_,_,none⟩) (.agg #[.int .i64 c,.string f.meth.name,.int .i64 (k:Int)]) (hS0) ?_ ?_
 ·rintro w⟨q0,q1,q2⟩;go_simp
 try simp only[Act.put,qzF,qzG,qzH]
 refine tj 13 (⟨some 226,.move (.tmp 0),47,_,_,none⟩) (.pointer (some ⟨mb,0,none⟩)) (hS0) ?_ ?_
 ·rintro w⟨q0,q1,q2⟩;go_simp
 try simp only[Act.put,qzF,qzG,qzH]
 refine tj 14 (⟨some 227,.nilCheck (.tmp 226),0,_,_,none⟩) (.pointer (some ⟨mb,0,none⟩)) (hS0) ?_ ?_
 ·rintro w⟨q0,q1,q2⟩;go_simp
 try simp only[Act.put,qzF,qzG,qzH]
 refine tj 15 (⟨some 228,.fieldAddr 89 (.tmp 227) 7,0,_,_,none⟩) (.pointer (some ⟨mb,9,none⟩)) (hS0) ?_ ?_
 ·rintro w⟨q0,q1,q2⟩;go_simp
 try simp only[Act.put,qzF,qzG,qzH]
 refine tj 16 (⟨some 229,.load 87 (.tmp 228),87,_,_,none⟩) (.slice a9 m.st.length p9) (hS0) ?_ ?_
 ·rintro w⟨q0,q1,q2⟩;go_simp
 try simp only[Act.put,qzF,qzG,qzH]
 refine tj 17 (⟨some 230,.move (.tmp 21),3,_,_,none⟩) (.int .i64 kl) (hS0) ?_ ?_
 ·rintro w⟨q0,q1,q2⟩;go_simp
 try simp only[Act.put,qzF,qzG,qzH]
 refine xag (rs:=[11,18]) (by kernel_rfl) (by simp) ?_
 intro i hi;simp only[List.mem_cons,List.not_mem_nil,or_false] at hi
 rcases hi with hi | hi
 ·subst hi;refine xa6 (o:=⟨some 224,.buildSlice 86 1 #[(0,.tmp 223)],86,_,_,none⟩) rfl (fun K' hK=>?_)
  have hbz:Below U.heap.size U (U.drew.alloc (.cells #[.int .i64 c,.string f.meth.name,.int .i64 (k:Int)] 67)):=xah (qzL _ U).drew (xaj _ _);go_simp;refine hK _ _ (fun _=>hSl _ hbz) ?_
  clear hK K'
  try simp only[Act.put,qzF,qzG,qzH]
  refine xag (rs:=[12,18]) (by kernel_rfl) (by simp) ?_
  intro i hi;simp only[List.mem_cons,List.not_mem_nil,or_false] at hi
  rcases hi with hi | hi
  ·subst hi;refine xa6 (o:=⟨some 225,.call ⟨.builtin .append,#[.tmp 218,.tmp 224],#[86,86]⟩,86,_,_,none⟩) rfl (fun K' hK=>?_)
   have hs12:ownsAt ((U.drew.alloc (.cells #[.int .i64 c,.string f.meth.name,.int .i64 (k:Int)] 67))) 0 67 3 (.slice a8 m.st.length p8) m.st.length (xcG m.st):=(hB.mac.later hbz).sites;obtain⟨v8,w12,hrun12,r1,r2,r3,r4⟩:=xaF (w:=(U.drew.alloc (.cells #[.int .i64 c,.string f.meth.name,.int .i64 (k:Int)] 67))) 86 86 67 _ 3 32 Tryz.underlying86 xkx rfl (by omega) 0 m.st.length (.slice a8 m.st.length p8) (xcG m.st) hs12 (U.drew.heap.size) [.int .i64 c,.string f.meth.name,.int .i64 (k:Int)] rfl (qzJ U.drew _) (by intro u hu;simp only[List.mem_cons,List.not_mem_nil,or_false] at hu;rcases hu with h | h | h<;>(subst h;rfl)) (by unfold maxLen;omega) (by omega) (by omega)
   obtain⟨a8',p8',rfl,-⟩:=r1.form;have hS12:w12.cell? ⟨mb,8,none⟩=some (.slice a8 m.st.length p8)/\w12.cell? ⟨mb,9,none⟩=some (.slice a9 m.st.length p9)/\w12.cell? ⟨w.heap.size,0,none⟩=some (.string f.meth.name):=xkv (f:={ f with stack:=f.stack.take nn }) hB.mac hB.fr hbz r4
   refine xat rfl (.tmp 218) (.tmp 224) 86 rfl (.slice a8 m.st.length p8) (.slice (some ⟨U.drew.heap.size,0,none⟩) 1 1) (.slice a8' (m.st.length+1) p8') (by simp[Act.eval,Act.put]) (by simp[Act.eval,Act.put]) hrun12 ?_
   refine hK _ _ (fun _=>hS12) ?_
   clear hK K'
   try simp only[Act.put,qzF,qzG,qzH]
   refine xag (rs:=[18]) (by kernel_rfl) (by simp) ?_
   intro i hi;simp only[List.mem_cons,List.not_mem_nil,or_false] at hi;subst hi;refine xa6 (o:=⟨some 231,.buildSlice 87 1 #[(0,.tmp 230)],87,_,_,none⟩) rfl (fun K' hK=>?_)
   have hb18:Below w12.heap.size w12 (w12.alloc (.cells #[.int .i64 kl] 3)):=xaj _ _;go_simp;refine hK _ _ (fun _=>xo3 hS12) ?_
   clear hK K'
   try simp only[Act.put,qzF,qzG,qzH]
   refine xag (rs:=[19]) (by kernel_rfl) (by simp) ?_
   intro i hi;simp only[List.mem_cons,List.not_mem_nil,or_false] at hi;subst hi;refine xa6 (o:=⟨some 232,.call ⟨.builtin .append,#[.tmp 229,.tmp 231],#[87,87]⟩,87,_,_,none⟩) rfl (fun K' hK=>?_)
   have ho19:ownsAt (w12.alloc (.cells #[.int .i64 kl] 3)) 0 3 1 (.slice a9 m.st.length p9) m.st.length (xcw m.st):=xhF hB.mac hbz r4 hb18 r3.size;obtain⟨v9,w19,hrun19,s1,s2,s3,s4⟩:=xaF (w:=w12.alloc (.cells #[.int .i64 kl] 3)) 87 87 3 _ 1 8 Tryz.underlying87 xh7 rfl (by omega) 0 m.st.length (.slice a9 m.st.length p9) (xcw m.st) ho19 (w12.heap.size) [.int .i64 kl] rfl (qzJ w12 _) (by intro u hu;simp only[List.mem_cons,List.not_mem_nil,or_false] at hu;subst hu;rfl) (by unfold maxLen;omega) (by omega) (by omega)
   obtain⟨a9',p9',rfl,-⟩:=s1.form;obtain⟨⟨T5,f1,f2⟩,f3⟩:=xeU (q:=(⟨c,f.meth.name,(k:Int)⟩,kl)) hB.mac hbz r1 r2 r3 r4 hb18 s1 s2 s3 s4;have hS19:w19.cell? ⟨mb,8,none⟩=some (.slice a8 m.st.length p8)/\w19.cell? ⟨mb,9,none⟩=some (.slice a9 m.st.length p9)/\w19.cell? ⟨w.heap.size,0,none⟩=some (.string f.meth.name):=xia (f:={ f with stack:=f.stack.take nn }) hB.mac hB.fr hbz r4 hb18 r3.size s4
   have cf19:∀ o,w19.frozen? ⟨mb,o,none⟩=false:=xio hB.mac hbz r4 hb18 r3.size s4;have c19:=hS19.1;have c199:=hS19.2.1;refine xat rfl (.tmp 229) (.tmp 231) 87 rfl (.slice a9 m.st.length p9) (.slice (some ⟨w12.heap.size,0,none⟩) 1 1) (.slice a9' (m.st.length+1) p9') (by simp[Act.eval,Act.put]) (by simp[Act.eval,Act.put]) hrun19 ?_
   refine hK _ _ (fun _=>hS19) ?_
   clear hK K'
   try simp only[Act.put,qzF,qzG,qzH]
   refine tj 20 (⟨some 233,.nilCheck (.tmp 213),0,_,_,none⟩) (.pointer (some ⟨mb,0,none⟩)) (hS19) ?_ ?_
   ·rintro w⟨q0,q1,q2⟩;go_simp
   try simp only[Act.put,qzF,qzG,qzH]
   refine tj 21 (⟨some 234,.fieldAddr 89 (.tmp 233) 6,0,_,_,none⟩) (.pointer (some ⟨mb,8,none⟩)) (hS19) ?_ ?_
   ·rintro w⟨q0,q1,q2⟩;go_simp
   try simp only[Act.put,qzF,qzG,qzH]
   refine xag (rs:=[22]) (by kernel_rfl) (by simp) ?_
   intro i hi;simp only[List.mem_cons,List.not_mem_nil,or_false] at hi;subst hi;refine xa6 (o:=⟨none,.store 86 (.tmp 234) (.tmp 225),0,_,_,none⟩) rfl (fun K' hK=>?_)
   go_simp;refine hK _ _ (fun h=>absurd h (by decide)) ?_
   clear hK K'
   try simp only[Act.put,qzF,qzG,qzH]
   refine xcz (S':=fun _=>True) (late':=[]) (by kernel_rfl) ?_
   refine tj 23 (⟨some 235,.nilCheck (.tmp 214),0,_,_,none⟩) (.pointer (some ⟨mb,0,none⟩)) (trivial) ?_ ?_
   ·intro w hSw;obtain _h:=hSw;go_simp
   try simp only[Act.put,qzF,qzG,qzH]
   refine tj 24 (⟨some 236,.fieldAddr 89 (.tmp 235) 7,0,_,_,none⟩) (.pointer (some ⟨mb,9,none⟩)) (trivial) ?_ ?_
   ·intro w hSw;obtain _h:=hSw;go_simp
   try simp only[Act.put,qzF,qzG,qzH]
   refine xag (rs:=[25]) (by kernel_rfl) (by simp) ?_
   intro i hi;simp only[List.mem_cons,List.not_mem_nil,or_false] at hi;subst hi;refine xa6 (o:=⟨none,.store 87 (.tmp 236) (.tmp 232),0,_,_,none⟩) rfl (fun K' hK=>?_)
   go_simp;refine hK _ _ (fun _=>trivial) ?_
   clear hK K'
   try simp only[Act.put,qzF,qzG,qzH]
   refine xa0 (by kernel_rfl) ?_ _
   try simp only[Act.put,qzF,qzG,qzH]
   have hB5:=hB.keep (T':=T5) f1 f3 (by omega) (by omega) (by omega) (by omega) (by omega) f2
   have hE5:Ext T1 T5 wr:=HE1.out.trans HKp1.out.size f1;have hK5:Kp (All K) T1 wr _:=HKp1.out.trans HE1.out (xdB f3 fun t ht=>by omega)
   have HB5:=hid hB5;have HE5:=hid hE5;have HK5:=hid hK5;clear f1 f2 f3 hB5 hE5 hK5 r1 r2 r3 r4 s1 s2 s3 s4 hB hSl hS0 hS12 hS19 hb18 hbz
   go_upto_region 45 with (fail)
   exact xod HH.out HOP.out HA.out.hna HA.out.len HA.out.hxv HKL.out HE5.out HK5.out HB5.out (by assumption) (by assumption)
  ·subst hi;refine xa6 (o:=⟨some 231,.buildSlice 87 1 #[(0,.tmp 230)],87,_,_,none⟩) rfl (fun K' hK=>?_)
   replace hbz:Below U.heap.size U ((U.drew.alloc (.cells #[.int .i64 c,.string f.meth.name,.int .i64 (k:Int)] 67)).alloc (.cells #[.int .i64 kl] 3)):=xah hbz (xaj _ _);go_simp;refine hK _ _ (fun _=>hSl _ hbz) ?_
   clear hK K'
   try simp only[Act.put,qzF,qzG,qzH]
   refine xag (rs:=[12]) (by kernel_rfl) (by simp) ?_
   intro i hi;simp only[List.mem_cons,List.not_mem_nil,or_false] at hi;subst hi;refine xa6 (o:=⟨some 225,.call ⟨.builtin .append,#[.tmp 218,.tmp 224],#[86,86]⟩,86,_,_,none⟩) rfl (fun K' hK=>?_)
   have hs12:ownsAt ((U.drew.alloc (.cells #[.int .i64 c,.string f.meth.name,.int .i64 (k:Int)] 67)).alloc (.cells #[.int .i64 kl] 3)) 0 67 3 (.slice a8 m.st.length p8) m.st.length (xcG m.st):=(hB.mac.later hbz).sites;obtain⟨v8,w12,hrun12,r1,r2,r3,r4⟩:=xaF (w:=(U.drew.alloc (.cells #[.int .i64 c,.string f.meth.name,.int .i64 (k:Int)] 67)).alloc (.cells #[.int .i64 kl] 3)) 86 86 67 _ 3 32 Tryz.underlying86 xkx rfl (by omega) 0 m.st.length (.slice a8 m.st.length p8) (xcG m.st) hs12 (U.drew.heap.size) [.int .i64 c,.string f.meth.name,.int .i64 (k:Int)] rfl (xac (qzJ U.drew _) (xaj _ _)) (by intro u hu;simp only[List.mem_cons,List.not_mem_nil,or_false] at hu;rcases hu with h | h | h<;>(subst h;rfl)) (by unfold maxLen;omega) (by omega) (by omega)
   obtain⟨a8',p8',rfl,-⟩:=r1.form;have hS12:w12.cell? ⟨mb,8,none⟩=some (.slice a8 m.st.length p8)/\w12.cell? ⟨mb,9,none⟩=some (.slice a9 m.st.length p9)/\w12.cell? ⟨w.heap.size,0,none⟩=some (.string f.meth.name):=xkv (f:={ f with stack:=f.stack.take nn }) hB.mac hB.fr hbz r4
   refine xat rfl (.tmp 218) (.tmp 224) 86 rfl (.slice a8 m.st.length p8) (.slice (some ⟨U.drew.heap.size,0,none⟩) 1 1) (.slice a8' (m.st.length+1) p8') (by simp[Act.eval,Act.put]) (by simp[Act.eval,Act.put]) hrun12 ?_
   refine hK _ _ (fun _=>hS12) ?_
   clear hK K'
   try simp only[Act.put,qzF,qzG,qzH]
   have hb18:Below w12.heap.size w12 w12:=qzL _ _;refine xag (rs:=[19]) (by kernel_rfl) (by simp) ?_
   intro i hi;simp only[List.mem_cons,List.not_mem_nil,or_false] at hi;subst hi;refine xa6 (o:=⟨some 232,.call ⟨.builtin .append,#[.tmp 229,.tmp 231],#[87,87]⟩,87,_,_,none⟩) rfl (fun K' hK=>?_)
   have ho19:ownsAt (w12) 0 3 1 (.slice a9 m.st.length p9) m.st.length (xcw m.st):=xhF hB.mac hbz r4 hb18 r3.size;obtain⟨v9,w19,hrun19,s1,s2,s3,s4⟩:=xaF (w:=w12) 87 87 3 _ 1 8 Tryz.underlying87 xh7 rfl (by omega) 0 m.st.length (.slice a9 m.st.length p9) (xcw m.st) ho19 (U.drew.heap.size+1) [.int .i64 kl] rfl (xmJ hB.mac hbz r4 (by have:=qzJ (U.drew.alloc (.cells #[.int .i64 c,.string f.meth.name,.int .i64 (k:Int)] 67)) (.cells #[.int .i64 kl] 3);simpa using this) (by show U.heap.size<=U.heap.size+1;omega)) (by intro u hu;simp only[List.mem_cons,List.not_mem_nil,or_false] at hu;subst hu;rfl) (by unfold maxLen;omega) (by omega) (by omega)
   obtain⟨a9',p9',rfl,-⟩:=s1.form;obtain⟨⟨T5,f1,f2⟩,f3⟩:=xeU (q:=(⟨c,f.meth.name,(k:Int)⟩,kl)) hB.mac hbz r1 r2 r3 r4 hb18 s1 s2 s3 s4;have hS19:w19.cell? ⟨mb,8,none⟩=some (.slice a8 m.st.length p8)/\w19.cell? ⟨mb,9,none⟩=some (.slice a9 m.st.length p9)/\w19.cell? ⟨w.heap.size,0,none⟩=some (.string f.meth.name):=xia (f:={ f with stack:=f.stack.take nn }) hB.mac hB.fr hbz r4 hb18 r3.size s4
   have cf19:∀ o,w19.frozen? ⟨mb,o,none⟩=false:=xio hB.mac hbz r4 hb18 r3.size s4;have c19:=hS19.1;have c199:=hS19.2.1;refine xat rfl (.tmp 229) (.tmp 231) 87 rfl (.slice a9 m.st.length p9) (.slice (some ⟨U.drew.heap.size+1,0,none⟩) 1 1) (.slice a9' (m.st.length+1) p9') (by simp[Act.eval,Act.put]) (by simp[Act.eval,Act.put]) hrun19 ?_
   refine hK _ _ (fun _=>hS19) ?_
   clear hK K'
   try simp only[Act.put,qzF,qzG,qzH]
   refine tj 20 (⟨some 233,.nilCheck (.tmp 213),0,_,_,none⟩) (.pointer (some ⟨mb,0,none⟩)) (hS19) ?_ ?_
   ·rintro w⟨q0,q1,q2⟩;go_simp
   try simp only[Act.put,qzF,qzG,qzH]
   refine tj 21 (⟨some 234,.fieldAddr 89 (.tmp 233) 6,0,_,_,none⟩) (.pointer (some ⟨mb,8,none⟩)) (hS19) ?_ ?_
   ·rintro w⟨q0,q1,q2⟩;go_simp
   try simp only[Act.put,qzF,qzG,qzH]
   refine xag (rs:=[22]) (by kernel_rfl) (by simp) ?_
   intro i hi;simp only[List.mem_cons,List.not_mem_nil,or_false] at hi;subst hi;refine xa6 (o:=⟨none,.store 86 (.tmp 234) (.tmp 225),0,_,_,none⟩) rfl (fun K' hK=>?_)
   go_simp;refine hK _ _ (fun h=>absurd h (by decide)) ?_
   clear hK K'
   try simp only[Act.put,qzF,qzG,qzH]
   refine xcz (S':=fun _=>True) (late':=[]) (by kernel_rfl) ?_
   refine tj 23 (⟨some 235,.nilCheck (.tmp 214),0,_,_,none⟩) (.pointer (some ⟨mb,0,none⟩)) (trivial) ?_ ?_
   ·intro w hSw;obtain _h:=hSw;go_simp
   try simp only[Act.put,qzF,qzG,qzH]
   refine tj 24 (⟨some 236,.fieldAddr 89 (.tmp 235) 7,0,_,_,none⟩) (.pointer (some ⟨mb,9,none⟩)) (trivial) ?_ ?_
   ·intro w hSw;obtain _h:=hSw;go_simp
   try simp only[Act.put,qzF,qzG,qzH]
   refine xag (rs:=[25]) (by kernel_rfl) (by simp) ?_
   intro i hi;simp only[List.mem_cons,List.not_mem_nil,or_false] at hi;subst hi;refine xa6 (o:=⟨none,.store 87 (.tmp 236) (.tmp 232),0,_,_,none⟩) rfl (fun K' hK=>?_)
   go_simp;refine hK _ _ (fun _=>trivial) ?_
   clear hK K'
   try simp only[Act.put,qzF,qzG,qzH]
   refine xa0 (by kernel_rfl) ?_ _
   try simp only[Act.put,qzF,qzG,qzH]
   have hB5:=hB.keep (T':=T5) f1 f3 (by omega) (by omega) (by omega) (by omega) (by omega) f2
   have hE5:Ext T1 T5 wr:=HE1.out.trans HKp1.out.size f1;have hK5:Kp (All K) T1 wr _:=HKp1.out.trans HE1.out (xdB f3 fun t ht=>by omega)
   have HB5:=hid hB5;have HE5:=hid hE5;have HK5:=hid hK5;clear f1 f2 f3 hB5 hE5 hK5 r1 r2 r3 r4 s1 s2 s3 s4 hB hSl hS0 hS12 hS19 hb18 hbz
   go_upto_region 45 with (fail)
   exact xod HH.out HOP.out HA.out.hna HA.out.len HA.out.hxv HKL.out HE5.out HK5.out HB5.out (by assumption) (by assumption)
 ·subst hi;refine xa6 (o:=⟨some 231,.buildSlice 87 1 #[(0,.tmp 230)],87,_,_,none⟩) rfl (fun K' hK=>?_)
  have hbz:Below U.heap.size U (U.drew.alloc (.cells #[.int .i64 kl] 3)):=xah (qzL _ U).drew (xaj _ _);go_simp;refine hK _ _ (fun _=>hSl _ hbz) ?_
  clear hK K'
  try simp only[Act.put,qzF,qzG,qzH]
  refine xag (rs:=[11]) (by kernel_rfl) (by simp) ?_
  intro i hi;simp only[List.mem_cons,List.not_mem_nil,or_false] at hi;subst hi;refine xa6 (o:=⟨some 224,.buildSlice 86 1 #[(0,.tmp 223)],86,_,_,none⟩) rfl (fun K' hK=>?_)
  replace hbz:Below U.heap.size U ((U.drew.alloc (.cells #[.int .i64 kl] 3)).alloc (.cells #[.int .i64 c,.string f.meth.name,.int .i64 (k:Int)] 67)):=xah hbz (xaj _ _);go_simp;refine hK _ _ (fun _=>hSl _ hbz) ?_
  clear hK K'
  try simp only[Act.put,qzF,qzG,qzH]
  refine xag (rs:=[12]) (by kernel_rfl) (by simp) ?_
  intro i hi;simp only[List.mem_cons,List.not_mem_nil,or_false] at hi;subst hi;refine xa6 (o:=⟨some 225,.call ⟨.builtin .append,#[.tmp 218,.tmp 224],#[86,86]⟩,86,_,_,none⟩) rfl (fun K' hK=>?_)
  have hs12:ownsAt ((U.drew.alloc (.cells #[.int .i64 kl] 3)).alloc (.cells #[.int .i64 c,.string f.meth.name,.int .i64 (k:Int)] 67)) 0 67 3 (.slice a8 m.st.length p8) m.st.length (xcG m.st):=(hB.mac.later hbz).sites;obtain⟨v8,w12,hrun12,r1,r2,r3,r4⟩:=xaF (w:=(U.drew.alloc (.cells #[.int .i64 kl] 3)).alloc (.cells #[.int .i64 c,.string f.meth.name,.int .i64 (k:Int)] 67)) 86 86 67 _ 3 32 Tryz.underlying86 xkx rfl (by omega) 0 m.st.length (.slice a8 m.st.length p8) (xcG m.st) hs12 (U.drew.heap.size+1) [.int .i64 c,.string f.meth.name,.int .i64 (k:Int)] rfl (by have:=qzJ (U.drew.alloc (.cells #[.int .i64 kl] 3)) (.cells #[.int .i64 c,.string f.meth.name,.int .i64 (k:Int)] 67);simpa using this) (by intro u hu;simp only[List.mem_cons,List.not_mem_nil,or_false] at hu;rcases hu with h | h | h<;>(subst h;rfl)) (by unfold maxLen;omega) (by omega) (by omega)
  obtain⟨a8',p8',rfl,-⟩:=r1.form;have hS12:w12.cell? ⟨mb,8,none⟩=some (.slice a8 m.st.length p8)/\w12.cell? ⟨mb,9,none⟩=some (.slice a9 m.st.length p9)/\w12.cell? ⟨w.heap.size,0,none⟩=some (.string f.meth.name):=xkv (f:={ f with stack:=f.stack.take nn }) hB.mac hB.fr hbz r4
  refine xat rfl (.tmp 218) (.tmp 224) 86 rfl (.slice a8 m.st.length p8) (.slice (some ⟨U.drew.heap.size+1,0,none⟩) 1 1) (.slice a8' (m.st.length+1) p8') (by simp[Act.eval,Act.put]) (by simp[Act.eval,Act.put]) hrun12 ?_
  refine hK _ _ (fun _=>hS12) ?_
  clear hK K'
  try simp only[Act.put,qzF,qzG,qzH]
  have hb18:Below w12.heap.size w12 w12:=qzL _ _;refine xag (rs:=[19]) (by kernel_rfl) (by simp) ?_
  intro i hi;simp only[List.mem_cons,List.not_mem_nil,or_false] at hi;subst hi;refine xa6 (o:=⟨some 232,.call ⟨.builtin .append,#[.tmp 229,.tmp 231],#[87,87]⟩,87,_,_,none⟩) rfl (fun K' hK=>?_)
  have ho19:ownsAt (w12) 0 3 1 (.slice a9 m.st.length p9) m.st.length (xcw m.st):=xhF hB.mac hbz r4 hb18 r3.size;obtain⟨v9,w19,hrun19,s1,s2,s3,s4⟩:=xaF (w:=w12) 87 87 3 _ 1 8 Tryz.underlying87 xh7 rfl (by omega) 0 m.st.length (.slice a9 m.st.length p9) (xcw m.st) ho19 (U.drew.heap.size) [.int .i64 kl] rfl (xmJ hB.mac hbz r4 (xac (qzJ U.drew (.cells #[.int .i64 kl] 3)) (xaj _ _)) (qzC _)) (by intro u hu;simp only[List.mem_cons,List.not_mem_nil,or_false] at hu;subst hu;rfl) (by unfold maxLen;omega) (by omega) (by omega)
  obtain⟨a9',p9',rfl,-⟩:=s1.form;obtain⟨⟨T5,f1,f2⟩,f3⟩:=xeU (q:=(⟨c,f.meth.name,(k:Int)⟩,kl)) hB.mac hbz r1 r2 r3 r4 hb18 s1 s2 s3 s4;have hS19:w19.cell? ⟨mb,8,none⟩=some (.slice a8 m.st.length p8)/\w19.cell? ⟨mb,9,none⟩=some (.slice a9 m.st.length p9)/\w19.cell? ⟨w.heap.size,0,none⟩=some (.string f.meth.name):=xia (f:={ f with stack:=f.stack.take nn }) hB.mac hB.fr hbz r4 hb18 r3.size s4
  have cf19:∀ o,w19.frozen? ⟨mb,o,none⟩=false:=xio hB.mac hbz r4 hb18 r3.size s4;have c19:=hS19.1;have c199:=hS19.2.1;refine xat rfl (.tmp 229) (.tmp 231) 87 rfl (.slice a9 m.st.length p9) (.slice (some ⟨U.drew.heap.size,0,none⟩) 1 1) (.slice a9' (m.st.length+1) p9') (by simp[Act.eval,Act.put]) (by simp[Act.eval,Act.put]) hrun19 ?_
  refine hK _ _ (fun _=>hS19) ?_
  clear hK K'
  try simp only[Act.put,qzF,qzG,qzH]
  refine tj 20 (⟨some 233,.nilCheck (.tmp 213),0,_,_,none⟩) (.pointer (some ⟨mb,0,none⟩)) (hS19) ?_ ?_
  ·rintro w⟨q0,q1,q2⟩;go_simp
  try simp only[Act.put,qzF,qzG,qzH]
  refine tj 21 (⟨some 234,.fieldAddr 89 (.tmp 233) 6,0,_,_,none⟩) (.pointer (some ⟨mb,8,none⟩)) (hS19) ?_ ?_
  ·rintro w⟨q0,q1,q2⟩;go_simp
  try simp only[Act.put,qzF,qzG,qzH]
  refine xag (rs:=[22]) (by kernel_rfl) (by simp) ?_
  intro i hi;simp only[List.mem_cons,List.not_mem_nil,or_false] at hi;subst hi;refine xa6 (o:=⟨none,.store 86 (.tmp 234) (.tmp 225),0,_,_,none⟩) rfl (fun K' hK=>?_)
  go_simp;refine hK _ _ (fun h=>absurd h (by decide)) ?_
  clear hK K'
  try simp only[Act.put,qzF,qzG,qzH]
  refine xcz (S':=fun _=>True) (late':=[]) (by kernel_rfl) ?_
  refine tj 23 (⟨some 235,.nilCheck (.tmp 214),0,_,_,none⟩) (.pointer (some ⟨mb,0,none⟩)) (trivial) ?_ ?_
  ·intro w hSw;obtain _h:=hSw;go_simp
  try simp only[Act.put,qzF,qzG,qzH]
  refine tj 24 (⟨some 236,.fieldAddr 89 (.tmp 235) 7,0,_,_,none⟩) (.pointer (some ⟨mb,9,none⟩)) (trivial) ?_ ?_
  ·intro w hSw;obtain _h:=hSw;go_simp
  try simp only[Act.put,qzF,qzG,qzH]
  refine xag (rs:=[25]) (by kernel_rfl) (by simp) ?_
  intro i hi;simp only[List.mem_cons,List.not_mem_nil,or_false] at hi;subst hi;refine xa6 (o:=⟨none,.store 87 (.tmp 236) (.tmp 232),0,_,_,none⟩) rfl (fun K' hK=>?_)
  go_simp;refine hK _ _ (fun _=>trivial) ?_
  clear hK K'
  try simp only[Act.put,qzF,qzG,qzH]
  refine xa0 (by kernel_rfl) ?_ _
  try simp only[Act.put,qzF,qzG,qzH]
  have hB5:=hB.keep (T':=T5) f1 f3 (by omega) (by omega) (by omega) (by omega) (by omega) f2
  have hE5:Ext T1 T5 wr:=HE1.out.trans HKp1.out.size f1;have hK5:Kp (All K) T1 wr _:=HKp1.out.trans HE1.out (xdB f3 fun t ht=>by omega)
  have HB5:=hid hB5;have HE5:=hid hE5;have HK5:=hid hK5;clear f1 f2 f3 hB5 hE5 hK5 r1 r2 r3 r4 s1 s2 s3 s4 hB hSl hS0 hS12 hS19 hb18 hbz
  go_upto_region 45 with (fail)
  exact xod HH.out HOP.out HA.out.hna HA.out.len HA.out.hxv HKL.out HE5.out HK5.out HB5.out (by assumption) (by assumption)
end Go.Proofs.YtapbeiccodnniaaGreat
