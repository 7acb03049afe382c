/- A part. -/
import Derived.Test.YtdfbgpiikeheiaaQ19
namespace Go.Proofs.Ytdfbgpiikeheiaa
open Go.ChangeShapes Go.WideShapes Go.ChangeAt Go.RowKit
set_option linter.unusedSimpArgs false
set_option linter.unusedVariables false
set_option maxHeartbeats 8000000
set_option maxRecDepth 100000
theorem xsj:(Try.prog.info? 42).map (fun i=>(i.zero,i.size,i.bytes))=some (some (.agg #[.int .i64 0,.string ⟨#[]⟩,.int .i64 0]),3,32):=by kernel_rfl
section
variable {p:Rp} {d:Nat} {mb K B:Nat} {T:Nat->Nat} {U wz w12 w18 w19:World} {m:Mc RSt} {err:Int} {f:Fr} {av kv st hv:Value} {a8 a9:Option Addr} {n8 n9 p8 p9:Nat}
theorem xmt (h:RMac p T U mb m (20-(d:Int)) err hv (.slice a8 n8 p8) (.slice a9 n9 p9))(hbz:Below U.heap.size U wz)(r4:∀ b,b<wz.heap.size->some b≠(Value.slice a8 n8 p8).ownBlock->w12.heap[b]?=wz.heap[b]?){b:Nat}(hb:b<U.heap.size)(ht:T b≠2):w12.heap[b]?=U.heap[b]?:=by
 have hs:=hbz.size;rw[r4 b (by omega) (fun e=>ht (h.stag b e.symm)),hbz.block b hb]
theorem xjT (h:RMac p T U mb m (20-(d:Int)) err hv (.slice a8 n8 p8) (.slice a9 n9 p9))(hbz:Below U.heap.size U wz)(r4:∀ b,b<wz.heap.size->some b≠(Value.slice a8 n8 p8).ownBlock->w12.heap[b]?=wz.heap[b]?)(hb18:Below w12.heap.size w12 w18)(hz:wz.heap.size<=w12.heap.size)(s4:∀ b,b<w18.heap.size->some b≠(Value.slice a9 n9 p9).ownBlock->w19.heap[b]?=w18.heap[b]?){b:Nat}(hb:b<U.heap.size)(ht:T b≠2)(ht3:T b≠3):w19.heap[b]?=U.heap[b]?:=by
 have hs:=hbz.size;have hs2:=hb18.size;rw[s4 b (by omega) (fun e=>ht3 (h.otag b e.symm)),hb18.block b (by omega),xmt h hbz r4 hb ht]
theorem xdY {w w':World}{b o:Nat}{v:Value}(e:w'.heap[b]?=w.heap[b]?)(h:w.cell? ⟨b,o,none⟩=some v):w'.cell? ⟨b,o,none⟩=some v:=by
 unfold World.cell? at h ⊢;rw[e];exact h
theorem xmB (h:RMac p T U mb m (20-(d:Int)) err hv (.slice a8 n8 p8) (.slice a9 n9 p9))(hF:RF T K U B f av kv st)(hbz:Below U.heap.size U wz)(r4:∀ b,b<wz.heap.size->some b≠(Value.slice a8 n8 p8).ownBlock->w12.heap[b]?=wz.heap[b]?):w12.cell? ⟨mb,8,none⟩=some (.slice a8 n8 p8)/\w12.cell? ⟨mb,9,none⟩=some (.slice a9 n9 p9)/\w12.cell? ⟨B,0,none⟩=some (.string f.meth.name):=by
 have e1:=xmt h hbz r4 (xal h.box) (by rw[h.tag];omega)
 exact⟨xdY e1 h.c8,xdY e1 h.c9,xdY (xmt h hbz r4 (xal hF.m0) (by rw[hF.tB];omega)) hF.k0⟩
theorem xjg (h:RMac p T U mb m (20-(d:Int)) err hv (.slice a8 n8 p8) (.slice a9 n9 p9))(hF:RF T K U B f av kv st)(hbz:Below U.heap.size U wz)(r4:∀ b,b<wz.heap.size->some b≠(Value.slice a8 n8 p8).ownBlock->w12.heap[b]?=wz.heap[b]?)(hb18:Below w12.heap.size w12 w18)(hz:wz.heap.size<=w12.heap.size)(s4:∀ b,b<w18.heap.size->some b≠(Value.slice a9 n9 p9).ownBlock->w19.heap[b]?=w18.heap[b]?):w19.cell? ⟨mb,8,none⟩=some (.slice a8 n8 p8)/\w19.cell? ⟨mb,9,none⟩=some (.slice a9 n9 p9)/\w19.cell? ⟨B,0,none⟩=some (.string f.meth.name):=by
 have e1:=xjT h hbz r4 hb18 hz s4 (xal h.box) (by rw[h.tag];omega) (by rw[h.tag];omega)
 exact⟨xdY e1 h.c8,xdY e1 h.c9,xdY (xjT h hbz r4 hb18 hz s4 (xal hF.m0) (by rw[hF.tB];omega) (by rw[hF.tB];omega)) hF.k0⟩
theorem xjf (h:RMac p T U mb m (20-(d:Int)) err hv (.slice a8 n8 p8) (.slice a9 n9 p9))(hbz:Below U.heap.size U wz)(r4:∀ b,b<wz.heap.size->some b≠(Value.slice a8 n8 p8).ownBlock->w12.heap[b]?=wz.heap[b]?)(hb18:Below w12.heap.size w12 w18)(hz:wz.heap.size<=w12.heap.size)(s4:∀ b,b<w18.heap.size->some b≠(Value.slice a9 n9 p9).ownBlock->w19.heap[b]?=w18.heap[b]?):∀ o,w19.frozen? ⟨mb,o,none⟩=false:=
 xap (by rw[xjT h hbz r4 hb18 hz s4 (xal h.box) (by rw[h.tag];omega) (by rw[h.tag];omega)];exact h.box)
theorem xrV {w:World}{o:Obj}{b:Nat}{x y z:Value}(h:w.cell? ⟨mb,8,none⟩=some x/\w.cell? ⟨mb,9,none⟩=some y/\w.cell? ⟨b,0,none⟩=some z):(w.alloc o).cell? ⟨mb,8,none⟩=some x/\(w.alloc o).cell? ⟨mb,9,none⟩=some y/\(w.alloc o).cell? ⟨b,0,none⟩=some z:=⟨qzA (xak _ _) h.1,qzA (xak _ _) h.2.1,qzA (xak _ _) h.2.2⟩
theorem xpj (h:RMac p T U mb m (20-(d:Int)) err hv (.slice a8 n8 p8) (.slice a9 n9 p9))(hbz:Below U.heap.size U wz)(r4:∀ b,b<wz.heap.size->some b≠(Value.slice a8 n8 p8).ownBlock->w12.heap[b]?=wz.heap[b]?){b:Nat}{o:Obj}(hb:wz.heap[b]?=some o)(hl:U.heap.size<=b):w12.heap[b]?=some o:=by
 rw[r4 b (xal hb) (fun e=>by have:=(h.sites.lt b e.symm).2;omega)];exact hb
end
theorem xpJ {p:Rp}{d:Nat}{T T1:Nat->Nat}{w wr W:World}{mb K:Nat}{R:Mc RSt × QV × Int}{av kv:Value}{gk G':Nat}{m:Mc RSt}{f:Fr}{c:Int}{n1 n2 n3 k:Nat}{x:QI}{hv sv ov:Value}{sa:Option Addr}{sc:Nat}(H:SwC p d T w mb K R av kv gk G' c n1 n2 n3 T1 m f wr W k x hv sv ov sa sc)(hop:x.op=14)
  {V:World} {nn na xb:Nat} {xv:QV} {asv:Value} (hA:SdA wr V f x nn na xb asv xv)
  {u0 u1 u2 u3 u4 u5 u9 ua ub uc ud ue uf ug uh ui uj uk ul um un uo up uq ur us ut uu uv uw ux uy uz ua0 ua1 ua2 ua3 ua4 ua5 ua6 ua7 ua8 ua9 uaa uab uac
  uad uae uaf uag uah uai uaj uak ual uam uan uao uap uaq uar uas uat uau uav uaw uax uay uaz ub0 ub1 ub2 ub3 ub4 ub5 ub6 ub7 ub8 ub9 uba ubb ubc ubd ube ubf ubg ubh ubi ubj ubk
  ubl ubm ubn ubo ubp ubq ubr ubs ubt ubu ubv ubw ubx uby ubz uc0 uc1 uc2 uc3 uc4 uc5 uc6 uc7 uc8 uc9 uca ucb ucc ucd uce ucf ucg uch uci ucj uck
  ucl ucm ucn uco ucp ucq ucr ucs uct ucu ucv ucw ucx ucy ucz ud0 ud1 ud2 ud3 ud4 ud5 ud6 ud7 ud8 ud9 uda udb udc udd ude udf udg udh udi udj udk
  udl udm udn udo udp udq udr uds udt udu udv udw udx udy udz ue0 ue1 ue2 ue3 ue4 ue5 ue6 ue7 ue8 ue9 uea ueb uec ued uee uef ueg ueh uei uej uek
  uel uem uen ueo uep ueq uer ues uet ueu uev uew uex uey uez uf0 uf1 uf2 uf3 uf4 uf5 uf6 uf7 uf8 uf9 ufa ufb ufc ufd ufe uff ufg ufh ufi ufj ufk
  ufl ufm ufn ufo ufp ufq ufr ufs uft ufu ufv ufw ufx ufy ufz ug0 ug1 ug2 ug3 ug4 ug5 ug6 ug7 ug8 ug9 uga ugb ugc ugd uge ugf ugg ugh ugi ugj ugk
  ugl ugm ugn ugo ugp ugq ugr ugs ugt ugu ugv ugw ugx ugy ugz uh0 uh1 uh2 uh3:Value}
  {KT K2 K3:Act->World->Prop}
  (hN:∀ (u5 u6 u7 u8 u9 ua ub uc uu uv uw ux uy uz ua0 ua1 ua2 ua3 ua4 ua5 ua6 ua7 ua8 ua9 uaa uab uac uad uae uaf uag uah uai uaj uak ual uam uan uao uap uaq uar uas uat uau
  uav uaw uax uay uaz ub0 ub1 ub2 ub3 ub4 ub5 ub6 ub7 ub8 ub9 uba ubb ubc ubd ube ubf ubg ubh ubi ubj ubk ubl ubm ubn ubo ubp ubq ubr ubs ubt ubu ubv ubw ubx uby
  ubz uc0 uc1 uc2 uc3 uc4 uc5 uc6 uc7 uc8 uc9 uca ucb ucc ucd uce ucf ucg uch uci ucj uck ucl ucm ucn uco ucp ucq ucr ucs uct ucu ucv ucw ucx ucy
  ucz ud0 ud1 ud2 ud3 ud4 ud5 ud6 ud7 ud8 ud9 uda udb udc udd ude udf udg udh udi udj udk udl udm udn udo udp udq udr uds udt udu udv udw udx udy
  udz ue0 ue1 ue2 ue3 ue4 ue5 ue6 ue7 ue8 ue9 uea ueb uec ued uee uef ueg ueh uei uej uek uel uem uen ueo uep ueq uer ues uet ueu uev uew uex uey
  uez uf0 uf1 uf2 uf3 uf4 uf5 uf6 uf7 uf8 uf9 ufa ufb ufc ufd ufe uff ufg ufh ufi ufj ufk ufl ufm ufn ufo ufp ufq ufr ufs uft ufu ufv ufw ufx ufy
  ufz ug0 ug1 ug2 ug3 ug4 ug5 ug6 ug7 ug8 ug9 uga ugb ugc ugd uge ugf ugg ugh ugi ugj:Value) (tg:Int) (w':World),xrE p d T w mb K R av kv G' c n1 n2 n3 T1 m f wr k x tg w'->KT (Act.mk #[.pointer (some ⟨mb,0,none⟩),.int .i64 c,u0,u1,av,u2,u3,.pointer (some ⟨w.heap.size,0,none⟩),.pointer (some ⟨w.heap.size+1,0,none⟩),u4,.pointer (some
  ⟨w.heap.size+2,0,none⟩),.slice (some ⟨w.heap.size+3,0,none⟩) n2 n2,.pointer (some ⟨w.heap.size+4,0,none⟩),.func (.func 86) #[] #[.pointer (some ⟨w.heap.size+4,0,
  none⟩)],.int .i64 (k:Int),.pointer (some ⟨wr.heap.size,0,none⟩),.int .i64 tg,u5,u6,u7,u8,u9,ua,ub,uc,ud,ue,uf,ug,uh,ui,uj,uk,ul,um,un,
  uo,up,uq,ur,us,ut,.int .i64 14,uu,uv,uw,ux,uy,uz,ua0,ua1,ua2,ua3,ua4,ua5,ua6,ua7,ua8,ua9,uaa,uab,uac,uad,uae,uaf,uag,uah,uai,uaj,uak,
  ual,uam,uan,uao,uap,uaq,uar,uas,uat,uau,uav,uaw,uax,uay,uaz,ub0,ub1,ub2,ub3,ub4,ub5,ub6,ub7,ub8,ub9,uba,ubb,ubc,ubd,ube,ubf,ubg,ubh,ubi,ubj,
  ubk,ubl,ubm,ubn,ubo,ubp,ubq,ubr,ubs,ubt,ubu,ubv,ubw,ubx,uby,ubz,uc0,uc1,uc2,uc3,uc4,uc5,uc6,uc7,uc8,uc9,uca,ucb,ucc,ucd,
  uce,ucf,ucg,uch,uci,ucj,uck,ucl,ucm,ucn,uco,ucp,ucq,ucr,ucs,uct,ucu,ucv,ucw,ucx,ucy,ucz,ud0,ud1,ud2,ud3,ud4,ud5,ud6,ud7,
  ud8,ud9,uda,udb,udc,udd,ude,udf,udg,udh,udi,udj,udk,udl,udm,udn,udo,udp,udq,udr,uds,udt,udu,udv,udw,udx,udy,udz,ue0,ue1,
  ue2,ue3,ue4,ue5,ue6,ue7,ue8,ue9,uea,ueb,uec,ued,uee,uef,ueg,ueh,uei,uej,uek,uel,uem,uen,ueo,uep,ueq,uer,ues,uet,ueu,uev,
  uew,uex,uey,uez,uf0,uf1,uf2,uf3,uf4,uf5,uf6,uf7,uf8,uf9,ufa,ufb,ufc,ufd,ufe,uff,ufg,ufh,ufi,ufj,ufk,ufl,ufm,ufn,ufo,ufp,
  ufq,ufr,ufs,uft,ufu,ufv,ufw,ufx,ufy,ufz,ug0,ug1,ug2,ug3,ug4,ug5,ug6,ug7,ug8,ug9,uga,ugb,ugc,ugd,uge,ugf,ugg,ugh,ugi,ugj,
  ugk,ugl,ugm,ugn,ugo,ugp,ugq,ugr,ugs,ugt,ugu,ugv,ugw,ugx,ugy,ugz,uh0,uh1,uh2,uh3] []) w')
  {K9:Act->World->Prop} (hK9:∀ a w',Code.wp Try.prog sd43 (Exit.inBlock 2 (Exit.then KT (Exit.inBlock 1 (Exit.then K2 (Exit.inBlock 0 (Exit.then K3 (bodyPost Try.prog Try.f65 fun e w'=>xcT p T w mb (20-(d:Int)) K R e w'))))))) a w'->K9 a w') :
  Code.wp Try.prog xq5 (Exit.then K9 (Exit.inBlock 2 (Exit.then KT (Exit.inBlock 1 (Exit.then K2 (Exit.inBlock 0 (Exit.then K3 (bodyPost Try.prog Try.f65 fun e w'=>xcT p T w mb (20-(d:Int)) K R e w')))))))) (Act.mk #[.pointer (some ⟨mb,0,none⟩),.int .i64 c,u0,u1,av,u2,u3,.pointer (some ⟨w.heap.size,0,none⟩),.pointer (some ⟨w.heap.size+1,0,none⟩),u4,.pointer (some
  ⟨w.heap.size+2,0,none⟩),.slice (some ⟨w.heap.size+3,0,none⟩) n2 n2,.pointer (some ⟨w.heap.size+4,0,none⟩),.func (.func 86) #[] #[.pointer (some ⟨w.heap.size+4,0,
  none⟩)],.int .i64 (k:Int),.pointer (some ⟨wr.heap.size,0,none⟩),.int .i64 ((k:Int)+1),u5,.int .i64 ((nn:Int)+1),asv,.pointer (some ⟨xb,0,none⟩),u9,ua,ub,
  uc,ud,ue,uf,ug,uh,ui,uj,uk,ul,um,un,uo,up,uq,ur,us,ut,.int .i64 14,uu,uv,uw,ux,uy,uz,ua0,ua1,ua2,ua3,ua4,ua5,ua6,ua7,ua8,
  ua9,uaa,uab,uac,uad,uae,uaf,uag,uah,uai,uaj,uak,ual,uam,uan,uao,uap,uaq,uar,uas,uat,uau,uav,uaw,uax,uay,uaz,ub0,ub1,ub2,ub3,ub4,ub5,ub6,ub7,ub8,
  ub9,uba,ubb,ubc,ubd,ube,ubf,ubg,ubh,ubi,ubj,ubk,ubl,ubm,ubn,ubo,ubp,ubq,ubr,ubs,ubt,ubu,ubv,ubw,ubx,uby,ubz,uc0,uc1,uc2,uc3,
  uc4,uc5,uc6,uc7,uc8,uc9,uca,ucb,ucc,ucd,uce,ucf,ucg,uch,uci,ucj,uck,ucl,ucm,ucn,uco,ucp,ucq,ucr,ucs,uct,ucu,ucv,ucw,ucx,
  ucy,ucz,ud0,ud1,ud2,ud3,ud4,ud5,ud6,ud7,ud8,ud9,uda,udb,udc,udd,ude,udf,udg,udh,udi,udj,udk,udl,udm,udn,udo,udp,udq,udr,
  uds,udt,udu,udv,udw,udx,udy,udz,ue0,ue1,ue2,ue3,ue4,ue5,ue6,ue7,ue8,ue9,uea,ueb,uec,ued,uee,uef,ueg,ueh,uei,uej,uek,uel,
  uem,uen,ueo,uep,ueq,uer,ues,uet,ueu,uev,uew,uex,uey,uez,uf0,uf1,uf2,uf3,uf4,uf5,uf6,uf7,uf8,uf9,ufa,ufb,ufc,ufd,ufe,uff,
  ufg,ufh,ufi,ufj,ufk,ufl,ufm,ufn,ufo,ufp,ufq,ufr,ufs,uft,ufu,ufv,ufw,ufx,ufy,ufz,ug0,ug1,ug2,ug3,ug4,ug5,ug6,ug7,ug8,ug9,
  uga,ugb,ugc,ugd,uge,ugf,ugg,ugh,ugi,ugj,ugk,ugl,ugm,ugn,ugo,ugp,ugq,ugr,ugs,ugt,ugu,ugv,ugw,ugx,ugy,ugz,uh0,uh1,uh2,uh3]
  []) V:=by
 have HH:=hid H;obtain⟨hX,hEn,HR0,HG0,HX0,HMa0,HF0,hscap,HL0,hbel,hxb,⟨aa,ca,rfl,hca⟩,ht40,HI0⟩:=H;have HOP:=hid hop;have HA:=hid hA;obtain⟨hsc1,hsc2⟩:=hscap;have hp5:=HF0.pos;have hfw:f.stack.length<=12:=HX0.few;have hBl:w.heap.size+4<wr.heap.size:=xal HF0.sb;have hlen:=hA.len;obtain⟨hB0,hK0⟩:=sd42 HMa0 HF0 hA;have hst:V.cell? ⟨w.heap.size+4,0,none⟩=some (.slice sa f.stack.length sc):=(HF0.later hA.bel).st;have hsf:∀ o,V.frozen? ⟨w.heap.size+4,o,none⟩=false:=(HF0.later hA.bel).sf;have hwn:IntKind.i64.wrap (((nn+1:Nat):Int)-1)=(nn:Int):=by rw[xat (by omega) (by omega)];omega
 have hwn':IntKind.i64.wrap (nn:Int)=(nn:Int):=xat (by omega) (by omega)
 have HE1:Hid (Ext T1 (xaF T1 wr 0) wr):=xaq T1 wr 0
 have hst14:m.st.length<=500:=by
  have h1:=HI0.2.1;have h2:=HI0.1.sz_;have h3:=hX.fuel;unfold Few at h1;have h4:p.E.fuel=p.fuel:=rfl
  omega
 generalize xaF T1 wr 0=T2 at *;have HB0:=hid hB0;have HK0:Hid (Kp (All K) T1 wr _):=xd0 hK0 fun t ht=>by omega
 have HCL:=hid HL0.1;clear hB0 hK0 HR0 HG0 HX0 HMa0 HF0 HL0 HI0 hop hbel hEn hxb;unfold xq5;unfold sd43 at hK9
 go_upto_region 43 with (fail)
 generalize (V.setCell ⟨w.heap.size+4,0,none⟩ (.slice sa nn sc))=V2 at *;have hB:=HB0.out;obtain⟨ah,ch,rfl,-⟩:=id hB.mac.heap;have hSl:∀ w',Below V2.heap.size V2 w'->w'.cell? ⟨mb,1,none⟩=some (.slice ah m.heap.length ch)/\w'.cell? ⟨xb,0,none⟩=some (.int .i64 xv.k)/\w'.cell? ⟨xb,1,none⟩=some (.int .i64 xv.n):=fun w' hb=>⟨qzA hb hB.mac.c1,qzA hb hB.x0,qzA hb hB.x1⟩
 have hS0:=hSl _ (qzL _ V2).drew;clear hst hsf;refine xav (S:=fun w'=>w'.cell? ⟨mb,1,none⟩=some (.slice ah m.heap.length ch)/\w'.cell? ⟨xb,0,none⟩=some (.int .i64 xv.k)/\w'.cell? ⟨xb,1,none⟩=some (.int .i64 xv.n)) [] (by kernel_rfl) ?_
 refine tj 0 (⟨some 206,.move (.tmp 0),69,_,_,none⟩) (.pointer (some ⟨mb,0,none⟩)) (hS0) ?_ ?_
 ·rintro w⟨q0,q1,q2⟩;go_simp
 try simp only[Act.put,qzF,qzG,qzH]
 refine tj 1 (⟨some 207,.nilCheck (.tmp 206),0,_,_,none⟩) (.pointer (some ⟨mb,0,none⟩)) (hS0) ?_ ?_
 ·rintro w⟨q0,q1,q2⟩;go_simp
 try simp only[Act.put,qzF,qzG,qzH]
 refine tj 2 (⟨some 208,.fieldAddr 113 (.tmp 207) 0,0,_,_,none⟩) (.pointer (some ⟨mb,0,none⟩)) (hS0) ?_ ?_
 ·rintro w⟨q0,q1,q2⟩;go_simp
 try simp only[Act.put,qzF,qzG,qzH]
 refine tj 3 (⟨some 209,.fieldAddr 25 (.tmp 208) 1,0,_,_,none⟩) (.pointer (some ⟨mb,1,none⟩)) (hS0) ?_ ?_
 ·rintro w⟨q0,q1,q2⟩;go_simp
 try simp only[Act.put,qzF,qzG,qzH]
 refine tj 4 (⟨some 210,.load 23 (.tmp 209),23,_,_,none⟩) (.slice ah m.heap.length ch) (hS0) ?_ ?_
 ·rintro w⟨q0,q1,q2⟩;go_simp
 try simp only[Act.put,qzF,qzG,qzH]
 refine tj 5 (⟨some 211,.load 27 (.tmp 20),27,_,_,none⟩) (VV xv) (hS0) ?_ ?_
 ·rintro w⟨q0,q1,q2⟩;go_simp
 try simp only[Act.put,qzF,qzG,qzH]
 refine xab (rs:=[6]) (by kernel_rfl) (by simp) ?_
 intro i hi;simp only[List.mem_cons,List.not_mem_nil,or_false] at hi;subst hi;refine xaN (o:=⟨some 212,.call ⟨.value (.func 43),#[.tmp 210,.tmp 211],#[23,27]⟩,3,_,_,none⟩) rfl (fun K' hK=>?_)
 refine xaZ rfl 43 (.func 43) #[.tmp 210,.tmp 211] _ rfl #[] rfl #[.slice ah m.heap.length ch,VV xv] (by simp[Act.eval,Act.put]) (vf23 _ _) ?_
 refine (show Calls Try.prog 43 #[.slice ah m.heap.length ch,VV xv] V2.drew _ from (xg7 m.heap _ xv V2.drew (hB.mac.heap.later xaE (qzL _ V2).drew)).mono ?_)
 rintro e U ⟨rfl,hbC⟩;refine⟨_,rfl,?_⟩;have hbU:Below V2.heap.size V2 U:=xaf (qzL _ V2).drew hbC;obtain⟨kl,HKL⟩:∃ kl,Hid (xas m.heap xv=kl):=⟨_,rfl⟩;rw[HKL.out];refine hK _ _ (fun _=>hSl _ hbU) ?_
 clear hK K'
 try simp only[Act.put,qzF,qzG,qzH]
 refine tj 7 (⟨some 21,.assign (.tmp 212),3,_,_,none⟩) (.int .i64 kl) (hSl _ hbU) ?_ ?_
 ·rintro w⟨q0,q1,q2⟩;go_simp
 try simp only[Act.put,qzF,qzG,qzH]
 refine xaz (by kernel_rfl) ?_ _
 try simp only[Act.put,qzF,qzG,qzH]
 replace hB:=hB.later hbU;have HKp1:Hid (Kp (All K) T1 wr U):=HK0.out.on hbU;clear hSl hS0 hbU HB0 HK0;obtain⟨a8,p8,rfl,hp8,hp8'⟩:=hB.mac.sites.form;obtain⟨a9,p9,rfl,hp9,hp9'⟩:=hB.mac.of.form;unfold maxLen at hp8' hp9';have hSl:∀ w',Below U.heap.size U w'->w'.cell? ⟨mb,8,none⟩=some (.slice a8 m.st.length p8)/\w'.cell? ⟨mb,9,none⟩=some (.slice a9 m.st.length p9)/\w'.cell? ⟨w.heap.size,0,none⟩=some (.string f.meth.name):=fun w' hb=>⟨qzA hb hB.mac.c8,qzA hb hB.mac.c9,qzA hb hB.fr.k0⟩
 have hS0:=hSl _ (qzL _ U).drew
 go_upto_region 44 with (fail)
 refine xav (S:=fun _=>True) [] (by kernel_rfl) ?_
 refine tj 1 (⟨some 214,.move (.tmp 0),69,_,_,none⟩) (.pointer (some ⟨mb,0,none⟩)) (trivial) ?_ ?_
 ·intro w hSw;obtain _h:=hSw;go_simp
 try simp only[Act.put,qzF,qzG,qzH]
 refine xdn (S:=fun w'=>w'.cell? ⟨mb,8,none⟩=some (.slice a8 m.st.length p8)/\w'.cell? ⟨mb,9,none⟩=some (.slice a9 m.st.length p9)/\w'.cell? ⟨w.heap.size,0,none⟩=some (.string f.meth.name)) (late:=[22,23,24,25]) _ _ _ _ ?_
 refine tj 0 (⟨some 213,.move (.tmp 0),69,_,_,none⟩) (.pointer (some ⟨mb,0,none⟩)) (hS0) ?_ ?_
 ·rintro w⟨q0,q1,q2⟩;go_simp
 try simp only[Act.put,qzF,qzG,qzH]
 refine tj 2 (⟨some 215,.move (.tmp 0),69,_,_,none⟩) (.pointer (some ⟨mb,0,none⟩)) (hS0) ?_ ?_
 ·rintro w⟨q0,q1,q2⟩;go_simp
 try simp only[Act.put,qzF,qzG,qzH]
 refine tj 3 (⟨some 216,.nilCheck (.tmp 215),0,_,_,none⟩) (.pointer (some ⟨mb,0,none⟩)) (hS0) ?_ ?_
 ·rintro w⟨q0,q1,q2⟩;go_simp
 try simp only[Act.put,qzF,qzG,qzH]
 refine tj 4 (⟨some 217,.fieldAddr 113 (.tmp 216) 6,0,_,_,none⟩) (.pointer (some ⟨mb,8,none⟩)) (hS0) ?_ ?_
 ·rintro w⟨q0,q1,q2⟩;go_simp
 try simp only[Act.put,qzF,qzG,qzH]
 refine tj 5 (⟨some 218,.load 47 (.tmp 217),47,_,_,none⟩) (.slice a8 m.st.length p8) (hS0) ?_ ?_
 ·rintro w⟨q0,q1,q2⟩;go_simp
 try simp only[Act.put,qzF,qzG,qzH]
 refine tj 6 (⟨some 219,.move (.tmp 1),3,_,_,none⟩) (.int .i64 c) (hS0) ?_ ?_
 ·rintro w⟨q0,q1,q2⟩;go_simp
 try simp only[Act.put,qzF,qzG,qzH]
 refine tj 7 (⟨some 220,.fieldAddr 55 (.tmp 7) 0,0,_,_,none⟩) (.pointer (some ⟨w.heap.size,0,none⟩)) (hS0) ?_ ?_
 ·rintro w⟨q0,q1,q2⟩;go_simp
 try simp only[Act.put,qzF,qzG,qzH]
 refine tj 8 (⟨some 221,.load 9 (.tmp 220),9,_,_,none⟩) (.string f.meth.name) (hS0) ?_ ?_
 ·rintro w⟨q0,q1,q2⟩;go_simp
 try simp only[Act.put,qzF,qzG,qzH]
 refine tj 9 (⟨some 222,.move (.tmp 14),3,_,_,none⟩) (.int .i64 (k:Int)) (hS0) ?_ ?_
 ·rintro w⟨q0,q1,q2⟩;go_simp
 try simp only[Act.put,qzF,qzG,qzH]
 refine tj 10 (⟨some 223,.build 42 #[(0,.tmp 219),(1,.tmp 221),(2,.tmp 222)],42,_,_,none⟩) (.agg #[.int .i64 c,.string f.meth.name,.int .i64 (k:Int)]) (hS0) ?_ ?_
 ·rintro w⟨q0,q1,q2⟩;go_simp
 try simp only[Act.put,qzF,qzG,qzH]
 refine tj 13 (⟨some 226,.move (.tmp 0),69,_,_,none⟩) (.pointer (some ⟨mb,0,none⟩)) (hS0) ?_ ?_
 ·rintro w⟨q0,q1,q2⟩;go_simp
 try simp only[Act.put,qzF,qzG,qzH]
 refine tj 14 (⟨some 227,.nilCheck (.tmp 226),0,_,_,none⟩) (.pointer (some ⟨mb,0,none⟩)) (hS0) ?_ ?_
 ·rintro w⟨q0,q1,q2⟩;go_simp
 try simp only[Act.put,qzF,qzG,qzH]
 refine tj 15 (⟨some 228,.fieldAddr 113 (.tmp 227) 7,0,_,_,none⟩) (.pointer (some ⟨mb,9,none⟩)) (hS0) ?_ ?_
 ·rintro w⟨q0,q1,q2⟩;go_simp
 try simp only[Act.put,qzF,qzG,qzH]
 refine tj 16 (⟨some 229,.load 48 (.tmp 228),48,_,_,none⟩) (.slice a9 m.st.length p9) (hS0) ?_ ?_
 ·rintro w⟨q0,q1,q2⟩;go_simp
 try simp only[Act.put,qzF,qzG,qzH]
 refine tj 17 (⟨some 230,.move (.tmp 21),3,_,_,none⟩) (.int .i64 kl) (hS0) ?_ ?_
 ·rintro w⟨q0,q1,q2⟩;go_simp
 try simp only[Act.put,qzF,qzG,qzH]
 refine xab (rs:=[11,18]) (by kernel_rfl) (by simp) ?_
 intro i hi;simp only[List.mem_cons,List.not_mem_nil,or_false] at hi
 rcases hi with hi | hi
 ·subst hi;refine xaN (o:=⟨some 224,.buildSlice 47 1 #[(0,.tmp 223)],47,_,_,none⟩) rfl (fun K' hK=>?_)
  have hbz:Below U.heap.size U (U.drew.alloc (.cells #[.int .i64 c,.string f.meth.name,.int .i64 (k:Int)] 42)):=xaf (qzL _ U).drew (xak _ _);go_simp;refine hK _ _ (fun _=>hSl _ hbz) ?_
  clear hK K'
  try simp only[Act.put,qzF,qzG,qzH]
  refine xab (rs:=[12,18]) (by kernel_rfl) (by simp) ?_
  intro i hi;simp only[List.mem_cons,List.not_mem_nil,or_false] at hi
  rcases hi with hi | hi
  ·subst hi;refine xaN (o:=⟨some 225,.call ⟨.builtin .append,#[.tmp 218,.tmp 224],#[47,47]⟩,47,_,_,none⟩) rfl (fun K' hK=>?_)
   have hs12:ownsAt ((U.drew.alloc (.cells #[.int .i64 c,.string f.meth.name,.int .i64 (k:Int)] 42))) 0 42 3 (.slice a8 m.st.length p8) m.st.length (xcS m.st):=(hB.mac.later hbz).sites;obtain⟨v8,w12,hrun12,r1,r2,r3,r4⟩:=xaL (w:=(U.drew.alloc (.cells #[.int .i64 c,.string f.meth.name,.int .i64 (k:Int)] 42))) 47 47 42 _ 3 32 Try.underlying47 xsj rfl (by omega) 0 m.st.length (.slice a8 m.st.length p8) (xcS m.st) hs12 (U.drew.heap.size) [.int .i64 c,.string f.meth.name,.int .i64 (k:Int)] rfl (qzJ U.drew _) (by intro u hu;simp only[List.mem_cons,List.not_mem_nil,or_false] at hu;rcases hu with h | h | h<;>(subst h;rfl)) (by unfold maxLen;omega) (by omega) (by omega)
   obtain⟨a8',p8',rfl,-⟩:=r1.form;have hS12:w12.cell? ⟨mb,8,none⟩=some (.slice a8 m.st.length p8)/\w12.cell? ⟨mb,9,none⟩=some (.slice a9 m.st.length p9)/\w12.cell? ⟨w.heap.size,0,none⟩=some (.string f.meth.name):=xmB (f:={ f with stack:=f.stack.take nn }) hB.mac hB.fr hbz r4
   refine xaw rfl (.tmp 218) (.tmp 224) 47 rfl (.slice a8 m.st.length p8) (.slice (some ⟨U.drew.heap.size,0,none⟩) 1 1) (.slice a8' (m.st.length+1) p8') (by simp[Act.eval,Act.put]) (by simp[Act.eval,Act.put]) hrun12 ?_
   refine hK _ _ (fun _=>hS12) ?_
   clear hK K'
   try simp only[Act.put,qzF,qzG,qzH]
   refine xab (rs:=[18]) (by kernel_rfl) (by simp) ?_
   intro i hi;simp only[List.mem_cons,List.not_mem_nil,or_false] at hi;subst hi;refine xaN (o:=⟨some 231,.buildSlice 48 1 #[(0,.tmp 230)],48,_,_,none⟩) rfl (fun K' hK=>?_)
   have hb18:Below w12.heap.size w12 (w12.alloc (.cells #[.int .i64 kl] 3)):=xak _ _;go_simp;refine hK _ _ (fun _=>xrV hS12) ?_
   clear hK K'
   try simp only[Act.put,qzF,qzG,qzH]
   refine xab (rs:=[19]) (by kernel_rfl) (by simp) ?_
   intro i hi;simp only[List.mem_cons,List.not_mem_nil,or_false] at hi;subst hi;refine xaN (o:=⟨some 232,.call ⟨.builtin .append,#[.tmp 229,.tmp 231],#[48,48]⟩,48,_,_,none⟩) rfl (fun K' hK=>?_)
   have ho19:ownsAt (w12.alloc (.cells #[.int .i64 kl] 3)) 0 3 1 (.slice a9 m.st.length p9) m.st.length (xcC m.st):=xjC hB.mac hbz r4 hb18 r3.size;obtain⟨v9,w19,hrun19,s1,s2,s3,s4⟩:=xaL (w:=w12.alloc (.cells #[.int .i64 kl] 3)) 48 48 3 _ 1 8 Try.underlying48 xj0 rfl (by omega) 0 m.st.length (.slice a9 m.st.length p9) (xcC m.st) ho19 (w12.heap.size) [.int .i64 kl] rfl (qzJ w12 _) (by intro u hu;simp only[List.mem_cons,List.not_mem_nil,or_false] at hu;subst hu;rfl) (by unfold maxLen;omega) (by omega) (by omega)
   obtain⟨a9',p9',rfl,-⟩:=s1.form;obtain⟨⟨T5,f1,f2⟩,f3⟩:=xgA (q:=(⟨c,f.meth.name,(k:Int)⟩,kl)) hB.mac hbz r1 r2 r3 r4 hb18 s1 s2 s3 s4;have hS19:w19.cell? ⟨mb,8,none⟩=some (.slice a8 m.st.length p8)/\w19.cell? ⟨mb,9,none⟩=some (.slice a9 m.st.length p9)/\w19.cell? ⟨w.heap.size,0,none⟩=some (.string f.meth.name):=xjg (f:={ f with stack:=f.stack.take nn }) hB.mac hB.fr hbz r4 hb18 r3.size s4
   have cf19:∀ o,w19.frozen? ⟨mb,o,none⟩=false:=xjf hB.mac hbz r4 hb18 r3.size s4;have c19:=hS19.1;have c199:=hS19.2.1;refine xaw rfl (.tmp 229) (.tmp 231) 48 rfl (.slice a9 m.st.length p9) (.slice (some ⟨w12.heap.size,0,none⟩) 1 1) (.slice a9' (m.st.length+1) p9') (by simp[Act.eval,Act.put]) (by simp[Act.eval,Act.put]) hrun19 ?_
   refine hK _ _ (fun _=>hS19) ?_
   clear hK K'
   try simp only[Act.put,qzF,qzG,qzH]
   refine tj 20 (⟨some 233,.nilCheck (.tmp 213),0,_,_,none⟩) (.pointer (some ⟨mb,0,none⟩)) (hS19) ?_ ?_
   ·rintro w⟨q0,q1,q2⟩;go_simp
   try simp only[Act.put,qzF,qzG,qzH]
   refine tj 21 (⟨some 234,.fieldAddr 113 (.tmp 233) 6,0,_,_,none⟩) (.pointer (some ⟨mb,8,none⟩)) (hS19) ?_ ?_
   ·rintro w⟨q0,q1,q2⟩;go_simp
   try simp only[Act.put,qzF,qzG,qzH]
   refine xab (rs:=[22]) (by kernel_rfl) (by simp) ?_
   intro i hi;simp only[List.mem_cons,List.not_mem_nil,or_false] at hi;subst hi;refine xaN (o:=⟨none,.store 47 (.tmp 234) (.tmp 225),0,_,_,none⟩) rfl (fun K' hK=>?_)
   go_simp;refine hK _ _ (fun h=>absurd h (by decide)) ?_
   clear hK K'
   try simp only[Act.put,qzF,qzG,qzH]
   refine xcN (S':=fun _=>True) (late':=[]) (by kernel_rfl) ?_
   refine tj 23 (⟨some 235,.nilCheck (.tmp 214),0,_,_,none⟩) (.pointer (some ⟨mb,0,none⟩)) (trivial) ?_ ?_
   ·intro w hSw;obtain _h:=hSw;go_simp
   try simp only[Act.put,qzF,qzG,qzH]
   refine tj 24 (⟨some 236,.fieldAddr 113 (.tmp 235) 7,0,_,_,none⟩) (.pointer (some ⟨mb,9,none⟩)) (trivial) ?_ ?_
   ·intro w hSw;obtain _h:=hSw;go_simp
   try simp only[Act.put,qzF,qzG,qzH]
   refine xab (rs:=[25]) (by kernel_rfl) (by simp) ?_
   intro i hi;simp only[List.mem_cons,List.not_mem_nil,or_false] at hi;subst hi;refine xaN (o:=⟨none,.store 48 (.tmp 236) (.tmp 232),0,_,_,none⟩) rfl (fun K' hK=>?_)
   go_simp;refine hK _ _ (fun _=>trivial) ?_
   clear hK K'
   try simp only[Act.put,qzF,qzG,qzH]
   refine xaz (by kernel_rfl) ?_ _
   try simp only[Act.put,qzF,qzG,qzH]
   have hB5:=hB.keep (T':=T5) f1 f3 (by omega) (by omega) (by omega) (by omega) (by omega) f2
   have hE5:Ext T1 T5 wr:=HE1.out.trans HKp1.out.size f1;have hK5:Kp (All K) T1 wr _:=HKp1.out.trans HE1.out (xd0 f3 fun t ht=>by omega)
   have HB5:=hid hB5;have HE5:=hid hE5;have HK5:=hid hK5;clear f1 f2 f3 hB5 hE5 hK5 r1 r2 r3 r4 s1 s2 s3 s4 hB hSl hS0 hS12 hS19 hb18 hbz
   go_upto_region 45 with (fail)
   exact xpQ HH.out HOP.out HA.out.hna HA.out.len HA.out.hxv HKL.out HE5.out HK5.out HB5.out (by assumption) (by assumption)
  ·subst hi;refine xaN (o:=⟨some 231,.buildSlice 48 1 #[(0,.tmp 230)],48,_,_,none⟩) rfl (fun K' hK=>?_)
   replace hbz:Below U.heap.size U ((U.drew.alloc (.cells #[.int .i64 c,.string f.meth.name,.int .i64 (k:Int)] 42)).alloc (.cells #[.int .i64 kl] 3)):=xaf hbz (xak _ _);go_simp;refine hK _ _ (fun _=>hSl _ hbz) ?_
   clear hK K'
   try simp only[Act.put,qzF,qzG,qzH]
   refine xab (rs:=[12]) (by kernel_rfl) (by simp) ?_
   intro i hi;simp only[List.mem_cons,List.not_mem_nil,or_false] at hi;subst hi;refine xaN (o:=⟨some 225,.call ⟨.builtin .append,#[.tmp 218,.tmp 224],#[47,47]⟩,47,_,_,none⟩) rfl (fun K' hK=>?_)
   have hs12:ownsAt ((U.drew.alloc (.cells #[.int .i64 c,.string f.meth.name,.int .i64 (k:Int)] 42)).alloc (.cells #[.int .i64 kl] 3)) 0 42 3 (.slice a8 m.st.length p8) m.st.length (xcS m.st):=(hB.mac.later hbz).sites;obtain⟨v8,w12,hrun12,r1,r2,r3,r4⟩:=xaL (w:=(U.drew.alloc (.cells #[.int .i64 c,.string f.meth.name,.int .i64 (k:Int)] 42)).alloc (.cells #[.int .i64 kl] 3)) 47 47 42 _ 3 32 Try.underlying47 xsj rfl (by omega) 0 m.st.length (.slice a8 m.st.length p8) (xcS m.st) hs12 (U.drew.heap.size) [.int .i64 c,.string f.meth.name,.int .i64 (k:Int)] rfl (xad (qzJ U.drew _) (xak _ _)) (by intro u hu;simp only[List.mem_cons,List.not_mem_nil,or_false] at hu;rcases hu with h | h | h<;>(subst h;rfl)) (by unfold maxLen;omega) (by omega) (by omega)
   obtain⟨a8',p8',rfl,-⟩:=r1.form;have hS12:w12.cell? ⟨mb,8,none⟩=some (.slice a8 m.st.length p8)/\w12.cell? ⟨mb,9,none⟩=some (.slice a9 m.st.length p9)/\w12.cell? ⟨w.heap.size,0,none⟩=some (.string f.meth.name):=xmB (f:={ f with stack:=f.stack.take nn }) hB.mac hB.fr hbz r4
   refine xaw rfl (.tmp 218) (.tmp 224) 47 rfl (.slice a8 m.st.length p8) (.slice (some ⟨U.drew.heap.size,0,none⟩) 1 1) (.slice a8' (m.st.length+1) p8') (by simp[Act.eval,Act.put]) (by simp[Act.eval,Act.put]) hrun12 ?_
   refine hK _ _ (fun _=>hS12) ?_
   clear hK K'
   try simp only[Act.put,qzF,qzG,qzH]
   have hb18:Below w12.heap.size w12 w12:=qzL _ _;refine xab (rs:=[19]) (by kernel_rfl) (by simp) ?_
   intro i hi;simp only[List.mem_cons,List.not_mem_nil,or_false] at hi;subst hi;refine xaN (o:=⟨some 232,.call ⟨.builtin .append,#[.tmp 229,.tmp 231],#[48,48]⟩,48,_,_,none⟩) rfl (fun K' hK=>?_)
   have ho19:ownsAt (w12) 0 3 1 (.slice a9 m.st.length p9) m.st.length (xcC m.st):=xjC hB.mac hbz r4 hb18 r3.size;obtain⟨v9,w19,hrun19,s1,s2,s3,s4⟩:=xaL (w:=w12) 48 48 3 _ 1 8 Try.underlying48 xj0 rfl (by omega) 0 m.st.length (.slice a9 m.st.length p9) (xcC m.st) ho19 (U.drew.heap.size+1) [.int .i64 kl] rfl (xpj hB.mac hbz r4 (by have:=qzJ (U.drew.alloc (.cells #[.int .i64 c,.string f.meth.name,.int .i64 (k:Int)] 42)) (.cells #[.int .i64 kl] 3);simpa using this) (by show U.heap.size<=U.heap.size+1;omega)) (by intro u hu;simp only[List.mem_cons,List.not_mem_nil,or_false] at hu;subst hu;rfl) (by unfold maxLen;omega) (by omega) (by omega)
   obtain⟨a9',p9',rfl,-⟩:=s1.form;obtain⟨⟨T5,f1,f2⟩,f3⟩:=xgA (q:=(⟨c,f.meth.name,(k:Int)⟩,kl)) hB.mac hbz r1 r2 r3 r4 hb18 s1 s2 s3 s4;have hS19:w19.cell? ⟨mb,8,none⟩=some (.slice a8 m.st.length p8)/\w19.cell? ⟨mb,9,none⟩=some (.slice a9 m.st.length p9)/\w19.cell? ⟨w.heap.size,0,none⟩=some (.string f.meth.name):=xjg (f:={ f with stack:=f.stack.take nn }) hB.mac hB.fr hbz r4 hb18 r3.size s4
   have cf19:∀ o,w19.frozen? ⟨mb,o,none⟩=false:=xjf hB.mac hbz r4 hb18 r3.size s4;have c19:=hS19.1;have c199:=hS19.2.1;refine xaw rfl (.tmp 229) (.tmp 231) 48 rfl (.slice a9 m.st.length p9) (.slice (some ⟨U.drew.heap.size+1,0,none⟩) 1 1) (.slice a9' (m.st.length+1) p9') (by simp[Act.eval,Act.put]) (by simp[Act.eval,Act.put]) hrun19 ?_
   refine hK _ _ (fun _=>hS19) ?_
   clear hK K'
   try simp only[Act.put,qzF,qzG,qzH]
   refine tj 20 (⟨some 233,.nilCheck (.tmp 213),0,_,_,none⟩) (.pointer (some ⟨mb,0,none⟩)) (hS19) ?_ ?_
   ·rintro w⟨q0,q1,q2⟩;go_simp
   try simp only[Act.put,qzF,qzG,qzH]
   refine tj 21 (⟨some 234,.fieldAddr 113 (.tmp 233) 6,0,_,_,none⟩) (.pointer (some ⟨mb,8,none⟩)) (hS19) ?_ ?_
   ·rintro w⟨q0,q1,q2⟩;go_simp
   try simp only[Act.put,qzF,qzG,qzH]
   refine xab (rs:=[22]) (by kernel_rfl) (by simp) ?_
   intro i hi;simp only[List.mem_cons,List.not_mem_nil,or_false] at hi;subst hi;refine xaN (o:=⟨none,.store 47 (.tmp 234) (.tmp 225),0,_,_,none⟩) rfl (fun K' hK=>?_)
   go_simp;refine hK _ _ (fun h=>absurd h (by decide)) ?_
   clear hK K'
   try simp only[Act.put,qzF,qzG,qzH]
   refine xcN (S':=fun _=>True) (late':=[]) (by kernel_rfl) ?_
   refine tj 23 (⟨some 235,.nilCheck (.tmp 214),0,_,_,none⟩) (.pointer (some ⟨mb,0,none⟩)) (trivial) ?_ ?_
   ·intro w hSw;obtain _h:=hSw;go_simp
   try simp only[Act.put,qzF,qzG,qzH]
   refine tj 24 (⟨some 236,.fieldAddr 113 (.tmp 235) 7,0,_,_,none⟩) (.pointer (some ⟨mb,9,none⟩)) (trivial) ?_ ?_
   ·intro w hSw;obtain _h:=hSw;go_simp
   try simp only[Act.put,qzF,qzG,qzH]
   refine xab (rs:=[25]) (by kernel_rfl) (by simp) ?_
   intro i hi;simp only[List.mem_cons,List.not_mem_nil,or_false] at hi;subst hi;refine xaN (o:=⟨none,.store 48 (.tmp 236) (.tmp 232),0,_,_,none⟩) rfl (fun K' hK=>?_)
   go_simp;refine hK _ _ (fun _=>trivial) ?_
   clear hK K'
   try simp only[Act.put,qzF,qzG,qzH]
   refine xaz (by kernel_rfl) ?_ _
   try simp only[Act.put,qzF,qzG,qzH]
   have hB5:=hB.keep (T':=T5) f1 f3 (by omega) (by omega) (by omega) (by omega) (by omega) f2
   have hE5:Ext T1 T5 wr:=HE1.out.trans HKp1.out.size f1;have hK5:Kp (All K) T1 wr _:=HKp1.out.trans HE1.out (xd0 f3 fun t ht=>by omega)
   have HB5:=hid hB5;have HE5:=hid hE5;have HK5:=hid hK5;clear f1 f2 f3 hB5 hE5 hK5 r1 r2 r3 r4 s1 s2 s3 s4 hB hSl hS0 hS12 hS19 hb18 hbz
   go_upto_region 45 with (fail)
   exact xpQ HH.out HOP.out HA.out.hna HA.out.len HA.out.hxv HKL.out HE5.out HK5.out HB5.out (by assumption) (by assumption)
 ·subst hi;refine xaN (o:=⟨some 231,.buildSlice 48 1 #[(0,.tmp 230)],48,_,_,none⟩) rfl (fun K' hK=>?_)
  have hbz:Below U.heap.size U (U.drew.alloc (.cells #[.int .i64 kl] 3)):=xaf (qzL _ U).drew (xak _ _);go_simp;refine hK _ _ (fun _=>hSl _ hbz) ?_
  clear hK K'
  try simp only[Act.put,qzF,qzG,qzH]
  refine xab (rs:=[11]) (by kernel_rfl) (by simp) ?_
  intro i hi;simp only[List.mem_cons,List.not_mem_nil,or_false] at hi;subst hi;refine xaN (o:=⟨some 224,.buildSlice 47 1 #[(0,.tmp 223)],47,_,_,none⟩) rfl (fun K' hK=>?_)
  replace hbz:Below U.heap.size U ((U.drew.alloc (.cells #[.int .i64 kl] 3)).alloc (.cells #[.int .i64 c,.string f.meth.name,.int .i64 (k:Int)] 42)):=xaf hbz (xak _ _);go_simp;refine hK _ _ (fun _=>hSl _ hbz) ?_
  clear hK K'
  try simp only[Act.put,qzF,qzG,qzH]
  refine xab (rs:=[12]) (by kernel_rfl) (by simp) ?_
  intro i hi;simp only[List.mem_cons,List.not_mem_nil,or_false] at hi;subst hi;refine xaN (o:=⟨some 225,.call ⟨.builtin .append,#[.tmp 218,.tmp 224],#[47,47]⟩,47,_,_,none⟩) rfl (fun K' hK=>?_)
  have hs12:ownsAt ((U.drew.alloc (.cells #[.int .i64 kl] 3)).alloc (.cells #[.int .i64 c,.string f.meth.name,.int .i64 (k:Int)] 42)) 0 42 3 (.slice a8 m.st.length p8) m.st.length (xcS m.st):=(hB.mac.later hbz).sites;obtain⟨v8,w12,hrun12,r1,r2,r3,r4⟩:=xaL (w:=(U.drew.alloc (.cells #[.int .i64 kl] 3)).alloc (.cells #[.int .i64 c,.string f.meth.name,.int .i64 (k:Int)] 42)) 47 47 42 _ 3 32 Try.underlying47 xsj rfl (by omega) 0 m.st.length (.slice a8 m.st.length p8) (xcS m.st) hs12 (U.drew.heap.size+1) [.int .i64 c,.string f.meth.name,.int .i64 (k:Int)] rfl (by have:=qzJ (U.drew.alloc (.cells #[.int .i64 kl] 3)) (.cells #[.int .i64 c,.string f.meth.name,.int .i64 (k:Int)] 42);simpa using this) (by intro u hu;simp only[List.mem_cons,List.not_mem_nil,or_false] at hu;rcases hu with h | h | h<;>(subst h;rfl)) (by unfold maxLen;omega) (by omega) (by omega)
  obtain⟨a8',p8',rfl,-⟩:=r1.form;have hS12:w12.cell? ⟨mb,8,none⟩=some (.slice a8 m.st.length p8)/\w12.cell? ⟨mb,9,none⟩=some (.slice a9 m.st.length p9)/\w12.cell? ⟨w.heap.size,0,none⟩=some (.string f.meth.name):=xmB (f:={ f with stack:=f.stack.take nn }) hB.mac hB.fr hbz r4
  refine xaw rfl (.tmp 218) (.tmp 224) 47 rfl (.slice a8 m.st.length p8) (.slice (some ⟨U.drew.heap.size+1,0,none⟩) 1 1) (.slice a8' (m.st.length+1) p8') (by simp[Act.eval,Act.put]) (by simp[Act.eval,Act.put]) hrun12 ?_
  refine hK _ _ (fun _=>hS12) ?_
  clear hK K'
  try simp only[Act.put,qzF,qzG,qzH]
  have hb18:Below w12.heap.size w12 w12:=qzL _ _;refine xab (rs:=[19]) (by kernel_rfl) (by simp) ?_
  intro i hi;simp only[List.mem_cons,List.not_mem_nil,or_false] at hi;subst hi;refine xaN (o:=⟨some 232,.call ⟨.builtin .append,#[.tmp 229,.tmp 231],#[48,48]⟩,48,_,_,none⟩) rfl (fun K' hK=>?_)
  have ho19:ownsAt (w12) 0 3 1 (.slice a9 m.st.length p9) m.st.length (xcC m.st):=xjC hB.mac hbz r4 hb18 r3.size;obtain⟨v9,w19,hrun19,s1,s2,s3,s4⟩:=xaL (w:=w12) 48 48 3 _ 1 8 Try.underlying48 xj0 rfl (by omega) 0 m.st.length (.slice a9 m.st.length p9) (xcC m.st) ho19 (U.drew.heap.size) [.int .i64 kl] rfl (xpj hB.mac hbz r4 (xad (qzJ U.drew (.cells #[.int .i64 kl] 3)) (xak _ _)) (qzC _)) (by intro u hu;simp only[List.mem_cons,List.not_mem_nil,or_false] at hu;subst hu;rfl) (by unfold maxLen;omega) (by omega) (by omega)
  obtain⟨a9',p9',rfl,-⟩:=s1.form;obtain⟨⟨T5,f1,f2⟩,f3⟩:=xgA (q:=(⟨c,f.meth.name,(k:Int)⟩,kl)) hB.mac hbz r1 r2 r3 r4 hb18 s1 s2 s3 s4;have hS19:w19.cell? ⟨mb,8,none⟩=some (.slice a8 m.st.length p8)/\w19.cell? ⟨mb,9,none⟩=some (.slice a9 m.st.length p9)/\w19.cell? ⟨w.heap.size,0,none⟩=some (.string f.meth.name):=xjg (f:={ f with stack:=f.stack.take nn }) hB.mac hB.fr hbz r4 hb18 r3.size s4
  have cf19:∀ o,w19.frozen? ⟨mb,o,none⟩=false:=xjf hB.mac hbz r4 hb18 r3.size s4;have c19:=hS19.1;have c199:=hS19.2.1;refine xaw rfl (.tmp 229) (.tmp 231) 48 rfl (.slice a9 m.st.length p9) (.slice (some ⟨U.drew.heap.size,0,none⟩) 1 1) (.slice a9' (m.st.length+1) p9') (by simp[Act.eval,Act.put]) (by simp[Act.eval,Act.put]) hrun19 ?_
  refine hK _ _ (fun _=>hS19) ?_
  clear hK K'
  try simp only[Act.put,qzF,qzG,qzH]
  refine tj 20 (⟨some 233,.nilCheck (.tmp 213),0,_,_,none⟩) (.pointer (some ⟨mb,0,none⟩)) (hS19) ?_ ?_
  ·rintro w⟨q0,q1,q2⟩;go_simp
  try simp only[Act.put,qzF,qzG,qzH]
  refine tj 21 (⟨some 234,.fieldAddr 113 (.tmp 233) 6,0,_,_,none⟩) (.pointer (some ⟨mb,8,none⟩)) (hS19) ?_ ?_
  ·rintro w⟨q0,q1,q2⟩;go_simp
  try simp only[Act.put,qzF,qzG,qzH]
  refine xab (rs:=[22]) (by kernel_rfl) (by simp) ?_
  intro i hi;simp only[List.mem_cons,List.not_mem_nil,or_false] at hi;subst hi;refine xaN (o:=⟨none,.store 47 (.tmp 234) (.tmp 225),0,_,_,none⟩) rfl (fun K' hK=>?_)
  go_simp;refine hK _ _ (fun h=>absurd h (by decide)) ?_
  clear hK K'
  try simp only[Act.put,qzF,qzG,qzH]
  refine xcN (S':=fun _=>True) (late':=[]) (by kernel_rfl) ?_
  refine tj 23 (⟨some 235,.nilCheck (.tmp 214),0,_,_,none⟩) (.pointer (some ⟨mb,0,none⟩)) (trivial) ?_ ?_
  ·intro w hSw;obtain _h:=hSw;go_simp
  try simp only[Act.put,qzF,qzG,qzH]
  refine tj 24 (⟨some 236,.fieldAddr 113 (.tmp 235) 7,0,_,_,none⟩) (.pointer (some ⟨mb,9,none⟩)) (trivial) ?_ ?_
  ·intro w hSw;obtain _h:=hSw;go_simp
  try simp only[Act.put,qzF,qzG,qzH]
  refine xab (rs:=[25]) (by kernel_rfl) (by simp) ?_
  intro i hi;simp only[List.mem_cons,List.not_mem_nil,or_false] at hi;subst hi;refine xaN (o:=⟨none,.store 48 (.tmp 236) (.tmp 232),0,_,_,none⟩) rfl (fun K' hK=>?_)
  go_simp;refine hK _ _ (fun _=>trivial) ?_
  clear hK K'
  try simp only[Act.put,qzF,qzG,qzH]
  refine xaz (by kernel_rfl) ?_ _
  try simp only[Act.put,qzF,qzG,qzH]
  have hB5:=hB.keep (T':=T5) f1 f3 (by omega) (by omega) (by omega) (by omega) (by omega) f2
  have hE5:Ext T1 T5 wr:=HE1.out.trans HKp1.out.size f1;have hK5:Kp (All K) T1 wr _:=HKp1.out.trans HE1.out (xd0 f3 fun t ht=>by omega)
  have HB5:=hid hB5;have HE5:=hid hE5;have HK5:=hid hK5;clear f1 f2 f3 hB5 hE5 hK5 r1 r2 r3 r4 s1 s2 s3 s4 hB hSl hS0 hS12 hS19 hb18 hbz
  go_upto_region 45 with (fail)
  exact xpQ HH.out HOP.out HA.out.hna HA.out.len HA.out.hxv HKL.out HE5.out HK5.out HB5.out (by assumption) (by assumption)
theorem xrn {w w':World}{B g n cap:Nat}{cs:List Value}(h:w.ownsRow B 27 2 (.slice (some ⟨g,0,none⟩) n cap) n cs)(hb:Below w.heap.size w w'):w'.ownsRow B 27 2 (.slice (some ⟨g,0,none⟩) n cap) n cs:=by
 obtain⟨h0,h1 | ⟨g',c,cur,e,h1,h2,h3⟩⟩:=h
 ·cases h1.1
 ·exact⟨h0,Or.inr ⟨g',c,cur,e,h1,by rw[hb.block _ (xal h2)];exact h2,h3⟩⟩
theorem xrO {W w1:World}{g cap' B n:Nat}{args:List QV}(xv:QV)(hb:Below W.heap.size W w1)(hown:w1.ownsRow B 27 2 (.slice (some ⟨g,0,none⟩) n cap') n (xam args))(hn:args.length=n)(hnl:n<=1000000)(hB:W.heap.size<=B) :
  Below W.heap.size W (w1.alloc (.cells #[.int .i64 xv.k,.int .i64 xv.n] 27))/\(w1.alloc (.cells #[.int .i64 xv.k,.int .i64 xv.n] 27)).heap[w1.heap.size]?=some (.cells #[.int .i64 xv.k,.int .i64 xv.n] 27 (0,0))/\xaO (fun b=>W.heap.size<=b/\b<(w1.alloc (.cells #[.int .i64 xv.k,.int .i64 xv.n] 27)).heap.size) (w1.alloc (.cells #[.int .i64 xv.k,.int .i64 xv.n] 27)) (.slice (some ⟨g,0,none⟩) n cap') args:=by
 have h1:=xrn hown (xak w1 (.cells #[.int .i64 xv.k,.int .i64 xv.n] 27));refine⟨xaf hb (xak _ _),qzJ w1 _,?_⟩;generalize (w1.alloc (.cells #[.int .i64 xv.k,.int .i64 xv.n] 27))=V at *
 have hc:Cells xpo 2 (fun b=>W.heap.size<=b/\b<V.heap.size) V (xam args) args:=⟨xbA _,fun i y hy=>by
  obtain⟨d1,d2⟩:=xbZ hy
  exact⟨by simpa using d1,d2⟩⟩
 exact xf3 xa1 h1 hc hn (fun b h1 h2=>⟨by omega,h2⟩) (by omega)
theorem xqp {wr W V:World}{f:Fr}{x:QI}{nn na xb:Nat}{asv:Value}{xv:QV}(hb:Below wr.heap.size wr W)(hl:wr.heap.size<W.heap.size)(hx:InB W wr.heap.size x)(h1:Below W.heap.size W V)(h2:V.heap[xb]?=some (.cells #[.int .i64 xv.k,.int .i64 xv.n] 27 (0,0)))(h3:xaO (fun b=>W.heap.size<=b/\b<V.heap.size) V asv (f.stack.drop (nn+1)))(hxl:W.heap.size<=xb)(hna:x.a=(na:Int))(hlen:f.stack.length=nn+1+na)(hxv:f.stack[nn]?=some xv):SdA wr V f x nn na xb asv xv:=
 have hs:=h1.size
 ⟨xaf hb h1,hx.later h1,h2,⟨by omega,by omega⟩,h3.mono xa1 fun b hb=>⟨by omega,hb.2⟩,hna,hlen,hxv⟩
theorem br14:Br 14:=by
 intro p d T T1 w wr W mb K R av kv gk G' m f c n1 n2 n3 k x hv sv ov sa sc H hop
 intros
 rename_i hN K9 hK9;have HH:=hid H;obtain⟨hX,HEn,HR,HG,HX,HMa,HF,HL,HB1,HI,hM1,hF1,hsc1,hsc2,hBl,hWl,hxb,⟨aa,ca,rfl,hca⟩,ht40⟩:=H.pre;have HOP:=hid hop;clear hop;unfold xh4;unfold sw9 at hK9;have hp5:=hF1.pos;have hfw:=HX.out.few;obtain⟨hs0,hs4⟩:=HX.out.send HOP.out;have hneed:=HX.out.need;obtain⟨na,hna⟩:∃ na:Nat,x.a=(na:Int):=⟨x.a.toNat,by omega⟩
 have hnx:na+1<=f.stack.length:=by
  have hop:x.op=14:=HOP.out;have hn:(xaS x k).need=x.a+1:=by unfold xaS;simp[hop]
  rw[hn,hna] at hneed;omega
 obtain⟨nn,hlen⟩:∃ nn,f.stack.length=nn+1+na:=⟨f.stack.length-1-na,by omega⟩
 obtain⟨xv,hxv⟩:∃ xv,f.stack[nn]?=some xv:=⟨f.stack[nn]'(by omega),by simp⟩
 have HN:=hid (And.intro hna (And.intro hlen hxv));have hv:=hF1.stack.vals (by omega)
 obtain⟨a',cap',e',-,-,-,hrow⟩:=hv
 cases e'
 obtain⟨gs,os,rfl,hbo,y0,y1⟩:=hrow nn xv hxv;simp only[Nat.add_zero] at y0;have htl:=hF1.stack.tail (k:=nn+1) (by omega) (by omega)
 have hdl:(f.stack.drop (nn+1)).length=na:=by rw[List.length_drop];omega
 rw[hdl] at htl;obtain⟨at1,ct1,et1,-,-,hby,hrw⟩:=htl;simp only[Value.slice.injEq] at et1;obtain⟨et1,-,et3⟩:=et1;subst et1;subst et3;obtain⟨vs,hvs,hvsrc⟩:=hrw.cells xa1;have hvc:=xcy (E:=()) hvs;subst hvc;have hvl:(xam (f.stack.drop (nn+1))).length=na*2:=by rw[xbA,hdl]
 obtain⟨ad,HAD⟩:∃ ad,Hid (ad=if sc=nn+1 then some (Addr.mk gs os none) else some (Addr.mk gs (os+(nn+1)*2) none)):=⟨_,rfl⟩
 have HV:Hid (∀ (j:Nat) (u:Value),(xam (f.stack.drop (nn+1)))[j]?=some u->∃ b,ad=some b/\W.cell? (b.add j)=some u):=by
  intro j u hj
  by_cases hsn:sc=nn+1
  ·have:f.stack.drop (nn+1)=[]:=List.eq_nil_of_length_eq_zero (by omega)
   rw[this] at hj
   simp[xam] at hj
  ·rw[HAD.out,if_neg hsn]
   exact hvsrc j u hj
 have x1:=hxb.x1;rw[hna] at x1;have hw40:IntKind.i64.wrap ((f.stack.length:Int)-(na:Int))=((nn+1:Nat):Int):=by rw[xat (by omega) (by omega)];omega
 have hwn:IntKind.i64.wrap (((nn+1:Nat):Int)-1)=(nn:Int):=by rw[xat (by omega) (by omega)];omega
 have hst0:=hF1.st;have hWl2:wr.heap.size<W.heap.size:=World.block_lt_of_cell? W ⟨wr.heap.size,1,none⟩ hxb.x1;have hSl:∀ w',Below W.heap.size W w'->w'.cell? ⟨w.heap.size+4,0,none⟩=some (.slice (some ⟨gs,os,none⟩) f.stack.length sc)/\w'.cell? ⟨gs,os+nn*2,none⟩=some (.int .i64 xv.k)/\w'.cell? ⟨gs,os+nn*2+1,none⟩=some (.int .i64 xv.n):=fun w' hb=>⟨qzA hb hF1.st,qzA hb y0,qzA hb y1⟩
 have hS0:=hSl _ (qzL _ W).drew;clear hrow hrw hvsrc hvs hna hM1 hneed hs0 hs4 hbo
 go_upto_region 41 with (fail)
 clear hst0 x1 hw40;refine xav (S:=fun w'=>w'.cell? ⟨w.heap.size+4,0,none⟩=some (.slice (some ⟨gs,os,none⟩) f.stack.length sc)/\w'.cell? ⟨gs,os+nn*2,none⟩=some (.int .i64 xv.k)/\w'.cell? ⟨gs,os+nn*2+1,none⟩=some (.int .i64 xv.n)) [12] (by kernel_rfl) ?_
 refine tj 1 (⟨some 193,.load 28 (.tmp 12),28,_,_,none⟩) (.slice (some ⟨gs,os,none⟩) f.stack.length sc) (hS0) ?_ ?_
 ·rintro w⟨q0,q1,q2⟩;go_simp
 try simp only[Act.put,qzF,qzG,qzH]
 refine tj 2 (⟨some 194,.move (.tmp 18),3,_,_,none⟩) (.int .i64 ((nn+1:Nat):Int)) (hS0) ?_ ?_
 ·rintro w⟨q0,q1,q2⟩;go_simp
 try simp only[Act.put,qzF,qzG,qzH]
 refine tj 3 (⟨some 195,.slice 28 (.tmp 193) (some (.tmp 194)) none none,28,_,_,none⟩) (.slice ad na (sc-(nn+1))) (hS0) ?_ ?_
 ·rintro w⟨q0,q1,q2⟩;go_simp;rw[if_pos (by omega),HAD.out]
 try simp only[Act.put,qzF,qzG,qzH]
 refine tj 5 (⟨some 197,.load 28 (.tmp 12),28,_,_,none⟩) (.slice (some ⟨gs,os,none⟩) f.stack.length sc) (hS0) ?_ ?_
 ·rintro w⟨q0,q1,q2⟩;go_simp
 try simp only[Act.put,qzF,qzG,qzH]
 refine tj 6 (⟨some 198,.move (.tmp 18),3,_,_,none⟩) (.int .i64 ((nn+1:Nat):Int)) (hS0) ?_ ?_
 ·rintro w⟨q0,q1,q2⟩;go_simp
 try simp only[Act.put,qzF,qzG,qzH]
 refine tj 7 (⟨some 199,.binOp .sub 3 (.tmp 198) (.const (.int .i64 1)) 3,3,_,_,none⟩) (.int .i64 (nn:Int)) (hS0) ?_ ?_
 ·rintro w⟨q0,q1,q2⟩;go_simp
  exact xat (by omega) (by omega)
 try simp only[Act.put,qzF,qzG,qzH]
 refine tj 8 (⟨some 200,.indexAddr 28 (.tmp 197) (.tmp 199),0,_,_,none⟩) (.pointer (some ⟨gs,os+nn*2,none⟩)) (hS0) ?_ ?_
 ·rintro w⟨q0,q1,q2⟩;go_simp;intro h;omega
 try simp only[Act.put,qzF,qzG,qzH]
 refine tj 9 (⟨some 201,.load 27 (.tmp 200),27,_,_,none⟩) (VV xv) (hS0) ?_ ?_
 ·rintro w⟨q0,q1,q2⟩;go_simp
 try simp only[Act.put,qzF,qzG,qzH]
 refine xab (rs:=[0,10]) (by kernel_rfl) (by simp) ?_
 intro i hi;simp only[List.mem_cons,List.not_mem_nil,or_false] at hi
 rcases hi with hi | hi
 ·subst hi;refine xaN (o:=⟨some 192,.buildSlice 28 0 #[],28,_,_,none⟩) rfl (fun K' hK=>?_)
  have hbz:Below W.heap.size W (W.drew.alloc (.cells #[] 27)):=xaf (qzL _ W).drew (xak _ _);go_simp;refine hK _ _ (fun _=>hSl _ hbz) ?_
  clear hK K'
  try simp only[Act.put,qzF,qzG,qzH]
  refine xab (rs:=[4,10]) (by kernel_rfl) (by simp) ?_
  intro i hi;simp only[List.mem_cons,List.not_mem_nil,or_false] at hi
  rcases hi with hi | hi
  ·subst hi;refine xaN (o:=⟨some 196,.call ⟨.builtin .append,#[.tmp 192,.tmp 195],#[28,28]⟩,28,_,_,none⟩) rfl (fun K' hK=>?_)
   obtain⟨g,cap1,w1,hrun1,hown,hgB,hgl,hbA⟩:=xcn (w:=(W.drew.alloc (.cells #[] 27))) 28 28 27 _ 2 16 Try.underlying28 xcg rfl (by omega) (by omega) (W.drew.heap.size) (qzJ W.drew _) ad na (sc-(nn+1)) (xam (f.stack.drop (nn+1))) hvl (fun j u hj=>by obtain⟨b,e,h⟩:=HV.out j u hj;exact⟨b,e,qzA hbz h⟩) (by omega)
   have hb1:Below W.heap.size W w1:=xaf hbz hbA;refine xaw rfl (.tmp 192) (.tmp 195) 28 rfl (.slice (some ⟨W.drew.heap.size,0,none⟩) 0 0) (.slice ad na (sc-(nn+1))) (.slice (some ⟨g,0,none⟩) na cap1) (by simp[Act.eval,Act.put]) (by simp[Act.eval,Act.put]) hrun1 ?_
   refine hK _ _ (fun _=>hSl _ hb1) ?_
   clear hK K'
   try simp only[Act.put,qzF,qzG,qzH]
   refine xab (rs:=[10]) (by kernel_rfl) (by simp) ?_
   intro i hi;simp only[List.mem_cons,List.not_mem_nil,or_false] at hi;subst hi;refine xaN (o:=⟨some 20,.alloc 27,0,_,_,none⟩) rfl (fun K' hK=>?_)
   go_simp;refine hK _ _ (fun _=>hSl _ (xaf hb1 (xak _ _))) ?_
   clear hK K'
   try simp only[Act.put,qzF,qzG,qzH]
   refine tj 11 (⟨some 19,.assign (.tmp 196),28,_,_,none⟩) (.slice (some ⟨g,0,none⟩) na cap1) (hSl _ (xaf hb1 (xak _ _))) ?_ ?_
   ·rintro w⟨q0,q1,q2⟩;go_simp
   try simp only[Act.put,qzF,qzG,qzH]
   have hx0:(w1.alloc (.cells #[.int .i64 0,.int .i64 0] 27)).heap[w1.heap.size]?=some (.cells #[.int .i64 0,.int .i64 0] 27 (0,0)):=qzJ w1 _;have x00:(w1.alloc (.cells #[.int .i64 0,.int .i64 0] 27)).cell? ⟨w1.heap.size,0,none⟩=some (.int .i64 0):=by rw[qzB hx0];rfl
   have x01:(w1.alloc (.cells #[.int .i64 0,.int .i64 0] 27)).cell? ⟨w1.heap.size,1,none⟩=some (.int .i64 0):=by rw[qzB hx0];rfl
   have x0f:=xap hx0;obtain⟨e1,e2,e3⟩:=xrO (n:=na) xv hb1 hown (by rw[List.length_drop];omega) (by omega) (qzC _)
   have hgg:W.heap.size<=w1.heap.size:=hb1.size;refine xab (rs:=[12]) (by kernel_rfl) (by simp) ?_
   intro i hi;simp only[List.mem_cons,List.not_mem_nil,or_false] at hi;subst hi;refine xaN (o:=⟨none,.store 27 (.tmp 20) (.tmp 201),0,_,_,none⟩) rfl (fun K' hK=>?_)
   go_simp;refine hK _ _ (fun h=>absurd h (by decide)) ?_
   clear hK K'
   try simp only[Act.put,qzF,qzG,qzH]
   refine xaz (by kernel_rfl) ?_ _
   try simp only[Act.put,qzF,qzG,qzH]
   have HE1:=hid e1;have HE2:=hid e2;have HE3:=hid e3;clear e1 e2 e3 hSl hS0 hF1 x00 x01 x0f hx0
   go_upto_region 42 with (fail)
   exact xpJ HH.out HOP.out (xqp HB1.out hWl2 hxb HE1.out HE2.out HE3.out hgg HN.out.1 HN.out.2.1 HN.out.2.2) (by assumption) (by assumption)
  ·subst hi;refine xaN (o:=⟨some 20,.alloc 27,0,_,_,none⟩) rfl (fun K' hK=>?_)
   replace hbz:Below W.heap.size W ((W.drew.alloc (.cells #[] 27)).alloc (.cells #[.int .i64 0,.int .i64 0] 27)):=xaf hbz (xak _ _);go_simp;refine hK _ _ (fun _=>hSl _ hbz) ?_
   clear hK K'
   try simp only[Act.put,qzF,qzG,qzH]
   refine xab (rs:=[4]) (by kernel_rfl) (by simp) ?_
   intro i hi;simp only[List.mem_cons,List.not_mem_nil,or_false] at hi;subst hi;refine xaN (o:=⟨some 196,.call ⟨.builtin .append,#[.tmp 192,.tmp 195],#[28,28]⟩,28,_,_,none⟩) rfl (fun K' hK=>?_)
   obtain⟨g,cap1,w1,hrun1,hown,hgB,hgl,hbA⟩:=xcn (w:=(W.drew.alloc (.cells #[] 27)).alloc (.cells #[.int .i64 0,.int .i64 0] 27)) 28 28 27 _ 2 16 Try.underlying28 xcg rfl (by omega) (by omega) (W.drew.heap.size) (xad (qzJ W.drew _) (xak _ _)) ad na (sc-(nn+1)) (xam (f.stack.drop (nn+1))) hvl (fun j u hj=>by obtain⟨b,e,h⟩:=HV.out j u hj;exact⟨b,e,qzA hbz h⟩) (by omega)
   have hb1:Below W.heap.size W w1:=xaf hbz hbA;refine xaw rfl (.tmp 192) (.tmp 195) 28 rfl (.slice (some ⟨W.drew.heap.size,0,none⟩) 0 0) (.slice ad na (sc-(nn+1))) (.slice (some ⟨g,0,none⟩) na cap1) (by simp[Act.eval,Act.put]) (by simp[Act.eval,Act.put]) hrun1 ?_
   refine hK _ _ (fun _=>hSl _ hb1) ?_
   clear hK K'
   try simp only[Act.put,qzF,qzG,qzH]
   refine tj 11 (⟨some 19,.assign (.tmp 196),28,_,_,none⟩) (.slice (some ⟨g,0,none⟩) na cap1) (hSl _ hb1) ?_ ?_
   ·rintro w⟨q0,q1,q2⟩;go_simp
   try simp only[Act.put,qzF,qzG,qzH]
   have hx0:(w1).heap[W.heap.size+1]?=some (.cells #[.int .i64 0,.int .i64 0] 27 (0,0)):=xad (by have:=qzJ (W.drew.alloc (.cells #[] 27)) (.cells #[.int .i64 0,.int .i64 0] 27);simpa using this) hbA
   have x00:(w1).cell? ⟨W.heap.size+1,0,none⟩=some (.int .i64 0):=by rw[qzB hx0];rfl
   have x01:(w1).cell? ⟨W.heap.size+1,1,none⟩=some (.int .i64 0):=by rw[qzB hx0];rfl
   have x0f:=xap hx0;obtain⟨e1,e2,e3⟩:=sd41 (n:=na) xv hb1 hown (by rw[List.length_drop];omega) (by omega) (qzC _) (show W.heap.size<=W.heap.size+1 from (by show W.heap.size<=W.heap.size+1;omega)) (by have h2:((W.drew.alloc (.cells #[] 27)).alloc (.cells #[.int .i64 0,.int .i64 0] 27)).heap.size=W.heap.size+2:=(by simp);have h3:W.drew.heap.size=W.heap.size:=rfl;rw[h2] at hgB;omega) hx0
   have hgg:W.heap.size<=W.heap.size+1:=(by show W.heap.size<=W.heap.size+1;omega)
   refine xab (rs:=[12]) (by kernel_rfl) (by simp) ?_
   intro i hi;simp only[List.mem_cons,List.not_mem_nil,or_false] at hi;subst hi;refine xaN (o:=⟨none,.store 27 (.tmp 20) (.tmp 201),0,_,_,none⟩) rfl (fun K' hK=>?_)
   go_simp;refine hK _ _ (fun h=>absurd h (by decide)) ?_
   clear hK K'
   try simp only[Act.put,qzF,qzG,qzH]
   refine xaz (by kernel_rfl) ?_ _
   try simp only[Act.put,qzF,qzG,qzH]
   have HE1:=hid e1;have HE2:=hid e2;have HE3:=hid e3;clear e1 e2 e3 hSl hS0 hF1 x00 x01 x0f hx0
   go_upto_region 42 with (fail)
   exact xpJ HH.out HOP.out (xqp HB1.out hWl2 hxb HE1.out HE2.out HE3.out hgg HN.out.1 HN.out.2.1 HN.out.2.2) (by assumption) (by assumption)
 ·subst hi;refine xaN (o:=⟨some 20,.alloc 27,0,_,_,none⟩) rfl (fun K' hK=>?_)
  have hbz:Below W.heap.size W (W.drew.alloc (.cells #[.int .i64 0,.int .i64 0] 27)):=xaf (qzL _ W).drew (xak _ _);go_simp;refine hK _ _ (fun _=>hSl _ hbz) ?_
  clear hK K'
  try simp only[Act.put,qzF,qzG,qzH]
  refine xab (rs:=[0]) (by kernel_rfl) (by simp) ?_
  intro i hi;simp only[List.mem_cons,List.not_mem_nil,or_false] at hi;subst hi;refine xaN (o:=⟨some 192,.buildSlice 28 0 #[],28,_,_,none⟩) rfl (fun K' hK=>?_)
  replace hbz:Below W.heap.size W ((W.drew.alloc (.cells #[.int .i64 0,.int .i64 0] 27)).alloc (.cells #[] 27)):=xaf hbz (xak _ _);go_simp;refine hK _ _ (fun _=>hSl _ hbz) ?_
  clear hK K'
  try simp only[Act.put,qzF,qzG,qzH]
  refine xab (rs:=[4]) (by kernel_rfl) (by simp) ?_
  intro i hi;simp only[List.mem_cons,List.not_mem_nil,or_false] at hi;subst hi;refine xaN (o:=⟨some 196,.call ⟨.builtin .append,#[.tmp 192,.tmp 195],#[28,28]⟩,28,_,_,none⟩) rfl (fun K' hK=>?_)
  obtain⟨g,cap1,w1,hrun1,hown,hgB,hgl,hbA⟩:=xcn (w:=(W.drew.alloc (.cells #[.int .i64 0,.int .i64 0] 27)).alloc (.cells #[] 27)) 28 28 27 _ 2 16 Try.underlying28 xcg rfl (by omega) (by omega) (W.drew.heap.size+1) (by have:=qzJ (W.drew.alloc (.cells #[.int .i64 0,.int .i64 0] 27)) (.cells #[] 27);simpa using this) ad na (sc-(nn+1)) (xam (f.stack.drop (nn+1))) hvl (fun j u hj=>by obtain⟨b,e,h⟩:=HV.out j u hj;exact⟨b,e,qzA hbz h⟩) (by omega)
  have hb1:Below W.heap.size W w1:=xaf hbz hbA;refine xaw rfl (.tmp 192) (.tmp 195) 28 rfl (.slice (some ⟨W.drew.heap.size+1,0,none⟩) 0 0) (.slice ad na (sc-(nn+1))) (.slice (some ⟨g,0,none⟩) na cap1) (by simp[Act.eval,Act.put]) (by simp[Act.eval,Act.put]) hrun1 ?_
  refine hK _ _ (fun _=>hSl _ hb1) ?_
  clear hK K'
  try simp only[Act.put,qzF,qzG,qzH]
  refine tj 11 (⟨some 19,.assign (.tmp 196),28,_,_,none⟩) (.slice (some ⟨g,0,none⟩) na cap1) (hSl _ hb1) ?_ ?_
  ·rintro w⟨q0,q1,q2⟩;go_simp
  try simp only[Act.put,qzF,qzG,qzH]
  have hx0:(w1).heap[W.heap.size]?=some (.cells #[.int .i64 0,.int .i64 0] 27 (0,0)):=xad (xad (qzJ W.drew (.cells #[.int .i64 0,.int .i64 0] 27)) (xak _ _)) hbA;have x00:(w1).cell? ⟨W.heap.size,0,none⟩=some (.int .i64 0):=by rw[qzB hx0];rfl
  have x01:(w1).cell? ⟨W.heap.size,1,none⟩=some (.int .i64 0):=by rw[qzB hx0];rfl
  have x0f:=xap hx0;obtain⟨e1,e2,e3⟩:=sd41 (n:=na) xv hb1 hown (by rw[List.length_drop];omega) (by omega) (by show W.heap.size<=W.heap.size+1;omega) (show W.heap.size<=W.heap.size from (qzC _)) (by have h2:((W.drew.alloc (.cells #[.int .i64 0,.int .i64 0] 27)).alloc (.cells #[] 27)).heap.size=W.heap.size+2:=(by simp);have h3:W.drew.heap.size=W.heap.size:=rfl;rw[h2] at hgB;omega) hx0
  have hgg:W.heap.size<=W.heap.size:=(qzC _);refine xab (rs:=[12]) (by kernel_rfl) (by simp) ?_
  intro i hi;simp only[List.mem_cons,List.not_mem_nil,or_false] at hi;subst hi;refine xaN (o:=⟨none,.store 27 (.tmp 20) (.tmp 201),0,_,_,none⟩) rfl (fun K' hK=>?_)
  go_simp;refine hK _ _ (fun h=>absurd h (by decide)) ?_
  clear hK K'
  try simp only[Act.put,qzF,qzG,qzH]
  refine xaz (by kernel_rfl) ?_ _
  try simp only[Act.put,qzF,qzG,qzH]
  have HE1:=hid e1;have HE2:=hid e2;have HE3:=hid e3;clear e1 e2 e3 hSl hS0 hF1 x00 x01 x0f hx0
  go_upto_region 42 with (fail)
  exact xpJ HH.out HOP.out (xqp HB1.out hWl2 hxb HE1.out HE2.out HE3.out hgg HN.out.1 HN.out.2.1 HN.out.2.2) (by assumption) (by assumption)
theorem br15:Br 15:=by
 intro p d T T1 w wr W mb K R av kv gk G' m f c n1 n2 n3 k x hv sv ov sa sc H hop
 intros
 rename_i hN K9 hK9;obtain⟨hX,HEn,HR,HG,HX,HMa,HF,HL,HB1,HI,hM1,hF1,hsc1,hsc2,hBl,hWl,hxb,⟨aa,ca,rfl,hca⟩,ht40⟩:=H.pre;have HOP:=hid hop;clear hop;unfold xh4;unfold sw9 at hK9;have x1:=hxb.x1;have HM2:=hid hM1;have HF2:=hid hF1;clear hM1 hF1;go_wp2
 exact Or.inr ⟨rfl,by have:=HOP.out;omega,{ f with pc:=f.pc+1 },T1,_,_,_,_,.refl _ _,Kp.of_below HB1.out,HM2.out,HF2.out.at _,HL.out,xl6 HOP.out HX.out⟩
theorem br16:Br 16:=by
 intro p d T T1 w wr W mb K R av kv gk G' m f c n1 n2 n3 k x hv sv ov sa sc H hop
 intros
 rename_i hN K9 hK9;obtain⟨hX,HEn,HR,HG,HX,HMa,HF,HL,HB1,HI,hM1,hF1,hsc1,hsc2,hBl,hWl,hxb,⟨aa,ca,rfl,hca⟩,ht40⟩:=H.pre;have HOP:=hid hop;clear hop;unfold xh4;unfold sw9 at hK9
 have hnx:0<f.stack.length:=by
  have hneed:=HX.out.need;have hop:x.op=16:=HOP.out;unfold xaS at hneed
  simp[hop] at hneed
  omega
 have x1:=hxb.x1;have hFt:=HF.out.t4W (U:=W) HB1.out;have hMt:=HMa.out.t4W (U:=W) HB1.out;have hp5:=hFt.pos;clear hM1 hF1;go_wp2_with fail;refine (xfj hFt hnx).mono ?_;rintro e w2 ⟨rfl,⟨st',hF2⟩,hK2⟩;dsimp only;have hbx:=xak w2 (.cells #[.int .i64 f.top.k,.int .i64 f.top.n] 27);have hx2:=hK2.cell x1 (by rw[xaJ (qzC _)];omega)
 have hx3:=qzA hbx hx2;have b0:(w2.alloc (.cells #[.int .i64 f.top.k,.int .i64 f.top.n] 27)).cell? ⟨w2.heap.size,0,none⟩=some (.int .i64 f.top.k):=xaa _ _ _ _ rfl 0;have HF3:=hid (hF2.later hbx);have hM3:=(hMt.keep (.refl _ _) hK2 (by omega) (by omega) (by omega) (by omega)).later hbx
 have HM3:=hid hM3;have HK3:Hid (Kp (All K) T1 wr (w2.alloc (.cells #[.int .i64 f.top.k,.int .i64 f.top.n] 27))):=kp4 HB1.out ((xd0 hK2 fun t ht=>by omega).on hbx)
 have c7:=hM3.c7;have cf7:=xap hM3.box;have HN7:=hid (hM3.num7 11);have HT7:=hid hM3.tag;clear hF2 hK2 hFt hMt x1 hbx hx2 hM3
 go_upto_region 53 with (fail)
 generalize (w2.alloc (.cells #[.int .i64 f.top.k,.int .i64 f.top.n] 27))=V at *
 by_cases h1:f.top.k=1
 ·have H1:=hid h1;rw[h1] at b0;clear h1;go_wp2
  exact Or.inr ⟨rfl,by have:=HOP.out;omega,({ f with pc:=f.pc+1 }:Fr).pop,xaF T1 wr 4,_,_,_,_,xaq T1 wr 4,HK3.out,HM3.out,HF3.out.at _,HL.out,xnu HOP.out H1.out HX.out⟩
 ·have hd1:(f.top.k == 1)=false:=by simpa using h1
  have H1:=hid h1;clear h1
  by_cases h2:f.top.k=2
  ·have H2:=hid h2;rw[h2] at b0;clear h2 hd1;go_wp2
   exact Or.inl ⟨rfl,xpG hX HR.out HG.out HX.out HOP.out H2.out HL.out (xaq T1 wr 4) HK3.out HM3.out HF3.out⟩
  ·have hd2:(f.top.k == 2)=false:=by simpa using h2
   have H2:=hid h2;clear h2;go_wp2
   exact Or.inl ⟨rfl,xnU hX HR.out HG.out HX.out HOP.out H1.out H2.out (xaq T1 wr 4) (HK3.out.trans (xaq T1 wr 4) ((Kp.refl (All K) _ _).set (fun _=>Or.inl HT7.out) _ _)) HN7.out⟩
theorem br17:Br 17:=by
 intro p d T T1 w wr W mb K R av kv gk G' m f c n1 n2 n3 k x hv sv ov sa sc H hop
 intros
 rename_i hN K9 hK9;obtain⟨hX,HEn,HR,HG,HX,HMa,HF,HL,HB1,HI,hM1,hF1,hsc1,hsc2,hBl,hWl,hxb,⟨aa,ca,rfl,hca⟩,ht40⟩:=H.pre;have HOP:=hid hop;clear hop;unfold xh4;unfold sw9 at hK9;have hnx:0<f.stack.length:=by have:=HX.out.back HOP.out;omega
 go_wp2_with fail;refine (xfj hF1 hnx).mono ?_;rintro e w2 ⟨rfl,⟨st',hF2⟩,hK2⟩;dsimp only;have HK2:Hid (Kp (All K) T1 wr w2):=((Kp.of_below HB1.out).trans (.refl _ _) (xd0 hK2 fun t ht=>by omega))
 have HM2:=hid (hM1.keep (.refl _ _) hK2 (by have:=hF1.pos;omega) (by have:=hF1.pos;omega) (by have:=hF1.pos;omega) (by have:=hF1.pos;omega))
 obtain⟨⟨q0,q1⟩,qf⟩:=xq9 HR.out HK2.out;clear hF1 hF2 hK2 hM1;go_wp2;refine qzK (v:=VV f.top) ?_ rfl (HR.out.set_res (.refl _ _) HK2.out HM2.out (xqt HR.out HG.out HX.out HOP.out))
 simp[results,Try.results65,go_sem,q0,q1]
theorem xlJ {p:Rp}{d:Nat}{T T1:Nat->Nat}{w wr W:World}{mb K:Nat}{R:Mc RSt × QV × Int}{av kv:Value}{gk G':Nat}{m:Mc RSt}{f:Fr}{c:Int}{n1 n2 n3 k:Nat}{x:QI}{hv sv ov:Value}{sa:Option Addr}{sc:Nat}(H:SwC p d T w mb K R av kv gk G' c n1 n2 n3 T1 m f wr W k x hv sv ov sa sc)
  {u0 u1 u2 u3 u4 u5 u6 u7 u8 u9 ua ub uc ud ue uf ug uh ui uj uk ul um un uo up uq ur us ut uu uv uw ux uy uz ua0 ua1 ua2 ua3 ua4 ua5 ua6 ua7 ua8 ua9
  uaa uab uac uad uae uaf uag uah uai uaj uak ual uam uan uao uap uaq uar uas uat uau uav uaw uax uay uaz ub0 ub1 ub2 ub3 ub4 ub5 ub6 ub7 ub8 ub9 uba ubb ubc ubd ube ubf ubg ubh
  ubi ubj ubk ubl ubm ubn ubo ubp ubq ubr ubs ubt ubu ubv ubw ubx uby ubz uc0 uc1 uc2 uc3 uc4 uc5 uc6 uc7 uc8 uc9 uca ucb ucc ucd uce ucf ucg uch
  uci ucj uck ucl ucm ucn uco ucp ucq ucr ucs uct ucu ucv ucw ucx ucy ucz ud0 ud1 ud2 ud3 ud4 ud5 ud6 ud7 ud8 ud9 uda udb udc udd ude udf udg udh
  udi udj udk udl udm udn udo udp udq udr uds udt udu udv udw udx udy udz ue0 ue1 ue2 ue3 ue4 ue5 ue6 ue7 ue8 ue9 uea ueb uec ued uee uef ueg ueh
  uei uej uek uel uem uen ueo uep ueq uer ues uet ueu uev uew uex uey uez uf0 uf1 uf2 uf3 uf4 uf5 uf6 uf7 uf8 uf9 ufa ufb ufc ufd ufe uff ufg ufh
  ufi ufj ufk ufl ufm ufn ufo ufp ufq ufr ufs uft ufu ufv ufw ufx ufy ufz ug0 ug1 ug2 ug3 ug4 ug5 ug6 ug7 ug8 ug9 uga ugb ugc ugd uge ugf ugg ugh
  ugi ugj ugk ugl ugm ugn ugo ugp ugq ugr ugs ugt ugu ugv ugw ugx ugy ugz uh0 uh1 uh2 uh3:Value}
  {KT K2 K3:Act->World->Prop}
  (hN:∀ (u5 u6 u7 u8 u9 ua ub uc uu uv uw ux uy uz ua0 ua1 ua2 ua3 ua4 ua5 ua6 ua7 ua8 ua9 uaa uab uac uad uae uaf uag uah uai uaj uak ual uam uan uao uap uaq uar uas uat uau
  uav uaw uax uay uaz ub0 ub1 ub2 ub3 ub4 ub5 ub6 ub7 ub8 ub9 uba ubb ubc ubd ube ubf ubg ubh ubi ubj ubk ubl ubm ubn ubo ubp ubq ubr ubs ubt ubu ubv ubw ubx uby
  ubz uc0 uc1 uc2 uc3 uc4 uc5 uc6 uc7 uc8 uc9 uca ucb ucc ucd uce ucf ucg uch uci ucj uck ucl ucm ucn uco ucp ucq ucr ucs uct ucu ucv ucw ucx ucy
  ucz ud0 ud1 ud2 ud3 ud4 ud5 ud6 ud7 ud8 ud9 uda udb udc udd ude udf udg udh udi udj udk udl udm udn udo udp udq udr uds udt udu udv udw udx udy
  udz ue0 ue1 ue2 ue3 ue4 ue5 ue6 ue7 ue8 ue9 uea ueb uec ued uee uef ueg ueh uei uej uek uel uem uen ueo uep ueq uer ues uet ueu uev uew uex uey
  uez uf0 uf1 uf2 uf3 uf4 uf5 uf6 uf7 uf8 uf9 ufa ufb ufc ufd ufe uff ufg ufh ufi ufj ufk ufl ufm ufn ufo ufp ufq ufr ufs uft ufu ufv ufw ufx ufy
  ufz ug0 ug1 ug2 ug3 ug4 ug5 ug6 ug7 ug8 ug9 uga ugb ugc ugd uge ugf ugg ugh ugi ugj:Value) (tg:Int) (w':World),xrE p d T w mb K R av kv G' c n1 n2 n3 T1 m f wr k x tg w'->KT (Act.mk #[.pointer (some ⟨mb,0,none⟩),.int .i64 c,u0,u1,av,u2,u3,.pointer (some ⟨w.heap.size,0,none⟩),.pointer (some ⟨w.heap.size+1,0,none⟩),u4,.pointer (some
  ⟨w.heap.size+2,0,none⟩),.slice (some ⟨w.heap.size+3,0,none⟩) n2 n2,.pointer (some ⟨w.heap.size+4,0,none⟩),.func (.func 86) #[] #[.pointer (some ⟨w.heap.size+4,0,
  none⟩)],.int .i64 (k:Int),.pointer (some ⟨wr.heap.size,0,none⟩),.int .i64 tg,u5,u6,u7,u8,u9,ua,ub,uc,ud,ue,uf,ug,uh,ui,uj,uk,ul,um,un,
  uo,up,uq,ur,us,ut,.int .i64 x.op,uu,uv,uw,ux,uy,uz,ua0,ua1,ua2,ua3,ua4,ua5,ua6,ua7,ua8,ua9,uaa,uab,uac,uad,uae,uaf,uag,uah,uai,uaj,uak,
  ual,uam,uan,uao,uap,uaq,uar,uas,uat,uau,uav,uaw,uax,uay,uaz,ub0,ub1,ub2,ub3,ub4,ub5,ub6,ub7,ub8,ub9,uba,ubb,ubc,ubd,ube,ubf,ubg,ubh,ubi,ubj,
  ubk,ubl,ubm,ubn,ubo,ubp,ubq,ubr,ubs,ubt,ubu,ubv,ubw,ubx,uby,ubz,uc0,uc1,uc2,uc3,uc4,uc5,uc6,uc7,uc8,uc9,uca,ucb,ucc,ucd,
  uce,ucf,ucg,uch,uci,ucj,uck,ucl,ucm,ucn,uco,ucp,ucq,ucr,ucs,uct,ucu,ucv,ucw,ucx,ucy,ucz,ud0,ud1,ud2,ud3,ud4,ud5,ud6,ud7,
  ud8,ud9,uda,udb,udc,udd,ude,udf,udg,udh,udi,udj,udk,udl,udm,udn,udo,udp,udq,udr,uds,udt,udu,udv,udw,udx,udy,udz,ue0,ue1,
  ue2,ue3,ue4,ue5,ue6,ue7,ue8,ue9,uea,ueb,uec,ued,uee,uef,ueg,ueh,uei,uej,uek,uel,uem,uen,ueo,uep,ueq,uer,ues,uet,ueu,uev,
  uew,uex,uey,uez,uf0,uf1,uf2,uf3,uf4,uf5,uf6,uf7,uf8,uf9,ufa,ufb,ufc,ufd,ufe,uff,ufg,ufh,ufi,ufj,ufk,ufl,ufm,ufn,ufo,ufp,
  ufq,ufr,ufs,uft,ufu,ufv,ufw,ufx,ufy,ufz,ug0,ug1,ug2,ug3,ug4,ug5,ug6,ug7,ug8,ug9,uga,ugb,ugc,ugd,uge,ugf,ugg,ugh,ugi,ugj,
  ugk,ugl,ugm,ugn,ugo,ugp,ugq,ugr,ugs,ugt,ugu,ugv,ugw,ugx,ugy,ugz,uh0,uh1,uh2,uh3] []) w')
  {K9:Act->World->Prop} (hK9:∀ a w',Code.wp Try.prog sw9 (Exit.inBlock 2 (Exit.then KT (Exit.inBlock 1 (Exit.then K2 (Exit.inBlock 0 (Exit.then K3 (bodyPost Try.prog Try.f65 fun e w'=>xcT p T w mb (20-(d:Int)) K R e w'))))))) a w'->K9 a w') :
  Code.wp Try.prog xh4 (Exit.then K9 (Exit.inBlock 2 (Exit.then KT (Exit.inBlock 1 (Exit.then K2 (Exit.inBlock 0 (Exit.then K3 (bodyPost Try.prog Try.f65 fun e w'=>xcT p T w mb (20-(d:Int)) K R e w')))))))) (Act.mk #[.pointer (some ⟨mb,0,none⟩),.int .i64 c,u0,u1,av,u2,u3,.pointer (some ⟨w.heap.size,0,none⟩),.pointer (some ⟨w.heap.size+1,0,none⟩),u4,.pointer (some
  ⟨w.heap.size+2,0,none⟩),.slice (some ⟨w.heap.size+3,0,none⟩) n2 n2,.pointer (some ⟨w.heap.size+4,0,none⟩),.func (.func 86) #[] #[.pointer (some ⟨w.heap.size+4,0,
  none⟩)],.int .i64 (k:Int),.pointer (some ⟨wr.heap.size,0,none⟩),.int .i64 ((k:Int)+1),u5,u6,u7,u8,u9,ua,ub,uc,ud,ue,uf,ug,uh,ui,uj,uk,
  ul,um,un,uo,up,uq,ur,us,ut,.int .i64 x.op,uu,uv,uw,ux,uy,uz,ua0,ua1,ua2,ua3,ua4,ua5,ua6,ua7,ua8,ua9,uaa,uab,uac,uad,uae,uaf,uag,uah,
  uai,uaj,uak,ual,uam,uan,uao,uap,uaq,uar,uas,uat,uau,uav,uaw,uax,uay,uaz,ub0,ub1,ub2,ub3,ub4,ub5,ub6,ub7,ub8,ub9,uba,ubb,ubc,ubd,ube,ubf,ubg,
  ubh,ubi,ubj,ubk,ubl,ubm,ubn,ubo,ubp,ubq,ubr,ubs,ubt,ubu,ubv,ubw,ubx,uby,ubz,uc0,uc1,uc2,uc3,uc4,uc5,uc6,uc7,uc8,uc9,uca,
  ucb,ucc,ucd,uce,ucf,ucg,uch,uci,ucj,uck,ucl,ucm,ucn,uco,ucp,ucq,ucr,ucs,uct,ucu,ucv,ucw,ucx,ucy,ucz,ud0,ud1,ud2,ud3,ud4,
  ud5,ud6,ud7,ud8,ud9,uda,udb,udc,udd,ude,udf,udg,udh,udi,udj,udk,udl,udm,udn,udo,udp,udq,udr,uds,udt,udu,udv,udw,udx,udy,
  udz,ue0,ue1,ue2,ue3,ue4,ue5,ue6,ue7,ue8,ue9,uea,ueb,uec,ued,uee,uef,ueg,ueh,uei,uej,uek,uel,uem,uen,ueo,uep,ueq,uer,ues,
  uet,ueu,uev,uew,uex,uey,uez,uf0,uf1,uf2,uf3,uf4,uf5,uf6,uf7,uf8,uf9,ufa,ufb,ufc,ufd,ufe,uff,ufg,ufh,ufi,ufj,ufk,ufl,ufm,
  ufn,ufo,ufp,ufq,ufr,ufs,uft,ufu,ufv,ufw,ufx,ufy,ufz,ug0,ug1,ug2,ug3,ug4,ug5,ug6,ug7,ug8,ug9,uga,ugb,ugc,ugd,uge,ugf,ugg,
  ugh,ugi,ugj,ugk,ugl,ugm,ugn,ugo,ugp,ugq,ugr,ugs,ugt,ugu,ugv,ugw,ugx,ugy,ugz,uh0,uh1,uh2,uh3] []) W:=by
 have hkd:=H.nx.kind;obtain⟨on,hon,h1,h2⟩:∃ on:Nat,x.op=(on:Int)/\1<=on/\on<=17:=⟨x.op.toNat,by omega,by omega,by omega⟩
 rw[hon] at hN ⊢
 match on,h1,h2 with
 | 1,_,_=>exact br1 H hon hN hK9
 | 2,_,_=>exact br2 H hon hN hK9
 | 3,_,_=>exact br3 H hon hN hK9
 | 4,_,_=>exact br4 H hon hN hK9
 | 5,_,_=>exact br5 H hon hN hK9
 | 6,_,_=>exact br6 H hon hN hK9
 | 7,_,_=>exact br7 H hon hN hK9
 | 8,_,_=>exact br8 H hon hN hK9
 | 9,_,_=>exact br9 H hon hN hK9
 | 10,_,_=>exact br10 H hon hN hK9
 | 11,_,_=>exact br11 H hon hN hK9
 | 12,_,_=>exact br12 H hon hN hK9
 | 13,_,_=>exact br13 H hon hN hK9
 | 14,_,_=>exact br14 H hon hN hK9
 | 15,_,_=>exact br15 H hon hN hK9
 | 16,_,_=>exact br16 H hon hN hK9
 | 17,_,_=>exact br17 H hon hN hK9
 | 0,h0,_=>exact absurd h0 (by omega)
 | n+18,_,h0=>exact absurd h0 (by omega)
set_option maxRecDepth 8000
section
variable {p:Rp} {d:Nat} {T T1 T2:Nat->Nat} {w wr w2:World} {mb K:Nat} {R:Mc RSt × QV × Int} {av kv:Value} {gk:Nat} {at' at2:Value} {m:Mc RSt} {f:Fr}
theorem xoT {c:Int}{n1 n2 n3 G' k:Nat}{x:QI}{f1:Fr}{hv sv ov st:Value}{w':World}(hX:Rx p)(hR:BdR p d T w mb K R av kv gk at' T1 m f 0 wr)(hg:gk=G'+1)(hx:NxOk f k x)(h17:x.op≠17)(hr:xaj (xa4 p.E d) p.E d m { f with pc:=f.pc+1 } f.pc x=xaV m f1 k x.a)(hle:¬ x.a<=k)(ht:m.tz<=300)(hE:Ext T1 T2 wr)(hK:Kp (All K) T1 wr w')(hM:RMac p T2 w' mb m (20-(d:Int)) 0 hv sv ov)(hF:RF T2 K w' w.heap.size f1 av kv st)(hL:xj9 c n1 n2 n3 f1) :
  BdX p d T w mb K R av kv c n1 n2 n3 G' (.int .i64 x.a) w':=by
 have hj:xaV m f1 k x.a=(m,{ f1 with pc:=x.a },0):=by unfold xaV;simp only[hle,if_false];rw[if_neg (by omega)]
 exact⟨_,_,_,_,hR.next hX hg hx h17 (hr.trans hj) hE hK hM (fun _=>⟨_,hF.at _⟩) (fun _=>rfl),fun _=>hL⟩
theorem xl1 {c:Int}{n1 n2 n3 G' k:Nat}{x:QI}{f1:Fr}{hv sv ov st:Value}{w':World}(hX:Rx p)(hR:BdR p d T w mb K R av kv gk at' T1 m f 0 wr)(hg:gk=G'+1)(hx:NxOk f k x)(h17:x.op≠17)(hr:xaj (xa4 p.E d) p.E d m { f with pc:=f.pc+1 } f.pc x=xaV m f1 k x.a)(hle:x.a<=k)(ht:m.tz+1<=300)(hE:Ext T1 T2 wr)(hK:Kp (All K) T1 wr w')(hM:RMac p T2 w' mb m (20-(d:Int)) 0 hv sv ov)(hF:RF T2 K w' w.heap.size f1 av kv st)(hL:xj9 c n1 n2 n3 f1) :
  BdX p d T w mb K R av kv c n1 n2 n3 G' (.int .i64 x.a) (w'.setCell ⟨mb,5,none⟩ (.int .i64 (m.tz+1))):=by
 have hp:=hF.pos;have hj:xaV m f1 k x.a=({ m with tz:=m.tz+1 },{ f1 with pc:=x.a },0):=by unfold xaV;simp only[hle,if_true];rw[if_neg (by omega)]
 have k1:=kp1 hM 5 (.int .i64 (m.tz+1))
 exact⟨_,_,_,_,hR.next hX hg hx h17 (hr.trans hj) hE (hK.trans hE (k1.mono fun t h=>Or.inl h)) (hM.num5 _) (fun _=>⟨_,(hF.keep (.refl _ _) k1 (by omega) (by omega) (by omega) (by omega) (by omega)).at _⟩) (fun _=>rfl),fun _=>hL⟩
theorem xlW {c:Int}{n1 n2 n3 G' k:Nat}{x:QI}{f1:Fr}{hv sv ov:Value}{w':World}{at2:Value}(hX:Rx p)(hR:BdR p d T w mb K R av kv gk at' T1 m f 0 wr)(hg:gk=G'+1)(hx:NxOk f k x)(h17:x.op≠17)(hr:xaj (xa4 p.E d) p.E d m { f with pc:=f.pc+1 } f.pc x=xaV m f1 k x.a)(hle:x.a<=k)(ht:¬ m.tz+1<=300)(hE:Ext T1 T2 wr)(hK:Kp (All K) T1 wr w')(hM:RMac p T2 w' mb m (20-(d:Int)) 0 hv sv ov) :
  BdX p d T w mb K R av kv c n1 n2 n3 G' at2 ((w'.setCell ⟨mb,5,none⟩ (.int .i64 (m.tz+1))).setCell ⟨mb,7,none⟩ (.int .i64 16)):=by
 have hj:xaV m f1 k x.a=({ m with tz:=m.tz+1 },f1,16):=by unfold xaV;simp only[hle,if_true];rw[if_pos (by omega)]
 have k1:=kp1 hM 5 (.int .i64 (m.tz+1));have hM1:=hM.num5 (m.tz+1);have k2:=kp1 hM1 7 (.int .i64 16)
 exact⟨_,_,_,_,hR.next hX hg hx h17 (hr.trans hj) hE (hK.trans hE ((k1.mono fun t h=>Or.inl h).trans (.refl _ _) (k2.mono fun t h=>Or.inl h))) (hM1.num7 16) (fun h=>by cases h) (fun h=>by cases h),fun h=>by cases h⟩
theorem xpX {err:Int}{hv sv ov:Value}(hR:BdR p d T w mb K R av kv gk at' T1 m f err wr)(hM:RMac p T1 wr mb m (20-(d:Int)) err hv sv ov)(hE:R=(m,xaU,err)):xcT p T w mb (20-(d:Int)) K R (.returned (VV xaU)) ((wr.setCell ⟨w.heap.size+2,0,none⟩ (.int .i64 0)).setCell ⟨w.heap.size+2,1,none⟩ (.int .i64 0)):=by
 have ht:=hR.tres;have k4:Kp (fun t=>t=4) T1 wr ((wr.setCell ⟨w.heap.size+2,0,none⟩ (.int .i64 0)).setCell ⟨w.heap.size+2,1,none⟩ (.int .i64 0)):=((Kp.refl (fun t=>t=4) T1 wr).set (b:=w.heap.size+2) (fun _=>ht) _ _).set (b:=w.heap.size+2) (fun _=>ht) _ _
 subst hE
 exact⟨rfl,⟨T1,_,_,_,hR.ext,hM.keep (.refl _ _) k4 (by omega) (by omega) (by omega) (by omega)⟩,(hR.kp.set (fun h=>by omega) _ _).set (fun h=>by omega) _ _⟩
theorem xnQ (hX:Rx p)(hEn:xrD p d)(K:Nat)(T:Nat->Nat)(w:World)(mb:Nat)(m:Mc RSt)(hv sv ov:Value)(c n:Int)(self:QV)(args:List QV)(av:Value)(mt:QM)(kv:Value)(hK:5<=K)(h:RMac p T w mb m (20-(d:Int)) 0 hv sv ov)(hI:MIn p.E m)(hW:Few m)(hFo:FOk p.X.cz m.heap.length (xaK p.E c n mt self args))(hPl:PlOk (xaK p.E c n mt self args))(hA:xaO (Fx T w) w av args)(hC:xaR (Fx T w) w kv mt.code) :
  Calls Try.prog 65 #[.pointer (some ⟨mb,0,none⟩),.int .i64 c,MV mt kv,VV self,av] w fun e w'=>xcT p T w mb (20-(d:Int)) K (xb7 (xa4 p.E d) p.E d (xf4 (xaK p.E c n mt self args)) m (xaK p.E c n mt self args)) e w':=by
 obtain⟨aa,ca,rfl,-,hca,-,-⟩:=id hA;obtain⟨ak,ck,rfl,-,hck,-,-⟩:=id hC;unfold maxLen at hca hck;have hfr:xaK p.E c n mt self args=⟨c,mt,self,args,xaG mt.temps,[],mt.code,0,false⟩:=rfl;have htl:=hPl.temps;have hlm:=xal h.box;obtain⟨tn,htn⟩:∃ tn:Nat,mt.temps=(tn:Int):=⟨mt.temps.toNat,by rw[hfr] at htl;simp only at htl;omega⟩
 have htr:xaG mt.temps=List.replicate tn xaU:=by
  rw[hfr] at htl;simp only[xaG,List.length_replicate] at htl;unfold xaG
  congr 1
  omega
 have ht40:tn<=40:=by rw[hfr] at htl;simp only[xaG,List.length_replicate] at htl;omega
 have hmk:=xcH tn (by omega)
 have xc3:=fun (U:World) hb u0 u1 u2 u3 u4=>xlu (U:=U) h hK hI hW hFo hPl (by rw[hfr];exact hA) (by rw[hfr];exact hC) rfl rfl rfl hb u0 u1 u2 u3 u4
 have HSt:=hid xc3;clear xc3 hFo hPl hA hC hI hW htl h;obtain⟨f0,hf0⟩:∃ f0,f0=xaK p.E c n mt self args:=⟨_,rfl⟩;obtain⟨e1,e2,e3,e4⟩:f0.meth=mt/\f0.self=self/\f0.temps=List.replicate tn xaU/\f0.cls=c/\f0.args.length=args.length/\f0.code.length=mt.code.length:=by rw[hf0,hfr];exact⟨rfl,rfl,htr,rfl,rfl,rfl⟩
 rw[← hf0] at HSt ⊢;have HM:=hid (And.intro e1 (And.intro e2 (And.intro e3 e4)));generalize xb7 (xa4 p.E d) p.E d (xf4 f0) m f0=R at *;generalize hG:xf4 f0=G at *;clear hf0 hfr e1 e2 e3 e4 hG htr;obtain⟨mname,margs,mtemps,mprim,mcode⟩:=mt;simp only at htn HM;subst htn;simp only at *;go_enter Try.func65,Try.ntmps65
 go_upto_region 4 with (fail)
 have hbU:Below w.heap.size w (((((w.alloc (.cells #[.string mname,.int .i64 margs,.int .i64 (tn:Int),.int .i64 mprim,.slice ak mcode.length ck] 55)).alloc (.cells #[.int .i64 self.k,.int .i64 self.n] 27)).alloc (.cells #[.int .i64 0,.int .i64 0] 27)).alloc (.cells (madeCells #[.int .i64 0,.int .i64 0] (tn*2)) 27)).alloc (.cells #[.slice none 0 0] 28)):=by
  refine (((xfL _ _ _ _).alloc (by simp;omega) _).alloc (by simp;omega) _)
 have hRel:BdR p d T w mb K R (.slice aa args.length ca) (.slice ak mcode.length ck) G (.int .i64 0) (xoZ T w.heap.size K) m f0 0 (((((w.alloc (.cells #[.string mname,.int .i64 margs,.int .i64 (tn:Int),.int .i64 mprim,.slice ak mcode.length ck] 55)).alloc (.cells #[.int .i64 self.k,.int .i64 self.n] 27)).alloc (.cells #[.int .i64 0,.int .i64 0] 27)).alloc (.cells (madeCells #[.int .i64 0,.int .i64 0] (tn*2)) 27)).alloc (.cells #[.slice none 0 0] 28)):=by
  obtain⟨g1,g2,g3,-⟩:=HM.out;refine HSt.out _ hbU ?_ ?_ ?_ ?_ ?_
  ·rw[g1];exact (xrr w _ _ _ _ _).1.1
  ·rw[g2];exact (xrr w _ _ _ _ _).1.2.1
  ·exact (xrr w _ _ _ _ _).1.2.2
  ·rw[g3,← xld];exact (xrr w _ _ _ _ _).2.1
  ·exact (xrr w _ _ _ _ _).2.2
 generalize (((((w.alloc (.cells #[.string mname,.int .i64 margs,.int .i64 (tn:Int),.int .i64 mprim,.slice ak mcode.length ck] 55)).alloc (.cells #[.int .i64 self.k,.int .i64 self.n] 27)).alloc (.cells #[.int .i64 0,.int .i64 0] 27)).alloc (.cells (madeCells #[.int .i64 0,.int .i64 0] (tn*2)) 27)).alloc (.cells #[.slice none 0 0] 28))=W0 at *;clear hbU HSt hmk;have HM2:Hid (f0.meth=⟨mname,margs,tn,mprim,mcode⟩/\f0.self=self):=⟨HM.out.1,HM.out.2.1⟩;simp only[Nat.add_assoc,Nat.reduceAdd];go_wp2
 go_loopg [14] G (fun gk at' wr=>BdX p d T w mb K R (.slice aa args.length ca) (.slice ak mcode.length ck) c args.length tn mcode.length gk at' wr)
 case atStart=>exact⟨_,_,_,_,hRel,fun _=>by obtain⟨g1,g2,g3,g4,g5,g6⟩:=HM.out;exact⟨g4,g5,by rw[g3];simp,g6⟩⟩
 case round=>
  clear hRel;obtain⟨T1,m,f,err,hR,hLen⟩:=hrel;obtain⟨hv1,sv1,ov1,hM⟩:=hR.mac;have c7:=hM.c7
  by_cases herr:err=0
  ·subst herr;obtain⟨l0,l1,l2,l3⟩:=hLen rfl;obtain⟨hI,hW,hFo,hPl,hmu,hval,hat⟩:=hR.min rfl;obtain⟨st,hF⟩:=hR.run rfl;obtain⟨sa,sc,rfl,hsc1,hsc2⟩:=hF.stack.form;unfold maxLen at hsc2;obtain⟨k,x,hx⟩:=hPl.nx;have hpc:=hx.pc;have hkl:=hx.lt
   obtain⟨G',hG'⟩:∃ G',gk=G'+1:=⟨gk-1,by
    have:0<muE m f:=by unfold muE;rw[hpc];simp;omega
    omega⟩
   rw[hpc] at hat;subst hat;have k4:=hF.k4;obtain⟨a',cc',e',hlc,hcc,-,hrow⟩:=hF.code;unfold maxLen at hcc;simp only[Value.slice.injEq] at e';obtain⟨rfl,-,-⟩:=e';obtain⟨bc,oc,hac,-,i0,i1,i2,i3,i4,-⟩:=hrow k x hx.here;have hkm:k<mcode.length:=by omega
   have hk0:(0:Int)<=(k:Int):=by omega
   have hk1:(k:Int)<(mcode.length:Int):=by omega
   have hkw:IntKind.i64.wrap ((k:Int)+1)=(k:Int)+1:=xat (by omega) (by omega)
   simp only[Nat.add_zero] at i0;subst hac;have hSw0:Below wr.heap.size wr (wr.alloc (.cells #[.int .i64 x.op,.int .i64 x.a,.int .i64 x.b,.int .i64 x.c,.string x.name] 59)):=xak _ _;have hSw:SwC p d T w mb K R (.slice aa args.length ca) (.slice (some ⟨bc,oc,none⟩) mcode.length ck) gk G' c args.length tn mcode.length T1 m f wr (wr.alloc (.cells #[.int .i64 x.op,.int .i64 x.a,.int .i64 x.b,.int .i64 x.c,.string x.name] 59)) k x hv1 sv1 ov1 sa sc:=⟨hX,hEn,hR,hG',hx,hM,hF,⟨hsc1,by omega⟩,⟨l0,l1,l2,l3⟩,hSw0,xnn wr x,⟨_,_,rfl,by omega⟩,ht40,⟨hI,hW,hFo,hPl⟩⟩
   have HX:=hid hx;have HSw:=hid hSw;clear hSw hSw0;have HR:=hid hR;have HMa:=hid hM;have HF:=hid hF;have HL:=hid (And.intro l0 (And.intro l1 (And.intro l2 l3)));have HG:=hid hG';have hb1:=xak wr (.cells #[.int .i64 x.op,.int .i64 x.a,.int .i64 x.b,.int .i64 x.c,.string x.name] 59);have hxb:=(xnn wr x).x0;have hBl:w.heap.size+4<wr.heap.size:=xal hF.sb;clear hx hR hM hF hLen hI hW hFo hPl hmu hval hrow hG' hpc hkl l0 l1 l2 l3
   go_upto_region 9 with (fail)
   generalize (wr.alloc (.cells #[.int .i64 x.op,.int .i64 x.a,.int .i64 x.b,.int .i64 x.c,.string x.name] 59))=W at *;have HTu:Hid (0<=m.tz/\m.tz<=300):=HSw.out.min.1.tz;refine xlJ HSw.out ?_ (by assumption)
   intros
   rename_i tg w' hok;dsimp only
   rcases hok with ⟨rfl,hBd⟩ | ⟨rfl,h17,f1,T2,hv2,sv2,ov2,st2,e1,e2,e3,e4,e5,e6⟩
   ·have HBd:=hid hBd;have hkk:decide ((k:Int)+1<=(k:Int))=false:=by simp;omega
    clear hBd hxb;go_wp2
    go_roundg G'
    case measure=>have:=HG.out;omega
    case rel=>exact HBd.out
   ·by_cases hle:x.a<=(k:Int)
    ·have hd:decide (x.a<=(k:Int))=true:=by simpa using hle
     have c5:=e3.c5;have f5:=xap e3.box;obtain⟨ht0,ht3⟩:=HTu.out;have htw:IntKind.i64.wrap (m.tz+1)=m.tz+1:=xat (by omega) (by omega)
     have htw':wrap64 (m.tz+1)=m.tz+1:=by unfold wrap64;omega
     have hN5:=e3.num5 (m.tz+1);have g5:=hN5.c5;have g7:=hN5.c7;have gf:=xap hN5.box;have E6:=hid e6;have E1:=hid e1;have E2:=hid e2;have E3:=hid e3;have E4:=hid e4;have E5:=hid e5;have HLE:=hid hle;have H17:=hid h17;clear e1 e2 e3 e4 e5 e6 hle h17 hN5 hxb ht0 ht3;simp only[] at g5
     by_cases ht:m.tz+1<=300
     ·have hd3:decide (300<m.tz+1)=false:=by simp;omega
      have HT:=hid ht;clear ht;go_wp2
      go_roundg G'
      case measure=>have:=HG.out;omega
      case rel=>exact xl1 hX HR.out HG.out HX.out H17.out E6.out HLE.out HT.out E1.out E2.out E3.out E4.out E5.out
     ·have hd3:decide (300<m.tz+1)=true:=by simp;omega
      have HT:=hid ht;clear ht;go_wp2
      go_roundg G'
      case measure=>have:=HG.out;omega
      case rel=>exact xlW hX HR.out HG.out HX.out H17.out E6.out HLE.out (by have:=HT.out;omega) E1.out E2.out E3.out
    ·have hd:decide (x.a<=(k:Int))=false:=by simpa using hle
     have E6:=hid e6;have E1:=hid e1;have E2:=hid e2;have E3:=hid e3;have E4:=hid e4;have E5:=hid e5;have HLE:=hid hle;have H17:=hid h17;clear e1 e2 e3 e4 e5 e6 hle h17 hxb;go_wp2
     go_roundg G'
     case measure=>have:=HG.out;omega
     case rel=>exact xoT hX HR.out HG.out HX.out H17.out E6.out (by have:=HLE.out;omega) HTu.out.2 E1.out E2.out E3.out E4.out E5.out
  ·have herr':(err == 0)=false:=by simpa using herr
   have HE:=hid (hR.bad herr);have HMa:=hid hM;have HR:=hid hR;have r0:wr.cell? ⟨w.heap.size+2,0,none⟩=some (.int .i64 0):=by rw[qzB hR.res];rfl
   have r1:wr.cell? ⟨w.heap.size+2,1,none⟩=some (.int .i64 0):=by rw[qzB hR.res];rfl
   have rf:=xap hR.res;clear hR hM hLen herr;go_wp2;refine qzK (v:=VV xaU) ?_ rfl (xpX HR.out HMa.out HE.out)
   simp[results,Try.results65,go_sem,r0,r1]
end
end Go.Proofs.Ytdfbgpiikeheiaa
