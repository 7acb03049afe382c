/- A part. -/
import Derived.Test.YtapbeiccodnniaaGreatM25
namespace Go.Proofs.YtapbeiccodnniaaGreat
open Go.ChangeShapes Go.WideShapes Go.ChangeAt Go.RowKit
set_option linter.unusedSimpArgs false
set_option linter.unusedVariables false
set_option maxHeartbeats 8000000
set_option maxRecDepth 100000
theorem br13 {p:Rp}{d:Nat}{T T1:Nat->Nat}{w wr W:World}{mb K:Nat}{R:Mc RSt × QV × Int}{av kv:Value}{gk G':Nat}{m:Mc RSt}{f:Fr}{c:Int}{n1 n2 n3 k:Nat}{x:QI}{hv sv ov:Value}{sa:Option Addr}{sc:Nat}(H:SwC p d T w mb K R av kv gk G' c n1 n2 n3 T1 m f wr W k x hv sv ov sa sc)(hop:x.op=13)
  {u0 u1 u2 u3 u4 u5 u6 u7 u8 u9 ua ub uc ud ue uf ug uh ui uj uk ul um un uo up uq ur us ut uu uv uw ux uy uz ua0 ua1 ua2 ua3 ua4 ua5 ua6 ua7 ua8 ua9
  uaa uab uac uad uae uaf uag uah uai uaj uak ual uam uan uao uap uaq uar uas uat uau uav uaw uax uay uaz ub0 ub1 ub2 ub3 ub4 ub5 ub6 ub7 ub8 ub9 uba ubb ubc ubd ube ubf ubg ubh
  ubi ubj ubk ubl ubm ubn ubo ubp ubq ubr ubs ubt ubu ubv ubw ubx uby ubz uc0 uc1 uc2 uc3 uc4 uc5 uc6 uc7 uc8 uc9 uca ucb ucc ucd uce ucf ucg uch
  uci ucj uck ucl ucm ucn uco ucp ucq ucr ucs uct ucu ucv ucw ucx ucy ucz ud0 ud1 ud2 ud3 ud4 ud5 ud6 ud7 ud8 ud9 uda udb udc udd ude udf udg udh
  udi udj udk udl udm udn udo udp udq udr uds udt udu udv udw udx udy udz ue0 ue1 ue2 ue3 ue4 ue5 ue6 ue7 ue8 ue9 uea ueb uec ued uee uef ueg ueh
  uei uej uek uel uem uen ueo uep ueq uer ues uet ueu uev uew uex uey uez uf0 uf1 uf2 uf3 uf4 uf5 uf6 uf7 uf8 uf9 ufa ufb ufc ufd ufe uff ufg ufh
  ufi ufj ufk ufl ufm ufn ufo ufp ufq ufr ufs uft ufu ufv ufw ufx ufy ufz ug0 ug1 ug2 ug3 ug4 ug5 ug6 ug7 ug8 ug9 uga ugb ugc ugd uge ugf ugg ugh
  ugi ugj ugk ugl ugm ugn ugo ugp ugq ugr ugs ugt ugu ugv ugw ugx ugy ugz uh0 uh1 uh2 uh3:Value}
  {KT K2 K3:Act->World->Prop}
  (hN:∀ (u5 u6 u7 u8 u9 ua ub uc uu uv uw ux uy uz ua0 ua1 ua2 ua3 ua4 ua5 ua6 ua7 ua8 ua9 uaa uab uac uad uae uaf uag uah uai uaj uak ual uam uan uao uap uaq uar uas uat uau
  uav uaw uax uay uaz ub0 ub1 ub2 ub3 ub4 ub5 ub6 ub7 ub8 ub9 uba ubb ubc ubd ube ubf ubg ubh ubi ubj ubk ubl ubm ubn ubo ubp ubq ubr ubs ubt ubu ubv ubw ubx uby
  ubz uc0 uc1 uc2 uc3 uc4 uc5 uc6 uc7 uc8 uc9 uca ucb ucc ucd uce ucf ucg uch uci ucj uck ucl ucm ucn uco ucp ucq ucr ucs uct ucu ucv ucw ucx ucy
  ucz ud0 ud1 ud2 ud3 ud4 ud5 ud6 ud7 ud8 ud9 uda udb udc udd ude udf udg udh udi udj udk udl udm udn udo udp udq udr uds udt udu udv udw udx udy
  udz ue0 ue1 ue2 ue3 ue4 ue5 ue6 ue7 ue8 ue9 uea ueb uec ued uee uef ueg ueh uei uej uek uel uem uen ueo uep ueq uer ues uet ueu uev uew uex uey
  uez uf0 uf1 uf2 uf3 uf4 uf5 uf6 uf7 uf8 uf9 ufa ufb ufc ufd ufe uff ufg ufh ufi ufj ufk ufl ufm ufn ufo ufp ufq ufr ufs uft ufu ufv ufw ufx ufy
  ufz ug0 ug1 ug2 ug3 ug4 ug5 ug6 ug7 ug8 ug9 uga ugb ugc ugd uge ugf ugg ugh ugi ugj:Value) (tg:Int) (w':World),xf0 p d T w mb K R av kv G' c n1 n2 n3 T1 m f wr k x tg w'->KT (Act.mk #[.pointer (some ⟨mb,0,none⟩),.int .i64 c,u0,u1,av,u2,u3,.pointer (some ⟨w.heap.size,0,none⟩),.pointer (some ⟨w.heap.size+1,0,none⟩),u4,.pointer (some
  ⟨w.heap.size+2,0,none⟩),.slice (some ⟨w.heap.size+3,0,none⟩) n2 n2,.pointer (some ⟨w.heap.size+4,0,none⟩),.func (.func 68) #[] #[.pointer (some ⟨w.heap.size+4,0,
  none⟩)],.int .i64 (k:Int),.pointer (some ⟨wr.heap.size,0,none⟩),.int .i64 tg,u5,u6,u7,u8,u9,ua,ub,uc,ud,ue,uf,ug,uh,ui,uj,uk,ul,um,un,
  uo,up,uq,ur,us,ut,.int .i64 13,uu,uv,uw,ux,uy,uz,ua0,ua1,ua2,ua3,ua4,ua5,ua6,ua7,ua8,ua9,uaa,uab,uac,uad,uae,uaf,uag,uah,uai,uaj,uak,
  ual,uam,uan,uao,uap,uaq,uar,uas,uat,uau,uav,uaw,uax,uay,uaz,ub0,ub1,ub2,ub3,ub4,ub5,ub6,ub7,ub8,ub9,uba,ubb,ubc,ubd,ube,ubf,ubg,ubh,ubi,ubj,
  ubk,ubl,ubm,ubn,ubo,ubp,ubq,ubr,ubs,ubt,ubu,ubv,ubw,ubx,uby,ubz,uc0,uc1,uc2,uc3,uc4,uc5,uc6,uc7,uc8,uc9,uca,ucb,ucc,ucd,
  uce,ucf,ucg,uch,uci,ucj,uck,ucl,ucm,ucn,uco,ucp,ucq,ucr,ucs,uct,ucu,ucv,ucw,ucx,ucy,ucz,ud0,ud1,ud2,ud3,ud4,ud5,ud6,ud7,
  ud8,ud9,uda,udb,udc,udd,ude,udf,udg,udh,udi,udj,udk,udl,udm,udn,udo,udp,udq,udr,uds,udt,udu,udv,udw,udx,udy,udz,ue0,ue1,
  ue2,ue3,ue4,ue5,ue6,ue7,ue8,ue9,uea,ueb,uec,ued,uee,uef,ueg,ueh,uei,uej,uek,uel,uem,uen,ueo,uep,ueq,uer,ues,uet,ueu,uev,
  uew,uex,uey,uez,uf0,uf1,uf2,uf3,uf4,uf5,uf6,uf7,uf8,uf9,ufa,ufb,ufc,ufd,ufe,uff,ufg,ufh,ufi,ufj,ufk,ufl,ufm,ufn,ufo,ufp,
  ufq,ufr,ufs,uft,ufu,ufv,ufw,ufx,ufy,ufz,ug0,ug1,ug2,ug3,ug4,ug5,ug6,ug7,ug8,ug9,uga,ugb,ugc,ugd,uge,ugf,ugg,ugh,ugi,ugj,
  ugk,ugl,ugm,ugn,ugo,ugp,ugq,ugr,ugs,ugt,ugu,ugv,ugw,ugx,ugy,ugz,uh0,uh1,uh2,uh3] []) w')
  {K9:Act->World->Prop} (hK9:∀ a w',Code.wp Tryz.prog sw9 (Exit.inBlock 2 (Exit.then KT (Exit.inBlock 1 (Exit.then K2 (Exit.inBlock 0 (Exit.then K3 (bodyPost Tryz.prog Tryz.f52 fun e w'=>xaS p T w mb (20-(d:Int)) K R e w'))))))) a w'->K9 a w') :
  Code.wp Tryz.prog xdw (Exit.then K9 (Exit.inBlock 2 (Exit.then KT (Exit.inBlock 1 (Exit.then K2 (Exit.inBlock 0 (Exit.then K3 (bodyPost Tryz.prog Tryz.f52 fun e w'=>xaS p T w mb (20-(d:Int)) K R e w')))))))) (Act.mk #[.pointer (some ⟨mb,0,none⟩),.int .i64 c,u0,u1,av,u2,u3,.pointer (some ⟨w.heap.size,0,none⟩),.pointer (some ⟨w.heap.size+1,0,none⟩),u4,.pointer (some
  ⟨w.heap.size+2,0,none⟩),.slice (some ⟨w.heap.size+3,0,none⟩) n2 n2,.pointer (some ⟨w.heap.size+4,0,none⟩),.func (.func 68) #[] #[.pointer (some ⟨w.heap.size+4,0,
  none⟩)],.int .i64 (k:Int),.pointer (some ⟨wr.heap.size,0,none⟩),.int .i64 ((k:Int)+1),u5,u6,u7,u8,u9,ua,ub,uc,ud,ue,uf,ug,uh,ui,uj,uk,
  ul,um,un,uo,up,uq,ur,us,ut,.int .i64 13,uu,uv,uw,ux,uy,uz,ua0,ua1,ua2,ua3,ua4,ua5,ua6,ua7,ua8,ua9,uaa,uab,uac,uad,uae,uaf,uag,uah,
  uai,uaj,uak,ual,uam,uan,uao,uap,uaq,uar,uas,uat,uau,uav,uaw,uax,uay,uaz,ub0,ub1,ub2,ub3,ub4,ub5,ub6,ub7,ub8,ub9,uba,ubb,ubc,ubd,ube,ubf,ubg,
  ubh,ubi,ubj,ubk,ubl,ubm,ubn,ubo,ubp,ubq,ubr,ubs,ubt,ubu,ubv,ubw,ubx,uby,ubz,uc0,uc1,uc2,uc3,uc4,uc5,uc6,uc7,uc8,uc9,uca,
  ucb,ucc,ucd,uce,ucf,ucg,uch,uci,ucj,uck,ucl,ucm,ucn,uco,ucp,ucq,ucr,ucs,uct,ucu,ucv,ucw,ucx,ucy,ucz,ud0,ud1,ud2,ud3,ud4,
  ud5,ud6,ud7,ud8,ud9,uda,udb,udc,udd,ude,udf,udg,udh,udi,udj,udk,udl,udm,udn,udo,udp,udq,udr,uds,udt,udu,udv,udw,udx,udy,
  udz,ue0,ue1,ue2,ue3,ue4,ue5,ue6,ue7,ue8,ue9,uea,ueb,uec,ued,uee,uef,ueg,ueh,uei,uej,uek,uel,uem,uen,ueo,uep,ueq,uer,ues,
  uet,ueu,uev,uew,uex,uey,uez,uf0,uf1,uf2,uf3,uf4,uf5,uf6,uf7,uf8,uf9,ufa,ufb,ufc,ufd,ufe,uff,ufg,ufh,ufi,ufj,ufk,ufl,ufm,
  ufn,ufo,ufp,ufq,ufr,ufs,uft,ufu,ufv,ufw,ufx,ufy,ufz,ug0,ug1,ug2,ug3,ug4,ug5,ug6,ug7,ug8,ug9,uga,ugb,ugc,ugd,uge,ugf,ugg,
  ugh,ugi,ugj,ugk,ugl,ugm,ugn,ugo,ugp,ugq,ugr,ugs,ugt,ugu,ugv,ugw,ugx,ugy,ugz,uh0,uh1,uh2,uh3] []) W:=by
 obtain⟨hX,hEn,HR0,HG0,HX0,HMa0,HF0,hscap,HL0,hbel,hxb,⟨aa,ca,rfl,hca⟩,ht40,HI0⟩:=H;have HR:=hid HR0;have HG:=hid HG0;have HX:=hid HX0;have HMa:=hid HMa0;have HF:=hid HF0;have HL:=hid HL0;have HB1:=hid hbel;have HI:=hid HI0;have HOP:=hid hop;have HEn:=hid hEn;have hM1:=HMa0.later hbel;have hF1:=HF0.later hbel;obtain⟨hsc1,hsc2⟩:=hscap;have hBl:w.heap.size+4<wr.heap.size:=xaf HF0.sb;have hWl:wr.heap.size<=W.heap.size:=hbel.size;clear HR0 HG0 HX0 HMa0 HF0 HL0 HI0 hop hbel hEn;unfold xdw;unfold sw9 at hK9;obtain⟨hI,hW,hFo,hPl⟩:=HI.out;have x1:=hxb.x1;have hfw:=HX.out.few;have hp5:=hF1.pos;obtain⟨ah,ch,rfl,-⟩:=id hM1.heap
 have c1:=hM1.c1;have c7:=hM1.c7;have cf7:=xam hM1.box
 by_cases h6:60<=m.heap.length
 ·have h6':(60:Int)<=(m.heap.length:Int):=by omega
  have H6:=hid h6;have HN7:=hid (hM1.num7 15);have HT7:=hid hM1.tag;have HMl:=hid (xaf HMa.out.box);clear hF1 hM1 h6 hI hW hFo hPl;go_wp2
  exact Or.inl ⟨rfl,xkR hX HR.out HG.out HX.out HOP.out H6.out (.refl _ _) ((Kp.of_below HB1.out).set (fun _=>Or.inl HT7.out) _ _) HN7.out⟩
 ·have h6':¬ ((60:Int)<=(m.heap.length:Int)):=by omega
  have H6:=hid h6;have hSl:∀ w',Below W.heap.size W w'->w'.cell? ⟨w.heap.size+4,0,none⟩=some (.slice sa f.stack.length sc)/\w'.cell? ⟨mb,1,none⟩=some (.slice ah m.heap.length ch):=fun w' hb=>⟨qzA hb hF1.st,qzA hb hM1.c1⟩
  have hS0:=hSl _ (Below.refl _ W).drew
  go_upto_region 37 with (fail)
  refine xaY (S:=fun w'=>w'.cell? ⟨w.heap.size+4,0,none⟩=some (.slice sa f.stack.length sc)/\w'.cell? ⟨mb,1,none⟩=some (.slice ah m.heap.length ch)) [10] (by kernel_rfl) ?_
  refine tk 0 _ (.slice sa f.stack.length sc) rfl (hS0) (fun _ _ _ h=>h) rfl (by kernel_rfl) ?_ ?_
  ·intro w hSw;obtain⟨q0,q1⟩:=hSw;go_simp
  try simp only[Act.put,qzF,qzG,qzH]
  refine tk 1 _ (.pointer (some ⟨mb,0,none⟩)) rfl (hS0) (fun _ _ _ h=>h) rfl (by kernel_rfl) ?_ ?_
  ·intro w hSw;obtain⟨q0,q1⟩:=hSw;go_simp
  try simp only[Act.put,qzF,qzG,qzH]
  refine tk 2 _ (.pointer (some ⟨mb,0,none⟩)) rfl (hS0) (fun _ _ _ h=>h) rfl (by kernel_rfl) ?_ ?_
  ·intro w hSw;obtain⟨q0,q1⟩:=hSw;go_simp
  try simp only[Act.put,qzF,qzG,qzH]
  refine tk 3 _ (.pointer (some ⟨mb,0,none⟩)) rfl (hS0) (fun _ _ _ h=>h) rfl (by kernel_rfl) ?_ ?_
  ·intro w hSw;obtain⟨q0,q1⟩:=hSw;go_simp
  try simp only[Act.put,qzF,qzG,qzH]
  refine tk 4 _ (.pointer (some ⟨mb,1,none⟩)) rfl (hS0) (fun _ _ _ h=>h) rfl (by kernel_rfl) ?_ ?_
  ·intro w hSw;obtain⟨q0,q1⟩:=hSw;go_simp
  try simp only[Act.put,qzF,qzG,qzH]
  refine tk 5 _ (.slice ah m.heap.length ch) rfl (hS0) (fun _ _ _ h=>h) rfl (by kernel_rfl) ?_ ?_
  ·intro w hSw;obtain⟨q0,q1⟩:=hSw;go_simp
  try simp only[Act.put,qzF,qzG,qzH]
  refine tk 6 _ (.int .i64 (m.heap.length:Int)) rfl (hS0) (fun _ _ _ h=>h) rfl (by kernel_rfl) ?_ ?_
  ·intro w hSw;obtain⟨q0,q1⟩:=hSw;go_simp
  try simp only[Act.put,qzF,qzG,qzH]
  refine tk 7 _ (VV ⟨4,(m.heap.length:Int)⟩) rfl (hS0) (fun _ _ _ h=>h) rfl (by kernel_rfl) ?_ ?_
  ·intro w hSw;obtain⟨q0,q1⟩:=hSw;go_simp
  try simp only[Act.put,qzF,qzG,qzH]
  refine xag (rs:=[8]) (by kernel_rfl) (by simp) ?_
  intro i hi;simp only[List.mem_cons,List.not_mem_nil,or_false] at hi;subst hi;refine xa6 (o:=_) rfl (fun K' hK=>?_)
  go_simp;refine hK _ _ (fun _=>hSl _ (xah (Below.refl _ W).drew (xaj _ _))) ?_
  clear hK K'
  try simp only[Act.put,qzF,qzG,qzH]
  refine xag (rs:=[9]) (by kernel_rfl) (by simp) ?_
  intro i hi;simp only[List.mem_cons,List.not_mem_nil,or_false] at hi;subst hi;refine xa6 (o:=_) rfl (fun K' hK=>?_)
  have hst:ownsAt ((W.drew).alloc (.cells #[.int .i64 4,.int .i64 (m.heap.length:Int)] 27)) 0 27 2 (.slice sa f.stack.length sc) f.stack.length (xal f.stack):=((hF1.later (Below.refl _ W).drew).stack.alloc _);obtain⟨v',w',hrun,r1,r2,r3,r4⟩:=xaF (w:=(W.drew).alloc (.cells #[.int .i64 4,.int .i64 (m.heap.length:Int)] 27)) 28 28 27 _ 2 16 Tryz.underlying28 xbW rfl (by omega) 0 f.stack.length (.slice sa f.stack.length sc) (xal f.stack) hst (W.drew).heap.size [.int .i64 4,.int .i64 (m.heap.length:Int)] rfl (heap_alloc_new (W.drew) _) (by intro u hu;simp only[List.mem_cons,List.not_mem_nil,or_false] at hu;rcases hu with h | h<;>(subst h;rfl)) (by unfold maxLen;omega) (by omega) (by omega)
  obtain⟨a',cap',rfl,-⟩:=r1.form;have hbU:Below wr.heap.size wr (W.drew.alloc (.cells #[.int .i64 4,.int .i64 (m.heap.length:Int)] 27)):=xah (xah HB1.out (Below.refl _ W).drew) (xaj _ _);obtain⟨d0,df⟩:=xbR HF.out hbU r4;refine xat rfl (.tmp 151) (.tmp 159) 28 rfl (.slice sa f.stack.length sc) (.slice (some ⟨W.drew.heap.size,0,none⟩) 1 1) (.slice a' (f.stack.length+1) cap') (by simp[Act.eval,Act.put]) (by simp[Act.eval,Act.put]) hrun ?_
  obtain⟨z0,z1⟩:=hSl _ (xah (Below.refl _ W).drew (xaj W.drew (.cells #[.int .i64 4,.int .i64 (m.heap.length:Int)] 27)));have hSa:w'.cell? ⟨w.heap.size+4,0,none⟩=some (.slice sa f.stack.length sc)/\w'.cell? ⟨mb,1,none⟩=some (.slice ah m.heap.length ch):=⟨d0,xcD HF.out r4 (fun _=>by rw[HMa.out.tag];omega) z1⟩
  refine hK _ _ (fun _=>hSa) ?_
  clear hK K'
  try simp only[Act.put,qzF,qzG,qzH]
  refine xag (rs:=[10]) (by kernel_rfl) (by simp) ?_
  intro i hi;simp only[List.mem_cons,List.not_mem_nil,or_false] at hi;subst hi;refine xa6 (o:=_) rfl (fun K' hK=>?_)
  go_simp;refine hK _ _ (fun h=>absurd h (by decide)) ?_
  clear hK K'
  try simp only[Act.put,qzF,qzG,qzH]
  refine xa0 (by kernel_rfl) ?_ _
  try simp only[Act.put,qzF,qzG,qzH]
  obtain⟨⟨T2,e1,e2⟩,e3⟩:=HF.out.pushed (vs:=[⟨4,(m.heap.length:Int)⟩]) hbU (by simp;omega) (by simpa [xal] using r1) r2 r3 r4
  have hM2:=HMa.out.keep e1 e3 (by omega) (by omega) (by omega) (by omega)
  have x2:(w'.setCell ⟨w.heap.size+4,0,none⟩ (.slice a' (f.stack.length+1) cap')).cell? ⟨wr.heap.size,1,none⟩=some (.int .i64 x.a):=(World.cell?_setCell_far _ _ _ _ (by simp;omega)).trans (xcD HF.out r4 (fun h=>absurd h (Nat.lt_irrefl _)) (qzA (xah (Below.refl _ W).drew (xaj _ _)) x1))
  obtain⟨ac,cc,hcv,-⟩:=id hM2.cls;obtain⟨ho,sl,hsl,hsl2⟩:=xlY hX x.a;have E1:=hid e1;have E2:=hid e2;have E3:=hid e3;clear hS0 hSl hF1 hM1 d0 df hst hrun r1 r2 r3 r4 hbU e1 e2 e3 c1 c7 cf7 x1
  go_upto_region 38 with (fail)
  generalize (w'.setCell ⟨w.heap.size+4,0,none⟩ (.slice a' (f.stack.length+1) cap'))=U at *;have hSl:∀ w',Below U.heap.size U w'->w'.cell? ⟨mb,0,none⟩=some (.slice ac p.X.cz.length cc)/\w'.cell? ⟨mb,1,none⟩=some (.slice ah m.heap.length ch)/\w'.cell? ⟨mb,2,none⟩=some (.int .i64 p.X.ez)/\w'.cell? ⟨wr.heap.size,1,none⟩=some (.int .i64 x.a):=fun w' hb=>⟨by rw[← hcv];exact qzA hb hM2.c0,qzA hb hM2.c1,qzA hb hM2.c2,qzA hb x2⟩
  have hS0:=hSl _ (Below.refl _ U).drew;obtain⟨cs,hcs,hsrc⟩:=xhA hM2.heap;have hlen:=hcs.1;have hmk:=xcA sl (by omega)
  have hmbl:=xaf hM2.box;have hbD:Below U.heap.size U U.drew:=(Below.refl _ U).drew;have hbE:Below U.heap.size U (U.drew.alloc (.cells #[] 64)):=xah hbD (xaj _ _);refine xaY (S:=fun w'=>w'.cell? ⟨mb,0,none⟩=some (.slice ac p.X.cz.length cc)/\w'.cell? ⟨mb,1,none⟩=some (.slice ah m.heap.length ch)/\w'.cell? ⟨mb,2,none⟩=some (.int .i64 p.X.ez)/\w'.cell? ⟨wr.heap.size,1,none⟩=some (.int .i64 x.a)) [24] (by kernel_rfl) ?_
  refine tk 0 _ (.pointer (some ⟨mb,0,none⟩)) rfl (hS0) (fun _ _ _ h=>h) rfl (by kernel_rfl) ?_ ?_
  ·intro w hSw;obtain⟨q0,q1,q2,q3⟩:=hSw;go_simp
  try simp only[Act.put,qzF,qzG,qzH]
  refine tk 2 _ (.pointer (some ⟨mb,0,none⟩)) rfl (hS0) (fun _ _ _ h=>h) rfl (by kernel_rfl) ?_ ?_
  ·intro w hSw;obtain⟨q0,q1,q2,q3⟩:=hSw;go_simp
  try simp only[Act.put,qzF,qzG,qzH]
  refine tk 3 _ (.pointer (some ⟨mb,0,none⟩)) rfl (hS0) (fun _ _ _ h=>h) rfl (by kernel_rfl) ?_ ?_
  ·intro w hSw;obtain⟨q0,q1,q2,q3⟩:=hSw;go_simp
  try simp only[Act.put,qzF,qzG,qzH]
  refine tk 4 _ (.pointer (some ⟨mb,0,none⟩)) rfl (hS0) (fun _ _ _ h=>h) rfl (by kernel_rfl) ?_ ?_
  ·intro w hSw;obtain⟨q0,q1,q2,q3⟩:=hSw;go_simp
  try simp only[Act.put,qzF,qzG,qzH]
  refine tk 5 _ (.pointer (some ⟨mb,1,none⟩)) rfl (hS0) (fun _ _ _ h=>h) rfl (by kernel_rfl) ?_ ?_
  ·intro w hSw;obtain⟨q0,q1,q2,q3⟩:=hSw;go_simp
  try simp only[Act.put,qzF,qzG,qzH]
  refine tk 6 _ (.slice ah m.heap.length ch) rfl (hS0) (fun _ _ _ h=>h) rfl (by kernel_rfl) ?_ ?_
  ·intro w hSw;obtain⟨q0,q1,q2,q3⟩:=hSw;go_simp
  try simp only[Act.put,qzF,qzG,qzH]
  refine tk 8 _ (.pointer (some ⟨wr.heap.size,1,none⟩)) rfl (hS0) (fun _ _ _ h=>h) rfl (by kernel_rfl) ?_ ?_
  ·intro w hSw;obtain⟨q0,q1,q2,q3⟩:=hSw;go_simp
  try simp only[Act.put,qzF,qzG,qzH]
  refine tk 9 _ (.int .i64 x.a) rfl (hS0) (fun _ _ _ h=>h) rfl (by kernel_rfl) ?_ ?_
  ·intro w hSw;obtain⟨q0,q1,q2,q3⟩:=hSw;go_simp
  try simp only[Act.put,qzF,qzG,qzH]
  refine tk 10 _ (.pointer (some ⟨mb,0,none⟩)) rfl (hS0) (fun _ _ _ h=>h) rfl (by kernel_rfl) ?_ ?_
  ·intro w hSw;obtain⟨q0,q1,q2,q3⟩:=hSw;go_simp
  try simp only[Act.put,qzF,qzG,qzH]
  refine tk 11 _ (.pointer (some ⟨mb,0,none⟩)) rfl (hS0) (fun _ _ _ h=>h) rfl (by kernel_rfl) ?_ ?_
  ·intro w hSw;obtain⟨q0,q1,q2,q3⟩:=hSw;go_simp
  try simp only[Act.put,qzF,qzG,qzH]
  refine tk 12 _ (.pointer (some ⟨mb,0,none⟩)) rfl (hS0) (fun _ _ _ h=>h) rfl (by kernel_rfl) ?_ ?_
  ·intro w hSw;obtain⟨q0,q1,q2,q3⟩:=hSw;go_simp
  try simp only[Act.put,qzF,qzG,qzH]
  refine tk 13 _ (WV (.slice ac p.X.cz.length cc) (.slice ah m.heap.length ch) p.X.ez) rfl (hS0) (fun _ _ _ h=>h) rfl (by kernel_rfl) ?_ ?_
  ·intro w hSw;obtain⟨q0,q1,q2,q3⟩:=hSw;go_simp
  try simp only[Act.put,qzF,qzG,qzH]
  refine tk 14 _ (.pointer (some ⟨wr.heap.size,1,none⟩)) rfl (hS0) (fun _ _ _ h=>h) rfl (by kernel_rfl) ?_ ?_
  ·intro w hSw;obtain⟨q0,q1,q2,q3⟩:=hSw;go_simp
  try simp only[Act.put,qzF,qzG,qzH]
  refine tk 15 _ (.int .i64 x.a) rfl (hS0) (fun _ _ _ h=>h) rfl (by kernel_rfl) ?_ ?_
  ·intro w hSw;obtain⟨q0,q1,q2,q3⟩:=hSw;go_simp
  try simp only[Act.put,qzF,qzG,qzH]
  refine xag (rs:=[1]) (by kernel_rfl) (by simp) ?_
  intro i hi;simp only[List.mem_cons,List.not_mem_nil,or_false] at hi;subst hi;refine xa6 (o:=_) rfl (fun K' hK=>?_)
  go_simp;refine hK _ _ (fun _=>hSl _ hbE) ?_
  clear hK K'
  try simp only[Act.put,qzF,qzG,qzH]
  refine xag (rs:=[7]) (by kernel_rfl) (by simp) ?_
  intro i hi;simp only[List.mem_cons,List.not_mem_nil,or_false] at hi;subst hi;refine xa6 (o:=_) rfl (fun K' hK=>?_)
  obtain⟨g,cap1,w1,hrun1,hown,hgB,hgl,hbA⟩:=xb3 (w:=U.drew.alloc (.cells #[] 64)) 23 23 64 _ 2 32 Tryz.underlying23 xgX rfl (by omega) (by omega) U.drew.heap.size (heap_alloc_new U.drew _) ah m.heap.length ch cs hlen (fun j u hj=>by obtain⟨b,e,h⟩:=hsrc j u hj;exact⟨b,e,qzA hbE h⟩) (by omega)
  have hb1:Below U.heap.size U w1:=xah hbE hbA
  have hgU:U.heap.size<=g:=by
   rcases hgB with h | h
   ·rw[h];exact qzC _
   ·have:=hbE.size;omega
  refine xat rfl (.tmp 162) (.tmp 167) 23 rfl (.slice (some ⟨U.drew.heap.size,0,none⟩) 0 0) (.slice ah m.heap.length ch) (.slice (some ⟨g,0,none⟩) m.heap.length cap1) (by simp[Act.eval,Act.put]) (by simp[Act.eval,Act.put]) hrun1 ?_
  refine hK _ _ (fun _=>hSl _ hb1) ?_
  clear hK K'
  try simp only[Act.put,qzF,qzG,qzH]
  refine xag (rs:=[16]) (by kernel_rfl) (by simp) ?_
  intro i hi;simp only[List.mem_cons,List.not_mem_nil,or_false] at hi;subst hi;refine xa6 (o:=_) rfl (fun K' hK=>?_)
  refine xbv rfl 16 (.func 16) #[.tmp 174,.tmp 176] _ rfl #[] rfl #[WV (.slice ac p.X.cz.length cc) (.slice ah m.heap.length ch) p.X.ez,.int .i64 x.a] (by simp[Act.eval,Act.put]) (cf17 _ _) ?_
  refine (show Calls Tryz.prog 16 #[WV (.slice ac p.X.cz.length cc) (.slice ah m.heap.length ch) p.X.ez,.int .i64 x.a] w1 _ from (xcp ⟨p.X.cz,m.heap,p.X.ez⟩ x.a _ _ w1 (by rw[← hcv];exact (hM2.cls.later xaz hb1)) (hM2.heap.later xaD hb1) ho).mono ?_)
  rintro e w2 ⟨rfl,hbS⟩;rw[show xaP (QW.mk p.X.cz m.heap p.X.ez).cz x.a=(sl:Int) from hsl]
  refine⟨_,rfl,?_⟩;have hb2:Below U.heap.size U w2:=xah hb1 hbS;have hb3:Below U.heap.size U (w2.alloc (.cells (madeCells #[.int .i64 0,.int .i64 0] (sl*2)) 27)):=xah hb2 (xaj _ _);have hb4:Below U.heap.size U ((w2.alloc (.cells (madeCells #[.int .i64 0,.int .i64 0] (sl*2)) 27)).alloc (.cells #[.int .i64 x.a,.slice (some ⟨w2.heap.size,0,none⟩) sl sl] 64)):=xah hb3 (xaj _ _);have hvb:U.heap.size<=w2.heap.size:=hb2.size;refine hK _ _ (fun _=>hSl _ hb2) ?_
  clear hK K'
  try simp only[Act.put,qzF,qzG,qzH]
  refine xag (rs:=[17]) (by kernel_rfl) (by simp) ?_
  intro i hi;simp only[List.mem_cons,List.not_mem_nil,or_false] at hi;subst hi;refine xa6 (o:=_) rfl (fun K' hK=>?_)
  go_simp;refine hK _ _ (fun _=>hSl _ hb3) ?_
  clear hK K'
  try simp only[Act.put,qzF,qzG,qzH]
  refine tk 18 _ (.agg #[.int .i64 x.a,.slice (some ⟨w2.heap.size,0,none⟩) sl sl]) rfl (hSl _ hb3) (fun _ _ _ h=>h) rfl (by kernel_rfl) ?_ ?_
  ·intro w hSw;obtain⟨q0,q1,q2,q3⟩:=hSw;go_simp
  try simp only[Act.put,qzF,qzG,qzH]
  refine xag (rs:=[19]) (by kernel_rfl) (by simp) ?_
  intro i hi;simp only[List.mem_cons,List.not_mem_nil,or_false] at hi;subst hi;refine xa6 (o:=_) rfl (fun K' hK=>?_)
  go_simp;refine hK _ _ (fun _=>hSl _ hb4) ?_
  clear hK K'
  try simp only[Act.put,qzF,qzG,qzH]
  refine xag (rs:=[20]) (by kernel_rfl) (by simp) ?_
  intro i hi;simp only[List.mem_cons,List.not_mem_nil,or_false] at hi;subst hi;refine xa6 (o:=_) rfl (fun K' hK=>?_)
  have hgw:g<w2.heap.size:=qzE hgl hbS.size;have hst4:ownsAt ((w2.alloc (.cells (madeCells #[.int .i64 0,.int .i64 0] (sl*2)) 27)).alloc (.cells #[.int .i64 x.a,.slice (some ⟨w2.heap.size,0,none⟩) sl sl] 64)) U.heap.size 64 2 (.slice (some ⟨g,0,none⟩) m.heap.length cap1) m.heap.length cs:=(((xdq hown (qzC _)).base (base':=U.heap.size) (fun g' hg'=>by cases hg';exact hgU)).keep (fun g' hg'=>by cases hg';exact hbS.block _ hgl)).alloc _ |>.alloc _
  have hvw:((w2.alloc (.cells (madeCells #[.int .i64 0,.int .i64 0] (sl*2)) 27)).alloc (.cells #[.int .i64 x.a,.slice (some ⟨w2.heap.size,0,none⟩) sl sl] 64)).heap[w2.heap.size]?=some (.cells (xal (List.replicate sl xaU)).toArray 27 (0,0)):=by
   rw[← xji];exact xac (heap_alloc_new w2 _) (xaj _ _)
  have hvg:some w2.heap.size≠(Value.slice (some ⟨g,0,none⟩) m.heap.length cap1).ownBlock:=fun e=>by have h1:w2.heap.size=g:=(by simpa [Value.ownBlock] using e);omega
  obtain⟨v5,w5,hrun5,r1,r2,r3,r4⟩:=xaF (w:=(w2.alloc (.cells (madeCells #[.int .i64 0,.int .i64 0] (sl*2)) 27)).alloc (.cells #[.int .i64 x.a,.slice (some ⟨w2.heap.size,0,none⟩) sl sl] 64)) 23 23 64 _ 2 32 Tryz.underlying23 xgX rfl (by omega) U.heap.size m.heap.length (.slice (some ⟨g,0,none⟩) m.heap.length cap1) cs hst4 (w2.heap.size+1) [.int .i64 x.a,.slice (some ⟨w2.heap.size,0,none⟩) sl sl] rfl (by have:=heap_alloc_new (w2.alloc (.cells (madeCells #[.int .i64 0,.int .i64 0] (sl*2)) 27)) (.cells #[.int .i64 x.a,.slice (some ⟨w2.heap.size,0,none⟩) sl sl] 64);simpa using this) (by intro u hu;simp only[List.mem_cons,List.not_mem_nil,or_false] at hu;rcases hu with h | h<;>(subst h;rfl)) (by unfold maxLen;omega) (by omega) (by have:=hb4.size;omega)
  obtain⟨a5,cap5,rfl,-⟩:=r1.form;have hb5:Below U.heap.size U w5:=hb4.trans r3;have cf5:∀ o,w5.frozen? ⟨mb,o,none⟩=false:=xam (by rw[hb5.block _ hmbl];exact hM2.box)
  have c51:=(hSl _ hb4).2.1;have c5:w5.cell? ⟨mb,1,none⟩=some (.slice ah m.heap.length ch):=by rw[qzB (show w5.heap[mb]?=_ by rw[hb5.block _ hmbl];exact hM2.box)];rfl
  have hS5:w5.cell? ⟨mb,0,none⟩=some (.slice ac p.X.cz.length cc)/\w5.cell? ⟨mb,1,none⟩=some (.slice ah m.heap.length ch)/\w5.cell? ⟨mb,2,none⟩=some (.int .i64 p.X.ez)/\w5.cell? ⟨wr.heap.size,1,none⟩=some (.int .i64 x.a):=by
   have hc:∀ (b o:Nat) v,b<U.heap.size->U.cell? ⟨b,o,none⟩=some v->w5.cell? ⟨b,o,none⟩=some v:=fun b o v hb h=>by
    unfold World.cell? at h ⊢;rw[hb5.block b hb];exact h
   obtain⟨y0,y1,y2,y3⟩:=hSl _ (Below.refl _ U)
   exact⟨hc _ _ _ hmbl y0,hc _ _ _ hmbl y1,hc _ _ _ hmbl y2,hc _ _ _ (World.block_lt_of_cell? U ⟨wr.heap.size,1,none⟩ y3) y3⟩
  refine xat rfl (.tmp 168) (.tmp 180) 23 rfl (.slice (some ⟨g,0,none⟩) m.heap.length cap1) (.slice (some ⟨w2.heap.size+1,0,none⟩) 1 1) (.slice a5 (m.heap.length+1) cap5) (by simp[Act.eval,Act.put]) (by simp[Act.eval,Act.put]) hrun5 ?_
  refine hK _ _ (fun _=>hS5) ?_
  clear hK K'
  try simp only[Act.put,qzF,qzG,qzH]
  refine tk 21 _ (.pointer (some ⟨mb,0,none⟩)) rfl (hS5) (fun _ _ _ h=>h) rfl (by kernel_rfl) ?_ ?_
  ·intro w hSw;obtain⟨q0,q1,q2,q3⟩:=hSw;go_simp
  try simp only[Act.put,qzF,qzG,qzH]
  refine tk 22 _ (.pointer (some ⟨mb,0,none⟩)) rfl (hS5) (fun _ _ _ h=>h) rfl (by kernel_rfl) ?_ ?_
  ·intro w hSw;obtain⟨q0,q1,q2,q3⟩:=hSw;go_simp
  try simp only[Act.put,qzF,qzG,qzH]
  refine tk 23 _ (.pointer (some ⟨mb,1,none⟩)) rfl (hS5) (fun _ _ _ h=>h) rfl (by kernel_rfl) ?_ ?_
  ·intro w hSw;obtain⟨q0,q1,q2,q3⟩:=hSw;go_simp
  try simp only[Act.put,qzF,qzG,qzH]
  refine xag (rs:=[24]) (by kernel_rfl) (by simp) ?_
  intro i hi;simp only[List.mem_cons,List.not_mem_nil,or_false] at hi;subst hi;refine xa6 (o:=_) rfl (fun K' hK=>?_)
  go_simp;refine hK _ _ (fun h=>absurd h (by decide)) ?_
  clear hK K'
  try simp only[Act.put,qzF,qzG,qzH]
  refine xa0 (by kernel_rfl) ?_ _
  try simp only[Act.put,qzF,qzG,qzH]
  obtain⟨f1,f2⟩:=xoa (c:=x.a) hM2 hcs hb4 hvb hvw hvg r1 r3 r4 (by omega) (by omega)
  have hE':Ext T1 (xau T2 U 0) wr:=E1.out.trans E3.out.size (xao T2 U 0);have hFU:=E2.out.keep (xao T2 U 0) f2 (by omega) (by omega) (by omega) (by omega) (by omega)
  have hKK:Kp (All K) T1 wr _:=(xdB E3.out fun t ht=>by omega).trans E1.out (xdB f2 fun t ht=>by omega)
  have HE':=hid hE';have HFU:=hid hFU;have HKK:=hid hKK;have F1:=hid f1;have HSL:=hid hsl;clear hE' hFU hKK f1 f2 hsl;go_wp2
  exact Or.inl ⟨rfl,xmn hX HR.out HG.out HX.out HOP.out H6.out HSL.out (by omega) HL.out HE'.out HKK.out F1.out HFU.out⟩
end Go.Proofs.YtapbeiccodnniaaGreat
