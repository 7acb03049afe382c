/- A part. -/
import Derived.Test.YtaodadfahifbpaaGreatM15
namespace Go.Proofs.YtaodadfahifbpaaGreat
open Go.ChangeShapes Go.WideShapes Go.ChangeAt Go.RowKit
set_option linter.unusedSimpArgs false
set_option linter.unusedVariables false
set_option maxHeartbeats 8000000
set_option maxRecDepth 100000
theorem br4 {p:Rp}{d:Nat}{T T1:Nat->Nat}{w wr W:World}{mb K:Nat}{R:Mc RSt × QV × Int}{av kv:Value}{gk G':Nat}{m:Mc RSt}{f:Fr}{c:Int}{n1 n2 n3 k:Nat}{x:QI}{hv sv ov:Value}{sa:Option Addr}{sc:Nat}(H:SwC p d T w mb K R av kv gk G' c n1 n2 n3 T1 m f wr W k x hv sv ov sa sc)(hop:x.op=4)
  {u0 u1 u2 u3 u4 u5 u6 u7 u8 u9 ua ub uc ud ue uf ug uh ui uj uk ul um un uo up uq ur us ut uu uv uw ux uy uz ua0 ua1 ua2 ua3 ua4 ua5 ua6 ua7 ua8 ua9
  uaa uab uac uad uae uaf uag uah uai uaj uak ual uam uan uao uap uaq uar uas uat uau uav uaw uax uay uaz ub0 ub1 ub2 ub3 ub4 ub5 ub6 ub7 ub8 ub9 uba ubb ubc ubd ube ubf ubg ubh
  ubi ubj ubk ubl ubm ubn ubo ubp ubq ubr ubs ubt ubu ubv ubw ubx uby ubz uc0 uc1 uc2 uc3 uc4 uc5 uc6 uc7 uc8 uc9 uca ucb ucc ucd uce ucf ucg uch
  uci ucj uck ucl ucm ucn uco ucp ucq ucr ucs uct ucu ucv ucw ucx ucy ucz ud0 ud1 ud2 ud3 ud4 ud5 ud6 ud7 ud8 ud9 uda udb udc udd ude udf udg udh
  udi udj udk udl udm udn udo udp udq udr uds udt udu udv udw udx udy udz ue0 ue1 ue2 ue3 ue4 ue5 ue6 ue7 ue8 ue9 uea ueb uec ued uee uef ueg ueh
  uei uej uek uel uem uen ueo uep ueq uer ues uet ueu uev uew uex uey uez uf0 uf1 uf2 uf3 uf4 uf5 uf6 uf7 uf8 uf9 ufa ufb ufc ufd ufe uff ufg ufh
  ufi ufj ufk ufl ufm ufn ufo ufp ufq ufr ufs uft ufu ufv ufw ufx ufy ufz ug0 ug1 ug2 ug3 ug4 ug5 ug6 ug7 ug8 ug9 uga ugb ugc ugd uge ugf ugg ugh
  ugi ugj ugk ugl ugm ugn ugo ugp ugq ugr ugs ugt ugu ugv ugw ugx ugy ugz uh0 uh1 uh2 uh3:Value}
  {KT K2 K3:Act->World->Prop}
  (hN:∀ (u5 u6 u7 u8 u9 ua ub uc uu uv uw ux uy uz ua0 ua1 ua2 ua3 ua4 ua5 ua6 ua7 ua8 ua9 uaa uab uac uad uae uaf uag uah uai uaj uak ual uam uan uao uap uaq uar uas uat uau
  uav uaw uax uay uaz ub0 ub1 ub2 ub3 ub4 ub5 ub6 ub7 ub8 ub9 uba ubb ubc ubd ube ubf ubg ubh ubi ubj ubk ubl ubm ubn ubo ubp ubq ubr ubs ubt ubu ubv ubw ubx uby
  ubz uc0 uc1 uc2 uc3 uc4 uc5 uc6 uc7 uc8 uc9 uca ucb ucc ucd uce ucf ucg uch uci ucj uck ucl ucm ucn uco ucp ucq ucr ucs uct ucu ucv ucw ucx ucy
  ucz ud0 ud1 ud2 ud3 ud4 ud5 ud6 ud7 ud8 ud9 uda udb udc udd ude udf udg udh udi udj udk udl udm udn udo udp udq udr uds udt udu udv udw udx udy
  udz ue0 ue1 ue2 ue3 ue4 ue5 ue6 ue7 ue8 ue9 uea ueb uec ued uee uef ueg ueh uei uej uek uel uem uen ueo uep ueq uer ues uet ueu uev uew uex uey
  uez uf0 uf1 uf2 uf3 uf4 uf5 uf6 uf7 uf8 uf9 ufa ufb ufc ufd ufe uff ufg ufh ufi ufj ufk ufl ufm ufn ufo ufp ufq ufr ufs uft ufu ufv ufw ufx ufy
  ufz ug0 ug1 ug2 ug3 ug4 ug5 ug6 ug7 ug8 ug9 uga ugb ugc ugd uge ugf ugg ugh ugi ugj:Value) (tg:Int) (w':World),xgn p d T w mb K R av kv G' c n1 n2 n3 T1 m f wr k x tg w'->KT (Act.mk #[.pointer (some ⟨mb,0,none⟩),.int .i64 c,u0,u1,av,u2,u3,.pointer (some ⟨w.heap.size,0,none⟩),.pointer (some ⟨w.heap.size+1,0,none⟩),u4,.pointer (some
  ⟨w.heap.size+2,0,none⟩),.slice (some ⟨w.heap.size+3,0,none⟩) n2 n2,.pointer (some ⟨w.heap.size+4,0,none⟩),.func (.func 71) #[] #[.pointer (some ⟨w.heap.size+4,0,
  none⟩)],.int .i64 (k:Int),.pointer (some ⟨wr.heap.size,0,none⟩),.int .i64 tg,u5,u6,u7,u8,u9,ua,ub,uc,ud,ue,uf,ug,uh,ui,uj,uk,ul,um,un,
  uo,up,uq,ur,us,ut,.int .i64 4,uu,uv,uw,ux,uy,uz,ua0,ua1,ua2,ua3,ua4,ua5,ua6,ua7,ua8,ua9,uaa,uab,uac,uad,uae,uaf,uag,uah,uai,uaj,uak,
  ual,uam,uan,uao,uap,uaq,uar,uas,uat,uau,uav,uaw,uax,uay,uaz,ub0,ub1,ub2,ub3,ub4,ub5,ub6,ub7,ub8,ub9,uba,ubb,ubc,ubd,ube,ubf,ubg,ubh,ubi,ubj,
  ubk,ubl,ubm,ubn,ubo,ubp,ubq,ubr,ubs,ubt,ubu,ubv,ubw,ubx,uby,ubz,uc0,uc1,uc2,uc3,uc4,uc5,uc6,uc7,uc8,uc9,uca,ucb,ucc,ucd,
  uce,ucf,ucg,uch,uci,ucj,uck,ucl,ucm,ucn,uco,ucp,ucq,ucr,ucs,uct,ucu,ucv,ucw,ucx,ucy,ucz,ud0,ud1,ud2,ud3,ud4,ud5,ud6,ud7,
  ud8,ud9,uda,udb,udc,udd,ude,udf,udg,udh,udi,udj,udk,udl,udm,udn,udo,udp,udq,udr,uds,udt,udu,udv,udw,udx,udy,udz,ue0,ue1,
  ue2,ue3,ue4,ue5,ue6,ue7,ue8,ue9,uea,ueb,uec,ued,uee,uef,ueg,ueh,uei,uej,uek,uel,uem,uen,ueo,uep,ueq,uer,ues,uet,ueu,uev,
  uew,uex,uey,uez,uf0,uf1,uf2,uf3,uf4,uf5,uf6,uf7,uf8,uf9,ufa,ufb,ufc,ufd,ufe,uff,ufg,ufh,ufi,ufj,ufk,ufl,ufm,ufn,ufo,ufp,
  ufq,ufr,ufs,uft,ufu,ufv,ufw,ufx,ufy,ufz,ug0,ug1,ug2,ug3,ug4,ug5,ug6,ug7,ug8,ug9,uga,ugb,ugc,ugd,uge,ugf,ugg,ugh,ugi,ugj,
  ugk,ugl,ugm,ugn,ugo,ugp,ugq,ugr,ugs,ugt,ugu,ugv,ugw,ugx,ugy,ugz,uh0,uh1,uh2,uh3] []) w')
  {K9:Act->World->Prop} (hK9:∀ a w',Code.wp Tryz.prog sw9 (Exit.inBlock 2 (Exit.then KT (Exit.inBlock 1 (Exit.then K2 (Exit.inBlock 0 (Exit.then K3 (bodyPost Tryz.prog Tryz.f52 fun e w'=>xaX p T w mb (20-(d:Int)) K R e w'))))))) a w'->K9 a w') :
  Code.wp Tryz.prog xdf (Exit.then K9 (Exit.inBlock 2 (Exit.then KT (Exit.inBlock 1 (Exit.then K2 (Exit.inBlock 0 (Exit.then K3 (bodyPost Tryz.prog Tryz.f52 fun e w'=>xaX p T w mb (20-(d:Int)) K R e w')))))))) (Act.mk #[.pointer (some ⟨mb,0,none⟩),.int .i64 c,u0,u1,av,u2,u3,.pointer (some ⟨w.heap.size,0,none⟩),.pointer (some ⟨w.heap.size+1,0,none⟩),u4,.pointer (some
  ⟨w.heap.size+2,0,none⟩),.slice (some ⟨w.heap.size+3,0,none⟩) n2 n2,.pointer (some ⟨w.heap.size+4,0,none⟩),.func (.func 71) #[] #[.pointer (some ⟨w.heap.size+4,0,
  none⟩)],.int .i64 (k:Int),.pointer (some ⟨wr.heap.size,0,none⟩),.int .i64 ((k:Int)+1),u5,u6,u7,u8,u9,ua,ub,uc,ud,ue,uf,ug,uh,ui,uj,uk,
  ul,um,un,uo,up,uq,ur,us,ut,.int .i64 4,uu,uv,uw,ux,uy,uz,ua0,ua1,ua2,ua3,ua4,ua5,ua6,ua7,ua8,ua9,uaa,uab,uac,uad,uae,uaf,uag,uah,
  uai,uaj,uak,ual,uam,uan,uao,uap,uaq,uar,uas,uat,uau,uav,uaw,uax,uay,uaz,ub0,ub1,ub2,ub3,ub4,ub5,ub6,ub7,ub8,ub9,uba,ubb,ubc,ubd,ube,ubf,ubg,
  ubh,ubi,ubj,ubk,ubl,ubm,ubn,ubo,ubp,ubq,ubr,ubs,ubt,ubu,ubv,ubw,ubx,uby,ubz,uc0,uc1,uc2,uc3,uc4,uc5,uc6,uc7,uc8,uc9,uca,
  ucb,ucc,ucd,uce,ucf,ucg,uch,uci,ucj,uck,ucl,ucm,ucn,uco,ucp,ucq,ucr,ucs,uct,ucu,ucv,ucw,ucx,ucy,ucz,ud0,ud1,ud2,ud3,ud4,
  ud5,ud6,ud7,ud8,ud9,uda,udb,udc,udd,ude,udf,udg,udh,udi,udj,udk,udl,udm,udn,udo,udp,udq,udr,uds,udt,udu,udv,udw,udx,udy,
  udz,ue0,ue1,ue2,ue3,ue4,ue5,ue6,ue7,ue8,ue9,uea,ueb,uec,ued,uee,uef,ueg,ueh,uei,uej,uek,uel,uem,uen,ueo,uep,ueq,uer,ues,
  uet,ueu,uev,uew,uex,uey,uez,uf0,uf1,uf2,uf3,uf4,uf5,uf6,uf7,uf8,uf9,ufa,ufb,ufc,ufd,ufe,uff,ufg,ufh,ufi,ufj,ufk,ufl,ufm,
  ufn,ufo,ufp,ufq,ufr,ufs,uft,ufu,ufv,ufw,ufx,ufy,ufz,ug0,ug1,ug2,ug3,ug4,ug5,ug6,ug7,ug8,ug9,uga,ugb,ugc,ugd,uge,ugf,ugg,
  ugh,ugi,ugj,ugk,ugl,ugm,ugn,ugo,ugp,ugq,ugr,ugs,ugt,ugu,ugv,ugw,ugx,ugy,ugz,uh0,uh1,uh2,uh3] []) W:=by
 obtain⟨hX,hEn,HR0,HG0,HX0,HMa0,HF0,hscap,HL0,hbel,hxb,⟨aa,ca,rfl,hca⟩,ht40,HI0⟩:=H;have HR:=hid HR0;have HG:=hid HG0;have HX:=hid HX0;have HMa:=hid HMa0;have HF:=hid HF0;have HL:=hid HL0;have HB1:=hid hbel;have HI:=hid HI0;have HOP:=hid hop;have HEn:=hid hEn;have hM1:=HMa0.later hbel;have hF1:=HF0.later hbel;obtain⟨hsc1,hsc2⟩:=hscap;have hBl:w.heap.size+4<wr.heap.size:=xai HF0.sb;have hWl:wr.heap.size<=W.heap.size:=hbel.size;clear HR0 HG0 HX0 HMa0 HF0 HL0 HI0 hop hbel hEn;unfold xdf;unfold sw9 at hK9;have hfw:=HX.out.few
 have HPU:Hid (xaB m.heap { f with pc:=f.pc+1 } x=some (xcP m.heap f.self x.a)):=by
  show _=_
  have hop:x.op=4:=HOP.out;unfold xaB
  simp[hop]
 obtain⟨ah,ch,rfl,-⟩:=id hM1.heap;have hSl:∀ w',Below W.heap.size W w'->w'.cell? ⟨w.heap.size+4,0,none⟩=some (.slice sa f.stack.length sc)/\w'.cell? ⟨mb,1,none⟩=some (.slice ah m.heap.length ch)/\w'.cell? ⟨w.heap.size+1,0,none⟩=some (.int .i64 f.self.k)/\w'.cell? ⟨w.heap.size+1,1,none⟩=some (.int .i64 f.self.n)/\w'.cell? ⟨wr.heap.size,1,none⟩=some (.int .i64 x.a):=fun w' hb=>⟨qzA hb hF1.st,qzA hb hM1.c1,qzA hb hF1.v0,qzA hb hF1.v1,qzA hb hxb.x1⟩
 have hS0:=hSl _ (Below.refl _ W).drew
 go_upto_region 16 with (fail)
 refine xfU (S:=fun w'=>w'.cell? ⟨w.heap.size+4,0,none⟩=some (.slice sa f.stack.length sc)/\w'.cell? ⟨mb,1,none⟩=some (.slice ah m.heap.length ch)/\w'.cell? ⟨w.heap.size+1,0,none⟩=some (.int .i64 f.self.k)/\w'.cell? ⟨w.heap.size+1,1,none⟩=some (.int .i64 f.self.n)/\w'.cell? ⟨wr.heap.size,1,none⟩=some (.int .i64 x.a)) 12 (by kernel_rfl) ?_
 refine xbt (i:=0) (oi:=⟨some 71,.load 28 (.tmp 12),28,_,_,none⟩) (v:=.slice sa f.stack.length sc) (by kernel_rfl) rfl rfl (by kernel_rfl) (by kernel_rfl) (by kernel_rfl) (fun _ _ _ h=>h) (Or.inl ⟨by rfl,?_⟩) hS0 ?_
 ·rintro w⟨q0,q1,q2,q3,q4⟩;go_simp
 try simp only[Act.put,qzF,qzG,qzH]
 refine xbt (i:=1) (oi:=⟨some 72,.move (.tmp 0),42,_,_,none⟩) (v:=.pointer (some ⟨mb,0,none⟩)) (by kernel_rfl) rfl rfl (by kernel_rfl) (by kernel_rfl) (by kernel_rfl) (fun _ _ _ h=>h) (Or.inl ⟨by rfl,?_⟩) hS0 ?_
 ·rintro w⟨q0,q1,q2,q3,q4⟩;go_simp
 try simp only[Act.put,qzF,qzG,qzH]
 refine xbt (i:=2) (oi:=⟨some 73,.nilCheck (.tmp 72),0,_,_,none⟩) (v:=.pointer (some ⟨mb,0,none⟩)) (by kernel_rfl) rfl rfl (by kernel_rfl) (by kernel_rfl) (by kernel_rfl) (fun _ _ _ h=>h) (Or.inl ⟨by rfl,?_⟩) hS0 ?_
 ·rintro w⟨q0,q1,q2,q3,q4⟩;go_simp
 try simp only[Act.put,qzF,qzG,qzH]
 refine xbt (i:=3) (oi:=⟨some 74,.fieldAddr 91 (.tmp 73) 0,0,_,_,none⟩) (v:=.pointer (some ⟨mb,0,none⟩)) (by kernel_rfl) rfl rfl (by kernel_rfl) (by kernel_rfl) (by kernel_rfl) (fun _ _ _ h=>h) (Or.inl ⟨by rfl,?_⟩) hS0 ?_
 ·rintro w⟨q0,q1,q2,q3,q4⟩;go_simp
 try simp only[Act.put,qzF,qzG,qzH]
 refine xbt (i:=4) (oi:=⟨some 75,.fieldAddr 25 (.tmp 74) 1,0,_,_,none⟩) (v:=.pointer (some ⟨mb,1,none⟩)) (by kernel_rfl) rfl rfl (by kernel_rfl) (by kernel_rfl) (by kernel_rfl) (fun _ _ _ h=>h) (Or.inl ⟨by rfl,?_⟩) hS0 ?_
 ·rintro w⟨q0,q1,q2,q3,q4⟩;go_simp
 try simp only[Act.put,qzF,qzG,qzH]
 refine xbt (i:=5) (oi:=⟨some 76,.load 23 (.tmp 75),23,_,_,none⟩) (v:=.slice ah m.heap.length ch) (by kernel_rfl) rfl rfl (by kernel_rfl) (by kernel_rfl) (by kernel_rfl) (fun _ _ _ h=>h) (Or.inl ⟨by rfl,?_⟩) hS0 ?_
 ·rintro w⟨q0,q1,q2,q3,q4⟩;go_simp
 try simp only[Act.put,qzF,qzG,qzH]
 refine xbt (i:=6) (oi:=⟨some 77,.load 27 (.tmp 8),27,_,_,none⟩) (v:=VV f.self) (by kernel_rfl) rfl rfl (by kernel_rfl) (by kernel_rfl) (by kernel_rfl) (fun _ _ _ h=>h) (Or.inl ⟨by rfl,?_⟩) hS0 ?_
 ·rintro w⟨q0,q1,q2,q3,q4⟩;go_simp
 try simp only[Act.put,qzF,qzG,qzH]
 refine xbt (i:=7) (oi:=⟨some 78,.fieldAddr 57 (.tmp 15) 1,0,_,_,none⟩) (v:=.pointer (some ⟨wr.heap.size,1,none⟩)) (by kernel_rfl) rfl rfl (by kernel_rfl) (by kernel_rfl) (by kernel_rfl) (fun _ _ _ h=>h) (Or.inl ⟨by rfl,?_⟩) hS0 ?_
 ·rintro w⟨q0,q1,q2,q3,q4⟩;go_simp
 try simp only[Act.put,qzF,qzG,qzH]
 refine xbt (i:=8) (oi:=⟨some 79,.load 3 (.tmp 78),3,_,_,none⟩) (v:=.int .i64 x.a) (by kernel_rfl) rfl rfl (by kernel_rfl) (by kernel_rfl) (by kernel_rfl) (fun _ _ _ h=>h) (Or.inl ⟨by rfl,?_⟩) hS0 ?_
 ·rintro w⟨q0,q1,q2,q3,q4⟩;go_simp
 try simp only[Act.put,qzF,qzG,qzH]
 refine xcB (rs:=[9]) (by kernel_rfl) (by simp) ?_
 intro i hi;simp only[List.mem_cons,List.not_mem_nil,or_false] at hi;subst hi;refine xmK (o:=⟨some 80,.call ⟨.value (.func 72),#[.tmp 76,.tmp 77,.tmp 79],#[23,27,3]⟩,27,_,_,none⟩) rfl (fun K' hK=>?_)
 refine xa0 rfl 72 (.func 72) #[.tmp 76,.tmp 77,.tmp 79] _ rfl #[] rfl #[.slice ah m.heap.length ch,VV f.self,.int .i64 x.a] (by simp[Act.eval,Act.put]) (vf48 _ _) ?_
 refine (show Calls Tryz.prog 72 #[.slice ah m.heap.length ch,VV f.self,.int .i64 x.a] W.drew _ from (xkM m.heap _ f.self x.a _ (hM1.heap.later xaz (Below.refl _ W).drew)).mono ?_)
 rintro e wc ⟨rfl,hbc⟩;refine⟨_,rfl,?_⟩;generalize xcP m.heap f.self x.a=y at *;have hbW:Below W.heap.size W wc:=xae (Below.refl _ W).drew hbc;refine hK _ _ (fun _=>hSl _ hbW) ?_
 clear hK K'
 try simp only[Act.put,qzF,qzG,qzH]
 refine xcB (rs:=[10]) (by kernel_rfl) (by simp) ?_
 intro i hi;simp only[List.mem_cons,List.not_mem_nil,or_false] at hi;subst hi;refine xmK (o:=⟨some 81,.buildSlice 28 1 #[(0,.tmp 80)],28,_,_,none⟩) rfl (fun K' hK=>?_)
 go_simp;refine hK _ _ (fun _=>hSl _ (xae hbW (xaj _ _))) ?_
 clear hK K'
 try simp only[Act.put,qzF,qzG,qzH]
 refine xcB (rs:=[11]) (by kernel_rfl) (by simp) ?_
 intro i hi;simp only[List.mem_cons,List.not_mem_nil,or_false] at hi;subst hi;refine xmK (o:=⟨some 82,.call ⟨.builtin .append,#[.tmp 71,.tmp 81],#[28,28]⟩,28,_,_,none⟩) rfl (fun K' hK=>?_)
 have hst:ownsAt (wc.alloc (.cells #[.int .i64 y.k,.int .i64 y.n] 27)) 0 27 2 (.slice sa f.stack.length sc) f.stack.length (xak f.stack):=((hF1.later hbW).stack.alloc _);obtain⟨v',w',hrun,r1,r2,r3,r4⟩:=xaE (w:=wc.alloc (.cells #[.int .i64 y.k,.int .i64 y.n] 27)) 28 28 27 _ 2 16 Tryz.underlying28 xbR rfl (by omega) 0 f.stack.length (.slice sa f.stack.length sc) (xak f.stack) hst wc.heap.size [.int .i64 y.k,.int .i64 y.n] rfl (heap_alloc_new wc _) (by intro u hu;simp only[List.mem_cons,List.not_mem_nil,or_false] at hu;rcases hu with h | h<;>(subst h;rfl)) (by unfold maxLen;omega) (by omega) (by omega)
 obtain⟨a',cap',rfl,-⟩:=r1.form;have hbU:Below wr.heap.size wr (wc.alloc (.cells #[.int .i64 y.k,.int .i64 y.n] 27)):=xae (xae HB1.out hbW) (xaj _ _);obtain⟨d0,df⟩:=xbM HF.out hbU r4;refine xar rfl (.tmp 71) (.tmp 81) 28 rfl (.slice sa f.stack.length sc) (.slice (some ⟨wc.heap.size,0,none⟩) 1 1) (.slice a' (f.stack.length+1) cap') (by simp[Act.eval,Act.put]) (by simp[Act.eval,Act.put]) hrun ?_
 obtain⟨z0,z1,z2,z3,z4⟩:=hSl _ (xae hbW (xaj wc (.cells #[.int .i64 y.k,.int .i64 y.n] 27)));have hp5:=HF.out.pos;have hSa:w'.cell? ⟨w.heap.size+4,0,none⟩=some (.slice sa f.stack.length sc)/\w'.cell? ⟨mb,1,none⟩=some (.slice ah m.heap.length ch)/\w'.cell? ⟨w.heap.size+1,0,none⟩=some (.int .i64 f.self.k)/\w'.cell? ⟨w.heap.size+1,1,none⟩=some (.int .i64 f.self.n)/\w'.cell? ⟨wr.heap.size,1,none⟩=some (.int .i64 x.a):=⟨d0,xcC HF.out r4 (fun _=>by rw[HMa.out.tag];omega) z1,xcC HF.out r4 (fun _=>by rw[HF.out.t1];omega) z2,xcC HF.out r4 (fun _=>by rw[HF.out.t1];omega) z3,xcC HF.out r4 (fun h=>absurd h (Nat.lt_irrefl _)) z4⟩
 refine hK _ _ (fun _=>hSa) ?_
 clear hK K'
 try simp only[Act.put,qzF,qzG,qzH]
 refine xcB (rs:=[12]) (by kernel_rfl) (by simp) ?_
 intro i hi;simp only[List.mem_cons,List.not_mem_nil,or_false] at hi;subst hi;refine xmK (o:=⟨none,.store 28 (.tmp 12) (.tmp 82),0,_,_,none⟩) rfl (fun K' hK=>?_)
 go_simp;refine hK _ _ (fun h=>absurd rfl h) ?_
 clear hK K'
 try simp only[Act.put,qzF,qzG,qzH]
 refine xh5 (by kernel_rfl) ?_ _
 try simp only[Act.put,qzF,qzG,qzH]
 go_wp2
 exact Or.inl ⟨rfl,xcy hX HR.out HG.out HX.out HPU.out HMa.out HF.out HL.out hbU r1 r2 r3 r4⟩
theorem br5 {p:Rp}{d:Nat}{T T1:Nat->Nat}{w wr W:World}{mb K:Nat}{R:Mc RSt × QV × Int}{av kv:Value}{gk G':Nat}{m:Mc RSt}{f:Fr}{c:Int}{n1 n2 n3 k:Nat}{x:QI}{hv sv ov:Value}{sa:Option Addr}{sc:Nat}(H:SwC p d T w mb K R av kv gk G' c n1 n2 n3 T1 m f wr W k x hv sv ov sa sc)(hop:x.op=5)
  {u0 u1 u2 u3 u4 u5 u6 u7 u8 u9 ua ub uc ud ue uf ug uh ui uj uk ul um un uo up uq ur us ut uu uv uw ux uy uz ua0 ua1 ua2 ua3 ua4 ua5 ua6 ua7 ua8 ua9
  uaa uab uac uad uae uaf uag uah uai uaj uak ual uam uan uao uap uaq uar uas uat uau uav uaw uax uay uaz ub0 ub1 ub2 ub3 ub4 ub5 ub6 ub7 ub8 ub9 uba ubb ubc ubd ube ubf ubg ubh
  ubi ubj ubk ubl ubm ubn ubo ubp ubq ubr ubs ubt ubu ubv ubw ubx uby ubz uc0 uc1 uc2 uc3 uc4 uc5 uc6 uc7 uc8 uc9 uca ucb ucc ucd uce ucf ucg uch
  uci ucj uck ucl ucm ucn uco ucp ucq ucr ucs uct ucu ucv ucw ucx ucy ucz ud0 ud1 ud2 ud3 ud4 ud5 ud6 ud7 ud8 ud9 uda udb udc udd ude udf udg udh
  udi udj udk udl udm udn udo udp udq udr uds udt udu udv udw udx udy udz ue0 ue1 ue2 ue3 ue4 ue5 ue6 ue7 ue8 ue9 uea ueb uec ued uee uef ueg ueh
  uei uej uek uel uem uen ueo uep ueq uer ues uet ueu uev uew uex uey uez uf0 uf1 uf2 uf3 uf4 uf5 uf6 uf7 uf8 uf9 ufa ufb ufc ufd ufe uff ufg ufh
  ufi ufj ufk ufl ufm ufn ufo ufp ufq ufr ufs uft ufu ufv ufw ufx ufy ufz ug0 ug1 ug2 ug3 ug4 ug5 ug6 ug7 ug8 ug9 uga ugb ugc ugd uge ugf ugg ugh
  ugi ugj ugk ugl ugm ugn ugo ugp ugq ugr ugs ugt ugu ugv ugw ugx ugy ugz uh0 uh1 uh2 uh3:Value}
  {KT K2 K3:Act->World->Prop}
  (hN:∀ (u5 u6 u7 u8 u9 ua ub uc uu uv uw ux uy uz ua0 ua1 ua2 ua3 ua4 ua5 ua6 ua7 ua8 ua9 uaa uab uac uad uae uaf uag uah uai uaj uak ual uam uan uao uap uaq uar uas uat uau
  uav uaw uax uay uaz ub0 ub1 ub2 ub3 ub4 ub5 ub6 ub7 ub8 ub9 uba ubb ubc ubd ube ubf ubg ubh ubi ubj ubk ubl ubm ubn ubo ubp ubq ubr ubs ubt ubu ubv ubw ubx uby
  ubz uc0 uc1 uc2 uc3 uc4 uc5 uc6 uc7 uc8 uc9 uca ucb ucc ucd uce ucf ucg uch uci ucj uck ucl ucm ucn uco ucp ucq ucr ucs uct ucu ucv ucw ucx ucy
  ucz ud0 ud1 ud2 ud3 ud4 ud5 ud6 ud7 ud8 ud9 uda udb udc udd ude udf udg udh udi udj udk udl udm udn udo udp udq udr uds udt udu udv udw udx udy
  udz ue0 ue1 ue2 ue3 ue4 ue5 ue6 ue7 ue8 ue9 uea ueb uec ued uee uef ueg ueh uei uej uek uel uem uen ueo uep ueq uer ues uet ueu uev uew uex uey
  uez uf0 uf1 uf2 uf3 uf4 uf5 uf6 uf7 uf8 uf9 ufa ufb ufc ufd ufe uff ufg ufh ufi ufj ufk ufl ufm ufn ufo ufp ufq ufr ufs uft ufu ufv ufw ufx ufy
  ufz ug0 ug1 ug2 ug3 ug4 ug5 ug6 ug7 ug8 ug9 uga ugb ugc ugd uge ugf ugg ugh ugi ugj:Value) (tg:Int) (w':World),xgn p d T w mb K R av kv G' c n1 n2 n3 T1 m f wr k x tg w'->KT (Act.mk #[.pointer (some ⟨mb,0,none⟩),.int .i64 c,u0,u1,av,u2,u3,.pointer (some ⟨w.heap.size,0,none⟩),.pointer (some ⟨w.heap.size+1,0,none⟩),u4,.pointer (some
  ⟨w.heap.size+2,0,none⟩),.slice (some ⟨w.heap.size+3,0,none⟩) n2 n2,.pointer (some ⟨w.heap.size+4,0,none⟩),.func (.func 71) #[] #[.pointer (some ⟨w.heap.size+4,0,
  none⟩)],.int .i64 (k:Int),.pointer (some ⟨wr.heap.size,0,none⟩),.int .i64 tg,u5,u6,u7,u8,u9,ua,ub,uc,ud,ue,uf,ug,uh,ui,uj,uk,ul,um,un,
  uo,up,uq,ur,us,ut,.int .i64 5,uu,uv,uw,ux,uy,uz,ua0,ua1,ua2,ua3,ua4,ua5,ua6,ua7,ua8,ua9,uaa,uab,uac,uad,uae,uaf,uag,uah,uai,uaj,uak,
  ual,uam,uan,uao,uap,uaq,uar,uas,uat,uau,uav,uaw,uax,uay,uaz,ub0,ub1,ub2,ub3,ub4,ub5,ub6,ub7,ub8,ub9,uba,ubb,ubc,ubd,ube,ubf,ubg,ubh,ubi,ubj,
  ubk,ubl,ubm,ubn,ubo,ubp,ubq,ubr,ubs,ubt,ubu,ubv,ubw,ubx,uby,ubz,uc0,uc1,uc2,uc3,uc4,uc5,uc6,uc7,uc8,uc9,uca,ucb,ucc,ucd,
  uce,ucf,ucg,uch,uci,ucj,uck,ucl,ucm,ucn,uco,ucp,ucq,ucr,ucs,uct,ucu,ucv,ucw,ucx,ucy,ucz,ud0,ud1,ud2,ud3,ud4,ud5,ud6,ud7,
  ud8,ud9,uda,udb,udc,udd,ude,udf,udg,udh,udi,udj,udk,udl,udm,udn,udo,udp,udq,udr,uds,udt,udu,udv,udw,udx,udy,udz,ue0,ue1,
  ue2,ue3,ue4,ue5,ue6,ue7,ue8,ue9,uea,ueb,uec,ued,uee,uef,ueg,ueh,uei,uej,uek,uel,uem,uen,ueo,uep,ueq,uer,ues,uet,ueu,uev,
  uew,uex,uey,uez,uf0,uf1,uf2,uf3,uf4,uf5,uf6,uf7,uf8,uf9,ufa,ufb,ufc,ufd,ufe,uff,ufg,ufh,ufi,ufj,ufk,ufl,ufm,ufn,ufo,ufp,
  ufq,ufr,ufs,uft,ufu,ufv,ufw,ufx,ufy,ufz,ug0,ug1,ug2,ug3,ug4,ug5,ug6,ug7,ug8,ug9,uga,ugb,ugc,ugd,uge,ugf,ugg,ugh,ugi,ugj,
  ugk,ugl,ugm,ugn,ugo,ugp,ugq,ugr,ugs,ugt,ugu,ugv,ugw,ugx,ugy,ugz,uh0,uh1,uh2,uh3] []) w')
  {K9:Act->World->Prop} (hK9:∀ a w',Code.wp Tryz.prog sw9 (Exit.inBlock 2 (Exit.then KT (Exit.inBlock 1 (Exit.then K2 (Exit.inBlock 0 (Exit.then K3 (bodyPost Tryz.prog Tryz.f52 fun e w'=>xaX p T w mb (20-(d:Int)) K R e w'))))))) a w'->K9 a w') :
  Code.wp Tryz.prog xdf (Exit.then K9 (Exit.inBlock 2 (Exit.then KT (Exit.inBlock 1 (Exit.then K2 (Exit.inBlock 0 (Exit.then K3 (bodyPost Tryz.prog Tryz.f52 fun e w'=>xaX p T w mb (20-(d:Int)) K R e w')))))))) (Act.mk #[.pointer (some ⟨mb,0,none⟩),.int .i64 c,u0,u1,av,u2,u3,.pointer (some ⟨w.heap.size,0,none⟩),.pointer (some ⟨w.heap.size+1,0,none⟩),u4,.pointer (some
  ⟨w.heap.size+2,0,none⟩),.slice (some ⟨w.heap.size+3,0,none⟩) n2 n2,.pointer (some ⟨w.heap.size+4,0,none⟩),.func (.func 71) #[] #[.pointer (some ⟨w.heap.size+4,0,
  none⟩)],.int .i64 (k:Int),.pointer (some ⟨wr.heap.size,0,none⟩),.int .i64 ((k:Int)+1),u5,u6,u7,u8,u9,ua,ub,uc,ud,ue,uf,ug,uh,ui,uj,uk,
  ul,um,un,uo,up,uq,ur,us,ut,.int .i64 5,uu,uv,uw,ux,uy,uz,ua0,ua1,ua2,ua3,ua4,ua5,ua6,ua7,ua8,ua9,uaa,uab,uac,uad,uae,uaf,uag,uah,
  uai,uaj,uak,ual,uam,uan,uao,uap,uaq,uar,uas,uat,uau,uav,uaw,uax,uay,uaz,ub0,ub1,ub2,ub3,ub4,ub5,ub6,ub7,ub8,ub9,uba,ubb,ubc,ubd,ube,ubf,ubg,
  ubh,ubi,ubj,ubk,ubl,ubm,ubn,ubo,ubp,ubq,ubr,ubs,ubt,ubu,ubv,ubw,ubx,uby,ubz,uc0,uc1,uc2,uc3,uc4,uc5,uc6,uc7,uc8,uc9,uca,
  ucb,ucc,ucd,uce,ucf,ucg,uch,uci,ucj,uck,ucl,ucm,ucn,uco,ucp,ucq,ucr,ucs,uct,ucu,ucv,ucw,ucx,ucy,ucz,ud0,ud1,ud2,ud3,ud4,
  ud5,ud6,ud7,ud8,ud9,uda,udb,udc,udd,ude,udf,udg,udh,udi,udj,udk,udl,udm,udn,udo,udp,udq,udr,uds,udt,udu,udv,udw,udx,udy,
  udz,ue0,ue1,ue2,ue3,ue4,ue5,ue6,ue7,ue8,ue9,uea,ueb,uec,ued,uee,uef,ueg,ueh,uei,uej,uek,uel,uem,uen,ueo,uep,ueq,uer,ues,
  uet,ueu,uev,uew,uex,uey,uez,uf0,uf1,uf2,uf3,uf4,uf5,uf6,uf7,uf8,uf9,ufa,ufb,ufc,ufd,ufe,uff,ufg,ufh,ufi,ufj,ufk,ufl,ufm,
  ufn,ufo,ufp,ufq,ufr,ufs,uft,ufu,ufv,ufw,ufx,ufy,ufz,ug0,ug1,ug2,ug3,ug4,ug5,ug6,ug7,ug8,ug9,uga,ugb,ugc,ugd,uge,ugf,ugg,
  ugh,ugi,ugj,ugk,ugl,ugm,ugn,ugo,ugp,ugq,ugr,ugs,ugt,ugu,ugv,ugw,ugx,ugy,ugz,uh0,uh1,uh2,uh3] []) W:=by
 obtain⟨hX,hEn,HR0,HG0,HX0,HMa0,HF0,hscap,HL0,hbel,hxb,⟨aa,ca,rfl,hca⟩,ht40,HI0⟩:=H;have HR:=hid HR0;have HG:=hid HG0;have HX:=hid HX0;have HMa:=hid HMa0;have HF:=hid HF0;have HL:=hid HL0;have HB1:=hid hbel;have HI:=hid HI0;have HOP:=hid hop;have HEn:=hid hEn;have hM1:=HMa0.later hbel;have hF1:=HF0.later hbel;obtain⟨hsc1,hsc2⟩:=hscap;have hBl:w.heap.size+4<wr.heap.size:=xai HF0.sb;have hWl:wr.heap.size<=W.heap.size:=hbel.size;clear HR0 HG0 HX0 HMa0 HF0 HL0 HI0 hop hbel hEn;unfold xdf;unfold sw9 at hK9
 have HPU:Hid (xaB m.heap { f with pc:=f.pc+1 } x=some (QV.mk 3 x.a)):=by
  show _=_
  have hop:x.op=5:=HOP.out;unfold xaB
  simp[hop]
 have hst0:=hF1.st;have x1:=hxb.x1;have HSt:=hid hF1.stack;have hfw:=HX.out.few
 go_wp2_with (at_builtin;refine xbe rfl (.tmp 85) (.tmp 89) 28 27 _ 2 16 rfl Tryz.underlying28 xbR rfl (by omega) 0 f.stack.length (.slice sa f.stack.length sc) (xak f.stack) rfl (HSt.out.alloc _) W.heap.size rfl [.int .i64 3,.int .i64 x.a] rfl (heap_alloc_new _ _) (by intro u hu;simp only[List.mem_cons,List.not_mem_nil,or_false] at hu;rcases hu with h | h<;>(subst h;rfl)) (by unfold maxLen;omega) (by omega) (by omega) ?_;intro a' cap' w' r1 r2 r3 r4;have hbU:=xae HB1.out (xaj W (.cells #[.int .i64 3,.int .i64 x.a] 27));obtain⟨d0,df⟩:=xbM HF.out hbU r4;have R1:=hid r1;have R2:=hid r2;have R3:=hid r3;have R4:=hid r4;have HBU:=hid hbU;clear r1 r2 r3 r4 hbU)
 exact Or.inl ⟨rfl,xcy hX HR.out HG.out HX.out HPU.out HMa.out HF.out HL.out HBU.out R1.out R2.out R3.out R4.out⟩
theorem br6 {p:Rp}{d:Nat}{T T1:Nat->Nat}{w wr W:World}{mb K:Nat}{R:Mc RSt × QV × Int}{av kv:Value}{gk G':Nat}{m:Mc RSt}{f:Fr}{c:Int}{n1 n2 n3 k:Nat}{x:QI}{hv sv ov:Value}{sa:Option Addr}{sc:Nat}(H:SwC p d T w mb K R av kv gk G' c n1 n2 n3 T1 m f wr W k x hv sv ov sa sc)(hop:x.op=6)
  {u0 u1 u2 u3 u4 u5 u6 u7 u8 u9 ua ub uc ud ue uf ug uh ui uj uk ul um un uo up uq ur us ut uu uv uw ux uy uz ua0 ua1 ua2 ua3 ua4 ua5 ua6 ua7 ua8 ua9
  uaa uab uac uad uae uaf uag uah uai uaj uak ual uam uan uao uap uaq uar uas uat uau uav uaw uax uay uaz ub0 ub1 ub2 ub3 ub4 ub5 ub6 ub7 ub8 ub9 uba ubb ubc ubd ube ubf ubg ubh
  ubi ubj ubk ubl ubm ubn ubo ubp ubq ubr ubs ubt ubu ubv ubw ubx uby ubz uc0 uc1 uc2 uc3 uc4 uc5 uc6 uc7 uc8 uc9 uca ucb ucc ucd uce ucf ucg uch
  uci ucj uck ucl ucm ucn uco ucp ucq ucr ucs uct ucu ucv ucw ucx ucy ucz ud0 ud1 ud2 ud3 ud4 ud5 ud6 ud7 ud8 ud9 uda udb udc udd ude udf udg udh
  udi udj udk udl udm udn udo udp udq udr uds udt udu udv udw udx udy udz ue0 ue1 ue2 ue3 ue4 ue5 ue6 ue7 ue8 ue9 uea ueb uec ued uee uef ueg ueh
  uei uej uek uel uem uen ueo uep ueq uer ues uet ueu uev uew uex uey uez uf0 uf1 uf2 uf3 uf4 uf5 uf6 uf7 uf8 uf9 ufa ufb ufc ufd ufe uff ufg ufh
  ufi ufj ufk ufl ufm ufn ufo ufp ufq ufr ufs uft ufu ufv ufw ufx ufy ufz ug0 ug1 ug2 ug3 ug4 ug5 ug6 ug7 ug8 ug9 uga ugb ugc ugd uge ugf ugg ugh
  ugi ugj ugk ugl ugm ugn ugo ugp ugq ugr ugs ugt ugu ugv ugw ugx ugy ugz uh0 uh1 uh2 uh3:Value}
  {KT K2 K3:Act->World->Prop}
  (hN:∀ (u5 u6 u7 u8 u9 ua ub uc uu uv uw ux uy uz ua0 ua1 ua2 ua3 ua4 ua5 ua6 ua7 ua8 ua9 uaa uab uac uad uae uaf uag uah uai uaj uak ual uam uan uao uap uaq uar uas uat uau
  uav uaw uax uay uaz ub0 ub1 ub2 ub3 ub4 ub5 ub6 ub7 ub8 ub9 uba ubb ubc ubd ube ubf ubg ubh ubi ubj ubk ubl ubm ubn ubo ubp ubq ubr ubs ubt ubu ubv ubw ubx uby
  ubz uc0 uc1 uc2 uc3 uc4 uc5 uc6 uc7 uc8 uc9 uca ucb ucc ucd uce ucf ucg uch uci ucj uck ucl ucm ucn uco ucp ucq ucr ucs uct ucu ucv ucw ucx ucy
  ucz ud0 ud1 ud2 ud3 ud4 ud5 ud6 ud7 ud8 ud9 uda udb udc udd ude udf udg udh udi udj udk udl udm udn udo udp udq udr uds udt udu udv udw udx udy
  udz ue0 ue1 ue2 ue3 ue4 ue5 ue6 ue7 ue8 ue9 uea ueb uec ued uee uef ueg ueh uei uej uek uel uem uen ueo uep ueq uer ues uet ueu uev uew uex uey
  uez uf0 uf1 uf2 uf3 uf4 uf5 uf6 uf7 uf8 uf9 ufa ufb ufc ufd ufe uff ufg ufh ufi ufj ufk ufl ufm ufn ufo ufp ufq ufr ufs uft ufu ufv ufw ufx ufy
  ufz ug0 ug1 ug2 ug3 ug4 ug5 ug6 ug7 ug8 ug9 uga ugb ugc ugd uge ugf ugg ugh ugi ugj:Value) (tg:Int) (w':World),xgn p d T w mb K R av kv G' c n1 n2 n3 T1 m f wr k x tg w'->KT (Act.mk #[.pointer (some ⟨mb,0,none⟩),.int .i64 c,u0,u1,av,u2,u3,.pointer (some ⟨w.heap.size,0,none⟩),.pointer (some ⟨w.heap.size+1,0,none⟩),u4,.pointer (some
  ⟨w.heap.size+2,0,none⟩),.slice (some ⟨w.heap.size+3,0,none⟩) n2 n2,.pointer (some ⟨w.heap.size+4,0,none⟩),.func (.func 71) #[] #[.pointer (some ⟨w.heap.size+4,0,
  none⟩)],.int .i64 (k:Int),.pointer (some ⟨wr.heap.size,0,none⟩),.int .i64 tg,u5,u6,u7,u8,u9,ua,ub,uc,ud,ue,uf,ug,uh,ui,uj,uk,ul,um,un,
  uo,up,uq,ur,us,ut,.int .i64 6,uu,uv,uw,ux,uy,uz,ua0,ua1,ua2,ua3,ua4,ua5,ua6,ua7,ua8,ua9,uaa,uab,uac,uad,uae,uaf,uag,uah,uai,uaj,uak,
  ual,uam,uan,uao,uap,uaq,uar,uas,uat,uau,uav,uaw,uax,uay,uaz,ub0,ub1,ub2,ub3,ub4,ub5,ub6,ub7,ub8,ub9,uba,ubb,ubc,ubd,ube,ubf,ubg,ubh,ubi,ubj,
  ubk,ubl,ubm,ubn,ubo,ubp,ubq,ubr,ubs,ubt,ubu,ubv,ubw,ubx,uby,ubz,uc0,uc1,uc2,uc3,uc4,uc5,uc6,uc7,uc8,uc9,uca,ucb,ucc,ucd,
  uce,ucf,ucg,uch,uci,ucj,uck,ucl,ucm,ucn,uco,ucp,ucq,ucr,ucs,uct,ucu,ucv,ucw,ucx,ucy,ucz,ud0,ud1,ud2,ud3,ud4,ud5,ud6,ud7,
  ud8,ud9,uda,udb,udc,udd,ude,udf,udg,udh,udi,udj,udk,udl,udm,udn,udo,udp,udq,udr,uds,udt,udu,udv,udw,udx,udy,udz,ue0,ue1,
  ue2,ue3,ue4,ue5,ue6,ue7,ue8,ue9,uea,ueb,uec,ued,uee,uef,ueg,ueh,uei,uej,uek,uel,uem,uen,ueo,uep,ueq,uer,ues,uet,ueu,uev,
  uew,uex,uey,uez,uf0,uf1,uf2,uf3,uf4,uf5,uf6,uf7,uf8,uf9,ufa,ufb,ufc,ufd,ufe,uff,ufg,ufh,ufi,ufj,ufk,ufl,ufm,ufn,ufo,ufp,
  ufq,ufr,ufs,uft,ufu,ufv,ufw,ufx,ufy,ufz,ug0,ug1,ug2,ug3,ug4,ug5,ug6,ug7,ug8,ug9,uga,ugb,ugc,ugd,uge,ugf,ugg,ugh,ugi,ugj,
  ugk,ugl,ugm,ugn,ugo,ugp,ugq,ugr,ugs,ugt,ugu,ugv,ugw,ugx,ugy,ugz,uh0,uh1,uh2,uh3] []) w')
  {K9:Act->World->Prop} (hK9:∀ a w',Code.wp Tryz.prog sw9 (Exit.inBlock 2 (Exit.then KT (Exit.inBlock 1 (Exit.then K2 (Exit.inBlock 0 (Exit.then K3 (bodyPost Tryz.prog Tryz.f52 fun e w'=>xaX p T w mb (20-(d:Int)) K R e w'))))))) a w'->K9 a w') :
  Code.wp Tryz.prog xdf (Exit.then K9 (Exit.inBlock 2 (Exit.then KT (Exit.inBlock 1 (Exit.then K2 (Exit.inBlock 0 (Exit.then K3 (bodyPost Tryz.prog Tryz.f52 fun e w'=>xaX p T w mb (20-(d:Int)) K R e w')))))))) (Act.mk #[.pointer (some ⟨mb,0,none⟩),.int .i64 c,u0,u1,av,u2,u3,.pointer (some ⟨w.heap.size,0,none⟩),.pointer (some ⟨w.heap.size+1,0,none⟩),u4,.pointer (some
  ⟨w.heap.size+2,0,none⟩),.slice (some ⟨w.heap.size+3,0,none⟩) n2 n2,.pointer (some ⟨w.heap.size+4,0,none⟩),.func (.func 71) #[] #[.pointer (some ⟨w.heap.size+4,0,
  none⟩)],.int .i64 (k:Int),.pointer (some ⟨wr.heap.size,0,none⟩),.int .i64 ((k:Int)+1),u5,u6,u7,u8,u9,ua,ub,uc,ud,ue,uf,ug,uh,ui,uj,uk,
  ul,um,un,uo,up,uq,ur,us,ut,.int .i64 6,uu,uv,uw,ux,uy,uz,ua0,ua1,ua2,ua3,ua4,ua5,ua6,ua7,ua8,ua9,uaa,uab,uac,uad,uae,uaf,uag,uah,
  uai,uaj,uak,ual,uam,uan,uao,uap,uaq,uar,uas,uat,uau,uav,uaw,uax,uay,uaz,ub0,ub1,ub2,ub3,ub4,ub5,ub6,ub7,ub8,ub9,uba,ubb,ubc,ubd,ube,ubf,ubg,
  ubh,ubi,ubj,ubk,ubl,ubm,ubn,ubo,ubp,ubq,ubr,ubs,ubt,ubu,ubv,ubw,ubx,uby,ubz,uc0,uc1,uc2,uc3,uc4,uc5,uc6,uc7,uc8,uc9,uca,
  ucb,ucc,ucd,uce,ucf,ucg,uch,uci,ucj,uck,ucl,ucm,ucn,uco,ucp,ucq,ucr,ucs,uct,ucu,ucv,ucw,ucx,ucy,ucz,ud0,ud1,ud2,ud3,ud4,
  ud5,ud6,ud7,ud8,ud9,uda,udb,udc,udd,ude,udf,udg,udh,udi,udj,udk,udl,udm,udn,udo,udp,udq,udr,uds,udt,udu,udv,udw,udx,udy,
  udz,ue0,ue1,ue2,ue3,ue4,ue5,ue6,ue7,ue8,ue9,uea,ueb,uec,ued,uee,uef,ueg,ueh,uei,uej,uek,uel,uem,uen,ueo,uep,ueq,uer,ues,
  uet,ueu,uev,uew,uex,uey,uez,uf0,uf1,uf2,uf3,uf4,uf5,uf6,uf7,uf8,uf9,ufa,ufb,ufc,ufd,ufe,uff,ufg,ufh,ufi,ufj,ufk,ufl,ufm,
  ufn,ufo,ufp,ufq,ufr,ufs,uft,ufu,ufv,ufw,ufx,ufy,ufz,ug0,ug1,ug2,ug3,ug4,ug5,ug6,ug7,ug8,ug9,uga,ugb,ugc,ugd,uge,ugf,ugg,
  ugh,ugi,ugj,ugk,ugl,ugm,ugn,ugo,ugp,ugq,ugr,ugs,ugt,ugu,ugv,ugw,ugx,ugy,ugz,uh0,uh1,uh2,uh3] []) W:=by
 obtain⟨hX,hEn,HR0,HG0,HX0,HMa0,HF0,hscap,HL0,hbel,hxb,⟨aa,ca,rfl,hca⟩,ht40,HI0⟩:=H;have HR:=hid HR0;have HG:=hid HG0;have HX:=hid HX0;have HMa:=hid HMa0;have HF:=hid HF0;have HL:=hid HL0;have HB1:=hid hbel;have HI:=hid HI0;have HOP:=hid hop;have HEn:=hid hEn;have hM1:=HMa0.later hbel;have hF1:=HF0.later hbel;obtain⟨hsc1,hsc2⟩:=hscap;have hBl:w.heap.size+4<wr.heap.size:=xai HF0.sb;have hWl:wr.heap.size<=W.heap.size:=hbel.size;clear HR0 HG0 HX0 HMa0 HF0 HL0 HI0 hop hbel hEn;unfold xdf;unfold sw9 at hK9
 have HPU:Hid (xaB m.heap { f with pc:=f.pc+1 } x=some xaY):=by
  show _=_
  have hop:x.op=6:=HOP.out;unfold xaB
  simp[hop]
 have hst0:=hF1.st;have x1:=hxb.x1;have HSt:=hid hF1.stack;have hfw:=HX.out.few
 go_wp2_with (at_builtin;refine xbe rfl (.tmp 93) (.tmp 95) 28 27 _ 2 16 rfl Tryz.underlying28 xbR rfl (by omega) 0 f.stack.length (.slice sa f.stack.length sc) (xak f.stack) rfl (HSt.out.alloc _) W.heap.size rfl [.int .i64 0,.int .i64 0] rfl (heap_alloc_new _ _) (by intro u hu;simp only[List.mem_cons,List.not_mem_nil,or_false] at hu;rcases hu with h | h<;>(subst h;rfl)) (by unfold maxLen;omega) (by omega) (by omega) ?_;intro a' cap' w' r1 r2 r3 r4;have hbU:=xae HB1.out (xaj W (.cells #[.int .i64 0,.int .i64 0] 27));obtain⟨d0,df⟩:=xbM HF.out hbU r4;have R1:=hid r1;have R2:=hid r2;have R3:=hid r3;have R4:=hid r4;have HBU:=hid hbU;clear r1 r2 r3 r4 hbU)
 exact Or.inl ⟨rfl,xcy hX HR.out HG.out HX.out HPU.out HMa.out HF.out HL.out HBU.out R1.out R2.out R3.out R4.out⟩
theorem br7 {p:Rp}{d:Nat}{T T1:Nat->Nat}{w wr W:World}{mb K:Nat}{R:Mc RSt × QV × Int}{av kv:Value}{gk G':Nat}{m:Mc RSt}{f:Fr}{c:Int}{n1 n2 n3 k:Nat}{x:QI}{hv sv ov:Value}{sa:Option Addr}{sc:Nat}(H:SwC p d T w mb K R av kv gk G' c n1 n2 n3 T1 m f wr W k x hv sv ov sa sc)(hop:x.op=7)
  {u0 u1 u2 u3 u4 u5 u6 u7 u8 u9 ua ub uc ud ue uf ug uh ui uj uk ul um un uo up uq ur us ut uu uv uw ux uy uz ua0 ua1 ua2 ua3 ua4 ua5 ua6 ua7 ua8 ua9
  uaa uab uac uad uae uaf uag uah uai uaj uak ual uam uan uao uap uaq uar uas uat uau uav uaw uax uay uaz ub0 ub1 ub2 ub3 ub4 ub5 ub6 ub7 ub8 ub9 uba ubb ubc ubd ube ubf ubg ubh
  ubi ubj ubk ubl ubm ubn ubo ubp ubq ubr ubs ubt ubu ubv ubw ubx uby ubz uc0 uc1 uc2 uc3 uc4 uc5 uc6 uc7 uc8 uc9 uca ucb ucc ucd uce ucf ucg uch
  uci ucj uck ucl ucm ucn uco ucp ucq ucr ucs uct ucu ucv ucw ucx ucy ucz ud0 ud1 ud2 ud3 ud4 ud5 ud6 ud7 ud8 ud9 uda udb udc udd ude udf udg udh
  udi udj udk udl udm udn udo udp udq udr uds udt udu udv udw udx udy udz ue0 ue1 ue2 ue3 ue4 ue5 ue6 ue7 ue8 ue9 uea ueb uec ued uee uef ueg ueh
  uei uej uek uel uem uen ueo uep ueq uer ues uet ueu uev uew uex uey uez uf0 uf1 uf2 uf3 uf4 uf5 uf6 uf7 uf8 uf9 ufa ufb ufc ufd ufe uff ufg ufh
  ufi ufj ufk ufl ufm ufn ufo ufp ufq ufr ufs uft ufu ufv ufw ufx ufy ufz ug0 ug1 ug2 ug3 ug4 ug5 ug6 ug7 ug8 ug9 uga ugb ugc ugd uge ugf ugg ugh
  ugi ugj ugk ugl ugm ugn ugo ugp ugq ugr ugs ugt ugu ugv ugw ugx ugy ugz uh0 uh1 uh2 uh3:Value}
  {KT K2 K3:Act->World->Prop}
  (hN:∀ (u5 u6 u7 u8 u9 ua ub uc uu uv uw ux uy uz ua0 ua1 ua2 ua3 ua4 ua5 ua6 ua7 ua8 ua9 uaa uab uac uad uae uaf uag uah uai uaj uak ual uam uan uao uap uaq uar uas uat uau
  uav uaw uax uay uaz ub0 ub1 ub2 ub3 ub4 ub5 ub6 ub7 ub8 ub9 uba ubb ubc ubd ube ubf ubg ubh ubi ubj ubk ubl ubm ubn ubo ubp ubq ubr ubs ubt ubu ubv ubw ubx uby
  ubz uc0 uc1 uc2 uc3 uc4 uc5 uc6 uc7 uc8 uc9 uca ucb ucc ucd uce ucf ucg uch uci ucj uck ucl ucm ucn uco ucp ucq ucr ucs uct ucu ucv ucw ucx ucy
  ucz ud0 ud1 ud2 ud3 ud4 ud5 ud6 ud7 ud8 ud9 uda udb udc udd ude udf udg udh udi udj udk udl udm udn udo udp udq udr uds udt udu udv udw udx udy
  udz ue0 ue1 ue2 ue3 ue4 ue5 ue6 ue7 ue8 ue9 uea ueb uec ued uee uef ueg ueh uei uej uek uel uem uen ueo uep ueq uer ues uet ueu uev uew uex uey
  uez uf0 uf1 uf2 uf3 uf4 uf5 uf6 uf7 uf8 uf9 ufa ufb ufc ufd ufe uff ufg ufh ufi ufj ufk ufl ufm ufn ufo ufp ufq ufr ufs uft ufu ufv ufw ufx ufy
  ufz ug0 ug1 ug2 ug3 ug4 ug5 ug6 ug7 ug8 ug9 uga ugb ugc ugd uge ugf ugg ugh ugi ugj:Value) (tg:Int) (w':World),xgn p d T w mb K R av kv G' c n1 n2 n3 T1 m f wr k x tg w'->KT (Act.mk #[.pointer (some ⟨mb,0,none⟩),.int .i64 c,u0,u1,av,u2,u3,.pointer (some ⟨w.heap.size,0,none⟩),.pointer (some ⟨w.heap.size+1,0,none⟩),u4,.pointer (some
  ⟨w.heap.size+2,0,none⟩),.slice (some ⟨w.heap.size+3,0,none⟩) n2 n2,.pointer (some ⟨w.heap.size+4,0,none⟩),.func (.func 71) #[] #[.pointer (some ⟨w.heap.size+4,0,
  none⟩)],.int .i64 (k:Int),.pointer (some ⟨wr.heap.size,0,none⟩),.int .i64 tg,u5,u6,u7,u8,u9,ua,ub,uc,ud,ue,uf,ug,uh,ui,uj,uk,ul,um,un,
  uo,up,uq,ur,us,ut,.int .i64 7,uu,uv,uw,ux,uy,uz,ua0,ua1,ua2,ua3,ua4,ua5,ua6,ua7,ua8,ua9,uaa,uab,uac,uad,uae,uaf,uag,uah,uai,uaj,uak,
  ual,uam,uan,uao,uap,uaq,uar,uas,uat,uau,uav,uaw,uax,uay,uaz,ub0,ub1,ub2,ub3,ub4,ub5,ub6,ub7,ub8,ub9,uba,ubb,ubc,ubd,ube,ubf,ubg,ubh,ubi,ubj,
  ubk,ubl,ubm,ubn,ubo,ubp,ubq,ubr,ubs,ubt,ubu,ubv,ubw,ubx,uby,ubz,uc0,uc1,uc2,uc3,uc4,uc5,uc6,uc7,uc8,uc9,uca,ucb,ucc,ucd,
  uce,ucf,ucg,uch,uci,ucj,uck,ucl,ucm,ucn,uco,ucp,ucq,ucr,ucs,uct,ucu,ucv,ucw,ucx,ucy,ucz,ud0,ud1,ud2,ud3,ud4,ud5,ud6,ud7,
  ud8,ud9,uda,udb,udc,udd,ude,udf,udg,udh,udi,udj,udk,udl,udm,udn,udo,udp,udq,udr,uds,udt,udu,udv,udw,udx,udy,udz,ue0,ue1,
  ue2,ue3,ue4,ue5,ue6,ue7,ue8,ue9,uea,ueb,uec,ued,uee,uef,ueg,ueh,uei,uej,uek,uel,uem,uen,ueo,uep,ueq,uer,ues,uet,ueu,uev,
  uew,uex,uey,uez,uf0,uf1,uf2,uf3,uf4,uf5,uf6,uf7,uf8,uf9,ufa,ufb,ufc,ufd,ufe,uff,ufg,ufh,ufi,ufj,ufk,ufl,ufm,ufn,ufo,ufp,
  ufq,ufr,ufs,uft,ufu,ufv,ufw,ufx,ufy,ufz,ug0,ug1,ug2,ug3,ug4,ug5,ug6,ug7,ug8,ug9,uga,ugb,ugc,ugd,uge,ugf,ugg,ugh,ugi,ugj,
  ugk,ugl,ugm,ugn,ugo,ugp,ugq,ugr,ugs,ugt,ugu,ugv,ugw,ugx,ugy,ugz,uh0,uh1,uh2,uh3] []) w')
  {K9:Act->World->Prop} (hK9:∀ a w',Code.wp Tryz.prog sw9 (Exit.inBlock 2 (Exit.then KT (Exit.inBlock 1 (Exit.then K2 (Exit.inBlock 0 (Exit.then K3 (bodyPost Tryz.prog Tryz.f52 fun e w'=>xaX p T w mb (20-(d:Int)) K R e w'))))))) a w'->K9 a w') :
  Code.wp Tryz.prog xdf (Exit.then K9 (Exit.inBlock 2 (Exit.then KT (Exit.inBlock 1 (Exit.then K2 (Exit.inBlock 0 (Exit.then K3 (bodyPost Tryz.prog Tryz.f52 fun e w'=>xaX p T w mb (20-(d:Int)) K R e w')))))))) (Act.mk #[.pointer (some ⟨mb,0,none⟩),.int .i64 c,u0,u1,av,u2,u3,.pointer (some ⟨w.heap.size,0,none⟩),.pointer (some ⟨w.heap.size+1,0,none⟩),u4,.pointer (some
  ⟨w.heap.size+2,0,none⟩),.slice (some ⟨w.heap.size+3,0,none⟩) n2 n2,.pointer (some ⟨w.heap.size+4,0,none⟩),.func (.func 71) #[] #[.pointer (some ⟨w.heap.size+4,0,
  none⟩)],.int .i64 (k:Int),.pointer (some ⟨wr.heap.size,0,none⟩),.int .i64 ((k:Int)+1),u5,u6,u7,u8,u9,ua,ub,uc,ud,ue,uf,ug,uh,ui,uj,uk,
  ul,um,un,uo,up,uq,ur,us,ut,.int .i64 7,uu,uv,uw,ux,uy,uz,ua0,ua1,ua2,ua3,ua4,ua5,ua6,ua7,ua8,ua9,uaa,uab,uac,uad,uae,uaf,uag,uah,
  uai,uaj,uak,ual,uam,uan,uao,uap,uaq,uar,uas,uat,uau,uav,uaw,uax,uay,uaz,ub0,ub1,ub2,ub3,ub4,ub5,ub6,ub7,ub8,ub9,uba,ubb,ubc,ubd,ube,ubf,ubg,
  ubh,ubi,ubj,ubk,ubl,ubm,ubn,ubo,ubp,ubq,ubr,ubs,ubt,ubu,ubv,ubw,ubx,uby,ubz,uc0,uc1,uc2,uc3,uc4,uc5,uc6,uc7,uc8,uc9,uca,
  ucb,ucc,ucd,uce,ucf,ucg,uch,uci,ucj,uck,ucl,ucm,ucn,uco,ucp,ucq,ucr,ucs,uct,ucu,ucv,ucw,ucx,ucy,ucz,ud0,ud1,ud2,ud3,ud4,
  ud5,ud6,ud7,ud8,ud9,uda,udb,udc,udd,ude,udf,udg,udh,udi,udj,udk,udl,udm,udn,udo,udp,udq,udr,uds,udt,udu,udv,udw,udx,udy,
  udz,ue0,ue1,ue2,ue3,ue4,ue5,ue6,ue7,ue8,ue9,uea,ueb,uec,ued,uee,uef,ueg,ueh,uei,uej,uek,uel,uem,uen,ueo,uep,ueq,uer,ues,
  uet,ueu,uev,uew,uex,uey,uez,uf0,uf1,uf2,uf3,uf4,uf5,uf6,uf7,uf8,uf9,ufa,ufb,ufc,ufd,ufe,uff,ufg,ufh,ufi,ufj,ufk,ufl,ufm,
  ufn,ufo,ufp,ufq,ufr,ufs,uft,ufu,ufv,ufw,ufx,ufy,ufz,ug0,ug1,ug2,ug3,ug4,ug5,ug6,ug7,ug8,ug9,uga,ugb,ugc,ugd,uge,ugf,ugg,
  ugh,ugi,ugj,ugk,ugl,ugm,ugn,ugo,ugp,ugq,ugr,ugs,ugt,ugu,ugv,ugw,ugx,ugy,ugz,uh0,uh1,uh2,uh3] []) W:=by
 obtain⟨hX,hEn,HR0,HG0,HX0,HMa0,HF0,hscap,HL0,hbel,hxb,⟨aa,ca,rfl,hca⟩,ht40,HI0⟩:=H;have HR:=hid HR0;have HG:=hid HG0;have HX:=hid HX0;have HMa:=hid HMa0;have HF:=hid HF0;have HL:=hid HL0;have HB1:=hid hbel;have HI:=hid HI0;have HOP:=hid hop;have HEn:=hid hEn;have hM1:=HMa0.later hbel;have hF1:=HF0.later hbel;obtain⟨hsc1,hsc2⟩:=hscap;have hBl:w.heap.size+4<wr.heap.size:=xai HF0.sb;have hWl:wr.heap.size<=W.heap.size:=hbel.size;clear HR0 HG0 HX0 HMa0 HF0 HL0 HI0 hop hbel hEn;unfold xdf;unfold sw9 at hK9;have hfw:=HX.out.few
 have HPU:Hid (xaB m.heap { f with pc:=f.pc+1 } x=some ⟨1,0⟩):=by
  show _=_
  have hop:x.op=7:=HOP.out;unfold xaB
  simp[hop]
 have hS0:=pcS (hF1.st) (hxb.x1) (PcS.mk hM1 hF1 HB1.out) (Below.refl _ W).drew
 go_upto_region 22 with (fail)
 go_region_law (first
  | (refine xa0 rfl 70 (.func 70) #[.const (.bool false)] _ rfl #[] rfl #[.bool false] (by simp[Act.eval,Act.put]) (vf46 _ _) ?_;refine (xed false _).mono ?_;rintro e wc ⟨rfl,hbc⟩;refine⟨_,rfl,?_⟩;have hS1:=pcL hS0 hbc;obtain⟨hst1,hx1,hP⟩:=id hS1;have hst1a:=qzA (xaj wc (.cells #[.int .i64 1,.int .i64 0] 27)) hst1)
  | (have hst:ownsAt (wc.alloc (.cells #[.int .i64 1,.int .i64 0] 27)) 0 27 2 (.slice sa f.stack.length sc) f.stack.length (xak f.stack):=(hP.fr.stack.alloc _);obtain⟨v',w',hrun,r1,r2,r3,r4⟩:=xaE (w:=wc.alloc (.cells #[.int .i64 1,.int .i64 0] 27)) 28 28 27 _ 2 16 Tryz.underlying28 xbR rfl (by omega) 0 f.stack.length (.slice sa f.stack.length sc) (xak f.stack) hst wc.heap.size [.int .i64 1,.int .i64 0] rfl (heap_alloc_new wc _) (by intro u hu;simp only[List.mem_cons,List.not_mem_nil,or_false] at hu;rcases hu with h | h<;>(subst h;rfl)) (by unfold maxLen;omega) (by omega) (by omega);obtain⟨a',cap',rfl,-⟩:=r1.form;have hbU:Below wr.heap.size wr (wc.alloc (.cells #[.int .i64 1,.int .i64 0] 27)):=xae hP.bel (xaj _ _);obtain⟨d0,df⟩:=xbM HF.out hbU r4;have R1:=hid r1;have R2:=hid r2;have R3:=hid r3;have R4:=hid r4;have HBU:=hid hbU;clear r1 r2 r3 r4 hbU hst;refine xar rfl (.tmp 99) (.tmp 101) 28 rfl (.slice sa f.stack.length sc) (.slice (some ⟨wc.heap.size,0,none⟩) 1 1) (.slice a' (f.stack.length+1) cap') (by simp[Act.eval,Act.put]) (by simp[Act.eval,Act.put]) hrun ?_))
 all_goals (
  go_wp2
  exact Or.inl ⟨rfl,xcy hX HR.out HG.out HX.out HPU.out HMa.out HF.out HL.out HBU.out R1.out R2.out R3.out R4.out⟩)
theorem br8 {p:Rp}{d:Nat}{T T1:Nat->Nat}{w wr W:World}{mb K:Nat}{R:Mc RSt × QV × Int}{av kv:Value}{gk G':Nat}{m:Mc RSt}{f:Fr}{c:Int}{n1 n2 n3 k:Nat}{x:QI}{hv sv ov:Value}{sa:Option Addr}{sc:Nat}(H:SwC p d T w mb K R av kv gk G' c n1 n2 n3 T1 m f wr W k x hv sv ov sa sc)(hop:x.op=8)
  {u0 u1 u2 u3 u4 u5 u6 u7 u8 u9 ua ub uc ud ue uf ug uh ui uj uk ul um un uo up uq ur us ut uu uv uw ux uy uz ua0 ua1 ua2 ua3 ua4 ua5 ua6 ua7 ua8 ua9
  uaa uab uac uad uae uaf uag uah uai uaj uak ual uam uan uao uap uaq uar uas uat uau uav uaw uax uay uaz ub0 ub1 ub2 ub3 ub4 ub5 ub6 ub7 ub8 ub9 uba ubb ubc ubd ube ubf ubg ubh
  ubi ubj ubk ubl ubm ubn ubo ubp ubq ubr ubs ubt ubu ubv ubw ubx uby ubz uc0 uc1 uc2 uc3 uc4 uc5 uc6 uc7 uc8 uc9 uca ucb ucc ucd uce ucf ucg uch
  uci ucj uck ucl ucm ucn uco ucp ucq ucr ucs uct ucu ucv ucw ucx ucy ucz ud0 ud1 ud2 ud3 ud4 ud5 ud6 ud7 ud8 ud9 uda udb udc udd ude udf udg udh
  udi udj udk udl udm udn udo udp udq udr uds udt udu udv udw udx udy udz ue0 ue1 ue2 ue3 ue4 ue5 ue6 ue7 ue8 ue9 uea ueb uec ued uee uef ueg ueh
  uei uej uek uel uem uen ueo uep ueq uer ues uet ueu uev uew uex uey uez uf0 uf1 uf2 uf3 uf4 uf5 uf6 uf7 uf8 uf9 ufa ufb ufc ufd ufe uff ufg ufh
  ufi ufj ufk ufl ufm ufn ufo ufp ufq ufr ufs uft ufu ufv ufw ufx ufy ufz ug0 ug1 ug2 ug3 ug4 ug5 ug6 ug7 ug8 ug9 uga ugb ugc ugd uge ugf ugg ugh
  ugi ugj ugk ugl ugm ugn ugo ugp ugq ugr ugs ugt ugu ugv ugw ugx ugy ugz uh0 uh1 uh2 uh3:Value}
  {KT K2 K3:Act->World->Prop}
  (hN:∀ (u5 u6 u7 u8 u9 ua ub uc uu uv uw ux uy uz ua0 ua1 ua2 ua3 ua4 ua5 ua6 ua7 ua8 ua9 uaa uab uac uad uae uaf uag uah uai uaj uak ual uam uan uao uap uaq uar uas uat uau
  uav uaw uax uay uaz ub0 ub1 ub2 ub3 ub4 ub5 ub6 ub7 ub8 ub9 uba ubb ubc ubd ube ubf ubg ubh ubi ubj ubk ubl ubm ubn ubo ubp ubq ubr ubs ubt ubu ubv ubw ubx uby
  ubz uc0 uc1 uc2 uc3 uc4 uc5 uc6 uc7 uc8 uc9 uca ucb ucc ucd uce ucf ucg uch uci ucj uck ucl ucm ucn uco ucp ucq ucr ucs uct ucu ucv ucw ucx ucy
  ucz ud0 ud1 ud2 ud3 ud4 ud5 ud6 ud7 ud8 ud9 uda udb udc udd ude udf udg udh udi udj udk udl udm udn udo udp udq udr uds udt udu udv udw udx udy
  udz ue0 ue1 ue2 ue3 ue4 ue5 ue6 ue7 ue8 ue9 uea ueb uec ued uee uef ueg ueh uei uej uek uel uem uen ueo uep ueq uer ues uet ueu uev uew uex uey
  uez uf0 uf1 uf2 uf3 uf4 uf5 uf6 uf7 uf8 uf9 ufa ufb ufc ufd ufe uff ufg ufh ufi ufj ufk ufl ufm ufn ufo ufp ufq ufr ufs uft ufu ufv ufw ufx ufy
  ufz ug0 ug1 ug2 ug3 ug4 ug5 ug6 ug7 ug8 ug9 uga ugb ugc ugd uge ugf ugg ugh ugi ugj:Value) (tg:Int) (w':World),xgn p d T w mb K R av kv G' c n1 n2 n3 T1 m f wr k x tg w'->KT (Act.mk #[.pointer (some ⟨mb,0,none⟩),.int .i64 c,u0,u1,av,u2,u3,.pointer (some ⟨w.heap.size,0,none⟩),.pointer (some ⟨w.heap.size+1,0,none⟩),u4,.pointer (some
  ⟨w.heap.size+2,0,none⟩),.slice (some ⟨w.heap.size+3,0,none⟩) n2 n2,.pointer (some ⟨w.heap.size+4,0,none⟩),.func (.func 71) #[] #[.pointer (some ⟨w.heap.size+4,0,
  none⟩)],.int .i64 (k:Int),.pointer (some ⟨wr.heap.size,0,none⟩),.int .i64 tg,u5,u6,u7,u8,u9,ua,ub,uc,ud,ue,uf,ug,uh,ui,uj,uk,ul,um,un,
  uo,up,uq,ur,us,ut,.int .i64 8,uu,uv,uw,ux,uy,uz,ua0,ua1,ua2,ua3,ua4,ua5,ua6,ua7,ua8,ua9,uaa,uab,uac,uad,uae,uaf,uag,uah,uai,uaj,uak,
  ual,uam,uan,uao,uap,uaq,uar,uas,uat,uau,uav,uaw,uax,uay,uaz,ub0,ub1,ub2,ub3,ub4,ub5,ub6,ub7,ub8,ub9,uba,ubb,ubc,ubd,ube,ubf,ubg,ubh,ubi,ubj,
  ubk,ubl,ubm,ubn,ubo,ubp,ubq,ubr,ubs,ubt,ubu,ubv,ubw,ubx,uby,ubz,uc0,uc1,uc2,uc3,uc4,uc5,uc6,uc7,uc8,uc9,uca,ucb,ucc,ucd,
  uce,ucf,ucg,uch,uci,ucj,uck,ucl,ucm,ucn,uco,ucp,ucq,ucr,ucs,uct,ucu,ucv,ucw,ucx,ucy,ucz,ud0,ud1,ud2,ud3,ud4,ud5,ud6,ud7,
  ud8,ud9,uda,udb,udc,udd,ude,udf,udg,udh,udi,udj,udk,udl,udm,udn,udo,udp,udq,udr,uds,udt,udu,udv,udw,udx,udy,udz,ue0,ue1,
  ue2,ue3,ue4,ue5,ue6,ue7,ue8,ue9,uea,ueb,uec,ued,uee,uef,ueg,ueh,uei,uej,uek,uel,uem,uen,ueo,uep,ueq,uer,ues,uet,ueu,uev,
  uew,uex,uey,uez,uf0,uf1,uf2,uf3,uf4,uf5,uf6,uf7,uf8,uf9,ufa,ufb,ufc,ufd,ufe,uff,ufg,ufh,ufi,ufj,ufk,ufl,ufm,ufn,ufo,ufp,
  ufq,ufr,ufs,uft,ufu,ufv,ufw,ufx,ufy,ufz,ug0,ug1,ug2,ug3,ug4,ug5,ug6,ug7,ug8,ug9,uga,ugb,ugc,ugd,uge,ugf,ugg,ugh,ugi,ugj,
  ugk,ugl,ugm,ugn,ugo,ugp,ugq,ugr,ugs,ugt,ugu,ugv,ugw,ugx,ugy,ugz,uh0,uh1,uh2,uh3] []) w')
  {K9:Act->World->Prop} (hK9:∀ a w',Code.wp Tryz.prog sw9 (Exit.inBlock 2 (Exit.then KT (Exit.inBlock 1 (Exit.then K2 (Exit.inBlock 0 (Exit.then K3 (bodyPost Tryz.prog Tryz.f52 fun e w'=>xaX p T w mb (20-(d:Int)) K R e w'))))))) a w'->K9 a w') :
  Code.wp Tryz.prog xdf (Exit.then K9 (Exit.inBlock 2 (Exit.then KT (Exit.inBlock 1 (Exit.then K2 (Exit.inBlock 0 (Exit.then K3 (bodyPost Tryz.prog Tryz.f52 fun e w'=>xaX p T w mb (20-(d:Int)) K R e w')))))))) (Act.mk #[.pointer (some ⟨mb,0,none⟩),.int .i64 c,u0,u1,av,u2,u3,.pointer (some ⟨w.heap.size,0,none⟩),.pointer (some ⟨w.heap.size+1,0,none⟩),u4,.pointer (some
  ⟨w.heap.size+2,0,none⟩),.slice (some ⟨w.heap.size+3,0,none⟩) n2 n2,.pointer (some ⟨w.heap.size+4,0,none⟩),.func (.func 71) #[] #[.pointer (some ⟨w.heap.size+4,0,
  none⟩)],.int .i64 (k:Int),.pointer (some ⟨wr.heap.size,0,none⟩),.int .i64 ((k:Int)+1),u5,u6,u7,u8,u9,ua,ub,uc,ud,ue,uf,ug,uh,ui,uj,uk,
  ul,um,un,uo,up,uq,ur,us,ut,.int .i64 8,uu,uv,uw,ux,uy,uz,ua0,ua1,ua2,ua3,ua4,ua5,ua6,ua7,ua8,ua9,uaa,uab,uac,uad,uae,uaf,uag,uah,
  uai,uaj,uak,ual,uam,uan,uao,uap,uaq,uar,uas,uat,uau,uav,uaw,uax,uay,uaz,ub0,ub1,ub2,ub3,ub4,ub5,ub6,ub7,ub8,ub9,uba,ubb,ubc,ubd,ube,ubf,ubg,
  ubh,ubi,ubj,ubk,ubl,ubm,ubn,ubo,ubp,ubq,ubr,ubs,ubt,ubu,ubv,ubw,ubx,uby,ubz,uc0,uc1,uc2,uc3,uc4,uc5,uc6,uc7,uc8,uc9,uca,
  ucb,ucc,ucd,uce,ucf,ucg,uch,uci,ucj,uck,ucl,ucm,ucn,uco,ucp,ucq,ucr,ucs,uct,ucu,ucv,ucw,ucx,ucy,ucz,ud0,ud1,ud2,ud3,ud4,
  ud5,ud6,ud7,ud8,ud9,uda,udb,udc,udd,ude,udf,udg,udh,udi,udj,udk,udl,udm,udn,udo,udp,udq,udr,uds,udt,udu,udv,udw,udx,udy,
  udz,ue0,ue1,ue2,ue3,ue4,ue5,ue6,ue7,ue8,ue9,uea,ueb,uec,ued,uee,uef,ueg,ueh,uei,uej,uek,uel,uem,uen,ueo,uep,ueq,uer,ues,
  uet,ueu,uev,uew,uex,uey,uez,uf0,uf1,uf2,uf3,uf4,uf5,uf6,uf7,uf8,uf9,ufa,ufb,ufc,ufd,ufe,uff,ufg,ufh,ufi,ufj,ufk,ufl,ufm,
  ufn,ufo,ufp,ufq,ufr,ufs,uft,ufu,ufv,ufw,ufx,ufy,ufz,ug0,ug1,ug2,ug3,ug4,ug5,ug6,ug7,ug8,ug9,uga,ugb,ugc,ugd,uge,ugf,ugg,
  ugh,ugi,ugj,ugk,ugl,ugm,ugn,ugo,ugp,ugq,ugr,ugs,ugt,ugu,ugv,ugw,ugx,ugy,ugz,uh0,uh1,uh2,uh3] []) W:=by
 obtain⟨hX,hEn,HR0,HG0,HX0,HMa0,HF0,hscap,HL0,hbel,hxb,⟨aa,ca,rfl,hca⟩,ht40,HI0⟩:=H;have HR:=hid HR0;have HG:=hid HG0;have HX:=hid HX0;have HMa:=hid HMa0;have HF:=hid HF0;have HL:=hid HL0;have HB1:=hid hbel;have HI:=hid HI0;have HOP:=hid hop;have HEn:=hid hEn;have hM1:=HMa0.later hbel;have hF1:=HF0.later hbel;obtain⟨hsc1,hsc2⟩:=hscap;have hBl:w.heap.size+4<wr.heap.size:=xai HF0.sb;have hWl:wr.heap.size<=W.heap.size:=hbel.size;clear HR0 HG0 HX0 HMa0 HF0 HL0 HI0 hop hbel hEn;unfold xdf;unfold sw9 at hK9;have hfw:=HX.out.few
 have HPU:Hid (xaB m.heap { f with pc:=f.pc+1 } x=some ⟨2,0⟩):=by
  show _=_
  have hop:x.op=8:=HOP.out;unfold xaB
  simp[hop]
 have hS0:=pcS (hF1.st) (hxb.x1) (PcS.mk hM1 hF1 HB1.out) (Below.refl _ W).drew
 go_upto_region 24 with (fail)
 go_region_law (first
  | (refine xa0 rfl 70 (.func 70) #[.const (.bool true)] _ rfl #[] rfl #[.bool true] (by simp[Act.eval,Act.put]) (vf46 _ _) ?_;refine (xed true _).mono ?_;rintro e wc ⟨rfl,hbc⟩;refine⟨_,rfl,?_⟩;have hS1:=pcL hS0 hbc;obtain⟨hst1,hx1,hP⟩:=id hS1;have hst1a:=qzA (xaj wc (.cells #[.int .i64 2,.int .i64 0] 27)) hst1)
  | (have hst:ownsAt (wc.alloc (.cells #[.int .i64 2,.int .i64 0] 27)) 0 27 2 (.slice sa f.stack.length sc) f.stack.length (xak f.stack):=(hP.fr.stack.alloc _);obtain⟨v',w',hrun,r1,r2,r3,r4⟩:=xaE (w:=wc.alloc (.cells #[.int .i64 2,.int .i64 0] 27)) 28 28 27 _ 2 16 Tryz.underlying28 xbR rfl (by omega) 0 f.stack.length (.slice sa f.stack.length sc) (xak f.stack) hst wc.heap.size [.int .i64 2,.int .i64 0] rfl (heap_alloc_new wc _) (by intro u hu;simp only[List.mem_cons,List.not_mem_nil,or_false] at hu;rcases hu with h | h<;>(subst h;rfl)) (by unfold maxLen;omega) (by omega) (by omega);obtain⟨a',cap',rfl,-⟩:=r1.form;have hbU:Below wr.heap.size wr (wc.alloc (.cells #[.int .i64 2,.int .i64 0] 27)):=xae hP.bel (xaj _ _);obtain⟨d0,df⟩:=xbM HF.out hbU r4;have R1:=hid r1;have R2:=hid r2;have R3:=hid r3;have R4:=hid r4;have HBU:=hid hbU;clear r1 r2 r3 r4 hbU hst;refine xar rfl (.tmp 105) (.tmp 107) 28 rfl (.slice sa f.stack.length sc) (.slice (some ⟨wc.heap.size,0,none⟩) 1 1) (.slice a' (f.stack.length+1) cap') (by simp[Act.eval,Act.put]) (by simp[Act.eval,Act.put]) hrun ?_))
 all_goals (
  go_wp2
  exact Or.inl ⟨rfl,xcy hX HR.out HG.out HX.out HPU.out HMa.out HF.out HL.out HBU.out R1.out R2.out R3.out R4.out⟩)
theorem br9 {p:Rp}{d:Nat}{T T1:Nat->Nat}{w wr W:World}{mb K:Nat}{R:Mc RSt × QV × Int}{av kv:Value}{gk G':Nat}{m:Mc RSt}{f:Fr}{c:Int}{n1 n2 n3 k:Nat}{x:QI}{hv sv ov:Value}{sa:Option Addr}{sc:Nat}(H:SwC p d T w mb K R av kv gk G' c n1 n2 n3 T1 m f wr W k x hv sv ov sa sc)(hop:x.op=9)
  {u0 u1 u2 u3 u4 u5 u6 u7 u8 u9 ua ub uc ud ue uf ug uh ui uj uk ul um un uo up uq ur us ut uu uv uw ux uy uz ua0 ua1 ua2 ua3 ua4 ua5 ua6 ua7 ua8 ua9
  uaa uab uac uad uae uaf uag uah uai uaj uak ual uam uan uao uap uaq uar uas uat uau uav uaw uax uay uaz ub0 ub1 ub2 ub3 ub4 ub5 ub6 ub7 ub8 ub9 uba ubb ubc ubd ube ubf ubg ubh
  ubi ubj ubk ubl ubm ubn ubo ubp ubq ubr ubs ubt ubu ubv ubw ubx uby ubz uc0 uc1 uc2 uc3 uc4 uc5 uc6 uc7 uc8 uc9 uca ucb ucc ucd uce ucf ucg uch
  uci ucj uck ucl ucm ucn uco ucp ucq ucr ucs uct ucu ucv ucw ucx ucy ucz ud0 ud1 ud2 ud3 ud4 ud5 ud6 ud7 ud8 ud9 uda udb udc udd ude udf udg udh
  udi udj udk udl udm udn udo udp udq udr uds udt udu udv udw udx udy udz ue0 ue1 ue2 ue3 ue4 ue5 ue6 ue7 ue8 ue9 uea ueb uec ued uee uef ueg ueh
  uei uej uek uel uem uen ueo uep ueq uer ues uet ueu uev uew uex uey uez uf0 uf1 uf2 uf3 uf4 uf5 uf6 uf7 uf8 uf9 ufa ufb ufc ufd ufe uff ufg ufh
  ufi ufj ufk ufl ufm ufn ufo ufp ufq ufr ufs uft ufu ufv ufw ufx ufy ufz ug0 ug1 ug2 ug3 ug4 ug5 ug6 ug7 ug8 ug9 uga ugb ugc ugd uge ugf ugg ugh
  ugi ugj ugk ugl ugm ugn ugo ugp ugq ugr ugs ugt ugu ugv ugw ugx ugy ugz uh0 uh1 uh2 uh3:Value}
  {KT K2 K3:Act->World->Prop}
  (hN:∀ (u5 u6 u7 u8 u9 ua ub uc uu uv uw ux uy uz ua0 ua1 ua2 ua3 ua4 ua5 ua6 ua7 ua8 ua9 uaa uab uac uad uae uaf uag uah uai uaj uak ual uam uan uao uap uaq uar uas uat uau
  uav uaw uax uay uaz ub0 ub1 ub2 ub3 ub4 ub5 ub6 ub7 ub8 ub9 uba ubb ubc ubd ube ubf ubg ubh ubi ubj ubk ubl ubm ubn ubo ubp ubq ubr ubs ubt ubu ubv ubw ubx uby
  ubz uc0 uc1 uc2 uc3 uc4 uc5 uc6 uc7 uc8 uc9 uca ucb ucc ucd uce ucf ucg uch uci ucj uck ucl ucm ucn uco ucp ucq ucr ucs uct ucu ucv ucw ucx ucy
  ucz ud0 ud1 ud2 ud3 ud4 ud5 ud6 ud7 ud8 ud9 uda udb udc udd ude udf udg udh udi udj udk udl udm udn udo udp udq udr uds udt udu udv udw udx udy
  udz ue0 ue1 ue2 ue3 ue4 ue5 ue6 ue7 ue8 ue9 uea ueb uec ued uee uef ueg ueh uei uej uek uel uem uen ueo uep ueq uer ues uet ueu uev uew uex uey
  uez uf0 uf1 uf2 uf3 uf4 uf5 uf6 uf7 uf8 uf9 ufa ufb ufc ufd ufe uff ufg ufh ufi ufj ufk ufl ufm ufn ufo ufp ufq ufr ufs uft ufu ufv ufw ufx ufy
  ufz ug0 ug1 ug2 ug3 ug4 ug5 ug6 ug7 ug8 ug9 uga ugb ugc ugd uge ugf ugg ugh ugi ugj:Value) (tg:Int) (w':World),xgn p d T w mb K R av kv G' c n1 n2 n3 T1 m f wr k x tg w'->KT (Act.mk #[.pointer (some ⟨mb,0,none⟩),.int .i64 c,u0,u1,av,u2,u3,.pointer (some ⟨w.heap.size,0,none⟩),.pointer (some ⟨w.heap.size+1,0,none⟩),u4,.pointer (some
  ⟨w.heap.size+2,0,none⟩),.slice (some ⟨w.heap.size+3,0,none⟩) n2 n2,.pointer (some ⟨w.heap.size+4,0,none⟩),.func (.func 71) #[] #[.pointer (some ⟨w.heap.size+4,0,
  none⟩)],.int .i64 (k:Int),.pointer (some ⟨wr.heap.size,0,none⟩),.int .i64 tg,u5,u6,u7,u8,u9,ua,ub,uc,ud,ue,uf,ug,uh,ui,uj,uk,ul,um,un,
  uo,up,uq,ur,us,ut,.int .i64 9,uu,uv,uw,ux,uy,uz,ua0,ua1,ua2,ua3,ua4,ua5,ua6,ua7,ua8,ua9,uaa,uab,uac,uad,uae,uaf,uag,uah,uai,uaj,uak,
  ual,uam,uan,uao,uap,uaq,uar,uas,uat,uau,uav,uaw,uax,uay,uaz,ub0,ub1,ub2,ub3,ub4,ub5,ub6,ub7,ub8,ub9,uba,ubb,ubc,ubd,ube,ubf,ubg,ubh,ubi,ubj,
  ubk,ubl,ubm,ubn,ubo,ubp,ubq,ubr,ubs,ubt,ubu,ubv,ubw,ubx,uby,ubz,uc0,uc1,uc2,uc3,uc4,uc5,uc6,uc7,uc8,uc9,uca,ucb,ucc,ucd,
  uce,ucf,ucg,uch,uci,ucj,uck,ucl,ucm,ucn,uco,ucp,ucq,ucr,ucs,uct,ucu,ucv,ucw,ucx,ucy,ucz,ud0,ud1,ud2,ud3,ud4,ud5,ud6,ud7,
  ud8,ud9,uda,udb,udc,udd,ude,udf,udg,udh,udi,udj,udk,udl,udm,udn,udo,udp,udq,udr,uds,udt,udu,udv,udw,udx,udy,udz,ue0,ue1,
  ue2,ue3,ue4,ue5,ue6,ue7,ue8,ue9,uea,ueb,uec,ued,uee,uef,ueg,ueh,uei,uej,uek,uel,uem,uen,ueo,uep,ueq,uer,ues,uet,ueu,uev,
  uew,uex,uey,uez,uf0,uf1,uf2,uf3,uf4,uf5,uf6,uf7,uf8,uf9,ufa,ufb,ufc,ufd,ufe,uff,ufg,ufh,ufi,ufj,ufk,ufl,ufm,ufn,ufo,ufp,
  ufq,ufr,ufs,uft,ufu,ufv,ufw,ufx,ufy,ufz,ug0,ug1,ug2,ug3,ug4,ug5,ug6,ug7,ug8,ug9,uga,ugb,ugc,ugd,uge,ugf,ugg,ugh,ugi,ugj,
  ugk,ugl,ugm,ugn,ugo,ugp,ugq,ugr,ugs,ugt,ugu,ugv,ugw,ugx,ugy,ugz,uh0,uh1,uh2,uh3] []) w')
  {K9:Act->World->Prop} (hK9:∀ a w',Code.wp Tryz.prog sw9 (Exit.inBlock 2 (Exit.then KT (Exit.inBlock 1 (Exit.then K2 (Exit.inBlock 0 (Exit.then K3 (bodyPost Tryz.prog Tryz.f52 fun e w'=>xaX p T w mb (20-(d:Int)) K R e w'))))))) a w'->K9 a w') :
  Code.wp Tryz.prog xdf (Exit.then K9 (Exit.inBlock 2 (Exit.then KT (Exit.inBlock 1 (Exit.then K2 (Exit.inBlock 0 (Exit.then K3 (bodyPost Tryz.prog Tryz.f52 fun e w'=>xaX p T w mb (20-(d:Int)) K R e w')))))))) (Act.mk #[.pointer (some ⟨mb,0,none⟩),.int .i64 c,u0,u1,av,u2,u3,.pointer (some ⟨w.heap.size,0,none⟩),.pointer (some ⟨w.heap.size+1,0,none⟩),u4,.pointer (some
  ⟨w.heap.size+2,0,none⟩),.slice (some ⟨w.heap.size+3,0,none⟩) n2 n2,.pointer (some ⟨w.heap.size+4,0,none⟩),.func (.func 71) #[] #[.pointer (some ⟨w.heap.size+4,0,
  none⟩)],.int .i64 (k:Int),.pointer (some ⟨wr.heap.size,0,none⟩),.int .i64 ((k:Int)+1),u5,u6,u7,u8,u9,ua,ub,uc,ud,ue,uf,ug,uh,ui,uj,uk,
  ul,um,un,uo,up,uq,ur,us,ut,.int .i64 9,uu,uv,uw,ux,uy,uz,ua0,ua1,ua2,ua3,ua4,ua5,ua6,ua7,ua8,ua9,uaa,uab,uac,uad,uae,uaf,uag,uah,
  uai,uaj,uak,ual,uam,uan,uao,uap,uaq,uar,uas,uat,uau,uav,uaw,uax,uay,uaz,ub0,ub1,ub2,ub3,ub4,ub5,ub6,ub7,ub8,ub9,uba,ubb,ubc,ubd,ube,ubf,ubg,
  ubh,ubi,ubj,ubk,ubl,ubm,ubn,ubo,ubp,ubq,ubr,ubs,ubt,ubu,ubv,ubw,ubx,uby,ubz,uc0,uc1,uc2,uc3,uc4,uc5,uc6,uc7,uc8,uc9,uca,
  ucb,ucc,ucd,uce,ucf,ucg,uch,uci,ucj,uck,ucl,ucm,ucn,uco,ucp,ucq,ucr,ucs,uct,ucu,ucv,ucw,ucx,ucy,ucz,ud0,ud1,ud2,ud3,ud4,
  ud5,ud6,ud7,ud8,ud9,uda,udb,udc,udd,ude,udf,udg,udh,udi,udj,udk,udl,udm,udn,udo,udp,udq,udr,uds,udt,udu,udv,udw,udx,udy,
  udz,ue0,ue1,ue2,ue3,ue4,ue5,ue6,ue7,ue8,ue9,uea,ueb,uec,ued,uee,uef,ueg,ueh,uei,uej,uek,uel,uem,uen,ueo,uep,ueq,uer,ues,
  uet,ueu,uev,uew,uex,uey,uez,uf0,uf1,uf2,uf3,uf4,uf5,uf6,uf7,uf8,uf9,ufa,ufb,ufc,ufd,ufe,uff,ufg,ufh,ufi,ufj,ufk,ufl,ufm,
  ufn,ufo,ufp,ufq,ufr,ufs,uft,ufu,ufv,ufw,ufx,ufy,ufz,ug0,ug1,ug2,ug3,ug4,ug5,ug6,ug7,ug8,ug9,uga,ugb,ugc,ugd,uge,ugf,ugg,
  ugh,ugi,ugj,ugk,ugl,ugm,ugn,ugo,ugp,ugq,ugr,ugs,ugt,ugu,ugv,ugw,ugx,ugy,ugz,uh0,uh1,uh2,uh3] []) W:=by
 obtain⟨hX,hEn,HR0,HG0,HX0,HMa0,HF0,hscap,HL0,hbel,hxb,⟨aa,ca,rfl,hca⟩,ht40,HI0⟩:=H;have HR:=hid HR0;have HG:=hid HG0;have HX:=hid HX0;have HMa:=hid HMa0;have HF:=hid HF0;have HL:=hid HL0;have HB1:=hid hbel;have HI:=hid HI0;have HOP:=hid hop;have HEn:=hid hEn;have hM1:=HMa0.later hbel;have hF1:=HF0.later hbel;obtain⟨hsc1,hsc2⟩:=hscap;have hBl:w.heap.size+4<wr.heap.size:=xai HF0.sb;have hWl:wr.heap.size<=W.heap.size:=hbel.size;clear HR0 HG0 HX0 HMa0 HF0 HL0 HI0 hop hbel hEn;unfold xdf;unfold sw9 at hK9;have hneed:=HX.out.need
 have hnx:0<f.stack.length:=by
  have hop:x.op=9:=HOP.out;have hn:xaP x k=⟨1,-1,[(k:Int)+1]⟩:=by unfold xaP;rw[if_pos (by omega)]
  rw[hn] at hneed;simp only[] at hneed;omega
 go_wp2_with fail;refine (xes hF1 hnx).mono ?_;rintro e w2 ⟨rfl,⟨st',hF2⟩,hK2⟩;have HF2:=hid hF2;have HK2:=hid hK2;clear hF1 hF2 hK2 hM1;go_wp2
 exact Or.inl ⟨rfl,xoo hX HR.out HG.out HX.out (Or.inl HOP.out) HMa.out HL.out HB1.out HF2.out HK2.out⟩
theorem br10 {p:Rp}{d:Nat}{T T1:Nat->Nat}{w wr W:World}{mb K:Nat}{R:Mc RSt × QV × Int}{av kv:Value}{gk G':Nat}{m:Mc RSt}{f:Fr}{c:Int}{n1 n2 n3 k:Nat}{x:QI}{hv sv ov:Value}{sa:Option Addr}{sc:Nat}(H:SwC p d T w mb K R av kv gk G' c n1 n2 n3 T1 m f wr W k x hv sv ov sa sc)(hop:x.op=10)
  {u0 u1 u2 u3 u4 u5 u6 u7 u8 u9 ua ub uc ud ue uf ug uh ui uj uk ul um un uo up uq ur us ut uu uv uw ux uy uz ua0 ua1 ua2 ua3 ua4 ua5 ua6 ua7 ua8 ua9
  uaa uab uac uad uae uaf uag uah uai uaj uak ual uam uan uao uap uaq uar uas uat uau uav uaw uax uay uaz ub0 ub1 ub2 ub3 ub4 ub5 ub6 ub7 ub8 ub9 uba ubb ubc ubd ube ubf ubg ubh
  ubi ubj ubk ubl ubm ubn ubo ubp ubq ubr ubs ubt ubu ubv ubw ubx uby ubz uc0 uc1 uc2 uc3 uc4 uc5 uc6 uc7 uc8 uc9 uca ucb ucc ucd uce ucf ucg uch
  uci ucj uck ucl ucm ucn uco ucp ucq ucr ucs uct ucu ucv ucw ucx ucy ucz ud0 ud1 ud2 ud3 ud4 ud5 ud6 ud7 ud8 ud9 uda udb udc udd ude udf udg udh
  udi udj udk udl udm udn udo udp udq udr uds udt udu udv udw udx udy udz ue0 ue1 ue2 ue3 ue4 ue5 ue6 ue7 ue8 ue9 uea ueb uec ued uee uef ueg ueh
  uei uej uek uel uem uen ueo uep ueq uer ues uet ueu uev uew uex uey uez uf0 uf1 uf2 uf3 uf4 uf5 uf6 uf7 uf8 uf9 ufa ufb ufc ufd ufe uff ufg ufh
  ufi ufj ufk ufl ufm ufn ufo ufp ufq ufr ufs uft ufu ufv ufw ufx ufy ufz ug0 ug1 ug2 ug3 ug4 ug5 ug6 ug7 ug8 ug9 uga ugb ugc ugd uge ugf ugg ugh
  ugi ugj ugk ugl ugm ugn ugo ugp ugq ugr ugs ugt ugu ugv ugw ugx ugy ugz uh0 uh1 uh2 uh3:Value}
  {KT K2 K3:Act->World->Prop}
  (hN:∀ (u5 u6 u7 u8 u9 ua ub uc uu uv uw ux uy uz ua0 ua1 ua2 ua3 ua4 ua5 ua6 ua7 ua8 ua9 uaa uab uac uad uae uaf uag uah uai uaj uak ual uam uan uao uap uaq uar uas uat uau
  uav uaw uax uay uaz ub0 ub1 ub2 ub3 ub4 ub5 ub6 ub7 ub8 ub9 uba ubb ubc ubd ube ubf ubg ubh ubi ubj ubk ubl ubm ubn ubo ubp ubq ubr ubs ubt ubu ubv ubw ubx uby
  ubz uc0 uc1 uc2 uc3 uc4 uc5 uc6 uc7 uc8 uc9 uca ucb ucc ucd uce ucf ucg uch uci ucj uck ucl ucm ucn uco ucp ucq ucr ucs uct ucu ucv ucw ucx ucy
  ucz ud0 ud1 ud2 ud3 ud4 ud5 ud6 ud7 ud8 ud9 uda udb udc udd ude udf udg udh udi udj udk udl udm udn udo udp udq udr uds udt udu udv udw udx udy
  udz ue0 ue1 ue2 ue3 ue4 ue5 ue6 ue7 ue8 ue9 uea ueb uec ued uee uef ueg ueh uei uej uek uel uem uen ueo uep ueq uer ues uet ueu uev uew uex uey
  uez uf0 uf1 uf2 uf3 uf4 uf5 uf6 uf7 uf8 uf9 ufa ufb ufc ufd ufe uff ufg ufh ufi ufj ufk ufl ufm ufn ufo ufp ufq ufr ufs uft ufu ufv ufw ufx ufy
  ufz ug0 ug1 ug2 ug3 ug4 ug5 ug6 ug7 ug8 ug9 uga ugb ugc ugd uge ugf ugg ugh ugi ugj:Value) (tg:Int) (w':World),xgn p d T w mb K R av kv G' c n1 n2 n3 T1 m f wr k x tg w'->KT (Act.mk #[.pointer (some ⟨mb,0,none⟩),.int .i64 c,u0,u1,av,u2,u3,.pointer (some ⟨w.heap.size,0,none⟩),.pointer (some ⟨w.heap.size+1,0,none⟩),u4,.pointer (some
  ⟨w.heap.size+2,0,none⟩),.slice (some ⟨w.heap.size+3,0,none⟩) n2 n2,.pointer (some ⟨w.heap.size+4,0,none⟩),.func (.func 71) #[] #[.pointer (some ⟨w.heap.size+4,0,
  none⟩)],.int .i64 (k:Int),.pointer (some ⟨wr.heap.size,0,none⟩),.int .i64 tg,u5,u6,u7,u8,u9,ua,ub,uc,ud,ue,uf,ug,uh,ui,uj,uk,ul,um,un,
  uo,up,uq,ur,us,ut,.int .i64 10,uu,uv,uw,ux,uy,uz,ua0,ua1,ua2,ua3,ua4,ua5,ua6,ua7,ua8,ua9,uaa,uab,uac,uad,uae,uaf,uag,uah,uai,uaj,uak,
  ual,uam,uan,uao,uap,uaq,uar,uas,uat,uau,uav,uaw,uax,uay,uaz,ub0,ub1,ub2,ub3,ub4,ub5,ub6,ub7,ub8,ub9,uba,ubb,ubc,ubd,ube,ubf,ubg,ubh,ubi,ubj,
  ubk,ubl,ubm,ubn,ubo,ubp,ubq,ubr,ubs,ubt,ubu,ubv,ubw,ubx,uby,ubz,uc0,uc1,uc2,uc3,uc4,uc5,uc6,uc7,uc8,uc9,uca,ucb,ucc,ucd,
  uce,ucf,ucg,uch,uci,ucj,uck,ucl,ucm,ucn,uco,ucp,ucq,ucr,ucs,uct,ucu,ucv,ucw,ucx,ucy,ucz,ud0,ud1,ud2,ud3,ud4,ud5,ud6,ud7,
  ud8,ud9,uda,udb,udc,udd,ude,udf,udg,udh,udi,udj,udk,udl,udm,udn,udo,udp,udq,udr,uds,udt,udu,udv,udw,udx,udy,udz,ue0,ue1,
  ue2,ue3,ue4,ue5,ue6,ue7,ue8,ue9,uea,ueb,uec,ued,uee,uef,ueg,ueh,uei,uej,uek,uel,uem,uen,ueo,uep,ueq,uer,ues,uet,ueu,uev,
  uew,uex,uey,uez,uf0,uf1,uf2,uf3,uf4,uf5,uf6,uf7,uf8,uf9,ufa,ufb,ufc,ufd,ufe,uff,ufg,ufh,ufi,ufj,ufk,ufl,ufm,ufn,ufo,ufp,
  ufq,ufr,ufs,uft,ufu,ufv,ufw,ufx,ufy,ufz,ug0,ug1,ug2,ug3,ug4,ug5,ug6,ug7,ug8,ug9,uga,ugb,ugc,ugd,uge,ugf,ugg,ugh,ugi,ugj,
  ugk,ugl,ugm,ugn,ugo,ugp,ugq,ugr,ugs,ugt,ugu,ugv,ugw,ugx,ugy,ugz,uh0,uh1,uh2,uh3] []) w')
  {K9:Act->World->Prop} (hK9:∀ a w',Code.wp Tryz.prog sw9 (Exit.inBlock 2 (Exit.then KT (Exit.inBlock 1 (Exit.then K2 (Exit.inBlock 0 (Exit.then K3 (bodyPost Tryz.prog Tryz.f52 fun e w'=>xaX p T w mb (20-(d:Int)) K R e w'))))))) a w'->K9 a w') :
  Code.wp Tryz.prog xdf (Exit.then K9 (Exit.inBlock 2 (Exit.then KT (Exit.inBlock 1 (Exit.then K2 (Exit.inBlock 0 (Exit.then K3 (bodyPost Tryz.prog Tryz.f52 fun e w'=>xaX p T w mb (20-(d:Int)) K R e w')))))))) (Act.mk #[.pointer (some ⟨mb,0,none⟩),.int .i64 c,u0,u1,av,u2,u3,.pointer (some ⟨w.heap.size,0,none⟩),.pointer (some ⟨w.heap.size+1,0,none⟩),u4,.pointer (some
  ⟨w.heap.size+2,0,none⟩),.slice (some ⟨w.heap.size+3,0,none⟩) n2 n2,.pointer (some ⟨w.heap.size+4,0,none⟩),.func (.func 71) #[] #[.pointer (some ⟨w.heap.size+4,0,
  none⟩)],.int .i64 (k:Int),.pointer (some ⟨wr.heap.size,0,none⟩),.int .i64 ((k:Int)+1),u5,u6,u7,u8,u9,ua,ub,uc,ud,ue,uf,ug,uh,ui,uj,uk,
  ul,um,un,uo,up,uq,ur,us,ut,.int .i64 10,uu,uv,uw,ux,uy,uz,ua0,ua1,ua2,ua3,ua4,ua5,ua6,ua7,ua8,ua9,uaa,uab,uac,uad,uae,uaf,uag,uah,
  uai,uaj,uak,ual,uam,uan,uao,uap,uaq,uar,uas,uat,uau,uav,uaw,uax,uay,uaz,ub0,ub1,ub2,ub3,ub4,ub5,ub6,ub7,ub8,ub9,uba,ubb,ubc,ubd,ube,ubf,ubg,
  ubh,ubi,ubj,ubk,ubl,ubm,ubn,ubo,ubp,ubq,ubr,ubs,ubt,ubu,ubv,ubw,ubx,uby,ubz,uc0,uc1,uc2,uc3,uc4,uc5,uc6,uc7,uc8,uc9,uca,
  ucb,ucc,ucd,uce,ucf,ucg,uch,uci,ucj,uck,ucl,ucm,ucn,uco,ucp,ucq,ucr,ucs,uct,ucu,ucv,ucw,ucx,ucy,ucz,ud0,ud1,ud2,ud3,ud4,
  ud5,ud6,ud7,ud8,ud9,uda,udb,udc,udd,ude,udf,udg,udh,udi,udj,udk,udl,udm,udn,udo,udp,udq,udr,uds,udt,udu,udv,udw,udx,udy,
  udz,ue0,ue1,ue2,ue3,ue4,ue5,ue6,ue7,ue8,ue9,uea,ueb,uec,ued,uee,uef,ueg,ueh,uei,uej,uek,uel,uem,uen,ueo,uep,ueq,uer,ues,
  uet,ueu,uev,uew,uex,uey,uez,uf0,uf1,uf2,uf3,uf4,uf5,uf6,uf7,uf8,uf9,ufa,ufb,ufc,ufd,ufe,uff,ufg,ufh,ufi,ufj,ufk,ufl,ufm,
  ufn,ufo,ufp,ufq,ufr,ufs,uft,ufu,ufv,ufw,ufx,ufy,ufz,ug0,ug1,ug2,ug3,ug4,ug5,ug6,ug7,ug8,ug9,uga,ugb,ugc,ugd,uge,ugf,ugg,
  ugh,ugi,ugj,ugk,ugl,ugm,ugn,ugo,ugp,ugq,ugr,ugs,ugt,ugu,ugv,ugw,ugx,ugy,ugz,uh0,uh1,uh2,uh3] []) W:=by
 obtain⟨hX,hEn,HR0,HG0,HX0,HMa0,HF0,hscap,HL0,hbel,hxb,⟨aa,ca,rfl,hca⟩,ht40,HI0⟩:=H;have HR:=hid HR0;have HG:=hid HG0;have HX:=hid HX0;have HMa:=hid HMa0;have HF:=hid HF0;have HL:=hid HL0;have HB1:=hid hbel;have HI:=hid HI0;have HOP:=hid hop;have HEn:=hid hEn;have hM1:=HMa0.later hbel;have hF1:=HF0.later hbel;obtain⟨hsc1,hsc2⟩:=hscap;have hBl:w.heap.size+4<wr.heap.size:=xai HF0.sb;have hWl:wr.heap.size<=W.heap.size:=hbel.size;clear HR0 HG0 HX0 HMa0 HF0 HL0 HI0 hop hbel hEn;unfold xdf;unfold sw9 at hK9;have hneed:=HX.out.need
 have hnx:0<f.stack.length:=by
  have hop:x.op=10:=HOP.out;have hn:xaP x k=⟨1,1,[(k:Int)+1]⟩:=by unfold xaP;rw[if_neg (by omega),if_pos hop]
  rw[hn] at hneed;simp only[] at hneed;omega
 have hfw:=HX.out.few;have hp5:=hF1.pos;go_wp2_with fail;refine (xes hF1 hnx).mono ?_;rintro e w2 ⟨rfl,⟨st',hF2⟩,hK2⟩;dsimp only;obtain⟨sb,sd,rfl,hsd1,hsd2⟩:=hF2.stack.form;unfold maxLen at hsd2;have HF2:=hid hF2;have HK2:=hid hK2;have hbx:=xaj w2 (.cells #[.int .i64 f.top.k,.int .i64 f.top.n] 27);have hst2:=(hF2.later hbx).st;have b0:(w2.alloc (.cells #[.int .i64 f.top.k,.int .i64 f.top.n] 27)).cell? ⟨w2.heap.size,0,none⟩=some (.int .i64 f.top.k):=xaa _ _ _ _ rfl 0;have b1:(w2.alloc (.cells #[.int .i64 f.top.k,.int .i64 f.top.n] 27)).cell? ⟨w2.heap.size,1,none⟩=some (.int .i64 f.top.n):=xaa _ _ _ _ rfl 1
 have HF3:=hid (hF2.later hbx);have HBX:=hid hbx;clear hF1 hF2 hK2 hM1 hbx
 go_upto_region 29 with (fail)
 generalize (w2.alloc (.cells #[.int .i64 f.top.k,.int .i64 f.top.n] 27))=V at *;have hpl:f.pop.stack.length+1=f.stack.length:=by unfold Fr.pop;simp;omega
 go_wp2_with (at_builtin;refine xez rfl (.tmp 117) (.tmp 120) 28 27 _ 2 16 rfl Tryz.underlying28 xbR rfl (by omega) 0 f.pop.stack.length (.slice sb f.pop.stack.length sd) (xak f.pop.stack) rfl (HF3.out.stack.alloc _) V.heap.size rfl [.int .i64 f.top.k,.int .i64 f.top.n,.int .i64 f.top.k,.int .i64 f.top.n] rfl (heap_alloc_new _ _) (by intro u hu;simp only[List.mem_cons,List.not_mem_nil,or_false] at hu;rcases hu with h | h | h | h<;>(subst h;rfl)) (by unfold maxLen;omega) (by omega) (by omega) ?_;intro a' cap' w' r1 r2 r3 r4;have hbU:=xae HBX.out (xaj V (.cells #[.int .i64 f.top.k,.int .i64 f.top.n,.int .i64 f.top.k,.int .i64 f.top.n] 27));obtain⟨d0,df⟩:=xbM HF2.out hbU r4;have R1:=hid r1;have R2:=hid r2;have R3:=hid r3;have R4:=hid r4;have HBU:=hid hbU;clear r1 r2 r3 r4 hbU)
 exact Or.inl ⟨rfl,xoF hX HR.out HG.out HX.out HOP.out HMa.out HL.out hnx HB1.out HF2.out HK2.out HBU.out R1.out R2.out R3.out R4.out⟩
theorem br11 {p:Rp}{d:Nat}{T T1:Nat->Nat}{w wr W:World}{mb K:Nat}{R:Mc RSt × QV × Int}{av kv:Value}{gk G':Nat}{m:Mc RSt}{f:Fr}{c:Int}{n1 n2 n3 k:Nat}{x:QI}{hv sv ov:Value}{sa:Option Addr}{sc:Nat}(H:SwC p d T w mb K R av kv gk G' c n1 n2 n3 T1 m f wr W k x hv sv ov sa sc)(hop:x.op=11)
  {u0 u1 u2 u3 u4 u5 u6 u7 u8 u9 ua ub uc ud ue uf ug uh ui uj uk ul um un uo up uq ur us ut uu uv uw ux uy uz ua0 ua1 ua2 ua3 ua4 ua5 ua6 ua7 ua8 ua9
  uaa uab uac uad uae uaf uag uah uai uaj uak ual uam uan uao uap uaq uar uas uat uau uav uaw uax uay uaz ub0 ub1 ub2 ub3 ub4 ub5 ub6 ub7 ub8 ub9 uba ubb ubc ubd ube ubf ubg ubh
  ubi ubj ubk ubl ubm ubn ubo ubp ubq ubr ubs ubt ubu ubv ubw ubx uby ubz uc0 uc1 uc2 uc3 uc4 uc5 uc6 uc7 uc8 uc9 uca ucb ucc ucd uce ucf ucg uch
  uci ucj uck ucl ucm ucn uco ucp ucq ucr ucs uct ucu ucv ucw ucx ucy ucz ud0 ud1 ud2 ud3 ud4 ud5 ud6 ud7 ud8 ud9 uda udb udc udd ude udf udg udh
  udi udj udk udl udm udn udo udp udq udr uds udt udu udv udw udx udy udz ue0 ue1 ue2 ue3 ue4 ue5 ue6 ue7 ue8 ue9 uea ueb uec ued uee uef ueg ueh
  uei uej uek uel uem uen ueo uep ueq uer ues uet ueu uev uew uex uey uez uf0 uf1 uf2 uf3 uf4 uf5 uf6 uf7 uf8 uf9 ufa ufb ufc ufd ufe uff ufg ufh
  ufi ufj ufk ufl ufm ufn ufo ufp ufq ufr ufs uft ufu ufv ufw ufx ufy ufz ug0 ug1 ug2 ug3 ug4 ug5 ug6 ug7 ug8 ug9 uga ugb ugc ugd uge ugf ugg ugh
  ugi ugj ugk ugl ugm ugn ugo ugp ugq ugr ugs ugt ugu ugv ugw ugx ugy ugz uh0 uh1 uh2 uh3:Value}
  {KT K2 K3:Act->World->Prop}
  (hN:∀ (u5 u6 u7 u8 u9 ua ub uc uu uv uw ux uy uz ua0 ua1 ua2 ua3 ua4 ua5 ua6 ua7 ua8 ua9 uaa uab uac uad uae uaf uag uah uai uaj uak ual uam uan uao uap uaq uar uas uat uau
  uav uaw uax uay uaz ub0 ub1 ub2 ub3 ub4 ub5 ub6 ub7 ub8 ub9 uba ubb ubc ubd ube ubf ubg ubh ubi ubj ubk ubl ubm ubn ubo ubp ubq ubr ubs ubt ubu ubv ubw ubx uby
  ubz uc0 uc1 uc2 uc3 uc4 uc5 uc6 uc7 uc8 uc9 uca ucb ucc ucd uce ucf ucg uch uci ucj uck ucl ucm ucn uco ucp ucq ucr ucs uct ucu ucv ucw ucx ucy
  ucz ud0 ud1 ud2 ud3 ud4 ud5 ud6 ud7 ud8 ud9 uda udb udc udd ude udf udg udh udi udj udk udl udm udn udo udp udq udr uds udt udu udv udw udx udy
  udz ue0 ue1 ue2 ue3 ue4 ue5 ue6 ue7 ue8 ue9 uea ueb uec ued uee uef ueg ueh uei uej uek uel uem uen ueo uep ueq uer ues uet ueu uev uew uex uey
  uez uf0 uf1 uf2 uf3 uf4 uf5 uf6 uf7 uf8 uf9 ufa ufb ufc ufd ufe uff ufg ufh ufi ufj ufk ufl ufm ufn ufo ufp ufq ufr ufs uft ufu ufv ufw ufx ufy
  ufz ug0 ug1 ug2 ug3 ug4 ug5 ug6 ug7 ug8 ug9 uga ugb ugc ugd uge ugf ugg ugh ugi ugj:Value) (tg:Int) (w':World),xgn p d T w mb K R av kv G' c n1 n2 n3 T1 m f wr k x tg w'->KT (Act.mk #[.pointer (some ⟨mb,0,none⟩),.int .i64 c,u0,u1,av,u2,u3,.pointer (some ⟨w.heap.size,0,none⟩),.pointer (some ⟨w.heap.size+1,0,none⟩),u4,.pointer (some
  ⟨w.heap.size+2,0,none⟩),.slice (some ⟨w.heap.size+3,0,none⟩) n2 n2,.pointer (some ⟨w.heap.size+4,0,none⟩),.func (.func 71) #[] #[.pointer (some ⟨w.heap.size+4,0,
  none⟩)],.int .i64 (k:Int),.pointer (some ⟨wr.heap.size,0,none⟩),.int .i64 tg,u5,u6,u7,u8,u9,ua,ub,uc,ud,ue,uf,ug,uh,ui,uj,uk,ul,um,un,
  uo,up,uq,ur,us,ut,.int .i64 11,uu,uv,uw,ux,uy,uz,ua0,ua1,ua2,ua3,ua4,ua5,ua6,ua7,ua8,ua9,uaa,uab,uac,uad,uae,uaf,uag,uah,uai,uaj,uak,
  ual,uam,uan,uao,uap,uaq,uar,uas,uat,uau,uav,uaw,uax,uay,uaz,ub0,ub1,ub2,ub3,ub4,ub5,ub6,ub7,ub8,ub9,uba,ubb,ubc,ubd,ube,ubf,ubg,ubh,ubi,ubj,
  ubk,ubl,ubm,ubn,ubo,ubp,ubq,ubr,ubs,ubt,ubu,ubv,ubw,ubx,uby,ubz,uc0,uc1,uc2,uc3,uc4,uc5,uc6,uc7,uc8,uc9,uca,ucb,ucc,ucd,
  uce,ucf,ucg,uch,uci,ucj,uck,ucl,ucm,ucn,uco,ucp,ucq,ucr,ucs,uct,ucu,ucv,ucw,ucx,ucy,ucz,ud0,ud1,ud2,ud3,ud4,ud5,ud6,ud7,
  ud8,ud9,uda,udb,udc,udd,ude,udf,udg,udh,udi,udj,udk,udl,udm,udn,udo,udp,udq,udr,uds,udt,udu,udv,udw,udx,udy,udz,ue0,ue1,
  ue2,ue3,ue4,ue5,ue6,ue7,ue8,ue9,uea,ueb,uec,ued,uee,uef,ueg,ueh,uei,uej,uek,uel,uem,uen,ueo,uep,ueq,uer,ues,uet,ueu,uev,
  uew,uex,uey,uez,uf0,uf1,uf2,uf3,uf4,uf5,uf6,uf7,uf8,uf9,ufa,ufb,ufc,ufd,ufe,uff,ufg,ufh,ufi,ufj,ufk,ufl,ufm,ufn,ufo,ufp,
  ufq,ufr,ufs,uft,ufu,ufv,ufw,ufx,ufy,ufz,ug0,ug1,ug2,ug3,ug4,ug5,ug6,ug7,ug8,ug9,uga,ugb,ugc,ugd,uge,ugf,ugg,ugh,ugi,ugj,
  ugk,ugl,ugm,ugn,ugo,ugp,ugq,ugr,ugs,ugt,ugu,ugv,ugw,ugx,ugy,ugz,uh0,uh1,uh2,uh3] []) w')
  {K9:Act->World->Prop} (hK9:∀ a w',Code.wp Tryz.prog sw9 (Exit.inBlock 2 (Exit.then KT (Exit.inBlock 1 (Exit.then K2 (Exit.inBlock 0 (Exit.then K3 (bodyPost Tryz.prog Tryz.f52 fun e w'=>xaX p T w mb (20-(d:Int)) K R e w'))))))) a w'->K9 a w') :
  Code.wp Tryz.prog xdf (Exit.then K9 (Exit.inBlock 2 (Exit.then KT (Exit.inBlock 1 (Exit.then K2 (Exit.inBlock 0 (Exit.then K3 (bodyPost Tryz.prog Tryz.f52 fun e w'=>xaX p T w mb (20-(d:Int)) K R e w')))))))) (Act.mk #[.pointer (some ⟨mb,0,none⟩),.int .i64 c,u0,u1,av,u2,u3,.pointer (some ⟨w.heap.size,0,none⟩),.pointer (some ⟨w.heap.size+1,0,none⟩),u4,.pointer (some
  ⟨w.heap.size+2,0,none⟩),.slice (some ⟨w.heap.size+3,0,none⟩) n2 n2,.pointer (some ⟨w.heap.size+4,0,none⟩),.func (.func 71) #[] #[.pointer (some ⟨w.heap.size+4,0,
  none⟩)],.int .i64 (k:Int),.pointer (some ⟨wr.heap.size,0,none⟩),.int .i64 ((k:Int)+1),u5,u6,u7,u8,u9,ua,ub,uc,ud,ue,uf,ug,uh,ui,uj,uk,
  ul,um,un,uo,up,uq,ur,us,ut,.int .i64 11,uu,uv,uw,ux,uy,uz,ua0,ua1,ua2,ua3,ua4,ua5,ua6,ua7,ua8,ua9,uaa,uab,uac,uad,uae,uaf,uag,uah,
  uai,uaj,uak,ual,uam,uan,uao,uap,uaq,uar,uas,uat,uau,uav,uaw,uax,uay,uaz,ub0,ub1,ub2,ub3,ub4,ub5,ub6,ub7,ub8,ub9,uba,ubb,ubc,ubd,ube,ubf,ubg,
  ubh,ubi,ubj,ubk,ubl,ubm,ubn,ubo,ubp,ubq,ubr,ubs,ubt,ubu,ubv,ubw,ubx,uby,ubz,uc0,uc1,uc2,uc3,uc4,uc5,uc6,uc7,uc8,uc9,uca,
  ucb,ucc,ucd,uce,ucf,ucg,uch,uci,ucj,uck,ucl,ucm,ucn,uco,ucp,ucq,ucr,ucs,uct,ucu,ucv,ucw,ucx,ucy,ucz,ud0,ud1,ud2,ud3,ud4,
  ud5,ud6,ud7,ud8,ud9,uda,udb,udc,udd,ude,udf,udg,udh,udi,udj,udk,udl,udm,udn,udo,udp,udq,udr,uds,udt,udu,udv,udw,udx,udy,
  udz,ue0,ue1,ue2,ue3,ue4,ue5,ue6,ue7,ue8,ue9,uea,ueb,uec,ued,uee,uef,ueg,ueh,uei,uej,uek,uel,uem,uen,ueo,uep,ueq,uer,ues,
  uet,ueu,uev,uew,uex,uey,uez,uf0,uf1,uf2,uf3,uf4,uf5,uf6,uf7,uf8,uf9,ufa,ufb,ufc,ufd,ufe,uff,ufg,ufh,ufi,ufj,ufk,ufl,ufm,
  ufn,ufo,ufp,ufq,ufr,ufs,uft,ufu,ufv,ufw,ufx,ufy,ufz,ug0,ug1,ug2,ug3,ug4,ug5,ug6,ug7,ug8,ug9,uga,ugb,ugc,ugd,uge,ugf,ugg,
  ugh,ugi,ugj,ugk,ugl,ugm,ugn,ugo,ugp,ugq,ugr,ugs,ugt,ugu,ugv,ugw,ugx,ugy,ugz,uh0,uh1,uh2,uh3] []) W:=by
 obtain⟨hX,hEn,HR0,HG0,HX0,HMa0,HF0,hscap,HL0,hbel,hxb,⟨aa,ca,rfl,hca⟩,ht40,HI0⟩:=H;have HR:=hid HR0;have HG:=hid HG0;have HX:=hid HX0;have HMa:=hid HMa0;have HF:=hid HF0;have HL:=hid HL0;have HB1:=hid hbel;have HI:=hid HI0;have HOP:=hid hop;have HEn:=hid hEn;have hM1:=HMa0.later hbel;have hF1:=HF0.later hbel;obtain⟨hsc1,hsc2⟩:=hscap;have hBl:w.heap.size+4<wr.heap.size:=xai HF0.sb;have hWl:wr.heap.size<=W.heap.size:=hbel.size;clear HR0 HG0 HX0 HMa0 HF0 HL0 HI0 hop hbel hEn;unfold xdf;unfold sw9 at hK9;obtain⟨ha0,ha1⟩:=HX.out.temp (Or.inr HOP.out);obtain⟨j,hj⟩:∃ j:Nat,x.a=(j:Int):=⟨x.a.toNat,by omega⟩
 have hl1:=HL.out.2.2.1;have hjl:j<f.temps.length:=by omega
 have hnx:0<f.stack.length:=xi2 HX.out (by have hop:x.op=11:=HOP.out;unfold xaP;rw[if_pos (by omega)])
 have x1:=hxb.x1;have hbD:Below W.heap.size W W.drew:=(Below.refl _ W).drew;have hFt:=HF.out.t4W (U:=W.drew) (xae HB1.out hbD);have hp5:=hFt.pos;have hj1:(j:Int)<(n2:Int):=by omega
 have hj0:(0:Int)<=(j:Int):=by omega
 have HJ:=hid hj;rw[hj] at x1;clear hM1 hF1 hj ha0 ha1
 go_upto_region 31 with (fail)
 go_region_law (refine xa0 rfl 71 (.tmp 127) #[] _ rfl #[.pointer (some ⟨w.heap.size+4,0,none⟩)] (by simp[Act.eval,Act.put]) #[] (by simp) (vf47 _ _) ?_;refine (show Calls Tryz.prog 71 #[.pointer (some ⟨w.heap.size+4,0,none⟩)] W.drew _ from (xes hFt hnx).mono ?_);rintro e w2 ⟨rfl,⟨st',hF2⟩,hK2⟩;refine⟨_,rfl,?_⟩;have hx2:=hK2.cell (show W.drew.cell? ⟨wr.heap.size,1,none⟩=some (.int .i64 (j:Int)) from x1) (by rw[xaC (qzC _)];omega);obtain⟨y0,y1⟩:=xeS hF2.tm (show f.pop.temps[j]?=some f.temps[j] by show f.temps[j]?=_;simp[hjl]);have yf:=xam hF2.tm;have HF2:=hid hF2;have HK2:=hid hK2;clear hF2 hK2)
 all_goals (
  go_wp2
  exact Or.inl ⟨rfl,xn7 hX HR.out HG.out HX.out HOP.out HJ.out HMa.out HL.out (xae HB1.out hbD) HF2.out HK2.out⟩)
end Go.Proofs.YtaodadfahifbpaaGreat
