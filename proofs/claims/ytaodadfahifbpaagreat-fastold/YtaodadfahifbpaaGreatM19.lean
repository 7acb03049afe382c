/- A part. -/
import Derived.Test.YtaodadfahifbpaaGreatM16
import Derived.Test.YtaodadfahifbpaaGreatM18
namespace Go.Proofs.YtaodadfahifbpaaGreat
open Go.ChangeShapes Go.WideShapes Go.ChangeAt Go.RowKit
set_option linter.unusedSimpArgs false
set_option linter.unusedVariables false
set_option maxHeartbeats 8000000
set_option maxRecDepth 100000
theorem xpg {w w':World}{B g n cap:Nat}{cs:List Value}(h:w.ownsRow B 27 2 (.slice (some ⟨g,0,none⟩) n cap) n cs)(hb:Below w.heap.size w w'):w'.ownsRow B 27 2 (.slice (some ⟨g,0,none⟩) n cap) n cs:=by
 obtain⟨h0,h1 | ⟨g',c,cur,e,h1,h2,h3⟩⟩:=h
 ·cases h1.1
 ·exact⟨h0,Or.inr ⟨g',c,cur,e,h1,by rw[hb.block _ (xai h2)];exact h2,h3⟩⟩
theorem xpH {W w1:World}{g cap' B n:Nat}{args:List QV}(xv:QV)(hb:Below W.heap.size W w1)(hown:w1.ownsRow B 27 2 (.slice (some ⟨g,0,none⟩) n cap') n (xak args))(hn:args.length=n)(hnl:n<=1000000)(hB:W.heap.size<=B) :
  Below W.heap.size W (w1.alloc (.cells #[.int .i64 xv.k,.int .i64 xv.n] 27))/\(w1.alloc (.cells #[.int .i64 xv.k,.int .i64 xv.n] 27)).heap[w1.heap.size]?=some (.cells #[.int .i64 xv.k,.int .i64 xv.n] 27 (0,0))/\xaG (fun b=>W.heap.size<=b/\b<(w1.alloc (.cells #[.int .i64 xv.k,.int .i64 xv.n] 27)).heap.size) (w1.alloc (.cells #[.int .i64 xv.k,.int .i64 xv.n] 27)) (.slice (some ⟨g,0,none⟩) n cap') args:=by
 have h1:=xpg hown (xaj w1 (.cells #[.int .i64 xv.k,.int .i64 xv.n] 27));refine⟨xae hb (xaj _ _),heap_alloc_new w1 _,?_⟩;generalize (w1.alloc (.cells #[.int .i64 xv.k,.int .i64 xv.n] 27))=V at *
 have hc:Cells xnd 2 (fun b=>W.heap.size<=b/\b<V.heap.size) V (xak args) args:=⟨xbs _,fun i y hy=>by
  obtain⟨d1,d2⟩:=xbK hy
  exact⟨by simpa using d1,d2⟩⟩
 exact xe3 xaS h1 hc hn (fun b h1 h2=>⟨by omega,h2⟩) (by omega)
theorem xn9 {wr W V:World}{f:Fr}{x:QI}{nn na xb:Nat}{asv:Value}{xv:QV}(hb:Below wr.heap.size wr W)(hl:wr.heap.size<W.heap.size)(hx:InB W wr.heap.size x)(h1:Below W.heap.size W V)(h2:V.heap[xb]?=some (.cells #[.int .i64 xv.k,.int .i64 xv.n] 27 (0,0)))(h3:xaG (fun b=>W.heap.size<=b/\b<V.heap.size) V asv (f.stack.drop (nn+1)))(hxl:W.heap.size<=xb)(hna:x.a=(na:Int))(hlen:f.stack.length=nn+1+na)(hxv:f.stack[nn]?=some xv):SdA wr V f x nn na xb asv xv:=
 have hs:=h1.size
 ⟨xae hb h1,hx.later h1,h2,⟨by omega,by omega⟩,h3.mono xaS fun b hb=>⟨by omega,hb.2⟩,hna,hlen,hxv⟩
theorem br14 {p:Rp}{d:Nat}{T T1:Nat->Nat}{w wr W:World}{mb K:Nat}{R:Mc RSt × QV × Int}{av kv:Value}{gk G':Nat}{m:Mc RSt}{f:Fr}{c:Int}{n1 n2 n3 k:Nat}{x:QI}{hv sv ov:Value}{sa:Option Addr}{sc:Nat}(H:SwC p d T w mb K R av kv gk G' c n1 n2 n3 T1 m f wr W k x hv sv ov sa sc)(hop:x.op=14)
  {u0 u1 u2 u3 u4 u5 u6 u7 u8 u9 ua ub uc ud ue uf ug uh ui uj uk ul um un uo up uq ur us ut uu uv uw ux uy uz ua0 ua1 ua2 ua3 ua4 ua5 ua6 ua7 ua8 ua9
  uaa uab uac uad uae uaf uag uah uai uaj uak ual uam uan uao uap uaq uar uas uat uau uav uaw uax uay uaz ub0 ub1 ub2 ub3 ub4 ub5 ub6 ub7 ub8 ub9 uba ubb ubc ubd ube ubf ubg ubh
  ubi ubj ubk ubl ubm ubn ubo ubp ubq ubr ubs ubt ubu ubv ubw ubx uby ubz uc0 uc1 uc2 uc3 uc4 uc5 uc6 uc7 uc8 uc9 uca ucb ucc ucd uce ucf ucg uch
  uci ucj uck ucl ucm ucn uco ucp ucq ucr ucs uct ucu ucv ucw ucx ucy ucz ud0 ud1 ud2 ud3 ud4 ud5 ud6 ud7 ud8 ud9 uda udb udc udd ude udf udg udh
  udi udj udk udl udm udn udo udp udq udr uds udt udu udv udw udx udy udz ue0 ue1 ue2 ue3 ue4 ue5 ue6 ue7 ue8 ue9 uea ueb uec ued uee uef ueg ueh
  uei uej uek uel uem uen ueo uep ueq uer ues uet ueu uev uew uex uey uez uf0 uf1 uf2 uf3 uf4 uf5 uf6 uf7 uf8 uf9 ufa ufb ufc ufd ufe uff ufg ufh
  ufi ufj ufk ufl ufm ufn ufo ufp ufq ufr ufs uft ufu ufv ufw ufx ufy ufz ug0 ug1 ug2 ug3 ug4 ug5 ug6 ug7 ug8 ug9 uga ugb ugc ugd uge ugf ugg ugh
  ugi ugj ugk ugl ugm ugn ugo ugp ugq ugr ugs ugt ugu ugv ugw ugx ugy ugz uh0 uh1 uh2 uh3:Value}
  {KT K2 K3:Act->World->Prop}
  (hN:∀ (u5 u6 u7 u8 u9 ua ub uc uu uv uw ux uy uz ua0 ua1 ua2 ua3 ua4 ua5 ua6 ua7 ua8 ua9 uaa uab uac uad uae uaf uag uah uai uaj uak ual uam uan uao uap uaq uar uas uat uau
  uav uaw uax uay uaz ub0 ub1 ub2 ub3 ub4 ub5 ub6 ub7 ub8 ub9 uba ubb ubc ubd ube ubf ubg ubh ubi ubj ubk ubl ubm ubn ubo ubp ubq ubr ubs ubt ubu ubv ubw ubx uby
  ubz uc0 uc1 uc2 uc3 uc4 uc5 uc6 uc7 uc8 uc9 uca ucb ucc ucd uce ucf ucg uch uci ucj uck ucl ucm ucn uco ucp ucq ucr ucs uct ucu ucv ucw ucx ucy
  ucz ud0 ud1 ud2 ud3 ud4 ud5 ud6 ud7 ud8 ud9 uda udb udc udd ude udf udg udh udi udj udk udl udm udn udo udp udq udr uds udt udu udv udw udx udy
  udz ue0 ue1 ue2 ue3 ue4 ue5 ue6 ue7 ue8 ue9 uea ueb uec ued uee uef ueg ueh uei uej uek uel uem uen ueo uep ueq uer ues uet ueu uev uew uex uey
  uez uf0 uf1 uf2 uf3 uf4 uf5 uf6 uf7 uf8 uf9 ufa ufb ufc ufd ufe uff ufg ufh ufi ufj ufk ufl ufm ufn ufo ufp ufq ufr ufs uft ufu ufv ufw ufx ufy
  ufz ug0 ug1 ug2 ug3 ug4 ug5 ug6 ug7 ug8 ug9 uga ugb ugc ugd uge ugf ugg ugh ugi ugj:Value) (tg:Int) (w':World),xgn p d T w mb K R av kv G' c n1 n2 n3 T1 m f wr k x tg w'->KT (Act.mk #[.pointer (some ⟨mb,0,none⟩),.int .i64 c,u0,u1,av,u2,u3,.pointer (some ⟨w.heap.size,0,none⟩),.pointer (some ⟨w.heap.size+1,0,none⟩),u4,.pointer (some
  ⟨w.heap.size+2,0,none⟩),.slice (some ⟨w.heap.size+3,0,none⟩) n2 n2,.pointer (some ⟨w.heap.size+4,0,none⟩),.func (.func 71) #[] #[.pointer (some ⟨w.heap.size+4,0,
  none⟩)],.int .i64 (k:Int),.pointer (some ⟨wr.heap.size,0,none⟩),.int .i64 tg,u5,u6,u7,u8,u9,ua,ub,uc,ud,ue,uf,ug,uh,ui,uj,uk,ul,um,un,
  uo,up,uq,ur,us,ut,.int .i64 14,uu,uv,uw,ux,uy,uz,ua0,ua1,ua2,ua3,ua4,ua5,ua6,ua7,ua8,ua9,uaa,uab,uac,uad,uae,uaf,uag,uah,uai,uaj,uak,
  ual,uam,uan,uao,uap,uaq,uar,uas,uat,uau,uav,uaw,uax,uay,uaz,ub0,ub1,ub2,ub3,ub4,ub5,ub6,ub7,ub8,ub9,uba,ubb,ubc,ubd,ube,ubf,ubg,ubh,ubi,ubj,
  ubk,ubl,ubm,ubn,ubo,ubp,ubq,ubr,ubs,ubt,ubu,ubv,ubw,ubx,uby,ubz,uc0,uc1,uc2,uc3,uc4,uc5,uc6,uc7,uc8,uc9,uca,ucb,ucc,ucd,
  uce,ucf,ucg,uch,uci,ucj,uck,ucl,ucm,ucn,uco,ucp,ucq,ucr,ucs,uct,ucu,ucv,ucw,ucx,ucy,ucz,ud0,ud1,ud2,ud3,ud4,ud5,ud6,ud7,
  ud8,ud9,uda,udb,udc,udd,ude,udf,udg,udh,udi,udj,udk,udl,udm,udn,udo,udp,udq,udr,uds,udt,udu,udv,udw,udx,udy,udz,ue0,ue1,
  ue2,ue3,ue4,ue5,ue6,ue7,ue8,ue9,uea,ueb,uec,ued,uee,uef,ueg,ueh,uei,uej,uek,uel,uem,uen,ueo,uep,ueq,uer,ues,uet,ueu,uev,
  uew,uex,uey,uez,uf0,uf1,uf2,uf3,uf4,uf5,uf6,uf7,uf8,uf9,ufa,ufb,ufc,ufd,ufe,uff,ufg,ufh,ufi,ufj,ufk,ufl,ufm,ufn,ufo,ufp,
  ufq,ufr,ufs,uft,ufu,ufv,ufw,ufx,ufy,ufz,ug0,ug1,ug2,ug3,ug4,ug5,ug6,ug7,ug8,ug9,uga,ugb,ugc,ugd,uge,ugf,ugg,ugh,ugi,ugj,
  ugk,ugl,ugm,ugn,ugo,ugp,ugq,ugr,ugs,ugt,ugu,ugv,ugw,ugx,ugy,ugz,uh0,uh1,uh2,uh3] []) w')
  {K9:Act->World->Prop} (hK9:∀ a w',Code.wp Tryz.prog sw9 (Exit.inBlock 2 (Exit.then KT (Exit.inBlock 1 (Exit.then K2 (Exit.inBlock 0 (Exit.then K3 (bodyPost Tryz.prog Tryz.f52 fun e w'=>xaX p T w mb (20-(d:Int)) K R e w'))))))) a w'->K9 a w') :
  Code.wp Tryz.prog xdf (Exit.then K9 (Exit.inBlock 2 (Exit.then KT (Exit.inBlock 1 (Exit.then K2 (Exit.inBlock 0 (Exit.then K3 (bodyPost Tryz.prog Tryz.f52 fun e w'=>xaX p T w mb (20-(d:Int)) K R e w')))))))) (Act.mk #[.pointer (some ⟨mb,0,none⟩),.int .i64 c,u0,u1,av,u2,u3,.pointer (some ⟨w.heap.size,0,none⟩),.pointer (some ⟨w.heap.size+1,0,none⟩),u4,.pointer (some
  ⟨w.heap.size+2,0,none⟩),.slice (some ⟨w.heap.size+3,0,none⟩) n2 n2,.pointer (some ⟨w.heap.size+4,0,none⟩),.func (.func 71) #[] #[.pointer (some ⟨w.heap.size+4,0,
  none⟩)],.int .i64 (k:Int),.pointer (some ⟨wr.heap.size,0,none⟩),.int .i64 ((k:Int)+1),u5,u6,u7,u8,u9,ua,ub,uc,ud,ue,uf,ug,uh,ui,uj,uk,
  ul,um,un,uo,up,uq,ur,us,ut,.int .i64 14,uu,uv,uw,ux,uy,uz,ua0,ua1,ua2,ua3,ua4,ua5,ua6,ua7,ua8,ua9,uaa,uab,uac,uad,uae,uaf,uag,uah,
  uai,uaj,uak,ual,uam,uan,uao,uap,uaq,uar,uas,uat,uau,uav,uaw,uax,uay,uaz,ub0,ub1,ub2,ub3,ub4,ub5,ub6,ub7,ub8,ub9,uba,ubb,ubc,ubd,ube,ubf,ubg,
  ubh,ubi,ubj,ubk,ubl,ubm,ubn,ubo,ubp,ubq,ubr,ubs,ubt,ubu,ubv,ubw,ubx,uby,ubz,uc0,uc1,uc2,uc3,uc4,uc5,uc6,uc7,uc8,uc9,uca,
  ucb,ucc,ucd,uce,ucf,ucg,uch,uci,ucj,uck,ucl,ucm,ucn,uco,ucp,ucq,ucr,ucs,uct,ucu,ucv,ucw,ucx,ucy,ucz,ud0,ud1,ud2,ud3,ud4,
  ud5,ud6,ud7,ud8,ud9,uda,udb,udc,udd,ude,udf,udg,udh,udi,udj,udk,udl,udm,udn,udo,udp,udq,udr,uds,udt,udu,udv,udw,udx,udy,
  udz,ue0,ue1,ue2,ue3,ue4,ue5,ue6,ue7,ue8,ue9,uea,ueb,uec,ued,uee,uef,ueg,ueh,uei,uej,uek,uel,uem,uen,ueo,uep,ueq,uer,ues,
  uet,ueu,uev,uew,uex,uey,uez,uf0,uf1,uf2,uf3,uf4,uf5,uf6,uf7,uf8,uf9,ufa,ufb,ufc,ufd,ufe,uff,ufg,ufh,ufi,ufj,ufk,ufl,ufm,
  ufn,ufo,ufp,ufq,ufr,ufs,uft,ufu,ufv,ufw,ufx,ufy,ufz,ug0,ug1,ug2,ug3,ug4,ug5,ug6,ug7,ug8,ug9,uga,ugb,ugc,ugd,uge,ugf,ugg,
  ugh,ugi,ugj,ugk,ugl,ugm,ugn,ugo,ugp,ugq,ugr,ugs,ugt,ugu,ugv,ugw,ugx,ugy,ugz,uh0,uh1,uh2,uh3] []) W:=by
 have HH:=hid H;obtain⟨hX,hEn,HR0,HG0,HX0,HMa0,HF0,hscap,HL0,hbel,hxb,⟨aa,ca,rfl,hca⟩,ht40,HI0⟩:=H;have HR:=hid HR0;have HG:=hid HG0;have HX:=hid HX0;have HMa:=hid HMa0;have HF:=hid HF0;have HL:=hid HL0;have HB1:=hid hbel;have HI:=hid HI0;have HOP:=hid hop;have HEn:=hid hEn;have hM1:=HMa0.later hbel;have hF1:=HF0.later hbel;obtain⟨hsc1,hsc2⟩:=hscap;have hBl:w.heap.size+4<wr.heap.size:=xai HF0.sb;have hWl:wr.heap.size<=W.heap.size:=hbel.size;clear HR0 HG0 HX0 HMa0 HF0 HL0 HI0 hop hbel hEn;unfold xdf;unfold sw9 at hK9;have hp5:=hF1.pos;have hfw:=HX.out.few;obtain⟨hs0,hs4⟩:=HX.out.send HOP.out;have hneed:=HX.out.need
 obtain⟨na,hna⟩:∃ na:Nat,x.a=(na:Int):=⟨x.a.toNat,by omega⟩
 have hnx:na+1<=f.stack.length:=by
  have hop:x.op=14:=HOP.out;have hn:(xaP x k).need=x.a+1:=by unfold xaP;simp[hop]
  rw[hn,hna] at hneed;omega
 obtain⟨nn,hlen⟩:∃ nn,f.stack.length=nn+1+na:=⟨f.stack.length-1-na,by omega⟩
 obtain⟨xv,hxv⟩:∃ xv,f.stack[nn]?=some xv:=⟨f.stack[nn]'(by omega),by simp⟩
 have HN:=hid (And.intro hna (And.intro hlen hxv));have hv:=hF1.stack.vals (by omega)
 obtain⟨a',cap',e',-,-,-,hrow⟩:=hv
 cases e'
 obtain⟨gs,os,rfl,hbo,y0,y1⟩:=hrow nn xv hxv;simp only[Nat.add_zero] at y0;have htl:=hF1.stack.tail (k:=nn+1) (by omega) (by omega)
 have hdl:(f.stack.drop (nn+1)).length=na:=by rw[List.length_drop];omega
 rw[hdl] at htl;obtain⟨at1,ct1,et1,-,-,hby,hrw⟩:=htl;simp only[Value.slice.injEq] at et1;obtain⟨et1,-,et3⟩:=et1;subst et1;subst et3;obtain⟨vs,hvs,hvsrc⟩:=hrw.cells xaS;have hvc:=xci (E:=()) hvs;subst hvc;have hvl:(xak (f.stack.drop (nn+1))).length=na*2:=by rw[xbs,hdl]
 obtain⟨ad,HAD⟩:∃ ad,Hid (ad=if sc=nn+1 then some (Addr.mk gs os none) else some (Addr.mk gs (os+(nn+1)*2) none)):=⟨_,rfl⟩
 have HV:Hid (∀ (j:Nat) (u:Value),(xak (f.stack.drop (nn+1)))[j]?=some u->∃ b,ad=some b/\W.cell? (b.add j)=some u):=by
  intro j u hj
  by_cases hsn:sc=nn+1
  ·have:f.stack.drop (nn+1)=[]:=List.eq_nil_of_length_eq_zero (by omega)
   rw[this] at hj
   simp[xak] at hj
  ·rw[HAD.out,if_neg hsn]
   exact hvsrc j u hj
 have x1:=hxb.x1;rw[hna] at x1;have hw40:IntKind.i64.wrap ((f.stack.length:Int)-(na:Int))=((nn+1:Nat):Int):=by rw[xaq (by omega) (by omega)];omega
 have hwn:IntKind.i64.wrap (((nn+1:Nat):Int)-1)=(nn:Int):=by rw[xaq (by omega) (by omega)];omega
 have hst0:=hF1.st;have hWl2:wr.heap.size<W.heap.size:=World.block_lt_of_cell? W ⟨wr.heap.size,1,none⟩ hxb.x1;have hSl:∀ w',Below W.heap.size W w'->w'.cell? ⟨w.heap.size+4,0,none⟩=some (.slice (some ⟨gs,os,none⟩) f.stack.length sc)/\w'.cell? ⟨gs,os+nn*2,none⟩=some (.int .i64 xv.k)/\w'.cell? ⟨gs,os+nn*2+1,none⟩=some (.int .i64 xv.n):=fun w' hb=>⟨qzA hb hF1.st,qzA hb y0,qzA hb y1⟩
 have hS0:=hSl _ (Below.refl _ W).drew;clear hrow hrw hvsrc hvs hna hM1 hneed hs0 hs4 hbo
 go_upto_region 41 with (fail)
 clear hst0 x1 hw40;refine xat (S:=fun w'=>w'.cell? ⟨w.heap.size+4,0,none⟩=some (.slice (some ⟨gs,os,none⟩) f.stack.length sc)/\w'.cell? ⟨gs,os+nn*2,none⟩=some (.int .i64 xv.k)/\w'.cell? ⟨gs,os+nn*2+1,none⟩=some (.int .i64 xv.n)) [12] (by kernel_rfl) ?_
 refine tk 1 (⟨some 193,.load 28 (.tmp 12),28,_,_,none⟩) (.slice (some ⟨gs,os,none⟩) f.stack.length sc) rfl (hS0) (fun _ _ _ h=>h) rfl (by kernel_rfl) ?_ ?_
 ·rintro w⟨q0,q1,q2⟩;go_simp
 try simp only[Act.put,qzF,qzG,qzH]
 refine tk 2 (⟨some 194,.move (.tmp 18),3,_,_,none⟩) (.int .i64 ((nn+1:Nat):Int)) rfl (hS0) (fun _ _ _ h=>h) rfl (by kernel_rfl) ?_ ?_
 ·rintro w⟨q0,q1,q2⟩;go_simp
 try simp only[Act.put,qzF,qzG,qzH]
 refine tk 3 (⟨some 195,.slice 28 (.tmp 193) (some (.tmp 194)) none none,28,_,_,none⟩) (.slice ad na (sc-(nn+1))) rfl (hS0) (fun _ _ _ h=>h) rfl (by kernel_rfl) ?_ ?_
 ·rintro w⟨q0,q1,q2⟩;go_simp;rw[if_pos (by omega),HAD.out]
 try simp only[Act.put,qzF,qzG,qzH]
 refine tk 5 (⟨some 197,.load 28 (.tmp 12),28,_,_,none⟩) (.slice (some ⟨gs,os,none⟩) f.stack.length sc) rfl (hS0) (fun _ _ _ h=>h) rfl (by kernel_rfl) ?_ ?_
 ·rintro w⟨q0,q1,q2⟩;go_simp
 try simp only[Act.put,qzF,qzG,qzH]
 refine tk 6 (⟨some 198,.move (.tmp 18),3,_,_,none⟩) (.int .i64 ((nn+1:Nat):Int)) rfl (hS0) (fun _ _ _ h=>h) rfl (by kernel_rfl) ?_ ?_
 ·rintro w⟨q0,q1,q2⟩;go_simp
 try simp only[Act.put,qzF,qzG,qzH]
 refine tk 7 (⟨some 199,.binOp .sub 3 (.tmp 198) (.const (.int .i64 1)) 3,3,_,_,none⟩) (.int .i64 (nn:Int)) rfl (hS0) (fun _ _ _ h=>h) rfl (by kernel_rfl) ?_ ?_
 ·rintro w⟨q0,q1,q2⟩;go_simp
  exact xaq (by omega) (by omega)
 try simp only[Act.put,qzF,qzG,qzH]
 refine tk 8 (⟨some 200,.indexAddr 28 (.tmp 197) (.tmp 199),0,_,_,none⟩) (.pointer (some ⟨gs,os+nn*2,none⟩)) rfl (hS0) (fun _ _ _ h=>h) rfl (by kernel_rfl) ?_ ?_
 ·rintro w⟨q0,q1,q2⟩;go_simp;intro h;omega
 try simp only[Act.put,qzF,qzG,qzH]
 refine tk 9 (⟨some 201,.load 27 (.tmp 200),27,_,_,none⟩) (VV xv) rfl (hS0) (fun _ _ _ h=>h) rfl (by kernel_rfl) ?_ ?_
 ·rintro w⟨q0,q1,q2⟩;go_simp
 try simp only[Act.put,qzF,qzG,qzH]
 refine xab (rs:=[0,10]) (by kernel_rfl) (by simp) ?_
 intro i hi;simp only[List.mem_cons,List.not_mem_nil,or_false] at hi
 rcases hi with hi | hi
 ·subst hi;refine xaL (o:=⟨some 192,.buildSlice 28 0 #[],28,_,_,none⟩) rfl (fun K' hK=>?_)
  have hbz:Below W.heap.size W (W.drew.alloc (.cells #[] 27)):=xae (Below.refl _ W).drew (xaj _ _);go_simp;refine hK _ _ (fun _=>hSl _ hbz) ?_
  clear hK K'
  try simp only[Act.put,qzF,qzG,qzH]
  refine xab (rs:=[4,10]) (by kernel_rfl) (by simp) ?_
  intro i hi;simp only[List.mem_cons,List.not_mem_nil,or_false] at hi
  rcases hi with hi | hi
  ·subst hi;refine xaL (o:=⟨some 196,.call ⟨.builtin .append,#[.tmp 192,.tmp 195],#[28,28]⟩,28,_,_,none⟩) rfl (fun K' hK=>?_)
   obtain⟨g,cap1,w1,hrun1,hown,hgB,hgl,hbA⟩:=xbX (w:=(W.drew.alloc (.cells #[] 27))) 28 28 27 _ 2 16 Tryz.underlying28 xbR rfl (by omega) (by omega) (W.drew.heap.size) (heap_alloc_new W.drew _) ad na (sc-(nn+1)) (xak (f.stack.drop (nn+1))) hvl (fun j u hj=>by obtain⟨b,e,h⟩:=HV.out j u hj;exact⟨b,e,qzA hbz h⟩) (by omega)
   have hb1:Below W.heap.size W w1:=xae hbz hbA;refine xar rfl (.tmp 192) (.tmp 195) 28 rfl (.slice (some ⟨W.drew.heap.size,0,none⟩) 0 0) (.slice ad na (sc-(nn+1))) (.slice (some ⟨g,0,none⟩) na cap1) (by simp[Act.eval,Act.put]) (by simp[Act.eval,Act.put]) hrun1 ?_
   refine hK _ _ (fun _=>hSl _ hb1) ?_
   clear hK K'
   try simp only[Act.put,qzF,qzG,qzH]
   refine xab (rs:=[10]) (by kernel_rfl) (by simp) ?_
   intro i hi;simp only[List.mem_cons,List.not_mem_nil,or_false] at hi;subst hi;refine xaL (o:=⟨some 20,.alloc 27,0,_,_,none⟩) rfl (fun K' hK=>?_)
   go_simp;refine hK _ _ (fun _=>hSl _ (xae hb1 (xaj _ _))) ?_
   clear hK K'
   try simp only[Act.put,qzF,qzG,qzH]
   refine tk 11 (⟨some 19,.assign (.tmp 196),28,_,_,none⟩) (.slice (some ⟨g,0,none⟩) na cap1) rfl (hSl _ (xae hb1 (xaj _ _))) (fun _ _ _ h=>h) rfl (by kernel_rfl) ?_ ?_
   ·rintro w⟨q0,q1,q2⟩;go_simp
   try simp only[Act.put,qzF,qzG,qzH]
   have hx0:(w1.alloc (.cells #[.int .i64 0,.int .i64 0] 27)).heap[w1.heap.size]?=some (.cells #[.int .i64 0,.int .i64 0] 27 (0,0)):=heap_alloc_new w1 _;have x00:(w1.alloc (.cells #[.int .i64 0,.int .i64 0] 27)).cell? ⟨w1.heap.size,0,none⟩=some (.int .i64 0):=by rw[qzB hx0];rfl
   have x01:(w1.alloc (.cells #[.int .i64 0,.int .i64 0] 27)).cell? ⟨w1.heap.size,1,none⟩=some (.int .i64 0):=by rw[qzB hx0];rfl
   have x0f:=xam hx0;obtain⟨e1,e2,e3⟩:=xpH (n:=na) xv hb1 hown (by rw[List.length_drop];omega) (by omega) (qzC _)
   have hgg:W.heap.size<=w1.heap.size:=hb1.size;refine xab (rs:=[12]) (by kernel_rfl) (by simp) ?_
   intro i hi;simp only[List.mem_cons,List.not_mem_nil,or_false] at hi;subst hi;refine xaL (o:=⟨none,.store 27 (.tmp 20) (.tmp 201),0,_,_,none⟩) rfl (fun K' hK=>?_)
   go_simp;refine hK _ _ (fun h=>absurd h (by decide)) ?_
   clear hK K'
   try simp only[Act.put,qzF,qzG,qzH]
   refine xaw (by kernel_rfl) ?_ _
   try simp only[Act.put,qzF,qzG,qzH]
   have HE1:=hid e1;have HE2:=hid e2;have HE3:=hid e3;clear e1 e2 e3 hSl hS0 hF1 x00 x01 x0f hx0
   go_upto_region 42 with (fail)
   exact xoq HH.out HOP.out (xn9 HB1.out hWl2 hxb HE1.out HE2.out HE3.out hgg HN.out.1 HN.out.2.1 HN.out.2.2) (by assumption) (by assumption)
  ·subst hi;refine xaL (o:=⟨some 20,.alloc 27,0,_,_,none⟩) rfl (fun K' hK=>?_)
   replace hbz:Below W.heap.size W ((W.drew.alloc (.cells #[] 27)).alloc (.cells #[.int .i64 0,.int .i64 0] 27)):=xae hbz (xaj _ _);go_simp;refine hK _ _ (fun _=>hSl _ hbz) ?_
   clear hK K'
   try simp only[Act.put,qzF,qzG,qzH]
   refine xab (rs:=[4]) (by kernel_rfl) (by simp) ?_
   intro i hi;simp only[List.mem_cons,List.not_mem_nil,or_false] at hi;subst hi;refine xaL (o:=⟨some 196,.call ⟨.builtin .append,#[.tmp 192,.tmp 195],#[28,28]⟩,28,_,_,none⟩) rfl (fun K' hK=>?_)
   obtain⟨g,cap1,w1,hrun1,hown,hgB,hgl,hbA⟩:=xbX (w:=(W.drew.alloc (.cells #[] 27)).alloc (.cells #[.int .i64 0,.int .i64 0] 27)) 28 28 27 _ 2 16 Tryz.underlying28 xbR rfl (by omega) (by omega) (W.drew.heap.size) (xad (heap_alloc_new W.drew _) (xaj _ _)) ad na (sc-(nn+1)) (xak (f.stack.drop (nn+1))) hvl (fun j u hj=>by obtain⟨b,e,h⟩:=HV.out j u hj;exact⟨b,e,qzA hbz h⟩) (by omega)
   have hb1:Below W.heap.size W w1:=xae hbz hbA;refine xar rfl (.tmp 192) (.tmp 195) 28 rfl (.slice (some ⟨W.drew.heap.size,0,none⟩) 0 0) (.slice ad na (sc-(nn+1))) (.slice (some ⟨g,0,none⟩) na cap1) (by simp[Act.eval,Act.put]) (by simp[Act.eval,Act.put]) hrun1 ?_
   refine hK _ _ (fun _=>hSl _ hb1) ?_
   clear hK K'
   try simp only[Act.put,qzF,qzG,qzH]
   refine tk 11 (⟨some 19,.assign (.tmp 196),28,_,_,none⟩) (.slice (some ⟨g,0,none⟩) na cap1) rfl (hSl _ hb1) (fun _ _ _ h=>h) rfl (by kernel_rfl) ?_ ?_
   ·rintro w⟨q0,q1,q2⟩;go_simp
   try simp only[Act.put,qzF,qzG,qzH]
   have hx0:(w1).heap[W.heap.size+1]?=some (.cells #[.int .i64 0,.int .i64 0] 27 (0,0)):=xad (by have:=heap_alloc_new (W.drew.alloc (.cells #[] 27)) (.cells #[.int .i64 0,.int .i64 0] 27);simpa using this) hbA
   have x00:(w1).cell? ⟨W.heap.size+1,0,none⟩=some (.int .i64 0):=by rw[qzB hx0];rfl
   have x01:(w1).cell? ⟨W.heap.size+1,1,none⟩=some (.int .i64 0):=by rw[qzB hx0];rfl
   have x0f:=xam hx0;obtain⟨e1,e2,e3⟩:=sd41 (n:=na) xv hb1 hown (by rw[List.length_drop];omega) (by omega) (qzC _) (show W.heap.size<=W.heap.size+1 from (by show W.heap.size<=W.heap.size+1;omega)) (by have h2:((W.drew.alloc (.cells #[] 27)).alloc (.cells #[.int .i64 0,.int .i64 0] 27)).heap.size=W.heap.size+2:=(by simp);have h3:W.drew.heap.size=W.heap.size:=rfl;rw[h2] at hgB;omega) hx0
   have hgg:W.heap.size<=W.heap.size+1:=(by show W.heap.size<=W.heap.size+1;omega)
   refine xab (rs:=[12]) (by kernel_rfl) (by simp) ?_
   intro i hi;simp only[List.mem_cons,List.not_mem_nil,or_false] at hi;subst hi;refine xaL (o:=⟨none,.store 27 (.tmp 20) (.tmp 201),0,_,_,none⟩) rfl (fun K' hK=>?_)
   go_simp;refine hK _ _ (fun h=>absurd h (by decide)) ?_
   clear hK K'
   try simp only[Act.put,qzF,qzG,qzH]
   refine xaw (by kernel_rfl) ?_ _
   try simp only[Act.put,qzF,qzG,qzH]
   have HE1:=hid e1;have HE2:=hid e2;have HE3:=hid e3;clear e1 e2 e3 hSl hS0 hF1 x00 x01 x0f hx0
   go_upto_region 42 with (fail)
   exact xoq HH.out HOP.out (xn9 HB1.out hWl2 hxb HE1.out HE2.out HE3.out hgg HN.out.1 HN.out.2.1 HN.out.2.2) (by assumption) (by assumption)
 ·subst hi;refine xaL (o:=⟨some 20,.alloc 27,0,_,_,none⟩) rfl (fun K' hK=>?_)
  have hbz:Below W.heap.size W (W.drew.alloc (.cells #[.int .i64 0,.int .i64 0] 27)):=xae (Below.refl _ W).drew (xaj _ _);go_simp;refine hK _ _ (fun _=>hSl _ hbz) ?_
  clear hK K'
  try simp only[Act.put,qzF,qzG,qzH]
  refine xab (rs:=[0]) (by kernel_rfl) (by simp) ?_
  intro i hi;simp only[List.mem_cons,List.not_mem_nil,or_false] at hi;subst hi;refine xaL (o:=⟨some 192,.buildSlice 28 0 #[],28,_,_,none⟩) rfl (fun K' hK=>?_)
  replace hbz:Below W.heap.size W ((W.drew.alloc (.cells #[.int .i64 0,.int .i64 0] 27)).alloc (.cells #[] 27)):=xae hbz (xaj _ _);go_simp;refine hK _ _ (fun _=>hSl _ hbz) ?_
  clear hK K'
  try simp only[Act.put,qzF,qzG,qzH]
  refine xab (rs:=[4]) (by kernel_rfl) (by simp) ?_
  intro i hi;simp only[List.mem_cons,List.not_mem_nil,or_false] at hi;subst hi;refine xaL (o:=⟨some 196,.call ⟨.builtin .append,#[.tmp 192,.tmp 195],#[28,28]⟩,28,_,_,none⟩) rfl (fun K' hK=>?_)
  obtain⟨g,cap1,w1,hrun1,hown,hgB,hgl,hbA⟩:=xbX (w:=(W.drew.alloc (.cells #[.int .i64 0,.int .i64 0] 27)).alloc (.cells #[] 27)) 28 28 27 _ 2 16 Tryz.underlying28 xbR rfl (by omega) (by omega) (W.drew.heap.size+1) (by have:=heap_alloc_new (W.drew.alloc (.cells #[.int .i64 0,.int .i64 0] 27)) (.cells #[] 27);simpa using this) ad na (sc-(nn+1)) (xak (f.stack.drop (nn+1))) hvl (fun j u hj=>by obtain⟨b,e,h⟩:=HV.out j u hj;exact⟨b,e,qzA hbz h⟩) (by omega)
  have hb1:Below W.heap.size W w1:=xae hbz hbA;refine xar rfl (.tmp 192) (.tmp 195) 28 rfl (.slice (some ⟨W.drew.heap.size+1,0,none⟩) 0 0) (.slice ad na (sc-(nn+1))) (.slice (some ⟨g,0,none⟩) na cap1) (by simp[Act.eval,Act.put]) (by simp[Act.eval,Act.put]) hrun1 ?_
  refine hK _ _ (fun _=>hSl _ hb1) ?_
  clear hK K'
  try simp only[Act.put,qzF,qzG,qzH]
  refine tk 11 (⟨some 19,.assign (.tmp 196),28,_,_,none⟩) (.slice (some ⟨g,0,none⟩) na cap1) rfl (hSl _ hb1) (fun _ _ _ h=>h) rfl (by kernel_rfl) ?_ ?_
  ·rintro w⟨q0,q1,q2⟩;go_simp
  try simp only[Act.put,qzF,qzG,qzH]
  have hx0:(w1).heap[W.heap.size]?=some (.cells #[.int .i64 0,.int .i64 0] 27 (0,0)):=xad (xad (heap_alloc_new W.drew (.cells #[.int .i64 0,.int .i64 0] 27)) (xaj _ _)) hbA;have x00:(w1).cell? ⟨W.heap.size,0,none⟩=some (.int .i64 0):=by rw[qzB hx0];rfl
  have x01:(w1).cell? ⟨W.heap.size,1,none⟩=some (.int .i64 0):=by rw[qzB hx0];rfl
  have x0f:=xam hx0;obtain⟨e1,e2,e3⟩:=sd41 (n:=na) xv hb1 hown (by rw[List.length_drop];omega) (by omega) (by show W.heap.size<=W.heap.size+1;omega) (show W.heap.size<=W.heap.size from (qzC _)) (by have h2:((W.drew.alloc (.cells #[.int .i64 0,.int .i64 0] 27)).alloc (.cells #[] 27)).heap.size=W.heap.size+2:=(by simp);have h3:W.drew.heap.size=W.heap.size:=rfl;rw[h2] at hgB;omega) hx0
  have hgg:W.heap.size<=W.heap.size:=(qzC _);refine xab (rs:=[12]) (by kernel_rfl) (by simp) ?_
  intro i hi;simp only[List.mem_cons,List.not_mem_nil,or_false] at hi;subst hi;refine xaL (o:=⟨none,.store 27 (.tmp 20) (.tmp 201),0,_,_,none⟩) rfl (fun K' hK=>?_)
  go_simp;refine hK _ _ (fun h=>absurd h (by decide)) ?_
  clear hK K'
  try simp only[Act.put,qzF,qzG,qzH]
  refine xaw (by kernel_rfl) ?_ _
  try simp only[Act.put,qzF,qzG,qzH]
  have HE1:=hid e1;have HE2:=hid e2;have HE3:=hid e3;clear e1 e2 e3 hSl hS0 hF1 x00 x01 x0f hx0
  go_upto_region 42 with (fail)
  exact xoq HH.out HOP.out (xn9 HB1.out hWl2 hxb HE1.out HE2.out HE3.out hgg HN.out.1 HN.out.2.1 HN.out.2.2) (by assumption) (by assumption)
theorem br15 {p:Rp}{d:Nat}{T T1:Nat->Nat}{w wr W:World}{mb K:Nat}{R:Mc RSt × QV × Int}{av kv:Value}{gk G':Nat}{m:Mc RSt}{f:Fr}{c:Int}{n1 n2 n3 k:Nat}{x:QI}{hv sv ov:Value}{sa:Option Addr}{sc:Nat}(H:SwC p d T w mb K R av kv gk G' c n1 n2 n3 T1 m f wr W k x hv sv ov sa sc)(hop:x.op=15)
  {u0 u1 u2 u3 u4 u5 u6 u7 u8 u9 ua ub uc ud ue uf ug uh ui uj uk ul um un uo up uq ur us ut uu uv uw ux uy uz ua0 ua1 ua2 ua3 ua4 ua5 ua6 ua7 ua8 ua9
  uaa uab uac uad uae uaf uag uah uai uaj uak ual uam uan uao uap uaq uar uas uat uau uav uaw uax uay uaz ub0 ub1 ub2 ub3 ub4 ub5 ub6 ub7 ub8 ub9 uba ubb ubc ubd ube ubf ubg ubh
  ubi ubj ubk ubl ubm ubn ubo ubp ubq ubr ubs ubt ubu ubv ubw ubx uby ubz uc0 uc1 uc2 uc3 uc4 uc5 uc6 uc7 uc8 uc9 uca ucb ucc ucd uce ucf ucg uch
  uci ucj uck ucl ucm ucn uco ucp ucq ucr ucs uct ucu ucv ucw ucx ucy ucz ud0 ud1 ud2 ud3 ud4 ud5 ud6 ud7 ud8 ud9 uda udb udc udd ude udf udg udh
  udi udj udk udl udm udn udo udp udq udr uds udt udu udv udw udx udy udz ue0 ue1 ue2 ue3 ue4 ue5 ue6 ue7 ue8 ue9 uea ueb uec ued uee uef ueg ueh
  uei uej uek uel uem uen ueo uep ueq uer ues uet ueu uev uew uex uey uez uf0 uf1 uf2 uf3 uf4 uf5 uf6 uf7 uf8 uf9 ufa ufb ufc ufd ufe uff ufg ufh
  ufi ufj ufk ufl ufm ufn ufo ufp ufq ufr ufs uft ufu ufv ufw ufx ufy ufz ug0 ug1 ug2 ug3 ug4 ug5 ug6 ug7 ug8 ug9 uga ugb ugc ugd uge ugf ugg ugh
  ugi ugj ugk ugl ugm ugn ugo ugp ugq ugr ugs ugt ugu ugv ugw ugx ugy ugz uh0 uh1 uh2 uh3:Value}
  {KT K2 K3:Act->World->Prop}
  (hN:∀ (u5 u6 u7 u8 u9 ua ub uc uu uv uw ux uy uz ua0 ua1 ua2 ua3 ua4 ua5 ua6 ua7 ua8 ua9 uaa uab uac uad uae uaf uag uah uai uaj uak ual uam uan uao uap uaq uar uas uat uau
  uav uaw uax uay uaz ub0 ub1 ub2 ub3 ub4 ub5 ub6 ub7 ub8 ub9 uba ubb ubc ubd ube ubf ubg ubh ubi ubj ubk ubl ubm ubn ubo ubp ubq ubr ubs ubt ubu ubv ubw ubx uby
  ubz uc0 uc1 uc2 uc3 uc4 uc5 uc6 uc7 uc8 uc9 uca ucb ucc ucd uce ucf ucg uch uci ucj uck ucl ucm ucn uco ucp ucq ucr ucs uct ucu ucv ucw ucx ucy
  ucz ud0 ud1 ud2 ud3 ud4 ud5 ud6 ud7 ud8 ud9 uda udb udc udd ude udf udg udh udi udj udk udl udm udn udo udp udq udr uds udt udu udv udw udx udy
  udz ue0 ue1 ue2 ue3 ue4 ue5 ue6 ue7 ue8 ue9 uea ueb uec ued uee uef ueg ueh uei uej uek uel uem uen ueo uep ueq uer ues uet ueu uev uew uex uey
  uez uf0 uf1 uf2 uf3 uf4 uf5 uf6 uf7 uf8 uf9 ufa ufb ufc ufd ufe uff ufg ufh ufi ufj ufk ufl ufm ufn ufo ufp ufq ufr ufs uft ufu ufv ufw ufx ufy
  ufz ug0 ug1 ug2 ug3 ug4 ug5 ug6 ug7 ug8 ug9 uga ugb ugc ugd uge ugf ugg ugh ugi ugj:Value) (tg:Int) (w':World),xgn p d T w mb K R av kv G' c n1 n2 n3 T1 m f wr k x tg w'->KT (Act.mk #[.pointer (some ⟨mb,0,none⟩),.int .i64 c,u0,u1,av,u2,u3,.pointer (some ⟨w.heap.size,0,none⟩),.pointer (some ⟨w.heap.size+1,0,none⟩),u4,.pointer (some
  ⟨w.heap.size+2,0,none⟩),.slice (some ⟨w.heap.size+3,0,none⟩) n2 n2,.pointer (some ⟨w.heap.size+4,0,none⟩),.func (.func 71) #[] #[.pointer (some ⟨w.heap.size+4,0,
  none⟩)],.int .i64 (k:Int),.pointer (some ⟨wr.heap.size,0,none⟩),.int .i64 tg,u5,u6,u7,u8,u9,ua,ub,uc,ud,ue,uf,ug,uh,ui,uj,uk,ul,um,un,
  uo,up,uq,ur,us,ut,.int .i64 15,uu,uv,uw,ux,uy,uz,ua0,ua1,ua2,ua3,ua4,ua5,ua6,ua7,ua8,ua9,uaa,uab,uac,uad,uae,uaf,uag,uah,uai,uaj,uak,
  ual,uam,uan,uao,uap,uaq,uar,uas,uat,uau,uav,uaw,uax,uay,uaz,ub0,ub1,ub2,ub3,ub4,ub5,ub6,ub7,ub8,ub9,uba,ubb,ubc,ubd,ube,ubf,ubg,ubh,ubi,ubj,
  ubk,ubl,ubm,ubn,ubo,ubp,ubq,ubr,ubs,ubt,ubu,ubv,ubw,ubx,uby,ubz,uc0,uc1,uc2,uc3,uc4,uc5,uc6,uc7,uc8,uc9,uca,ucb,ucc,ucd,
  uce,ucf,ucg,uch,uci,ucj,uck,ucl,ucm,ucn,uco,ucp,ucq,ucr,ucs,uct,ucu,ucv,ucw,ucx,ucy,ucz,ud0,ud1,ud2,ud3,ud4,ud5,ud6,ud7,
  ud8,ud9,uda,udb,udc,udd,ude,udf,udg,udh,udi,udj,udk,udl,udm,udn,udo,udp,udq,udr,uds,udt,udu,udv,udw,udx,udy,udz,ue0,ue1,
  ue2,ue3,ue4,ue5,ue6,ue7,ue8,ue9,uea,ueb,uec,ued,uee,uef,ueg,ueh,uei,uej,uek,uel,uem,uen,ueo,uep,ueq,uer,ues,uet,ueu,uev,
  uew,uex,uey,uez,uf0,uf1,uf2,uf3,uf4,uf5,uf6,uf7,uf8,uf9,ufa,ufb,ufc,ufd,ufe,uff,ufg,ufh,ufi,ufj,ufk,ufl,ufm,ufn,ufo,ufp,
  ufq,ufr,ufs,uft,ufu,ufv,ufw,ufx,ufy,ufz,ug0,ug1,ug2,ug3,ug4,ug5,ug6,ug7,ug8,ug9,uga,ugb,ugc,ugd,uge,ugf,ugg,ugh,ugi,ugj,
  ugk,ugl,ugm,ugn,ugo,ugp,ugq,ugr,ugs,ugt,ugu,ugv,ugw,ugx,ugy,ugz,uh0,uh1,uh2,uh3] []) w')
  {K9:Act->World->Prop} (hK9:∀ a w',Code.wp Tryz.prog sw9 (Exit.inBlock 2 (Exit.then KT (Exit.inBlock 1 (Exit.then K2 (Exit.inBlock 0 (Exit.then K3 (bodyPost Tryz.prog Tryz.f52 fun e w'=>xaX p T w mb (20-(d:Int)) K R e w'))))))) a w'->K9 a w') :
  Code.wp Tryz.prog xdf (Exit.then K9 (Exit.inBlock 2 (Exit.then KT (Exit.inBlock 1 (Exit.then K2 (Exit.inBlock 0 (Exit.then K3 (bodyPost Tryz.prog Tryz.f52 fun e w'=>xaX p T w mb (20-(d:Int)) K R e w')))))))) (Act.mk #[.pointer (some ⟨mb,0,none⟩),.int .i64 c,u0,u1,av,u2,u3,.pointer (some ⟨w.heap.size,0,none⟩),.pointer (some ⟨w.heap.size+1,0,none⟩),u4,.pointer (some
  ⟨w.heap.size+2,0,none⟩),.slice (some ⟨w.heap.size+3,0,none⟩) n2 n2,.pointer (some ⟨w.heap.size+4,0,none⟩),.func (.func 71) #[] #[.pointer (some ⟨w.heap.size+4,0,
  none⟩)],.int .i64 (k:Int),.pointer (some ⟨wr.heap.size,0,none⟩),.int .i64 ((k:Int)+1),u5,u6,u7,u8,u9,ua,ub,uc,ud,ue,uf,ug,uh,ui,uj,uk,
  ul,um,un,uo,up,uq,ur,us,ut,.int .i64 15,uu,uv,uw,ux,uy,uz,ua0,ua1,ua2,ua3,ua4,ua5,ua6,ua7,ua8,ua9,uaa,uab,uac,uad,uae,uaf,uag,uah,
  uai,uaj,uak,ual,uam,uan,uao,uap,uaq,uar,uas,uat,uau,uav,uaw,uax,uay,uaz,ub0,ub1,ub2,ub3,ub4,ub5,ub6,ub7,ub8,ub9,uba,ubb,ubc,ubd,ube,ubf,ubg,
  ubh,ubi,ubj,ubk,ubl,ubm,ubn,ubo,ubp,ubq,ubr,ubs,ubt,ubu,ubv,ubw,ubx,uby,ubz,uc0,uc1,uc2,uc3,uc4,uc5,uc6,uc7,uc8,uc9,uca,
  ucb,ucc,ucd,uce,ucf,ucg,uch,uci,ucj,uck,ucl,ucm,ucn,uco,ucp,ucq,ucr,ucs,uct,ucu,ucv,ucw,ucx,ucy,ucz,ud0,ud1,ud2,ud3,ud4,
  ud5,ud6,ud7,ud8,ud9,uda,udb,udc,udd,ude,udf,udg,udh,udi,udj,udk,udl,udm,udn,udo,udp,udq,udr,uds,udt,udu,udv,udw,udx,udy,
  udz,ue0,ue1,ue2,ue3,ue4,ue5,ue6,ue7,ue8,ue9,uea,ueb,uec,ued,uee,uef,ueg,ueh,uei,uej,uek,uel,uem,uen,ueo,uep,ueq,uer,ues,
  uet,ueu,uev,uew,uex,uey,uez,uf0,uf1,uf2,uf3,uf4,uf5,uf6,uf7,uf8,uf9,ufa,ufb,ufc,ufd,ufe,uff,ufg,ufh,ufi,ufj,ufk,ufl,ufm,
  ufn,ufo,ufp,ufq,ufr,ufs,uft,ufu,ufv,ufw,ufx,ufy,ufz,ug0,ug1,ug2,ug3,ug4,ug5,ug6,ug7,ug8,ug9,uga,ugb,ugc,ugd,uge,ugf,ugg,
  ugh,ugi,ugj,ugk,ugl,ugm,ugn,ugo,ugp,ugq,ugr,ugs,ugt,ugu,ugv,ugw,ugx,ugy,ugz,uh0,uh1,uh2,uh3] []) W:=by
 obtain⟨hX,hEn,HR0,HG0,HX0,HMa0,HF0,hscap,HL0,hbel,hxb,⟨aa,ca,rfl,hca⟩,ht40,HI0⟩:=H;have HR:=hid HR0;have HG:=hid HG0;have HX:=hid HX0;have HMa:=hid HMa0;have HF:=hid HF0;have HL:=hid HL0;have HB1:=hid hbel;have HI:=hid HI0;have HOP:=hid hop;have HEn:=hid hEn;have hM1:=HMa0.later hbel;have hF1:=HF0.later hbel;obtain⟨hsc1,hsc2⟩:=hscap;have hBl:w.heap.size+4<wr.heap.size:=xai HF0.sb;have hWl:wr.heap.size<=W.heap.size:=hbel.size;clear HR0 HG0 HX0 HMa0 HF0 HL0 HI0 hop hbel hEn;unfold xdf;unfold sw9 at hK9;have x1:=hxb.x1;have HM2:=hid hM1;have HF2:=hid hF1;clear hM1 hF1;go_wp2
 exact Or.inr ⟨rfl,by have:=HOP.out;omega,{ f with pc:=f.pc+1 },T1,_,_,_,_,.refl _ _,Kp.of_below HB1.out,HM2.out,HF2.out.at _,HL.out,xlk HOP.out HX.out⟩
theorem br16 {p:Rp}{d:Nat}{T T1:Nat->Nat}{w wr W:World}{mb K:Nat}{R:Mc RSt × QV × Int}{av kv:Value}{gk G':Nat}{m:Mc RSt}{f:Fr}{c:Int}{n1 n2 n3 k:Nat}{x:QI}{hv sv ov:Value}{sa:Option Addr}{sc:Nat}(H:SwC p d T w mb K R av kv gk G' c n1 n2 n3 T1 m f wr W k x hv sv ov sa sc)(hop:x.op=16)
  {u0 u1 u2 u3 u4 u5 u6 u7 u8 u9 ua ub uc ud ue uf ug uh ui uj uk ul um un uo up uq ur us ut uu uv uw ux uy uz ua0 ua1 ua2 ua3 ua4 ua5 ua6 ua7 ua8 ua9
  uaa uab uac uad uae uaf uag uah uai uaj uak ual uam uan uao uap uaq uar uas uat uau uav uaw uax uay uaz ub0 ub1 ub2 ub3 ub4 ub5 ub6 ub7 ub8 ub9 uba ubb ubc ubd ube ubf ubg ubh
  ubi ubj ubk ubl ubm ubn ubo ubp ubq ubr ubs ubt ubu ubv ubw ubx uby ubz uc0 uc1 uc2 uc3 uc4 uc5 uc6 uc7 uc8 uc9 uca ucb ucc ucd uce ucf ucg uch
  uci ucj uck ucl ucm ucn uco ucp ucq ucr ucs uct ucu ucv ucw ucx ucy ucz ud0 ud1 ud2 ud3 ud4 ud5 ud6 ud7 ud8 ud9 uda udb udc udd ude udf udg udh
  udi udj udk udl udm udn udo udp udq udr uds udt udu udv udw udx udy udz ue0 ue1 ue2 ue3 ue4 ue5 ue6 ue7 ue8 ue9 uea ueb uec ued uee uef ueg ueh
  uei uej uek uel uem uen ueo uep ueq uer ues uet ueu uev uew uex uey uez uf0 uf1 uf2 uf3 uf4 uf5 uf6 uf7 uf8 uf9 ufa ufb ufc ufd ufe uff ufg ufh
  ufi ufj ufk ufl ufm ufn ufo ufp ufq ufr ufs uft ufu ufv ufw ufx ufy ufz ug0 ug1 ug2 ug3 ug4 ug5 ug6 ug7 ug8 ug9 uga ugb ugc ugd uge ugf ugg ugh
  ugi ugj ugk ugl ugm ugn ugo ugp ugq ugr ugs ugt ugu ugv ugw ugx ugy ugz uh0 uh1 uh2 uh3:Value}
  {KT K2 K3:Act->World->Prop}
  (hN:∀ (u5 u6 u7 u8 u9 ua ub uc uu uv uw ux uy uz ua0 ua1 ua2 ua3 ua4 ua5 ua6 ua7 ua8 ua9 uaa uab uac uad uae uaf uag uah uai uaj uak ual uam uan uao uap uaq uar uas uat uau
  uav uaw uax uay uaz ub0 ub1 ub2 ub3 ub4 ub5 ub6 ub7 ub8 ub9 uba ubb ubc ubd ube ubf ubg ubh ubi ubj ubk ubl ubm ubn ubo ubp ubq ubr ubs ubt ubu ubv ubw ubx uby
  ubz uc0 uc1 uc2 uc3 uc4 uc5 uc6 uc7 uc8 uc9 uca ucb ucc ucd uce ucf ucg uch uci ucj uck ucl ucm ucn uco ucp ucq ucr ucs uct ucu ucv ucw ucx ucy
  ucz ud0 ud1 ud2 ud3 ud4 ud5 ud6 ud7 ud8 ud9 uda udb udc udd ude udf udg udh udi udj udk udl udm udn udo udp udq udr uds udt udu udv udw udx udy
  udz ue0 ue1 ue2 ue3 ue4 ue5 ue6 ue7 ue8 ue9 uea ueb uec ued uee uef ueg ueh uei uej uek uel uem uen ueo uep ueq uer ues uet ueu uev uew uex uey
  uez uf0 uf1 uf2 uf3 uf4 uf5 uf6 uf7 uf8 uf9 ufa ufb ufc ufd ufe uff ufg ufh ufi ufj ufk ufl ufm ufn ufo ufp ufq ufr ufs uft ufu ufv ufw ufx ufy
  ufz ug0 ug1 ug2 ug3 ug4 ug5 ug6 ug7 ug8 ug9 uga ugb ugc ugd uge ugf ugg ugh ugi ugj:Value) (tg:Int) (w':World),xgn p d T w mb K R av kv G' c n1 n2 n3 T1 m f wr k x tg w'->KT (Act.mk #[.pointer (some ⟨mb,0,none⟩),.int .i64 c,u0,u1,av,u2,u3,.pointer (some ⟨w.heap.size,0,none⟩),.pointer (some ⟨w.heap.size+1,0,none⟩),u4,.pointer (some
  ⟨w.heap.size+2,0,none⟩),.slice (some ⟨w.heap.size+3,0,none⟩) n2 n2,.pointer (some ⟨w.heap.size+4,0,none⟩),.func (.func 71) #[] #[.pointer (some ⟨w.heap.size+4,0,
  none⟩)],.int .i64 (k:Int),.pointer (some ⟨wr.heap.size,0,none⟩),.int .i64 tg,u5,u6,u7,u8,u9,ua,ub,uc,ud,ue,uf,ug,uh,ui,uj,uk,ul,um,un,
  uo,up,uq,ur,us,ut,.int .i64 16,uu,uv,uw,ux,uy,uz,ua0,ua1,ua2,ua3,ua4,ua5,ua6,ua7,ua8,ua9,uaa,uab,uac,uad,uae,uaf,uag,uah,uai,uaj,uak,
  ual,uam,uan,uao,uap,uaq,uar,uas,uat,uau,uav,uaw,uax,uay,uaz,ub0,ub1,ub2,ub3,ub4,ub5,ub6,ub7,ub8,ub9,uba,ubb,ubc,ubd,ube,ubf,ubg,ubh,ubi,ubj,
  ubk,ubl,ubm,ubn,ubo,ubp,ubq,ubr,ubs,ubt,ubu,ubv,ubw,ubx,uby,ubz,uc0,uc1,uc2,uc3,uc4,uc5,uc6,uc7,uc8,uc9,uca,ucb,ucc,ucd,
  uce,ucf,ucg,uch,uci,ucj,uck,ucl,ucm,ucn,uco,ucp,ucq,ucr,ucs,uct,ucu,ucv,ucw,ucx,ucy,ucz,ud0,ud1,ud2,ud3,ud4,ud5,ud6,ud7,
  ud8,ud9,uda,udb,udc,udd,ude,udf,udg,udh,udi,udj,udk,udl,udm,udn,udo,udp,udq,udr,uds,udt,udu,udv,udw,udx,udy,udz,ue0,ue1,
  ue2,ue3,ue4,ue5,ue6,ue7,ue8,ue9,uea,ueb,uec,ued,uee,uef,ueg,ueh,uei,uej,uek,uel,uem,uen,ueo,uep,ueq,uer,ues,uet,ueu,uev,
  uew,uex,uey,uez,uf0,uf1,uf2,uf3,uf4,uf5,uf6,uf7,uf8,uf9,ufa,ufb,ufc,ufd,ufe,uff,ufg,ufh,ufi,ufj,ufk,ufl,ufm,ufn,ufo,ufp,
  ufq,ufr,ufs,uft,ufu,ufv,ufw,ufx,ufy,ufz,ug0,ug1,ug2,ug3,ug4,ug5,ug6,ug7,ug8,ug9,uga,ugb,ugc,ugd,uge,ugf,ugg,ugh,ugi,ugj,
  ugk,ugl,ugm,ugn,ugo,ugp,ugq,ugr,ugs,ugt,ugu,ugv,ugw,ugx,ugy,ugz,uh0,uh1,uh2,uh3] []) w')
  {K9:Act->World->Prop} (hK9:∀ a w',Code.wp Tryz.prog sw9 (Exit.inBlock 2 (Exit.then KT (Exit.inBlock 1 (Exit.then K2 (Exit.inBlock 0 (Exit.then K3 (bodyPost Tryz.prog Tryz.f52 fun e w'=>xaX p T w mb (20-(d:Int)) K R e w'))))))) a w'->K9 a w') :
  Code.wp Tryz.prog xdf (Exit.then K9 (Exit.inBlock 2 (Exit.then KT (Exit.inBlock 1 (Exit.then K2 (Exit.inBlock 0 (Exit.then K3 (bodyPost Tryz.prog Tryz.f52 fun e w'=>xaX p T w mb (20-(d:Int)) K R e w')))))))) (Act.mk #[.pointer (some ⟨mb,0,none⟩),.int .i64 c,u0,u1,av,u2,u3,.pointer (some ⟨w.heap.size,0,none⟩),.pointer (some ⟨w.heap.size+1,0,none⟩),u4,.pointer (some
  ⟨w.heap.size+2,0,none⟩),.slice (some ⟨w.heap.size+3,0,none⟩) n2 n2,.pointer (some ⟨w.heap.size+4,0,none⟩),.func (.func 71) #[] #[.pointer (some ⟨w.heap.size+4,0,
  none⟩)],.int .i64 (k:Int),.pointer (some ⟨wr.heap.size,0,none⟩),.int .i64 ((k:Int)+1),u5,u6,u7,u8,u9,ua,ub,uc,ud,ue,uf,ug,uh,ui,uj,uk,
  ul,um,un,uo,up,uq,ur,us,ut,.int .i64 16,uu,uv,uw,ux,uy,uz,ua0,ua1,ua2,ua3,ua4,ua5,ua6,ua7,ua8,ua9,uaa,uab,uac,uad,uae,uaf,uag,uah,
  uai,uaj,uak,ual,uam,uan,uao,uap,uaq,uar,uas,uat,uau,uav,uaw,uax,uay,uaz,ub0,ub1,ub2,ub3,ub4,ub5,ub6,ub7,ub8,ub9,uba,ubb,ubc,ubd,ube,ubf,ubg,
  ubh,ubi,ubj,ubk,ubl,ubm,ubn,ubo,ubp,ubq,ubr,ubs,ubt,ubu,ubv,ubw,ubx,uby,ubz,uc0,uc1,uc2,uc3,uc4,uc5,uc6,uc7,uc8,uc9,uca,
  ucb,ucc,ucd,uce,ucf,ucg,uch,uci,ucj,uck,ucl,ucm,ucn,uco,ucp,ucq,ucr,ucs,uct,ucu,ucv,ucw,ucx,ucy,ucz,ud0,ud1,ud2,ud3,ud4,
  ud5,ud6,ud7,ud8,ud9,uda,udb,udc,udd,ude,udf,udg,udh,udi,udj,udk,udl,udm,udn,udo,udp,udq,udr,uds,udt,udu,udv,udw,udx,udy,
  udz,ue0,ue1,ue2,ue3,ue4,ue5,ue6,ue7,ue8,ue9,uea,ueb,uec,ued,uee,uef,ueg,ueh,uei,uej,uek,uel,uem,uen,ueo,uep,ueq,uer,ues,
  uet,ueu,uev,uew,uex,uey,uez,uf0,uf1,uf2,uf3,uf4,uf5,uf6,uf7,uf8,uf9,ufa,ufb,ufc,ufd,ufe,uff,ufg,ufh,ufi,ufj,ufk,ufl,ufm,
  ufn,ufo,ufp,ufq,ufr,ufs,uft,ufu,ufv,ufw,ufx,ufy,ufz,ug0,ug1,ug2,ug3,ug4,ug5,ug6,ug7,ug8,ug9,uga,ugb,ugc,ugd,uge,ugf,ugg,
  ugh,ugi,ugj,ugk,ugl,ugm,ugn,ugo,ugp,ugq,ugr,ugs,ugt,ugu,ugv,ugw,ugx,ugy,ugz,uh0,uh1,uh2,uh3] []) W:=by
 obtain⟨hX,hEn,HR0,HG0,HX0,HMa0,HF0,hscap,HL0,hbel,hxb,⟨aa,ca,rfl,hca⟩,ht40,HI0⟩:=H;have HR:=hid HR0;have HG:=hid HG0;have HX:=hid HX0;have HMa:=hid HMa0;have HF:=hid HF0;have HL:=hid HL0;have HB1:=hid hbel;have HI:=hid HI0;have HOP:=hid hop;have HEn:=hid hEn;have hM1:=HMa0.later hbel;have hF1:=HF0.later hbel;obtain⟨hsc1,hsc2⟩:=hscap;have hBl:w.heap.size+4<wr.heap.size:=xai HF0.sb;have hWl:wr.heap.size<=W.heap.size:=hbel.size;clear HR0 HG0 HX0 HMa0 HF0 HL0 HI0 hop hbel hEn;unfold xdf;unfold sw9 at hK9
 have hnx:0<f.stack.length:=by
  have hneed:=HX.out.need;have hop:x.op=16:=HOP.out;unfold xaP at hneed
  simp[hop] at hneed
  omega
 have x1:=hxb.x1;have hFt:=HF.out.t4W (U:=W) HB1.out;have hMt:=HMa.out.t4W (U:=W) HB1.out;have hp5:=hFt.pos;clear hM1 hF1;go_wp2_with fail;refine (xes hFt hnx).mono ?_;rintro e w2 ⟨rfl,⟨st',hF2⟩,hK2⟩;dsimp only;have hbx:=xaj w2 (.cells #[.int .i64 f.top.k,.int .i64 f.top.n] 27);have hx2:=hK2.cell x1 (by rw[xaC (qzC _)];omega)
 have hx3:=qzA hbx hx2;have b0:(w2.alloc (.cells #[.int .i64 f.top.k,.int .i64 f.top.n] 27)).cell? ⟨w2.heap.size,0,none⟩=some (.int .i64 f.top.k):=xaa _ _ _ _ rfl 0;have HF3:=hid (hF2.later hbx);have hM3:=(hMt.keep (.refl _ _) hK2 (by omega) (by omega) (by omega) (by omega)).later hbx
 have HM3:=hid hM3;have HK3:Hid (Kp (All K) T1 wr (w2.alloc (.cells #[.int .i64 f.top.k,.int .i64 f.top.n] 27))):=kp4 HB1.out ((xdu hK2 fun t ht=>by omega).on hbx)
 have c7:=hM3.c7;have cf7:=xam hM3.box;have HN7:=hid (hM3.num7 11);have HT7:=hid hM3.tag;clear hF2 hK2 hFt hMt x1 hbx hx2 hM3
 go_upto_region 53 with (fail)
 generalize (w2.alloc (.cells #[.int .i64 f.top.k,.int .i64 f.top.n] 27))=V at *
 by_cases h1:f.top.k=1
 ·have H1:=hid h1;rw[h1] at b0;clear h1;go_wp2
  exact Or.inr ⟨rfl,by have:=HOP.out;omega,({ f with pc:=f.pc+1 }:Fr).pop,xay T1 wr 4,_,_,_,_,xan T1 wr 4,HK3.out,HM3.out,HF3.out.at _,HL.out,xks HOP.out H1.out HX.out⟩
 ·have hd1:(f.top.k == 1)=false:=by simpa using h1
  have H1:=hid h1;clear h1
  by_cases h2:f.top.k=2
  ·have H2:=hid h2;rw[h2] at b0;clear h2 hd1;go_wp2
   exact Or.inl ⟨rfl,xoQ hX HR.out HG.out HX.out HOP.out H2.out HL.out (xan T1 wr 4) HK3.out HM3.out HF3.out⟩
  ·have hd2:(f.top.k == 2)=false:=by simpa using h2
   have H2:=hid h2;clear h2;go_wp2
   exact Or.inl ⟨rfl,xmh hX HR.out HG.out HX.out HOP.out H1.out H2.out (xan T1 wr 4) (HK3.out.trans (xan T1 wr 4) ((Kp.refl (All K) _ _).set (fun _=>Or.inl HT7.out) _ _)) HN7.out⟩
theorem br17 {p:Rp}{d:Nat}{T T1:Nat->Nat}{w wr W:World}{mb K:Nat}{R:Mc RSt × QV × Int}{av kv:Value}{gk G':Nat}{m:Mc RSt}{f:Fr}{c:Int}{n1 n2 n3 k:Nat}{x:QI}{hv sv ov:Value}{sa:Option Addr}{sc:Nat}(H:SwC p d T w mb K R av kv gk G' c n1 n2 n3 T1 m f wr W k x hv sv ov sa sc)(hop:x.op=17)
  {u0 u1 u2 u3 u4 u5 u6 u7 u8 u9 ua ub uc ud ue uf ug uh ui uj uk ul um un uo up uq ur us ut uu uv uw ux uy uz ua0 ua1 ua2 ua3 ua4 ua5 ua6 ua7 ua8 ua9
  uaa uab uac uad uae uaf uag uah uai uaj uak ual uam uan uao uap uaq uar uas uat uau uav uaw uax uay uaz ub0 ub1 ub2 ub3 ub4 ub5 ub6 ub7 ub8 ub9 uba ubb ubc ubd ube ubf ubg ubh
  ubi ubj ubk ubl ubm ubn ubo ubp ubq ubr ubs ubt ubu ubv ubw ubx uby ubz uc0 uc1 uc2 uc3 uc4 uc5 uc6 uc7 uc8 uc9 uca ucb ucc ucd uce ucf ucg uch
  uci ucj uck ucl ucm ucn uco ucp ucq ucr ucs uct ucu ucv ucw ucx ucy ucz ud0 ud1 ud2 ud3 ud4 ud5 ud6 ud7 ud8 ud9 uda udb udc udd ude udf udg udh
  udi udj udk udl udm udn udo udp udq udr uds udt udu udv udw udx udy udz ue0 ue1 ue2 ue3 ue4 ue5 ue6 ue7 ue8 ue9 uea ueb uec ued uee uef ueg ueh
  uei uej uek uel uem uen ueo uep ueq uer ues uet ueu uev uew uex uey uez uf0 uf1 uf2 uf3 uf4 uf5 uf6 uf7 uf8 uf9 ufa ufb ufc ufd ufe uff ufg ufh
  ufi ufj ufk ufl ufm ufn ufo ufp ufq ufr ufs uft ufu ufv ufw ufx ufy ufz ug0 ug1 ug2 ug3 ug4 ug5 ug6 ug7 ug8 ug9 uga ugb ugc ugd uge ugf ugg ugh
  ugi ugj ugk ugl ugm ugn ugo ugp ugq ugr ugs ugt ugu ugv ugw ugx ugy ugz uh0 uh1 uh2 uh3:Value}
  {KT K2 K3:Act->World->Prop}
  (hN:∀ (u5 u6 u7 u8 u9 ua ub uc uu uv uw ux uy uz ua0 ua1 ua2 ua3 ua4 ua5 ua6 ua7 ua8 ua9 uaa uab uac uad uae uaf uag uah uai uaj uak ual uam uan uao uap uaq uar uas uat uau
  uav uaw uax uay uaz ub0 ub1 ub2 ub3 ub4 ub5 ub6 ub7 ub8 ub9 uba ubb ubc ubd ube ubf ubg ubh ubi ubj ubk ubl ubm ubn ubo ubp ubq ubr ubs ubt ubu ubv ubw ubx uby
  ubz uc0 uc1 uc2 uc3 uc4 uc5 uc6 uc7 uc8 uc9 uca ucb ucc ucd uce ucf ucg uch uci ucj uck ucl ucm ucn uco ucp ucq ucr ucs uct ucu ucv ucw ucx ucy
  ucz ud0 ud1 ud2 ud3 ud4 ud5 ud6 ud7 ud8 ud9 uda udb udc udd ude udf udg udh udi udj udk udl udm udn udo udp udq udr uds udt udu udv udw udx udy
  udz ue0 ue1 ue2 ue3 ue4 ue5 ue6 ue7 ue8 ue9 uea ueb uec ued uee uef ueg ueh uei uej uek uel uem uen ueo uep ueq uer ues uet ueu uev uew uex uey
  uez uf0 uf1 uf2 uf3 uf4 uf5 uf6 uf7 uf8 uf9 ufa ufb ufc ufd ufe uff ufg ufh ufi ufj ufk ufl ufm ufn ufo ufp ufq ufr ufs uft ufu ufv ufw ufx ufy
  ufz ug0 ug1 ug2 ug3 ug4 ug5 ug6 ug7 ug8 ug9 uga ugb ugc ugd uge ugf ugg ugh ugi ugj:Value) (tg:Int) (w':World),xgn p d T w mb K R av kv G' c n1 n2 n3 T1 m f wr k x tg w'->KT (Act.mk #[.pointer (some ⟨mb,0,none⟩),.int .i64 c,u0,u1,av,u2,u3,.pointer (some ⟨w.heap.size,0,none⟩),.pointer (some ⟨w.heap.size+1,0,none⟩),u4,.pointer (some
  ⟨w.heap.size+2,0,none⟩),.slice (some ⟨w.heap.size+3,0,none⟩) n2 n2,.pointer (some ⟨w.heap.size+4,0,none⟩),.func (.func 71) #[] #[.pointer (some ⟨w.heap.size+4,0,
  none⟩)],.int .i64 (k:Int),.pointer (some ⟨wr.heap.size,0,none⟩),.int .i64 tg,u5,u6,u7,u8,u9,ua,ub,uc,ud,ue,uf,ug,uh,ui,uj,uk,ul,um,un,
  uo,up,uq,ur,us,ut,.int .i64 17,uu,uv,uw,ux,uy,uz,ua0,ua1,ua2,ua3,ua4,ua5,ua6,ua7,ua8,ua9,uaa,uab,uac,uad,uae,uaf,uag,uah,uai,uaj,uak,
  ual,uam,uan,uao,uap,uaq,uar,uas,uat,uau,uav,uaw,uax,uay,uaz,ub0,ub1,ub2,ub3,ub4,ub5,ub6,ub7,ub8,ub9,uba,ubb,ubc,ubd,ube,ubf,ubg,ubh,ubi,ubj,
  ubk,ubl,ubm,ubn,ubo,ubp,ubq,ubr,ubs,ubt,ubu,ubv,ubw,ubx,uby,ubz,uc0,uc1,uc2,uc3,uc4,uc5,uc6,uc7,uc8,uc9,uca,ucb,ucc,ucd,
  uce,ucf,ucg,uch,uci,ucj,uck,ucl,ucm,ucn,uco,ucp,ucq,ucr,ucs,uct,ucu,ucv,ucw,ucx,ucy,ucz,ud0,ud1,ud2,ud3,ud4,ud5,ud6,ud7,
  ud8,ud9,uda,udb,udc,udd,ude,udf,udg,udh,udi,udj,udk,udl,udm,udn,udo,udp,udq,udr,uds,udt,udu,udv,udw,udx,udy,udz,ue0,ue1,
  ue2,ue3,ue4,ue5,ue6,ue7,ue8,ue9,uea,ueb,uec,ued,uee,uef,ueg,ueh,uei,uej,uek,uel,uem,uen,ueo,uep,ueq,uer,ues,uet,ueu,uev,
  uew,uex,uey,uez,uf0,uf1,uf2,uf3,uf4,uf5,uf6,uf7,uf8,uf9,ufa,ufb,ufc,ufd,ufe,uff,ufg,ufh,ufi,ufj,ufk,ufl,ufm,ufn,ufo,ufp,
  ufq,ufr,ufs,uft,ufu,ufv,ufw,ufx,ufy,ufz,ug0,ug1,ug2,ug3,ug4,ug5,ug6,ug7,ug8,ug9,uga,ugb,ugc,ugd,uge,ugf,ugg,ugh,ugi,ugj,
  ugk,ugl,ugm,ugn,ugo,ugp,ugq,ugr,ugs,ugt,ugu,ugv,ugw,ugx,ugy,ugz,uh0,uh1,uh2,uh3] []) w')
  {K9:Act->World->Prop} (hK9:∀ a w',Code.wp Tryz.prog sw9 (Exit.inBlock 2 (Exit.then KT (Exit.inBlock 1 (Exit.then K2 (Exit.inBlock 0 (Exit.then K3 (bodyPost Tryz.prog Tryz.f52 fun e w'=>xaX p T w mb (20-(d:Int)) K R e w'))))))) a w'->K9 a w') :
  Code.wp Tryz.prog xdf (Exit.then K9 (Exit.inBlock 2 (Exit.then KT (Exit.inBlock 1 (Exit.then K2 (Exit.inBlock 0 (Exit.then K3 (bodyPost Tryz.prog Tryz.f52 fun e w'=>xaX p T w mb (20-(d:Int)) K R e w')))))))) (Act.mk #[.pointer (some ⟨mb,0,none⟩),.int .i64 c,u0,u1,av,u2,u3,.pointer (some ⟨w.heap.size,0,none⟩),.pointer (some ⟨w.heap.size+1,0,none⟩),u4,.pointer (some
  ⟨w.heap.size+2,0,none⟩),.slice (some ⟨w.heap.size+3,0,none⟩) n2 n2,.pointer (some ⟨w.heap.size+4,0,none⟩),.func (.func 71) #[] #[.pointer (some ⟨w.heap.size+4,0,
  none⟩)],.int .i64 (k:Int),.pointer (some ⟨wr.heap.size,0,none⟩),.int .i64 ((k:Int)+1),u5,u6,u7,u8,u9,ua,ub,uc,ud,ue,uf,ug,uh,ui,uj,uk,
  ul,um,un,uo,up,uq,ur,us,ut,.int .i64 17,uu,uv,uw,ux,uy,uz,ua0,ua1,ua2,ua3,ua4,ua5,ua6,ua7,ua8,ua9,uaa,uab,uac,uad,uae,uaf,uag,uah,
  uai,uaj,uak,ual,uam,uan,uao,uap,uaq,uar,uas,uat,uau,uav,uaw,uax,uay,uaz,ub0,ub1,ub2,ub3,ub4,ub5,ub6,ub7,ub8,ub9,uba,ubb,ubc,ubd,ube,ubf,ubg,
  ubh,ubi,ubj,ubk,ubl,ubm,ubn,ubo,ubp,ubq,ubr,ubs,ubt,ubu,ubv,ubw,ubx,uby,ubz,uc0,uc1,uc2,uc3,uc4,uc5,uc6,uc7,uc8,uc9,uca,
  ucb,ucc,ucd,uce,ucf,ucg,uch,uci,ucj,uck,ucl,ucm,ucn,uco,ucp,ucq,ucr,ucs,uct,ucu,ucv,ucw,ucx,ucy,ucz,ud0,ud1,ud2,ud3,ud4,
  ud5,ud6,ud7,ud8,ud9,uda,udb,udc,udd,ude,udf,udg,udh,udi,udj,udk,udl,udm,udn,udo,udp,udq,udr,uds,udt,udu,udv,udw,udx,udy,
  udz,ue0,ue1,ue2,ue3,ue4,ue5,ue6,ue7,ue8,ue9,uea,ueb,uec,ued,uee,uef,ueg,ueh,uei,uej,uek,uel,uem,uen,ueo,uep,ueq,uer,ues,
  uet,ueu,uev,uew,uex,uey,uez,uf0,uf1,uf2,uf3,uf4,uf5,uf6,uf7,uf8,uf9,ufa,ufb,ufc,ufd,ufe,uff,ufg,ufh,ufi,ufj,ufk,ufl,ufm,
  ufn,ufo,ufp,ufq,ufr,ufs,uft,ufu,ufv,ufw,ufx,ufy,ufz,ug0,ug1,ug2,ug3,ug4,ug5,ug6,ug7,ug8,ug9,uga,ugb,ugc,ugd,uge,ugf,ugg,
  ugh,ugi,ugj,ugk,ugl,ugm,ugn,ugo,ugp,ugq,ugr,ugs,ugt,ugu,ugv,ugw,ugx,ugy,ugz,uh0,uh1,uh2,uh3] []) W:=by
 obtain⟨hX,hEn,HR0,HG0,HX0,HMa0,HF0,hscap,HL0,hbel,hxb,⟨aa,ca,rfl,hca⟩,ht40,HI0⟩:=H;have HR:=hid HR0;have HG:=hid HG0;have HX:=hid HX0;have HMa:=hid HMa0;have HF:=hid HF0;have HL:=hid HL0;have HB1:=hid hbel;have HI:=hid HI0;have HOP:=hid hop;have HEn:=hid hEn;have hM1:=HMa0.later hbel;have hF1:=HF0.later hbel;obtain⟨hsc1,hsc2⟩:=hscap;have hBl:w.heap.size+4<wr.heap.size:=xai HF0.sb;have hWl:wr.heap.size<=W.heap.size:=hbel.size;clear HR0 HG0 HX0 HMa0 HF0 HL0 HI0 hop hbel hEn;unfold xdf;unfold sw9 at hK9;have hnx:0<f.stack.length:=by have:=HX.out.back HOP.out;omega
 go_wp2_with fail;refine (xes hF1 hnx).mono ?_;rintro e w2 ⟨rfl,⟨st',hF2⟩,hK2⟩;dsimp only;have HK2:Hid (Kp (All K) T1 wr w2):=((Kp.of_below HB1.out).trans (.refl _ _) (xdu hK2 fun t ht=>by omega))
 have HM2:=hid (hM1.keep (.refl _ _) hK2 (by have:=hF1.pos;omega) (by have:=hF1.pos;omega) (by have:=hF1.pos;omega) (by have:=hF1.pos;omega))
 obtain⟨⟨q0,q1⟩,qf⟩:=xpn HR.out HK2.out;clear hF1 hF2 hK2 hM1;go_wp2;refine bodyPost_ret (v:=VV f.top) ?_ rfl (HR.out.set_res (.refl _ _) HK2.out HM2.out (xoE HR.out HG.out HX.out HOP.out))
 simp[results,Tryz.results52,go_sem,q0,q1]
theorem xjE {p:Rp}{d:Nat}{T T1:Nat->Nat}{w wr W:World}{mb K:Nat}{R:Mc RSt × QV × Int}{av kv:Value}{gk G':Nat}{m:Mc RSt}{f:Fr}{c:Int}{n1 n2 n3 k:Nat}{x:QI}{hv sv ov:Value}{sa:Option Addr}{sc:Nat}(H:SwC p d T w mb K R av kv gk G' c n1 n2 n3 T1 m f wr W k x hv sv ov sa sc)
  {u0 u1 u2 u3 u4 u5 u6 u7 u8 u9 ua ub uc ud ue uf ug uh ui uj uk ul um un uo up uq ur us ut uu uv uw ux uy uz ua0 ua1 ua2 ua3 ua4 ua5 ua6 ua7 ua8 ua9
  uaa uab uac uad uae uaf uag uah uai uaj uak ual uam uan uao uap uaq uar uas uat uau uav uaw uax uay uaz ub0 ub1 ub2 ub3 ub4 ub5 ub6 ub7 ub8 ub9 uba ubb ubc ubd ube ubf ubg ubh
  ubi ubj ubk ubl ubm ubn ubo ubp ubq ubr ubs ubt ubu ubv ubw ubx uby ubz uc0 uc1 uc2 uc3 uc4 uc5 uc6 uc7 uc8 uc9 uca ucb ucc ucd uce ucf ucg uch
  uci ucj uck ucl ucm ucn uco ucp ucq ucr ucs uct ucu ucv ucw ucx ucy ucz ud0 ud1 ud2 ud3 ud4 ud5 ud6 ud7 ud8 ud9 uda udb udc udd ude udf udg udh
  udi udj udk udl udm udn udo udp udq udr uds udt udu udv udw udx udy udz ue0 ue1 ue2 ue3 ue4 ue5 ue6 ue7 ue8 ue9 uea ueb uec ued uee uef ueg ueh
  uei uej uek uel uem uen ueo uep ueq uer ues uet ueu uev uew uex uey uez uf0 uf1 uf2 uf3 uf4 uf5 uf6 uf7 uf8 uf9 ufa ufb ufc ufd ufe uff ufg ufh
  ufi ufj ufk ufl ufm ufn ufo ufp ufq ufr ufs uft ufu ufv ufw ufx ufy ufz ug0 ug1 ug2 ug3 ug4 ug5 ug6 ug7 ug8 ug9 uga ugb ugc ugd uge ugf ugg ugh
  ugi ugj ugk ugl ugm ugn ugo ugp ugq ugr ugs ugt ugu ugv ugw ugx ugy ugz uh0 uh1 uh2 uh3:Value}
  {KT K2 K3:Act->World->Prop}
  (hN:∀ (u5 u6 u7 u8 u9 ua ub uc uu uv uw ux uy uz ua0 ua1 ua2 ua3 ua4 ua5 ua6 ua7 ua8 ua9 uaa uab uac uad uae uaf uag uah uai uaj uak ual uam uan uao uap uaq uar uas uat uau
  uav uaw uax uay uaz ub0 ub1 ub2 ub3 ub4 ub5 ub6 ub7 ub8 ub9 uba ubb ubc ubd ube ubf ubg ubh ubi ubj ubk ubl ubm ubn ubo ubp ubq ubr ubs ubt ubu ubv ubw ubx uby
  ubz uc0 uc1 uc2 uc3 uc4 uc5 uc6 uc7 uc8 uc9 uca ucb ucc ucd uce ucf ucg uch uci ucj uck ucl ucm ucn uco ucp ucq ucr ucs uct ucu ucv ucw ucx ucy
  ucz ud0 ud1 ud2 ud3 ud4 ud5 ud6 ud7 ud8 ud9 uda udb udc udd ude udf udg udh udi udj udk udl udm udn udo udp udq udr uds udt udu udv udw udx udy
  udz ue0 ue1 ue2 ue3 ue4 ue5 ue6 ue7 ue8 ue9 uea ueb uec ued uee uef ueg ueh uei uej uek uel uem uen ueo uep ueq uer ues uet ueu uev uew uex uey
  uez uf0 uf1 uf2 uf3 uf4 uf5 uf6 uf7 uf8 uf9 ufa ufb ufc ufd ufe uff ufg ufh ufi ufj ufk ufl ufm ufn ufo ufp ufq ufr ufs uft ufu ufv ufw ufx ufy
  ufz ug0 ug1 ug2 ug3 ug4 ug5 ug6 ug7 ug8 ug9 uga ugb ugc ugd uge ugf ugg ugh ugi ugj:Value) (tg:Int) (w':World),xgn p d T w mb K R av kv G' c n1 n2 n3 T1 m f wr k x tg w'->KT (Act.mk #[.pointer (some ⟨mb,0,none⟩),.int .i64 c,u0,u1,av,u2,u3,.pointer (some ⟨w.heap.size,0,none⟩),.pointer (some ⟨w.heap.size+1,0,none⟩),u4,.pointer (some
  ⟨w.heap.size+2,0,none⟩),.slice (some ⟨w.heap.size+3,0,none⟩) n2 n2,.pointer (some ⟨w.heap.size+4,0,none⟩),.func (.func 71) #[] #[.pointer (some ⟨w.heap.size+4,0,
  none⟩)],.int .i64 (k:Int),.pointer (some ⟨wr.heap.size,0,none⟩),.int .i64 tg,u5,u6,u7,u8,u9,ua,ub,uc,ud,ue,uf,ug,uh,ui,uj,uk,ul,um,un,
  uo,up,uq,ur,us,ut,.int .i64 x.op,uu,uv,uw,ux,uy,uz,ua0,ua1,ua2,ua3,ua4,ua5,ua6,ua7,ua8,ua9,uaa,uab,uac,uad,uae,uaf,uag,uah,uai,uaj,uak,
  ual,uam,uan,uao,uap,uaq,uar,uas,uat,uau,uav,uaw,uax,uay,uaz,ub0,ub1,ub2,ub3,ub4,ub5,ub6,ub7,ub8,ub9,uba,ubb,ubc,ubd,ube,ubf,ubg,ubh,ubi,ubj,
  ubk,ubl,ubm,ubn,ubo,ubp,ubq,ubr,ubs,ubt,ubu,ubv,ubw,ubx,uby,ubz,uc0,uc1,uc2,uc3,uc4,uc5,uc6,uc7,uc8,uc9,uca,ucb,ucc,ucd,
  uce,ucf,ucg,uch,uci,ucj,uck,ucl,ucm,ucn,uco,ucp,ucq,ucr,ucs,uct,ucu,ucv,ucw,ucx,ucy,ucz,ud0,ud1,ud2,ud3,ud4,ud5,ud6,ud7,
  ud8,ud9,uda,udb,udc,udd,ude,udf,udg,udh,udi,udj,udk,udl,udm,udn,udo,udp,udq,udr,uds,udt,udu,udv,udw,udx,udy,udz,ue0,ue1,
  ue2,ue3,ue4,ue5,ue6,ue7,ue8,ue9,uea,ueb,uec,ued,uee,uef,ueg,ueh,uei,uej,uek,uel,uem,uen,ueo,uep,ueq,uer,ues,uet,ueu,uev,
  uew,uex,uey,uez,uf0,uf1,uf2,uf3,uf4,uf5,uf6,uf7,uf8,uf9,ufa,ufb,ufc,ufd,ufe,uff,ufg,ufh,ufi,ufj,ufk,ufl,ufm,ufn,ufo,ufp,
  ufq,ufr,ufs,uft,ufu,ufv,ufw,ufx,ufy,ufz,ug0,ug1,ug2,ug3,ug4,ug5,ug6,ug7,ug8,ug9,uga,ugb,ugc,ugd,uge,ugf,ugg,ugh,ugi,ugj,
  ugk,ugl,ugm,ugn,ugo,ugp,ugq,ugr,ugs,ugt,ugu,ugv,ugw,ugx,ugy,ugz,uh0,uh1,uh2,uh3] []) w')
  {K9:Act->World->Prop} (hK9:∀ a w',Code.wp Tryz.prog sw9 (Exit.inBlock 2 (Exit.then KT (Exit.inBlock 1 (Exit.then K2 (Exit.inBlock 0 (Exit.then K3 (bodyPost Tryz.prog Tryz.f52 fun e w'=>xaX p T w mb (20-(d:Int)) K R e w'))))))) a w'->K9 a w') :
  Code.wp Tryz.prog xdf (Exit.then K9 (Exit.inBlock 2 (Exit.then KT (Exit.inBlock 1 (Exit.then K2 (Exit.inBlock 0 (Exit.then K3 (bodyPost Tryz.prog Tryz.f52 fun e w'=>xaX p T w mb (20-(d:Int)) K R e w')))))))) (Act.mk #[.pointer (some ⟨mb,0,none⟩),.int .i64 c,u0,u1,av,u2,u3,.pointer (some ⟨w.heap.size,0,none⟩),.pointer (some ⟨w.heap.size+1,0,none⟩),u4,.pointer (some
  ⟨w.heap.size+2,0,none⟩),.slice (some ⟨w.heap.size+3,0,none⟩) n2 n2,.pointer (some ⟨w.heap.size+4,0,none⟩),.func (.func 71) #[] #[.pointer (some ⟨w.heap.size+4,0,
  none⟩)],.int .i64 (k:Int),.pointer (some ⟨wr.heap.size,0,none⟩),.int .i64 ((k:Int)+1),u5,u6,u7,u8,u9,ua,ub,uc,ud,ue,uf,ug,uh,ui,uj,uk,
  ul,um,un,uo,up,uq,ur,us,ut,.int .i64 x.op,uu,uv,uw,ux,uy,uz,ua0,ua1,ua2,ua3,ua4,ua5,ua6,ua7,ua8,ua9,uaa,uab,uac,uad,uae,uaf,uag,uah,
  uai,uaj,uak,ual,uam,uan,uao,uap,uaq,uar,uas,uat,uau,uav,uaw,uax,uay,uaz,ub0,ub1,ub2,ub3,ub4,ub5,ub6,ub7,ub8,ub9,uba,ubb,ubc,ubd,ube,ubf,ubg,
  ubh,ubi,ubj,ubk,ubl,ubm,ubn,ubo,ubp,ubq,ubr,ubs,ubt,ubu,ubv,ubw,ubx,uby,ubz,uc0,uc1,uc2,uc3,uc4,uc5,uc6,uc7,uc8,uc9,uca,
  ucb,ucc,ucd,uce,ucf,ucg,uch,uci,ucj,uck,ucl,ucm,ucn,uco,ucp,ucq,ucr,ucs,uct,ucu,ucv,ucw,ucx,ucy,ucz,ud0,ud1,ud2,ud3,ud4,
  ud5,ud6,ud7,ud8,ud9,uda,udb,udc,udd,ude,udf,udg,udh,udi,udj,udk,udl,udm,udn,udo,udp,udq,udr,uds,udt,udu,udv,udw,udx,udy,
  udz,ue0,ue1,ue2,ue3,ue4,ue5,ue6,ue7,ue8,ue9,uea,ueb,uec,ued,uee,uef,ueg,ueh,uei,uej,uek,uel,uem,uen,ueo,uep,ueq,uer,ues,
  uet,ueu,uev,uew,uex,uey,uez,uf0,uf1,uf2,uf3,uf4,uf5,uf6,uf7,uf8,uf9,ufa,ufb,ufc,ufd,ufe,uff,ufg,ufh,ufi,ufj,ufk,ufl,ufm,
  ufn,ufo,ufp,ufq,ufr,ufs,uft,ufu,ufv,ufw,ufx,ufy,ufz,ug0,ug1,ug2,ug3,ug4,ug5,ug6,ug7,ug8,ug9,uga,ugb,ugc,ugd,uge,ugf,ugg,
  ugh,ugi,ugj,ugk,ugl,ugm,ugn,ugo,ugp,ugq,ugr,ugs,ugt,ugu,ugv,ugw,ugx,ugy,ugz,uh0,uh1,uh2,uh3] []) W:=by
 have hkd:=H.nx.kind;obtain⟨on,hon,h1,h2⟩:∃ on:Nat,x.op=(on:Int)/\1<=on/\on<=17:=⟨x.op.toNat,by omega,by omega,by omega⟩
 rw[hon] at hN ⊢
 match on,h1,h2 with
 | 1,_,_=>exact br1 H hon hN hK9
 | 2,_,_=>exact br2 H hon hN hK9
 | 3,_,_=>exact br3 H hon hN hK9
 | 4,_,_=>exact br4 H hon hN hK9
 | 5,_,_=>exact br5 H hon hN hK9
 | 6,_,_=>exact br6 H hon hN hK9
 | 7,_,_=>exact br7 H hon hN hK9
 | 8,_,_=>exact br8 H hon hN hK9
 | 9,_,_=>exact br9 H hon hN hK9
 | 10,_,_=>exact br10 H hon hN hK9
 | 11,_,_=>exact br11 H hon hN hK9
 | 12,_,_=>exact br12 H hon hN hK9
 | 13,_,_=>exact br13 H hon hN hK9
 | 14,_,_=>exact br14 H hon hN hK9
 | 15,_,_=>exact br15 H hon hN hK9
 | 16,_,_=>exact br16 H hon hN hK9
 | 17,_,_=>exact br17 H hon hN hK9
 | 0,h0,_=>exact absurd h0 (by omega)
 | n+18,_,h0=>exact absurd h0 (by omega)
set_option maxRecDepth 8000
section
variable {p:Rp} {d:Nat} {T T1 T2:Nat->Nat} {w wr w2:World} {mb K:Nat} {R:Mc RSt × QV × Int} {av kv:Value} {gk:Nat} {at' at2:Value} {m:Mc RSt} {f:Fr}
theorem xlZ {c:Int}{n1 n2 n3 G' k:Nat}{x:QI}{f1:Fr}{hv sv ov st:Value}{w':World}(hX:Rx p)(hR:BdR p d T w mb K R av kv gk at' T1 m f 0 wr)(hg:gk=G'+1)(hx:NxOk f k x)(h17:x.op≠17)(hr:xao (xa7 p.E d) p.E d m { f with pc:=f.pc+1 } f.pc x=xa2 m f1 k x.a)(hle:¬ x.a<=k)(ht:m.tz<=300)(hE:Ext T1 T2 wr)(hK:Kp (All K) T1 wr w')(hM:RMac p T2 w' mb m (20-(d:Int)) 0 hv sv ov)(hF:RF T2 K w' w.heap.size f1 av kv st)(hL:xje c n1 n2 n3 f1) :
  BdX p d T w mb K R av kv c n1 n2 n3 G' (.int .i64 x.a) w':=by
 have hj:xa2 m f1 k x.a=(m,{ f1 with pc:=x.a },0):=by unfold xa2;simp only[hle,if_false];rw[if_neg (by omega)]
 exact⟨_,_,_,_,hR.next hX hg hx h17 (hr.trans hj) hE hK hM (fun _=>⟨_,hF.at _⟩) (fun _=>rfl),fun _=>hL⟩
theorem xlg {c:Int}{n1 n2 n3 G' k:Nat}{x:QI}{f1:Fr}{hv sv ov st:Value}{w':World}(hX:Rx p)(hR:BdR p d T w mb K R av kv gk at' T1 m f 0 wr)(hg:gk=G'+1)(hx:NxOk f k x)(h17:x.op≠17)(hr:xao (xa7 p.E d) p.E d m { f with pc:=f.pc+1 } f.pc x=xa2 m f1 k x.a)(hle:x.a<=k)(ht:m.tz+1<=300)(hE:Ext T1 T2 wr)(hK:Kp (All K) T1 wr w')(hM:RMac p T2 w' mb m (20-(d:Int)) 0 hv sv ov)(hF:RF T2 K w' w.heap.size f1 av kv st)(hL:xje c n1 n2 n3 f1) :
  BdX p d T w mb K R av kv c n1 n2 n3 G' (.int .i64 x.a) (w'.setCell ⟨mb,5,none⟩ (.int .i64 (m.tz+1))):=by
 have hp:=hF.pos;have hj:xa2 m f1 k x.a=({ m with tz:=m.tz+1 },{ f1 with pc:=x.a },0):=by unfold xa2;simp only[hle,if_true];rw[if_neg (by omega)]
 have k1:=kp1 hM 5 (.int .i64 (m.tz+1))
 exact⟨_,_,_,_,hR.next hX hg hx h17 (hr.trans hj) hE (hK.trans hE (k1.mono fun t h=>Or.inl h)) (hM.num5 _) (fun _=>⟨_,(hF.keep (.refl _ _) k1 (by omega) (by omega) (by omega) (by omega) (by omega)).at _⟩) (fun _=>rfl),fun _=>hL⟩
theorem xki {c:Int}{n1 n2 n3 G' k:Nat}{x:QI}{f1:Fr}{hv sv ov:Value}{w':World}{at2:Value}(hX:Rx p)(hR:BdR p d T w mb K R av kv gk at' T1 m f 0 wr)(hg:gk=G'+1)(hx:NxOk f k x)(h17:x.op≠17)(hr:xao (xa7 p.E d) p.E d m { f with pc:=f.pc+1 } f.pc x=xa2 m f1 k x.a)(hle:x.a<=k)(ht:¬ m.tz+1<=300)(hE:Ext T1 T2 wr)(hK:Kp (All K) T1 wr w')(hM:RMac p T2 w' mb m (20-(d:Int)) 0 hv sv ov) :
  BdX p d T w mb K R av kv c n1 n2 n3 G' at2 ((w'.setCell ⟨mb,5,none⟩ (.int .i64 (m.tz+1))).setCell ⟨mb,7,none⟩ (.int .i64 16)):=by
 have hj:xa2 m f1 k x.a=({ m with tz:=m.tz+1 },f1,16):=by unfold xa2;simp only[hle,if_true];rw[if_pos (by omega)]
 have k1:=kp1 hM 5 (.int .i64 (m.tz+1));have hM1:=hM.num5 (m.tz+1);have k2:=kp1 hM1 7 (.int .i64 16)
 exact⟨_,_,_,_,hR.next hX hg hx h17 (hr.trans hj) hE (hK.trans hE ((k1.mono fun t h=>Or.inl h).trans (.refl _ _) (k2.mono fun t h=>Or.inl h))) (hM1.num7 16) (fun h=>by cases h) (fun h=>by cases h),fun h=>by cases h⟩
theorem xn8 {err:Int}{hv sv ov:Value}(hR:BdR p d T w mb K R av kv gk at' T1 m f err wr)(hM:RMac p T1 wr mb m (20-(d:Int)) err hv sv ov)(hE:R=(m,xaY,err)):xaX p T w mb (20-(d:Int)) K R (.returned (VV xaY)) ((wr.setCell ⟨w.heap.size+2,0,none⟩ (.int .i64 0)).setCell ⟨w.heap.size+2,1,none⟩ (.int .i64 0)):=by
 have ht:=hR.tres;have k4:Kp (fun t=>t=4) T1 wr ((wr.setCell ⟨w.heap.size+2,0,none⟩ (.int .i64 0)).setCell ⟨w.heap.size+2,1,none⟩ (.int .i64 0)):=((Kp.refl (fun t=>t=4) T1 wr).set (b:=w.heap.size+2) (fun _=>ht) _ _).set (b:=w.heap.size+2) (fun _=>ht) _ _
 subst hE
 exact⟨rfl,⟨T1,_,_,_,hR.ext,hM.keep (.refl _ _) k4 (by omega) (by omega) (by omega) (by omega)⟩,(hR.kp.set (fun h=>by omega) _ _).set (fun h=>by omega) _ _⟩
theorem xl7 (hX:Rx p)(hEn:xpp p d)(K:Nat)(T:Nat->Nat)(w:World)(mb:Nat)(m:Mc RSt)(hv sv ov:Value)(c n:Int)(self:QV)(args:List QV)(av:Value)(mt:QM)(kv:Value)(hK:5<=K)(h:RMac p T w mb m (20-(d:Int)) 0 hv sv ov)(hI:MIn p.E m)(hW:Few m)(hFo:FOk p.X.cz m.heap.length (xaO p.E c n mt self args))(hPl:PlOk (xaO p.E c n mt self args))(hA:xaG (Fx T w) w av args)(hC:xaK (Fx T w) w kv mt.code) :
  Calls Tryz.prog 52 #[.pointer (some ⟨mb,0,none⟩),.int .i64 c,MV mt kv,VV self,av] w fun e w'=>xaX p T w mb (20-(d:Int)) K (xcU (xa7 p.E d) p.E d (xfD (xaO p.E c n mt self args)) m (xaO p.E c n mt self args)) e w':=by
 obtain⟨aa,ca,rfl,-,hca,-,-⟩:=id hA;obtain⟨ak,ck,rfl,-,hck,-,-⟩:=id hC;unfold maxLen at hca hck;have hfr:xaO p.E c n mt self args=⟨c,mt,self,args,xaT mt.temps,[],mt.code,0,false⟩:=rfl;have htl:=hPl.temps;have hlm:=xai h.box;obtain⟨tn,htn⟩:∃ tn:Nat,mt.temps=(tn:Int):=⟨mt.temps.toNat,by rw[hfr] at htl;simp only at htl;omega⟩
 have htr:xaT mt.temps=List.replicate tn xaY:=by
  rw[hfr] at htl;simp only[xaT,List.length_replicate] at htl;unfold xaT
  congr 1
  omega
 have ht40:tn<=40:=by rw[hfr] at htl;simp only[xaT,List.length_replicate] at htl;omega
 have hmk:=xcl tn (by omega)
 have xcJ:=fun (U:World) hb u0 u1 u2 u3 u4=>xjW (U:=U) h hK hI hW hFo hPl (by rw[hfr];exact hA) (by rw[hfr];exact hC) rfl rfl rfl hb u0 u1 u2 u3 u4
 have HSt:=hid xcJ;clear xcJ hFo hPl hA hC hI hW htl h;obtain⟨f0,hf0⟩:∃ f0,f0=xaO p.E c n mt self args:=⟨_,rfl⟩;obtain⟨e1,e2,e3,e4⟩:f0.meth=mt/\f0.self=self/\f0.temps=List.replicate tn xaY/\f0.cls=c/\f0.args.length=args.length/\f0.code.length=mt.code.length:=by rw[hf0,hfr];exact⟨rfl,rfl,htr,rfl,rfl,rfl⟩
 rw[← hf0] at HSt ⊢;have HM:=hid (And.intro e1 (And.intro e2 (And.intro e3 e4)));generalize xcU (xa7 p.E d) p.E d (xfD f0) m f0=R at *;generalize hG:xfD f0=G at *;clear hf0 hfr e1 e2 e3 e4 hG htr;obtain⟨mname,margs,mtemps,mprim,mcode⟩:=mt;simp only at htn HM;subst htn;simp only at *;go_enter Tryz.func52,Tryz.ntmps52
 go_upto_region 4 with (fail)
 have hbU:Below w.heap.size w (((((w.alloc (.cells #[.string mname,.int .i64 margs,.int .i64 (tn:Int),.int .i64 mprim,.slice ak mcode.length ck] 59)).alloc (.cells #[.int .i64 self.k,.int .i64 self.n] 27)).alloc (.cells #[.int .i64 0,.int .i64 0] 27)).alloc (.cells (madeCells #[.int .i64 0,.int .i64 0] (tn*2)) 27)).alloc (.cells #[.slice none 0 0] 28)):=by
  refine (((xeQ _ _ _ _).alloc (by simp;omega) _).alloc (by simp;omega) _)
 have hRel:BdR p d T w mb K R (.slice aa args.length ca) (.slice ak mcode.length ck) G (.int .i64 0) (xl9 T w.heap.size K) m f0 0 (((((w.alloc (.cells #[.string mname,.int .i64 margs,.int .i64 (tn:Int),.int .i64 mprim,.slice ak mcode.length ck] 59)).alloc (.cells #[.int .i64 self.k,.int .i64 self.n] 27)).alloc (.cells #[.int .i64 0,.int .i64 0] 27)).alloc (.cells (madeCells #[.int .i64 0,.int .i64 0] (tn*2)) 27)).alloc (.cells #[.slice none 0 0] 28)):=by
  obtain⟨g1,g2,g3,-⟩:=HM.out;refine HSt.out _ hbU ?_ ?_ ?_ ?_ ?_
  ·rw[g1];exact (xpe w _ _ _ _ _).1.1
  ·rw[g2];exact (xpe w _ _ _ _ _).1.2.1
  ·exact (xpe w _ _ _ _ _).1.2.2
  ·rw[g3,← xjr];exact (xpe w _ _ _ _ _).2.1
  ·exact (xpe w _ _ _ _ _).2.2
 generalize (((((w.alloc (.cells #[.string mname,.int .i64 margs,.int .i64 (tn:Int),.int .i64 mprim,.slice ak mcode.length ck] 59)).alloc (.cells #[.int .i64 self.k,.int .i64 self.n] 27)).alloc (.cells #[.int .i64 0,.int .i64 0] 27)).alloc (.cells (madeCells #[.int .i64 0,.int .i64 0] (tn*2)) 27)).alloc (.cells #[.slice none 0 0] 28))=W0 at *;clear hbU HSt hmk;have HM2:Hid (f0.meth=⟨mname,margs,tn,mprim,mcode⟩/\f0.self=self):=⟨HM.out.1,HM.out.2.1⟩;simp only[Nat.add_assoc,Nat.reduceAdd];go_wp2
 go_loopg [14] G (fun gk at' wr=>BdX p d T w mb K R (.slice aa args.length ca) (.slice ak mcode.length ck) c args.length tn mcode.length gk at' wr)
 case atStart=>exact⟨_,_,_,_,hRel,fun _=>by obtain⟨g1,g2,g3,g4,g5,g6⟩:=HM.out;exact⟨g4,g5,by rw[g3];simp,g6⟩⟩
 case round=>
  clear hRel;obtain⟨T1,m,f,err,hR,hLen⟩:=hrel;obtain⟨hv1,sv1,ov1,hM⟩:=hR.mac;have c7:=hM.c7
  by_cases herr:err=0
  ·subst herr;obtain⟨l0,l1,l2,l3⟩:=hLen rfl;obtain⟨hI,hW,hFo,hPl,hmu,hval,hat⟩:=hR.min rfl;obtain⟨st,hF⟩:=hR.run rfl;obtain⟨sa,sc,rfl,hsc1,hsc2⟩:=hF.stack.form;unfold maxLen at hsc2;obtain⟨k,x,hx⟩:=hPl.nx;have hpc:=hx.pc;have hkl:=hx.lt
   obtain⟨G',hG'⟩:∃ G',gk=G'+1:=⟨gk-1,by
    have:0<muE m f:=by unfold muE;rw[hpc];simp;omega
    omega⟩
   rw[hpc] at hat;subst hat;have k4:=hF.k4;obtain⟨a',cc',e',hlc,hcc,-,hrow⟩:=hF.code;unfold maxLen at hcc;simp only[Value.slice.injEq] at e';obtain⟨rfl,-,-⟩:=e';obtain⟨bc,oc,hac,-,i0,i1,i2,i3,i4,-⟩:=hrow k x hx.here;have hkm:k<mcode.length:=by omega
   have hk0:(0:Int)<=(k:Int):=by omega
   have hk1:(k:Int)<(mcode.length:Int):=by omega
   have hkw:IntKind.i64.wrap ((k:Int)+1)=(k:Int)+1:=xaq (by omega) (by omega)
   simp only[Nat.add_zero] at i0;subst hac;have hSw0:Below wr.heap.size wr (wr.alloc (.cells #[.int .i64 x.op,.int .i64 x.a,.int .i64 x.b,.int .i64 x.c,.string x.name] 57)):=xaj _ _;have hSw:SwC p d T w mb K R (.slice aa args.length ca) (.slice (some ⟨bc,oc,none⟩) mcode.length ck) gk G' c args.length tn mcode.length T1 m f wr (wr.alloc (.cells #[.int .i64 x.op,.int .i64 x.a,.int .i64 x.b,.int .i64 x.c,.string x.name] 57)) k x hv1 sv1 ov1 sa sc:=⟨hX,hEn,hR,hG',hx,hM,hF,⟨hsc1,by omega⟩,⟨l0,l1,l2,l3⟩,hSw0,xlK wr x,⟨_,_,rfl,by omega⟩,ht40,⟨hI,hW,hFo,hPl⟩⟩
   have HX:=hid hx;have HSw:=hid hSw;clear hSw hSw0;have HR:=hid hR;have HMa:=hid hM;have HF:=hid hF;have HL:=hid (And.intro l0 (And.intro l1 (And.intro l2 l3)));have HG:=hid hG';have hb1:=xaj wr (.cells #[.int .i64 x.op,.int .i64 x.a,.int .i64 x.b,.int .i64 x.c,.string x.name] 57);have hxb:=(xlK wr x).x0;have hBl:w.heap.size+4<wr.heap.size:=xai hF.sb;clear hx hR hM hF hLen hI hW hFo hPl hmu hval hrow hG' hpc hkl l0 l1 l2 l3
   go_upto_region 9 with (fail)
   generalize (wr.alloc (.cells #[.int .i64 x.op,.int .i64 x.a,.int .i64 x.b,.int .i64 x.c,.string x.name] 57))=W at *;have HTu:Hid (0<=m.tz/\m.tz<=300):=HSw.out.min.1.tz;refine xjE HSw.out ?_ (by assumption)
   intros
   rename_i tg w' hok;dsimp only
   rcases hok with ⟨rfl,hBd⟩ | ⟨rfl,h17,f1,T2,hv2,sv2,ov2,st2,e1,e2,e3,e4,e5,e6⟩
   ·have HBd:=hid hBd;have hkk:decide ((k:Int)+1<=(k:Int))=false:=by simp;omega
    clear hBd hxb;go_wp2
    go_roundg G'
    case measure=>have:=HG.out;omega
    case rel=>exact HBd.out
   ·by_cases hle:x.a<=(k:Int)
    ·have hd:decide (x.a<=(k:Int))=true:=by simpa using hle
     have c5:=e3.c5;have f5:=xam e3.box;obtain⟨ht0,ht3⟩:=HTu.out;have htw:IntKind.i64.wrap (m.tz+1)=m.tz+1:=xaq (by omega) (by omega)
     have htw':wrap64 (m.tz+1)=m.tz+1:=by unfold wrap64;omega
     have hN5:=e3.num5 (m.tz+1);have g5:=hN5.c5;have g7:=hN5.c7;have gf:=xam hN5.box;have E6:=hid e6;have E1:=hid e1;have E2:=hid e2;have E3:=hid e3;have E4:=hid e4;have E5:=hid e5;have HLE:=hid hle;have H17:=hid h17;clear e1 e2 e3 e4 e5 e6 hle h17 hN5 hxb ht0 ht3;simp only[] at g5
     by_cases ht:m.tz+1<=300
     ·have hd3:decide (300<m.tz+1)=false:=by simp;omega
      have HT:=hid ht;clear ht;go_wp2
      go_roundg G'
      case measure=>have:=HG.out;omega
      case rel=>exact xlg hX HR.out HG.out HX.out H17.out E6.out HLE.out HT.out E1.out E2.out E3.out E4.out E5.out
     ·have hd3:decide (300<m.tz+1)=true:=by simp;omega
      have HT:=hid ht;clear ht;go_wp2
      go_roundg G'
      case measure=>have:=HG.out;omega
      case rel=>exact xki hX HR.out HG.out HX.out H17.out E6.out HLE.out (by have:=HT.out;omega) E1.out E2.out E3.out
    ·have hd:decide (x.a<=(k:Int))=false:=by simpa using hle
     have E6:=hid e6;have E1:=hid e1;have E2:=hid e2;have E3:=hid e3;have E4:=hid e4;have E5:=hid e5;have HLE:=hid hle;have H17:=hid h17;clear e1 e2 e3 e4 e5 e6 hle h17 hxb;go_wp2
     go_roundg G'
     case measure=>have:=HG.out;omega
     case rel=>exact xlZ hX HR.out HG.out HX.out H17.out E6.out (by have:=HLE.out;omega) HTu.out.2 E1.out E2.out E3.out E4.out E5.out
  ·have herr':(err == 0)=false:=by simpa using herr
   have HE:=hid (hR.bad herr);have HMa:=hid hM;have HR:=hid hR;have r0:wr.cell? ⟨w.heap.size+2,0,none⟩=some (.int .i64 0):=by rw[qzB hR.res];rfl
   have r1:wr.cell? ⟨w.heap.size+2,1,none⟩=some (.int .i64 0):=by rw[qzB hR.res];rfl
   have rf:=xam hR.res;clear hR hM hLen herr;go_wp2;refine bodyPost_ret (v:=VV xaY) ?_ rfl (xn8 HR.out HMa.out HE.out)
   simp[results,Tryz.results52,go_sem,r0,r1]
end
theorem w64 {n:Int}(h0:-9223372036854775808<=n)(h1:n<=9223372036854775807):wrap64 n=n:=by unfold wrap64;omega
theorem xh6 {N:Int}(h:0<=N)(h1:N<=2000000000000000000):wrap64 (N-wrap64 (wrap64 (N.tdiv 1073741825)*1073741825))=N.tmod 1073741825:=by
 have e:N.tdiv 1073741825=N / 1073741825:=Int.tdiv_eq_ediv_of_nonneg h;have t:N.tmod 1073741825=N % 1073741825:=Int.tmod_eq_emod_of_nonneg h;rw[e,t];have h2:0<=N / 1073741825/\N / 1073741825*1073741825<=N:=by omega
 rw[w64 (n:=N / 1073741825) (by omega) (by omega),w64 (n:=N / 1073741825*1073741825) (by omega) (by omega),w64 (by omega) (by omega)]
 omega
theorem xid {N:Int}(h:¬ 0<=N)(h1:-2000000000000000000<=N):wrap64 (N+wrap64 (wrap64 ((wrap64 (-N)).tdiv 1073741825)*1073741825))=N.tmod 1073741825:=by
 rw[w64 (n:=-N) (by omega) (by omega)]
 have e:(-N).tdiv 1073741825=(-N) / 1073741825:=Int.tdiv_eq_ediv_of_nonneg (by omega)
 have t:N.tmod 1073741825=-((-N) % 1073741825):=by
  rw[← Int.tmod_eq_emod_of_nonneg (show (0:Int)<=-N by omega),Int.neg_tmod,Int.neg_neg]
 rw[e,t];rw[w64 (n:=(-N) / 1073741825) (by omega) (by omega),w64 (n:=(-N) / 1073741825*1073741825) (by omega) (by omega),w64 (by omega) (by omega)]
 omega
theorem xkV (p:Int)(a b:QV)(w:World)(ha:a.k=3->-1073741824<=a.n/\a.n<=1073741824)(hb:b.k=3->-1073741824<=b.n/\b.n<=1073741824):Calls Tryz.prog 51 #[.int .i64 p,VV a,VV b] w fun e w'=>e=.returned (.tuple #[VV (xbD p a b).1,.int .i64 (xbD p a b).2])/\Below w.heap.size w w':=by
 have hR:=xkW w a b;go_enter Tryz.func51,Tryz.ntmps51
 go_upto_region 1 with (fail)
 generalize (((w.alloc (.cells #[.int .i64 a.k,.int .i64 a.n] 27)).alloc (.cells #[.int .i64 b.k,.int .i64 b.n] 27)).alloc (.cells #[.int .i64 0,.int .i64 0] 27))=W at *;obtain⟨-,a0,a1,b0,b1,r0,r1,rf,sz⟩:=id hR;simp only[Nat.add_assoc,Nat.reduceAdd] at *
 by_cases hk:a.k=3/\b.k=3
 ·have hab:=And.intro (ha hk.1) (hb hk.2);have ak':(a.k != 3)=false:=by simpa using hk.1
  have bk':(b.k != 3)=false:=by simpa using hk.2
  have hP:xbD p a b=if p=1 then (⟨3,(a.n+b.n).tmod 1073741825⟩,0) else if p=2 then (⟨3,(a.n-b.n).tmod 1073741825⟩,0) else if p=3 then (⟨3,(a.n*b.n).tmod 1073741825⟩,0) else if p=4 then (⟨if a.n<b.n then 2 else 1,0⟩,0) else if p=5 then (⟨if a.n=b.n then 2 else 1,0⟩,0) else (xaY,1):=by unfold xbD;rw[if_neg (by omega)]
  have wadd:IntKind.i64.wrap (a.n+b.n)=a.n+b.n:=xaq (by omega) (by omega)
  have wsub:IntKind.i64.wrap (a.n-b.n)=a.n-b.n:=xaq (by omega) (by omega)
  have hm:=xkJ hab.1 hab.2;have wmul:IntKind.i64.wrap (a.n*b.n)=a.n*b.n:=xaq (by omega) (by omega)
  have hA:=hid hab;have hM:=hid hm;clear hab hm ha hb hk
  by_cases hp1:p=1
  ·have hV:Hid (xbD p a b=(⟨3,(a.n+b.n).tmod 1073741825⟩,0)):=by show _=_;rw[hP];rw[if_pos hp1]
   have hq1:(p == 1)=true:=by simpa using hp1
   clear hP
   by_cases hs:0<=a.n+b.n
   ·have HM:=hid (xh6 hs (by have:=hA.out;omega))
    go_wp2;refine bodyPost_ret (v:=.tuple #[VV ⟨3,(a.n+b.n).tmod 1073741825⟩,.int .i64 0]) ?_ rfl ⟨by have:=hV.out;first | rw[this] | (rw[hp1] at this;rw[this]),(hR.bel.setCell (by simp) _).setCell (by simp) _⟩
    simp[results,Tryz.results51,go_sem,r0,r1]
    exact HM.out
   ·have HM:=hid (xid hs (by have:=hA.out;omega))
    go_wp2;refine bodyPost_ret (v:=.tuple #[VV ⟨3,(a.n+b.n).tmod 1073741825⟩,.int .i64 0]) ?_ rfl ⟨by have:=hV.out;first | rw[this] | (rw[hp1] at this;rw[this]),(hR.bel.setCell (by simp) _).setCell (by simp) _⟩
    simp[results,Tryz.results51,go_sem,r0,r1]
    exact HM.out
  have hq1:(p == 1)=false:=by simpa using hp1
  by_cases hp2:p=2
  ·have hV:Hid (xbD p a b=(⟨3,(a.n-b.n).tmod 1073741825⟩,0)):=by show _=_;rw[hP];rw[if_neg hp1];rw[if_pos hp2]
   have hq2:(p == 2)=true:=by simpa using hp2
   clear hP
   by_cases hs:0<=a.n-b.n
   ·have HM:=hid (xh6 hs (by have:=hA.out;omega))
    go_wp2;refine bodyPost_ret (v:=.tuple #[VV ⟨3,(a.n-b.n).tmod 1073741825⟩,.int .i64 0]) ?_ rfl ⟨by have:=hV.out;first | rw[this] | (rw[hp2] at this;rw[this]),(hR.bel.setCell (by simp) _).setCell (by simp) _⟩
    simp[results,Tryz.results51,go_sem,r0,r1]
    exact HM.out
   ·have HM:=hid (xid hs (by have:=hA.out;omega))
    go_wp2;refine bodyPost_ret (v:=.tuple #[VV ⟨3,(a.n-b.n).tmod 1073741825⟩,.int .i64 0]) ?_ rfl ⟨by have:=hV.out;first | rw[this] | (rw[hp2] at this;rw[this]),(hR.bel.setCell (by simp) _).setCell (by simp) _⟩
    simp[results,Tryz.results51,go_sem,r0,r1]
    exact HM.out
  have hq2:(p == 2)=false:=by simpa using hp2
  by_cases hp3:p=3
  ·have hV:Hid (xbD p a b=(⟨3,(a.n*b.n).tmod 1073741825⟩,0)):=by show _=_;rw[hP];rw[if_neg hp1];rw[if_neg hp2];rw[if_pos hp3]
   have hq3:(p == 3)=true:=by simpa using hp3
   clear hP
   by_cases hs:0<=a.n*b.n
   ·have HM:=hid (xh6 hs (by have:=hM.out;omega))
    go_wp2;refine bodyPost_ret (v:=.tuple #[VV ⟨3,(a.n*b.n).tmod 1073741825⟩,.int .i64 0]) ?_ rfl ⟨by have:=hV.out;first | rw[this] | (rw[hp3] at this;rw[this]),(hR.bel.setCell (by simp) _).setCell (by simp) _⟩
    simp[results,Tryz.results51,go_sem,r0,r1]
    exact HM.out
   ·have HM:=hid (xid hs (by have:=hM.out;omega))
    go_wp2;refine bodyPost_ret (v:=.tuple #[VV ⟨3,(a.n*b.n).tmod 1073741825⟩,.int .i64 0]) ?_ rfl ⟨by have:=hV.out;first | rw[this] | (rw[hp3] at this;rw[this]),(hR.bel.setCell (by simp) _).setCell (by simp) _⟩
    simp[results,Tryz.results51,go_sem,r0,r1]
    exact HM.out
  have hq3:(p == 3)=false:=by simpa using hp3
  by_cases hp4:p=4
  ·have hV:Hid (xbD p a b=(⟨if decide (a.n<b.n) then 2 else 1,0⟩,0)):=by show _=_;rw[hP];rw[if_neg hp1];rw[if_neg hp2];rw[if_neg hp3];rw[if_pos hp4];simp
   have hq4:(p == 4)=true:=by simpa using hp4
   clear hP;have hrb:=fun w=>xed (decide (a.n<b.n)) w
   generalize (if decide (a.n<b.n)=true then (2:Int) else 1)=z at hrb hV;go_wp2_with fail;refine (hrb _).mono ?_;rintro e w1 ⟨rfl,hb1⟩;have hR1:=hR.later hb1;clear a0 a1 b0 b1 r0 r1 rf hR;obtain⟨-,a0,a1,b0,b1,r0,r1,rf,-⟩:=id hR1;go_wp2;refine bodyPost_ret (v:=.tuple #[VV ⟨z,0⟩,.int .i64 0]) ?_ rfl ⟨by have:=hV.out;first | rw[this] | (rw[hp4] at this;rw[this]),(hR1.bel.setCell (by simp) _).setCell (by simp) _⟩
   simp[results,Tryz.results51,go_sem,r0,r1]
  have hq4:(p == 4)=false:=by simpa using hp4
  by_cases hp5:p=5
  ·have hV:Hid (xbD p a b=(⟨if (a.n == b.n) then 2 else 1,0⟩,0)):=by show _=_;rw[hP];rw[if_neg hp1];rw[if_neg hp2];rw[if_neg hp3];rw[if_neg hp4];rw[if_pos hp5];simp
   have hq5:(p == 5)=true:=by simpa using hp5
   clear hP;have hrb:=fun w=>xed ((a.n == b.n)) w
   generalize (if (a.n == b.n)=true then (2:Int) else 1)=z at hrb hV;go_wp2_with fail;refine (hrb _).mono ?_;rintro e w1 ⟨rfl,hb1⟩;have hR1:=hR.later hb1;clear a0 a1 b0 b1 r0 r1 rf hR;obtain⟨-,a0,a1,b0,b1,r0,r1,rf,-⟩:=id hR1;go_wp2;refine bodyPost_ret (v:=.tuple #[VV ⟨z,0⟩,.int .i64 0]) ?_ rfl ⟨by have:=hV.out;first | rw[this] | (rw[hp5] at this;rw[this]),(hR1.bel.setCell (by simp) _).setCell (by simp) _⟩
   simp[results,Tryz.results51,go_sem,r0,r1]
  have hq5:(p == 5)=false:=by simpa using hp5
  have hV:Hid (xbD p a b=(xaY,1)):=by show _=_;rw[hP,if_neg hp1,if_neg hp2,if_neg hp3,if_neg hp4,if_neg hp5]
  clear hP;go_wp2;refine bodyPost_ret (v:=.tuple #[VV xaY,.int .i64 1]) ?_ rfl ⟨by rw[hV.out],(hR.bel.setCell (by simp) _).setCell (by simp) _⟩
  simp[results,Tryz.results51,go_sem,r0,r1]
 ·have hV:Hid (xbD p a b=(xaY,12)):=by show _=_;unfold xbD;rw[if_pos (by omega)]
  by_cases h1:a.k=3
  ·have ak':(a.k != 3)=false:=by simpa using h1
   have bk':(b.k != 3)=true:=by simp;omega
   go_wp2;refine bodyPost_ret (v:=.tuple #[VV xaY,.int .i64 12]) ?_ rfl ⟨by rw[hV.out],(hR.bel.setCell (by simp) _).setCell (by simp) _⟩
   simp[results,Tryz.results51,go_sem,r0,r1]
  ·have ak':(a.k != 3)=true:=by simpa using h1
   go_wp2;refine bodyPost_ret (v:=.tuple #[VV xaY,.int .i64 12]) ?_ rfl ⟨by rw[hV.out],(hR.bel.setCell (by simp) _).setCell (by simp) _⟩
   simp[results,Tryz.results51,go_sem,r0,r1]
end Go.Proofs.YtaodadfahifbpaaGreat
