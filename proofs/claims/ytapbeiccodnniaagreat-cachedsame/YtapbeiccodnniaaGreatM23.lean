/- A part. -/
import Derived.Test.YtapbeiccodnniaaGreatM22
namespace Go.Proofs.YtapbeiccodnniaaGreat
open Go.ChangeShapes Go.WideShapes Go.ChangeAt Go.RowKit
set_option linter.unusedSimpArgs false
set_option linter.unusedVariables false
set_option maxHeartbeats 8000000
set_option maxRecDepth 100000
theorem br3 {p:Rp}{d:Nat}{T T1:Nat->Nat}{w wr W:World}{mb K:Nat}{R:Mc RSt × QV × Int}{av kv:Value}{gk G':Nat}{m:Mc RSt}{f:Fr}{c:Int}{n1 n2 n3 k:Nat}{x:QI}{hv sv ov:Value}{sa:Option Addr}{sc:Nat}(H:SwC p d T w mb K R av kv gk G' c n1 n2 n3 T1 m f wr W k x hv sv ov sa sc)(hop:x.op=3)
  {u0 u1 u2 u3 u4 u5 u6 u7 u8 u9 ua ub uc ud ue uf ug uh ui uj uk ul um un uo up uq ur us ut uu uv uw ux uy uz ua0 ua1 ua2 ua3 ua4 ua5 ua6 ua7 ua8 ua9
  uaa uab uac uad uae uaf uag uah uai uaj uak ual uam uan uao uap uaq uar uas uat uau uav uaw uax uay uaz ub0 ub1 ub2 ub3 ub4 ub5 ub6 ub7 ub8 ub9 uba ubb ubc ubd ube ubf ubg ubh
  ubi ubj ubk ubl ubm ubn ubo ubp ubq ubr ubs ubt ubu ubv ubw ubx uby ubz uc0 uc1 uc2 uc3 uc4 uc5 uc6 uc7 uc8 uc9 uca ucb ucc ucd uce ucf ucg uch
  uci ucj uck ucl ucm ucn uco ucp ucq ucr ucs uct ucu ucv ucw ucx ucy ucz ud0 ud1 ud2 ud3 ud4 ud5 ud6 ud7 ud8 ud9 uda udb udc udd ude udf udg udh
  udi udj udk udl udm udn udo udp udq udr uds udt udu udv udw udx udy udz ue0 ue1 ue2 ue3 ue4 ue5 ue6 ue7 ue8 ue9 uea ueb uec ued uee uef ueg ueh
  uei uej uek uel uem uen ueo uep ueq uer ues uet ueu uev uew uex uey uez uf0 uf1 uf2 uf3 uf4 uf5 uf6 uf7 uf8 uf9 ufa ufb ufc ufd ufe uff ufg ufh
  ufi ufj ufk ufl ufm ufn ufo ufp ufq ufr ufs uft ufu ufv ufw ufx ufy ufz ug0 ug1 ug2 ug3 ug4 ug5 ug6 ug7 ug8 ug9 uga ugb ugc ugd uge ugf ugg ugh
  ugi ugj ugk ugl ugm ugn ugo ugp ugq ugr ugs ugt ugu ugv ugw ugx ugy ugz uh0 uh1 uh2 uh3:Value}
  {KT K2 K3:Act->World->Prop}
  (hN:∀ (u5 u6 u7 u8 u9 ua ub uc uu uv uw ux uy uz ua0 ua1 ua2 ua3 ua4 ua5 ua6 ua7 ua8 ua9 uaa uab uac uad uae uaf uag uah uai uaj uak ual uam uan uao uap uaq uar uas uat uau
  uav uaw uax uay uaz ub0 ub1 ub2 ub3 ub4 ub5 ub6 ub7 ub8 ub9 uba ubb ubc ubd ube ubf ubg ubh ubi ubj ubk ubl ubm ubn ubo ubp ubq ubr ubs ubt ubu ubv ubw ubx uby
  ubz uc0 uc1 uc2 uc3 uc4 uc5 uc6 uc7 uc8 uc9 uca ucb ucc ucd uce ucf ucg uch uci ucj uck ucl ucm ucn uco ucp ucq ucr ucs uct ucu ucv ucw ucx ucy
  ucz ud0 ud1 ud2 ud3 ud4 ud5 ud6 ud7 ud8 ud9 uda udb udc udd ude udf udg udh udi udj udk udl udm udn udo udp udq udr uds udt udu udv udw udx udy
  udz ue0 ue1 ue2 ue3 ue4 ue5 ue6 ue7 ue8 ue9 uea ueb uec ued uee uef ueg ueh uei uej uek uel uem uen ueo uep ueq uer ues uet ueu uev uew uex uey
  uez uf0 uf1 uf2 uf3 uf4 uf5 uf6 uf7 uf8 uf9 ufa ufb ufc ufd ufe uff ufg ufh ufi ufj ufk ufl ufm ufn ufo ufp ufq ufr ufs uft ufu ufv ufw ufx ufy
  ufz ug0 ug1 ug2 ug3 ug4 ug5 ug6 ug7 ug8 ug9 uga ugb ugc ugd uge ugf ugg ugh ugi ugj:Value) (tg:Int) (w':World),xf0 p d T w mb K R av kv G' c n1 n2 n3 T1 m f wr k x tg w'->KT (Act.mk #[.pointer (some ⟨mb,0,none⟩),.int .i64 c,u0,u1,av,u2,u3,.pointer (some ⟨w.heap.size,0,none⟩),.pointer (some ⟨w.heap.size+1,0,none⟩),u4,.pointer (some
  ⟨w.heap.size+2,0,none⟩),.slice (some ⟨w.heap.size+3,0,none⟩) n2 n2,.pointer (some ⟨w.heap.size+4,0,none⟩),.func (.func 68) #[] #[.pointer (some ⟨w.heap.size+4,0,
  none⟩)],.int .i64 (k:Int),.pointer (some ⟨wr.heap.size,0,none⟩),.int .i64 tg,u5,u6,u7,u8,u9,ua,ub,uc,ud,ue,uf,ug,uh,ui,uj,uk,ul,um,un,
  uo,up,uq,ur,us,ut,.int .i64 3,uu,uv,uw,ux,uy,uz,ua0,ua1,ua2,ua3,ua4,ua5,ua6,ua7,ua8,ua9,uaa,uab,uac,uad,uae,uaf,uag,uah,uai,uaj,uak,
  ual,uam,uan,uao,uap,uaq,uar,uas,uat,uau,uav,uaw,uax,uay,uaz,ub0,ub1,ub2,ub3,ub4,ub5,ub6,ub7,ub8,ub9,uba,ubb,ubc,ubd,ube,ubf,ubg,ubh,ubi,ubj,
  ubk,ubl,ubm,ubn,ubo,ubp,ubq,ubr,ubs,ubt,ubu,ubv,ubw,ubx,uby,ubz,uc0,uc1,uc2,uc3,uc4,uc5,uc6,uc7,uc8,uc9,uca,ucb,ucc,ucd,
  uce,ucf,ucg,uch,uci,ucj,uck,ucl,ucm,ucn,uco,ucp,ucq,ucr,ucs,uct,ucu,ucv,ucw,ucx,ucy,ucz,ud0,ud1,ud2,ud3,ud4,ud5,ud6,ud7,
  ud8,ud9,uda,udb,udc,udd,ude,udf,udg,udh,udi,udj,udk,udl,udm,udn,udo,udp,udq,udr,uds,udt,udu,udv,udw,udx,udy,udz,ue0,ue1,
  ue2,ue3,ue4,ue5,ue6,ue7,ue8,ue9,uea,ueb,uec,ued,uee,uef,ueg,ueh,uei,uej,uek,uel,uem,uen,ueo,uep,ueq,uer,ues,uet,ueu,uev,
  uew,uex,uey,uez,uf0,uf1,uf2,uf3,uf4,uf5,uf6,uf7,uf8,uf9,ufa,ufb,ufc,ufd,ufe,uff,ufg,ufh,ufi,ufj,ufk,ufl,ufm,ufn,ufo,ufp,
  ufq,ufr,ufs,uft,ufu,ufv,ufw,ufx,ufy,ufz,ug0,ug1,ug2,ug3,ug4,ug5,ug6,ug7,ug8,ug9,uga,ugb,ugc,ugd,uge,ugf,ugg,ugh,ugi,ugj,
  ugk,ugl,ugm,ugn,ugo,ugp,ugq,ugr,ugs,ugt,ugu,ugv,ugw,ugx,ugy,ugz,uh0,uh1,uh2,uh3] []) w')
  {K9:Act->World->Prop} (hK9:∀ a w',Code.wp Tryz.prog sw9 (Exit.inBlock 2 (Exit.then KT (Exit.inBlock 1 (Exit.then K2 (Exit.inBlock 0 (Exit.then K3 (bodyPost Tryz.prog Tryz.f52 fun e w'=>xaS p T w mb (20-(d:Int)) K R e w'))))))) a w'->K9 a w') :
  Code.wp Tryz.prog xdw (Exit.then K9 (Exit.inBlock 2 (Exit.then KT (Exit.inBlock 1 (Exit.then K2 (Exit.inBlock 0 (Exit.then K3 (bodyPost Tryz.prog Tryz.f52 fun e w'=>xaS p T w mb (20-(d:Int)) K R e w')))))))) (Act.mk #[.pointer (some ⟨mb,0,none⟩),.int .i64 c,u0,u1,av,u2,u3,.pointer (some ⟨w.heap.size,0,none⟩),.pointer (some ⟨w.heap.size+1,0,none⟩),u4,.pointer (some
  ⟨w.heap.size+2,0,none⟩),.slice (some ⟨w.heap.size+3,0,none⟩) n2 n2,.pointer (some ⟨w.heap.size+4,0,none⟩),.func (.func 68) #[] #[.pointer (some ⟨w.heap.size+4,0,
  none⟩)],.int .i64 (k:Int),.pointer (some ⟨wr.heap.size,0,none⟩),.int .i64 ((k:Int)+1),u5,u6,u7,u8,u9,ua,ub,uc,ud,ue,uf,ug,uh,ui,uj,uk,
  ul,um,un,uo,up,uq,ur,us,ut,.int .i64 3,uu,uv,uw,ux,uy,uz,ua0,ua1,ua2,ua3,ua4,ua5,ua6,ua7,ua8,ua9,uaa,uab,uac,uad,uae,uaf,uag,uah,
  uai,uaj,uak,ual,uam,uan,uao,uap,uaq,uar,uas,uat,uau,uav,uaw,uax,uay,uaz,ub0,ub1,ub2,ub3,ub4,ub5,ub6,ub7,ub8,ub9,uba,ubb,ubc,ubd,ube,ubf,ubg,
  ubh,ubi,ubj,ubk,ubl,ubm,ubn,ubo,ubp,ubq,ubr,ubs,ubt,ubu,ubv,ubw,ubx,uby,ubz,uc0,uc1,uc2,uc3,uc4,uc5,uc6,uc7,uc8,uc9,uca,
  ucb,ucc,ucd,uce,ucf,ucg,uch,uci,ucj,uck,ucl,ucm,ucn,uco,ucp,ucq,ucr,ucs,uct,ucu,ucv,ucw,ucx,ucy,ucz,ud0,ud1,ud2,ud3,ud4,
  ud5,ud6,ud7,ud8,ud9,uda,udb,udc,udd,ude,udf,udg,udh,udi,udj,udk,udl,udm,udn,udo,udp,udq,udr,uds,udt,udu,udv,udw,udx,udy,
  udz,ue0,ue1,ue2,ue3,ue4,ue5,ue6,ue7,ue8,ue9,uea,ueb,uec,ued,uee,uef,ueg,ueh,uei,uej,uek,uel,uem,uen,ueo,uep,ueq,uer,ues,
  uet,ueu,uev,uew,uex,uey,uez,uf0,uf1,uf2,uf3,uf4,uf5,uf6,uf7,uf8,uf9,ufa,ufb,ufc,ufd,ufe,uff,ufg,ufh,ufi,ufj,ufk,ufl,ufm,
  ufn,ufo,ufp,ufq,ufr,ufs,uft,ufu,ufv,ufw,ufx,ufy,ufz,ug0,ug1,ug2,ug3,ug4,ug5,ug6,ug7,ug8,ug9,uga,ugb,ugc,ugd,uge,ugf,ugg,
  ugh,ugi,ugj,ugk,ugl,ugm,ugn,ugo,ugp,ugq,ugr,ugs,ugt,ugu,ugv,ugw,ugx,ugy,ugz,uh0,uh1,uh2,uh3] []) W:=by
 obtain⟨hX,hEn,HR0,HG0,HX0,HMa0,HF0,hscap,HL0,hbel,hxb,⟨aa,ca,rfl,hca⟩,ht40,HI0⟩:=H;have HR:=hid HR0;have HG:=hid HG0;have HX:=hid HX0;have HMa:=hid HMa0;have HF:=hid HF0;have HL:=hid HL0;have HB1:=hid hbel;have HI:=hid HI0;have HOP:=hid hop;have HEn:=hid hEn;have hM1:=HMa0.later hbel;have hF1:=HF0.later hbel;obtain⟨hsc1,hsc2⟩:=hscap;have hBl:w.heap.size+4<wr.heap.size:=xaf HF0.sb;have hWl:wr.heap.size<=W.heap.size:=hbel.size;clear HR0 HG0 HX0 HMa0 HF0 HL0 HI0 hop hbel hEn;unfold xdw;unfold sw9 at hK9;have hst0:=hF1.st;have x1:=hxb.x1;have hfw:=HX.out.few;obtain⟨ha0,ha1⟩:=HX.out.temp (Or.inl HOP.out)
 obtain⟨j,hj⟩:∃ j:Nat,x.a=(j:Int):=⟨x.a.toNat,by omega⟩
 have hl1:=HL.out.2.2.1;have hjl:j<f.temps.length:=by omega
 have hy:f.temps[j]?=some f.temps[j]:=by simp[hjl]
 have HPU:Hid (xaA m.heap { f with pc:=f.pc+1 } x=some f.temps[j]):=by
  show _=_
  have hop:x.op=3:=HOP.out;unfold xaA xaM
  simp[hop,hj,hjl]
  omega
 generalize f.temps[j]=y at *;obtain⟨y0,y1⟩:=xeL hF1.tm hy;have hj1:(j:Int)<(n2:Int):=by omega
 have hj0:(0:Int)<=(j:Int):=by omega
 rw[hj] at x1;clear hy ha0 ha1 hj;have hst0a:=qzA (xaj W (.cells #[.int .i64 y.k,.int .i64 y.n] 27)) hst0;have hst:ownsAt (W.alloc (.cells #[.int .i64 y.k,.int .i64 y.n] 27)).drew 0 27 2 (.slice sa f.stack.length sc) f.stack.length (xal f.stack):=(hF1.stack.alloc _).keep fun g hg=>rfl
 obtain⟨v',w',hrun,r1,r2,r3,r4⟩:=xaF (w:=(W.alloc (.cells #[.int .i64 y.k,.int .i64 y.n] 27)).drew) 28 28 27 _ 2 16 Tryz.underlying28 xbW rfl (by omega) 0 f.stack.length (.slice sa f.stack.length sc) (xal f.stack) hst W.heap.size [.int .i64 y.k,.int .i64 y.n] rfl (heap_alloc_new W _) (by intro u hu;simp only[List.mem_cons,List.not_mem_nil,or_false] at hu;rcases hu with h | h<;>(subst h;rfl)) (by unfold maxLen;omega) (by omega) (by omega)
 obtain⟨a',cap',rfl,-⟩:=r1.form;have hbU:Below wr.heap.size wr (W.alloc (.cells #[.int .i64 y.k,.int .i64 y.n] 27)).drew:=xah HB1.out (xaj _ _).drew;obtain⟨d0,df⟩:=xbR HF.out hbU r4;have R1:=hid r1;have R2:=hid r2;have R3:=hid r3;have R4:=hid r4;have HBU:=hid hbU;clear r1 r2 r3 r4 hbU hst hM1 hF1
 go_upto_region 14 with (fail)
 go_region_law (refine xat rfl (.tmp 61) (.tmp 67) 28 rfl (.slice sa f.stack.length sc) (.slice (some ⟨W.heap.size,0,none⟩) 1 1) (.slice a' (f.stack.length+1) cap') (by simp[Act.eval,Act.put]) (by simp[Act.eval,Act.put]) hrun ?_)
 all_goals (
  go_wp2
  exact Or.inl ⟨rfl,xcF hX HR.out HG.out HX.out HPU.out HMa.out HF.out HL.out HBU.out R1.out R2.out R3.out R4.out⟩)
set_option maxRecDepth 8000
section
variable {p:Rp} {d:Nat} {T T1 T2:Nat->Nat} {w wr w2:World} {mb K:Nat} {R:Mc RSt × QV × Int} {av kv:Value} {gk:Nat} {at' at2:Value} {m:Mc RSt} {f:Fr}
variable {c:Int} {n1 n2 n3 G' k:Nat} {x:QI} {hv sv ov st st':Value} {U w':World}
theorem xnw (hX:Rx p)(hR:BdR p d T w mb K R av kv gk at' T1 m f 0 wr)(hg:gk=G'+1)(hx:NxOk f k x)(hop:x.op=10)(hM:RMac p T1 wr mb m (20-(d:Int)) 0 hv sv ov)(hL:xiO c n1 n2 n3 f)(hn:0<f.stack.length){W:World}(hW:Below wr.heap.size wr W){W2:World}(hF:RF T1 K W2 w.heap.size f.pop av kv st)(hK:Kp (fun t=>t=K\/t=K+2) T1 W W2)(hU:Below W2.heap.size W2 U)
  (r1:ownsAt w' 0 27 2 st' (f.pop.stack.length+2) (xal f.pop.stack++[.int .i64 f.top.k,.int .i64 f.top.n,.int .i64 f.top.k,.int .i64 f.top.n])) (r2:st'.ownBlock=st.ownBlock\/∃ g,st'.ownBlock=some g/\U.heap.size<=g) (r3:Below 0 U w') (r4:∀ b,b<U.heap.size->some b≠st.ownBlock->w'.heap[b]?=U.heap[b]?) :
  BdX p d T w mb K R av kv c n1 n2 n3 G' (.int .i64 ((k:Int)+1)) (w'.setCell ⟨w.heap.size+4,0,none⟩ st'):=by
 have hp:=hF.pos;have hfew:=hx.few;have hpl:f.pop.stack.length+1=f.stack.length:=by unfold Fr.pop;simp;omega
 obtain⟨⟨T2,e1,e2⟩,e3⟩:=hF.pushed (vs:=[f.top,f.top]) hU (by simp;omega) (by simpa [xal] using r1) r2 r3 r4
 have hstk:f.pop.stack++[f.top,f.top]=f.stack++[f.top]:=by
  have:f.stack=f.pop.stack++[f.top]:=by
   unfold Fr.pop Fr.top xaW xaM;simp only;rw[if_neg (by omega)]
   have hne:f.stack≠[]:=by intro h;rw[h] at hn;simp at hn
   have hl:((f.stack.length:Int)-1-0).toNat=f.stack.length-1:=by omega
   rw[hl,List.getElem?_eq_getElem (by omega)]
   simp only[Option.getD_some];rw[← List.getLast_eq_getElem hne]
   exact (List.dropLast_concat_getLast hne).symm
  conv=>rhs;rw[this]
  simp
 have hr:xan (xa1 p.E d) p.E d m { f with pc:=f.pc+1 } f.pc x=(m,({ f with pc:=f.pc+1 }:Fr).push f.top,0):=by
  rw[xbK _ _ (by omega)];unfold xcy;rw[if_neg (by omega),if_pos hop];rfl
 have kW:Kp (fun t=>t=K\/t=K+2) T1 wr W2:=(Kp.of_below hW).trans (.refl _ _) hK
 have kk:Kp (fun t=>t=K\/t=K+2) T1 wr (w'.setCell ⟨w.heap.size+4,0,none⟩ st'):=kW.trans (.refl _ _) e3
 have eE:Ext T1 T2 wr:=fun b hb=>e1 b (qzE hb kW.size)
 have hf2:RF T2 K (w'.setCell ⟨w.heap.size+4,0,none⟩ st') w.heap.size { f with stack:=f.stack++[f.top] } av kv st':=by rw[← hstk];exact e2
 exact xcj hX hR hg hx (by omega) hr eE (xdB kk fun t ht=>by omega) (hM.keep eE kk (by omega) (by omega) (by omega) (by omega)) (fun _=>⟨_,hf2.at _⟩) (fun _=>by show f.pc+1=_;rw[hx.pc]) (fun _=>hL)
theorem xi1 (hx:NxOk f k x)(h:xaN x k=⟨1,-1,[(k:Int)+1]⟩):0<f.stack.length:=by
 have:=hx.need;rw[h] at this;simp only[] at this
 omega
theorem RF.t4W (h:RF T1 K wr w.heap.size f av kv st)(hb:Below wr.heap.size wr U):RF (xau T1 wr 4) K U w.heap.size f av kv st:=h.keep (S:=fun _=>False) (xao T1 wr 4) (.of_below hb) id id id id id
theorem RMac.t4W {err:Int}(h:RMac p T1 wr mb m (20-(d:Int)) err hv sv ov)(hb:Below wr.heap.size wr U):RMac p (xau T1 wr 4) U mb m (20-(d:Int)) err hv sv ov:=h.keep (S:=fun _=>False) (xao T1 wr 4) (.of_below hb) id id id id
theorem kp4 {S:Nat->Prop}{W W2:World}(hb:Below wr.heap.size wr W)(k:Kp S (xau T1 wr 4) W W2):Kp S T1 wr W2:=by
 refine (Kp.of_below hb).trans (T':=xau T1 wr 4) (xao T1 wr 4) k
theorem xnj (hX:Rx p)(hR:BdR p d T w mb K R av kv gk at' T1 m f 0 wr)(hg:gk=G'+1)(hx:NxOk f k x)(hop:x.op=11){j:Nat}(hj:x.a=(j:Int))(hM:RMac p T1 wr mb m (20-(d:Int)) 0 hv sv ov)(hL:xiO c n1 n2 n3 f){W W2:World}(hW:Below wr.heap.size wr W)(hF:RF (xau T1 wr 4) K W2 w.heap.size f.pop av kv st)(hK:Kp (fun t=>t=K\/t=K+2) (xau T1 wr 4) W W2) :
  BdX p d T w mb K R av kv c n1 n2 n3 G' (.int .i64 ((k:Int)+1)) ((W2.setCell ⟨w.heap.size+3,j*2,none⟩ (.int .i64 f.top.k)).setCell ⟨w.heap.size+3,j*2+1,none⟩ (.int .i64 f.top.n)):=by
 have hp:=hF.pos;obtain⟨e1,e2⟩:=hF.temped j f.top
 have hr:xan (xa1 p.E d) p.E d m { f with pc:=f.pc+1 } f.pc x=(m,{ ({ f with pc:=f.pc+1 }:Fr).pop with temps:=f.temps.set j f.top },0):=by
  rw[xbK _ _ (by omega)];unfold xcy;rw[if_neg (by omega),if_neg (by omega),if_pos hop]
  unfold xaV;rw[if_neg (by omega),hj];simp;rfl
 have k1:=(hK.mono (S':=fun t=>t=K\/t=K+1\/t=K+2) fun t h=>by omega).trans (.refl _ _) (e2.mono (S':=fun t=>t=K\/t=K+1\/t=K+2) fun t h=>by omega)
 have k2:=kp4 hW k1
 exact xcj hX hR hg hx (by omega) hr (xao T1 wr 4) (xdB k2 fun t ht=>by omega) (hM.keep (xao T1 wr 4) k2 (by omega) (by omega) (by omega) (by omega)) (fun _=>⟨_,e1.at _⟩) (fun _=>by show f.pc+1=_;rw[hx.pc]) (fun _=>⟨hL.1,hL.2.1,by show (f.temps.set j f.top).length=_;rw[List.length_set];exact hL.2.2.1,hL.2.2.2⟩)
theorem xnA (hX:Rx p)(hR:BdR p d T w mb K R av kv gk at' T1 m f 0 wr)(hg:gk=G'+1)(hx:NxOk f k x)(hop:x.op=12){j:Nat}(hj:x.a=(j:Int))(hL:xiO c n1 n2 n3 f){W W2 W3:World}(hW:Below wr.heap.size wr W)(hF:RF (xau T1 wr 4) K W2 w.heap.size f.pop av kv st)(hK:Kp (fun t=>t=K\/t=K+2) (xau T1 wr 4) W W2){T3:Nat->Nat}{hv3:Value}(hE3:Ext (xau T1 wr 4) T3 W2)(hM3:RMac p T3 W3 mb { m with heap:=xaR m.heap f.self j f.top } (20-(d:Int)) 0 hv3 sv ov)(hK3:Kp (fun t=>t=1) (xau T1 wr 4) W2 W3) :
  BdX p d T w mb K R av kv c n1 n2 n3 G' (.int .i64 ((k:Int)+1)) W3:=by
 have hp:=hF.pos
 have hr:xan (xa1 p.E d) p.E d m { f with pc:=f.pc+1 } f.pc x=({ m with heap:=xaR m.heap f.self j f.top },({ f with pc:=f.pc+1 }:Fr).pop,0):=by
  rw[xbK _ _ (by omega)];unfold xcy;rw[if_neg (by omega),if_neg (by omega),if_neg (by omega),if_pos hop,hj];rfl
 have k1:Kp (All K) (xau T1 wr 4) W W3:=(xdB hK fun t ht=>by omega).trans (.refl _ _) (xdB hK3 fun t ht=>by omega)
 have eE:Ext T1 T3 wr:=fun b hb=>(hE3 b (by have:=hW.size;have:=hK.size;omega)).trans (xao T1 wr 4 b hb)
 exact xcj hX hR hg hx (by omega) hr eE (kp4 hW k1) hM3 (fun _=>⟨_,(hF.keep hE3 hK3 (by omega) (by omega) (by omega) (by omega) (by omega)).at _⟩) (fun _=>by show f.pc+1=_;rw[hx.pc]) (fun _=>hL)
theorem xl7 {S n:Int}{mt:QM}(h:xgk S n mt x=0)(ho:x.op=4\/x.op=12):0<=x.a:=by
 unfold xgk at h
 split at h
 ·cases h
 ·rename_i h1
  split at h
  ·cases h
  ·rename_i hra
   rcases ho with ho | ho<;>(simp[raE,ho,inR] at hra;omega)
theorem xnv (hP:PlOk f)(hx:NxOk f k x)(ho:x.op=4\/x.op=12):0<=x.a:=by
 obtain⟨S,n,hn⟩:=hP.nums
 exact xl7 (hn x (List.mem_of_getElem? hx.here)) ho
theorem xlQ (hX:Rx p)(hR:BdR p d T w mb K R av kv gk at' T1 m f 0 wr)(hg:gk=G'+1)(hx:NxOk f k x)(hop:x.op=16)(h1:f.top.k≠1)(h2:f.top.k≠2){T2:Nat->Nat}{W2:World}(hE:Ext T1 T2 wr)(hK:Kp (All K) T1 wr W2)(hM:RMac p T2 W2 mb m (20-(d:Int)) 11 hv sv ov) :
  BdX p d T w mb K R av kv c n1 n2 n3 G' (.int .i64 ((k:Int)+1)) W2:=by
 have hr:xan (xa1 p.E d) p.E d m { f with pc:=f.pc+1 } f.pc x=(m,{ f with pc:=f.pc+1 },11):=by
  rw[xbK _ _ (by omega)];unfold xcy;rw[if_neg (by omega),if_neg (by omega),if_neg (by omega),if_neg (by omega),if_neg (by omega),if_neg (by omega),if_neg (by omega),if_pos hop]
  unfold xbr
  show (if f.top.k=2 then _ else if f.top.k=1 then _ else _)=_
  rw[if_neg (show ¬ f.top.k=2 from h2),if_neg (show ¬ f.top.k=1 from h1)]
 exact xcj hX hR hg hx (by omega) hr hE hK hM (fun h=>by cases h) (fun h=>by cases h) (fun h=>by cases h)
theorem xnO (hX:Rx p)(hR:BdR p d T w mb K R av kv gk at' T1 m f 0 wr)(hg:gk=G'+1)(hx:NxOk f k x)(hop:x.op=16)(h2:f.top.k=2)(hL:xiO c n1 n2 n3 f){T2:Nat->Nat}{W2:World}(hE:Ext T1 T2 wr)(hK:Kp (All K) T1 wr W2)(hM:RMac p T2 W2 mb m (20-(d:Int)) 0 hv sv ov)(hF:RF T2 K W2 w.heap.size f.pop av kv st) :
  BdX p d T w mb K R av kv c n1 n2 n3 G' (.int .i64 ((k:Int)+1)) W2:=by
 have hr:xan (xa1 p.E d) p.E d m { f with pc:=f.pc+1 } f.pc x=(m,({ f with pc:=f.pc+1 }:Fr).pop,0):=by
  rw[xbK _ _ (by omega)];unfold xcy;rw[if_neg (by omega),if_neg (by omega),if_neg (by omega),if_neg (by omega),if_neg (by omega),if_neg (by omega),if_neg (by omega),if_pos hop]
  unfold xbr
  show (if f.top.k=2 then _ else if f.top.k=1 then _ else _)=_
  rw[if_pos (show f.top.k=2 from h2)]
 exact xcj hX hR hg hx (by omega) hr hE hK hM (fun _=>⟨_,hF.at _⟩) (fun _=>by show f.pc+1=_;rw[hx.pc]) (fun _=>hL)
theorem xkd (hop:x.op=16)(h1:f.top.k=1)(hx:NxOk f k x):xan (xa1 p.E d) p.E d m { f with pc:=f.pc+1 } f.pc x=xaX m ({ f with pc:=f.pc+1 }:Fr).pop k x.a:=by
 rw[xbK _ _ (by omega)];unfold xcy;rw[if_neg (by omega),if_neg (by omega),if_neg (by omega),if_neg (by omega),if_neg (by omega),if_neg (by omega),if_neg (by omega),if_pos hop]
 unfold xbr
 show (if f.top.k=2 then _ else if f.top.k=1 then _ else _)=_
 rw[if_neg (show ¬ f.top.k=2 by omega),if_pos (show f.top.k=1 from h1),hx.pc]
theorem xkM (hop:x.op=15)(hx:NxOk f k x):xan (xa1 p.E d) p.E d m { f with pc:=f.pc+1 } f.pc x=xaX m { f with pc:=f.pc+1 } k x.a:=by
 rw[xbK _ _ (by omega)];unfold xcy;rw[if_neg (by omega),if_neg (by omega),if_neg (by omega),if_neg (by omega),if_neg (by omega),if_neg (by omega),if_pos hop,hx.pc]
theorem xcD (hF:RF T1 K wr w.heap.size f av kv st)(r4:∀ b,b<U.heap.size->some b≠st.ownBlock->w'.heap[b]?=U.heap[b]?){b o:Nat}{v:Value}(ht:b<wr.heap.size->T1 b≠K+2)(h:U.cell? ⟨b,o,none⟩=some v):w'.cell? ⟨b,o,none⟩=some v:=by
 have hl:=World.block_lt_of_cell? U ⟨b,o,none⟩ h;have hne:some b≠st.ownBlock:=fun e=>ht (hF.stack.lt b e.symm).2 (hF.stag b e.symm)
 unfold World.cell? at h ⊢;rw[r4 b hl hne]
 exact h
end
set_option maxRecDepth 100000
theorem br4 {p:Rp}{d:Nat}{T T1:Nat->Nat}{w wr W:World}{mb K:Nat}{R:Mc RSt × QV × Int}{av kv:Value}{gk G':Nat}{m:Mc RSt}{f:Fr}{c:Int}{n1 n2 n3 k:Nat}{x:QI}{hv sv ov:Value}{sa:Option Addr}{sc:Nat}(H:SwC p d T w mb K R av kv gk G' c n1 n2 n3 T1 m f wr W k x hv sv ov sa sc)(hop:x.op=4)
  {u0 u1 u2 u3 u4 u5 u6 u7 u8 u9 ua ub uc ud ue uf ug uh ui uj uk ul um un uo up uq ur us ut uu uv uw ux uy uz ua0 ua1 ua2 ua3 ua4 ua5 ua6 ua7 ua8 ua9
  uaa uab uac uad uae uaf uag uah uai uaj uak ual uam uan uao uap uaq uar uas uat uau uav uaw uax uay uaz ub0 ub1 ub2 ub3 ub4 ub5 ub6 ub7 ub8 ub9 uba ubb ubc ubd ube ubf ubg ubh
  ubi ubj ubk ubl ubm ubn ubo ubp ubq ubr ubs ubt ubu ubv ubw ubx uby ubz uc0 uc1 uc2 uc3 uc4 uc5 uc6 uc7 uc8 uc9 uca ucb ucc ucd uce ucf ucg uch
  uci ucj uck ucl ucm ucn uco ucp ucq ucr ucs uct ucu ucv ucw ucx ucy ucz ud0 ud1 ud2 ud3 ud4 ud5 ud6 ud7 ud8 ud9 uda udb udc udd ude udf udg udh
  udi udj udk udl udm udn udo udp udq udr uds udt udu udv udw udx udy udz ue0 ue1 ue2 ue3 ue4 ue5 ue6 ue7 ue8 ue9 uea ueb uec ued uee uef ueg ueh
  uei uej uek uel uem uen ueo uep ueq uer ues uet ueu uev uew uex uey uez uf0 uf1 uf2 uf3 uf4 uf5 uf6 uf7 uf8 uf9 ufa ufb ufc ufd ufe uff ufg ufh
  ufi ufj ufk ufl ufm ufn ufo ufp ufq ufr ufs uft ufu ufv ufw ufx ufy ufz ug0 ug1 ug2 ug3 ug4 ug5 ug6 ug7 ug8 ug9 uga ugb ugc ugd uge ugf ugg ugh
  ugi ugj ugk ugl ugm ugn ugo ugp ugq ugr ugs ugt ugu ugv ugw ugx ugy ugz uh0 uh1 uh2 uh3:Value}
  {KT K2 K3:Act->World->Prop}
  (hN:∀ (u5 u6 u7 u8 u9 ua ub uc uu uv uw ux uy uz ua0 ua1 ua2 ua3 ua4 ua5 ua6 ua7 ua8 ua9 uaa uab uac uad uae uaf uag uah uai uaj uak ual uam uan uao uap uaq uar uas uat uau
  uav uaw uax uay uaz ub0 ub1 ub2 ub3 ub4 ub5 ub6 ub7 ub8 ub9 uba ubb ubc ubd ube ubf ubg ubh ubi ubj ubk ubl ubm ubn ubo ubp ubq ubr ubs ubt ubu ubv ubw ubx uby
  ubz uc0 uc1 uc2 uc3 uc4 uc5 uc6 uc7 uc8 uc9 uca ucb ucc ucd uce ucf ucg uch uci ucj uck ucl ucm ucn uco ucp ucq ucr ucs uct ucu ucv ucw ucx ucy
  ucz ud0 ud1 ud2 ud3 ud4 ud5 ud6 ud7 ud8 ud9 uda udb udc udd ude udf udg udh udi udj udk udl udm udn udo udp udq udr uds udt udu udv udw udx udy
  udz ue0 ue1 ue2 ue3 ue4 ue5 ue6 ue7 ue8 ue9 uea ueb uec ued uee uef ueg ueh uei uej uek uel uem uen ueo uep ueq uer ues uet ueu uev uew uex uey
  uez uf0 uf1 uf2 uf3 uf4 uf5 uf6 uf7 uf8 uf9 ufa ufb ufc ufd ufe uff ufg ufh ufi ufj ufk ufl ufm ufn ufo ufp ufq ufr ufs uft ufu ufv ufw ufx ufy
  ufz ug0 ug1 ug2 ug3 ug4 ug5 ug6 ug7 ug8 ug9 uga ugb ugc ugd uge ugf ugg ugh ugi ugj:Value) (tg:Int) (w':World),xf0 p d T w mb K R av kv G' c n1 n2 n3 T1 m f wr k x tg w'->KT (Act.mk #[.pointer (some ⟨mb,0,none⟩),.int .i64 c,u0,u1,av,u2,u3,.pointer (some ⟨w.heap.size,0,none⟩),.pointer (some ⟨w.heap.size+1,0,none⟩),u4,.pointer (some
  ⟨w.heap.size+2,0,none⟩),.slice (some ⟨w.heap.size+3,0,none⟩) n2 n2,.pointer (some ⟨w.heap.size+4,0,none⟩),.func (.func 68) #[] #[.pointer (some ⟨w.heap.size+4,0,
  none⟩)],.int .i64 (k:Int),.pointer (some ⟨wr.heap.size,0,none⟩),.int .i64 tg,u5,u6,u7,u8,u9,ua,ub,uc,ud,ue,uf,ug,uh,ui,uj,uk,ul,um,un,
  uo,up,uq,ur,us,ut,.int .i64 4,uu,uv,uw,ux,uy,uz,ua0,ua1,ua2,ua3,ua4,ua5,ua6,ua7,ua8,ua9,uaa,uab,uac,uad,uae,uaf,uag,uah,uai,uaj,uak,
  ual,uam,uan,uao,uap,uaq,uar,uas,uat,uau,uav,uaw,uax,uay,uaz,ub0,ub1,ub2,ub3,ub4,ub5,ub6,ub7,ub8,ub9,uba,ubb,ubc,ubd,ube,ubf,ubg,ubh,ubi,ubj,
  ubk,ubl,ubm,ubn,ubo,ubp,ubq,ubr,ubs,ubt,ubu,ubv,ubw,ubx,uby,ubz,uc0,uc1,uc2,uc3,uc4,uc5,uc6,uc7,uc8,uc9,uca,ucb,ucc,ucd,
  uce,ucf,ucg,uch,uci,ucj,uck,ucl,ucm,ucn,uco,ucp,ucq,ucr,ucs,uct,ucu,ucv,ucw,ucx,ucy,ucz,ud0,ud1,ud2,ud3,ud4,ud5,ud6,ud7,
  ud8,ud9,uda,udb,udc,udd,ude,udf,udg,udh,udi,udj,udk,udl,udm,udn,udo,udp,udq,udr,uds,udt,udu,udv,udw,udx,udy,udz,ue0,ue1,
  ue2,ue3,ue4,ue5,ue6,ue7,ue8,ue9,uea,ueb,uec,ued,uee,uef,ueg,ueh,uei,uej,uek,uel,uem,uen,ueo,uep,ueq,uer,ues,uet,ueu,uev,
  uew,uex,uey,uez,uf0,uf1,uf2,uf3,uf4,uf5,uf6,uf7,uf8,uf9,ufa,ufb,ufc,ufd,ufe,uff,ufg,ufh,ufi,ufj,ufk,ufl,ufm,ufn,ufo,ufp,
  ufq,ufr,ufs,uft,ufu,ufv,ufw,ufx,ufy,ufz,ug0,ug1,ug2,ug3,ug4,ug5,ug6,ug7,ug8,ug9,uga,ugb,ugc,ugd,uge,ugf,ugg,ugh,ugi,ugj,
  ugk,ugl,ugm,ugn,ugo,ugp,ugq,ugr,ugs,ugt,ugu,ugv,ugw,ugx,ugy,ugz,uh0,uh1,uh2,uh3] []) w')
  {K9:Act->World->Prop} (hK9:∀ a w',Code.wp Tryz.prog sw9 (Exit.inBlock 2 (Exit.then KT (Exit.inBlock 1 (Exit.then K2 (Exit.inBlock 0 (Exit.then K3 (bodyPost Tryz.prog Tryz.f52 fun e w'=>xaS p T w mb (20-(d:Int)) K R e w'))))))) a w'->K9 a w') :
  Code.wp Tryz.prog xdw (Exit.then K9 (Exit.inBlock 2 (Exit.then KT (Exit.inBlock 1 (Exit.then K2 (Exit.inBlock 0 (Exit.then K3 (bodyPost Tryz.prog Tryz.f52 fun e w'=>xaS p T w mb (20-(d:Int)) K R e w')))))))) (Act.mk #[.pointer (some ⟨mb,0,none⟩),.int .i64 c,u0,u1,av,u2,u3,.pointer (some ⟨w.heap.size,0,none⟩),.pointer (some ⟨w.heap.size+1,0,none⟩),u4,.pointer (some
  ⟨w.heap.size+2,0,none⟩),.slice (some ⟨w.heap.size+3,0,none⟩) n2 n2,.pointer (some ⟨w.heap.size+4,0,none⟩),.func (.func 68) #[] #[.pointer (some ⟨w.heap.size+4,0,
  none⟩)],.int .i64 (k:Int),.pointer (some ⟨wr.heap.size,0,none⟩),.int .i64 ((k:Int)+1),u5,u6,u7,u8,u9,ua,ub,uc,ud,ue,uf,ug,uh,ui,uj,uk,
  ul,um,un,uo,up,uq,ur,us,ut,.int .i64 4,uu,uv,uw,ux,uy,uz,ua0,ua1,ua2,ua3,ua4,ua5,ua6,ua7,ua8,ua9,uaa,uab,uac,uad,uae,uaf,uag,uah,
  uai,uaj,uak,ual,uam,uan,uao,uap,uaq,uar,uas,uat,uau,uav,uaw,uax,uay,uaz,ub0,ub1,ub2,ub3,ub4,ub5,ub6,ub7,ub8,ub9,uba,ubb,ubc,ubd,ube,ubf,ubg,
  ubh,ubi,ubj,ubk,ubl,ubm,ubn,ubo,ubp,ubq,ubr,ubs,ubt,ubu,ubv,ubw,ubx,uby,ubz,uc0,uc1,uc2,uc3,uc4,uc5,uc6,uc7,uc8,uc9,uca,
  ucb,ucc,ucd,uce,ucf,ucg,uch,uci,ucj,uck,ucl,ucm,ucn,uco,ucp,ucq,ucr,ucs,uct,ucu,ucv,ucw,ucx,ucy,ucz,ud0,ud1,ud2,ud3,ud4,
  ud5,ud6,ud7,ud8,ud9,uda,udb,udc,udd,ude,udf,udg,udh,udi,udj,udk,udl,udm,udn,udo,udp,udq,udr,uds,udt,udu,udv,udw,udx,udy,
  udz,ue0,ue1,ue2,ue3,ue4,ue5,ue6,ue7,ue8,ue9,uea,ueb,uec,ued,uee,uef,ueg,ueh,uei,uej,uek,uel,uem,uen,ueo,uep,ueq,uer,ues,
  uet,ueu,uev,uew,uex,uey,uez,uf0,uf1,uf2,uf3,uf4,uf5,uf6,uf7,uf8,uf9,ufa,ufb,ufc,ufd,ufe,uff,ufg,ufh,ufi,ufj,ufk,ufl,ufm,
  ufn,ufo,ufp,ufq,ufr,ufs,uft,ufu,ufv,ufw,ufx,ufy,ufz,ug0,ug1,ug2,ug3,ug4,ug5,ug6,ug7,ug8,ug9,uga,ugb,ugc,ugd,uge,ugf,ugg,
  ugh,ugi,ugj,ugk,ugl,ugm,ugn,ugo,ugp,ugq,ugr,ugs,ugt,ugu,ugv,ugw,ugx,ugy,ugz,uh0,uh1,uh2,uh3] []) W:=by
 obtain⟨hX,hEn,HR0,HG0,HX0,HMa0,HF0,hscap,HL0,hbel,hxb,⟨aa,ca,rfl,hca⟩,ht40,HI0⟩:=H;have HR:=hid HR0;have HG:=hid HG0;have HX:=hid HX0;have HMa:=hid HMa0;have HF:=hid HF0;have HL:=hid HL0;have HB1:=hid hbel;have HI:=hid HI0;have HOP:=hid hop;have HEn:=hid hEn;have hM1:=HMa0.later hbel;have hF1:=HF0.later hbel;obtain⟨hsc1,hsc2⟩:=hscap;have hBl:w.heap.size+4<wr.heap.size:=xaf HF0.sb;have hWl:wr.heap.size<=W.heap.size:=hbel.size;clear HR0 HG0 HX0 HMa0 HF0 HL0 HI0 hop hbel hEn;unfold xdw;unfold sw9 at hK9;have hfw:=HX.out.few
 have HPU:Hid (xaA m.heap { f with pc:=f.pc+1 } x=some (xcV m.heap f.self x.a)):=by
  show _=_
  have hop:x.op=4:=HOP.out;unfold xaA
  simp[hop]
 obtain⟨ah,ch,rfl,-⟩:=id hM1.heap;have hSl:∀ w',Below W.heap.size W w'->w'.cell? ⟨w.heap.size+4,0,none⟩=some (.slice sa f.stack.length sc)/\w'.cell? ⟨mb,1,none⟩=some (.slice ah m.heap.length ch)/\w'.cell? ⟨w.heap.size+1,0,none⟩=some (.int .i64 f.self.k)/\w'.cell? ⟨w.heap.size+1,1,none⟩=some (.int .i64 f.self.n)/\w'.cell? ⟨wr.heap.size,1,none⟩=some (.int .i64 x.a):=fun w' hb=>⟨qzA hb hF1.st,qzA hb hM1.c1,qzA hb hF1.v0,qzA hb hF1.v1,qzA hb hxb.x1⟩
 have hS0:=hSl _ (Below.refl _ W).drew
 go_upto_region 16 with (fail)
 refine xfz (S:=fun w'=>w'.cell? ⟨w.heap.size+4,0,none⟩=some (.slice sa f.stack.length sc)/\w'.cell? ⟨mb,1,none⟩=some (.slice ah m.heap.length ch)/\w'.cell? ⟨w.heap.size+1,0,none⟩=some (.int .i64 f.self.k)/\w'.cell? ⟨w.heap.size+1,1,none⟩=some (.int .i64 f.self.n)/\w'.cell? ⟨wr.heap.size,1,none⟩=some (.int .i64 x.a)) 12 (by kernel_rfl) ?_
 refine xbs (i:=0) (oi:=⟨some 71,.load 28 (.tmp 12),28,_,_,none⟩) (v:=.slice sa f.stack.length sc) (by kernel_rfl) rfl rfl (by kernel_rfl) (by kernel_rfl) (by kernel_rfl) (fun _ _ _ h=>h) (Or.inl ⟨by rfl,?_⟩) hS0 ?_
 ·intro w hSw;obtain⟨q0,q1,q2,q3,q4⟩:=hSw;go_simp
 try simp only[Act.put,qzF,qzG,qzH]
 refine xbs (i:=1) (oi:=⟨some 72,.move (.tmp 0),47,_,_,none⟩) (v:=.pointer (some ⟨mb,0,none⟩)) (by kernel_rfl) rfl rfl (by kernel_rfl) (by kernel_rfl) (by kernel_rfl) (fun _ _ _ h=>h) (Or.inl ⟨by rfl,?_⟩) hS0 ?_
 ·intro w hSw;obtain⟨q0,q1,q2,q3,q4⟩:=hSw;go_simp
 try simp only[Act.put,qzF,qzG,qzH]
 refine xbs (i:=2) (oi:=⟨some 73,.nilCheck (.tmp 72),0,_,_,none⟩) (v:=.pointer (some ⟨mb,0,none⟩)) (by kernel_rfl) rfl rfl (by kernel_rfl) (by kernel_rfl) (by kernel_rfl) (fun _ _ _ h=>h) (Or.inl ⟨by rfl,?_⟩) hS0 ?_
 ·intro w hSw;obtain⟨q0,q1,q2,q3,q4⟩:=hSw;go_simp
 try simp only[Act.put,qzF,qzG,qzH]
 refine xbs (i:=3) (oi:=⟨some 74,.fieldAddr 89 (.tmp 73) 0,0,_,_,none⟩) (v:=.pointer (some ⟨mb,0,none⟩)) (by kernel_rfl) rfl rfl (by kernel_rfl) (by kernel_rfl) (by kernel_rfl) (fun _ _ _ h=>h) (Or.inl ⟨by rfl,?_⟩) hS0 ?_
 ·intro w hSw;obtain⟨q0,q1,q2,q3,q4⟩:=hSw;go_simp
 try simp only[Act.put,qzF,qzG,qzH]
 refine xbs (i:=4) (oi:=⟨some 75,.fieldAddr 25 (.tmp 74) 1,0,_,_,none⟩) (v:=.pointer (some ⟨mb,1,none⟩)) (by kernel_rfl) rfl rfl (by kernel_rfl) (by kernel_rfl) (by kernel_rfl) (fun _ _ _ h=>h) (Or.inl ⟨by rfl,?_⟩) hS0 ?_
 ·intro w hSw;obtain⟨q0,q1,q2,q3,q4⟩:=hSw;go_simp
 try simp only[Act.put,qzF,qzG,qzH]
 refine xbs (i:=5) (oi:=⟨some 76,.load 23 (.tmp 75),23,_,_,none⟩) (v:=.slice ah m.heap.length ch) (by kernel_rfl) rfl rfl (by kernel_rfl) (by kernel_rfl) (by kernel_rfl) (fun _ _ _ h=>h) (Or.inl ⟨by rfl,?_⟩) hS0 ?_
 ·intro w hSw;obtain⟨q0,q1,q2,q3,q4⟩:=hSw;go_simp
 try simp only[Act.put,qzF,qzG,qzH]
 refine xbs (i:=6) (oi:=⟨some 77,.load 27 (.tmp 8),27,_,_,none⟩) (v:=VV f.self) (by kernel_rfl) rfl rfl (by kernel_rfl) (by kernel_rfl) (by kernel_rfl) (fun _ _ _ h=>h) (Or.inl ⟨by rfl,?_⟩) hS0 ?_
 ·intro w hSw;obtain⟨q0,q1,q2,q3,q4⟩:=hSw;go_simp
 try simp only[Act.put,qzF,qzG,qzH]
 refine xbs (i:=7) (oi:=⟨some 78,.fieldAddr 76 (.tmp 15) 1,0,_,_,none⟩) (v:=.pointer (some ⟨wr.heap.size,1,none⟩)) (by kernel_rfl) rfl rfl (by kernel_rfl) (by kernel_rfl) (by kernel_rfl) (fun _ _ _ h=>h) (Or.inl ⟨by rfl,?_⟩) hS0 ?_
 ·intro w hSw;obtain⟨q0,q1,q2,q3,q4⟩:=hSw;go_simp
 try simp only[Act.put,qzF,qzG,qzH]
 refine xbs (i:=8) (oi:=⟨some 79,.load 3 (.tmp 78),3,_,_,none⟩) (v:=.int .i64 x.a) (by kernel_rfl) rfl rfl (by kernel_rfl) (by kernel_rfl) (by kernel_rfl) (fun _ _ _ h=>h) (Or.inl ⟨by rfl,?_⟩) hS0 ?_
 ·intro w hSw;obtain⟨q0,q1,q2,q3,q4⟩:=hSw;go_simp
 try simp only[Act.put,qzF,qzG,qzH]
 refine xcC (rs:=[9]) (by kernel_rfl) (by simp) ?_
 intro i hi;simp only[List.mem_cons,List.not_mem_nil,or_false] at hi;subst hi;refine xmj (o:=⟨some 80,.call ⟨.value (.func 69),#[.tmp 76,.tmp 77,.tmp 79],#[23,27,3]⟩,27,_,_,none⟩) rfl (fun K' hK=>?_)
 refine xbv rfl 69 (.func 69) #[.tmp 76,.tmp 77,.tmp 79] _ rfl #[] rfl #[.slice ah m.heap.length ch,VV f.self,.int .i64 x.a] (by simp[Act.eval,Act.put]) (cf48 _ _) ?_
 refine (show Calls Tryz.prog 69 #[.slice ah m.heap.length ch,VV f.self,.int .i64 x.a] W.drew _ from (xkl m.heap _ f.self x.a _ (hM1.heap.later xaD (Below.refl _ W).drew)).mono ?_)
 rintro e wc ⟨rfl,hbc⟩;refine⟨_,rfl,?_⟩;generalize xcV m.heap f.self x.a=y at *;have hbW:Below W.heap.size W wc:=xah (Below.refl _ W).drew hbc;refine hK _ _ (fun _=>hSl _ hbW) ?_
 clear hK K'
 try simp only[Act.put,qzF,qzG,qzH]
 refine xcC (rs:=[10]) (by kernel_rfl) (by simp) ?_
 intro i hi;simp only[List.mem_cons,List.not_mem_nil,or_false] at hi;subst hi;refine xmj (o:=⟨some 81,.buildSlice 28 1 #[(0,.tmp 80)],28,_,_,none⟩) rfl (fun K' hK=>?_)
 go_simp;refine hK _ _ (fun _=>hSl _ (xah hbW (xaj _ _))) ?_
 clear hK K'
 try simp only[Act.put,qzF,qzG,qzH]
 refine xcC (rs:=[11]) (by kernel_rfl) (by simp) ?_
 intro i hi;simp only[List.mem_cons,List.not_mem_nil,or_false] at hi;subst hi;refine xmj (o:=⟨some 82,.call ⟨.builtin .append,#[.tmp 71,.tmp 81],#[28,28]⟩,28,_,_,none⟩) rfl (fun K' hK=>?_)
 have hst:ownsAt (wc.alloc (.cells #[.int .i64 y.k,.int .i64 y.n] 27)) 0 27 2 (.slice sa f.stack.length sc) f.stack.length (xal f.stack):=((hF1.later hbW).stack.alloc _);obtain⟨v',w',hrun,r1,r2,r3,r4⟩:=xaF (w:=wc.alloc (.cells #[.int .i64 y.k,.int .i64 y.n] 27)) 28 28 27 _ 2 16 Tryz.underlying28 xbW rfl (by omega) 0 f.stack.length (.slice sa f.stack.length sc) (xal f.stack) hst wc.heap.size [.int .i64 y.k,.int .i64 y.n] rfl (heap_alloc_new wc _) (by intro u hu;simp only[List.mem_cons,List.not_mem_nil,or_false] at hu;rcases hu with h | h<;>(subst h;rfl)) (by unfold maxLen;omega) (by omega) (by omega)
 obtain⟨a',cap',rfl,-⟩:=r1.form;have hbU:Below wr.heap.size wr (wc.alloc (.cells #[.int .i64 y.k,.int .i64 y.n] 27)):=xah (xah HB1.out hbW) (xaj _ _);obtain⟨d0,df⟩:=xbR HF.out hbU r4;refine xat rfl (.tmp 71) (.tmp 81) 28 rfl (.slice sa f.stack.length sc) (.slice (some ⟨wc.heap.size,0,none⟩) 1 1) (.slice a' (f.stack.length+1) cap') (by simp[Act.eval,Act.put]) (by simp[Act.eval,Act.put]) hrun ?_
 obtain⟨z0,z1,z2,z3,z4⟩:=hSl _ (xah hbW (xaj wc (.cells #[.int .i64 y.k,.int .i64 y.n] 27)));have hp5:=HF.out.pos;have hSa:w'.cell? ⟨w.heap.size+4,0,none⟩=some (.slice sa f.stack.length sc)/\w'.cell? ⟨mb,1,none⟩=some (.slice ah m.heap.length ch)/\w'.cell? ⟨w.heap.size+1,0,none⟩=some (.int .i64 f.self.k)/\w'.cell? ⟨w.heap.size+1,1,none⟩=some (.int .i64 f.self.n)/\w'.cell? ⟨wr.heap.size,1,none⟩=some (.int .i64 x.a):=⟨d0,xcD HF.out r4 (fun _=>by rw[HMa.out.tag];omega) z1,xcD HF.out r4 (fun _=>by rw[HF.out.t1];omega) z2,xcD HF.out r4 (fun _=>by rw[HF.out.t1];omega) z3,xcD HF.out r4 (fun h=>absurd h (Nat.lt_irrefl _)) z4⟩
 refine hK _ _ (fun _=>hSa) ?_
 clear hK K'
 try simp only[Act.put,qzF,qzG,qzH]
 refine xcC (rs:=[12]) (by kernel_rfl) (by simp) ?_
 intro i hi;simp only[List.mem_cons,List.not_mem_nil,or_false] at hi;subst hi;refine xmj (o:=⟨none,.store 28 (.tmp 12) (.tmp 82),0,_,_,none⟩) rfl (fun K' hK=>?_)
 go_simp;refine hK _ _ (fun h=>absurd rfl h) ?_
 clear hK K'
 try simp only[Act.put,qzF,qzG,qzH]
 refine xhV (by kernel_rfl) ?_ _
 try simp only[Act.put,qzF,qzG,qzH]
 go_wp2
 exact Or.inl ⟨rfl,xcF hX HR.out HG.out HX.out HPU.out HMa.out HF.out HL.out hbU r1 r2 r3 r4⟩
theorem br5 {p:Rp}{d:Nat}{T T1:Nat->Nat}{w wr W:World}{mb K:Nat}{R:Mc RSt × QV × Int}{av kv:Value}{gk G':Nat}{m:Mc RSt}{f:Fr}{c:Int}{n1 n2 n3 k:Nat}{x:QI}{hv sv ov:Value}{sa:Option Addr}{sc:Nat}(H:SwC p d T w mb K R av kv gk G' c n1 n2 n3 T1 m f wr W k x hv sv ov sa sc)(hop:x.op=5)
  {u0 u1 u2 u3 u4 u5 u6 u7 u8 u9 ua ub uc ud ue uf ug uh ui uj uk ul um un uo up uq ur us ut uu uv uw ux uy uz ua0 ua1 ua2 ua3 ua4 ua5 ua6 ua7 ua8 ua9
  uaa uab uac uad uae uaf uag uah uai uaj uak ual uam uan uao uap uaq uar uas uat uau uav uaw uax uay uaz ub0 ub1 ub2 ub3 ub4 ub5 ub6 ub7 ub8 ub9 uba ubb ubc ubd ube ubf ubg ubh
  ubi ubj ubk ubl ubm ubn ubo ubp ubq ubr ubs ubt ubu ubv ubw ubx uby ubz uc0 uc1 uc2 uc3 uc4 uc5 uc6 uc7 uc8 uc9 uca ucb ucc ucd uce ucf ucg uch
  uci ucj uck ucl ucm ucn uco ucp ucq ucr ucs uct ucu ucv ucw ucx ucy ucz ud0 ud1 ud2 ud3 ud4 ud5 ud6 ud7 ud8 ud9 uda udb udc udd ude udf udg udh
  udi udj udk udl udm udn udo udp udq udr uds udt udu udv udw udx udy udz ue0 ue1 ue2 ue3 ue4 ue5 ue6 ue7 ue8 ue9 uea ueb uec ued uee uef ueg ueh
  uei uej uek uel uem uen ueo uep ueq uer ues uet ueu uev uew uex uey uez uf0 uf1 uf2 uf3 uf4 uf5 uf6 uf7 uf8 uf9 ufa ufb ufc ufd ufe uff ufg ufh
  ufi ufj ufk ufl ufm ufn ufo ufp ufq ufr ufs uft ufu ufv ufw ufx ufy ufz ug0 ug1 ug2 ug3 ug4 ug5 ug6 ug7 ug8 ug9 uga ugb ugc ugd uge ugf ugg ugh
  ugi ugj ugk ugl ugm ugn ugo ugp ugq ugr ugs ugt ugu ugv ugw ugx ugy ugz uh0 uh1 uh2 uh3:Value}
  {KT K2 K3:Act->World->Prop}
  (hN:∀ (u5 u6 u7 u8 u9 ua ub uc uu uv uw ux uy uz ua0 ua1 ua2 ua3 ua4 ua5 ua6 ua7 ua8 ua9 uaa uab uac uad uae uaf uag uah uai uaj uak ual uam uan uao uap uaq uar uas uat uau
  uav uaw uax uay uaz ub0 ub1 ub2 ub3 ub4 ub5 ub6 ub7 ub8 ub9 uba ubb ubc ubd ube ubf ubg ubh ubi ubj ubk ubl ubm ubn ubo ubp ubq ubr ubs ubt ubu ubv ubw ubx uby
  ubz uc0 uc1 uc2 uc3 uc4 uc5 uc6 uc7 uc8 uc9 uca ucb ucc ucd uce ucf ucg uch uci ucj uck ucl ucm ucn uco ucp ucq ucr ucs uct ucu ucv ucw ucx ucy
  ucz ud0 ud1 ud2 ud3 ud4 ud5 ud6 ud7 ud8 ud9 uda udb udc udd ude udf udg udh udi udj udk udl udm udn udo udp udq udr uds udt udu udv udw udx udy
  udz ue0 ue1 ue2 ue3 ue4 ue5 ue6 ue7 ue8 ue9 uea ueb uec ued uee uef ueg ueh uei uej uek uel uem uen ueo uep ueq uer ues uet ueu uev uew uex uey
  uez uf0 uf1 uf2 uf3 uf4 uf5 uf6 uf7 uf8 uf9 ufa ufb ufc ufd ufe uff ufg ufh ufi ufj ufk ufl ufm ufn ufo ufp ufq ufr ufs uft ufu ufv ufw ufx ufy
  ufz ug0 ug1 ug2 ug3 ug4 ug5 ug6 ug7 ug8 ug9 uga ugb ugc ugd uge ugf ugg ugh ugi ugj:Value) (tg:Int) (w':World),xf0 p d T w mb K R av kv G' c n1 n2 n3 T1 m f wr k x tg w'->KT (Act.mk #[.pointer (some ⟨mb,0,none⟩),.int .i64 c,u0,u1,av,u2,u3,.pointer (some ⟨w.heap.size,0,none⟩),.pointer (some ⟨w.heap.size+1,0,none⟩),u4,.pointer (some
  ⟨w.heap.size+2,0,none⟩),.slice (some ⟨w.heap.size+3,0,none⟩) n2 n2,.pointer (some ⟨w.heap.size+4,0,none⟩),.func (.func 68) #[] #[.pointer (some ⟨w.heap.size+4,0,
  none⟩)],.int .i64 (k:Int),.pointer (some ⟨wr.heap.size,0,none⟩),.int .i64 tg,u5,u6,u7,u8,u9,ua,ub,uc,ud,ue,uf,ug,uh,ui,uj,uk,ul,um,un,
  uo,up,uq,ur,us,ut,.int .i64 5,uu,uv,uw,ux,uy,uz,ua0,ua1,ua2,ua3,ua4,ua5,ua6,ua7,ua8,ua9,uaa,uab,uac,uad,uae,uaf,uag,uah,uai,uaj,uak,
  ual,uam,uan,uao,uap,uaq,uar,uas,uat,uau,uav,uaw,uax,uay,uaz,ub0,ub1,ub2,ub3,ub4,ub5,ub6,ub7,ub8,ub9,uba,ubb,ubc,ubd,ube,ubf,ubg,ubh,ubi,ubj,
  ubk,ubl,ubm,ubn,ubo,ubp,ubq,ubr,ubs,ubt,ubu,ubv,ubw,ubx,uby,ubz,uc0,uc1,uc2,uc3,uc4,uc5,uc6,uc7,uc8,uc9,uca,ucb,ucc,ucd,
  uce,ucf,ucg,uch,uci,ucj,uck,ucl,ucm,ucn,uco,ucp,ucq,ucr,ucs,uct,ucu,ucv,ucw,ucx,ucy,ucz,ud0,ud1,ud2,ud3,ud4,ud5,ud6,ud7,
  ud8,ud9,uda,udb,udc,udd,ude,udf,udg,udh,udi,udj,udk,udl,udm,udn,udo,udp,udq,udr,uds,udt,udu,udv,udw,udx,udy,udz,ue0,ue1,
  ue2,ue3,ue4,ue5,ue6,ue7,ue8,ue9,uea,ueb,uec,ued,uee,uef,ueg,ueh,uei,uej,uek,uel,uem,uen,ueo,uep,ueq,uer,ues,uet,ueu,uev,
  uew,uex,uey,uez,uf0,uf1,uf2,uf3,uf4,uf5,uf6,uf7,uf8,uf9,ufa,ufb,ufc,ufd,ufe,uff,ufg,ufh,ufi,ufj,ufk,ufl,ufm,ufn,ufo,ufp,
  ufq,ufr,ufs,uft,ufu,ufv,ufw,ufx,ufy,ufz,ug0,ug1,ug2,ug3,ug4,ug5,ug6,ug7,ug8,ug9,uga,ugb,ugc,ugd,uge,ugf,ugg,ugh,ugi,ugj,
  ugk,ugl,ugm,ugn,ugo,ugp,ugq,ugr,ugs,ugt,ugu,ugv,ugw,ugx,ugy,ugz,uh0,uh1,uh2,uh3] []) w')
  {K9:Act->World->Prop} (hK9:∀ a w',Code.wp Tryz.prog sw9 (Exit.inBlock 2 (Exit.then KT (Exit.inBlock 1 (Exit.then K2 (Exit.inBlock 0 (Exit.then K3 (bodyPost Tryz.prog Tryz.f52 fun e w'=>xaS p T w mb (20-(d:Int)) K R e w'))))))) a w'->K9 a w') :
  Code.wp Tryz.prog xdw (Exit.then K9 (Exit.inBlock 2 (Exit.then KT (Exit.inBlock 1 (Exit.then K2 (Exit.inBlock 0 (Exit.then K3 (bodyPost Tryz.prog Tryz.f52 fun e w'=>xaS p T w mb (20-(d:Int)) K R e w')))))))) (Act.mk #[.pointer (some ⟨mb,0,none⟩),.int .i64 c,u0,u1,av,u2,u3,.pointer (some ⟨w.heap.size,0,none⟩),.pointer (some ⟨w.heap.size+1,0,none⟩),u4,.pointer (some
  ⟨w.heap.size+2,0,none⟩),.slice (some ⟨w.heap.size+3,0,none⟩) n2 n2,.pointer (some ⟨w.heap.size+4,0,none⟩),.func (.func 68) #[] #[.pointer (some ⟨w.heap.size+4,0,
  none⟩)],.int .i64 (k:Int),.pointer (some ⟨wr.heap.size,0,none⟩),.int .i64 ((k:Int)+1),u5,u6,u7,u8,u9,ua,ub,uc,ud,ue,uf,ug,uh,ui,uj,uk,
  ul,um,un,uo,up,uq,ur,us,ut,.int .i64 5,uu,uv,uw,ux,uy,uz,ua0,ua1,ua2,ua3,ua4,ua5,ua6,ua7,ua8,ua9,uaa,uab,uac,uad,uae,uaf,uag,uah,
  uai,uaj,uak,ual,uam,uan,uao,uap,uaq,uar,uas,uat,uau,uav,uaw,uax,uay,uaz,ub0,ub1,ub2,ub3,ub4,ub5,ub6,ub7,ub8,ub9,uba,ubb,ubc,ubd,ube,ubf,ubg,
  ubh,ubi,ubj,ubk,ubl,ubm,ubn,ubo,ubp,ubq,ubr,ubs,ubt,ubu,ubv,ubw,ubx,uby,ubz,uc0,uc1,uc2,uc3,uc4,uc5,uc6,uc7,uc8,uc9,uca,
  ucb,ucc,ucd,uce,ucf,ucg,uch,uci,ucj,uck,ucl,ucm,ucn,uco,ucp,ucq,ucr,ucs,uct,ucu,ucv,ucw,ucx,ucy,ucz,ud0,ud1,ud2,ud3,ud4,
  ud5,ud6,ud7,ud8,ud9,uda,udb,udc,udd,ude,udf,udg,udh,udi,udj,udk,udl,udm,udn,udo,udp,udq,udr,uds,udt,udu,udv,udw,udx,udy,
  udz,ue0,ue1,ue2,ue3,ue4,ue5,ue6,ue7,ue8,ue9,uea,ueb,uec,ued,uee,uef,ueg,ueh,uei,uej,uek,uel,uem,uen,ueo,uep,ueq,uer,ues,
  uet,ueu,uev,uew,uex,uey,uez,uf0,uf1,uf2,uf3,uf4,uf5,uf6,uf7,uf8,uf9,ufa,ufb,ufc,ufd,ufe,uff,ufg,ufh,ufi,ufj,ufk,ufl,ufm,
  ufn,ufo,ufp,ufq,ufr,ufs,uft,ufu,ufv,ufw,ufx,ufy,ufz,ug0,ug1,ug2,ug3,ug4,ug5,ug6,ug7,ug8,ug9,uga,ugb,ugc,ugd,uge,ugf,ugg,
  ugh,ugi,ugj,ugk,ugl,ugm,ugn,ugo,ugp,ugq,ugr,ugs,ugt,ugu,ugv,ugw,ugx,ugy,ugz,uh0,uh1,uh2,uh3] []) W:=by
 obtain⟨hX,hEn,HR0,HG0,HX0,HMa0,HF0,hscap,HL0,hbel,hxb,⟨aa,ca,rfl,hca⟩,ht40,HI0⟩:=H;have HR:=hid HR0;have HG:=hid HG0;have HX:=hid HX0;have HMa:=hid HMa0;have HF:=hid HF0;have HL:=hid HL0;have HB1:=hid hbel;have HI:=hid HI0;have HOP:=hid hop;have HEn:=hid hEn;have hM1:=HMa0.later hbel;have hF1:=HF0.later hbel;obtain⟨hsc1,hsc2⟩:=hscap;have hBl:w.heap.size+4<wr.heap.size:=xaf HF0.sb;have hWl:wr.heap.size<=W.heap.size:=hbel.size;clear HR0 HG0 HX0 HMa0 HF0 HL0 HI0 hop hbel hEn;unfold xdw;unfold sw9 at hK9
 have HPU:Hid (xaA m.heap { f with pc:=f.pc+1 } x=some (QV.mk 3 x.a)):=by
  show _=_
  have hop:x.op=5:=HOP.out;unfold xaA
  simp[hop]
 have hst0:=hF1.st;have x1:=hxb.x1;have HSt:=hid hF1.stack;have hfw:=HX.out.few
 go_wp2_with (at_builtin;refine xce rfl (.tmp 85) (.tmp 89) 28 27 _ 2 16 rfl Tryz.underlying28 xbW rfl (by omega) 0 f.stack.length (.slice sa f.stack.length sc) (xal f.stack) rfl (HSt.out.alloc _) W.heap.size rfl [.int .i64 3,.int .i64 x.a] rfl (heap_alloc_new _ _) (by intro u hu;simp only[List.mem_cons,List.not_mem_nil,or_false] at hu;rcases hu with h | h<;>(subst h;rfl)) (by unfold maxLen;omega) (by omega) (by omega) ?_;intro a' cap' w' r1 r2 r3 r4;have hbU:=xah HB1.out (xaj W (.cells #[.int .i64 3,.int .i64 x.a] 27));obtain⟨d0,df⟩:=xbR HF.out hbU r4;have R1:=hid r1;have R2:=hid r2;have R3:=hid r3;have R4:=hid r4;have HBU:=hid hbU;clear r1 r2 r3 r4 hbU)
 exact Or.inl ⟨rfl,xcF hX HR.out HG.out HX.out HPU.out HMa.out HF.out HL.out HBU.out R1.out R2.out R3.out R4.out⟩
theorem br6 {p:Rp}{d:Nat}{T T1:Nat->Nat}{w wr W:World}{mb K:Nat}{R:Mc RSt × QV × Int}{av kv:Value}{gk G':Nat}{m:Mc RSt}{f:Fr}{c:Int}{n1 n2 n3 k:Nat}{x:QI}{hv sv ov:Value}{sa:Option Addr}{sc:Nat}(H:SwC p d T w mb K R av kv gk G' c n1 n2 n3 T1 m f wr W k x hv sv ov sa sc)(hop:x.op=6)
  {u0 u1 u2 u3 u4 u5 u6 u7 u8 u9 ua ub uc ud ue uf ug uh ui uj uk ul um un uo up uq ur us ut uu uv uw ux uy uz ua0 ua1 ua2 ua3 ua4 ua5 ua6 ua7 ua8 ua9
  uaa uab uac uad uae uaf uag uah uai uaj uak ual uam uan uao uap uaq uar uas uat uau uav uaw uax uay uaz ub0 ub1 ub2 ub3 ub4 ub5 ub6 ub7 ub8 ub9 uba ubb ubc ubd ube ubf ubg ubh
  ubi ubj ubk ubl ubm ubn ubo ubp ubq ubr ubs ubt ubu ubv ubw ubx uby ubz uc0 uc1 uc2 uc3 uc4 uc5 uc6 uc7 uc8 uc9 uca ucb ucc ucd uce ucf ucg uch
  uci ucj uck ucl ucm ucn uco ucp ucq ucr ucs uct ucu ucv ucw ucx ucy ucz ud0 ud1 ud2 ud3 ud4 ud5 ud6 ud7 ud8 ud9 uda udb udc udd ude udf udg udh
  udi udj udk udl udm udn udo udp udq udr uds udt udu udv udw udx udy udz ue0 ue1 ue2 ue3 ue4 ue5 ue6 ue7 ue8 ue9 uea ueb uec ued uee uef ueg ueh
  uei uej uek uel uem uen ueo uep ueq uer ues uet ueu uev uew uex uey uez uf0 uf1 uf2 uf3 uf4 uf5 uf6 uf7 uf8 uf9 ufa ufb ufc ufd ufe uff ufg ufh
  ufi ufj ufk ufl ufm ufn ufo ufp ufq ufr ufs uft ufu ufv ufw ufx ufy ufz ug0 ug1 ug2 ug3 ug4 ug5 ug6 ug7 ug8 ug9 uga ugb ugc ugd uge ugf ugg ugh
  ugi ugj ugk ugl ugm ugn ugo ugp ugq ugr ugs ugt ugu ugv ugw ugx ugy ugz uh0 uh1 uh2 uh3:Value}
  {KT K2 K3:Act->World->Prop}
  (hN:∀ (u5 u6 u7 u8 u9 ua ub uc uu uv uw ux uy uz ua0 ua1 ua2 ua3 ua4 ua5 ua6 ua7 ua8 ua9 uaa uab uac uad uae uaf uag uah uai uaj uak ual uam uan uao uap uaq uar uas uat uau
  uav uaw uax uay uaz ub0 ub1 ub2 ub3 ub4 ub5 ub6 ub7 ub8 ub9 uba ubb ubc ubd ube ubf ubg ubh ubi ubj ubk ubl ubm ubn ubo ubp ubq ubr ubs ubt ubu ubv ubw ubx uby
  ubz uc0 uc1 uc2 uc3 uc4 uc5 uc6 uc7 uc8 uc9 uca ucb ucc ucd uce ucf ucg uch uci ucj uck ucl ucm ucn uco ucp ucq ucr ucs uct ucu ucv ucw ucx ucy
  ucz ud0 ud1 ud2 ud3 ud4 ud5 ud6 ud7 ud8 ud9 uda udb udc udd ude udf udg udh udi udj udk udl udm udn udo udp udq udr uds udt udu udv udw udx udy
  udz ue0 ue1 ue2 ue3 ue4 ue5 ue6 ue7 ue8 ue9 uea ueb uec ued uee uef ueg ueh uei uej uek uel uem uen ueo uep ueq uer ues uet ueu uev uew uex uey
  uez uf0 uf1 uf2 uf3 uf4 uf5 uf6 uf7 uf8 uf9 ufa ufb ufc ufd ufe uff ufg ufh ufi ufj ufk ufl ufm ufn ufo ufp ufq ufr ufs uft ufu ufv ufw ufx ufy
  ufz ug0 ug1 ug2 ug3 ug4 ug5 ug6 ug7 ug8 ug9 uga ugb ugc ugd uge ugf ugg ugh ugi ugj:Value) (tg:Int) (w':World),xf0 p d T w mb K R av kv G' c n1 n2 n3 T1 m f wr k x tg w'->KT (Act.mk #[.pointer (some ⟨mb,0,none⟩),.int .i64 c,u0,u1,av,u2,u3,.pointer (some ⟨w.heap.size,0,none⟩),.pointer (some ⟨w.heap.size+1,0,none⟩),u4,.pointer (some
  ⟨w.heap.size+2,0,none⟩),.slice (some ⟨w.heap.size+3,0,none⟩) n2 n2,.pointer (some ⟨w.heap.size+4,0,none⟩),.func (.func 68) #[] #[.pointer (some ⟨w.heap.size+4,0,
  none⟩)],.int .i64 (k:Int),.pointer (some ⟨wr.heap.size,0,none⟩),.int .i64 tg,u5,u6,u7,u8,u9,ua,ub,uc,ud,ue,uf,ug,uh,ui,uj,uk,ul,um,un,
  uo,up,uq,ur,us,ut,.int .i64 6,uu,uv,uw,ux,uy,uz,ua0,ua1,ua2,ua3,ua4,ua5,ua6,ua7,ua8,ua9,uaa,uab,uac,uad,uae,uaf,uag,uah,uai,uaj,uak,
  ual,uam,uan,uao,uap,uaq,uar,uas,uat,uau,uav,uaw,uax,uay,uaz,ub0,ub1,ub2,ub3,ub4,ub5,ub6,ub7,ub8,ub9,uba,ubb,ubc,ubd,ube,ubf,ubg,ubh,ubi,ubj,
  ubk,ubl,ubm,ubn,ubo,ubp,ubq,ubr,ubs,ubt,ubu,ubv,ubw,ubx,uby,ubz,uc0,uc1,uc2,uc3,uc4,uc5,uc6,uc7,uc8,uc9,uca,ucb,ucc,ucd,
  uce,ucf,ucg,uch,uci,ucj,uck,ucl,ucm,ucn,uco,ucp,ucq,ucr,ucs,uct,ucu,ucv,ucw,ucx,ucy,ucz,ud0,ud1,ud2,ud3,ud4,ud5,ud6,ud7,
  ud8,ud9,uda,udb,udc,udd,ude,udf,udg,udh,udi,udj,udk,udl,udm,udn,udo,udp,udq,udr,uds,udt,udu,udv,udw,udx,udy,udz,ue0,ue1,
  ue2,ue3,ue4,ue5,ue6,ue7,ue8,ue9,uea,ueb,uec,ued,uee,uef,ueg,ueh,uei,uej,uek,uel,uem,uen,ueo,uep,ueq,uer,ues,uet,ueu,uev,
  uew,uex,uey,uez,uf0,uf1,uf2,uf3,uf4,uf5,uf6,uf7,uf8,uf9,ufa,ufb,ufc,ufd,ufe,uff,ufg,ufh,ufi,ufj,ufk,ufl,ufm,ufn,ufo,ufp,
  ufq,ufr,ufs,uft,ufu,ufv,ufw,ufx,ufy,ufz,ug0,ug1,ug2,ug3,ug4,ug5,ug6,ug7,ug8,ug9,uga,ugb,ugc,ugd,uge,ugf,ugg,ugh,ugi,ugj,
  ugk,ugl,ugm,ugn,ugo,ugp,ugq,ugr,ugs,ugt,ugu,ugv,ugw,ugx,ugy,ugz,uh0,uh1,uh2,uh3] []) w')
  {K9:Act->World->Prop} (hK9:∀ a w',Code.wp Tryz.prog sw9 (Exit.inBlock 2 (Exit.then KT (Exit.inBlock 1 (Exit.then K2 (Exit.inBlock 0 (Exit.then K3 (bodyPost Tryz.prog Tryz.f52 fun e w'=>xaS p T w mb (20-(d:Int)) K R e w'))))))) a w'->K9 a w') :
  Code.wp Tryz.prog xdw (Exit.then K9 (Exit.inBlock 2 (Exit.then KT (Exit.inBlock 1 (Exit.then K2 (Exit.inBlock 0 (Exit.then K3 (bodyPost Tryz.prog Tryz.f52 fun e w'=>xaS p T w mb (20-(d:Int)) K R e w')))))))) (Act.mk #[.pointer (some ⟨mb,0,none⟩),.int .i64 c,u0,u1,av,u2,u3,.pointer (some ⟨w.heap.size,0,none⟩),.pointer (some ⟨w.heap.size+1,0,none⟩),u4,.pointer (some
  ⟨w.heap.size+2,0,none⟩),.slice (some ⟨w.heap.size+3,0,none⟩) n2 n2,.pointer (some ⟨w.heap.size+4,0,none⟩),.func (.func 68) #[] #[.pointer (some ⟨w.heap.size+4,0,
  none⟩)],.int .i64 (k:Int),.pointer (some ⟨wr.heap.size,0,none⟩),.int .i64 ((k:Int)+1),u5,u6,u7,u8,u9,ua,ub,uc,ud,ue,uf,ug,uh,ui,uj,uk,
  ul,um,un,uo,up,uq,ur,us,ut,.int .i64 6,uu,uv,uw,ux,uy,uz,ua0,ua1,ua2,ua3,ua4,ua5,ua6,ua7,ua8,ua9,uaa,uab,uac,uad,uae,uaf,uag,uah,
  uai,uaj,uak,ual,uam,uan,uao,uap,uaq,uar,uas,uat,uau,uav,uaw,uax,uay,uaz,ub0,ub1,ub2,ub3,ub4,ub5,ub6,ub7,ub8,ub9,uba,ubb,ubc,ubd,ube,ubf,ubg,
  ubh,ubi,ubj,ubk,ubl,ubm,ubn,ubo,ubp,ubq,ubr,ubs,ubt,ubu,ubv,ubw,ubx,uby,ubz,uc0,uc1,uc2,uc3,uc4,uc5,uc6,uc7,uc8,uc9,uca,
  ucb,ucc,ucd,uce,ucf,ucg,uch,uci,ucj,uck,ucl,ucm,ucn,uco,ucp,ucq,ucr,ucs,uct,ucu,ucv,ucw,ucx,ucy,ucz,ud0,ud1,ud2,ud3,ud4,
  ud5,ud6,ud7,ud8,ud9,uda,udb,udc,udd,ude,udf,udg,udh,udi,udj,udk,udl,udm,udn,udo,udp,udq,udr,uds,udt,udu,udv,udw,udx,udy,
  udz,ue0,ue1,ue2,ue3,ue4,ue5,ue6,ue7,ue8,ue9,uea,ueb,uec,ued,uee,uef,ueg,ueh,uei,uej,uek,uel,uem,uen,ueo,uep,ueq,uer,ues,
  uet,ueu,uev,uew,uex,uey,uez,uf0,uf1,uf2,uf3,uf4,uf5,uf6,uf7,uf8,uf9,ufa,ufb,ufc,ufd,ufe,uff,ufg,ufh,ufi,ufj,ufk,ufl,ufm,
  ufn,ufo,ufp,ufq,ufr,ufs,uft,ufu,ufv,ufw,ufx,ufy,ufz,ug0,ug1,ug2,ug3,ug4,ug5,ug6,ug7,ug8,ug9,uga,ugb,ugc,ugd,uge,ugf,ugg,
  ugh,ugi,ugj,ugk,ugl,ugm,ugn,ugo,ugp,ugq,ugr,ugs,ugt,ugu,ugv,ugw,ugx,ugy,ugz,uh0,uh1,uh2,uh3] []) W:=by
 obtain⟨hX,hEn,HR0,HG0,HX0,HMa0,HF0,hscap,HL0,hbel,hxb,⟨aa,ca,rfl,hca⟩,ht40,HI0⟩:=H;have HR:=hid HR0;have HG:=hid HG0;have HX:=hid HX0;have HMa:=hid HMa0;have HF:=hid HF0;have HL:=hid HL0;have HB1:=hid hbel;have HI:=hid HI0;have HOP:=hid hop;have HEn:=hid hEn;have hM1:=HMa0.later hbel;have hF1:=HF0.later hbel;obtain⟨hsc1,hsc2⟩:=hscap;have hBl:w.heap.size+4<wr.heap.size:=xaf HF0.sb;have hWl:wr.heap.size<=W.heap.size:=hbel.size;clear HR0 HG0 HX0 HMa0 HF0 HL0 HI0 hop hbel hEn;unfold xdw;unfold sw9 at hK9
 have HPU:Hid (xaA m.heap { f with pc:=f.pc+1 } x=some xaU):=by
  show _=_
  have hop:x.op=6:=HOP.out;unfold xaA
  simp[hop]
 have hst0:=hF1.st;have x1:=hxb.x1;have HSt:=hid hF1.stack;have hfw:=HX.out.few
 go_wp2_with (at_builtin;refine xce rfl (.tmp 93) (.tmp 95) 28 27 _ 2 16 rfl Tryz.underlying28 xbW rfl (by omega) 0 f.stack.length (.slice sa f.stack.length sc) (xal f.stack) rfl (HSt.out.alloc _) W.heap.size rfl [.int .i64 0,.int .i64 0] rfl (heap_alloc_new _ _) (by intro u hu;simp only[List.mem_cons,List.not_mem_nil,or_false] at hu;rcases hu with h | h<;>(subst h;rfl)) (by unfold maxLen;omega) (by omega) (by omega) ?_;intro a' cap' w' r1 r2 r3 r4;have hbU:=xah HB1.out (xaj W (.cells #[.int .i64 0,.int .i64 0] 27));obtain⟨d0,df⟩:=xbR HF.out hbU r4;have R1:=hid r1;have R2:=hid r2;have R3:=hid r3;have R4:=hid r4;have HBU:=hid hbU;clear r1 r2 r3 r4 hbU)
 exact Or.inl ⟨rfl,xcF hX HR.out HG.out HX.out HPU.out HMa.out HF.out HL.out HBU.out R1.out R2.out R3.out R4.out⟩
end Go.Proofs.YtapbeiccodnniaaGreat
