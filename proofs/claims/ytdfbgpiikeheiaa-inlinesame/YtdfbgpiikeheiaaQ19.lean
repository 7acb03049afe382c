/- A part. -/
import Derived.Test.YtdfbgpiikeheiaaQ18
namespace Go.Proofs.Ytdfbgpiikeheiaa
open Go.ChangeShapes Go.WideShapes Go.ChangeAt Go.RowKit
set_option linter.unusedSimpArgs false
set_option linter.unusedVariables false
set_option maxHeartbeats 8000000
set_option maxRecDepth 100000
theorem br12:Br 12:=by
 intro p d T T1 w wr W mb K R av kv gk G' m f c n1 n2 n3 k x hv sv ov sa sc H hop
 intros
 rename_i hN K9 hK9;obtain⟨hX,HEn,HR,HG,HX,HMa,HF,HL,HB1,HI,hM1,hF1,hsc1,hsc2,hBl,hWl,hxb,⟨aa,ca,rfl,hca⟩,ht40⟩:=H.pre;have HOP:=hid hop;clear hop;unfold xh4;unfold sw9 at hK9;obtain⟨hI,hW,hFo,hPl⟩:=HI.out;have ha0:=xp3 hPl HX.out (Or.inr HOP.out);obtain⟨j,hj⟩:∃ j:Nat,x.a=(j:Int):=⟨x.a.toNat,by omega⟩
 have hnx:0<f.stack.length:=xkN HX.out (by have hop:x.op=12:=HOP.out;unfold xaS;rw[if_pos (by omega)])
 have x1:=hxb.x1;have v0:=hF1.v0;have v1:=hF1.v1;have hbD:Below W.heap.size W W.drew:=(qzL _ W).drew;have hFt:=HF.out.t4W (U:=W.drew) (xaf HB1.out hbD);have hMt:=HMa.out.t4W (U:=W.drew) (xaf HB1.out hbD);have hp5:=hFt.pos;have hws:=hFo.self;have hhl:m.heap.length<=1000:=by have:=hI.heap.len;omega
 have HJ:=hid hj;rw[hj] at x1;clear hM1 hF1 hj ha0 hI hW hFo hPl
 go_upto_region 33 with (fail)
 go_region_law (first
  | (refine xaZ rfl 86 (.tmp 136) #[] _ rfl #[.pointer (some ⟨w.heap.size+4,0,none⟩)] (by simp[Act.eval,Act.put]) #[] (by simp) (vf47 _ _) ?_;refine (show Calls Try.prog 86 #[.pointer (some ⟨w.heap.size+4,0,none⟩)] W.drew _ from (xfj hFt hnx).mono ?_);rintro e w2 ⟨rfl,⟨st',hF2⟩,hK2⟩;refine⟨_,rfl,?_⟩;have hx2:=hK2.cell (show W.drew.cell? ⟨wr.heap.size,1,none⟩=some (.int .i64 (j:Int)) from x1) (by rw[xaJ (qzC _)];omega);have z0:w2.cell? ⟨w.heap.size+1,0,none⟩=some (.int .i64 f.self.k):=hF2.v0;have z1:w2.cell? ⟨w.heap.size+1,1,none⟩=some (.int .i64 f.self.n):=hF2.v1;have hM2:=hMt.keep (.refl _ _) hK2 (by omega) (by omega) (by omega) (by omega);have HF2:=hid hF2;have HK2:=hid hK2;clear hF2 hK2)
  | (refine xaZ rfl 88 (.func 88) #[.tmp 132,.tmp 133,.tmp 135,.tmp 137] _ rfl #[] rfl #[.pointer (some ⟨mb,0,none⟩),VV f.self,.int .i64 (j:Int),VV f.top] (by simp[Act.eval,Act.put]) (vf49 _ _) ?_;refine (show Calls Try.prog 88 #[.pointer (some ⟨mb,0,none⟩),VV f.self,.int .i64 (j:Int),VV f.top] w2 _ from (xoW hM2 f.self j f.top hws hhl).mono ?_);rintro e w3 ⟨rfl,⟨T3,hv3,hE3,hM3⟩,hK3⟩;refine⟨_,rfl,?_⟩;have HE3:=hid hE3;have HM3:=hid hM3;have HK3:=hid hK3;clear hE3 hM3 hK3))
 all_goals (
  go_wp2
  exact Or.inl ⟨rfl,xpz hX HR.out HG.out HX.out HOP.out HJ.out HL.out (xaf HB1.out hbD) HF2.out HK2.out HE3.out HM3.out HK3.out⟩)
set_option maxRecDepth 8000
theorem xcn {w:World}(T ty e:TypeId)(z:Value)(sz bytes:Nat)(hT:Try.prog.underlying T=some (.slice e))(hI:(Try.prog.info? e).map (fun i=>(i.zero,i.size,i.bytes))=some (some z,sz,bytes))(hzs:z.cells.size=sz)(hsz:0<sz)(hbz:0<bytes)
  (B:Nat) (hB:w.heap[B]?=some (.cells #[] e (0,0))) (ad:Option Addr) (n cap:Nat) (cs:List Value) (hlen:cs.length=n*sz) (hsrc:∀ j u,cs[j]?=some u->∃ b,ad=some b/\w.cell? (b.add j)=some u) (hn:n*bytes<=140737488351232) :
  ∃ g cap' w',(Builtin.append_ #[T,T] ty #[.slice (some ⟨B,0,none⟩) 0 0,.slice ad n cap]).run Try.prog w=.ok (.slice (some ⟨g,0,none⟩) n cap') w'/\w'.ownsRow B e sz (.slice (some ⟨g,0,none⟩) n cap') n cs/\(g=B\/w.heap.size<=g)/\g<w'.heap.size/\Below w.heap.size w w':=by
 obtain⟨i0,hi,hz0,hz1,hz2⟩:=xa8 hI;have hBl:=xal hB
 by_cases h0:n=0
 ·subst h0;have hcs:cs=[]:=List.eq_nil_of_length_eq_zero (by simpa using hlen)
  refine⟨B,0,w,xdO (P:=Try.prog) w T ty e i0 hT hi B ad cap,?_,Or.inl rfl,hBl,qzL _ _⟩;rw[hcs]
  exact⟨by simp,.inr ⟨B,0,#[],rfl,qzC _,hB,qzC _,by unfold maxLen;omega,by simp,by simp⟩⟩
 ·obtain⟨b,rfl⟩:∃ b,ad=some b:=by
   have:0<cs.length:=by rw[hlen];exact Nat.mul_pos (by omega) hsz
   obtain⟨b,e,-⟩:=hsrc 0 cs[0] (by simp[this])
   exact⟨b,e⟩
  have hnb:n<=140737488351232:=qzD (Nat.le_mul_of_pos_right n hbz) hn;obtain⟨v',w',hrun,r1,r2⟩:=run_append_arg_grows (P:=Try.prog) w T ty e i0 _ sz bytes hT hi hz0 hz1 hz2 hzs hsz ⟨B,0,none⟩ 0 0 [] (by simp) (fun j u hu=>by simp at hu) b n cap cs hlen (fun j u hu=>by obtain⟨b',e,h⟩:=hsrc j u hu;cases e;exact h) (by omega) (by unfold maxLen;omega) (by rw[Nat.zero_add];omega)
  simp only[Nat.zero_add,List.nil_append] at r1;obtain⟨g,cap',rfl,hg,hgl⟩:=r1.form (by omega)
  refine⟨g,cap',w',hrun,?_,Or.inr hg,hgl,(qzL _ _).grown r2 (qzC _) (fun k hk=>by cases hk)⟩
  obtain⟨q1,q2⟩:=r1;refine⟨q1,?_⟩
  rcases q2 with q2 | ⟨g',c',cur,e,h1,h2⟩
  ·exact .inl q2
  ·exact .inr ⟨g',c',cur,e,by omega,h2⟩
theorem tk0 (k:Nat):(List.replicate k xaU).length=k:=List.length_replicate
section
variable {p:Rp} {T:Nat->Nat} {U w4 w5:World} {mb:Nat} {m:Mc RSt} {deep err:Int} {hv sv ov:Value}
theorem xqZ {v0 v':Value}{cs:List Value}{vb k:Nat}{c:Int}(h:RMac p T U mb m deep err hv sv ov)(hcs:Cells xnN 2 (Fx T U) U cs m.heap)(hb4:Below U.heap.size U w4)(hvb:U.heap.size<=vb)(hvw:w4.heap[vb]?=some (.cells (xam (List.replicate k xaU)).toArray 27 (0,0)))(hvg:some vb≠v0.ownBlock)
  (r1:ownsAt w5 U.heap.size 82 2 v' (m.heap.length+1) (cs++[.int .i64 c,.slice (some ⟨vb,0,none⟩) k k])) (r3:Below U.heap.size w4 w5) (r4:∀ b,b<w4.heap.size->some b≠v0.ownBlock->w5.heap[b]?=w4.heap[b]?) (hl:m.heap.length<=1000) (hk:k<=2147483647) :
  RMac p (xaF T U 0) (w5.setCell ⟨mb,1,none⟩ v') mb { m with heap:=m.heap++[⟨c,List.replicate k xaU⟩] } deep err v' sv ov/\Kp (fun t=>t=1) T U (w5.setCell ⟨mb,1,none⟩ v'):=by
 have hlm:=xal h.box;have hb5:Below U.heap.size U w5:=hb4.trans r3;have k1:Kp (fun t=>t=1) T U (w5.setCell ⟨mb,1,none⟩ v'):=(Kp.of_below hb5).set (fun _=>h.tag) _ _
 have hex:=xaq T U 0;refine⟨?_,k1⟩;have hv5:w5.heap[vb]?=some (.cells (xam (List.replicate k xaU)).toArray 27 (0,0)):=by rw[r4 vb (xal hvw) hvg];exact hvw
 have hbox:w5.heap[mb]?=some (RB p m deep err hv sv ov):=by rw[hb5.block _ hlm];exact h.box
 have hb':=xnH hbox (m.heap++[⟨c,List.replicate k xaU⟩]) v';have hv6:(w5.setCell ⟨mb,1,none⟩ v').heap[vb]?=some (.cells (xam (List.replicate k xaU)).toArray 27 (0,0)):=by rw[xac (by omega)];exact hv5
 have hr1:ownsAt (w5.setCell ⟨mb,1,none⟩ v') U.heap.size 82 2 v' (m.heap.length+1) (cs++[.int .i64 c,.slice (some ⟨vb,0,none⟩) k k]):=r1.keep fun g hg=>xac (by have:=r1.lt g hg;omega) _
 generalize hU:w5.setCell ⟨mb,1,none⟩ v'=V at *;have hall:∀ b,U.heap.size<=b->b<V.heap.size->Fx (xaF T U 0) V b:=fun b h1 h2=>⟨h2,xaJ h1⟩
 have hsz:U.heap.size<=V.heap.size:=k1.size;have hc0:Cells xnN 2 (Fx (xaF T U 0) V) V cs m.heap:=hcs.keep xaE (Keeps.of_block fun b hb hl=>k1.blk b hl (by rw[hb.2];omega)) fun b hb=>⟨by omega,by rw[hex b hb.1];exact hb.2⟩
 have hv7:xaO (Fx (xaF T U 0) V) V (.slice (some ⟨vb,0,none⟩) k k) (List.replicate k xaU):=by
  have:=xhM (P:=Fx (xaF T U 0) V) hv6 (hall vb hvb (xal hv6)) (by rw[tk0];omega)
  rw[tk0] at this
  exact this
 have hc1:Cells xnN 2 (Fx (xaF T U 0) V) V [.int .i64 c,.slice (some ⟨vb,0,none⟩) k k] [⟨c,List.replicate k xaU⟩]:=Cells.one xaE rfl ⟨rfl,_,rfl,hv7⟩;have hs1:=h.sites.keep (w':=V) fun b hg=>k1.blk b (h.sites.lt b hg).2 (by rw[h.stag b hg];omega)
 have ho1:=h.of.keep (w':=V) fun b hg=>k1.blk b (h.of.lt b hg).2 (by rw[h.otag b hg];omega)
 exact⟨hb',by rw[hex _ hlm];exact h.tag,h.cls.fx xaA hex k1 (by omega),xf6 xaE hr1 (hc0.append xaE hc1) (by simp) hall (by omega),hs1,fun b hg=>by rw[hex _ (h.sites.lt b hg).2];exact h.stag b hg,ho1,fun b hg=>by rw[hex _ (h.of.lt b hg).2];exact h.otag b hg⟩
end
section
variable {p:Rp} {d:Nat} {T T1 T2:Nat->Nat} {w wr w2:World} {mb K:Nat} {R:Mc RSt × QV × Int} {av kv:Value} {gk:Nat} {at' at2:Value} {m:Mc RSt} {f:Fr}
variable {c:Int} {n1 n2 n3 G' k:Nat} {x:QI} {hv sv ov st st':Value} {U w':World}
theorem xmP (hX:Rx p)(hR:BdR p d T w mb K R av kv gk at' T1 m f 0 wr)(hg:gk=G'+1)(hx:NxOk f k x)(hop:x.op=13)(h6:60<=m.heap.length){W2:World}(hE:Ext T1 T2 wr)(hK:Kp (All K) T1 wr W2)(hM:RMac p T2 W2 mb m (20-(d:Int)) 15 hv sv ov) :
  BdX p d T w mb K R av kv c n1 n2 n3 G' (.int .i64 ((k:Int)+1)) W2:=by
 have hr:xaj (xa4 p.E d) p.E d m { f with pc:=f.pc+1 } f.pc x=(m,{ f with pc:=f.pc+1 },15):=by
  rw[xbX _ _ (by omega)];unfold xcG;rw[if_neg (by omega),if_neg (by omega),if_neg (by omega),if_neg (by omega),if_pos hop]
  unfold xbV;rw[if_pos (Or.inl h6)]
 exact xcz hX hR hg hx (by omega) hr hE hK hM (fun h=>by cases h) (fun h=>by cases h) (fun h=>by cases h)
theorem xn7 (hX:Rx p)(hR:BdR p d T w mb K R av kv gk at' T1 m f 0 wr)(hg:gk=G'+1)(hx:NxOk f k x)(hop:x.op=13)(h6:¬ 60<=m.heap.length){sl:Nat}(hsl:xaY p.X.cz x.a=(sl:Int))(hs2:sl<=2147483647)(hL:xj9 c n1 n2 n3 f){W2:World}(hE:Ext T1 T2 wr)(hK:Kp (All K) T1 wr W2)(hM:RMac p T2 W2 mb { m with heap:=m.heap++[⟨x.a,List.replicate sl xaU⟩] } (20-(d:Int)) 0 hv sv ov)(hF:RF T2 K W2 w.heap.size { f with stack:=f.stack++[⟨4,(m.heap.length:Int)⟩] } av kv st) :
  BdX p d T w mb K R av kv c n1 n2 n3 G' (.int .i64 ((k:Int)+1)) W2:=by
 have hr:xaj (xa4 p.E d) p.E d m { f with pc:=f.pc+1 } f.pc x=({ m with heap:=m.heap++[⟨x.a,List.replicate sl xaU⟩] },({ f with pc:=f.pc+1 }:Fr).push ⟨4,(m.heap.length:Int)⟩,0):=by
  rw[xbX _ _ (by omega)];unfold xcG;rw[if_neg (by omega),if_neg (by omega),if_neg (by omega),if_neg (by omega),if_pos hop]
  unfold xbV
  have hc:¬ (60<=m.heap.length\/2147483647<xaY p.E.cz x.a):=by
   show ¬ (60<=m.heap.length\/2147483647<xaY p.X.cz x.a)
   rw[hsl];omega
  rw[if_neg hc]
  show (({ m with heap:=m.heap++[⟨x.a,List.replicate (xaY p.X.cz x.a).toNat xaU⟩] }:Mc RSt),_,_)=_
  rw[hsl];rfl
 exact xcz hX hR hg hx (by omega) hr hE hK hM (fun _=>⟨_,hF.at _⟩) (fun _=>by show f.pc+1=_;rw[hx.pc]) (fun _=>hL)
end
theorem xnY {p:Rp}(hX:Rx p)(c:Int):xbY p.X.cz/\∃ sl:Nat,xaY p.X.cz c=(sl:Int)/\sl<=1000:=by
 have ho:=xeq hX.right;obtain⟨hs,-,-,-⟩:=xcl hX.right;have hm:=hs.many;have h:=xcD ho (p.X.cz.length+1) c 0 (Int.le_refl _);have e:xaY p.X.cz c=upE xe0 p.X.cz (p.X.cz.length+1) c 0:=rfl;rw[← e] at h
 exact⟨ho,(xaY p.X.cz c).toNat,by omega,by omega⟩
set_option maxRecDepth 100000
theorem br13:Br 13:=by
 intro p d T T1 w wr W mb K R av kv gk G' m f c n1 n2 n3 k x hv sv ov sa sc H hop
 intros
 rename_i hN K9 hK9;obtain⟨hX,HEn,HR,HG,HX,HMa,HF,HL,HB1,HI,hM1,hF1,hsc1,hsc2,hBl,hWl,hxb,⟨aa,ca,rfl,hca⟩,ht40⟩:=H.pre;have HOP:=hid hop;clear hop;unfold xh4;unfold sw9 at hK9;obtain⟨hI,hW,hFo,hPl⟩:=HI.out;have x1:=hxb.x1;have hfw:=HX.out.few;have hp5:=hF1.pos;obtain⟨ah,ch,rfl,-⟩:=id hM1.heap;have c1:=hM1.c1;have c7:=hM1.c7;have cf7:=xap hM1.box
 by_cases h6:60<=m.heap.length
 ·have h6':(60:Int)<=(m.heap.length:Int):=by omega
  have H6:=hid h6;have HN7:=hid (hM1.num7 15);have HT7:=hid hM1.tag;have HMl:=hid (xal HMa.out.box);clear hF1 hM1 h6 hI hW hFo hPl;go_wp2
  exact Or.inl ⟨rfl,xmP hX HR.out HG.out HX.out HOP.out H6.out (.refl _ _) ((Kp.of_below HB1.out).set (fun _=>Or.inl HT7.out) _ _) HN7.out⟩
 ·have h6':¬ ((60:Int)<=(m.heap.length:Int)):=by omega
  have H6:=hid h6;have hSl:∀ w',Below W.heap.size W w'->w'.cell? ⟨w.heap.size+4,0,none⟩=some (.slice sa f.stack.length sc)/\w'.cell? ⟨mb,1,none⟩=some (.slice ah m.heap.length ch):=fun w' hb=>⟨qzA hb hF1.st,qzA hb hM1.c1⟩
  have hS0:=hSl _ (qzL _ W).drew
  go_upto_region 37 with (fail)
  refine xav (S:=fun w'=>w'.cell? ⟨w.heap.size+4,0,none⟩=some (.slice sa f.stack.length sc)/\w'.cell? ⟨mb,1,none⟩=some (.slice ah m.heap.length ch)) [10] (by kernel_rfl) ?_
  refine tk 0 _ (.slice sa f.stack.length sc) rfl (hS0) (fun _ _ _ h=>h) rfl (by kernel_rfl) ?_ ?_
  ·rintro w⟨q0,q1⟩;go_simp
  try simp only[Act.put,qzF,qzG,qzH]
  refine tk 1 _ (.pointer (some ⟨mb,0,none⟩)) rfl (hS0) (fun _ _ _ h=>h) rfl (by kernel_rfl) ?_ ?_
  ·rintro w⟨q0,q1⟩;go_simp
  try simp only[Act.put,qzF,qzG,qzH]
  refine tk 2 _ (.pointer (some ⟨mb,0,none⟩)) rfl (hS0) (fun _ _ _ h=>h) rfl (by kernel_rfl) ?_ ?_
  ·rintro w⟨q0,q1⟩;go_simp
  try simp only[Act.put,qzF,qzG,qzH]
  refine tk 3 _ (.pointer (some ⟨mb,0,none⟩)) rfl (hS0) (fun _ _ _ h=>h) rfl (by kernel_rfl) ?_ ?_
  ·rintro w⟨q0,q1⟩;go_simp
  try simp only[Act.put,qzF,qzG,qzH]
  refine tk 4 _ (.pointer (some ⟨mb,1,none⟩)) rfl (hS0) (fun _ _ _ h=>h) rfl (by kernel_rfl) ?_ ?_
  ·rintro w⟨q0,q1⟩;go_simp
  try simp only[Act.put,qzF,qzG,qzH]
  refine tk 5 _ (.slice ah m.heap.length ch) rfl (hS0) (fun _ _ _ h=>h) rfl (by kernel_rfl) ?_ ?_
  ·rintro w⟨q0,q1⟩;go_simp
  try simp only[Act.put,qzF,qzG,qzH]
  refine tk 6 _ (.int .i64 (m.heap.length:Int)) rfl (hS0) (fun _ _ _ h=>h) rfl (by kernel_rfl) ?_ ?_
  ·rintro w⟨q0,q1⟩;go_simp
  try simp only[Act.put,qzF,qzG,qzH]
  refine tk 7 _ (VV ⟨4,(m.heap.length:Int)⟩) rfl (hS0) (fun _ _ _ h=>h) rfl (by kernel_rfl) ?_ ?_
  ·rintro w⟨q0,q1⟩;go_simp
  try simp only[Act.put,qzF,qzG,qzH]
  refine xab (rs:=[8]) (by kernel_rfl) (by simp) ?_
  intro i hi;simp only[List.mem_cons,List.not_mem_nil,or_false] at hi;subst hi;refine xaN (o:=_) rfl (fun K' hK=>?_)
  go_simp;refine hK _ _ (fun _=>hSl _ (xaf (qzL _ W).drew (xak _ _))) ?_
  clear hK K'
  try simp only[Act.put,qzF,qzG,qzH]
  refine xab (rs:=[9]) (by kernel_rfl) (by simp) ?_
  intro i hi;simp only[List.mem_cons,List.not_mem_nil,or_false] at hi;subst hi;refine xaN (o:=_) rfl (fun K' hK=>?_)
  have hst:ownsAt ((W.drew).alloc (.cells #[.int .i64 4,.int .i64 (m.heap.length:Int)] 27)) 0 27 2 (.slice sa f.stack.length sc) f.stack.length (xam f.stack):=((hF1.later (qzL _ W).drew).stack.alloc _);obtain⟨v',w',hrun,r1,r2,r3,r4⟩:=xaL (w:=(W.drew).alloc (.cells #[.int .i64 4,.int .i64 (m.heap.length:Int)] 27)) 28 28 27 _ 2 16 Try.underlying28 xcg rfl (by omega) 0 f.stack.length (.slice sa f.stack.length sc) (xam f.stack) hst (W.drew).heap.size [.int .i64 4,.int .i64 (m.heap.length:Int)] rfl (qzJ (W.drew) _) (by intro u hu;simp only[List.mem_cons,List.not_mem_nil,or_false] at hu;rcases hu with h | h<;>(subst h;rfl)) (by unfold maxLen;omega) (by omega) (by omega)
  obtain⟨a',cap',rfl,-⟩:=r1.form;have hbU:Below wr.heap.size wr (W.drew.alloc (.cells #[.int .i64 4,.int .i64 (m.heap.length:Int)] 27)):=xaf (xaf HB1.out (qzL _ W).drew) (xak _ _);obtain⟨d0,df⟩:=xb8 HF.out hbU r4;refine xaw rfl (.tmp 151) (.tmp 159) 28 rfl (.slice sa f.stack.length sc) (.slice (some ⟨W.drew.heap.size,0,none⟩) 1 1) (.slice a' (f.stack.length+1) cap') (by simp[Act.eval,Act.put]) (by simp[Act.eval,Act.put]) hrun ?_
  obtain⟨z0,z1⟩:=hSl _ (xaf (qzL _ W).drew (xak W.drew (.cells #[.int .i64 4,.int .i64 (m.heap.length:Int)] 27)));have hSa:w'.cell? ⟨w.heap.size+4,0,none⟩=some (.slice sa f.stack.length sc)/\w'.cell? ⟨mb,1,none⟩=some (.slice ah m.heap.length ch):=⟨d0,xcU HF.out r4 (fun _=>by rw[HMa.out.tag];omega) z1⟩
  refine hK _ _ (fun _=>hSa) ?_
  clear hK K'
  try simp only[Act.put,qzF,qzG,qzH]
  refine xab (rs:=[10]) (by kernel_rfl) (by simp) ?_
  intro i hi;simp only[List.mem_cons,List.not_mem_nil,or_false] at hi;subst hi;refine xaN (o:=_) rfl (fun K' hK=>?_)
  go_simp;refine hK _ _ (fun h=>absurd h (by decide)) ?_
  clear hK K'
  try simp only[Act.put,qzF,qzG,qzH]
  refine xaz (by kernel_rfl) ?_ _
  try simp only[Act.put,qzF,qzG,qzH]
  obtain⟨⟨T2,e1,e2⟩,e3⟩:=HF.out.pushed (vs:=[⟨4,(m.heap.length:Int)⟩]) hbU (by simp;omega) (by simpa [xam] using r1) r2 r3 r4
  have hM2:=HMa.out.keep e1 e3 (by omega) (by omega) (by omega) (by omega)
  have x2:(w'.setCell ⟨w.heap.size+4,0,none⟩ (.slice a' (f.stack.length+1) cap')).cell? ⟨wr.heap.size,1,none⟩=some (.int .i64 x.a):=(qzI _ _ _ _ (by simp;omega)).trans (xcU HF.out r4 (fun h=>absurd h (Nat.lt_irrefl _)) (qzA (xaf (qzL _ W).drew (xak _ _)) x1))
  obtain⟨ac,cc,hcv,-⟩:=id hM2.cls;obtain⟨ho,sl,hsl,hsl2⟩:=xnY hX x.a;have E1:=hid e1;have E2:=hid e2;have E3:=hid e3;clear hS0 hSl hF1 hM1 d0 df hst hrun r1 r2 r3 r4 hbU e1 e2 e3 c1 c7 cf7 x1
  go_upto_region 38 with (fail)
  generalize (w'.setCell ⟨w.heap.size+4,0,none⟩ (.slice a' (f.stack.length+1) cap'))=U at *;have hSl:∀ w',Below U.heap.size U w'->w'.cell? ⟨mb,0,none⟩=some (.slice ac p.X.cz.length cc)/\w'.cell? ⟨mb,1,none⟩=some (.slice ah m.heap.length ch)/\w'.cell? ⟨mb,2,none⟩=some (.int .i64 p.X.ez)/\w'.cell? ⟨wr.heap.size,1,none⟩=some (.int .i64 x.a):=fun w' hb=>⟨by rw[← hcv];exact qzA hb hM2.c0,qzA hb hM2.c1,qzA hb hM2.c2,qzA hb x2⟩
  have hS0:=hSl _ (qzL _ U).drew;obtain⟨cs,hcs,hsrc⟩:=xi4 hM2.heap;have hlen:=hcs.1;have hmk:=xcH sl (by omega)
  have hmbl:=xal hM2.box;have hbD:Below U.heap.size U U.drew:=(qzL _ U).drew;have hbE:Below U.heap.size U (U.drew.alloc (.cells #[] 82)):=xaf hbD (xak _ _);refine xav (S:=fun w'=>w'.cell? ⟨mb,0,none⟩=some (.slice ac p.X.cz.length cc)/\w'.cell? ⟨mb,1,none⟩=some (.slice ah m.heap.length ch)/\w'.cell? ⟨mb,2,none⟩=some (.int .i64 p.X.ez)/\w'.cell? ⟨wr.heap.size,1,none⟩=some (.int .i64 x.a)) [24] (by kernel_rfl) ?_
  refine tk 0 _ (.pointer (some ⟨mb,0,none⟩)) rfl (hS0) (fun _ _ _ h=>h) rfl (by kernel_rfl) ?_ ?_
  ·rintro w⟨q0,q1,q2,q3⟩;go_simp
  try simp only[Act.put,qzF,qzG,qzH]
  refine tk 2 _ (.pointer (some ⟨mb,0,none⟩)) rfl (hS0) (fun _ _ _ h=>h) rfl (by kernel_rfl) ?_ ?_
  ·rintro w⟨q0,q1,q2,q3⟩;go_simp
  try simp only[Act.put,qzF,qzG,qzH]
  refine tk 3 _ (.pointer (some ⟨mb,0,none⟩)) rfl (hS0) (fun _ _ _ h=>h) rfl (by kernel_rfl) ?_ ?_
  ·rintro w⟨q0,q1,q2,q3⟩;go_simp
  try simp only[Act.put,qzF,qzG,qzH]
  refine tk 4 _ (.pointer (some ⟨mb,0,none⟩)) rfl (hS0) (fun _ _ _ h=>h) rfl (by kernel_rfl) ?_ ?_
  ·rintro w⟨q0,q1,q2,q3⟩;go_simp
  try simp only[Act.put,qzF,qzG,qzH]
  refine tk 5 _ (.pointer (some ⟨mb,1,none⟩)) rfl (hS0) (fun _ _ _ h=>h) rfl (by kernel_rfl) ?_ ?_
  ·rintro w⟨q0,q1,q2,q3⟩;go_simp
  try simp only[Act.put,qzF,qzG,qzH]
  refine tk 6 _ (.slice ah m.heap.length ch) rfl (hS0) (fun _ _ _ h=>h) rfl (by kernel_rfl) ?_ ?_
  ·rintro w⟨q0,q1,q2,q3⟩;go_simp
  try simp only[Act.put,qzF,qzG,qzH]
  refine tk 8 _ (.pointer (some ⟨wr.heap.size,1,none⟩)) rfl (hS0) (fun _ _ _ h=>h) rfl (by kernel_rfl) ?_ ?_
  ·rintro w⟨q0,q1,q2,q3⟩;go_simp
  try simp only[Act.put,qzF,qzG,qzH]
  refine tk 9 _ (.int .i64 x.a) rfl (hS0) (fun _ _ _ h=>h) rfl (by kernel_rfl) ?_ ?_
  ·rintro w⟨q0,q1,q2,q3⟩;go_simp
  try simp only[Act.put,qzF,qzG,qzH]
  refine tk 10 _ (.pointer (some ⟨mb,0,none⟩)) rfl (hS0) (fun _ _ _ h=>h) rfl (by kernel_rfl) ?_ ?_
  ·rintro w⟨q0,q1,q2,q3⟩;go_simp
  try simp only[Act.put,qzF,qzG,qzH]
  refine tk 11 _ (.pointer (some ⟨mb,0,none⟩)) rfl (hS0) (fun _ _ _ h=>h) rfl (by kernel_rfl) ?_ ?_
  ·rintro w⟨q0,q1,q2,q3⟩;go_simp
  try simp only[Act.put,qzF,qzG,qzH]
  refine tk 12 _ (.pointer (some ⟨mb,0,none⟩)) rfl (hS0) (fun _ _ _ h=>h) rfl (by kernel_rfl) ?_ ?_
  ·rintro w⟨q0,q1,q2,q3⟩;go_simp
  try simp only[Act.put,qzF,qzG,qzH]
  refine tk 13 _ (WV (.slice ac p.X.cz.length cc) (.slice ah m.heap.length ch) p.X.ez) rfl (hS0) (fun _ _ _ h=>h) rfl (by kernel_rfl) ?_ ?_
  ·rintro w⟨q0,q1,q2,q3⟩;go_simp
  try simp only[Act.put,qzF,qzG,qzH]
  refine tk 14 _ (.pointer (some ⟨wr.heap.size,1,none⟩)) rfl (hS0) (fun _ _ _ h=>h) rfl (by kernel_rfl) ?_ ?_
  ·rintro w⟨q0,q1,q2,q3⟩;go_simp
  try simp only[Act.put,qzF,qzG,qzH]
  refine tk 15 _ (.int .i64 x.a) rfl (hS0) (fun _ _ _ h=>h) rfl (by kernel_rfl) ?_ ?_
  ·rintro w⟨q0,q1,q2,q3⟩;go_simp
  try simp only[Act.put,qzF,qzG,qzH]
  refine xab (rs:=[1]) (by kernel_rfl) (by simp) ?_
  intro i hi;simp only[List.mem_cons,List.not_mem_nil,or_false] at hi;subst hi;refine xaN (o:=_) rfl (fun K' hK=>?_)
  go_simp;refine hK _ _ (fun _=>hSl _ hbE) ?_
  clear hK K'
  try simp only[Act.put,qzF,qzG,qzH]
  refine xab (rs:=[7]) (by kernel_rfl) (by simp) ?_
  intro i hi;simp only[List.mem_cons,List.not_mem_nil,or_false] at hi;subst hi;refine xaN (o:=_) rfl (fun K' hK=>?_)
  obtain⟨g,cap1,w1,hrun1,hown,hgB,hgl,hbA⟩:=xcn (w:=U.drew.alloc (.cells #[] 82)) 23 23 82 _ 2 32 Try.underlying23 xr7 rfl (by omega) (by omega) U.drew.heap.size (qzJ U.drew _) ah m.heap.length ch cs hlen (fun j u hj=>by obtain⟨b,e,h⟩:=hsrc j u hj;exact⟨b,e,qzA hbE h⟩) (by omega)
  have hb1:Below U.heap.size U w1:=xaf hbE hbA
  have hgU:U.heap.size<=g:=by
   rcases hgB with h | h
   ·rw[h];exact qzC _
   ·have:=hbE.size;omega
  refine xaw rfl (.tmp 162) (.tmp 167) 23 rfl (.slice (some ⟨U.drew.heap.size,0,none⟩) 0 0) (.slice ah m.heap.length ch) (.slice (some ⟨g,0,none⟩) m.heap.length cap1) (by simp[Act.eval,Act.put]) (by simp[Act.eval,Act.put]) hrun1 ?_
  refine hK _ _ (fun _=>hSl _ hb1) ?_
  clear hK K'
  try simp only[Act.put,qzF,qzG,qzH]
  refine xab (rs:=[16]) (by kernel_rfl) (by simp) ?_
  intro i hi;simp only[List.mem_cons,List.not_mem_nil,or_false] at hi;subst hi;refine xaN (o:=_) rfl (fun K' hK=>?_)
  refine xaZ rfl 21 (.func 21) #[.tmp 174,.tmp 176] _ rfl #[] rfl #[WV (.slice ac p.X.cz.length cc) (.slice ah m.heap.length ch) p.X.ez,.int .i64 x.a] (by simp[Act.eval,Act.put]) (vf17 _ _) ?_
  refine (show Calls Try.prog 21 #[WV (.slice ac p.X.cz.length cc) (.slice ah m.heap.length ch) p.X.ez,.int .i64 x.a] w1 _ from (xcB ⟨p.X.cz,m.heap,p.X.ez⟩ x.a _ _ w1 (by rw[← hcv];exact (hM2.cls.later xaA hb1)) (hM2.heap.later xaE hb1) ho).mono ?_)
  rintro e w2 ⟨rfl,hbS⟩;rw[show xaY (QW.mk p.X.cz m.heap p.X.ez).cz x.a=(sl:Int) from hsl]
  refine⟨_,rfl,?_⟩;have hb2:Below U.heap.size U w2:=xaf hb1 hbS;have hb3:Below U.heap.size U (w2.alloc (.cells (madeCells #[.int .i64 0,.int .i64 0] (sl*2)) 27)):=xaf hb2 (xak _ _);have hb4:Below U.heap.size U ((w2.alloc (.cells (madeCells #[.int .i64 0,.int .i64 0] (sl*2)) 27)).alloc (.cells #[.int .i64 x.a,.slice (some ⟨w2.heap.size,0,none⟩) sl sl] 82)):=xaf hb3 (xak _ _);have hvb:U.heap.size<=w2.heap.size:=hb2.size;refine hK _ _ (fun _=>hSl _ hb2) ?_
  clear hK K'
  try simp only[Act.put,qzF,qzG,qzH]
  refine xab (rs:=[17]) (by kernel_rfl) (by simp) ?_
  intro i hi;simp only[List.mem_cons,List.not_mem_nil,or_false] at hi;subst hi;refine xaN (o:=_) rfl (fun K' hK=>?_)
  go_simp;refine hK _ _ (fun _=>hSl _ hb3) ?_
  clear hK K'
  try simp only[Act.put,qzF,qzG,qzH]
  refine tk 18 _ (.agg #[.int .i64 x.a,.slice (some ⟨w2.heap.size,0,none⟩) sl sl]) rfl (hSl _ hb3) (fun _ _ _ h=>h) rfl (by kernel_rfl) ?_ ?_
  ·rintro w⟨q0,q1,q2,q3⟩;go_simp
  try simp only[Act.put,qzF,qzG,qzH]
  refine xab (rs:=[19]) (by kernel_rfl) (by simp) ?_
  intro i hi;simp only[List.mem_cons,List.not_mem_nil,or_false] at hi;subst hi;refine xaN (o:=_) rfl (fun K' hK=>?_)
  go_simp;refine hK _ _ (fun _=>hSl _ hb4) ?_
  clear hK K'
  try simp only[Act.put,qzF,qzG,qzH]
  refine xab (rs:=[20]) (by kernel_rfl) (by simp) ?_
  intro i hi;simp only[List.mem_cons,List.not_mem_nil,or_false] at hi;subst hi;refine xaN (o:=_) rfl (fun K' hK=>?_)
  have hgw:g<w2.heap.size:=qzE hgl hbS.size;have hst4:ownsAt ((w2.alloc (.cells (madeCells #[.int .i64 0,.int .i64 0] (sl*2)) 27)).alloc (.cells #[.int .i64 x.a,.slice (some ⟨w2.heap.size,0,none⟩) sl sl] 82)) U.heap.size 82 2 (.slice (some ⟨g,0,none⟩) m.heap.length cap1) m.heap.length cs:=(((xcK hown (qzC _)).base (base':=U.heap.size) (fun g' hg'=>by cases hg';exact hgU)).keep (fun g' hg'=>by cases hg';exact hbS.block _ hgl)).alloc _ |>.alloc _
  have hvw:((w2.alloc (.cells (madeCells #[.int .i64 0,.int .i64 0] (sl*2)) 27)).alloc (.cells #[.int .i64 x.a,.slice (some ⟨w2.heap.size,0,none⟩) sl sl] 82)).heap[w2.heap.size]?=some (.cells (xam (List.replicate sl xaU)).toArray 27 (0,0)):=by
   rw[← xld];exact xad (qzJ w2 _) (xak _ _)
  have hvg:some w2.heap.size≠(Value.slice (some ⟨g,0,none⟩) m.heap.length cap1).ownBlock:=fun e=>by have h1:w2.heap.size=g:=(by simpa [Value.ownBlock] using e);omega
  obtain⟨v5,w5,hrun5,r1,r2,r3,r4⟩:=xaL (w:=(w2.alloc (.cells (madeCells #[.int .i64 0,.int .i64 0] (sl*2)) 27)).alloc (.cells #[.int .i64 x.a,.slice (some ⟨w2.heap.size,0,none⟩) sl sl] 82)) 23 23 82 _ 2 32 Try.underlying23 xr7 rfl (by omega) U.heap.size m.heap.length (.slice (some ⟨g,0,none⟩) m.heap.length cap1) cs hst4 (w2.heap.size+1) [.int .i64 x.a,.slice (some ⟨w2.heap.size,0,none⟩) sl sl] rfl (by have:=qzJ (w2.alloc (.cells (madeCells #[.int .i64 0,.int .i64 0] (sl*2)) 27)) (.cells #[.int .i64 x.a,.slice (some ⟨w2.heap.size,0,none⟩) sl sl] 82);simpa using this) (by intro u hu;simp only[List.mem_cons,List.not_mem_nil,or_false] at hu;rcases hu with h | h<;>(subst h;rfl)) (by unfold maxLen;omega) (by omega) (by have:=hb4.size;omega)
  obtain⟨a5,cap5,rfl,-⟩:=r1.form;have hb5:Below U.heap.size U w5:=hb4.trans r3;have cf5:∀ o,w5.frozen? ⟨mb,o,none⟩=false:=xap (by rw[hb5.block _ hmbl];exact hM2.box)
  have c51:=(hSl _ hb4).2.1;have c5:w5.cell? ⟨mb,1,none⟩=some (.slice ah m.heap.length ch):=by rw[qzB (show w5.heap[mb]?=_ by rw[hb5.block _ hmbl];exact hM2.box)];rfl
  have hS5:w5.cell? ⟨mb,0,none⟩=some (.slice ac p.X.cz.length cc)/\w5.cell? ⟨mb,1,none⟩=some (.slice ah m.heap.length ch)/\w5.cell? ⟨mb,2,none⟩=some (.int .i64 p.X.ez)/\w5.cell? ⟨wr.heap.size,1,none⟩=some (.int .i64 x.a):=by
   have hc:∀ (b o:Nat) v,b<U.heap.size->U.cell? ⟨b,o,none⟩=some v->w5.cell? ⟨b,o,none⟩=some v:=fun b o v hb h=>by
    unfold World.cell? at h ⊢;rw[hb5.block b hb];exact h
   obtain⟨y0,y1,y2,y3⟩:=hSl _ (qzL _ U)
   exact⟨hc _ _ _ hmbl y0,hc _ _ _ hmbl y1,hc _ _ _ hmbl y2,hc _ _ _ (World.block_lt_of_cell? U ⟨wr.heap.size,1,none⟩ y3) y3⟩
  refine xaw rfl (.tmp 168) (.tmp 180) 23 rfl (.slice (some ⟨g,0,none⟩) m.heap.length cap1) (.slice (some ⟨w2.heap.size+1,0,none⟩) 1 1) (.slice a5 (m.heap.length+1) cap5) (by simp[Act.eval,Act.put]) (by simp[Act.eval,Act.put]) hrun5 ?_
  refine hK _ _ (fun _=>hS5) ?_
  clear hK K'
  try simp only[Act.put,qzF,qzG,qzH]
  refine tk 21 _ (.pointer (some ⟨mb,0,none⟩)) rfl (hS5) (fun _ _ _ h=>h) rfl (by kernel_rfl) ?_ ?_
  ·rintro w⟨q0,q1,q2,q3⟩;go_simp
  try simp only[Act.put,qzF,qzG,qzH]
  refine tk 22 _ (.pointer (some ⟨mb,0,none⟩)) rfl (hS5) (fun _ _ _ h=>h) rfl (by kernel_rfl) ?_ ?_
  ·rintro w⟨q0,q1,q2,q3⟩;go_simp
  try simp only[Act.put,qzF,qzG,qzH]
  refine tk 23 _ (.pointer (some ⟨mb,1,none⟩)) rfl (hS5) (fun _ _ _ h=>h) rfl (by kernel_rfl) ?_ ?_
  ·rintro w⟨q0,q1,q2,q3⟩;go_simp
  try simp only[Act.put,qzF,qzG,qzH]
  refine xab (rs:=[24]) (by kernel_rfl) (by simp) ?_
  intro i hi;simp only[List.mem_cons,List.not_mem_nil,or_false] at hi;subst hi;refine xaN (o:=_) rfl (fun K' hK=>?_)
  go_simp;refine hK _ _ (fun h=>absurd h (by decide)) ?_
  clear hK K'
  try simp only[Act.put,qzF,qzG,qzH]
  refine xaz (by kernel_rfl) ?_ _
  try simp only[Act.put,qzF,qzG,qzH]
  obtain⟨f1,f2⟩:=xqZ (c:=x.a) hM2 hcs hb4 hvb hvw hvg r1 r3 r4 (by omega) (by omega)
  have hE':Ext T1 (xaF T2 U 0) wr:=E1.out.trans E3.out.size (xaq T2 U 0);have hFU:=E2.out.keep (xaq T2 U 0) f2 (by omega) (by omega) (by omega) (by omega) (by omega)
  have hKK:Kp (All K) T1 wr _:=(xd0 E3.out fun t ht=>by omega).trans E1.out (xd0 f2 fun t ht=>by omega)
  have HE':=hid hE';have HFU:=hid hFU;have HKK:=hid hKK;have F1:=hid f1;have HSL:=hid hsl;clear hE' hFU hKK f1 f2 hsl;go_wp2
  exact Or.inl ⟨rfl,xn7 hX HR.out HG.out HX.out HOP.out H6.out HSL.out (by omega) HL.out HE'.out HKK.out F1.out HFU.out⟩
set_option maxRecDepth 8000
theorem xiU {xs:List QC}{k:Int}{name:ByteArray}(h:0<=(xaB xs k name).2):∃ mt,xaI xs (xaB xs k name).1 (xaB xs k name).2=some mt:=by
 rw[xhw] at h ⊢;generalize xdB xs (xs.length+1) k=l at *;have h1:=xhC l h;unfold xaI;simp only[if_pos h];unfold xbG at h1
 cases hx:xbx xs (xcJ xs name l).1 with
 | none=>rw[hx] at h1;simp[xcw,xcP] at h1;omega
 | some x=>
  rw[hx] at h1;simp only[Option.map_some,Option.getD_some] at h1;unfold xcw xcP at h1
  cases hf:x.mz.findIdx? (fun m=>eqN m.name name) with
  | none=>rw[hf] at h1;simp at h1;omega
  | some j=>
   rw[hf] at h1
   simp at h1
   rw[List.findIdx?_eq_some_iff_getElem] at hf;obtain⟨hj,-⟩:=hf;refine⟨x.mz[j],?_⟩;rw[h1]
   simp[hj]
theorem sd41 {W wz:World}{g xb cap' B n:Nat}{args:List QV}(xv:QV)(hb:Below W.heap.size W wz)(hown:wz.ownsRow B 27 2 (.slice (some ⟨g,0,none⟩) n cap') n (xam args))(hn:args.length=n)(hnl:n<=1000000)(hB:W.heap.size<=B)(hxb:W.heap.size<=xb)(hne:xb≠g)(hx:wz.heap[xb]?=some (.cells #[.int .i64 0,.int .i64 0] 27 (0,0))) :
  Below W.heap.size W ((wz.setCell ⟨xb,0,none⟩ (.int .i64 xv.k)).setCell ⟨xb,1,none⟩ (.int .i64 xv.n))/\((wz.setCell ⟨xb,0,none⟩ (.int .i64 xv.k)).setCell ⟨xb,1,none⟩ (.int .i64 xv.n)).heap[xb]?=some (.cells #[.int .i64 xv.k,.int .i64 xv.n] 27 (0,0))/\xaO (fun b=>W.heap.size<=b/\b<((wz.setCell ⟨xb,0,none⟩ (.int .i64 xv.k)).setCell ⟨xb,1,none⟩ (.int .i64 xv.n)).heap.size) ((wz.setCell ⟨xb,0,none⟩ (.int .i64 xv.k)).setCell ⟨xb,1,none⟩ (.int .i64 xv.n)) (.slice (some ⟨g,0,none⟩) n cap') args:=by
 have hrow:((wz.setCell ⟨xb,0,none⟩ (.int .i64 xv.k)).setCell ⟨xb,1,none⟩ (.int .i64 xv.n)).heap[xb]?=some (.cells #[.int .i64 xv.k,.int .i64 xv.n] 27 (0,0)):=by
  rw[xag (xag hx _)];rfl
 have h1:=ownsRow_setCell_other (ownsRow_setCell_other hown (a:=⟨xb,0,none⟩) (by simp[Value.ownBlock];omega) (.int .i64 xv.k)) (a:=⟨xb,1,none⟩) (by simp[Value.ownBlock];omega) (.int .i64 xv.n)
 refine⟨(hb.setCell hxb _).setCell hxb _,hrow,?_⟩;generalize ((wz.setCell ⟨xb,0,none⟩ (.int .i64 xv.k)).setCell ⟨xb,1,none⟩ (.int .i64 xv.n))=V at *
 have hc:Cells xpo 2 (fun b=>W.heap.size<=b/\b<V.heap.size) V (xam args) args:=⟨xbA _,fun i y hy=>by
  obtain⟨d1,d2⟩:=xbZ hy
  exact⟨by simpa using d1,d2⟩⟩
 exact xf3 xa1 h1 hc hn (fun b h1 h2=>⟨by omega,h2⟩) (by omega)
structure SdA (wr V:World)(f:Fr)(x:QI)(nn na xb:Nat)(asv:Value)(xv:QV):Prop where
 bel:Below wr.heap.size wr V
 inb:InB V wr.heap.size x
 xc:V.heap[xb]?=some (.cells #[.int .i64 xv.k,.int .i64 xv.n] 27 (0,0))
 lo:wr.heap.size<=xb/\wr.heap.size<V.heap.size
 args:xaO (fun b=>wr.heap.size<=b/\b<V.heap.size) V asv (f.stack.drop (nn+1))
 hna:x.a=(na:Int)
 len:f.stack.length=nn+1+na
 hxv:f.stack[nn]?=some xv
structure SdB (p:Rp)(d:Nat)(mb K B b0 xb:Nat)(T:Nat->Nat)(U:World)(m:Mc RSt)(err:Int)(f:Fr)(name:ByteArray)(xv:QV)(args:List QV)(asv av kv st hv sv ov:Value):Prop where
 mac:RMac p T U mb m (20-(d:Int)) err hv sv ov
 fr:RF T K U B f av kv st
 nm:U.cell? ⟨b0,4,none⟩=some (.string name)
 tn:T b0=0
 x:U.heap[xb]?=some (.cells #[.int .i64 xv.k,.int .i64 xv.n] 27 (0,0))
 tx:T xb=0
 args:xaO (Fx T U) U asv args
section
variable {p:Rp} {d:Nat} {mb K B b0 xb:Nat} {T T':Nat->Nat} {U U':World} {m m':Mc RSt} {err err':Int} {f f':Fr} {name:ByteArray} {xv:QV} {args:List QV} {asv av kv st hv sv ov hv' sv' ov':Value}
theorem SdB.keep {S:Nat->Prop}(h:SdB p d mb K B b0 xb T U m err f name xv args asv av kv st hv sv ov)(e:Ext T T' U)(k:Kp S T U U')(h0:¬ S 0)(h4:¬ S 4)(hK:¬ S K)(h1:¬ S (K+1))(h2:¬ S (K+2))(hM:RMac p T' U' mb m' (20-(d:Int)) err' hv' sv' ov'):SdB p d mb K B b0 xb T' U' m' err' f name xv args asv av kv st hv' sv' ov':=
 ⟨hM,h.fr.keep e k h0 h4 hK h1 h2,k.cell h.nm (by rw[h.tn];exact h0),by rw[e _ (World.block_lt_of_cell? U ⟨b0,4,none⟩ h.nm)];exact h.tn,k.held h.x (by rw[h.tx];exact h0),by rw[e _ (xal h.x)];exact h.tx,h.args.fx xa1 e k h0⟩
theorem SdB.later (h:SdB p d mb K B b0 xb T U m err f name xv args asv av kv st hv sv ov)(hb:Below U.heap.size U U'):SdB p d mb K B b0 xb T U' m err f name xv args asv av kv st hv sv ov:=h.keep (S:=fun _=>False) (.refl _ _) (.of_below hb) id id id id id (h.mac.later hb)
theorem SdB.x0 (h:SdB p d mb K B b0 xb T U m err f name xv args asv av kv st hv sv ov):U.cell? ⟨xb,0,none⟩=some (.int .i64 xv.k):=by rw[qzB h.x];rfl
theorem SdB.x1 (h:SdB p d mb K B b0 xb T U m err f name xv args asv av kv st hv sv ov):U.cell? ⟨xb,1,none⟩=some (.int .i64 xv.n):=by rw[qzB h.x];rfl
theorem sd42 {wr w V:World}{x:QI}{nn na:Nat}{sa:Option Addr}{sc:Nat}(hM:RMac p T wr mb m (20-(d:Int)) 0 hv sv ov)(hF:RF T K wr w.heap.size f av kv (.slice sa f.stack.length sc))(hA:SdA wr V f x nn na xb asv xv) :
  SdB p d mb K w.heap.size wr.heap.size xb (xaF T wr 0) (V.setCell ⟨w.heap.size+4,0,none⟩ (.slice sa nn sc)) m 0 { f with stack:=f.stack.take nn } x.name xv (f.stack.drop (nn+1)) asv av kv (.slice sa nn sc) hv sv ov/\Kp (fun t=>t=K) T wr (V.setCell ⟨w.heap.size+4,0,none⟩ (.slice sa nn sc)):=by
 have hp:=hF.pos;have hlt:=xal hF.sb;have hlm:=xal hM.box;obtain⟨hl1,hl2⟩:=hA.lo;have hlen:=hA.len;have ex:=xaq T wr 0;have hMV:=hM.keep (S:=fun _=>False) ex (.of_below hA.bel) id id id id
 have hFV:=hF.keep (S:=fun _=>False) ex (.of_below hA.bel) id id id id id
 have hk:Kp (fun t=>t=K) (xaF T wr 0) V (V.setCell ⟨w.heap.size+4,0,none⟩ (.slice sa nn sc)):=(Kp.refl _ _ _).set (fun _=>hFV.t4) _ _
 have hF2:=hFV.cut (n:=nn) (by omega) hk (xmF hFV.sb _)
 have hM2:=hMV.keep (.refl _ _) hk (by omega) (by omega) (by omega) (by omega)
 refine⟨⟨hM2,hF2,hk.cell hA.inb.x4 (by rw[xaJ (qzC _)];omega),xaJ (qzC _),hk.held hA.xc (by rw[xaJ hl1];omega),xaJ hl1,?_⟩,(Kp.of_below hA.bel).trans ex hk⟩
 exact hA.args.keep xa1 (Keeps.of_block fun b hb _=>xac (by omega) _) fun b hb=>⟨qzE hb.2 hk.size,xaJ hb.1⟩
theorem xjC (h:RMac p T U mb m (20-(d:Int)) err hv sv ov){wz w12 w18:World}(hbz:Below U.heap.size U wz)(r4:∀ b,b<wz.heap.size->some b≠sv.ownBlock->w12.heap[b]?=wz.heap[b]?)(hb18:Below w12.heap.size w12 w18)(hz:wz.heap.size<=w12.heap.size):ownsAt w18 0 3 1 ov m.st.length (xcC m.st):=by
 refine h.of.keep fun g hg=>?_
 have hl:=(h.of.lt g hg).2;have hs:=hbz.size;rw[hb18.block g (by omega),r4 g (by omega) (fun e=>by have:=h.stag g e.symm;rw[h.otag g hg] at this;omega),hbz.block g hl]
theorem xgA (h:RMac p T U mb m (20-(d:Int)) 0 hv sv ov){wz w12 w18 w19:World}{q:QS × Int}(hbz:Below U.heap.size U wz)
  (r1:ownsAt w12 0 42 3 sv' (m.st.length+1) (xcS m.st++[.int .i64 q.1.cls,.string q.1.name,.int .i64 q.1.at'])) (r2:sv'.ownBlock=sv.ownBlock\/∃ g,sv'.ownBlock=some g/\wz.heap.size<=g) (r3:Below 0 wz w12) (r4:∀ b,b<wz.heap.size->some b≠sv.ownBlock->w12.heap[b]?=wz.heap[b]?) (hb18:Below w12.heap.size w12 w18)
  (s1:ownsAt w19 0 3 1 ov' (m.st.length+1) (xcC m.st++[.int .i64 q.2])) (s2:ov'.ownBlock=ov.ownBlock\/∃ g,ov'.ownBlock=some g/\w18.heap.size<=g) (s3:Below 0 w18 w19) (s4:∀ b,b<w18.heap.size->some b≠ov.ownBlock->w19.heap[b]?=w18.heap[b]?) :
  (∃ T',Ext T T' U/\RMac p T' ((w19.setCell ⟨mb,8,none⟩ sv').setCell ⟨mb,9,none⟩ ov') mb { m with st:=m.st++[q] } (20-(d:Int)) 0 hv sv' ov')/\Kp (fun t=>t=1\/t=2\/t=3) T U ((w19.setCell ⟨mb,8,none⟩ sv').setCell ⟨mb,9,none⟩ ov'):=by
 have hlm:=xal h.box;have z1:=hbz.size;have z2:=r3.size;have z3:=hb18.size;have z4:=s3.size;have hso:∀ g,sv.ownBlock=some g->g<U.heap.size:=fun g hg=>(h.sites.lt g hg).2
 have hoo:∀ g,ov.ownBlock=some g->g<U.heap.size:=fun g hg=>(h.of.lt g hg).2
 have k0:Kp (fun t=>t=1\/t=2\/t=3) T U w19:=⟨s3.os.trans (hb18.os.trans (r3.os.trans hbz.os)),s3.tape.trans (hb18.tape.trans (r3.tape.trans hbz.tape)),s3.output.trans (hb18.output.trans (r3.output.trans hbz.output)),by omega,fun b hb hs=>by
  rw[s4 b (by omega) (fun e=>hs (Or.inr (Or.inr (h.otag b e.symm)))),hb18.block b (by omega),r4 b (by omega) (fun e=>hs (Or.inr (Or.inl (h.stag b e.symm)))),hbz.block b hb]⟩
 have k1:Kp (fun t=>t=1\/t=2\/t=3) T U ((w19.setCell ⟨mb,8,none⟩ sv').setCell ⟨mb,9,none⟩ ov'):=(k0.set (fun _=>Or.inl h.tag) _ _).set (fun _=>Or.inl h.tag) _ _
 refine⟨?_,k1⟩
 have hbox:w19.heap[mb]?=some (RB p m (20-(d:Int)) 0 hv sv ov):=by
  rw[s4 mb (by omega) (fun e=>by have:=h.otag mb e.symm;rw[h.tag] at this;omega),hb18.block mb (by omega),r4 mb (by omega) (fun e=>by have:=h.stag mb e.symm;rw[h.tag] at this;omega),hbz.block mb hlm];exact h.box
 have hb':((w19.setCell ⟨mb,8,none⟩ sv').setCell ⟨mb,9,none⟩ ov').heap[mb]?=some (RB p { m with st:=m.st++[q] } (20-(d:Int)) 0 hv sv' ov'):=xqA (xqg hbox sv') _ _
 have hsb:∀ g,sv'.ownBlock=some g->g≠mb/\some g≠ov'.ownBlock/\some g≠ov.ownBlock/\g<w12.heap.size/\(g<U.heap.size->T g=2):=fun g hg=>by
  have hlt:=(r1.lt g hg).2
  rcases r2 with e | ⟨g',e,hg'⟩
  ·rw[e] at hg;have t:=h.stag g hg;have hl:=hso g hg;refine⟨fun e=>by rw[e,h.tag] at t;omega,fun e=>?_,fun e=>by have:=h.otag g e.symm;omega,hlt,fun _=>t⟩
   rcases s2 with e2 | ⟨g2,e2,hg2⟩
   ·have:=h.otag g (by rw[← e2];exact e.symm);omega
   ·rw[e2] at e;cases e;omega
  ·rw[e] at hg;cases hg;refine⟨by omega,fun e=>?_,fun e=>by have:=hoo g e.symm;omega,hlt,fun h=>by omega⟩
   rcases s2 with e2 | ⟨g2,e2,hg2⟩
   ·have:=hoo g (by rw[← e2];exact e.symm);omega
   ·rw[e2] at e;cases e;omega
 have hob:∀ g,ov'.ownBlock=some g->g≠mb/\(g<U.heap.size->T g=3):=fun g hg=>by
  rcases s2 with e | ⟨g',e,hg'⟩
  ·rw[e] at hg;have t:=h.otag g hg
   exact⟨fun e=>by rw[e,h.tag] at t;omega,fun _=>t⟩
  ·rw[e] at hg;cases hg
   exact⟨by omega,fun h=>by omega⟩
 have hr1:ownsAt ((w19.setCell ⟨mb,8,none⟩ sv').setCell ⟨mb,9,none⟩ ov') 0 42 3 sv' (m.st.length+1) (xcS m.st++[.int .i64 q.1.cls,.string q.1.name,.int .i64 q.1.at']):=r1.keep fun g hg=>by
  obtain⟨a1,a2,a3,a4,-⟩:=hsb g hg;rw[xac a1,xac a1,s4 g (by omega) a3,hb18.block g a4]
 have hs1:ownsAt ((w19.setCell ⟨mb,8,none⟩ sv').setCell ⟨mb,9,none⟩ ov') 0 3 1 ov' (m.st.length+1) (xcC m.st++[.int .i64 q.2]):=s1.keep fun g hg=>by
  rw[xac (hob g hg).1,xac (hob g hg).1]
 generalize ((w19.setCell ⟨mb,8,none⟩ sv').setCell ⟨mb,9,none⟩ ov')=V at *
 obtain⟨T',hT,hT2,hT3⟩:∃ T',Ext T T' U/\(∀ g,sv'.ownBlock=some g->T' g=2)/\(∀ g,ov'.ownBlock=some g->T' g=3):=by
  refine⟨fun b=>if b<U.heap.size then T b else if sv'.ownBlock=some b then 2 else 3,fun b hb=>by simp only[if_pos hb],fun g hg=>?_,fun g hg=>?_⟩
  ·by_cases hl:g<U.heap.size
   ·simp only[if_pos hl];exact (hsb g hg).2.2.2.2 hl
   ·simp only[if_neg hl,if_pos hg]
  ·by_cases hl:g<U.heap.size
   ·simp only[if_pos hl];exact (hob g hg).2 hl
   ·simp only[if_neg hl];rw[if_neg (fun e=>(hsb g e).2.1 hg.symm)]
 refine⟨T',hT,hb',by rw[hT _ hlm];exact h.tag,h.cls.fx xaA hT k1 (by omega),h.heap.fx xaE hT k1 (by omega),?_,hT2,?_,hT3⟩
 ·rw[xeS,List.length_append];exact hr1
 ·rw[xeT,List.length_append];exact hs1
end
section
variable {p:Rp} {d:Nat} {T T1 T2:Nat->Nat} {w wr w2:World} {mb K:Nat} {R:Mc RSt × QV × Int} {av kv:Value} {gk:Nat} {at' at2:Value} {m:Mc RSt} {f:Fr}
variable {c:Int} {n1 n2 n3 G' k:Nat} {x:QI} {hv sv ov st st':Value} {U w':World}
theorem xox (hx:NxOk f k x)(hop:x.op=14)(hfast:f.fast=false)(hc:f.cls=c){nn na:Nat}(hna:x.a=(na:Int))(hlen:f.stack.length=nn+1+na){xv:QV}(hxv:f.stack[nn]?=some xv){kl:Int}(hkl:xas m.heap xv=kl){r:Mc RSt × QV × Int}(hr:xa4 p.E d { m with st:=m.st++[(⟨c,f.meth.name,(k:Int)⟩,kl)] } (xaB p.X.cz kl x.name).1 (xaB p.X.cz kl x.name).2 xv (f.stack.drop (nn+1))=r) :
  xaj (xa4 p.E d) p.E d m { f with pc:=f.pc+1 } f.pc x=if r.2.2≠0 then (r.1,{ f with pc:=f.pc+1 },r.2.2) else (r.1,{ f with pc:=f.pc+1,stack:=f.stack.take nn++[r.2.1] },0):=by
 have hk:xbp f.stack x.a=nn+1:=by unfold xbp;rw[hna];omega
 have hb:xaQ (f.stack.take (nn+1)) 0=xv:=by
  unfold xaQ xaM;have hl:(f.stack.take (nn+1)).length=nn+1:=by rw[List.length_take];omega
  rw[hl,if_neg (by omega),show (((nn+1:Nat):Int)-1-0).toNat=nn by omega,List.getElem?_take,if_pos (by omega),hxv]
  rfl
 have hd:(f.stack.take (nn+1)).dropLast=f.stack.take nn:=by
  have hl:(f.stack.take (nn+1)).length=nn+1:=by rw[List.length_take];omega
  rw[List.dropLast_eq_take,hl,List.take_take]
  congr 1
  omega
 rw[xbX _ _ (by omega)];unfold xcG;rw[if_neg (by omega),if_neg (by omega),if_neg (by omega),if_neg (by omega),if_neg (by omega),if_pos hop]
 unfold xbD;simp only[hk,hb,hkl,hd]
 have hs:Fr.site { f with pc:=f.pc+1 } f.pc x=⟨c,f.meth.name,(k:Int)⟩:=by
  unfold Fr.site;simp only[hfast,hc,hx.pc];rfl
 rw[hs]
 show (if (xa4 p.E d { m with st:=m.st++[(⟨c,f.meth.name,(k:Int)⟩,kl)] } (xaB p.X.cz kl x.name).1 (xaB p.X.cz kl x.name).2 xv (f.stack.drop (nn+1))).2.2≠0 then _ else _)=_
 rw[show xa4 p.E d { heap:=m.heap,sz_:=m.sz_,tz:=m.tz,st:=(p.E.look m.st ⟨c,f.meth.name,(k:Int)⟩ kl x.name).1 } (p.E.look m.st ⟨c,f.meth.name,(k:Int)⟩ kl x.name).2.1 (p.E.look m.st ⟨c,f.meth.name,(k:Int)⟩ kl x.name).2.2 xv (f.stack.drop (nn+1))=r from hr]
 rw[hr]
theorem xkw (hX:Rx p)(hR:BdR p d T w mb K R av kv gk at' T1 m f 0 wr)(hg:gk=G'+1)(hx:NxOk f k x)(hop:x.op=14)(hL:xj9 c n1 n2 n3 f){r:Mc RSt × QV × Int}{nn:Nat}(hr:xaj (xa4 p.E d) p.E d m { f with pc:=f.pc+1 } f.pc x=if r.2.2≠0 then (r.1,{ f with pc:=f.pc+1 },r.2.2) else (r.1,{ f with pc:=f.pc+1,stack:=f.stack.take nn++[r.2.1] },0)){W2:World}(hE:Ext T1 T2 wr)(hK:Kp (All K) T1 wr W2)(hM:RMac p T2 W2 mb r.1 (20-(d:Int)) r.2.2 hv sv ov)(hF:r.2.2=0->RF T2 K W2 w.heap.size { f with stack:=f.stack.take nn++[r.2.1] } av kv st) :
  BdX p d T w mb K R av kv c n1 n2 n3 G' (.int .i64 ((k:Int)+1)) W2:=by
 by_cases h0:r.2.2=0
 ·rw[if_neg (by omega)] at hr
  rw[h0] at hM
  exact xcz hX hR hg hx (by omega) hr hE hK hM (fun _=>⟨_,(hF h0).at _⟩) (fun _=>by show f.pc+1=_;rw[hx.pc]) (fun _=>hL)
 ·rw[if_pos h0] at hr
  exact xcz hX hR hg hx (by omega) hr hE hK hM (fun h=>absurd h h0) (fun h=>absurd h h0) (fun h=>absurd h h0)
theorem xkj {at2':Int}(hj:¬ 0<=(xaB p.X.cz at2' x.name).2){m4:Mc RSt}{xv:QV}{args:List QV}:xa4 p.E d m4 (xaB p.X.cz at2' x.name).1 (xaB p.X.cz at2' x.name).2 xv args=(m4,xaU,10):=by
 have h:xaI p.E.cz (xaB p.X.cz at2' x.name).1 (xaB p.X.cz at2' x.name).2=none:=by
  unfold xaI;simp only[if_neg hj]
  cases xbx p.E.cz (xaB p.X.cz at2' x.name).1<;>rfl
 cases d<;>(unfold xa4 xbc;rw[h])
end
def xq5:Code:=(Code.region 42 #[
  ⟨some 202,.load 28 (.tmp 12),28,"ref.go:109",#[],none⟩,
  ⟨some 203,.move (.tmp 18),3,"ref.go:109",#[],none⟩,
  ⟨some 204,.binOp .sub 3 (.tmp 203) (.const (.int .i64 1)) 3,3,"ref.go:109",#[⟨1,.data⟩],none⟩,
  ⟨some 205,.slice 28 (.tmp 202) none (some (.tmp 204)) none,28,"ref.go:109",#[⟨0,.data⟩,⟨2,.data⟩],none⟩,
  ⟨none,.store 28 (.tmp 12) (.tmp 205),0,"ref.go:109",#[⟨3,.data⟩,⟨0,.phase⟩,⟨1,.phase⟩,⟨2,.phase⟩,⟨3,.phase⟩],none⟩] false)
def sd43:Code:=((Code.region 43 #[
  ⟨some 206,.move (.tmp 0),69,"ref.go:110",#[],none⟩,
  ⟨some 207,.nilCheck (.tmp 206),0,"ref.go:110",#[⟨0,.data⟩],none⟩,
  ⟨some 208,.fieldAddr 113 (.tmp 207) 0,0,"ref.go:110",#[⟨1,.data⟩],none⟩,
  ⟨some 209,.fieldAddr 25 (.tmp 208) 1,0,"ref.go:110",#[⟨2,.data⟩],none⟩,
  ⟨some 210,.load 23 (.tmp 209),23,"ref.go:110",#[⟨3,.data⟩],none⟩,
  ⟨some 211,.load 27 (.tmp 20),27,"ref.go:110",#[],none⟩,
  ⟨some 212,.call ⟨.value (.func 43),#[.tmp 210,.tmp 211],#[23,27]⟩,3,"ref.go:110",#[⟨4,.data⟩,⟨5,.data⟩],none⟩,
  ⟨some 21,.assign (.tmp 212),3,"ref.go:110",#[⟨6,.data⟩,⟨6,.chain⟩,⟨0,.phase⟩,⟨1,.phase⟩,⟨2,.phase⟩,⟨3,.phase⟩,⟨4,.phase⟩,⟨5,.phase⟩,⟨6,.phase⟩],none⟩] true).seq ((Code.region 44 #[
  ⟨some 213,.move (.tmp 0),69,"ref.go:111",#[],none⟩,
  ⟨some 214,.move (.tmp 0),69,"ref.go:111",#[⟨22,.gcOnly .lateStores⟩],none⟩,
  ⟨some 215,.move (.tmp 0),69,"ref.go:111",#[],none⟩,
  ⟨some 216,.nilCheck (.tmp 215),0,"ref.go:111",#[⟨2,.data⟩],none⟩,
  ⟨some 217,.fieldAddr 113 (.tmp 216) 6,0,"ref.go:111",#[⟨3,.data⟩],none⟩,
  ⟨some 218,.load 47 (.tmp 217),47,"ref.go:111",#[⟨4,.data⟩],none⟩,
  ⟨some 219,.move (.tmp 1),3,"ref.go:111",#[],none⟩,
  ⟨some 220,.fieldAddr 55 (.tmp 7) 0,0,"ref.go:111",#[],none⟩,
  ⟨some 221,.load 9 (.tmp 220),9,"ref.go:111",#[⟨7,.data⟩],none⟩,
  ⟨some 222,.move (.tmp 14),3,"ref.go:111",#[],none⟩,
  ⟨some 223,.build 42 #[(0,.tmp 219),(1,.tmp 221),(2,.tmp 222)],42,"ref.go:111",#[⟨6,.data⟩,⟨8,.data⟩,⟨9,.data⟩],none⟩,
  ⟨some 224,.buildSlice 47 1 #[(0,.tmp 223)],47,"ref.go:111",#[⟨10,.data⟩],none⟩,
  ⟨some 225,.call ⟨.builtin .append,#[.tmp 218,.tmp 224],#[47,47]⟩,47,"ref.go:111",#[⟨5,.data⟩,⟨11,.data⟩],none⟩,
  ⟨some 226,.move (.tmp 0),69,"ref.go:111",#[],none⟩,
  ⟨some 227,.nilCheck (.tmp 226),0,"ref.go:111",#[⟨13,.data⟩],none⟩,
  ⟨some 228,.fieldAddr 113 (.tmp 227) 7,0,"ref.go:111",#[⟨14,.data⟩],none⟩,
  ⟨some 229,.load 48 (.tmp 228),48,"ref.go:111",#[⟨15,.data⟩],none⟩,
  ⟨some 230,.move (.tmp 21),3,"ref.go:111",#[],none⟩,
  ⟨some 231,.buildSlice 48 1 #[(0,.tmp 230)],48,"ref.go:111",#[⟨17,.data⟩],none⟩,
  ⟨some 232,.call ⟨.builtin .append,#[.tmp 229,.tmp 231],#[48,48]⟩,48,"ref.go:111",#[⟨16,.data⟩,⟨18,.data⟩,⟨12,.chain⟩],none⟩,
  ⟨some 233,.nilCheck (.tmp 213),0,"ref.go:111",#[⟨0,.data⟩,⟨0,.phase⟩,⟨1,.textOnly .lateStores⟩,⟨2,.phase⟩,⟨3,.phase⟩,⟨4,.phase⟩,⟨5,.phase⟩,⟨6,.phase⟩,⟨7,.phase⟩,⟨8,.phase⟩,⟨9,.phase⟩,⟨10,.phase⟩,⟨11,.phase⟩,⟨12,.phase⟩,⟨13,.textOnly .lateStores⟩,⟨14,.textOnly .lateStoresUnsure⟩,⟨15,.textOnly .lateStoresUnsure⟩,⟨16,.phase⟩,⟨17,.textOnly .lateStores⟩,⟨18,.textOnly .lateStoresUnsure⟩,⟨19,.phase⟩],none⟩,
  ⟨some 234,.fieldAddr 113 (.tmp 233) 6,0,"ref.go:111",#[⟨20,.data⟩,⟨0,.phase⟩,⟨1,.textOnly .lateStores⟩,⟨2,.phase⟩,⟨3,.phase⟩,⟨4,.phase⟩,⟨5,.phase⟩,⟨6,.phase⟩,⟨7,.phase⟩,⟨8,.phase⟩,⟨9,.phase⟩,⟨10,.phase⟩,⟨11,.phase⟩,⟨12,.phase⟩,⟨13,.textOnly .lateStores⟩,⟨14,.textOnly .lateStoresUnsure⟩,⟨15,.textOnly .lateStoresUnsure⟩,⟨16,.phase⟩,⟨17,.textOnly .lateStores⟩,⟨18,.textOnly .lateStoresUnsure⟩,⟨19,.phase⟩],none⟩,
  ⟨none,.store 47 (.tmp 234) (.tmp 225),0,"ref.go:111",#[⟨21,.data⟩,⟨12,.data⟩,⟨19,.chain⟩,⟨0,.phase⟩,⟨1,.textOnly .lateStores⟩,⟨2,.phase⟩,⟨3,.phase⟩,⟨4,.phase⟩,⟨5,.phase⟩,⟨6,.phase⟩,⟨7,.phase⟩,⟨8,.phase⟩,⟨9,.phase⟩,⟨10,.phase⟩,⟨11,.phase⟩,⟨12,.phase⟩,⟨13,.textOnly .lateStores⟩,⟨14,.textOnly .lateStoresUnsure⟩,⟨15,.textOnly .lateStoresUnsure⟩,⟨16,.phase⟩,⟨17,.textOnly .lateStores⟩,⟨18,.textOnly .lateStoresUnsure⟩,⟨19,.phase⟩],none⟩,
  ⟨some 235,.nilCheck (.tmp 214),0,"ref.go:111",#[⟨1,.data⟩,⟨0,.phase⟩,⟨1,.phase⟩,⟨2,.phase⟩,⟨3,.phase⟩,⟨4,.phase⟩,⟨5,.phase⟩,⟨6,.phase⟩,⟨7,.phase⟩,⟨8,.phase⟩,⟨9,.phase⟩,⟨10,.phase⟩,⟨11,.phase⟩,⟨12,.phase⟩,⟨13,.phase⟩,⟨14,.phase⟩,⟨15,.phase⟩,⟨16,.phase⟩,⟨17,.phase⟩,⟨18,.phase⟩,⟨19,.phase⟩,⟨20,.phase⟩,⟨21,.phase⟩,⟨22,.phase⟩],none⟩,
  ⟨some 236,.fieldAddr 113 (.tmp 235) 7,0,"ref.go:111",#[⟨23,.data⟩,⟨0,.phase⟩,⟨1,.phase⟩,⟨2,.phase⟩,⟨3,.phase⟩,⟨4,.phase⟩,⟨5,.phase⟩,⟨6,.phase⟩,⟨7,.phase⟩,⟨8,.phase⟩,⟨9,.phase⟩,⟨10,.phase⟩,⟨11,.phase⟩,⟨12,.phase⟩,⟨13,.phase⟩,⟨14,.phase⟩,⟨15,.phase⟩,⟨16,.phase⟩,⟨17,.phase⟩,⟨18,.phase⟩,⟨19,.phase⟩,⟨20,.phase⟩,⟨21,.phase⟩,⟨22,.phase⟩],none⟩,
  ⟨none,.store 48 (.tmp 236) (.tmp 232),0,"ref.go:111",#[⟨24,.data⟩,⟨19,.data⟩,⟨22,.chain⟩,⟨0,.phase⟩,⟨1,.phase⟩,⟨2,.phase⟩,⟨3,.phase⟩,⟨4,.phase⟩,⟨5,.phase⟩,⟨6,.phase⟩,⟨7,.phase⟩,⟨8,.phase⟩,⟨9,.phase⟩,⟨10,.phase⟩,⟨11,.phase⟩,⟨12,.phase⟩,⟨13,.phase⟩,⟨14,.phase⟩,⟨15,.phase⟩,⟨16,.phase⟩,⟨17,.phase⟩,⟨18,.phase⟩,⟨19,.phase⟩,⟨20,.phase⟩,⟨21,.phase⟩,⟨22,.phase⟩],none⟩] true).seq ((Code.region 45 #[
  ⟨some 238,.move (.tmp 0),69,"ref.go:112",#[],none⟩,
  ⟨some 239,.nilCheck (.tmp 238),0,"ref.go:112",#[⟨0,.data⟩],none⟩,
  ⟨some 240,.fieldAddr 113 (.tmp 239) 0,0,"ref.go:112",#[⟨1,.data⟩],none⟩,
  ⟨some 241,.load 25 (.tmp 240),25,"ref.go:112",#[⟨2,.data⟩],none⟩,
  ⟨some 242,.move (.tmp 21),3,"ref.go:112",#[],none⟩,
  ⟨some 243,.fieldAddr 59 (.tmp 15) 4,0,"ref.go:112",#[],none⟩,
  ⟨some 244,.load 9 (.tmp 243),9,"ref.go:112",#[⟨5,.data⟩],none⟩,
  ⟨some 245,.call ⟨.value (.func 9),#[.tmp 241,.tmp 242,.tmp 244],#[25,3,9]⟩,56,"ref.go:112",#[⟨3,.data⟩,⟨4,.data⟩,⟨6,.data⟩],none⟩,
  ⟨some 237,.move (.tmp 245),56,"ref.go:112",#[⟨7,.data⟩],none⟩,
  ⟨some 246,.extract (.tmp 237) 0,3,"ref.go:112",#[⟨8,.data⟩],none⟩,
  ⟨some 247,.extract (.tmp 237) 1,3,"ref.go:112",#[⟨8,.data⟩,⟨11,.gcOnly .lateStores⟩],none⟩,
  ⟨some 22,.assign (.tmp 246),3,"ref.go:112",#[⟨9,.data⟩,⟨7,.chain⟩,⟨0,.phase⟩,⟨1,.phase⟩,⟨2,.phase⟩,⟨3,.phase⟩,⟨4,.phase⟩,⟨5,.phase⟩,⟨6,.phase⟩,⟨7,.phase⟩,⟨8,.phase⟩,⟨9,.phase⟩,⟨10,.textOnly .lateStores⟩],none⟩,
  ⟨some 23,.assign (.tmp 247),3,"ref.go:112",#[⟨10,.data⟩,⟨11,.chain⟩,⟨0,.phase⟩,⟨1,.phase⟩,⟨2,.phase⟩,⟨3,.phase⟩,⟨4,.phase⟩,⟨5,.phase⟩,⟨6,.phase⟩,⟨7,.phase⟩,⟨8,.phase⟩,⟨9,.phase⟩,⟨10,.phase⟩,⟨11,.phase⟩],none⟩] true).seq (((Code.region 46 #[
  ⟨some 248,.move (.tmp 23),3,"ref.go:113",#[],none⟩,
  ⟨some 249,.binOp .lss 3 (.tmp 248) (.const (.int .i64 0)) 3,4,"ref.go:113",#[⟨0,.data⟩],none⟩] false).seq (Code.cond (Operand.tmp 249) ((Code.region 47 #[
  ⟨some 250,.move (.tmp 0),69,"ref.go:114",#[],none⟩,
  ⟨some 251,.nilCheck (.tmp 250),0,"ref.go:114",#[⟨0,.data⟩,⟨0,.phase⟩],none⟩,
  ⟨some 252,.fieldAddr 113 (.tmp 251) 5,0,"ref.go:114",#[⟨1,.data⟩,⟨0,.phase⟩],none⟩,
  ⟨none,.store 32 (.tmp 252) (.const (.int .i64 10)),0,"ref.go:114",#[⟨2,.data⟩,⟨0,.phase⟩],none⟩] false).seq (Code.exit 2)) Code.skip)).seq (Code.region 48 #[
  ⟨some 253,.load 28 (.tmp 12),28,"ref.go:117",#[],none⟩,
  ⟨some 254,.move (.tmp 0),69,"ref.go:117",#[],none⟩,
  ⟨some 255,.move (.tmp 22),3,"ref.go:117",#[],none⟩,
  ⟨some 256,.move (.tmp 23),3,"ref.go:117",#[],none⟩,
  ⟨some 257,.load 27 (.tmp 20),27,"ref.go:117",#[],none⟩,
  ⟨some 258,.move (.tmp 19),28,"ref.go:117",#[],none⟩,
  ⟨some 259,.call ⟨.value (.func 44),#[.tmp 254,.tmp 255,.tmp 256,.tmp 257,.tmp 258],#[69,3,3,27,28]⟩,27,"ref.go:117",#[⟨1,.data⟩,⟨2,.data⟩,⟨3,.data⟩,⟨4,.data⟩,⟨5,.data⟩],none⟩,
  ⟨some 260,.buildSlice 28 1 #[(0,.tmp 259)],28,"ref.go:117",#[⟨6,.data⟩],none⟩,
  ⟨some 261,.call ⟨.builtin .append,#[.tmp 253,.tmp 260],#[28,28]⟩,28,"ref.go:117",#[⟨0,.data⟩,⟨7,.data⟩,⟨6,.chain⟩],none⟩,
  ⟨none,.store 28 (.tmp 12) (.tmp 261),0,"ref.go:117",#[⟨8,.data⟩,⟨8,.chain⟩,⟨0,.phase⟩,⟨1,.phase⟩,⟨2,.phase⟩,⟨3,.phase⟩,⟨4,.phase⟩,⟨5,.phase⟩,⟨6,.phase⟩,⟨7,.phase⟩,⟨8,.phase⟩],none⟩] true)))))
def xro:Code:=(Code.region 45 #[
  ⟨some 238,.move (.tmp 0),69,"ref.go:112",#[],none⟩,
  ⟨some 239,.nilCheck (.tmp 238),0,"ref.go:112",#[⟨0,.data⟩],none⟩,
  ⟨some 240,.fieldAddr 113 (.tmp 239) 0,0,"ref.go:112",#[⟨1,.data⟩],none⟩,
  ⟨some 241,.load 25 (.tmp 240),25,"ref.go:112",#[⟨2,.data⟩],none⟩,
  ⟨some 242,.move (.tmp 21),3,"ref.go:112",#[],none⟩,
  ⟨some 243,.fieldAddr 59 (.tmp 15) 4,0,"ref.go:112",#[],none⟩,
  ⟨some 244,.load 9 (.tmp 243),9,"ref.go:112",#[⟨5,.data⟩],none⟩,
  ⟨some 245,.call ⟨.value (.func 9),#[.tmp 241,.tmp 242,.tmp 244],#[25,3,9]⟩,56,"ref.go:112",#[⟨3,.data⟩,⟨4,.data⟩,⟨6,.data⟩],none⟩,
  ⟨some 237,.move (.tmp 245),56,"ref.go:112",#[⟨7,.data⟩],none⟩,
  ⟨some 246,.extract (.tmp 237) 0,3,"ref.go:112",#[⟨8,.data⟩],none⟩,
  ⟨some 247,.extract (.tmp 237) 1,3,"ref.go:112",#[⟨8,.data⟩,⟨11,.gcOnly .lateStores⟩],none⟩,
  ⟨some 22,.assign (.tmp 246),3,"ref.go:112",#[⟨9,.data⟩,⟨7,.chain⟩,⟨0,.phase⟩,⟨1,.phase⟩,⟨2,.phase⟩,⟨3,.phase⟩,⟨4,.phase⟩,⟨5,.phase⟩,⟨6,.phase⟩,⟨7,.phase⟩,⟨8,.phase⟩,⟨9,.phase⟩,⟨10,.textOnly .lateStores⟩],none⟩,
  ⟨some 23,.assign (.tmp 247),3,"ref.go:112",#[⟨10,.data⟩,⟨11,.chain⟩,⟨0,.phase⟩,⟨1,.phase⟩,⟨2,.phase⟩,⟨3,.phase⟩,⟨4,.phase⟩,⟨5,.phase⟩,⟨6,.phase⟩,⟨7,.phase⟩,⟨8,.phase⟩,⟨9,.phase⟩,⟨10,.phase⟩,⟨11,.phase⟩],none⟩] true)
def sd46:Code:=(((Code.region 46 #[
  ⟨some 248,.move (.tmp 23),3,"ref.go:113",#[],none⟩,
  ⟨some 249,.binOp .lss 3 (.tmp 248) (.const (.int .i64 0)) 3,4,"ref.go:113",#[⟨0,.data⟩],none⟩] false).seq (Code.cond (Operand.tmp 249) ((Code.region 47 #[
  ⟨some 250,.move (.tmp 0),69,"ref.go:114",#[],none⟩,
  ⟨some 251,.nilCheck (.tmp 250),0,"ref.go:114",#[⟨0,.data⟩,⟨0,.phase⟩],none⟩,
  ⟨some 252,.fieldAddr 113 (.tmp 251) 5,0,"ref.go:114",#[⟨1,.data⟩,⟨0,.phase⟩],none⟩,
  ⟨none,.store 32 (.tmp 252) (.const (.int .i64 10)),0,"ref.go:114",#[⟨2,.data⟩,⟨0,.phase⟩],none⟩] false).seq (Code.exit 2)) Code.skip)).seq (Code.region 48 #[
  ⟨some 253,.load 28 (.tmp 12),28,"ref.go:117",#[],none⟩,
  ⟨some 254,.move (.tmp 0),69,"ref.go:117",#[],none⟩,
  ⟨some 255,.move (.tmp 22),3,"ref.go:117",#[],none⟩,
  ⟨some 256,.move (.tmp 23),3,"ref.go:117",#[],none⟩,
  ⟨some 257,.load 27 (.tmp 20),27,"ref.go:117",#[],none⟩,
  ⟨some 258,.move (.tmp 19),28,"ref.go:117",#[],none⟩,
  ⟨some 259,.call ⟨.value (.func 44),#[.tmp 254,.tmp 255,.tmp 256,.tmp 257,.tmp 258],#[69,3,3,27,28]⟩,27,"ref.go:117",#[⟨1,.data⟩,⟨2,.data⟩,⟨3,.data⟩,⟨4,.data⟩,⟨5,.data⟩],none⟩,
  ⟨some 260,.buildSlice 28 1 #[(0,.tmp 259)],28,"ref.go:117",#[⟨6,.data⟩],none⟩,
  ⟨some 261,.call ⟨.builtin .append,#[.tmp 253,.tmp 260],#[28,28]⟩,28,"ref.go:117",#[⟨0,.data⟩,⟨7,.data⟩,⟨6,.chain⟩],none⟩,
  ⟨none,.store 28 (.tmp 12) (.tmp 261),0,"ref.go:117",#[⟨8,.data⟩,⟨8,.chain⟩,⟨0,.phase⟩,⟨1,.phase⟩,⟨2,.phase⟩,⟨3,.phase⟩,⟨4,.phase⟩,⟨5,.phase⟩,⟨6,.phase⟩,⟨7,.phase⟩,⟨8,.phase⟩],none⟩] true))
set_option maxRecDepth 100000
theorem xpQ {p:Rp}{d:Nat}{T T1:Nat->Nat}{w wr W:World}{mb K:Nat}{R:Mc RSt × QV × Int}{av kv:Value}{gk G':Nat}{m:Mc RSt}{f:Fr}{c:Int}{n1 n2 n3 k:Nat}{x:QI}{hv sv ov:Value}{sa:Option Addr}{sc:Nat}(H:SwC p d T w mb K R av kv gk G' c n1 n2 n3 T1 m f wr W k x hv sv ov sa sc)(hop:x.op=14)
  {V:World} {T4:Nat->Nat} {nn na xb:Nat} {xv:QV} {asv hv4 sv4 ov4:Value} {kl:Int} (hna:x.a=(na:Int)) (hlen:f.stack.length=nn+1+na) (hxv:f.stack[nn]?=some xv) (hkl:xas m.heap xv=kl)
  (hE:Ext T1 T4 wr) (hKp:Kp (All K) T1 wr V) (hB:SdB p d mb K w.heap.size wr.heap.size xb T4 V { m with st:=m.st++[(⟨c,f.meth.name,(k:Int)⟩,kl)] } 0 { f with stack:=f.stack.take nn } x.name xv (f.stack.drop (nn+1)) asv av kv (.slice sa nn sc) hv4 sv4 ov4)
  {u0 u1 u2 u3 u4 u5 u6 ua ub uc ud ue uf ug uh ui uj uk ul um un uo up uq ur us ut uu uv uw ux uy uz ua0 ua1 ua2 ua3 ua4 ua5 ua6 ua7 ua8 ua9 uaa uab uac
  uad uae uaf uag uah uai uaj uak ual uam uan uao uap uaq uar uas uat uau uav uaw uax uay uaz ub0 ub1 ub2 ub3 ub4 ub5 ub6 ub7 ub8 ub9 uba ubb ubc ubd ube ubf ubg ubh ubi ubj ubk
  ubl ubm ubn ubo ubp ubq ubr ubs ubt ubu ubv ubw ubx uby ubz uc0 uc1 uc2 uc3 uc4 uc5 uc6 uc7 uc8 uc9 uca ucb ucc ucd uce ucf ucg uch uci ucj uck
  ucl ucm ucn uco ucp ucq ucr ucs uct ucu ucv ucw ucx ucy ucz ud0 ud1 ud2 ud3 ud4 ud5 ud6 ud7 ud8 ud9 uda udb udc udd ude udf udg udh udi udj udk
  udl udm udn udo udp udq udr uds udt udu udv udw udx udy udz ue0 ue1 ue2 ue3 ue4 ue5 ue6 ue7 ue8 ue9 uea ueb uec ued uee uef ueg ueh uei uej uek
  uel uem uen ueo uep ueq uer ues uet ueu uev uew uex uey uez uf0 uf1 uf2 uf3 uf4 uf5 uf6 uf7 uf8 uf9 ufa ufb ufc ufd ufe uff ufg ufh ufi ufj ufk
  ufl ufm ufn ufo ufp ufq ufr ufs uft ufu ufv ufw ufx ufy ufz ug0 ug1 ug2 ug3 ug4 ug5 ug6 ug7 ug8 ug9 uga ugb ugc ugd uge ugf ugg ugh ugi ugj ugk
  ugl ugm ugn ugo ugp ugq ugr ugs ugt ugu ugv ugw ugx ugy ugz uh0 uh1 uh2 uh3:Value}
  {KT K2 K3:Act->World->Prop}
  (hN:∀ (u5 u6 u7 u8 u9 ua ub uc uu uv uw ux uy uz ua0 ua1 ua2 ua3 ua4 ua5 ua6 ua7 ua8 ua9 uaa uab uac uad uae uaf uag uah uai uaj uak ual uam uan uao uap uaq uar uas uat uau
  uav uaw uax uay uaz ub0 ub1 ub2 ub3 ub4 ub5 ub6 ub7 ub8 ub9 uba ubb ubc ubd ube ubf ubg ubh ubi ubj ubk ubl ubm ubn ubo ubp ubq ubr ubs ubt ubu ubv ubw ubx uby
  ubz uc0 uc1 uc2 uc3 uc4 uc5 uc6 uc7 uc8 uc9 uca ucb ucc ucd uce ucf ucg uch uci ucj uck ucl ucm ucn uco ucp ucq ucr ucs uct ucu ucv ucw ucx ucy
  ucz ud0 ud1 ud2 ud3 ud4 ud5 ud6 ud7 ud8 ud9 uda udb udc udd ude udf udg udh udi udj udk udl udm udn udo udp udq udr uds udt udu udv udw udx udy
  udz ue0 ue1 ue2 ue3 ue4 ue5 ue6 ue7 ue8 ue9 uea ueb uec ued uee uef ueg ueh uei uej uek uel uem uen ueo uep ueq uer ues uet ueu uev uew uex uey
  uez uf0 uf1 uf2 uf3 uf4 uf5 uf6 uf7 uf8 uf9 ufa ufb ufc ufd ufe uff ufg ufh ufi ufj ufk ufl ufm ufn ufo ufp ufq ufr ufs uft ufu ufv ufw ufx ufy
  ufz ug0 ug1 ug2 ug3 ug4 ug5 ug6 ug7 ug8 ug9 uga ugb ugc ugd uge ugf ugg ugh ugi ugj:Value) (tg:Int) (w':World),xrE p d T w mb K R av kv G' c n1 n2 n3 T1 m f wr k x tg w'->KT (Act.mk #[.pointer (some ⟨mb,0,none⟩),.int .i64 c,u0,u1,av,u2,u3,.pointer (some ⟨w.heap.size,0,none⟩),.pointer (some ⟨w.heap.size+1,0,none⟩),u4,.pointer (some
  ⟨w.heap.size+2,0,none⟩),.slice (some ⟨w.heap.size+3,0,none⟩) n2 n2,.pointer (some ⟨w.heap.size+4,0,none⟩),.func (.func 86) #[] #[.pointer (some ⟨w.heap.size+4,0,
  none⟩)],.int .i64 (k:Int),.pointer (some ⟨wr.heap.size,0,none⟩),.int .i64 tg,u5,u6,u7,u8,u9,ua,ub,uc,ud,ue,uf,ug,uh,ui,uj,uk,ul,um,un,
  uo,up,uq,ur,us,ut,.int .i64 14,uu,uv,uw,ux,uy,uz,ua0,ua1,ua2,ua3,ua4,ua5,ua6,ua7,ua8,ua9,uaa,uab,uac,uad,uae,uaf,uag,uah,uai,uaj,uak,
  ual,uam,uan,uao,uap,uaq,uar,uas,uat,uau,uav,uaw,uax,uay,uaz,ub0,ub1,ub2,ub3,ub4,ub5,ub6,ub7,ub8,ub9,uba,ubb,ubc,ubd,ube,ubf,ubg,ubh,ubi,ubj,
  ubk,ubl,ubm,ubn,ubo,ubp,ubq,ubr,ubs,ubt,ubu,ubv,ubw,ubx,uby,ubz,uc0,uc1,uc2,uc3,uc4,uc5,uc6,uc7,uc8,uc9,uca,ucb,ucc,ucd,
  uce,ucf,ucg,uch,uci,ucj,uck,ucl,ucm,ucn,uco,ucp,ucq,ucr,ucs,uct,ucu,ucv,ucw,ucx,ucy,ucz,ud0,ud1,ud2,ud3,ud4,ud5,ud6,ud7,
  ud8,ud9,uda,udb,udc,udd,ude,udf,udg,udh,udi,udj,udk,udl,udm,udn,udo,udp,udq,udr,uds,udt,udu,udv,udw,udx,udy,udz,ue0,ue1,
  ue2,ue3,ue4,ue5,ue6,ue7,ue8,ue9,uea,ueb,uec,ued,uee,uef,ueg,ueh,uei,uej,uek,uel,uem,uen,ueo,uep,ueq,uer,ues,uet,ueu,uev,
  uew,uex,uey,uez,uf0,uf1,uf2,uf3,uf4,uf5,uf6,uf7,uf8,uf9,ufa,ufb,ufc,ufd,ufe,uff,ufg,ufh,ufi,ufj,ufk,ufl,ufm,ufn,ufo,ufp,
  ufq,ufr,ufs,uft,ufu,ufv,ufw,ufx,ufy,ufz,ug0,ug1,ug2,ug3,ug4,ug5,ug6,ug7,ug8,ug9,uga,ugb,ugc,ugd,uge,ugf,ugg,ugh,ugi,ugj,
  ugk,ugl,ugm,ugn,ugo,ugp,ugq,ugr,ugs,ugt,ugu,ugv,ugw,ugx,ugy,ugz,uh0,uh1,uh2,uh3] []) w')
  {K9:Act->World->Prop} (hK9:∀ a w',Code.wp Try.prog sd46 (Exit.inBlock 2 (Exit.then KT (Exit.inBlock 1 (Exit.then K2 (Exit.inBlock 0 (Exit.then K3 (bodyPost Try.prog Try.f65 fun e w'=>xcT p T w mb (20-(d:Int)) K R e w'))))))) a w'->K9 a w') :
  Code.wp Try.prog xro (Exit.then K9 (Exit.inBlock 2 (Exit.then KT (Exit.inBlock 1 (Exit.then K2 (Exit.inBlock 0 (Exit.then K3 (bodyPost Try.prog Try.f65 fun e w'=>xcT p T w mb (20-(d:Int)) K R e w')))))))) (Act.mk #[.pointer (some ⟨mb,0,none⟩),.int .i64 c,u0,u1,av,u2,u3,.pointer (some ⟨w.heap.size,0,none⟩),.pointer (some ⟨w.heap.size+1,0,none⟩),u4,.pointer (some
  ⟨w.heap.size+2,0,none⟩),.slice (some ⟨w.heap.size+3,0,none⟩) n2 n2,.pointer (some ⟨w.heap.size+4,0,none⟩),.func (.func 86) #[] #[.pointer (some ⟨w.heap.size+4,0,
  none⟩)],.int .i64 (k:Int),.pointer (some ⟨wr.heap.size,0,none⟩),.int .i64 ((k:Int)+1),u5,u6,asv,.pointer (some ⟨xb,0,none⟩),.int .i64 kl,ua,ub,uc,ud,
  ue,uf,ug,uh,ui,uj,uk,ul,um,un,uo,up,uq,ur,us,ut,.int .i64 14,uu,uv,uw,ux,uy,uz,ua0,ua1,ua2,ua3,ua4,ua5,ua6,ua7,ua8,ua9,uaa,
  uab,uac,uad,uae,uaf,uag,uah,uai,uaj,uak,ual,uam,uan,uao,uap,uaq,uar,uas,uat,uau,uav,uaw,uax,uay,uaz,ub0,ub1,ub2,ub3,ub4,ub5,ub6,ub7,ub8,ub9,uba,
  ubb,ubc,ubd,ube,ubf,ubg,ubh,ubi,ubj,ubk,ubl,ubm,ubn,ubo,ubp,ubq,ubr,ubs,ubt,ubu,ubv,ubw,ubx,uby,ubz,uc0,uc1,uc2,uc3,uc4,uc5,
  uc6,uc7,uc8,uc9,uca,ucb,ucc,ucd,uce,ucf,ucg,uch,uci,ucj,uck,ucl,ucm,ucn,uco,ucp,ucq,ucr,ucs,uct,ucu,ucv,ucw,ucx,ucy,ucz,
  ud0,ud1,ud2,ud3,ud4,ud5,ud6,ud7,ud8,ud9,uda,udb,udc,udd,ude,udf,udg,udh,udi,udj,udk,udl,udm,udn,udo,udp,udq,udr,uds,udt,
  udu,udv,udw,udx,udy,udz,ue0,ue1,ue2,ue3,ue4,ue5,ue6,ue7,ue8,ue9,uea,ueb,uec,ued,uee,uef,ueg,ueh,uei,uej,uek,uel,uem,uen,
  ueo,uep,ueq,uer,ues,uet,ueu,uev,uew,uex,uey,uez,uf0,uf1,uf2,uf3,uf4,uf5,uf6,uf7,uf8,uf9,ufa,ufb,ufc,ufd,ufe,uff,ufg,ufh,
  ufi,ufj,ufk,ufl,ufm,ufn,ufo,ufp,ufq,ufr,ufs,uft,ufu,ufv,ufw,ufx,ufy,ufz,ug0,ug1,ug2,ug3,ug4,ug5,ug6,ug7,ug8,ug9,uga,ugb,
  ugc,ugd,uge,ugf,ugg,ugh,ugi,ugj,ugk,ugl,ugm,ugn,ugo,ugp,ugq,ugr,ugs,ugt,ugu,ugv,ugw,ugx,ugy,ugz,uh0,uh1,uh2,uh3] []) V:=by
 obtain⟨hX,hEn,HR0,HG0,HX0,HMa0,HF0,hscap,HL0,hbel,hxb,⟨aa,ca,rfl,hca⟩,ht40,HI0⟩:=H;have HR:=hid HR0;have HG:=hid HG0;have HX:=hid HX0;have HL:=hid HL0;have HI:=hid HI0;have HOP:=hid hop;have HEn:=hid hEn;have HE:=hid hE;have HKp:=hid hKp;have HB:=hid hB;obtain⟨hsc1,hsc2⟩:=hscap;have HN:=hid (And.intro hna (And.intro hlen (And.intro hxv hkl)));have hfw:f.stack.length<=12:=HX0.few;have hp5:=hB.fr.pos;have hnl:nn+1+na<=12:=by omega
 have hcl:f.cls=c:=HL0.1;obtain⟨hI0,hW0,hFo0,hPl0⟩:=HI0;have hSv:∀ r,xa4 p.E d { m with st:=m.st++[(⟨c,f.meth.name,(k:Int)⟩,kl)] } (xaB p.X.cz kl x.name).1 (xaB p.X.cz kl x.name).2 xv (f.stack.drop (nn+1))=r->Hid (xaj (xa4 p.E d) p.E d m { f with pc:=f.pc+1 } f.pc x=if r.2.2≠0 then (r.1,{ f with pc:=f.pc+1 },r.2.2) else (r.1,{ f with pc:=f.pc+1,stack:=f.stack.take nn++[r.2.1] },0)):=fun r hr=>xox HX0 hop hPl0.fast hcl hna hlen hxv hkl hr
 have HSv:=hid hSv;have hm4:MIn p.E { m with st:=m.st++[(⟨c,f.meth.name,(k:Int)⟩,kl)] }:=⟨hI0.heap,hI0.sz_,hI0.tz⟩
 have hfew4:xpk { m with st:=m.st++[(⟨c,f.meth.name,(k:Int)⟩,kl)] }:=by
  unfold xpk;unfold Few at hW0;simp only[List.length_append,List.length_cons,List.length_nil];omega
 have hws:xax m.heap.length xv=0:=hFo0.stack _ (List.mem_of_getElem? hxv);have hwa:VsOk m.heap.length (f.stack.drop (nn+1)):=fun v hv=>hFo0.stack v (List.mem_of_mem_drop hv)
 have HM4:=hid (And.intro hm4 (And.intro hfew4 (And.intro hws hwa)));clear HR0 HG0 HX0 HMa0 HF0 HL0 hop hbel hEn hE hKp hI0 hW0 hFo0 hPl0 hna hlen hxv hkl hcl hSv hm4 hfew4 hws hwa hxb;unfold xro;unfold sd46 at hK9;obtain⟨ac,cc,hcv,-⟩:=id hB.mac.cls;obtain⟨ah,ch,rfl,-⟩:=id hB.mac.heap;have hSl:∀ w',Below V.heap.size V w'->w'.cell? ⟨mb,0,none⟩=some (.slice ac p.X.cz.length cc)/\w'.cell? ⟨mb,1,none⟩=some (.slice ah m.heap.length ch)/\w'.cell? ⟨mb,2,none⟩=some (.int .i64 p.X.ez)/\w'.cell? ⟨wr.heap.size,4,none⟩=some (.string x.name):=fun w' hb=>⟨by rw[← hcv];exact qzA hb hB.mac.c0,qzA hb hB.mac.c1,qzA hb hB.mac.c2,qzA hb hB.nm⟩
 have hS0:=hSl _ (qzL _ V).drew;refine xav (S:=fun w'=>w'.cell? ⟨mb,0,none⟩=some (.slice ac p.X.cz.length cc)/\w'.cell? ⟨mb,1,none⟩=some (.slice ah m.heap.length ch)/\w'.cell? ⟨mb,2,none⟩=some (.int .i64 p.X.ez)/\w'.cell? ⟨wr.heap.size,4,none⟩=some (.string x.name)) [] (by kernel_rfl) ?_
 refine tj 0 (⟨some 238,.move (.tmp 0),69,_,_,none⟩) (.pointer (some ⟨mb,0,none⟩)) (hS0) ?_ ?_
 ·rintro w⟨q0,q1,q2,q3⟩;go_simp
 try simp only[Act.put,qzF,qzG,qzH]
 refine tj 1 (⟨some 239,.nilCheck (.tmp 238),0,_,_,none⟩) (.pointer (some ⟨mb,0,none⟩)) (hS0) ?_ ?_
 ·rintro w⟨q0,q1,q2,q3⟩;go_simp
 try simp only[Act.put,qzF,qzG,qzH]
 refine tj 2 (⟨some 240,.fieldAddr 113 (.tmp 239) 0,0,_,_,none⟩) (.pointer (some ⟨mb,0,none⟩)) (hS0) ?_ ?_
 ·rintro w⟨q0,q1,q2,q3⟩;go_simp
 try simp only[Act.put,qzF,qzG,qzH]
 refine tj 3 (⟨some 241,.load 25 (.tmp 240),25,_,_,none⟩) (WV (.slice ac p.X.cz.length cc) (.slice ah m.heap.length ch) p.X.ez) (hS0) ?_ ?_
 ·rintro w⟨q0,q1,q2,q3⟩;go_simp
 try simp only[Act.put,qzF,qzG,qzH]
 refine tj 4 (⟨some 242,.move (.tmp 21),3,_,_,none⟩) (.int .i64 kl) (hS0) ?_ ?_
 ·rintro w⟨q0,q1,q2,q3⟩;go_simp
 try simp only[Act.put,qzF,qzG,qzH]
 refine tj 5 (⟨some 243,.fieldAddr 59 (.tmp 15) 4,0,_,_,none⟩) (.pointer (some ⟨wr.heap.size,4,none⟩)) (hS0) ?_ ?_
 ·rintro w⟨q0,q1,q2,q3⟩;go_simp
 try simp only[Act.put,qzF,qzG,qzH]
 refine tj 6 (⟨some 244,.load 9 (.tmp 243),9,_,_,none⟩) (.string x.name) (hS0) ?_ ?_
 ·rintro w⟨q0,q1,q2,q3⟩;go_simp
 try simp only[Act.put,qzF,qzG,qzH]
 refine xab (rs:=[7]) (by kernel_rfl) (by simp) ?_
 intro i hi;simp only[List.mem_cons,List.not_mem_nil,or_false] at hi;subst hi;refine xaN (o:=⟨some 245,.call ⟨.value (.func 9),#[.tmp 241,.tmp 242,.tmp 244],#[25,3,9]⟩,56,_,_,none⟩) rfl (fun K' hK=>?_)
 refine xaZ rfl 9 (.func 9) #[.tmp 241,.tmp 242,.tmp 244] _ rfl #[] rfl #[WV (.slice ac p.X.cz.length cc) (.slice ah m.heap.length ch) p.X.ez,.int .i64 kl,.string x.name] (by simp[Act.eval,Act.put]) (vf22 _ _) ?_
 refine (show Calls Try.prog 9 #[WV (.slice ac p.X.cz.length cc) (.slice ah m.heap.length ch) p.X.ez,.int .i64 kl,.string x.name] V.drew _ from (xit ⟨p.X.cz,m.heap,p.X.ez⟩ kl x.name _ _ V.drew (by rw[← hcv];exact (hB.mac.cls.later xaA (qzL _ V).drew)) (hB.mac.heap.later xaE (qzL _ V).drew)).mono ?_)
 rintro e w1 ⟨rfl,hbF⟩;refine⟨_,rfl,?_⟩;refine hK _ _ (fun _=>hSl _ (xaf (qzL _ V).drew hbF)) ?_
 clear hK K'
 try simp only[Act.put,qzF,qzG,qzH]
 refine tj 8 (⟨some 237,.move (.tmp 245),56,_,_,none⟩) (.tuple #[.int .i64 (xaB p.X.cz kl x.name).1,.int .i64 (xaB p.X.cz kl x.name).2]) (hSl _ (xaf (qzL _ V).drew hbF)) ?_ ?_
 ·rintro w⟨q0,q1,q2,q3⟩;go_simp
 try simp only[Act.put,qzF,qzG,qzH]
 refine tj 9 (⟨some 246,.extract (.tmp 237) 0,3,_,_,none⟩) (.int .i64 (xaB p.X.cz kl x.name).1) (hSl _ (xaf (qzL _ V).drew hbF)) ?_ ?_
 ·rintro w⟨q0,q1,q2,q3⟩;go_simp
 try simp only[Act.put,qzF,qzG,qzH]
 refine tj 10 (⟨some 247,.extract (.tmp 237) 1,3,_,_,none⟩) (.int .i64 (xaB p.X.cz kl x.name).2) (hSl _ (xaf (qzL _ V).drew hbF)) ?_ ?_
 ·rintro w⟨q0,q1,q2,q3⟩;go_simp
 try simp only[Act.put,qzF,qzG,qzH]
 refine tj 11 (⟨some 22,.assign (.tmp 246),3,_,_,none⟩) (.int .i64 (xaB p.X.cz kl x.name).1) (hSl _ (xaf (qzL _ V).drew hbF)) ?_ ?_
 ·rintro w⟨q0,q1,q2,q3⟩;go_simp
 try simp only[Act.put,qzF,qzG,qzH]
 refine tj 12 (⟨some 23,.assign (.tmp 247),3,_,_,none⟩) (.int .i64 (xaB p.X.cz kl x.name).2) (hSl _ (xaf (qzL _ V).drew hbF)) ?_ ?_
 ·rintro w⟨q0,q1,q2,q3⟩;go_simp
 try simp only[Act.put,qzF,qzG,qzH]
 refine xaz (by kernel_rfl) ?_ _
 try simp only[Act.put,qzF,qzG,qzH]
 have hbV:Below V.heap.size V w1:=xaf (qzL _ V).drew hbF;have hB1:=hB.later hbV;have HKp1:Hid (Kp (All K) T1 wr w1):=HKp.out.on hbV;clear hB HB HKp hSl hS0 hbF hbV
 by_cases hj:0<=(xaB p.X.cz kl x.name).2
 ·obtain⟨mt,hmt⟩:=xiU hj;have hj':¬ ((xaB p.X.cz kl x.name).2<0):=by omega
  have hjd:decide ((xaB p.X.cz kl x.name).2<0)=false:=by simpa using hj'
  generalize hR5:xa4 p.E d { m with st:=m.st++[(⟨c,f.meth.name,(k:Int)⟩,kl)] } (xaB p.X.cz kl x.name).1 (xaB p.X.cz kl x.name).2 xv (f.stack.drop (nn+1))=r
  have HV:=HSv.out r hR5;have HMt:=hid hmt;have HR5:=hid hR5;generalize hfc:(xaB p.X.cz kl x.name).1=fc at *;generalize hfj:(xaB p.X.cz kl x.name).2=fj at *;clear hmt hR5 hfc hfj HSv
  go_upto_region 48 with (fail)
  have hSl:∀ w',Below w1.heap.size w1 w'->w'.cell? ⟨w.heap.size+4,0,none⟩=some (.slice sa nn sc)/\w'.cell? ⟨xb,0,none⟩=some (.int .i64 xv.k)/\w'.cell? ⟨xb,1,none⟩=some (.int .i64 xv.n):=fun w' hb=>⟨qzA hb hB1.fr.st,qzA hb hB1.x0,qzA hb hB1.x1⟩
  have hS0:=hSl _ (qzL _ w1).drew;refine xav (S:=fun w'=>w'.cell? ⟨w.heap.size+4,0,none⟩=some (.slice sa nn sc)/\w'.cell? ⟨xb,0,none⟩=some (.int .i64 xv.k)/\w'.cell? ⟨xb,1,none⟩=some (.int .i64 xv.n)) [9] (by kernel_rfl) ?_
  refine tj 0 (⟨some 253,.load 28 (.tmp 12),28,_,_,none⟩) (.slice sa nn sc) (hS0) ?_ ?_
  ·rintro w⟨q0,q1,q2⟩;go_simp
  try simp only[Act.put,qzF,qzG,qzH]
  refine tj 1 (⟨some 254,.move (.tmp 0),69,_,_,none⟩) (.pointer (some ⟨mb,0,none⟩)) (hS0) ?_ ?_
  ·rintro w⟨q0,q1,q2⟩;go_simp
  try simp only[Act.put,qzF,qzG,qzH]
  refine tj 2 (⟨some 255,.move (.tmp 22),3,_,_,none⟩) (.int .i64 fc) (hS0) ?_ ?_
  ·rintro w⟨q0,q1,q2⟩;go_simp
  try simp only[Act.put,qzF,qzG,qzH]
  refine tj 3 (⟨some 256,.move (.tmp 23),3,_,_,none⟩) (.int .i64 fj) (hS0) ?_ ?_
  ·rintro w⟨q0,q1,q2⟩;go_simp
  try simp only[Act.put,qzF,qzG,qzH]
  refine tj 4 (⟨some 257,.load 27 (.tmp 20),27,_,_,none⟩) (VV xv) (hS0) ?_ ?_
  ·rintro w⟨q0,q1,q2⟩;go_simp
  try simp only[Act.put,qzF,qzG,qzH]
  refine tj 5 (⟨some 258,.move (.tmp 19),28,_,_,none⟩) (asv) (hS0) ?_ ?_
  ·rintro w⟨q0,q1,q2⟩;go_simp
  try simp only[Act.put,qzF,qzG,qzH]
  refine xab (rs:=[6]) (by kernel_rfl) (by simp) ?_
  intro i hi;simp only[List.mem_cons,List.not_mem_nil,or_false] at hi;subst hi;refine xaN (o:=⟨some 259,.call ⟨.value (.func 44),#[.tmp 254,.tmp 255,.tmp 256,.tmp 257,.tmp 258],#[69,3,3,27,28]⟩,27,_,_,none⟩) rfl (fun K' hK=>?_)
  have hB1d:=hB1.later (qzL _ w1).drew;refine xaZ rfl 44 (.func 44) #[.tmp 254,.tmp 255,.tmp 256,.tmp 257,.tmp 258] _ rfl #[] rfl #[.pointer (some ⟨mb,0,none⟩),.int .i64 fc,.int .i64 fj,VV xv,asv] (by simp[Act.eval,Act.put]) (vf24 _ _) ?_
  refine (show Calls Try.prog 44 #[.pointer (some ⟨mb,0,none⟩),.int .i64 fc,.int .i64 fj,VV xv,asv] w1.drew _ from (HEn.out (K+3) T4 w1.drew mb _ _ _ _ fc fj xv _ asv mt (by omega) hB1d.mac HM4.out.1 HM4.out.2.1 HM4.out.2.2.1 HM4.out.2.2.2 hB1d.args HMt.out).mono ?_)
  rw[HR5.out];rintro e w5 ⟨rfl,⟨T5,hv5,sv5,ov5,hE5,hM5⟩,hK5⟩;refine⟨_,rfl,?_⟩;replace hK5:Kp (All (K+3)) T4 w1 w5:=(Kp.of_below (qzL _ w1).drew).trans (.refl _ _) hK5;replace hE5:Ext T4 T5 w1:=hE5;have hB5:=hB1.keep (T':=T5) hE5 hK5 (by unfold All;omega) (by unfold All;omega) (by unfold All;omega) (by unfold All;omega) (by unfold All;omega) hM5
  have hF5:=hB5.fr;have hSl5:∀ w',Below w5.heap.size w5 w'->w'.cell? ⟨w.heap.size+4,0,none⟩=some (.slice sa nn sc)/\w'.cell? ⟨xb,0,none⟩=some (.int .i64 xv.k)/\w'.cell? ⟨xb,1,none⟩=some (.int .i64 xv.n):=fun w' hb=>⟨qzA hb hF5.st,qzA hb hB5.x0,qzA hb hB5.x1⟩
  refine hK _ _ (fun _=>hSl5 _ (qzL _ w5)) ?_
  clear hK K'
  try simp only[Act.put,qzF,qzG,qzH]
  refine xab (rs:=[7]) (by kernel_rfl) (by simp) ?_
  intro i hi;simp only[List.mem_cons,List.not_mem_nil,or_false] at hi;subst hi;refine xaN (o:=⟨some 260,.buildSlice 28 1 #[(0,.tmp 259)],28,_,_,none⟩) rfl (fun K' hK=>?_)
  go_simp;refine hK _ _ (fun _=>hSl5 _ (xak _ _)) ?_
  clear hK K'
  try simp only[Act.put,qzF,qzG,qzH]
  refine xab (rs:=[8]) (by kernel_rfl) (by simp) ?_
  intro i hi;simp only[List.mem_cons,List.not_mem_nil,or_false] at hi;subst hi;refine xaN (o:=⟨some 261,.call ⟨.builtin .append,#[.tmp 253,.tmp 260],#[28,28]⟩,28,_,_,none⟩) rfl (fun K' hK=>?_)
  have hst:ownsAt (w5.alloc (.cells #[.int .i64 r.2.1.k,.int .i64 r.2.1.n] 27)) 0 27 2 (.slice sa nn sc) nn (xam (f.stack.take nn)):=by
   have:=hF5.stack.alloc (.cells #[.int .i64 r.2.1.k,.int .i64 r.2.1.n] 27);rw[show ({ f with stack:=f.stack.take nn }:Fr).stack.length=nn from by show (f.stack.take nn).length=nn;rw[List.length_take];have:=HN.out.2.1;omega] at this
   exact this
  obtain⟨v',w',hrun,r1,r2,r3,r4⟩:=xaL (w:=w5.alloc (.cells #[.int .i64 r.2.1.k,.int .i64 r.2.1.n] 27)) 28 28 27 _ 2 16 Try.underlying28 xcg rfl (by omega) 0 nn (.slice sa nn sc) (xam (f.stack.take nn)) hst w5.heap.size [.int .i64 r.2.1.k,.int .i64 r.2.1.n] rfl (qzJ w5 _) (by intro u hu;simp only[List.mem_cons,List.not_mem_nil,or_false] at hu;rcases hu with h | h<;>(subst h;rfl)) (by unfold maxLen;omega) (by omega) (by omega)
  obtain⟨a',cap',rfl,-⟩:=r1.form;obtain⟨d0,df⟩:=xb8 hF5 (xak _ _) r4;refine xaw rfl (.tmp 253) (.tmp 260) 28 rfl (.slice sa nn sc) (.slice (some ⟨w5.heap.size,0,none⟩) 1 1) (.slice a' (nn+1) cap') (by simp[Act.eval,Act.put]) (by simp[Act.eval,Act.put]) hrun ?_
  have tx5:T5 xb=0:=hB5.tx
  have hSa:w'.cell? ⟨w.heap.size+4,0,none⟩=some (.slice sa nn sc)/\w'.cell? ⟨xb,0,none⟩=some (.int .i64 xv.k)/\w'.cell? ⟨xb,1,none⟩=some (.int .i64 xv.n):=by
   obtain⟨z0,z1,z2⟩:=hSl5 _ (xak w5 (.cells #[.int .i64 r.2.1.k,.int .i64 r.2.1.n] 27))
   exact⟨d0,xcU hF5 r4 (fun _=>by rw[tx5];omega) z1,xcU hF5 r4 (fun _=>by rw[tx5];omega) z2⟩
  refine hK _ _ (fun _=>hSa) ?_
  clear hK K'
  try simp only[Act.put,qzF,qzG,qzH]
  refine xab (rs:=[9]) (by kernel_rfl) (by simp) ?_
  intro i hi;simp only[List.mem_cons,List.not_mem_nil,or_false] at hi;subst hi;refine xaN (o:=⟨none,.store 28 (.tmp 12) (.tmp 261),0,_,_,none⟩) rfl (fun K' hK=>?_)
  go_simp;refine hK _ _ (fun h=>absurd h (by decide)) ?_
  clear hK K'
  try simp only[Act.put,qzF,qzG,qzH]
  refine xaz (by kernel_rfl) ?_ _
  try simp only[Act.put,qzF,qzG,qzH]
  have hll:(f.stack.take nn++[r.2.1]).length=nn+1:=by have:=HN.out.2.1;simp[List.length_take];omega
  obtain⟨⟨T6,g1,g2⟩,g3⟩:=hF5.pushed (vs:=[r.2.1]) (xak _ _) (by simp;omega) (by show ownsAt w' 0 27 2 _ (f.stack.take nn++[r.2.1]).length _;rw[hll];simpa [xam] using r1) r2 r3 r4
  have hM6:=hM5.keep g1 g3 (by omega) (by omega) (by omega) (by omega)
  have hE6:Ext T1 T6 wr:=HE.out.trans HKp1.out.size (hE5.trans hK5.size g1);have hK6:Kp (All K) T1 wr _:=HKp1.out.trans HE.out ((xd0 hK5 fun t ht=>by unfold All at ht;omega).trans hE5 (xd0 g3 fun t ht=>by omega))
  have G2:=hid g2;have HM6:=hid hM6;have HE6:=hid hE6;have HK6:=hid hK6;clear g1 g2 g3 hM6 hE6 hK6 r1 r2 r3 r4 hF5 hM5 hE5 hK5 hB5 hSl5 d0 df hB1;go_wp2
  exact Or.inl ⟨rfl,xkw hX HR.out HG.out HX.out HOP.out HL.out HV.out HE6.out HK6.out HM6.out (fun _=>G2.out)⟩
 ·have hj':(xaB p.X.cz kl x.name).2<0:=by omega
  have HV:=HSv.out _ (xkj hj);have c7:=hB1.mac.c7;have cf7:=xap hB1.mac.box;have HN7:=hid (hB1.mac.num7 10);have HT7:=hid hB1.mac.tag;have HK7:Hid (Kp (All K) T1 wr (w1.setCell ⟨mb,7,none⟩ (.int .i64 10))):=HKp1.out.trans HE.out ((kp1 hB1.mac 7 (.int .i64 10)).mono fun t h=>Or.inl h)
  clear hB1 HSv hj;go_wp2
  exact Or.inl ⟨rfl,xkw (r:=({ m with st:=m.st++[(⟨c,f.meth.name,(k:Int)⟩,kl)] },xaU,10)) (st:=.slice none 0 0) hX HR.out HG.out HX.out HOP.out HL.out HV.out HE.out HK7.out HN7.out (fun h=>absurd (show (10:Int)=0 from h) (by decide))⟩
end Go.Proofs.Ytdfbgpiikeheiaa
