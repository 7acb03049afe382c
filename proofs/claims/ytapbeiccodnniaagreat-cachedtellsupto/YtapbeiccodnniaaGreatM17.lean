/- A part. -/
import Derived.Test.YtapbeiccodnniaaGreatM16
namespace Go.Proofs.YtapbeiccodnniaaGreat
open Go.ChangeShapes Go.WideShapes Go.ChangeAt Go.RowKit
set_option linter.unusedSimpArgs false
set_option linter.unusedVariables false
set_option maxHeartbeats 8000000
set_option maxRecDepth 100000
theorem br5:Br 5:=by
 intro p d T T1 w wr W mb K R av kv gk G' m f c n1 n2 n3 k x hv sv ov sa sc H hop
 intros
 rename_i hN K9 hK9;obtain⟨hX,HEn,HR,HG,HX,HMa,HF,HL,HB1,HI,hM1,hF1,hsc1,hsc2,hBl,hWl,hxb,⟨aa,ca,rfl,hca⟩,ht40⟩:=H.pre;have HOP:=hid hop;clear hop;unfold xdw;unfold sw9 at hK9
 have HPU:Hid (xaA m.heap { f with pc:=f.pc+1 } x=some (QV.mk 3 x.a)):=by
  show _=_
  have hop:x.op=5:=HOP.out;unfold xaA
  simp[hop]
 have hst0:=hF1.st;have x1:=hxb.x1;have HSt:=hid hF1.stack;have hfw:=HX.out.few
 go_wp2_with (at_builtin;refine xce rfl (.tmp 85) (.tmp 89) 28 27 _ 2 16 rfl Tryz.underlying28 xbW rfl (by omega) 0 f.stack.length (.slice sa f.stack.length sc) (xal f.stack) rfl (HSt.out.alloc _) W.heap.size rfl [.int .i64 3,.int .i64 x.a] rfl (qzJ _ _) (by intro u hu;simp only[List.mem_cons,List.not_mem_nil,or_false] at hu;rcases hu with h | h<;>(subst h;rfl)) (by unfold maxLen;omega) (by omega) (by omega) ?_;intro a' cap' w' r1 r2 r3 r4;have hbU:=xah HB1.out (xaj W (.cells #[.int .i64 3,.int .i64 x.a] 27));obtain⟨d0,df⟩:=xbR HF.out hbU r4;have R1:=hid r1;have R2:=hid r2;have R3:=hid r3;have R4:=hid r4;have HBU:=hid hbU;clear r1 r2 r3 r4 hbU)
 exact Or.inl ⟨rfl,xcF hX HR.out HG.out HX.out HPU.out HMa.out HF.out HL.out HBU.out R1.out R2.out R3.out R4.out⟩
theorem br6:Br 6:=by
 intro p d T T1 w wr W mb K R av kv gk G' m f c n1 n2 n3 k x hv sv ov sa sc H hop
 intros
 rename_i hN K9 hK9;obtain⟨hX,HEn,HR,HG,HX,HMa,HF,HL,HB1,HI,hM1,hF1,hsc1,hsc2,hBl,hWl,hxb,⟨aa,ca,rfl,hca⟩,ht40⟩:=H.pre;have HOP:=hid hop;clear hop;unfold xdw;unfold sw9 at hK9
 have HPU:Hid (xaA m.heap { f with pc:=f.pc+1 } x=some xaU):=by
  show _=_
  have hop:x.op=6:=HOP.out;unfold xaA
  simp[hop]
 have hst0:=hF1.st;have x1:=hxb.x1;have HSt:=hid hF1.stack;have hfw:=HX.out.few
 go_wp2_with (at_builtin;refine xce rfl (.tmp 93) (.tmp 95) 28 27 _ 2 16 rfl Tryz.underlying28 xbW rfl (by omega) 0 f.stack.length (.slice sa f.stack.length sc) (xal f.stack) rfl (HSt.out.alloc _) W.heap.size rfl [.int .i64 0,.int .i64 0] rfl (qzJ _ _) (by intro u hu;simp only[List.mem_cons,List.not_mem_nil,or_false] at hu;rcases hu with h | h<;>(subst h;rfl)) (by unfold maxLen;omega) (by omega) (by omega) ?_;intro a' cap' w' r1 r2 r3 r4;have hbU:=xah HB1.out (xaj W (.cells #[.int .i64 0,.int .i64 0] 27));obtain⟨d0,df⟩:=xbR HF.out hbU r4;have R1:=hid r1;have R2:=hid r2;have R3:=hid r3;have R4:=hid r4;have HBU:=hid hbU;clear r1 r2 r3 r4 hbU)
 exact Or.inl ⟨rfl,xcF hX HR.out HG.out HX.out HPU.out HMa.out HF.out HL.out HBU.out R1.out R2.out R3.out R4.out⟩
theorem br7:Br 7:=by
 intro p d T T1 w wr W mb K R av kv gk G' m f c n1 n2 n3 k x hv sv ov sa sc H hop
 intros
 rename_i hN K9 hK9;obtain⟨hX,HEn,HR,HG,HX,HMa,HF,HL,HB1,HI,hM1,hF1,hsc1,hsc2,hBl,hWl,hxb,⟨aa,ca,rfl,hca⟩,ht40⟩:=H.pre;have HOP:=hid hop;clear hop;unfold xdw;unfold sw9 at hK9;have hfw:=HX.out.few
 have HPU:Hid (xaA m.heap { f with pc:=f.pc+1 } x=some ⟨1,0⟩):=by
  show _=_
  have hop:x.op=7:=HOP.out;unfold xaA
  simp[hop]
 have hS0:=pcS (hF1.st) (hxb.x1) (PcS.mk hM1 hF1 HB1.out) (qzL _ W).drew
 go_upto_region 22 with (fail)
 go_region_law (first
  | (refine xbv rfl 67 (.func 67) #[.const (.bool false)] _ rfl #[] rfl #[.bool false] (by simp[Act.eval,Act.put]) (cf46 _ _) ?_;refine (xdZ false _).mono ?_;rintro e wc ⟨rfl,hbc⟩;refine⟨_,rfl,?_⟩;have hS1:=pcL hS0 hbc;obtain⟨hst1,hx1,hP⟩:=id hS1;have hst1a:=qzA (xaj wc (.cells #[.int .i64 1,.int .i64 0] 27)) hst1)
  | (have hst:ownsAt (wc.alloc (.cells #[.int .i64 1,.int .i64 0] 27)) 0 27 2 (.slice sa f.stack.length sc) f.stack.length (xal f.stack):=(hP.fr.stack.alloc _);obtain⟨v',w',hrun,r1,r2,r3,r4⟩:=xaF (w:=wc.alloc (.cells #[.int .i64 1,.int .i64 0] 27)) 28 28 27 _ 2 16 Tryz.underlying28 xbW rfl (by omega) 0 f.stack.length (.slice sa f.stack.length sc) (xal f.stack) hst wc.heap.size [.int .i64 1,.int .i64 0] rfl (qzJ wc _) (by intro u hu;simp only[List.mem_cons,List.not_mem_nil,or_false] at hu;rcases hu with h | h<;>(subst h;rfl)) (by unfold maxLen;omega) (by omega) (by omega);obtain⟨a',cap',rfl,-⟩:=r1.form;have hbU:Below wr.heap.size wr (wc.alloc (.cells #[.int .i64 1,.int .i64 0] 27)):=xah hP.bel (xaj _ _);obtain⟨d0,df⟩:=xbR HF.out hbU r4;have R1:=hid r1;have R2:=hid r2;have R3:=hid r3;have R4:=hid r4;have HBU:=hid hbU;clear r1 r2 r3 r4 hbU hst;refine xat rfl (.tmp 99) (.tmp 101) 28 rfl (.slice sa f.stack.length sc) (.slice (some ⟨wc.heap.size,0,none⟩) 1 1) (.slice a' (f.stack.length+1) cap') (by simp[Act.eval,Act.put]) (by simp[Act.eval,Act.put]) hrun ?_))
 all_goals (
  go_wp2
  exact Or.inl ⟨rfl,xcF hX HR.out HG.out HX.out HPU.out HMa.out HF.out HL.out HBU.out R1.out R2.out R3.out R4.out⟩)
theorem br8:Br 8:=by
 intro p d T T1 w wr W mb K R av kv gk G' m f c n1 n2 n3 k x hv sv ov sa sc H hop
 intros
 rename_i hN K9 hK9;obtain⟨hX,HEn,HR,HG,HX,HMa,HF,HL,HB1,HI,hM1,hF1,hsc1,hsc2,hBl,hWl,hxb,⟨aa,ca,rfl,hca⟩,ht40⟩:=H.pre;have HOP:=hid hop;clear hop;unfold xdw;unfold sw9 at hK9;have hfw:=HX.out.few
 have HPU:Hid (xaA m.heap { f with pc:=f.pc+1 } x=some ⟨2,0⟩):=by
  show _=_
  have hop:x.op=8:=HOP.out;unfold xaA
  simp[hop]
 have hS0:=pcS (hF1.st) (hxb.x1) (PcS.mk hM1 hF1 HB1.out) (qzL _ W).drew
 go_upto_region 24 with (fail)
 go_region_law (first
  | (refine xbv rfl 67 (.func 67) #[.const (.bool true)] _ rfl #[] rfl #[.bool true] (by simp[Act.eval,Act.put]) (cf46 _ _) ?_;refine (xdZ true _).mono ?_;rintro e wc ⟨rfl,hbc⟩;refine⟨_,rfl,?_⟩;have hS1:=pcL hS0 hbc;obtain⟨hst1,hx1,hP⟩:=id hS1;have hst1a:=qzA (xaj wc (.cells #[.int .i64 2,.int .i64 0] 27)) hst1)
  | (have hst:ownsAt (wc.alloc (.cells #[.int .i64 2,.int .i64 0] 27)) 0 27 2 (.slice sa f.stack.length sc) f.stack.length (xal f.stack):=(hP.fr.stack.alloc _);obtain⟨v',w',hrun,r1,r2,r3,r4⟩:=xaF (w:=wc.alloc (.cells #[.int .i64 2,.int .i64 0] 27)) 28 28 27 _ 2 16 Tryz.underlying28 xbW rfl (by omega) 0 f.stack.length (.slice sa f.stack.length sc) (xal f.stack) hst wc.heap.size [.int .i64 2,.int .i64 0] rfl (qzJ wc _) (by intro u hu;simp only[List.mem_cons,List.not_mem_nil,or_false] at hu;rcases hu with h | h<;>(subst h;rfl)) (by unfold maxLen;omega) (by omega) (by omega);obtain⟨a',cap',rfl,-⟩:=r1.form;have hbU:Below wr.heap.size wr (wc.alloc (.cells #[.int .i64 2,.int .i64 0] 27)):=xah hP.bel (xaj _ _);obtain⟨d0,df⟩:=xbR HF.out hbU r4;have R1:=hid r1;have R2:=hid r2;have R3:=hid r3;have R4:=hid r4;have HBU:=hid hbU;clear r1 r2 r3 r4 hbU hst;refine xat rfl (.tmp 105) (.tmp 107) 28 rfl (.slice sa f.stack.length sc) (.slice (some ⟨wc.heap.size,0,none⟩) 1 1) (.slice a' (f.stack.length+1) cap') (by simp[Act.eval,Act.put]) (by simp[Act.eval,Act.put]) hrun ?_))
 all_goals (
  go_wp2
  exact Or.inl ⟨rfl,xcF hX HR.out HG.out HX.out HPU.out HMa.out HF.out HL.out HBU.out R1.out R2.out R3.out R4.out⟩)
theorem br9:Br 9:=by
 intro p d T T1 w wr W mb K R av kv gk G' m f c n1 n2 n3 k x hv sv ov sa sc H hop
 intros
 rename_i hN K9 hK9;obtain⟨hX,HEn,HR,HG,HX,HMa,HF,HL,HB1,HI,hM1,hF1,hsc1,hsc2,hBl,hWl,hxb,⟨aa,ca,rfl,hca⟩,ht40⟩:=H.pre;have HOP:=hid hop;clear hop;unfold xdw;unfold sw9 at hK9;have hneed:=HX.out.need
 have hnx:0<f.stack.length:=by
  have hop:x.op=9:=HOP.out;have hn:xaN x k=⟨1,-1,[(k:Int)+1]⟩:=by unfold xaN;rw[if_pos (by omega)]
  rw[hn] at hneed;simp only[] at hneed;omega
 go_wp2_with fail;refine (xem hF1 hnx).mono ?_;rintro e w2 ⟨rfl,⟨st',hF2⟩,hK2⟩;have HF2:=hid hF2;have HK2:=hid hK2;clear hF1 hF2 hK2 hM1;go_wp2
 exact Or.inl ⟨rfl,xnX hX HR.out HG.out HX.out (Or.inl HOP.out) HMa.out HL.out HB1.out HF2.out HK2.out⟩
theorem br10:Br 10:=by
 intro p d T T1 w wr W mb K R av kv gk G' m f c n1 n2 n3 k x hv sv ov sa sc H hop
 intros
 rename_i hN K9 hK9;obtain⟨hX,HEn,HR,HG,HX,HMa,HF,HL,HB1,HI,hM1,hF1,hsc1,hsc2,hBl,hWl,hxb,⟨aa,ca,rfl,hca⟩,ht40⟩:=H.pre;have HOP:=hid hop;clear hop;unfold xdw;unfold sw9 at hK9;have hneed:=HX.out.need
 have hnx:0<f.stack.length:=by
  have hop:x.op=10:=HOP.out;have hn:xaN x k=⟨1,1,[(k:Int)+1]⟩:=by unfold xaN;rw[if_neg (by omega),if_pos hop]
  rw[hn] at hneed;simp only[] at hneed;omega
 have hfw:=HX.out.few;have hp5:=hF1.pos;go_wp2_with fail;refine (xem hF1 hnx).mono ?_;rintro e w2 ⟨rfl,⟨st',hF2⟩,hK2⟩;dsimp only;obtain⟨sb,sd,rfl,hsd1,hsd2⟩:=hF2.stack.form;unfold maxLen at hsd2;have HF2:=hid hF2;have HK2:=hid hK2;have hbx:=xaj w2 (.cells #[.int .i64 f.top.k,.int .i64 f.top.n] 27);have hst2:=(hF2.later hbx).st;have b0:(w2.alloc (.cells #[.int .i64 f.top.k,.int .i64 f.top.n] 27)).cell? ⟨w2.heap.size,0,none⟩=some (.int .i64 f.top.k):=xaa _ _ _ _ rfl 0;have b1:(w2.alloc (.cells #[.int .i64 f.top.k,.int .i64 f.top.n] 27)).cell? ⟨w2.heap.size,1,none⟩=some (.int .i64 f.top.n):=xaa _ _ _ _ rfl 1
 have HF3:=hid (hF2.later hbx);have HBX:=hid hbx;clear hF1 hF2 hK2 hM1 hbx
 go_upto_region 29 with (fail)
 generalize (w2.alloc (.cells #[.int .i64 f.top.k,.int .i64 f.top.n] 27))=V at *;have hpl:f.pop.stack.length+1=f.stack.length:=by unfold Fr.pop;simp;omega
 go_wp2_with (at_builtin;refine xev rfl (.tmp 117) (.tmp 120) 28 27 _ 2 16 rfl Tryz.underlying28 xbW rfl (by omega) 0 f.pop.stack.length (.slice sb f.pop.stack.length sd) (xal f.pop.stack) rfl (HF3.out.stack.alloc _) V.heap.size rfl [.int .i64 f.top.k,.int .i64 f.top.n,.int .i64 f.top.k,.int .i64 f.top.n] rfl (qzJ _ _) (by intro u hu;simp only[List.mem_cons,List.not_mem_nil,or_false] at hu;rcases hu with h | h | h | h<;>(subst h;rfl)) (by unfold maxLen;omega) (by omega) (by omega) ?_;intro a' cap' w' r1 r2 r3 r4;have hbU:=xah HBX.out (xaj V (.cells #[.int .i64 f.top.k,.int .i64 f.top.n,.int .i64 f.top.k,.int .i64 f.top.n] 27));obtain⟨d0,df⟩:=xbR HF2.out hbU r4;have R1:=hid r1;have R2:=hid r2;have R3:=hid r3;have R4:=hid r4;have HBU:=hid hbU;clear r1 r2 r3 r4 hbU)
 exact Or.inl ⟨rfl,xnw hX HR.out HG.out HX.out HOP.out HMa.out HL.out hnx HB1.out HF2.out HK2.out HBU.out R1.out R2.out R3.out R4.out⟩
theorem br11:Br 11:=by
 intro p d T T1 w wr W mb K R av kv gk G' m f c n1 n2 n3 k x hv sv ov sa sc H hop
 intros
 rename_i hN K9 hK9;obtain⟨hX,HEn,HR,HG,HX,HMa,HF,HL,HB1,HI,hM1,hF1,hsc1,hsc2,hBl,hWl,hxb,⟨aa,ca,rfl,hca⟩,ht40⟩:=H.pre;have HOP:=hid hop;clear hop;unfold xdw;unfold sw9 at hK9;obtain⟨ha0,ha1⟩:=HX.out.temp (Or.inr HOP.out);obtain⟨j,hj⟩:∃ j:Nat,x.a=(j:Int):=⟨x.a.toNat,by omega⟩
 have hl1:=HL.out.2.2.1;have hjl:j<f.temps.length:=by omega
 have hnx:0<f.stack.length:=xi1 HX.out (by have hop:x.op=11:=HOP.out;unfold xaN;rw[if_pos (by omega)])
 have x1:=hxb.x1;have hbD:Below W.heap.size W W.drew:=(qzL _ W).drew;have hFt:=HF.out.t4W (U:=W.drew) (xah HB1.out hbD);have hp5:=hFt.pos;have hj1:(j:Int)<(n2:Int):=by omega
 have hj0:(0:Int)<=(j:Int):=by omega
 have HJ:=hid hj;rw[hj] at x1;clear hM1 hF1 hj ha0 ha1
 go_upto_region 31 with (fail)
 go_region_law (refine xbv rfl 68 (.tmp 127) #[] _ rfl #[.pointer (some ⟨w.heap.size+4,0,none⟩)] (by simp[Act.eval,Act.put]) #[] (by simp) (cf47 _ _) ?_;refine (show Calls Tryz.prog 68 #[.pointer (some ⟨w.heap.size+4,0,none⟩)] W.drew _ from (xem hFt hnx).mono ?_);rintro e w2 ⟨rfl,⟨st',hF2⟩,hK2⟩;refine⟨_,rfl,?_⟩;have hx2:=hK2.cell (show W.drew.cell? ⟨wr.heap.size,1,none⟩=some (.int .i64 (j:Int)) from x1) (by rw[xav (qzC _)];omega);obtain⟨y0,y1⟩:=xeL hF2.tm (show f.pop.temps[j]?=some f.temps[j] by show f.temps[j]?=_;simp[hjl]);have yf:=xam hF2.tm;have HF2:=hid hF2;have HK2:=hid hK2;clear hF2 hK2)
 all_goals (
  go_wp2
  exact Or.inl ⟨rfl,xnj hX HR.out HG.out HX.out HOP.out HJ.out HMa.out HL.out (xah HB1.out hbD) HF2.out HK2.out⟩)
theorem br12:Br 12:=by
 intro p d T T1 w wr W mb K R av kv gk G' m f c n1 n2 n3 k x hv sv ov sa sc H hop
 intros
 rename_i hN K9 hK9;obtain⟨hX,HEn,HR,HG,HX,HMa,HF,HL,HB1,HI,hM1,hF1,hsc1,hsc2,hBl,hWl,hxb,⟨aa,ca,rfl,hca⟩,ht40⟩:=H.pre;have HOP:=hid hop;clear hop;unfold xdw;unfold sw9 at hK9;obtain⟨hI,hW,hFo,hPl⟩:=HI.out;have ha0:=xnv hPl HX.out (Or.inr HOP.out);obtain⟨j,hj⟩:∃ j:Nat,x.a=(j:Int):=⟨x.a.toNat,by omega⟩
 have hnx:0<f.stack.length:=xi1 HX.out (by have hop:x.op=12:=HOP.out;unfold xaN;rw[if_pos (by omega)])
 have x1:=hxb.x1;have v0:=hF1.v0;have v1:=hF1.v1;have hbD:Below W.heap.size W W.drew:=(qzL _ W).drew;have hFt:=HF.out.t4W (U:=W.drew) (xah HB1.out hbD);have hMt:=HMa.out.t4W (U:=W.drew) (xah HB1.out hbD);have hp5:=hFt.pos;have hws:=hFo.self;have hhl:m.heap.length<=1000:=by have:=hI.heap.len;omega
 have HJ:=hid hj;rw[hj] at x1;clear hM1 hF1 hj ha0 hI hW hFo hPl
 go_upto_region 33 with (fail)
 go_region_law (first
  | (refine xbv rfl 68 (.tmp 136) #[] _ rfl #[.pointer (some ⟨w.heap.size+4,0,none⟩)] (by simp[Act.eval,Act.put]) #[] (by simp) (cf47 _ _) ?_;refine (show Calls Tryz.prog 68 #[.pointer (some ⟨w.heap.size+4,0,none⟩)] W.drew _ from (xem hFt hnx).mono ?_);rintro e w2 ⟨rfl,⟨st',hF2⟩,hK2⟩;refine⟨_,rfl,?_⟩;have hx2:=hK2.cell (show W.drew.cell? ⟨wr.heap.size,1,none⟩=some (.int .i64 (j:Int)) from x1) (by rw[xav (qzC _)];omega);have z0:w2.cell? ⟨w.heap.size+1,0,none⟩=some (.int .i64 f.self.k):=hF2.v0;have z1:w2.cell? ⟨w.heap.size+1,1,none⟩=some (.int .i64 f.self.n):=hF2.v1;have hM2:=hMt.keep (.refl _ _) hK2 (by omega) (by omega) (by omega) (by omega);have HF2:=hid hF2;have HK2:=hid hK2;clear hF2 hK2)
  | (refine xbv rfl 70 (.func 70) #[.tmp 132,.tmp 133,.tmp 135,.tmp 137] _ rfl #[] rfl #[.pointer (some ⟨mb,0,none⟩),VV f.self,.int .i64 (j:Int),VV f.top] (by simp[Act.eval,Act.put]) (cf49 _ _) ?_;refine (show Calls Tryz.prog 70 #[.pointer (some ⟨mb,0,none⟩),VV f.self,.int .i64 (j:Int),VV f.top] w2 _ from (xlH hM2 f.self j f.top hws hhl).mono ?_);rintro e w3 ⟨rfl,⟨T3,hv3,hE3,hM3⟩,hK3⟩;refine⟨_,rfl,?_⟩;have HE3:=hid hE3;have HM3:=hid hM3;have HK3:=hid hK3;clear hE3 hM3 hK3))
 all_goals (
  go_wp2
  exact Or.inl ⟨rfl,xnA hX HR.out HG.out HX.out HOP.out HJ.out HL.out (xah HB1.out hbD) HF2.out HK2.out HE3.out HM3.out HK3.out⟩)
section
variable {P:Program} {md:Region.Mode} {ops:Array Oper} {Q:Exit->Act->World->Prop} {S:World->Prop}
def xbV (P:Program)(md:Region.Mode)(ops:Array Oper)(Q:Exit->Act->World->Prop)(S:World->Prop)(late:List Nat):Nat->Array Bool->Act->World->Prop
 | 0,listed,a,w=>Region.ready md ops listed=[]/\Q .normal a w
 | fuel+1,listed,a,w=>
  (Region.ready md ops listed=[]->Q .normal a w)/\
  ∀ i∈Region.ready md ops listed,wpOp P ops Q i (fun a' w'=>(late.contains i=false->S w')/\xbV P md ops Q S late fuel (listed.setIfInBounds i true) a' w') a w
theorem xdX {late:List Nat}:∀ (fuel:Nat) (listed:Array Bool) (a:Act) (w:World),xbV P md ops Q S late fuel listed a w->wpAny P md ops Q fuel listed a w
 | 0,_,_,_,h=>h
 | fuel+1,_,_,_,h=>⟨h.1,fun i hi=>wpOp_mono (fun a' w' h'=>xdX fuel _ a' w' h'.2) (h.2 i hi)⟩
def xon (md:Region.Mode)(ops:Array Oper)(i:Nat):Nat->Nat->Bool
 | 0,_=>false
 | n+1,k=>match ops[k]? with
  | none=>false
  | some o=>o.after.any fun e=>Region.binds md e && (e.on == i || xon md ops i n e.on)
def xoj (md:Region.Mode)(ops:Array Oper)(listed:Array Bool):Prop:=∀ k o,ops[k]?=some o->listed.getD k true=true->∀ e∈o.after,Region.binds md e=true->listed.getD e.on true=true
def xnD (md:Region.Mode)(ops:Array Oper)(listed:Array Bool):Bool:=
 (List.range ops.size).all fun k=>match ops[k]? with
  | none=>true
  | some o=>!(listed.getD k true) || o.after.all fun e=>!(Region.binds md e) || listed.getD e.on true
theorem xjG {listed:Array Bool}(h:xnD md ops listed=true):xoj md ops listed:=by
 intro k o hk hl e he hb;unfold xnD at h;rw[List.all_eq_true] at h;have:=h k (List.mem_range.2 (Array.getElem?_eq_some_iff.1 hk).1);rw[hk] at this;simp only[hl,Bool.not_true,Bool.false_or,Array.all_eq_true'] at this;have h1:=this e he
 simpa [hb] using h1
theorem xea {l:Array Bool}{i k:Nat}(h:l.getD k true=true):(l.setIfInBounds i true).getD k true=true:=by
 by_cases hik:i=k
 ·subst hik
  rcases Nat.lt_or_ge i l.size with h' | h'
  ·simp[h']
  ·simp[h']
 ·rw[getD_set_ne true hik];exact h
theorem xjM {listed:Array Bool}{i:Nat}(hd:xoj md ops listed)(hi:i∈Region.ready md ops listed):xoj md ops (listed.setIfInBounds i true):=by
 intro k o hk hl e he hb;obtain⟨hiun,oi,hoi,hall⟩:=mem_ready.1 hi
 by_cases hki:i=k
 ·subst hki;rw[hoi] at hk
  cases hk
  have h1:=hall e he hb;refine xea ?_
  rcases Nat.lt_or_ge e.on listed.size with h' | h'
  ·simp[h'] at h1 ⊢;exact h1
  ·simp[Array.getElem?_eq_none h']
 ·rw[getD_set_ne true hki] at hl
  exact xea (hd k o hk hl e he hb)
theorem xfF {listed:Array Bool}{i:Nat}(hd:xoj md ops listed):∀ (n k:Nat),xon md ops i n k=true->listed.getD k true=true->listed.getD i true=true
 | 0,k,h,_=>by cases h
 | n+1,k,h,hl=>by
  unfold xon at h
  split at h
  ·cases h
  ·rename_i o ho;rw[Array.any_eq_true'] at h;obtain⟨e,he,h⟩:=h;simp only[Bool.and_eq_true,Bool.or_eq_true,beq_iff_eq] at h;obtain⟨hb,h⟩:=h;have hl':=hd k o ho hl e he hb
   rcases h with h | h
   ·rw[← h];exact hl'
   ·exact xfF hd n e.on h hl'
theorem xj7 {listed:Array Bool}{i l:Nat}(hd:xoj md ops listed){n:Nat}(h:xon md ops i n l=true)(hl:l∈Region.ready md ops listed):listed.getD i true=true:=by
 cases n with
 | zero=>cases h
 | succ n=>
  obtain⟨hlun,o,ho,hall⟩:=mem_ready.1 hl;unfold xon at h;rw[ho] at h;simp only[] at h;rw[Array.any_eq_true'] at h;obtain⟨e,he,h⟩:=h;simp only[Bool.and_eq_true,Bool.or_eq_true,beq_iff_eq] at h;obtain⟨hb,h⟩:=h;have h1:=hall e he hb
  have hl':listed.getD e.on true=true:=by
   rcases Nat.lt_or_ge e.on listed.size with h' | h'
   ·simp[h'] at h1 ⊢;exact h1
   ·simp[Array.getElem?_eq_none h']
  rcases h with h | h
  ·rw[← h];exact hl'
  ·exact xfF hd n e.on h hl'
def xmu (md:Region.Mode)(ops:Array Oper)(late:List Nat)(i:Nat):Bool:=late.all fun l=>xon md ops i ops.size l
theorem xh8 {late:List Nat}{listed:Array Bool}{i j:Nat}(h:xmu md ops late i=true)(hd:xoj md ops listed)(hi:i∈Region.ready md ops listed)(hj:j∈Region.ready md ops listed):late.contains j=false:=by
 by_cases hc:late.contains j=true
 ·exfalso;unfold xmu at h;rw[List.all_eq_true] at h;have h1:=xj7 hd (h j (by simpa using hc)) hj
  have h0:=(mem_ready.1 hi).1
  rcases Nat.lt_or_ge i listed.size with h' | h'
  ·simp[h'] at h0 h1;rw[h0] at h1;cases h1
  ·simp[Array.getElem?_eq_none h'] at h0
 ·simpa using hc
theorem xhg {late:List Nat}{i:Nat}{oi:Oper}{v:Value}(hlate:xmu md ops late i=true)(hi:ops[i]?=some oi)(hsel:∀ (j:Nat) (o:Oper) cs b,ops[j]?=some o->o.op≠.select cs b)
  (hQ:∀ c a w,Q (.panic c) (a.put oi.dst v) w->Q (.panic c) a w) :
  ∀ (fuel:Nat) (listed:Array Bool) (a:Act) (w:World),xoj md ops listed->
   (∀ j oj,ops[j]?=some oj->j≠i->listed.getD j true=false->(∀ e∈oj.after,Region.binds md e=true->e.on≠i)->oi.apart ops oj=true)->
   i∈Region.ready md ops listed->YieldsIf P ops S oi v a->S w->
   xbV P md ops Q S late fuel (listed.setIfInBounds i true) (a.put oi.dst v) w->xbV P md ops Q S late (fuel+1) listed a w:=by
 intro fuel
 induction fuel with
 | zero=>
  intro listed a w _ _ hr hy hS H;refine⟨fun h=>(by rw[h] at hr;cases hr),fun j hj=>?_⟩
  by_cases hji:j=i
  ·subst hji;exact hy.wpOp hi hS ⟨fun _=>hS,H⟩
  ·have:=ready_mono hj hji;rw[H.1] at this
   cases this
 | succ fuel ih=>
  intro listed a w hd hfree hr hy hS H;refine⟨fun h=>(by rw[h] at hr;cases hr),fun j hj=>?_⟩
  by_cases hji:j=i
  ·subst hji;exact hy.wpOp hi hS ⟨fun _=>hS,H⟩
  ·have hjL:late.contains j=false:=xh8 hlate hd hr hj;have h1:=H.2 j (ready_mono hj hji);obtain⟨hjun,oj,hoj,hall⟩:=mem_ready.1 hj
   have hnot:∀ e∈oj.after,Region.binds md e=true->e.on≠i:=fun e he hb heq=>by
    have h1:=hall e he hb;have h0:=(mem_ready.1 hr).1;rw[heq] at h1
    rcases Nat.lt_or_ge i listed.size with h' | h'
    ·simp[h'] at h0 h1;rw[h0] at h1;cases h1
    ·simp[Array.getElem?_eq_none h'] at h1
   have h2:=wpOp_putIf hoj (hfree j oj hoj hji hjun hnot) (fun cs b=>hsel i oi cs b hi) (fun cs b=>hsel j oj cs b hoj) hQ hy h1
   have hfree':∀ k ok,ops[k]?=some ok->k≠i->(listed.setIfInBounds j true).getD k true=false->
     (∀ e∈ok.after,Region.binds md e=true->e.on≠i)->oi.apart ops ok=true:=fun k ok hk hki hun hno=>by
    refine hfree k ok hk hki ?_ hno
    by_cases hjk:j=k
    ·subst hjk;exact hjun
    ·rw[getD_set_ne true hjk] at hun;exact hun
   refine wpOp_mono (fun a' w' h3=>⟨fun _=>h3.2.1 hjL,ih (listed.setIfInBounds j true) a' w' (xjM hd hj) hfree' (ready_mono hr (Ne.symm hji)) h3.1 (h3.2.1 hjL) ?_⟩) h2
   rw[Array.setIfInBounds_comm _ _ hji]
   exact h3.2.2
theorem xm6 {late:List Nat}{i:Nat}{oi:Oper}{v:Value}{fuel:Nat}{listed:Array Bool}{a:Act}{w:World}(hlate:xmu md ops late i=true)(hd:xnD md ops listed=true)(hi:ops[i]?=some oi)
  (hs:Region.noSelect ops=true) (hf:Region.free md ops listed i=true) (hr:(Region.ready md ops listed).contains i=true)
  (hQ:∀ c a w,Q (.panic c) (a.put oi.dst v) w->Q (.panic c) a w) (hy:YieldsIf P ops S oi v a) (hS:S w)
  (h:xbV P md ops Q S late fuel (listed.setIfInBounds i true) (a.put oi.dst v) w):xbV P md ops Q S late (fuel+1) listed a w:=
 xhg hlate hi (Region.noSelect_spec hs) hQ fuel listed a w (xjG hd) (Region.free_spec hi hf) (by simpa using hr) hy hS h
theorem xa0 {late:List Nat}{listed:Array Bool}{a:Act}{w:World}(hr:Region.ready md ops listed=[])(h:Q .normal a w):∀ fuel,xbV P md ops Q S late fuel listed a w
 | 0=>⟨hr,h⟩
 | _+1=>⟨fun _=>h,by rw[hr];simp⟩
theorem xag {late:List Nat}{rs:List Nat}{fuel:Nat}{listed:Array Bool}{a:Act}{w:World}(hr:Region.ready md ops listed=rs)(hne:rs≠[])
  (h:∀ i∈rs,wpOp P ops Q i (fun a' w'=>(late.contains i=false->S w')/\xbV P md ops Q S late fuel (listed.setIfInBounds i true) a' w') a w):xbV P md ops Q S late (fuel+1) listed a w:=
 ⟨fun h0=>absurd (hr ▸ h0) hne,hr ▸ h⟩
theorem xa6 {late:List Nat}{i:Nat}{fuel:Nat}{listed:Array Bool}{a:Act}{w:World}{o:Oper}(ho:ops[i]?=some o)
  (h:∀ K':Act->World->Prop,(∀ a w,(late.contains i=false->S w)->xbV P md ops Q S late fuel (listed.setIfInBounds i true) a w->K' a w)->if Region.wanted o (yielded ops a.tmps)=true then Oper.wp P o a w K' Q else K' (a.put o.dst undef) w) :
  wpOp P ops Q i (fun a' w'=>(late.contains i=false->S w')/\xbV P md ops Q S late fuel (listed.setIfInBounds i true) a' w') a w:=
 wpOp_step ho (fun K' hK=>h K' (fun a w hS hW=>hK a w ⟨hS,hW⟩))
theorem xfl {S':World->Prop}{late late':List Nat}:∀ (fuel:Nat) (listed:Array Bool) (a:Act) (w:World),(∀ i,i∈Region.ready md ops listed->late.contains i=true)->(∀ i,late.contains i=false->listed.getD i true=true)->
  xbV P md ops Q S' late' fuel listed a w->xbV P md ops Q S late fuel listed a w
 | 0,_,_,_,_,_,h=>h
 | fuel+1,listed,a,w,h0,h1,h=>⟨h.1,fun i hi=>wpOp_mono (fun a' w' h'=>⟨fun hl=>(by rw[h0 i hi] at hl;cases hl),xfl fuel _ a' w' (fun j hj=>by
   by_cases hc:late.contains j=true
   ·exact hc
   ·exfalso;have:=h1 j (by simpa using hc)
    have h2:=(mem_ready.1 hj).1;have h3:=xea (i:=i) this
    rcases Nat.lt_or_ge j (listed.setIfInBounds i true).size with h' | h'
    ·simp only[Array.getD_eq_getD_getElem?,Array.getElem?_eq_getElem h',Option.getD_some] at h2 h3;rw[h2] at h3;cases h3
    ·rw[Array.getD_eq_getD_getElem?,Array.getElem?_eq_none h'] at h2;cases h2) (fun j hj=>xea (h1 j hj)) h'.2⟩) (h.2 i hi)⟩
def xoA (ops:Array Oper)(late:List Nat)(listed:Array Bool):Bool:=listed.size == ops.size && (List.range ops.size).all fun i=>late.contains i || listed.getD i true
theorem xcz {S':World->Prop}{late late':List Nat}{fuel:Nat}{listed:Array Bool}{a:Act}{w:World}(ho:xoA ops late listed=true)(h:xbV P md ops Q S' late' fuel listed a w):xbV P md ops Q S late fuel listed a w:=by
 unfold xoA at ho;simp only[Bool.and_eq_true,beq_iff_eq,List.all_eq_true,List.mem_range,Bool.or_eq_true] at ho
 have h1:∀ i,late.contains i=false->listed.getD i true=true:=fun i hi=>by
  rcases Nat.lt_or_ge i ops.size with h' | h'
  ·rcases ho.2 i h' with h'' | h''
   ·rw[hi] at h'';cases h''
   ·exact h''
  ·rw[Array.getD_eq_getD_getElem?,Array.getElem?_eq_none (by omega)];rfl
 refine xfl fuel listed a w (fun i hi=>?_) h1 h
 by_cases hc:late.contains i=true
 ·exact hc
 ·exfalso;have h2:=(mem_ready.1 hi).1;have h3:=h1 i (by simpa using hc)
  rcases Nat.lt_or_ge i listed.size with h' | h'
  ·simp only[Array.getD_eq_getD_getElem?,Array.getElem?_eq_getElem h',Option.getD_some] at h2 h3;rw[h2] at h3;cases h3
  ·rw[Array.getD_eq_getD_getElem?,Array.getElem?_eq_none h'] at h2;cases h2
theorem xaY {id:Nat}{a:Act}{w:World}(late:List Nat)(hm:P.follows .mixedOrders=true)
  (h:xbV P .any ops Q S late ops.size (Array.replicate ops.size false) a w.drew):(Code.region id ops true).wp P Q a w:=
 wp_region_any hm (xdX _ _ _ _ h)
end
section
variable {P:Program} {md:Region.Mode} {ops:Array Oper} {Q:Exit->Act->World->Prop} {S:World->Prop}
def okT (md:Region.Mode)(ops:Array Oper)(late:List Nat)(listed:Array Bool)(i:Nat):Bool:=xmu md ops late i && (xnD md ops listed && (Region.noSelect ops && (Region.free md ops listed i && (Region.ready md ops listed).contains i)))
theorem tk {late:List Nat}(i:Nat)(oi:Oper)(v:Value){fuel:Nat}{listed:Array Bool}{a:Act}{w:World}(hi:ops[i]?=some oi)(hS:S w)(hQ:∀ c a w,Q (.panic c) (a.put oi.dst v) w->Q (.panic c) a w)(hw:Region.wanted oi (yielded ops a.tmps)=true)
  (ho:okT md ops late listed i=true) (hy:∀ w,S w->(execOp a.eval oi).run P w=.ok (.value v) w) (h:xbV P md ops Q S late fuel (listed.setIfInBounds i true) (a.put oi.dst v) w):xbV P md ops Q S late (fuel+1) listed a w:=by
 unfold okT at ho;simp only[Bool.and_eq_true] at ho
 exact xm6 ho.1 ho.2.1 hi ho.2.2.1 ho.2.2.2.1 ho.2.2.2.2 hQ (Or.inl ⟨hw,hy⟩) hS h
theorem tj {late:List Nat}(i:Nat)(oi:Oper)(v:Value){fuel:Nat}{listed:Array Bool}{a:Act}{w:World}(hS:S w)(hy:∀ w,S w->(execOp a.eval oi).run P w=.ok (.value v) w)(h:xbV P md ops Q S late fuel (listed.setIfInBounds i true) (a.put oi.dst v) w)(hi:ops[i]?=some oi:=by rfl)(hQ:∀ c a w,Q (.panic c) (a.put oi.dst v) w->Q (.panic c) a w:=by exact fun _ _ _ h=>h)(hw:Region.wanted oi (yielded ops a.tmps)=true:=by rfl)(ho:okT md ops late listed i=true:=by kernel_rfl):xbV P md ops Q S late (fuel+1) listed a w:=tk i oi v hi hS hQ hw ho hy h
def AllR (p:Nat->Prop):List Nat->Prop
 | []=>True
 | i :: l=>p i/\AllR p l
theorem AllR.all {p:Nat->Prop}:∀ {l:List Nat},AllR p l->∀ i∈l,p i
 | [],_,i,h=>by simp at h
 | k :: l,h,i,hi=>by
  rcases List.mem_cons.1 hi with rfl | hi
  ·exact h.1
  ·exact AllR.all h.2 i hi
theorem rdy {late:List Nat}(rs:List Nat){fuel:Nat}{listed:Array Bool}{a:Act}{w:World}(hne:rs.isEmpty=false)(hr:Region.ready md ops listed=rs)
  (h:AllR (fun i=>wpOp P ops Q i (fun a' w'=>(late.contains i=false->S w')/\xbV P md ops Q S late fuel (listed.setIfInBounds i true) a' w') a w) rs):xbV P md ops Q S late (fuel+1) listed a w:=
 xag hr (by intro e;rw[e] at hne;cases hne) h.all
end
set_option maxRecDepth 8000
theorem xb3 {w:World}(T ty e:TypeId)(z:Value)(sz bytes:Nat)(hT:Tryz.prog.underlying T=some (.slice e))(hI:(Tryz.prog.info? e).map (fun i=>(i.zero,i.size,i.bytes))=some (some z,sz,bytes))(hzs:z.cells.size=sz)(hsz:0<sz)(hbz:0<bytes)
  (B:Nat) (hB:w.heap[B]?=some (.cells #[] e (0,0))) (ad:Option Addr) (n cap:Nat) (cs:List Value) (hlen:cs.length=n*sz) (hsrc:∀ j u,cs[j]?=some u->∃ b,ad=some b/\w.cell? (b.add j)=some u) (hn:n*bytes<=140737488351232) :
  ∃ g cap' w',(Builtin.append_ #[T,T] ty #[.slice (some ⟨B,0,none⟩) 0 0,.slice ad n cap]).run Tryz.prog w=.ok (.slice (some ⟨g,0,none⟩) n cap') w'/\w'.ownsRow B e sz (.slice (some ⟨g,0,none⟩) n cap') n cs/\(g=B\/w.heap.size<=g)/\g<w'.heap.size/\Below w.heap.size w w':=by
 obtain⟨i0,hi,hz0,hz1,hz2⟩:=xa3 hI;have hBl:=xaf hB
 by_cases h0:n=0
 ·subst h0;have hcs:cs=[]:=List.eq_nil_of_length_eq_zero (by simpa using hlen)
  refine⟨B,0,w,xbT (P:=Tryz.prog) w T ty e i0 hT hi B ad cap,?_,Or.inl rfl,hBl,qzL _ _⟩;rw[hcs]
  exact⟨by simp,.inr ⟨B,0,#[],rfl,qzC _,hB,qzC _,by unfold maxLen;omega,by simp,by simp⟩⟩
 ·obtain⟨b,rfl⟩:∃ b,ad=some b:=by
   have:0<cs.length:=by rw[hlen];exact Nat.mul_pos (by omega) hsz
   obtain⟨b,e,-⟩:=hsrc 0 cs[0] (by simp[this])
   exact⟨b,e⟩
  have hnb:n<=140737488351232:=qzD (Nat.le_mul_of_pos_right n hbz) hn;obtain⟨v',w',hrun,r1,r2⟩:=run_append_arg_grows (P:=Tryz.prog) w T ty e i0 _ sz bytes hT hi hz0 hz1 hz2 hzs hsz ⟨B,0,none⟩ 0 0 [] (by simp) (fun j u hu=>by simp at hu) b n cap cs hlen (fun j u hu=>by obtain⟨b',e,h⟩:=hsrc j u hu;cases e;exact h) (by omega) (by unfold maxLen;omega) (by rw[Nat.zero_add];omega)
  simp only[Nat.zero_add,List.nil_append] at r1;obtain⟨g,cap',rfl,hg,hgl⟩:=r1.form (by omega)
  refine⟨g,cap',w',hrun,?_,Or.inr hg,hgl,(qzL _ _).grown r2 (qzC _) (fun k hk=>by cases hk)⟩
  obtain⟨q1,q2⟩:=r1;refine⟨q1,?_⟩
  rcases q2 with q2 | ⟨g',c',cur,e,h1,h2⟩
  ·exact .inl q2
  ·exact .inr ⟨g',c',cur,e,by omega,h2⟩
theorem xkB {α:Type}{E:Lay α}{sz bytes:Nat}(G:Good E sz){t:TypeId}{Q:Nat->Prop}{B n:Nat}{v:Value}{w:World}{cs:List Value}{xs:List α}(hown:ownsAt w B t sz v n cs)(hc:Cells E sz Q w cs xs)(hn:xs.length=n)(hQ:∀ b,B<=b->b<w.heap.size->Q b)(hby:n*bytes<=140737488351232):IsRow E sz bytes Q w v xs:=by
 obtain⟨h0,⟨rfl,h1⟩ | ⟨g,o,cap,cur,rfl,h3,h4,h5,h6,h7,h8⟩⟩:=hown
 ·obtain rfl:=List.eq_nil_of_length_eq_zero (hn.trans h1)
  exact xbG
 ·subst hn;refine⟨_,_,rfl,h5,h6,hby,fun i x hx=>⟨g,o,rfl,hQ _ h3 (xaf h4),G.move (hc.2 i x hx) (fun _ h=>h) (.refl _ _) fun k hk v hv=>?_⟩⟩
  rw[← h8,List.getElem?_take] at hv
  split at hv
  ·rw[List.getElem?_drop] at hv;rw[qzB h4,Nat.add_assoc]
   simpa using hv
  ·cases hv
theorem tk0 (k:Nat):(List.replicate k xaU).length=k:=List.length_replicate
section
variable {p:Rp} {T:Nat->Nat} {U w4 w5:World} {mb:Nat} {m:Mc RSt} {deep err:Int} {hv sv ov:Value}
theorem xoa {v0 v':Value}{cs:List Value}{vb k:Nat}{c:Int}(h:RMac p T U mb m deep err hv sv ov)(hcs:Cells xlt 2 (Fx T U) U cs m.heap)(hb4:Below U.heap.size U w4)(hvb:U.heap.size<=vb)(hvw:w4.heap[vb]?=some (.cells (xal (List.replicate k xaU)).toArray 27 (0,0)))(hvg:some vb≠v0.ownBlock)
  (r1:ownsAt w5 U.heap.size 64 2 v' (m.heap.length+1) (cs++[.int .i64 c,.slice (some ⟨vb,0,none⟩) k k])) (r3:Below U.heap.size w4 w5) (r4:∀ b,b<w4.heap.size->some b≠v0.ownBlock->w5.heap[b]?=w4.heap[b]?) (hl:m.heap.length<=1000) (hk:k<=2147483647) :
  RMac p (xau T U 0) (w5.setCell ⟨mb,1,none⟩ v') mb { m with heap:=m.heap++[⟨c,List.replicate k xaU⟩] } deep err v' sv ov/\Kp (fun t=>t=1) T U (w5.setCell ⟨mb,1,none⟩ v'):=by
 have hlm:=xaf h.box;have hb5:Below U.heap.size U w5:=hb4.trans r3;have k1:Kp (fun t=>t=1) T U (w5.setCell ⟨mb,1,none⟩ v'):=(Kp.of_below hb5).set (fun _=>h.tag) _ _
 have hex:=xao T U 0;refine⟨?_,k1⟩;have hv5:w5.heap[vb]?=some (.cells (xal (List.replicate k xaU)).toArray 27 (0,0)):=by rw[r4 vb (xaf hvw) hvg];exact hvw
 have hbox:w5.heap[mb]?=some (RB p m deep err hv sv ov):=by rw[hb5.block _ hlm];exact h.box
 have hb':=xj1 hbox (m.heap++[⟨c,List.replicate k xaU⟩]) v';have hv6:(w5.setCell ⟨mb,1,none⟩ v').heap[vb]?=some (.cells (xal (List.replicate k xaU)).toArray 27 (0,0)):=by rw[xab (by omega)];exact hv5
 have hr1:ownsAt (w5.setCell ⟨mb,1,none⟩ v') U.heap.size 64 2 v' (m.heap.length+1) (cs++[.int .i64 c,.slice (some ⟨vb,0,none⟩) k k]):=r1.keep fun g hg=>xab (by have:=r1.lt g hg;omega) _
 generalize hU:w5.setCell ⟨mb,1,none⟩ v'=V at *;have hall:∀ b,U.heap.size<=b->b<V.heap.size->Fx (xau T U 0) V b:=fun b h1 h2=>⟨h2,xav h1⟩
 have hsz:U.heap.size<=V.heap.size:=k1.size;have hc0:Cells xlt 2 (Fx (xau T U 0) V) V cs m.heap:=hcs.keep xaD (Keeps.of_block fun b hb hl=>k1.blk b hl (by rw[hb.2];omega)) fun b hb=>⟨by omega,by rw[hex b hb.1];exact hb.2⟩
 have hv7:xaB (Fx (xau T U 0) V) V (.slice (some ⟨vb,0,none⟩) k k) (List.replicate k xaU):=by
  have:=xgp (P:=Fx (xau T U 0) V) hv6 (hall vb hvb (xaf hv6)) (by rw[tk0];omega)
  rw[tk0] at this
  exact this
 have hc1:Cells xlt 2 (Fx (xau T U 0) V) V [.int .i64 c,.slice (some ⟨vb,0,none⟩) k k] [⟨c,List.replicate k xaU⟩]:=Cells.one xaD rfl ⟨rfl,_,rfl,hv7⟩;have hs1:=h.sites.keep (w':=V) fun b hg=>k1.blk b (h.sites.lt b hg).2 (by rw[h.stag b hg];omega)
 have ho1:=h.of.keep (w':=V) fun b hg=>k1.blk b (h.of.lt b hg).2 (by rw[h.otag b hg];omega)
 exact⟨hb',by rw[hex _ hlm];exact h.tag,h.cls.fx xaz hex k1 (by omega),xkB xaD hr1 (hc0.append xaD hc1) (by simp) hall (by omega),hs1,fun b hg=>by rw[hex _ (h.sites.lt b hg).2];exact h.stag b hg,ho1,fun b hg=>by rw[hex _ (h.of.lt b hg).2];exact h.otag b hg⟩
end
section
variable {p:Rp} {d:Nat} {T T1 T2:Nat->Nat} {w wr w2:World} {mb K:Nat} {R:Mc RSt × QV × Int} {av kv:Value} {gk:Nat} {at' at2:Value} {m:Mc RSt} {f:Fr}
variable {c:Int} {n1 n2 n3 G' k:Nat} {x:QI} {hv sv ov st st':Value} {U w':World}
theorem xkR (hX:Rx p)(hR:BdR p d T w mb K R av kv gk at' T1 m f 0 wr)(hg:gk=G'+1)(hx:NxOk f k x)(hop:x.op=13)(h6:60<=m.heap.length){W2:World}(hE:Ext T1 T2 wr)(hK:Kp (All K) T1 wr W2)(hM:RMac p T2 W2 mb m (20-(d:Int)) 15 hv sv ov) :
  BdX p d T w mb K R av kv c n1 n2 n3 G' (.int .i64 ((k:Int)+1)) W2:=by
 have hr:xan (xa1 p.E d) p.E d m { f with pc:=f.pc+1 } f.pc x=(m,{ f with pc:=f.pc+1 },15):=by
  rw[xbK _ _ (by omega)];unfold xcy;rw[if_neg (by omega),if_neg (by omega),if_neg (by omega),if_neg (by omega),if_pos hop]
  unfold xbQ;rw[if_pos (Or.inl h6)]
 exact xcj hX hR hg hx (by omega) hr hE hK hM (fun h=>by cases h) (fun h=>by cases h) (fun h=>by cases h)
theorem xmn (hX:Rx p)(hR:BdR p d T w mb K R av kv gk at' T1 m f 0 wr)(hg:gk=G'+1)(hx:NxOk f k x)(hop:x.op=13)(h6:¬ 60<=m.heap.length){sl:Nat}(hsl:xaP p.X.cz x.a=(sl:Int))(hs2:sl<=2147483647)(hL:xiO c n1 n2 n3 f){W2:World}(hE:Ext T1 T2 wr)(hK:Kp (All K) T1 wr W2)(hM:RMac p T2 W2 mb { m with heap:=m.heap++[⟨x.a,List.replicate sl xaU⟩] } (20-(d:Int)) 0 hv sv ov)(hF:RF T2 K W2 w.heap.size { f with stack:=f.stack++[⟨4,(m.heap.length:Int)⟩] } av kv st) :
  BdX p d T w mb K R av kv c n1 n2 n3 G' (.int .i64 ((k:Int)+1)) W2:=by
 have hr:xan (xa1 p.E d) p.E d m { f with pc:=f.pc+1 } f.pc x=({ m with heap:=m.heap++[⟨x.a,List.replicate sl xaU⟩] },({ f with pc:=f.pc+1 }:Fr).push ⟨4,(m.heap.length:Int)⟩,0):=by
  rw[xbK _ _ (by omega)];unfold xcy;rw[if_neg (by omega),if_neg (by omega),if_neg (by omega),if_neg (by omega),if_pos hop]
  unfold xbQ
  have hc:¬ (60<=m.heap.length\/2147483647<xaP p.E.cz x.a):=by
   show ¬ (60<=m.heap.length\/2147483647<xaP p.X.cz x.a)
   rw[hsl];omega
  rw[if_neg hc]
  show (({ m with heap:=m.heap++[⟨x.a,List.replicate (xaP p.X.cz x.a).toNat xaU⟩] }:Mc RSt),_,_)=_
  rw[hsl];rfl
 exact xcj hX hR hg hx (by omega) hr hE hK hM (fun _=>⟨_,hF.at _⟩) (fun _=>by show f.pc+1=_;rw[hx.pc]) (fun _=>hL)
end
theorem xlY {p:Rp}(hX:Rx p)(c:Int):xbL p.X.cz/\∃ sl:Nat,xaP p.X.cz c=(sl:Int)/\sl<=1000:=by
 have ho:=xd1 hX.right;obtain⟨hs,-,-,-⟩:=xbE hX.right;have hm:=hs.many;have h:=xcv ho (p.X.cz.length+1) c 0 (Int.le_refl _);have e:xaP p.X.cz c=upE xd6 p.X.cz (p.X.cz.length+1) c 0:=rfl;rw[← e] at h
 exact⟨ho,(xaP p.X.cz c).toNat,by omega,by omega⟩
set_option maxRecDepth 100000
theorem br13:Br 13:=by
 intro p d T T1 w wr W mb K R av kv gk G' m f c n1 n2 n3 k x hv sv ov sa sc H hop
 intros
 rename_i hN K9 hK9;obtain⟨hX,HEn,HR,HG,HX,HMa,HF,HL,HB1,HI,hM1,hF1,hsc1,hsc2,hBl,hWl,hxb,⟨aa,ca,rfl,hca⟩,ht40⟩:=H.pre;have HOP:=hid hop;clear hop;unfold xdw;unfold sw9 at hK9;obtain⟨hI,hW,hFo,hPl⟩:=HI.out;have x1:=hxb.x1;have hfw:=HX.out.few;have hp5:=hF1.pos;obtain⟨ah,ch,rfl,-⟩:=id hM1.heap;have c1:=hM1.c1;have c7:=hM1.c7;have cf7:=xam hM1.box
 by_cases h6:60<=m.heap.length
 ·have h6':(60:Int)<=(m.heap.length:Int):=by omega
  have H6:=hid h6;have HN7:=hid (hM1.num7 15);have HT7:=hid hM1.tag;have HMl:=hid (xaf HMa.out.box);clear hF1 hM1 h6 hI hW hFo hPl;go_wp2
  exact Or.inl ⟨rfl,xkR hX HR.out HG.out HX.out HOP.out H6.out (.refl _ _) ((Kp.of_below HB1.out).set (fun _=>Or.inl HT7.out) _ _) HN7.out⟩
 ·have h6':¬ ((60:Int)<=(m.heap.length:Int)):=by omega
  have H6:=hid h6;have hSl:∀ w',Below W.heap.size W w'->w'.cell? ⟨w.heap.size+4,0,none⟩=some (.slice sa f.stack.length sc)/\w'.cell? ⟨mb,1,none⟩=some (.slice ah m.heap.length ch):=fun w' hb=>⟨qzA hb hF1.st,qzA hb hM1.c1⟩
  have hS0:=hSl _ (qzL _ W).drew
  go_upto_region 37 with (fail)
  refine xaY (S:=fun w'=>w'.cell? ⟨w.heap.size+4,0,none⟩=some (.slice sa f.stack.length sc)/\w'.cell? ⟨mb,1,none⟩=some (.slice ah m.heap.length ch)) [10] (by kernel_rfl) ?_
  refine tk 0 _ (.slice sa f.stack.length sc) rfl (hS0) (fun _ _ _ h=>h) rfl (by kernel_rfl) ?_ ?_
  ·rintro w⟨q0,q1⟩;go_simp
  try simp only[Act.put,qzF,qzG,qzH]
  refine tk 1 _ (.pointer (some ⟨mb,0,none⟩)) rfl (hS0) (fun _ _ _ h=>h) rfl (by kernel_rfl) ?_ ?_
  ·rintro w⟨q0,q1⟩;go_simp
  try simp only[Act.put,qzF,qzG,qzH]
  refine tk 2 _ (.pointer (some ⟨mb,0,none⟩)) rfl (hS0) (fun _ _ _ h=>h) rfl (by kernel_rfl) ?_ ?_
  ·rintro w⟨q0,q1⟩;go_simp
  try simp only[Act.put,qzF,qzG,qzH]
  refine tk 3 _ (.pointer (some ⟨mb,0,none⟩)) rfl (hS0) (fun _ _ _ h=>h) rfl (by kernel_rfl) ?_ ?_
  ·rintro w⟨q0,q1⟩;go_simp
  try simp only[Act.put,qzF,qzG,qzH]
  refine tk 4 _ (.pointer (some ⟨mb,1,none⟩)) rfl (hS0) (fun _ _ _ h=>h) rfl (by kernel_rfl) ?_ ?_
  ·rintro w⟨q0,q1⟩;go_simp
  try simp only[Act.put,qzF,qzG,qzH]
  refine tk 5 _ (.slice ah m.heap.length ch) rfl (hS0) (fun _ _ _ h=>h) rfl (by kernel_rfl) ?_ ?_
  ·rintro w⟨q0,q1⟩;go_simp
  try simp only[Act.put,qzF,qzG,qzH]
  refine tk 6 _ (.int .i64 (m.heap.length:Int)) rfl (hS0) (fun _ _ _ h=>h) rfl (by kernel_rfl) ?_ ?_
  ·rintro w⟨q0,q1⟩;go_simp
  try simp only[Act.put,qzF,qzG,qzH]
  refine tk 7 _ (VV ⟨4,(m.heap.length:Int)⟩) rfl (hS0) (fun _ _ _ h=>h) rfl (by kernel_rfl) ?_ ?_
  ·rintro w⟨q0,q1⟩;go_simp
  try simp only[Act.put,qzF,qzG,qzH]
  refine xag (rs:=[8]) (by kernel_rfl) (by simp) ?_
  intro i hi;simp only[List.mem_cons,List.not_mem_nil,or_false] at hi;subst hi;refine xa6 (o:=_) rfl (fun K' hK=>?_)
  go_simp;refine hK _ _ (fun _=>hSl _ (xah (qzL _ W).drew (xaj _ _))) ?_
  clear hK K'
  try simp only[Act.put,qzF,qzG,qzH]
  refine xag (rs:=[9]) (by kernel_rfl) (by simp) ?_
  intro i hi;simp only[List.mem_cons,List.not_mem_nil,or_false] at hi;subst hi;refine xa6 (o:=_) rfl (fun K' hK=>?_)
  have hst:ownsAt ((W.drew).alloc (.cells #[.int .i64 4,.int .i64 (m.heap.length:Int)] 27)) 0 27 2 (.slice sa f.stack.length sc) f.stack.length (xal f.stack):=((hF1.later (qzL _ W).drew).stack.alloc _);obtain⟨v',w',hrun,r1,r2,r3,r4⟩:=xaF (w:=(W.drew).alloc (.cells #[.int .i64 4,.int .i64 (m.heap.length:Int)] 27)) 28 28 27 _ 2 16 Tryz.underlying28 xbW rfl (by omega) 0 f.stack.length (.slice sa f.stack.length sc) (xal f.stack) hst (W.drew).heap.size [.int .i64 4,.int .i64 (m.heap.length:Int)] rfl (qzJ (W.drew) _) (by intro u hu;simp only[List.mem_cons,List.not_mem_nil,or_false] at hu;rcases hu with h | h<;>(subst h;rfl)) (by unfold maxLen;omega) (by omega) (by omega)
  obtain⟨a',cap',rfl,-⟩:=r1.form;have hbU:Below wr.heap.size wr (W.drew.alloc (.cells #[.int .i64 4,.int .i64 (m.heap.length:Int)] 27)):=xah (xah HB1.out (qzL _ W).drew) (xaj _ _);obtain⟨d0,df⟩:=xbR HF.out hbU r4;refine xat rfl (.tmp 151) (.tmp 159) 28 rfl (.slice sa f.stack.length sc) (.slice (some ⟨W.drew.heap.size,0,none⟩) 1 1) (.slice a' (f.stack.length+1) cap') (by simp[Act.eval,Act.put]) (by simp[Act.eval,Act.put]) hrun ?_
  obtain⟨z0,z1⟩:=hSl _ (xah (qzL _ W).drew (xaj W.drew (.cells #[.int .i64 4,.int .i64 (m.heap.length:Int)] 27)));have hSa:w'.cell? ⟨w.heap.size+4,0,none⟩=some (.slice sa f.stack.length sc)/\w'.cell? ⟨mb,1,none⟩=some (.slice ah m.heap.length ch):=⟨d0,xcD HF.out r4 (fun _=>by rw[HMa.out.tag];omega) z1⟩
  refine hK _ _ (fun _=>hSa) ?_
  clear hK K'
  try simp only[Act.put,qzF,qzG,qzH]
  refine xag (rs:=[10]) (by kernel_rfl) (by simp) ?_
  intro i hi;simp only[List.mem_cons,List.not_mem_nil,or_false] at hi;subst hi;refine xa6 (o:=_) rfl (fun K' hK=>?_)
  go_simp;refine hK _ _ (fun h=>absurd h (by decide)) ?_
  clear hK K'
  try simp only[Act.put,qzF,qzG,qzH]
  refine xa0 (by kernel_rfl) ?_ _
  try simp only[Act.put,qzF,qzG,qzH]
  obtain⟨⟨T2,e1,e2⟩,e3⟩:=HF.out.pushed (vs:=[⟨4,(m.heap.length:Int)⟩]) hbU (by simp;omega) (by simpa [xal] using r1) r2 r3 r4
  have hM2:=HMa.out.keep e1 e3 (by omega) (by omega) (by omega) (by omega)
  have x2:(w'.setCell ⟨w.heap.size+4,0,none⟩ (.slice a' (f.stack.length+1) cap')).cell? ⟨wr.heap.size,1,none⟩=some (.int .i64 x.a):=(qzI _ _ _ _ (by simp;omega)).trans (xcD HF.out r4 (fun h=>absurd h (Nat.lt_irrefl _)) (qzA (xah (qzL _ W).drew (xaj _ _)) x1))
  obtain⟨ac,cc,hcv,-⟩:=id hM2.cls;obtain⟨ho,sl,hsl,hsl2⟩:=xlY hX x.a;have E1:=hid e1;have E2:=hid e2;have E3:=hid e3;clear hS0 hSl hF1 hM1 d0 df hst hrun r1 r2 r3 r4 hbU e1 e2 e3 c1 c7 cf7 x1
  go_upto_region 38 with (fail)
  generalize (w'.setCell ⟨w.heap.size+4,0,none⟩ (.slice a' (f.stack.length+1) cap'))=U at *;have hSl:∀ w',Below U.heap.size U w'->w'.cell? ⟨mb,0,none⟩=some (.slice ac p.X.cz.length cc)/\w'.cell? ⟨mb,1,none⟩=some (.slice ah m.heap.length ch)/\w'.cell? ⟨mb,2,none⟩=some (.int .i64 p.X.ez)/\w'.cell? ⟨wr.heap.size,1,none⟩=some (.int .i64 x.a):=fun w' hb=>⟨by rw[← hcv];exact qzA hb hM2.c0,qzA hb hM2.c1,qzA hb hM2.c2,qzA hb x2⟩
  have hS0:=hSl _ (qzL _ U).drew;obtain⟨cs,hcs,hsrc⟩:=xhA hM2.heap;have hlen:=hcs.1;have hmk:=xcA sl (by omega)
  have hmbl:=xaf hM2.box;have hbD:Below U.heap.size U U.drew:=(qzL _ U).drew;have hbE:Below U.heap.size U (U.drew.alloc (.cells #[] 64)):=xah hbD (xaj _ _);refine xaY (S:=fun w'=>w'.cell? ⟨mb,0,none⟩=some (.slice ac p.X.cz.length cc)/\w'.cell? ⟨mb,1,none⟩=some (.slice ah m.heap.length ch)/\w'.cell? ⟨mb,2,none⟩=some (.int .i64 p.X.ez)/\w'.cell? ⟨wr.heap.size,1,none⟩=some (.int .i64 x.a)) [24] (by kernel_rfl) ?_
  refine tk 0 _ (.pointer (some ⟨mb,0,none⟩)) rfl (hS0) (fun _ _ _ h=>h) rfl (by kernel_rfl) ?_ ?_
  ·rintro w⟨q0,q1,q2,q3⟩;go_simp
  try simp only[Act.put,qzF,qzG,qzH]
  refine tk 2 _ (.pointer (some ⟨mb,0,none⟩)) rfl (hS0) (fun _ _ _ h=>h) rfl (by kernel_rfl) ?_ ?_
  ·rintro w⟨q0,q1,q2,q3⟩;go_simp
  try simp only[Act.put,qzF,qzG,qzH]
  refine tk 3 _ (.pointer (some ⟨mb,0,none⟩)) rfl (hS0) (fun _ _ _ h=>h) rfl (by kernel_rfl) ?_ ?_
  ·rintro w⟨q0,q1,q2,q3⟩;go_simp
  try simp only[Act.put,qzF,qzG,qzH]
  refine tk 4 _ (.pointer (some ⟨mb,0,none⟩)) rfl (hS0) (fun _ _ _ h=>h) rfl (by kernel_rfl) ?_ ?_
  ·rintro w⟨q0,q1,q2,q3⟩;go_simp
  try simp only[Act.put,qzF,qzG,qzH]
  refine tk 5 _ (.pointer (some ⟨mb,1,none⟩)) rfl (hS0) (fun _ _ _ h=>h) rfl (by kernel_rfl) ?_ ?_
  ·rintro w⟨q0,q1,q2,q3⟩;go_simp
  try simp only[Act.put,qzF,qzG,qzH]
  refine tk 6 _ (.slice ah m.heap.length ch) rfl (hS0) (fun _ _ _ h=>h) rfl (by kernel_rfl) ?_ ?_
  ·rintro w⟨q0,q1,q2,q3⟩;go_simp
  try simp only[Act.put,qzF,qzG,qzH]
  refine tk 8 _ (.pointer (some ⟨wr.heap.size,1,none⟩)) rfl (hS0) (fun _ _ _ h=>h) rfl (by kernel_rfl) ?_ ?_
  ·rintro w⟨q0,q1,q2,q3⟩;go_simp
  try simp only[Act.put,qzF,qzG,qzH]
  refine tk 9 _ (.int .i64 x.a) rfl (hS0) (fun _ _ _ h=>h) rfl (by kernel_rfl) ?_ ?_
  ·rintro w⟨q0,q1,q2,q3⟩;go_simp
  try simp only[Act.put,qzF,qzG,qzH]
  refine tk 10 _ (.pointer (some ⟨mb,0,none⟩)) rfl (hS0) (fun _ _ _ h=>h) rfl (by kernel_rfl) ?_ ?_
  ·rintro w⟨q0,q1,q2,q3⟩;go_simp
  try simp only[Act.put,qzF,qzG,qzH]
  refine tk 11 _ (.pointer (some ⟨mb,0,none⟩)) rfl (hS0) (fun _ _ _ h=>h) rfl (by kernel_rfl) ?_ ?_
  ·rintro w⟨q0,q1,q2,q3⟩;go_simp
  try simp only[Act.put,qzF,qzG,qzH]
  refine tk 12 _ (.pointer (some ⟨mb,0,none⟩)) rfl (hS0) (fun _ _ _ h=>h) rfl (by kernel_rfl) ?_ ?_
  ·rintro w⟨q0,q1,q2,q3⟩;go_simp
  try simp only[Act.put,qzF,qzG,qzH]
  refine tk 13 _ (WV (.slice ac p.X.cz.length cc) (.slice ah m.heap.length ch) p.X.ez) rfl (hS0) (fun _ _ _ h=>h) rfl (by kernel_rfl) ?_ ?_
  ·rintro w⟨q0,q1,q2,q3⟩;go_simp
  try simp only[Act.put,qzF,qzG,qzH]
  refine tk 14 _ (.pointer (some ⟨wr.heap.size,1,none⟩)) rfl (hS0) (fun _ _ _ h=>h) rfl (by kernel_rfl) ?_ ?_
  ·rintro w⟨q0,q1,q2,q3⟩;go_simp
  try simp only[Act.put,qzF,qzG,qzH]
  refine tk 15 _ (.int .i64 x.a) rfl (hS0) (fun _ _ _ h=>h) rfl (by kernel_rfl) ?_ ?_
  ·rintro w⟨q0,q1,q2,q3⟩;go_simp
  try simp only[Act.put,qzF,qzG,qzH]
  refine xag (rs:=[1]) (by kernel_rfl) (by simp) ?_
  intro i hi;simp only[List.mem_cons,List.not_mem_nil,or_false] at hi;subst hi;refine xa6 (o:=_) rfl (fun K' hK=>?_)
  go_simp;refine hK _ _ (fun _=>hSl _ hbE) ?_
  clear hK K'
  try simp only[Act.put,qzF,qzG,qzH]
  refine xag (rs:=[7]) (by kernel_rfl) (by simp) ?_
  intro i hi;simp only[List.mem_cons,List.not_mem_nil,or_false] at hi;subst hi;refine xa6 (o:=_) rfl (fun K' hK=>?_)
  obtain⟨g,cap1,w1,hrun1,hown,hgB,hgl,hbA⟩:=xb3 (w:=U.drew.alloc (.cells #[] 64)) 23 23 64 _ 2 32 Tryz.underlying23 xgX rfl (by omega) (by omega) U.drew.heap.size (qzJ U.drew _) ah m.heap.length ch cs hlen (fun j u hj=>by obtain⟨b,e,h⟩:=hsrc j u hj;exact⟨b,e,qzA hbE h⟩) (by omega)
  have hb1:Below U.heap.size U w1:=xah hbE hbA
  have hgU:U.heap.size<=g:=by
   rcases hgB with h | h
   ·rw[h];exact qzC _
   ·have:=hbE.size;omega
  refine xat rfl (.tmp 162) (.tmp 167) 23 rfl (.slice (some ⟨U.drew.heap.size,0,none⟩) 0 0) (.slice ah m.heap.length ch) (.slice (some ⟨g,0,none⟩) m.heap.length cap1) (by simp[Act.eval,Act.put]) (by simp[Act.eval,Act.put]) hrun1 ?_
  refine hK _ _ (fun _=>hSl _ hb1) ?_
  clear hK K'
  try simp only[Act.put,qzF,qzG,qzH]
  refine xag (rs:=[16]) (by kernel_rfl) (by simp) ?_
  intro i hi;simp only[List.mem_cons,List.not_mem_nil,or_false] at hi;subst hi;refine xa6 (o:=_) rfl (fun K' hK=>?_)
  refine xbv rfl 16 (.func 16) #[.tmp 174,.tmp 176] _ rfl #[] rfl #[WV (.slice ac p.X.cz.length cc) (.slice ah m.heap.length ch) p.X.ez,.int .i64 x.a] (by simp[Act.eval,Act.put]) (cf17 _ _) ?_
  refine (show Calls Tryz.prog 16 #[WV (.slice ac p.X.cz.length cc) (.slice ah m.heap.length ch) p.X.ez,.int .i64 x.a] w1 _ from (xcp ⟨p.X.cz,m.heap,p.X.ez⟩ x.a _ _ w1 (by rw[← hcv];exact (hM2.cls.later xaz hb1)) (hM2.heap.later xaD hb1) ho).mono ?_)
  rintro e w2 ⟨rfl,hbS⟩;rw[show xaP (QW.mk p.X.cz m.heap p.X.ez).cz x.a=(sl:Int) from hsl]
  refine⟨_,rfl,?_⟩;have hb2:Below U.heap.size U w2:=xah hb1 hbS;have hb3:Below U.heap.size U (w2.alloc (.cells (madeCells #[.int .i64 0,.int .i64 0] (sl*2)) 27)):=xah hb2 (xaj _ _);have hb4:Below U.heap.size U ((w2.alloc (.cells (madeCells #[.int .i64 0,.int .i64 0] (sl*2)) 27)).alloc (.cells #[.int .i64 x.a,.slice (some ⟨w2.heap.size,0,none⟩) sl sl] 64)):=xah hb3 (xaj _ _);have hvb:U.heap.size<=w2.heap.size:=hb2.size;refine hK _ _ (fun _=>hSl _ hb2) ?_
  clear hK K'
  try simp only[Act.put,qzF,qzG,qzH]
  refine xag (rs:=[17]) (by kernel_rfl) (by simp) ?_
  intro i hi;simp only[List.mem_cons,List.not_mem_nil,or_false] at hi;subst hi;refine xa6 (o:=_) rfl (fun K' hK=>?_)
  go_simp;refine hK _ _ (fun _=>hSl _ hb3) ?_
  clear hK K'
  try simp only[Act.put,qzF,qzG,qzH]
  refine tk 18 _ (.agg #[.int .i64 x.a,.slice (some ⟨w2.heap.size,0,none⟩) sl sl]) rfl (hSl _ hb3) (fun _ _ _ h=>h) rfl (by kernel_rfl) ?_ ?_
  ·rintro w⟨q0,q1,q2,q3⟩;go_simp
  try simp only[Act.put,qzF,qzG,qzH]
  refine xag (rs:=[19]) (by kernel_rfl) (by simp) ?_
  intro i hi;simp only[List.mem_cons,List.not_mem_nil,or_false] at hi;subst hi;refine xa6 (o:=_) rfl (fun K' hK=>?_)
  go_simp;refine hK _ _ (fun _=>hSl _ hb4) ?_
  clear hK K'
  try simp only[Act.put,qzF,qzG,qzH]
  refine xag (rs:=[20]) (by kernel_rfl) (by simp) ?_
  intro i hi;simp only[List.mem_cons,List.not_mem_nil,or_false] at hi;subst hi;refine xa6 (o:=_) rfl (fun K' hK=>?_)
  have hgw:g<w2.heap.size:=qzE hgl hbS.size;have hst4:ownsAt ((w2.alloc (.cells (madeCells #[.int .i64 0,.int .i64 0] (sl*2)) 27)).alloc (.cells #[.int .i64 x.a,.slice (some ⟨w2.heap.size,0,none⟩) sl sl] 64)) U.heap.size 64 2 (.slice (some ⟨g,0,none⟩) m.heap.length cap1) m.heap.length cs:=(((xdq hown (qzC _)).base (base':=U.heap.size) (fun g' hg'=>by cases hg';exact hgU)).keep (fun g' hg'=>by cases hg';exact hbS.block _ hgl)).alloc _ |>.alloc _
  have hvw:((w2.alloc (.cells (madeCells #[.int .i64 0,.int .i64 0] (sl*2)) 27)).alloc (.cells #[.int .i64 x.a,.slice (some ⟨w2.heap.size,0,none⟩) sl sl] 64)).heap[w2.heap.size]?=some (.cells (xal (List.replicate sl xaU)).toArray 27 (0,0)):=by
   rw[← xji];exact xac (qzJ w2 _) (xaj _ _)
  have hvg:some w2.heap.size≠(Value.slice (some ⟨g,0,none⟩) m.heap.length cap1).ownBlock:=fun e=>by have h1:w2.heap.size=g:=(by simpa [Value.ownBlock] using e);omega
  obtain⟨v5,w5,hrun5,r1,r2,r3,r4⟩:=xaF (w:=(w2.alloc (.cells (madeCells #[.int .i64 0,.int .i64 0] (sl*2)) 27)).alloc (.cells #[.int .i64 x.a,.slice (some ⟨w2.heap.size,0,none⟩) sl sl] 64)) 23 23 64 _ 2 32 Tryz.underlying23 xgX rfl (by omega) U.heap.size m.heap.length (.slice (some ⟨g,0,none⟩) m.heap.length cap1) cs hst4 (w2.heap.size+1) [.int .i64 x.a,.slice (some ⟨w2.heap.size,0,none⟩) sl sl] rfl (by have:=qzJ (w2.alloc (.cells (madeCells #[.int .i64 0,.int .i64 0] (sl*2)) 27)) (.cells #[.int .i64 x.a,.slice (some ⟨w2.heap.size,0,none⟩) sl sl] 64);simpa using this) (by intro u hu;simp only[List.mem_cons,List.not_mem_nil,or_false] at hu;rcases hu with h | h<;>(subst h;rfl)) (by unfold maxLen;omega) (by omega) (by have:=hb4.size;omega)
  obtain⟨a5,cap5,rfl,-⟩:=r1.form;have hb5:Below U.heap.size U w5:=hb4.trans r3;have cf5:∀ o,w5.frozen? ⟨mb,o,none⟩=false:=xam (by rw[hb5.block _ hmbl];exact hM2.box)
  have c51:=(hSl _ hb4).2.1;have c5:w5.cell? ⟨mb,1,none⟩=some (.slice ah m.heap.length ch):=by rw[qzB (show w5.heap[mb]?=_ by rw[hb5.block _ hmbl];exact hM2.box)];rfl
  have hS5:w5.cell? ⟨mb,0,none⟩=some (.slice ac p.X.cz.length cc)/\w5.cell? ⟨mb,1,none⟩=some (.slice ah m.heap.length ch)/\w5.cell? ⟨mb,2,none⟩=some (.int .i64 p.X.ez)/\w5.cell? ⟨wr.heap.size,1,none⟩=some (.int .i64 x.a):=by
   have hc:∀ (b o:Nat) v,b<U.heap.size->U.cell? ⟨b,o,none⟩=some v->w5.cell? ⟨b,o,none⟩=some v:=fun b o v hb h=>by
    unfold World.cell? at h ⊢;rw[hb5.block b hb];exact h
   obtain⟨y0,y1,y2,y3⟩:=hSl _ (qzL _ U)
   exact⟨hc _ _ _ hmbl y0,hc _ _ _ hmbl y1,hc _ _ _ hmbl y2,hc _ _ _ (World.block_lt_of_cell? U ⟨wr.heap.size,1,none⟩ y3) y3⟩
  refine xat rfl (.tmp 168) (.tmp 180) 23 rfl (.slice (some ⟨g,0,none⟩) m.heap.length cap1) (.slice (some ⟨w2.heap.size+1,0,none⟩) 1 1) (.slice a5 (m.heap.length+1) cap5) (by simp[Act.eval,Act.put]) (by simp[Act.eval,Act.put]) hrun5 ?_
  refine hK _ _ (fun _=>hS5) ?_
  clear hK K'
  try simp only[Act.put,qzF,qzG,qzH]
  refine tk 21 _ (.pointer (some ⟨mb,0,none⟩)) rfl (hS5) (fun _ _ _ h=>h) rfl (by kernel_rfl) ?_ ?_
  ·rintro w⟨q0,q1,q2,q3⟩;go_simp
  try simp only[Act.put,qzF,qzG,qzH]
  refine tk 22 _ (.pointer (some ⟨mb,0,none⟩)) rfl (hS5) (fun _ _ _ h=>h) rfl (by kernel_rfl) ?_ ?_
  ·rintro w⟨q0,q1,q2,q3⟩;go_simp
  try simp only[Act.put,qzF,qzG,qzH]
  refine tk 23 _ (.pointer (some ⟨mb,1,none⟩)) rfl (hS5) (fun _ _ _ h=>h) rfl (by kernel_rfl) ?_ ?_
  ·rintro w⟨q0,q1,q2,q3⟩;go_simp
  try simp only[Act.put,qzF,qzG,qzH]
  refine xag (rs:=[24]) (by kernel_rfl) (by simp) ?_
  intro i hi;simp only[List.mem_cons,List.not_mem_nil,or_false] at hi;subst hi;refine xa6 (o:=_) rfl (fun K' hK=>?_)
  go_simp;refine hK _ _ (fun h=>absurd h (by decide)) ?_
  clear hK K'
  try simp only[Act.put,qzF,qzG,qzH]
  refine xa0 (by kernel_rfl) ?_ _
  try simp only[Act.put,qzF,qzG,qzH]
  obtain⟨f1,f2⟩:=xoa (c:=x.a) hM2 hcs hb4 hvb hvw hvg r1 r3 r4 (by omega) (by omega)
  have hE':Ext T1 (xau T2 U 0) wr:=E1.out.trans E3.out.size (xao T2 U 0);have hFU:=E2.out.keep (xao T2 U 0) f2 (by omega) (by omega) (by omega) (by omega) (by omega)
  have hKK:Kp (All K) T1 wr _:=(xdB E3.out fun t ht=>by omega).trans E1.out (xdB f2 fun t ht=>by omega)
  have HE':=hid hE';have HFU:=hid hFU;have HKK:=hid hKK;have F1:=hid f1;have HSL:=hid hsl;clear hE' hFU hKK f1 f2 hsl;go_wp2
  exact Or.inl ⟨rfl,xmn hX HR.out HG.out HX.out HOP.out H6.out HSL.out (by omega) HL.out HE'.out HKK.out F1.out HFU.out⟩
set_option maxRecDepth 8000
theorem xiK {xs:List QC}{name:ByteArray}:∀ (l:List Int),0<=(xcZ xs name l).2->(xcZ xs name l).2=xcu (xbD xs (xcZ xs name l).1) name
 | [],h=>by simp[xcZ] at h
 | k :: r,h=>by
  unfold xcZ at h ⊢
  by_cases hk:0<=xcu (xbD xs k) name
  ·rw[if_pos hk]
  ·rw[if_neg hk] at h ⊢
   exact xiK r h
theorem xgO {xs:List QC}{k:Int}{name:ByteArray}(h:0<=(xaw xs k name).2):∃ mt,xaO xs (xaw xs k name).1 (xaw xs k name).2=some mt:=by
 rw[xeo] at h ⊢;generalize xde xs (xs.length+1) k=l at *;have h1:=xiK l h;unfold xaO;simp only[if_pos h];unfold xbD at h1
 cases hx:xby xs (xcZ xs name l).1 with
 | none=>rw[hx] at h1;simp[xcu,xbt] at h1;omega
 | some x=>
  rw[hx] at h1;simp only[Option.map_some,Option.getD_some] at h1;unfold xcu xbt at h1
  cases hf:x.mz.findIdx? (fun m=>eqN m.name name) with
  | none=>rw[hf] at h1;simp at h1;omega
  | some j=>
   rw[hf] at h1
   simp at h1
   rw[List.findIdx?_eq_some_iff_getElem] at hf;obtain⟨hj,-⟩:=hf;refine⟨x.mz[j],?_⟩;rw[h1]
   simp[hj]
theorem sd41 {W wz:World}{g xb cap' B n:Nat}{args:List QV}(xv:QV)(hb:Below W.heap.size W wz)(hown:wz.ownsRow B 27 2 (.slice (some ⟨g,0,none⟩) n cap') n (xal args))(hn:args.length=n)(hnl:n<=1000000)(hB:W.heap.size<=B)(hxb:W.heap.size<=xb)(hne:xb≠g)(hx:wz.heap[xb]?=some (.cells #[.int .i64 0,.int .i64 0] 27 (0,0))) :
  Below W.heap.size W ((wz.setCell ⟨xb,0,none⟩ (.int .i64 xv.k)).setCell ⟨xb,1,none⟩ (.int .i64 xv.n))/\((wz.setCell ⟨xb,0,none⟩ (.int .i64 xv.k)).setCell ⟨xb,1,none⟩ (.int .i64 xv.n)).heap[xb]?=some (.cells #[.int .i64 xv.k,.int .i64 xv.n] 27 (0,0))/\xaB (fun b=>W.heap.size<=b/\b<((wz.setCell ⟨xb,0,none⟩ (.int .i64 xv.k)).setCell ⟨xb,1,none⟩ (.int .i64 xv.n)).heap.size) ((wz.setCell ⟨xb,0,none⟩ (.int .i64 xv.k)).setCell ⟨xb,1,none⟩ (.int .i64 xv.n)) (.slice (some ⟨g,0,none⟩) n cap') args:=by
 have hrow:((wz.setCell ⟨xb,0,none⟩ (.int .i64 xv.k)).setCell ⟨xb,1,none⟩ (.int .i64 xv.n)).heap[xb]?=some (.cells #[.int .i64 xv.k,.int .i64 xv.n] 27 (0,0)):=by
  rw[xad (xad hx _)];rfl
 have h1:=ownsRow_setCell_other (ownsRow_setCell_other hown (a:=⟨xb,0,none⟩) (by simp[Value.ownBlock];omega) (.int .i64 xv.k)) (a:=⟨xb,1,none⟩) (by simp[Value.ownBlock];omega) (.int .i64 xv.n)
 refine⟨(hb.setCell hxb _).setCell hxb _,hrow,?_⟩;generalize ((wz.setCell ⟨xb,0,none⟩ (.int .i64 xv.k)).setCell ⟨xb,1,none⟩ (.int .i64 xv.n))=V at *
 have hc:Cells xmM 2 (fun b=>W.heap.size<=b/\b<V.heap.size) V (xal args) args:=⟨xbm _,fun i y hy=>by
  obtain⟨d1,d2⟩:=xbO hy
  exact⟨by simpa using d1,d2⟩⟩
 exact xe4 xaK h1 hc hn (fun b h1 h2=>⟨by omega,h2⟩) (by omega)
structure SdA (wr V:World)(f:Fr)(x:QI)(nn na xb:Nat)(asv:Value)(xv:QV):Prop where
 bel:Below wr.heap.size wr V
 inb:InB V wr.heap.size x
 xc:V.heap[xb]?=some (.cells #[.int .i64 xv.k,.int .i64 xv.n] 27 (0,0))
 lo:wr.heap.size<=xb/\wr.heap.size<V.heap.size
 args:xaB (fun b=>wr.heap.size<=b/\b<V.heap.size) V asv (f.stack.drop (nn+1))
 hna:x.a=(na:Int)
 len:f.stack.length=nn+1+na
 hxv:f.stack[nn]?=some xv
structure SdB (p:Rp)(d:Nat)(mb K B b0 xb:Nat)(T:Nat->Nat)(U:World)(m:Mc RSt)(err:Int)(f:Fr)(name:ByteArray)(xv:QV)(args:List QV)(asv av kv st hv sv ov:Value):Prop where
 mac:RMac p T U mb m (20-(d:Int)) err hv sv ov
 fr:RF T K U B f av kv st
 nm:U.cell? ⟨b0,4,none⟩=some (.string name)
 tn:T b0=0
 x:U.heap[xb]?=some (.cells #[.int .i64 xv.k,.int .i64 xv.n] 27 (0,0))
 tx:T xb=0
 args:xaB (Fx T U) U asv args
section
variable {p:Rp} {d:Nat} {mb K B b0 xb:Nat} {T T':Nat->Nat} {U U':World} {m m':Mc RSt} {err err':Int} {f f':Fr} {name:ByteArray} {xv:QV} {args:List QV} {asv av kv st hv sv ov hv' sv' ov':Value}
theorem SdB.keep {S:Nat->Prop}(h:SdB p d mb K B b0 xb T U m err f name xv args asv av kv st hv sv ov)(e:Ext T T' U)(k:Kp S T U U')(h0:¬ S 0)(h4:¬ S 4)(hK:¬ S K)(h1:¬ S (K+1))(h2:¬ S (K+2))(hM:RMac p T' U' mb m' (20-(d:Int)) err' hv' sv' ov'):SdB p d mb K B b0 xb T' U' m' err' f name xv args asv av kv st hv' sv' ov':=
 ⟨hM,h.fr.keep e k h0 h4 hK h1 h2,k.cell h.nm (by rw[h.tn];exact h0),by rw[e _ (World.block_lt_of_cell? U ⟨b0,4,none⟩ h.nm)];exact h.tn,k.held h.x (by rw[h.tx];exact h0),by rw[e _ (xaf h.x)];exact h.tx,h.args.fx xaK e k h0⟩
theorem SdB.later (h:SdB p d mb K B b0 xb T U m err f name xv args asv av kv st hv sv ov)(hb:Below U.heap.size U U'):SdB p d mb K B b0 xb T U' m err f name xv args asv av kv st hv sv ov:=h.keep (S:=fun _=>False) (.refl _ _) (.of_below hb) id id id id id (h.mac.later hb)
theorem SdB.x0 (h:SdB p d mb K B b0 xb T U m err f name xv args asv av kv st hv sv ov):U.cell? ⟨xb,0,none⟩=some (.int .i64 xv.k):=by rw[qzB h.x];rfl
theorem SdB.x1 (h:SdB p d mb K B b0 xb T U m err f name xv args asv av kv st hv sv ov):U.cell? ⟨xb,1,none⟩=some (.int .i64 xv.n):=by rw[qzB h.x];rfl
theorem sd42 {wr w V:World}{x:QI}{nn na:Nat}{sa:Option Addr}{sc:Nat}(hM:RMac p T wr mb m (20-(d:Int)) 0 hv sv ov)(hF:RF T K wr w.heap.size f av kv (.slice sa f.stack.length sc))(hA:SdA wr V f x nn na xb asv xv) :
  SdB p d mb K w.heap.size wr.heap.size xb (xau T wr 0) (V.setCell ⟨w.heap.size+4,0,none⟩ (.slice sa nn sc)) m 0 { f with stack:=f.stack.take nn } x.name xv (f.stack.drop (nn+1)) asv av kv (.slice sa nn sc) hv sv ov/\Kp (fun t=>t=K) T wr (V.setCell ⟨w.heap.size+4,0,none⟩ (.slice sa nn sc)):=by
 have hp:=hF.pos;have hlt:=xaf hF.sb;have hlm:=xaf hM.box;obtain⟨hl1,hl2⟩:=hA.lo;have hlen:=hA.len;have ex:=xao T wr 0;have hMV:=hM.keep (S:=fun _=>False) ex (.of_below hA.bel) id id id id
 have hFV:=hF.keep (S:=fun _=>False) ex (.of_below hA.bel) id id id id id
 have hk:Kp (fun t=>t=K) (xau T wr 0) V (V.setCell ⟨w.heap.size+4,0,none⟩ (.slice sa nn sc)):=(Kp.refl _ _ _).set (fun _=>hFV.t4) _ _
 have hF2:=hFV.cut (n:=nn) (by omega) hk (xkK hFV.sb _)
 have hM2:=hMV.keep (.refl _ _) hk (by omega) (by omega) (by omega) (by omega)
 refine⟨⟨hM2,hF2,hk.cell hA.inb.x4 (by rw[xav (qzC _)];omega),xav (qzC _),hk.held hA.xc (by rw[xav hl1];omega),xav hl1,?_⟩,(Kp.of_below hA.bel).trans ex hk⟩
 exact hA.args.keep xaK (Keeps.of_block fun b hb _=>xab (by omega) _) fun b hb=>⟨qzE hb.2 hk.size,xav hb.1⟩
theorem xhF (h:RMac p T U mb m (20-(d:Int)) err hv sv ov){wz w12 w18:World}(hbz:Below U.heap.size U wz)(r4:∀ b,b<wz.heap.size->some b≠sv.ownBlock->w12.heap[b]?=wz.heap[b]?)(hb18:Below w12.heap.size w12 w18)(hz:wz.heap.size<=w12.heap.size):ownsAt w18 0 3 1 ov m.st.length (xcw m.st):=by
 refine h.of.keep fun g hg=>?_
 have hl:=(h.of.lt g hg).2;have hs:=hbz.size;rw[hb18.block g (by omega),r4 g (by omega) (fun e=>by have:=h.stag g e.symm;rw[h.otag g hg] at this;omega),hbz.block g hl]
theorem xeU (h:RMac p T U mb m (20-(d:Int)) 0 hv sv ov){wz w12 w18 w19:World}{q:QS × Int}(hbz:Below U.heap.size U wz)
  (r1:ownsAt w12 0 67 3 sv' (m.st.length+1) (xcG m.st++[.int .i64 q.1.cls,.string q.1.name,.int .i64 q.1.at'])) (r2:sv'.ownBlock=sv.ownBlock\/∃ g,sv'.ownBlock=some g/\wz.heap.size<=g) (r3:Below 0 wz w12) (r4:∀ b,b<wz.heap.size->some b≠sv.ownBlock->w12.heap[b]?=wz.heap[b]?) (hb18:Below w12.heap.size w12 w18)
  (s1:ownsAt w19 0 3 1 ov' (m.st.length+1) (xcw m.st++[.int .i64 q.2])) (s2:ov'.ownBlock=ov.ownBlock\/∃ g,ov'.ownBlock=some g/\w18.heap.size<=g) (s3:Below 0 w18 w19) (s4:∀ b,b<w18.heap.size->some b≠ov.ownBlock->w19.heap[b]?=w18.heap[b]?) :
  (∃ T',Ext T T' U/\RMac p T' ((w19.setCell ⟨mb,8,none⟩ sv').setCell ⟨mb,9,none⟩ ov') mb { m with st:=m.st++[q] } (20-(d:Int)) 0 hv sv' ov')/\Kp (fun t=>t=1\/t=2\/t=3) T U ((w19.setCell ⟨mb,8,none⟩ sv').setCell ⟨mb,9,none⟩ ov'):=by
 have hlm:=xaf h.box;have z1:=hbz.size;have z2:=r3.size;have z3:=hb18.size;have z4:=s3.size;have hso:∀ g,sv.ownBlock=some g->g<U.heap.size:=fun g hg=>(h.sites.lt g hg).2
 have hoo:∀ g,ov.ownBlock=some g->g<U.heap.size:=fun g hg=>(h.of.lt g hg).2
 have k0:Kp (fun t=>t=1\/t=2\/t=3) T U w19:=⟨s3.os.trans (hb18.os.trans (r3.os.trans hbz.os)),s3.tape.trans (hb18.tape.trans (r3.tape.trans hbz.tape)),s3.output.trans (hb18.output.trans (r3.output.trans hbz.output)),by omega,fun b hb hs=>by
  rw[s4 b (by omega) (fun e=>hs (Or.inr (Or.inr (h.otag b e.symm)))),hb18.block b (by omega),r4 b (by omega) (fun e=>hs (Or.inr (Or.inl (h.stag b e.symm)))),hbz.block b hb]⟩
 have k1:Kp (fun t=>t=1\/t=2\/t=3) T U ((w19.setCell ⟨mb,8,none⟩ sv').setCell ⟨mb,9,none⟩ ov'):=(k0.set (fun _=>Or.inl h.tag) _ _).set (fun _=>Or.inl h.tag) _ _
 refine⟨?_,k1⟩
 have hbox:w19.heap[mb]?=some (RB p m (20-(d:Int)) 0 hv sv ov):=by
  rw[s4 mb (by omega) (fun e=>by have:=h.otag mb e.symm;rw[h.tag] at this;omega),hb18.block mb (by omega),r4 mb (by omega) (fun e=>by have:=h.stag mb e.symm;rw[h.tag] at this;omega),hbz.block mb hlm];exact h.box
 have hb':((w19.setCell ⟨mb,8,none⟩ sv').setCell ⟨mb,9,none⟩ ov').heap[mb]?=some (RB p { m with st:=m.st++[q] } (20-(d:Int)) 0 hv sv' ov'):=xnq (xnH hbox sv') _ _
 have hsb:∀ g,sv'.ownBlock=some g->g≠mb/\some g≠ov'.ownBlock/\some g≠ov.ownBlock/\g<w12.heap.size/\(g<U.heap.size->T g=2):=fun g hg=>by
  have hlt:=(r1.lt g hg).2
  rcases r2 with e | ⟨g',e,hg'⟩
  ·rw[e] at hg;have t:=h.stag g hg;have hl:=hso g hg;refine⟨fun e=>by rw[e,h.tag] at t;omega,fun e=>?_,fun e=>by have:=h.otag g e.symm;omega,hlt,fun _=>t⟩
   rcases s2 with e2 | ⟨g2,e2,hg2⟩
   ·have:=h.otag g (by rw[← e2];exact e.symm);omega
   ·rw[e2] at e;cases e;omega
  ·rw[e] at hg;cases hg;refine⟨by omega,fun e=>?_,fun e=>by have:=hoo g e.symm;omega,hlt,fun h=>by omega⟩
   rcases s2 with e2 | ⟨g2,e2,hg2⟩
   ·have:=hoo g (by rw[← e2];exact e.symm);omega
   ·rw[e2] at e;cases e;omega
 have hob:∀ g,ov'.ownBlock=some g->g≠mb/\(g<U.heap.size->T g=3):=fun g hg=>by
  rcases s2 with e | ⟨g',e,hg'⟩
  ·rw[e] at hg;have t:=h.otag g hg
   exact⟨fun e=>by rw[e,h.tag] at t;omega,fun _=>t⟩
  ·rw[e] at hg;cases hg
   exact⟨by omega,fun h=>by omega⟩
 have hr1:ownsAt ((w19.setCell ⟨mb,8,none⟩ sv').setCell ⟨mb,9,none⟩ ov') 0 67 3 sv' (m.st.length+1) (xcG m.st++[.int .i64 q.1.cls,.string q.1.name,.int .i64 q.1.at']):=r1.keep fun g hg=>by
  obtain⟨a1,a2,a3,a4,-⟩:=hsb g hg;rw[xab a1,xab a1,s4 g (by omega) a3,hb18.block g a4]
 have hs1:ownsAt ((w19.setCell ⟨mb,8,none⟩ sv').setCell ⟨mb,9,none⟩ ov') 0 3 1 ov' (m.st.length+1) (xcw m.st++[.int .i64 q.2]):=s1.keep fun g hg=>by
  rw[xab (hob g hg).1,xab (hob g hg).1]
 generalize ((w19.setCell ⟨mb,8,none⟩ sv').setCell ⟨mb,9,none⟩ ov')=V at *
 obtain⟨T',hT,hT2,hT3⟩:∃ T',Ext T T' U/\(∀ g,sv'.ownBlock=some g->T' g=2)/\(∀ g,ov'.ownBlock=some g->T' g=3):=by
  refine⟨fun b=>if b<U.heap.size then T b else if sv'.ownBlock=some b then 2 else 3,fun b hb=>by simp only[if_pos hb],fun g hg=>?_,fun g hg=>?_⟩
  ·by_cases hl:g<U.heap.size
   ·simp only[if_pos hl];exact (hsb g hg).2.2.2.2 hl
   ·simp only[if_neg hl,if_pos hg]
  ·by_cases hl:g<U.heap.size
   ·simp only[if_pos hl];exact (hob g hg).2 hl
   ·simp only[if_neg hl];rw[if_neg (fun e=>(hsb g e).2.1 hg.symm)]
 refine⟨T',hT,hb',by rw[hT _ hlm];exact h.tag,h.cls.fx xaz hT k1 (by omega),h.heap.fx xaD hT k1 (by omega),?_,hT2,?_,hT3⟩
 ·rw[xdP,List.length_append];exact hr1
 ·rw[xd4,List.length_append];exact hs1
end
section
variable {p:Rp} {d:Nat} {T T1 T2:Nat->Nat} {w wr w2:World} {mb K:Nat} {R:Mc RSt × QV × Int} {av kv:Value} {gk:Nat} {at' at2:Value} {m:Mc RSt} {f:Fr}
variable {c:Int} {n1 n2 n3 G' k:Nat} {x:QI} {hv sv ov st st':Value} {U w':World}
theorem xmc (hx:NxOk f k x)(hop:x.op=14)(hfast:f.fast=false)(hc:f.cls=c){nn na:Nat}(hna:x.a=(na:Int))(hlen:f.stack.length=nn+1+na){xv:QV}(hxv:f.stack[nn]?=some xv){kl:Int}(hkl:xar m.heap xv=kl){r:Mc RSt × QV × Int}(hr:xa1 p.E d { m with st:=m.st++[(⟨c,f.meth.name,(k:Int)⟩,kl)] } (xaw p.X.cz kl x.name).1 (xaw p.X.cz kl x.name).2 xv (f.stack.drop (nn+1))=r) :
  xan (xa1 p.E d) p.E d m { f with pc:=f.pc+1 } f.pc x=if r.2.2≠0 then (r.1,{ f with pc:=f.pc+1 },r.2.2) else (r.1,{ f with pc:=f.pc+1,stack:=f.stack.take nn++[r.2.1] },0):=by
 have hk:xbu f.stack x.a=nn+1:=by unfold xbu;rw[hna];omega
 have hb:xaW (f.stack.take (nn+1)) 0=xv:=by
  unfold xaW xaM;have hl:(f.stack.take (nn+1)).length=nn+1:=by rw[List.length_take];omega
  rw[hl,if_neg (by omega),show (((nn+1:Nat):Int)-1-0).toNat=nn by omega,List.getElem?_take,if_pos (by omega),hxv]
  rfl
 have hd:(f.stack.take (nn+1)).dropLast=f.stack.take nn:=by
  have hl:(f.stack.take (nn+1)).length=nn+1:=by rw[List.length_take];omega
  rw[List.dropLast_eq_take,hl,List.take_take]
  congr 1
  omega
 rw[xbK _ _ (by omega)];unfold xcy;rw[if_neg (by omega),if_neg (by omega),if_neg (by omega),if_neg (by omega),if_neg (by omega),if_pos hop]
 unfold xcm;simp only[hk,hb,hkl,hd]
 have hs:Fr.site { f with pc:=f.pc+1 } f.pc x=⟨c,f.meth.name,(k:Int)⟩:=by
  unfold Fr.site;simp only[hfast,hc,hx.pc];rfl
 rw[hs]
 show (if (xa1 p.E d { m with st:=m.st++[(⟨c,f.meth.name,(k:Int)⟩,kl)] } (xaw p.X.cz kl x.name).1 (xaw p.X.cz kl x.name).2 xv (f.stack.drop (nn+1))).2.2≠0 then _ else _)=_
 rw[show xa1 p.E d { heap:=m.heap,sz_:=m.sz_,turns:=m.turns,st:=(p.E.look m.st ⟨c,f.meth.name,(k:Int)⟩ kl x.name).1 } (p.E.look m.st ⟨c,f.meth.name,(k:Int)⟩ kl x.name).2.1 (p.E.look m.st ⟨c,f.meth.name,(k:Int)⟩ kl x.name).2.2 xv (f.stack.drop (nn+1))=r from hr]
 rw[hr]
theorem xiG (hX:Rx p)(hR:BdR p d T w mb K R av kv gk at' T1 m f 0 wr)(hg:gk=G'+1)(hx:NxOk f k x)(hop:x.op=14)(hL:xiO c n1 n2 n3 f){r:Mc RSt × QV × Int}{nn:Nat}(hr:xan (xa1 p.E d) p.E d m { f with pc:=f.pc+1 } f.pc x=if r.2.2≠0 then (r.1,{ f with pc:=f.pc+1 },r.2.2) else (r.1,{ f with pc:=f.pc+1,stack:=f.stack.take nn++[r.2.1] },0)){W2:World}(hE:Ext T1 T2 wr)(hK:Kp (All K) T1 wr W2)(hM:RMac p T2 W2 mb r.1 (20-(d:Int)) r.2.2 hv sv ov)(hF:r.2.2=0->RF T2 K W2 w.heap.size { f with stack:=f.stack.take nn++[r.2.1] } av kv st) :
  BdX p d T w mb K R av kv c n1 n2 n3 G' (.int .i64 ((k:Int)+1)) W2:=by
 by_cases h0:r.2.2=0
 ·rw[if_neg (by omega)] at hr
  rw[h0] at hM
  exact xcj hX hR hg hx (by omega) hr hE hK hM (fun _=>⟨_,(hF h0).at _⟩) (fun _=>by show f.pc+1=_;rw[hx.pc]) (fun _=>hL)
 ·rw[if_pos h0] at hr
  exact xcj hX hR hg hx (by omega) hr hE hK hM (fun h=>absurd h h0) (fun h=>absurd h h0) (fun h=>absurd h h0)
theorem xiF {at2':Int}(hj:¬ 0<=(xaw p.X.cz at2' x.name).2){m4:Mc RSt}{xv:QV}{args:List QV}:xa1 p.E d m4 (xaw p.X.cz at2' x.name).1 (xaw p.X.cz at2' x.name).2 xv args=(m4,xaU,10):=by
 have h:xaO p.E.cz (xaw p.X.cz at2' x.name).1 (xaw p.X.cz at2' x.name).2=none:=by
  unfold xaO;simp only[if_neg hj]
  cases xby p.E.cz (xaw p.X.cz at2' x.name).1<;>rfl
 cases d<;>(unfold xa1 xbj;rw[h])
end
end Go.Proofs.YtapbeiccodnniaaGreat
