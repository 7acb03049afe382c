/- A part. -/
import Derived.Test.YtapbeiccodnniaaGreatM31
namespace Go.Proofs.YtapbeiccodnniaaGreat
open Go.ChangeShapes Go.WideShapes Go.ChangeAt Go.RowKit
set_option linter.unusedSimpArgs false
set_option linter.unusedVariables false
set_option maxHeartbeats 8000000
set_option maxRecDepth 100000
theorem br13:Br 13:=by
 intro p d T T1 w wr W mb K R av kv gk G' m f c n1 n2 n3 k x hv sv ov sa sc H hop
 intros
 rename_i hN K9 hK9;obtain⟨hX,HEn,HR,HG,HX,HMa,HF,HL,HB1,HI,hM1,hF1,hsc1,hsc2,hBl,hWl,hxb,⟨aa,ca,rfl,hca⟩,ht40⟩:=H.pre;have HOP:=hid hop;clear hop;unfold xdw;unfold sw9 at hK9;obtain⟨hI,hW,hFo,hPl⟩:=HI.out;have x1:=hxb.x1;have hfw:=HX.out.few;have hp5:=hF1.pos;obtain⟨ah,ch,rfl,-⟩:=id hM1.heap;have c1:=hM1.c1;have c7:=hM1.c7;have cf7:=xam hM1.box
 by_cases h6:60<=m.heap.length
 ·have h6':(60:Int)<=(m.heap.length:Int):=by omega
  have H6:=hid h6;have HN7:=hid (hM1.num7 15);have HT7:=hid hM1.tag;have HMl:=hid (xaf HMa.out.box);clear hF1 hM1 h6 hI hW hFo hPl;go_wp2
  exact Or.inl ⟨rfl,xkR hX HR.out HG.out HX.out HOP.out H6.out (.refl _ _) ((Kp.of_below HB1.out).set (fun _=>Or.inl HT7.out) _ _) HN7.out⟩
 ·have h6':¬ ((60:Int)<=(m.heap.length:Int)):=by omega
  have H6:=hid h6;have hSl:∀ w',Below W.heap.size W w'->w'.cell? ⟨w.heap.size+4,0,none⟩=some (.slice sa f.stack.length sc)/\w'.cell? ⟨mb,1,none⟩=some (.slice ah m.heap.length ch):=fun w' hb=>⟨qzA hb hF1.st,qzA hb hM1.c1⟩
  have hS0:=hSl _ (qzL _ W).drew
  go_upto_region 37 with (fail)
  refine xaY (S:=fun w'=>w'.cell? ⟨w.heap.size+4,0,none⟩=some (.slice sa f.stack.length sc)/\w'.cell? ⟨mb,1,none⟩=some (.slice ah m.heap.length ch)) [10] (by kernel_rfl) ?_
  refine tk 0 _ (.slice sa f.stack.length sc) rfl (hS0) (fun _ _ _ h=>h) rfl (by kernel_rfl) ?_ ?_
  ·rintro w⟨q0,q1⟩;go_simp
  try simp only[Act.put,qzF,qzG,qzH]
  refine tk 1 _ (.pointer (some ⟨mb,0,none⟩)) rfl (hS0) (fun _ _ _ h=>h) rfl (by kernel_rfl) ?_ ?_
  ·rintro w⟨q0,q1⟩;go_simp
  try simp only[Act.put,qzF,qzG,qzH]
  refine tk 2 _ (.pointer (some ⟨mb,0,none⟩)) rfl (hS0) (fun _ _ _ h=>h) rfl (by kernel_rfl) ?_ ?_
  ·rintro w⟨q0,q1⟩;go_simp
  try simp only[Act.put,qzF,qzG,qzH]
  refine tk 3 _ (.pointer (some ⟨mb,0,none⟩)) rfl (hS0) (fun _ _ _ h=>h) rfl (by kernel_rfl) ?_ ?_
  ·rintro w⟨q0,q1⟩;go_simp
  try simp only[Act.put,qzF,qzG,qzH]
  refine tk 4 _ (.pointer (some ⟨mb,1,none⟩)) rfl (hS0) (fun _ _ _ h=>h) rfl (by kernel_rfl) ?_ ?_
  ·rintro w⟨q0,q1⟩;go_simp
  try simp only[Act.put,qzF,qzG,qzH]
  refine tk 5 _ (.slice ah m.heap.length ch) rfl (hS0) (fun _ _ _ h=>h) rfl (by kernel_rfl) ?_ ?_
  ·rintro w⟨q0,q1⟩;go_simp
  try simp only[Act.put,qzF,qzG,qzH]
  refine tk 6 _ (.int .i64 (m.heap.length:Int)) rfl (hS0) (fun _ _ _ h=>h) rfl (by kernel_rfl) ?_ ?_
  ·rintro w⟨q0,q1⟩;go_simp
  try simp only[Act.put,qzF,qzG,qzH]
  refine tk 7 _ (VV ⟨4,(m.heap.length:Int)⟩) rfl (hS0) (fun _ _ _ h=>h) rfl (by kernel_rfl) ?_ ?_
  ·rintro w⟨q0,q1⟩;go_simp
  try simp only[Act.put,qzF,qzG,qzH]
  refine xag (rs:=[8]) (by kernel_rfl) (by simp) ?_
  intro i hi;simp only[List.mem_cons,List.not_mem_nil,or_false] at hi;subst hi;refine xa6 (o:=_) rfl (fun K' hK=>?_)
  go_simp;refine hK _ _ (fun _=>hSl _ (xah (qzL _ W).drew (xaj _ _))) ?_
  clear hK K'
  try simp only[Act.put,qzF,qzG,qzH]
  refine xag (rs:=[9]) (by kernel_rfl) (by simp) ?_
  intro i hi;simp only[List.mem_cons,List.not_mem_nil,or_false] at hi;subst hi;refine xa6 (o:=_) rfl (fun K' hK=>?_)
  have hst:ownsAt ((W.drew).alloc (.cells #[.int .i64 4,.int .i64 (m.heap.length:Int)] 27)) 0 27 2 (.slice sa f.stack.length sc) f.stack.length (xal f.stack):=((hF1.later (qzL _ W).drew).stack.alloc _);obtain⟨v',w',hrun,r1,r2,r3,r4⟩:=xaF (w:=(W.drew).alloc (.cells #[.int .i64 4,.int .i64 (m.heap.length:Int)] 27)) 28 28 27 _ 2 16 Tryz.underlying28 xbW rfl (by omega) 0 f.stack.length (.slice sa f.stack.length sc) (xal f.stack) hst (W.drew).heap.size [.int .i64 4,.int .i64 (m.heap.length:Int)] rfl (qzJ (W.drew) _) (by intro u hu;simp only[List.mem_cons,List.not_mem_nil,or_false] at hu;rcases hu with h | h<;>(subst h;rfl)) (by unfold maxLen;omega) (by omega) (by omega)
  obtain⟨a',cap',rfl,-⟩:=r1.form;have hbU:Below wr.heap.size wr (W.drew.alloc (.cells #[.int .i64 4,.int .i64 (m.heap.length:Int)] 27)):=xah (xah HB1.out (qzL _ W).drew) (xaj _ _);obtain⟨d0,df⟩:=xbR HF.out hbU r4;refine xat rfl (.tmp 151) (.tmp 159) 28 rfl (.slice sa f.stack.length sc) (.slice (some ⟨W.drew.heap.size,0,none⟩) 1 1) (.slice a' (f.stack.length+1) cap') (by simp[Act.eval,Act.put]) (by simp[Act.eval,Act.put]) hrun ?_
  obtain⟨z0,z1⟩:=hSl _ (xah (qzL _ W).drew (xaj W.drew (.cells #[.int .i64 4,.int .i64 (m.heap.length:Int)] 27)));have hSa:w'.cell? ⟨w.heap.size+4,0,none⟩=some (.slice sa f.stack.length sc)/\w'.cell? ⟨mb,1,none⟩=some (.slice ah m.heap.length ch):=⟨d0,xcD HF.out r4 (fun _=>by rw[HMa.out.tag];omega) z1⟩
  refine hK _ _ (fun _=>hSa) ?_
  clear hK K'
  try simp only[Act.put,qzF,qzG,qzH]
  refine xag (rs:=[10]) (by kernel_rfl) (by simp) ?_
  intro i hi;simp only[List.mem_cons,List.not_mem_nil,or_false] at hi;subst hi;refine xa6 (o:=_) rfl (fun K' hK=>?_)
  go_simp;refine hK _ _ (fun h=>absurd h (by decide)) ?_
  clear hK K'
  try simp only[Act.put,qzF,qzG,qzH]
  refine xa0 (by kernel_rfl) ?_ _
  try simp only[Act.put,qzF,qzG,qzH]
  obtain⟨⟨T2,e1,e2⟩,e3⟩:=HF.out.pushed (vs:=[⟨4,(m.heap.length:Int)⟩]) hbU (by simp;omega) (by simpa [xal] using r1) r2 r3 r4
  have hM2:=HMa.out.keep e1 e3 (by omega) (by omega) (by omega) (by omega)
  have x2:(w'.setCell ⟨w.heap.size+4,0,none⟩ (.slice a' (f.stack.length+1) cap')).cell? ⟨wr.heap.size,1,none⟩=some (.int .i64 x.a):=(qzI _ _ _ _ (by simp;omega)).trans (xcD HF.out r4 (fun h=>absurd h (Nat.lt_irrefl _)) (qzA (xah (qzL _ W).drew (xaj _ _)) x1))
  obtain⟨ac,cc,hcv,-⟩:=id hM2.cls;obtain⟨ho,sl,hsl,hsl2⟩:=xlY hX x.a;have E1:=hid e1;have E2:=hid e2;have E3:=hid e3;clear hS0 hSl hF1 hM1 d0 df hst hrun r1 r2 r3 r4 hbU e1 e2 e3 c1 c7 cf7 x1
  go_upto_region 38 with (fail)
  generalize (w'.setCell ⟨w.heap.size+4,0,none⟩ (.slice a' (f.stack.length+1) cap'))=U at *;have hSl:∀ w',Below U.heap.size U w'->w'.cell? ⟨mb,0,none⟩=some (.slice ac p.X.cz.length cc)/\w'.cell? ⟨mb,1,none⟩=some (.slice ah m.heap.length ch)/\w'.cell? ⟨mb,2,none⟩=some (.int .i64 p.X.ez)/\w'.cell? ⟨wr.heap.size,1,none⟩=some (.int .i64 x.a):=fun w' hb=>⟨by rw[← hcv];exact qzA hb hM2.c0,qzA hb hM2.c1,qzA hb hM2.c2,qzA hb x2⟩
  have hS0:=hSl _ (qzL _ U).drew;obtain⟨cs,hcs,hsrc⟩:=xhA hM2.heap;have hlen:=hcs.1;have hmk:=xcA sl (by omega)
  have hmbl:=xaf hM2.box;have hbD:Below U.heap.size U U.drew:=(qzL _ U).drew;have hbE:Below U.heap.size U (U.drew.alloc (.cells #[] 64)):=xah hbD (xaj _ _);refine xaY (S:=fun w'=>w'.cell? ⟨mb,0,none⟩=some (.slice ac p.X.cz.length cc)/\w'.cell? ⟨mb,1,none⟩=some (.slice ah m.heap.length ch)/\w'.cell? ⟨mb,2,none⟩=some (.int .i64 p.X.ez)/\w'.cell? ⟨wr.heap.size,1,none⟩=some (.int .i64 x.a)) [24] (by kernel_rfl) ?_
  refine tk 0 _ (.pointer (some ⟨mb,0,none⟩)) rfl (hS0) (fun _ _ _ h=>h) rfl (by kernel_rfl) ?_ ?_
  ·rintro w⟨q0,q1,q2,q3⟩;go_simp
  try simp only[Act.put,qzF,qzG,qzH]
  refine tk 2 _ (.pointer (some ⟨mb,0,none⟩)) rfl (hS0) (fun _ _ _ h=>h) rfl (by kernel_rfl) ?_ ?_
  ·rintro w⟨q0,q1,q2,q3⟩;go_simp
  try simp only[Act.put,qzF,qzG,qzH]
  refine tk 3 _ (.pointer (some ⟨mb,0,none⟩)) rfl (hS0) (fun _ _ _ h=>h) rfl (by kernel_rfl) ?_ ?_
  ·rintro w⟨q0,q1,q2,q3⟩;go_simp
  try simp only[Act.put,qzF,qzG,qzH]
  refine tk 4 _ (.pointer (some ⟨mb,0,none⟩)) rfl (hS0) (fun _ _ _ h=>h) rfl (by kernel_rfl) ?_ ?_
  ·rintro w⟨q0,q1,q2,q3⟩;go_simp
  try simp only[Act.put,qzF,qzG,qzH]
  refine tk 5 _ (.pointer (some ⟨mb,1,none⟩)) rfl (hS0) (fun _ _ _ h=>h) rfl (by kernel_rfl) ?_ ?_
  ·rintro w⟨q0,q1,q2,q3⟩;go_simp
  try simp only[Act.put,qzF,qzG,qzH]
  refine tk 6 _ (.slice ah m.heap.length ch) rfl (hS0) (fun _ _ _ h=>h) rfl (by kernel_rfl) ?_ ?_
  ·rintro w⟨q0,q1,q2,q3⟩;go_simp
  try simp only[Act.put,qzF,qzG,qzH]
  refine tk 8 _ (.pointer (some ⟨wr.heap.size,1,none⟩)) rfl (hS0) (fun _ _ _ h=>h) rfl (by kernel_rfl) ?_ ?_
  ·rintro w⟨q0,q1,q2,q3⟩;go_simp
  try simp only[Act.put,qzF,qzG,qzH]
  refine tk 9 _ (.int .i64 x.a) rfl (hS0) (fun _ _ _ h=>h) rfl (by kernel_rfl) ?_ ?_
  ·rintro w⟨q0,q1,q2,q3⟩;go_simp
  try simp only[Act.put,qzF,qzG,qzH]
  refine tk 10 _ (.pointer (some ⟨mb,0,none⟩)) rfl (hS0) (fun _ _ _ h=>h) rfl (by kernel_rfl) ?_ ?_
  ·rintro w⟨q0,q1,q2,q3⟩;go_simp
  try simp only[Act.put,qzF,qzG,qzH]
  refine tk 11 _ (.pointer (some ⟨mb,0,none⟩)) rfl (hS0) (fun _ _ _ h=>h) rfl (by kernel_rfl) ?_ ?_
  ·rintro w⟨q0,q1,q2,q3⟩;go_simp
  try simp only[Act.put,qzF,qzG,qzH]
  refine tk 12 _ (.pointer (some ⟨mb,0,none⟩)) rfl (hS0) (fun _ _ _ h=>h) rfl (by kernel_rfl) ?_ ?_
  ·rintro w⟨q0,q1,q2,q3⟩;go_simp
  try simp only[Act.put,qzF,qzG,qzH]
  refine tk 13 _ (WV (.slice ac p.X.cz.length cc) (.slice ah m.heap.length ch) p.X.ez) rfl (hS0) (fun _ _ _ h=>h) rfl (by kernel_rfl) ?_ ?_
  ·rintro w⟨q0,q1,q2,q3⟩;go_simp
  try simp only[Act.put,qzF,qzG,qzH]
  refine tk 14 _ (.pointer (some ⟨wr.heap.size,1,none⟩)) rfl (hS0) (fun _ _ _ h=>h) rfl (by kernel_rfl) ?_ ?_
  ·rintro w⟨q0,q1,q2,q3⟩;go_simp
  try simp only[Act.put,qzF,qzG,qzH]
  refine tk 15 _ (.int .i64 x.a) rfl (hS0) (fun _ _ _ h=>h) rfl (by kernel_rfl) ?_ ?_
  ·rintro w⟨q0,q1,q2,q3⟩;go_simp
  try simp only[Act.put,qzF,qzG,qzH]
  refine xag (rs:=[1]) (by kernel_rfl) (by simp) ?_
  intro i hi;simp only[List.mem_cons,List.not_mem_nil,or_false] at hi;subst hi;refine xa6 (o:=_) rfl (fun K' hK=>?_)
  go_simp;refine hK _ _ (fun _=>hSl _ hbE) ?_
  clear hK K'
  try simp only[Act.put,qzF,qzG,qzH]
  refine xag (rs:=[7]) (by kernel_rfl) (by simp) ?_
  intro i hi;simp only[List.mem_cons,List.not_mem_nil,or_false] at hi;subst hi;refine xa6 (o:=_) rfl (fun K' hK=>?_)
  obtain⟨g,cap1,w1,hrun1,hown,hgB,hgl,hbA⟩:=xb3 (w:=U.drew.alloc (.cells #[] 64)) 23 23 64 _ 2 32 Tryz.underlying23 xgX rfl (by omega) (by omega) U.drew.heap.size (qzJ U.drew _) ah m.heap.length ch cs hlen (fun j u hj=>by obtain⟨b,e,h⟩:=hsrc j u hj;exact⟨b,e,qzA hbE h⟩) (by omega)
  have hb1:Below U.heap.size U w1:=xah hbE hbA
  have hgU:U.heap.size<=g:=by
   rcases hgB with h | h
   ·rw[h];exact qzC _
   ·have:=hbE.size;omega
  refine xat rfl (.tmp 162) (.tmp 167) 23 rfl (.slice (some ⟨U.drew.heap.size,0,none⟩) 0 0) (.slice ah m.heap.length ch) (.slice (some ⟨g,0,none⟩) m.heap.length cap1) (by simp[Act.eval,Act.put]) (by simp[Act.eval,Act.put]) hrun1 ?_
  refine hK _ _ (fun _=>hSl _ hb1) ?_
  clear hK K'
  try simp only[Act.put,qzF,qzG,qzH]
  refine xag (rs:=[16]) (by kernel_rfl) (by simp) ?_
  intro i hi;simp only[List.mem_cons,List.not_mem_nil,or_false] at hi;subst hi;refine xa6 (o:=_) rfl (fun K' hK=>?_)
  refine xbv rfl 16 (.func 16) #[.tmp 174,.tmp 176] _ rfl #[] rfl #[WV (.slice ac p.X.cz.length cc) (.slice ah m.heap.length ch) p.X.ez,.int .i64 x.a] (by simp[Act.eval,Act.put]) (cf17 _ _) ?_
  refine (show Calls Tryz.prog 16 #[WV (.slice ac p.X.cz.length cc) (.slice ah m.heap.length ch) p.X.ez,.int .i64 x.a] w1 _ from (xcp ⟨p.X.cz,m.heap,p.X.ez⟩ x.a _ _ w1 (by rw[← hcv];exact (hM2.cls.later xaz hb1)) (hM2.heap.later xaD hb1) ho).mono ?_)
  rintro e w2 ⟨rfl,hbS⟩;rw[show xaP (QW.mk p.X.cz m.heap p.X.ez).cz x.a=(sl:Int) from hsl]
  refine⟨_,rfl,?_⟩;have hb2:Below U.heap.size U w2:=xah hb1 hbS;have hb3:Below U.heap.size U (w2.alloc (.cells (madeCells #[.int .i64 0,.int .i64 0] (sl*2)) 27)):=xah hb2 (xaj _ _);have hb4:Below U.heap.size U ((w2.alloc (.cells (madeCells #[.int .i64 0,.int .i64 0] (sl*2)) 27)).alloc (.cells #[.int .i64 x.a,.slice (some ⟨w2.heap.size,0,none⟩) sl sl] 64)):=xah hb3 (xaj _ _);have hvb:U.heap.size<=w2.heap.size:=hb2.size;refine hK _ _ (fun _=>hSl _ hb2) ?_
  clear hK K'
  try simp only[Act.put,qzF,qzG,qzH]
  refine xag (rs:=[17]) (by kernel_rfl) (by simp) ?_
  intro i hi;simp only[List.mem_cons,List.not_mem_nil,or_false] at hi;subst hi;refine xa6 (o:=_) rfl (fun K' hK=>?_)
  go_simp;refine hK _ _ (fun _=>hSl _ hb3) ?_
  clear hK K'
  try simp only[Act.put,qzF,qzG,qzH]
  refine tk 18 _ (.agg #[.int .i64 x.a,.slice (some ⟨w2.heap.size,0,none⟩) sl sl]) rfl (hSl _ hb3) (fun _ _ _ h=>h) rfl (by kernel_rfl) ?_ ?_
  ·rintro w⟨q0,q1,q2,q3⟩;go_simp
  try simp only[Act.put,qzF,qzG,qzH]
  refine xag (rs:=[19]) (by kernel_rfl) (by simp) ?_
  intro i hi;simp only[List.mem_cons,List.not_mem_nil,or_false] at hi;subst hi;refine xa6 (o:=_) rfl (fun K' hK=>?_)
  go_simp;refine hK _ _ (fun _=>hSl _ hb4) ?_
  clear hK K'
  try simp only[Act.put,qzF,qzG,qzH]
  refine xag (rs:=[20]) (by kernel_rfl) (by simp) ?_
  intro i hi;simp only[List.mem_cons,List.not_mem_nil,or_false] at hi;subst hi;refine xa6 (o:=_) rfl (fun K' hK=>?_)
  have hgw:g<w2.heap.size:=qzE hgl hbS.size;have hst4:ownsAt ((w2.alloc (.cells (madeCells #[.int .i64 0,.int .i64 0] (sl*2)) 27)).alloc (.cells #[.int .i64 x.a,.slice (some ⟨w2.heap.size,0,none⟩) sl sl] 64)) U.heap.size 64 2 (.slice (some ⟨g,0,none⟩) m.heap.length cap1) m.heap.length cs:=(((xdq hown (qzC _)).base (base':=U.heap.size) (fun g' hg'=>by cases hg';exact hgU)).keep (fun g' hg'=>by cases hg';exact hbS.block _ hgl)).alloc _ |>.alloc _
  have hvw:((w2.alloc (.cells (madeCells #[.int .i64 0,.int .i64 0] (sl*2)) 27)).alloc (.cells #[.int .i64 x.a,.slice (some ⟨w2.heap.size,0,none⟩) sl sl] 64)).heap[w2.heap.size]?=some (.cells (xal (List.replicate sl xaU)).toArray 27 (0,0)):=by
   rw[← xji];exact xac (qzJ w2 _) (xaj _ _)
  have hvg:some w2.heap.size≠(Value.slice (some ⟨g,0,none⟩) m.heap.length cap1).ownBlock:=fun e=>by have h1:w2.heap.size=g:=(by simpa [Value.ownBlock] using e);omega
  obtain⟨v5,w5,hrun5,r1,r2,r3,r4⟩:=xaF (w:=(w2.alloc (.cells (madeCells #[.int .i64 0,.int .i64 0] (sl*2)) 27)).alloc (.cells #[.int .i64 x.a,.slice (some ⟨w2.heap.size,0,none⟩) sl sl] 64)) 23 23 64 _ 2 32 Tryz.underlying23 xgX rfl (by omega) U.heap.size m.heap.length (.slice (some ⟨g,0,none⟩) m.heap.length cap1) cs hst4 (w2.heap.size+1) [.int .i64 x.a,.slice (some ⟨w2.heap.size,0,none⟩) sl sl] rfl (by have:=qzJ (w2.alloc (.cells (madeCells #[.int .i64 0,.int .i64 0] (sl*2)) 27)) (.cells #[.int .i64 x.a,.slice (some ⟨w2.heap.size,0,none⟩) sl sl] 64);simpa using this) (by intro u hu;simp only[List.mem_cons,List.not_mem_nil,or_false] at hu;rcases hu with h | h<;>(subst h;rfl)) (by unfold maxLen;omega) (by omega) (by have:=hb4.size;omega)
  obtain⟨a5,cap5,rfl,-⟩:=r1.form;have hb5:Below U.heap.size U w5:=hb4.trans r3;have cf5:∀ o,w5.frozen? ⟨mb,o,none⟩=false:=xam (by rw[hb5.block _ hmbl];exact hM2.box)
  have c51:=(hSl _ hb4).2.1;have c5:w5.cell? ⟨mb,1,none⟩=some (.slice ah m.heap.length ch):=by rw[qzB (show w5.heap[mb]?=_ by rw[hb5.block _ hmbl];exact hM2.box)];rfl
  have hS5:w5.cell? ⟨mb,0,none⟩=some (.slice ac p.X.cz.length cc)/\w5.cell? ⟨mb,1,none⟩=some (.slice ah m.heap.length ch)/\w5.cell? ⟨mb,2,none⟩=some (.int .i64 p.X.ez)/\w5.cell? ⟨wr.heap.size,1,none⟩=some (.int .i64 x.a):=by
   have hc:∀ (b o:Nat) v,b<U.heap.size->U.cell? ⟨b,o,none⟩=some v->w5.cell? ⟨b,o,none⟩=some v:=fun b o v hb h=>by
    unfold World.cell? at h ⊢;rw[hb5.block b hb];exact h
   obtain⟨y0,y1,y2,y3⟩:=hSl _ (qzL _ U)
   exact⟨hc _ _ _ hmbl y0,hc _ _ _ hmbl y1,hc _ _ _ hmbl y2,hc _ _ _ (World.block_lt_of_cell? U ⟨wr.heap.size,1,none⟩ y3) y3⟩
  refine xat rfl (.tmp 168) (.tmp 180) 23 rfl (.slice (some ⟨g,0,none⟩) m.heap.length cap1) (.slice (some ⟨w2.heap.size+1,0,none⟩) 1 1) (.slice a5 (m.heap.length+1) cap5) (by simp[Act.eval,Act.put]) (by simp[Act.eval,Act.put]) hrun5 ?_
  refine hK _ _ (fun _=>hS5) ?_
  clear hK K'
  try simp only[Act.put,qzF,qzG,qzH]
  refine tk 21 _ (.pointer (some ⟨mb,0,none⟩)) rfl (hS5) (fun _ _ _ h=>h) rfl (by kernel_rfl) ?_ ?_
  ·rintro w⟨q0,q1,q2,q3⟩;go_simp
  try simp only[Act.put,qzF,qzG,qzH]
  refine tk 22 _ (.pointer (some ⟨mb,0,none⟩)) rfl (hS5) (fun _ _ _ h=>h) rfl (by kernel_rfl) ?_ ?_
  ·rintro w⟨q0,q1,q2,q3⟩;go_simp
  try simp only[Act.put,qzF,qzG,qzH]
  refine tk 23 _ (.pointer (some ⟨mb,1,none⟩)) rfl (hS5) (fun _ _ _ h=>h) rfl (by kernel_rfl) ?_ ?_
  ·rintro w⟨q0,q1,q2,q3⟩;go_simp
  try simp only[Act.put,qzF,qzG,qzH]
  refine xag (rs:=[24]) (by kernel_rfl) (by simp) ?_
  intro i hi;simp only[List.mem_cons,List.not_mem_nil,or_false] at hi;subst hi;refine xa6 (o:=_) rfl (fun K' hK=>?_)
  go_simp;refine hK _ _ (fun h=>absurd h (by decide)) ?_
  clear hK K'
  try simp only[Act.put,qzF,qzG,qzH]
  refine xa0 (by kernel_rfl) ?_ _
  try simp only[Act.put,qzF,qzG,qzH]
  obtain⟨f1,f2⟩:=xoa (c:=x.a) hM2 hcs hb4 hvb hvw hvg r1 r3 r4 (by omega) (by omega)
  have hE':Ext T1 (xau T2 U 0) wr:=E1.out.trans E3.out.size (xao T2 U 0);have hFU:=E2.out.keep (xao T2 U 0) f2 (by omega) (by omega) (by omega) (by omega) (by omega)
  have hKK:Kp (All K) T1 wr _:=(xdB E3.out fun t ht=>by omega).trans E1.out (xdB f2 fun t ht=>by omega)
  have HE':=hid hE';have HFU:=hid hFU;have HKK:=hid hKK;have F1:=hid f1;have HSL:=hid hsl;clear hE' hFU hKK f1 f2 hsl;go_wp2
  exact Or.inl ⟨rfl,xmn hX HR.out HG.out HX.out HOP.out H6.out HSL.out (by omega) HL.out HE'.out HKK.out F1.out HFU.out⟩
set_option maxRecDepth 8000
theorem xiK {xs:List QC}{name:ByteArray}:∀ (l:List Int),0<=(xcZ xs name l).2->(xcZ xs name l).2=xcu (xbD xs (xcZ xs name l).1) name
 | [],h=>by simp[xcZ] at h
 | k :: r,h=>by
  unfold xcZ at h ⊢
  by_cases hk:0<=xcu (xbD xs k) name
  ·rw[if_pos hk]
  ·rw[if_neg hk] at h ⊢
   exact xiK r h
theorem xgO {xs:List QC}{k:Int}{name:ByteArray}(h:0<=(xaw xs k name).2):∃ mt,xaO xs (xaw xs k name).1 (xaw xs k name).2=some mt:=by
 rw[xeo] at h ⊢;generalize xde xs (xs.length+1) k=l at *;have h1:=xiK l h;unfold xaO;simp only[if_pos h];unfold xbD at h1
 cases hx:xby xs (xcZ xs name l).1 with
 | none=>rw[hx] at h1;simp[xcu,xbt] at h1;omega
 | some x=>
  rw[hx] at h1;simp only[Option.map_some,Option.getD_some] at h1;unfold xcu xbt at h1
  cases hf:x.mz.findIdx? (fun m=>eqN m.name name) with
  | none=>rw[hf] at h1;simp at h1;omega
  | some j=>
   rw[hf] at h1
   simp at h1
   rw[List.findIdx?_eq_some_iff_getElem] at hf;obtain⟨hj,-⟩:=hf;refine⟨x.mz[j],?_⟩;rw[h1]
   simp[hj]
theorem sd41 {W wz:World}{g xb cap' B n:Nat}{args:List QV}(xv:QV)(hb:Below W.heap.size W wz)(hown:wz.ownsRow B 27 2 (.slice (some ⟨g,0,none⟩) n cap') n (xal args))(hn:args.length=n)(hnl:n<=1000000)(hB:W.heap.size<=B)(hxb:W.heap.size<=xb)(hne:xb≠g)(hx:wz.heap[xb]?=some (.cells #[.int .i64 0,.int .i64 0] 27 (0,0))) :
  Below W.heap.size W ((wz.setCell ⟨xb,0,none⟩ (.int .i64 xv.k)).setCell ⟨xb,1,none⟩ (.int .i64 xv.n))/\((wz.setCell ⟨xb,0,none⟩ (.int .i64 xv.k)).setCell ⟨xb,1,none⟩ (.int .i64 xv.n)).heap[xb]?=some (.cells #[.int .i64 xv.k,.int .i64 xv.n] 27 (0,0))/\xaB (fun b=>W.heap.size<=b/\b<((wz.setCell ⟨xb,0,none⟩ (.int .i64 xv.k)).setCell ⟨xb,1,none⟩ (.int .i64 xv.n)).heap.size) ((wz.setCell ⟨xb,0,none⟩ (.int .i64 xv.k)).setCell ⟨xb,1,none⟩ (.int .i64 xv.n)) (.slice (some ⟨g,0,none⟩) n cap') args:=by
 have hrow:((wz.setCell ⟨xb,0,none⟩ (.int .i64 xv.k)).setCell ⟨xb,1,none⟩ (.int .i64 xv.n)).heap[xb]?=some (.cells #[.int .i64 xv.k,.int .i64 xv.n] 27 (0,0)):=by
  rw[xad (xad hx _)];rfl
 have h1:=ownsRow_setCell_other (ownsRow_setCell_other hown (a:=⟨xb,0,none⟩) (by simp[Value.ownBlock];omega) (.int .i64 xv.k)) (a:=⟨xb,1,none⟩) (by simp[Value.ownBlock];omega) (.int .i64 xv.n)
 refine⟨(hb.setCell hxb _).setCell hxb _,hrow,?_⟩;generalize ((wz.setCell ⟨xb,0,none⟩ (.int .i64 xv.k)).setCell ⟨xb,1,none⟩ (.int .i64 xv.n))=V at *
 have hc:Cells xmM 2 (fun b=>W.heap.size<=b/\b<V.heap.size) V (xal args) args:=⟨xbm _,fun i y hy=>by
  obtain⟨d1,d2⟩:=xbO hy
  exact⟨by simpa using d1,d2⟩⟩
 exact xe4 xaK h1 hc hn (fun b h1 h2=>⟨by omega,h2⟩) (by omega)
structure SdA (wr V:World)(f:Fr)(x:QI)(nn na xb:Nat)(asv:Value)(xv:QV):Prop where
 bel:Below wr.heap.size wr V
 inb:InB V wr.heap.size x
 xc:V.heap[xb]?=some (.cells #[.int .i64 xv.k,.int .i64 xv.n] 27 (0,0))
 lo:wr.heap.size<=xb/\wr.heap.size<V.heap.size
 args:xaB (fun b=>wr.heap.size<=b/\b<V.heap.size) V asv (f.stack.drop (nn+1))
 hna:x.a=(na:Int)
 len:f.stack.length=nn+1+na
 hxv:f.stack[nn]?=some xv
structure SdB (p:Rp)(d:Nat)(mb K B b0 xb:Nat)(T:Nat->Nat)(U:World)(m:Mc RSt)(err:Int)(f:Fr)(name:ByteArray)(xv:QV)(args:List QV)(asv av kv st hv sv ov:Value):Prop where
 mac:RMac p T U mb m (20-(d:Int)) err hv sv ov
 fr:RF T K U B f av kv st
 nm:U.cell? ⟨b0,4,none⟩=some (.string name)
 tn:T b0=0
 x:U.heap[xb]?=some (.cells #[.int .i64 xv.k,.int .i64 xv.n] 27 (0,0))
 tx:T xb=0
 args:xaB (Fx T U) U asv args
section
variable {p:Rp} {d:Nat} {mb K B b0 xb:Nat} {T T':Nat->Nat} {U U':World} {m m':Mc RSt} {err err':Int} {f f':Fr} {name:ByteArray} {xv:QV} {args:List QV} {asv av kv st hv sv ov hv' sv' ov':Value}
theorem SdB.keep {S:Nat->Prop}(h:SdB p d mb K B b0 xb T U m err f name xv args asv av kv st hv sv ov)(e:Ext T T' U)(k:Kp S T U U')(h0:¬ S 0)(h4:¬ S 4)(hK:¬ S K)(h1:¬ S (K+1))(h2:¬ S (K+2))(hM:RMac p T' U' mb m' (20-(d:Int)) err' hv' sv' ov'):SdB p d mb K B b0 xb T' U' m' err' f name xv args asv av kv st hv' sv' ov':=
 ⟨hM,h.fr.keep e k h0 h4 hK h1 h2,k.cell h.nm (by rw[h.tn];exact h0),by rw[e _ (World.block_lt_of_cell? U ⟨b0,4,none⟩ h.nm)];exact h.tn,k.held h.x (by rw[h.tx];exact h0),by rw[e _ (xaf h.x)];exact h.tx,h.args.fx xaK e k h0⟩
theorem SdB.later (h:SdB p d mb K B b0 xb T U m err f name xv args asv av kv st hv sv ov)(hb:Below U.heap.size U U'):SdB p d mb K B b0 xb T U' m err f name xv args asv av kv st hv sv ov:=h.keep (S:=fun _=>False) (.refl _ _) (.of_below hb) id id id id id (h.mac.later hb)
theorem SdB.x0 (h:SdB p d mb K B b0 xb T U m err f name xv args asv av kv st hv sv ov):U.cell? ⟨xb,0,none⟩=some (.int .i64 xv.k):=by rw[qzB h.x];rfl
theorem SdB.x1 (h:SdB p d mb K B b0 xb T U m err f name xv args asv av kv st hv sv ov):U.cell? ⟨xb,1,none⟩=some (.int .i64 xv.n):=by rw[qzB h.x];rfl
theorem sd42 {wr w V:World}{x:QI}{nn na:Nat}{sa:Option Addr}{sc:Nat}(hM:RMac p T wr mb m (20-(d:Int)) 0 hv sv ov)(hF:RF T K wr w.heap.size f av kv (.slice sa f.stack.length sc))(hA:SdA wr V f x nn na xb asv xv) :
  SdB p d mb K w.heap.size wr.heap.size xb (xau T wr 0) (V.setCell ⟨w.heap.size+4,0,none⟩ (.slice sa nn sc)) m 0 { f with stack:=f.stack.take nn } x.name xv (f.stack.drop (nn+1)) asv av kv (.slice sa nn sc) hv sv ov/\Kp (fun t=>t=K) T wr (V.setCell ⟨w.heap.size+4,0,none⟩ (.slice sa nn sc)):=by
 have hp:=hF.pos;have hlt:=xaf hF.sb;have hlm:=xaf hM.box;obtain⟨hl1,hl2⟩:=hA.lo;have hlen:=hA.len;have ex:=xao T wr 0;have hMV:=hM.keep (S:=fun _=>False) ex (.of_below hA.bel) id id id id
 have hFV:=hF.keep (S:=fun _=>False) ex (.of_below hA.bel) id id id id id
 have hk:Kp (fun t=>t=K) (xau T wr 0) V (V.setCell ⟨w.heap.size+4,0,none⟩ (.slice sa nn sc)):=(Kp.refl _ _ _).set (fun _=>hFV.t4) _ _
 have hF2:=hFV.cut (n:=nn) (by omega) hk (xkK hFV.sb _)
 have hM2:=hMV.keep (.refl _ _) hk (by omega) (by omega) (by omega) (by omega)
 refine⟨⟨hM2,hF2,hk.cell hA.inb.x4 (by rw[xav (qzC _)];omega),xav (qzC _),hk.held hA.xc (by rw[xav hl1];omega),xav hl1,?_⟩,(Kp.of_below hA.bel).trans ex hk⟩
 exact hA.args.keep xaK (Keeps.of_block fun b hb _=>xab (by omega) _) fun b hb=>⟨qzE hb.2 hk.size,xav hb.1⟩
theorem xhF (h:RMac p T U mb m (20-(d:Int)) err hv sv ov){wz w12 w18:World}(hbz:Below U.heap.size U wz)(r4:∀ b,b<wz.heap.size->some b≠sv.ownBlock->w12.heap[b]?=wz.heap[b]?)(hb18:Below w12.heap.size w12 w18)(hz:wz.heap.size<=w12.heap.size):ownsAt w18 0 3 1 ov m.st.length (xcw m.st):=by
 refine h.of.keep fun g hg=>?_
 have hl:=(h.of.lt g hg).2;have hs:=hbz.size;rw[hb18.block g (by omega),r4 g (by omega) (fun e=>by have:=h.stag g e.symm;rw[h.otag g hg] at this;omega),hbz.block g hl]
theorem xeU (h:RMac p T U mb m (20-(d:Int)) 0 hv sv ov){wz w12 w18 w19:World}{q:QS × Int}(hbz:Below U.heap.size U wz)
  (r1:ownsAt w12 0 67 3 sv' (m.st.length+1) (xcG m.st++[.int .i64 q.1.cls,.string q.1.name,.int .i64 q.1.at'])) (r2:sv'.ownBlock=sv.ownBlock\/∃ g,sv'.ownBlock=some g/\wz.heap.size<=g) (r3:Below 0 wz w12) (r4:∀ b,b<wz.heap.size->some b≠sv.ownBlock->w12.heap[b]?=wz.heap[b]?) (hb18:Below w12.heap.size w12 w18)
  (s1:ownsAt w19 0 3 1 ov' (m.st.length+1) (xcw m.st++[.int .i64 q.2])) (s2:ov'.ownBlock=ov.ownBlock\/∃ g,ov'.ownBlock=some g/\w18.heap.size<=g) (s3:Below 0 w18 w19) (s4:∀ b,b<w18.heap.size->some b≠ov.ownBlock->w19.heap[b]?=w18.heap[b]?) :
  (∃ T',Ext T T' U/\RMac p T' ((w19.setCell ⟨mb,8,none⟩ sv').setCell ⟨mb,9,none⟩ ov') mb { m with st:=m.st++[q] } (20-(d:Int)) 0 hv sv' ov')/\Kp (fun t=>t=1\/t=2\/t=3) T U ((w19.setCell ⟨mb,8,none⟩ sv').setCell ⟨mb,9,none⟩ ov'):=by
 have hlm:=xaf h.box;have z1:=hbz.size;have z2:=r3.size;have z3:=hb18.size;have z4:=s3.size;have hso:∀ g,sv.ownBlock=some g->g<U.heap.size:=fun g hg=>(h.sites.lt g hg).2
 have hoo:∀ g,ov.ownBlock=some g->g<U.heap.size:=fun g hg=>(h.of.lt g hg).2
 have k0:Kp (fun t=>t=1\/t=2\/t=3) T U w19:=⟨s3.os.trans (hb18.os.trans (r3.os.trans hbz.os)),s3.tape.trans (hb18.tape.trans (r3.tape.trans hbz.tape)),s3.output.trans (hb18.output.trans (r3.output.trans hbz.output)),by omega,fun b hb hs=>by
  rw[s4 b (by omega) (fun e=>hs (Or.inr (Or.inr (h.otag b e.symm)))),hb18.block b (by omega),r4 b (by omega) (fun e=>hs (Or.inr (Or.inl (h.stag b e.symm)))),hbz.block b hb]⟩
 have k1:Kp (fun t=>t=1\/t=2\/t=3) T U ((w19.setCell ⟨mb,8,none⟩ sv').setCell ⟨mb,9,none⟩ ov'):=(k0.set (fun _=>Or.inl h.tag) _ _).set (fun _=>Or.inl h.tag) _ _
 refine⟨?_,k1⟩
 have hbox:w19.heap[mb]?=some (RB p m (20-(d:Int)) 0 hv sv ov):=by
  rw[s4 mb (by omega) (fun e=>by have:=h.otag mb e.symm;rw[h.tag] at this;omega),hb18.block mb (by omega),r4 mb (by omega) (fun e=>by have:=h.stag mb e.symm;rw[h.tag] at this;omega),hbz.block mb hlm];exact h.box
 have hb':((w19.setCell ⟨mb,8,none⟩ sv').setCell ⟨mb,9,none⟩ ov').heap[mb]?=some (RB p { m with st:=m.st++[q] } (20-(d:Int)) 0 hv sv' ov'):=xnq (xnH hbox sv') _ _
 have hsb:∀ g,sv'.ownBlock=some g->g≠mb/\some g≠ov'.ownBlock/\some g≠ov.ownBlock/\g<w12.heap.size/\(g<U.heap.size->T g=2):=fun g hg=>by
  have hlt:=(r1.lt g hg).2
  rcases r2 with e | ⟨g',e,hg'⟩
  ·rw[e] at hg;have t:=h.stag g hg;have hl:=hso g hg;refine⟨fun e=>by rw[e,h.tag] at t;omega,fun e=>?_,fun e=>by have:=h.otag g e.symm;omega,hlt,fun _=>t⟩
   rcases s2 with e2 | ⟨g2,e2,hg2⟩
   ·have:=h.otag g (by rw[← e2];exact e.symm);omega
   ·rw[e2] at e;cases e;omega
  ·rw[e] at hg;cases hg;refine⟨by omega,fun e=>?_,fun e=>by have:=hoo g e.symm;omega,hlt,fun h=>by omega⟩
   rcases s2 with e2 | ⟨g2,e2,hg2⟩
   ·have:=hoo g (by rw[← e2];exact e.symm);omega
   ·rw[e2] at e;cases e;omega
 have hob:∀ g,ov'.ownBlock=some g->g≠mb/\(g<U.heap.size->T g=3):=fun g hg=>by
  rcases s2 with e | ⟨g',e,hg'⟩
  ·rw[e] at hg;have t:=h.otag g hg
   exact⟨fun e=>by rw[e,h.tag] at t;omega,fun _=>t⟩
  ·rw[e] at hg;cases hg
   exact⟨by omega,fun h=>by omega⟩
 have hr1:ownsAt ((w19.setCell ⟨mb,8,none⟩ sv').setCell ⟨mb,9,none⟩ ov') 0 67 3 sv' (m.st.length+1) (xcG m.st++[.int .i64 q.1.cls,.string q.1.name,.int .i64 q.1.at']):=r1.keep fun g hg=>by
  obtain⟨a1,a2,a3,a4,-⟩:=hsb g hg;rw[xab a1,xab a1,s4 g (by omega) a3,hb18.block g a4]
 have hs1:ownsAt ((w19.setCell ⟨mb,8,none⟩ sv').setCell ⟨mb,9,none⟩ ov') 0 3 1 ov' (m.st.length+1) (xcw m.st++[.int .i64 q.2]):=s1.keep fun g hg=>by
  rw[xab (hob g hg).1,xab (hob g hg).1]
 generalize ((w19.setCell ⟨mb,8,none⟩ sv').setCell ⟨mb,9,none⟩ ov')=V at *
 obtain⟨T',hT,hT2,hT3⟩:∃ T',Ext T T' U/\(∀ g,sv'.ownBlock=some g->T' g=2)/\(∀ g,ov'.ownBlock=some g->T' g=3):=by
  refine⟨fun b=>if b<U.heap.size then T b else if sv'.ownBlock=some b then 2 else 3,fun b hb=>by simp only[if_pos hb],fun g hg=>?_,fun g hg=>?_⟩
  ·by_cases hl:g<U.heap.size
   ·simp only[if_pos hl];exact (hsb g hg).2.2.2.2 hl
   ·simp only[if_neg hl,if_pos hg]
  ·by_cases hl:g<U.heap.size
   ·simp only[if_pos hl];exact (hob g hg).2 hl
   ·simp only[if_neg hl];rw[if_neg (fun e=>(hsb g e).2.1 hg.symm)]
 refine⟨T',hT,hb',by rw[hT _ hlm];exact h.tag,h.cls.fx xaz hT k1 (by omega),h.heap.fx xaD hT k1 (by omega),?_,hT2,?_,hT3⟩
 ·rw[xdP,List.length_append];exact hr1
 ·rw[xd4,List.length_append];exact hs1
end
section
variable {p:Rp} {d:Nat} {T T1 T2:Nat->Nat} {w wr w2:World} {mb K:Nat} {R:Mc RSt × QV × Int} {av kv:Value} {gk:Nat} {at' at2:Value} {m:Mc RSt} {f:Fr}
variable {c:Int} {n1 n2 n3 G' k:Nat} {x:QI} {hv sv ov st st':Value} {U w':World}
theorem xmc (hx:NxOk f k x)(hop:x.op=14)(hfast:f.fast=false)(hc:f.cls=c){nn na:Nat}(hna:x.a=(na:Int))(hlen:f.stack.length=nn+1+na){xv:QV}(hxv:f.stack[nn]?=some xv){kl:Int}(hkl:xar m.heap xv=kl){r:Mc RSt × QV × Int}(hr:xa1 p.E d { m with st:=m.st++[(⟨c,f.meth.name,(k:Int)⟩,kl)] } (xaw p.X.cz kl x.name).1 (xaw p.X.cz kl x.name).2 xv (f.stack.drop (nn+1))=r) :
  xan (xa1 p.E d) p.E d m { f with pc:=f.pc+1 } f.pc x=if r.2.2≠0 then (r.1,{ f with pc:=f.pc+1 },r.2.2) else (r.1,{ f with pc:=f.pc+1,stack:=f.stack.take nn++[r.2.1] },0):=by
 have hk:xbu f.stack x.a=nn+1:=by unfold xbu;rw[hna];omega
 have hb:xaW (f.stack.take (nn+1)) 0=xv:=by
  unfold xaW xaM;have hl:(f.stack.take (nn+1)).length=nn+1:=by rw[List.length_take];omega
  rw[hl,if_neg (by omega),show (((nn+1:Nat):Int)-1-0).toNat=nn by omega,List.getElem?_take,if_pos (by omega),hxv]
  rfl
 have hd:(f.stack.take (nn+1)).dropLast=f.stack.take nn:=by
  have hl:(f.stack.take (nn+1)).length=nn+1:=by rw[List.length_take];omega
  rw[List.dropLast_eq_take,hl,List.take_take]
  congr 1
  omega
 rw[xbK _ _ (by omega)];unfold xcy;rw[if_neg (by omega),if_neg (by omega),if_neg (by omega),if_neg (by omega),if_neg (by omega),if_pos hop]
 unfold xcm;simp only[hk,hb,hkl,hd]
 have hs:Fr.site { f with pc:=f.pc+1 } f.pc x=⟨c,f.meth.name,(k:Int)⟩:=by
  unfold Fr.site;simp only[hfast,hc,hx.pc];rfl
 rw[hs]
 show (if (xa1 p.E d { m with st:=m.st++[(⟨c,f.meth.name,(k:Int)⟩,kl)] } (xaw p.X.cz kl x.name).1 (xaw p.X.cz kl x.name).2 xv (f.stack.drop (nn+1))).2.2≠0 then _ else _)=_
 rw[show xa1 p.E d { heap:=m.heap,sz_:=m.sz_,turns:=m.turns,st:=(p.E.look m.st ⟨c,f.meth.name,(k:Int)⟩ kl x.name).1 } (p.E.look m.st ⟨c,f.meth.name,(k:Int)⟩ kl x.name).2.1 (p.E.look m.st ⟨c,f.meth.name,(k:Int)⟩ kl x.name).2.2 xv (f.stack.drop (nn+1))=r from hr]
 rw[hr]
theorem xiG (hX:Rx p)(hR:BdR p d T w mb K R av kv gk at' T1 m f 0 wr)(hg:gk=G'+1)(hx:NxOk f k x)(hop:x.op=14)(hL:xiO c n1 n2 n3 f){r:Mc RSt × QV × Int}{nn:Nat}(hr:xan (xa1 p.E d) p.E d m { f with pc:=f.pc+1 } f.pc x=if r.2.2≠0 then (r.1,{ f with pc:=f.pc+1 },r.2.2) else (r.1,{ f with pc:=f.pc+1,stack:=f.stack.take nn++[r.2.1] },0)){W2:World}(hE:Ext T1 T2 wr)(hK:Kp (All K) T1 wr W2)(hM:RMac p T2 W2 mb r.1 (20-(d:Int)) r.2.2 hv sv ov)(hF:r.2.2=0->RF T2 K W2 w.heap.size { f with stack:=f.stack.take nn++[r.2.1] } av kv st) :
  BdX p d T w mb K R av kv c n1 n2 n3 G' (.int .i64 ((k:Int)+1)) W2:=by
 by_cases h0:r.2.2=0
 ·rw[if_neg (by omega)] at hr
  rw[h0] at hM
  exact xcj hX hR hg hx (by omega) hr hE hK hM (fun _=>⟨_,(hF h0).at _⟩) (fun _=>by show f.pc+1=_;rw[hx.pc]) (fun _=>hL)
 ·rw[if_pos h0] at hr
  exact xcj hX hR hg hx (by omega) hr hE hK hM (fun h=>absurd h h0) (fun h=>absurd h h0) (fun h=>absurd h h0)
theorem xiF {at2':Int}(hj:¬ 0<=(xaw p.X.cz at2' x.name).2){m4:Mc RSt}{xv:QV}{args:List QV}:xa1 p.E d m4 (xaw p.X.cz at2' x.name).1 (xaw p.X.cz at2' x.name).2 xv args=(m4,xaU,10):=by
 have h:xaO p.E.cz (xaw p.X.cz at2' x.name).1 (xaw p.X.cz at2' x.name).2=none:=by
  unfold xaO;simp only[if_neg hj]
  cases xby p.E.cz (xaw p.X.cz at2' x.name).1<;>rfl
 cases d<;>(unfold xa1 xbj;rw[h])
end
end Go.Proofs.YtapbeiccodnniaaGreat
