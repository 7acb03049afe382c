/- A part. -/
import Derived.Test.YtapbeiccodnniaaGreatM18
namespace Go.Proofs.YtapbeiccodnniaaGreat
open Go.ChangeShapes Go.WideShapes Go.ChangeAt Go.RowKit
set_option linter.unusedSimpArgs false
set_option linter.unusedVariables false
set_option maxHeartbeats 8000000
set_option maxRecDepth 100000
theorem xoO {w w':World}{B g n cap:Nat}{cs:List Value}(h:w.ownsRow B 27 2 (.slice (some ⟨g,0,none⟩) n cap) n cs)(hb:Below w.heap.size w w'):w'.ownsRow B 27 2 (.slice (some ⟨g,0,none⟩) n cap) n cs:=by
 obtain⟨h0,h1 | ⟨g',c,cur,e,h1,h2,h3⟩⟩:=h
 ·cases h1.1
 ·exact⟨h0,Or.inr ⟨g',c,cur,e,h1,by rw[hb.block _ (xaf h2)];exact h2,h3⟩⟩
theorem xpg {W w1:World}{g cap' B n:Nat}{args:List QV}(xv:QV)(hb:Below W.heap.size W w1)(hown:w1.ownsRow B 27 2 (.slice (some ⟨g,0,none⟩) n cap') n (xal args))(hn:args.length=n)(hnl:n<=1000000)(hB:W.heap.size<=B) :
  Below W.heap.size W (w1.alloc (.cells #[.int .i64 xv.k,.int .i64 xv.n] 27))/\(w1.alloc (.cells #[.int .i64 xv.k,.int .i64 xv.n] 27)).heap[w1.heap.size]?=some (.cells #[.int .i64 xv.k,.int .i64 xv.n] 27 (0,0))/\xaB (fun b=>W.heap.size<=b/\b<(w1.alloc (.cells #[.int .i64 xv.k,.int .i64 xv.n] 27)).heap.size) (w1.alloc (.cells #[.int .i64 xv.k,.int .i64 xv.n] 27)) (.slice (some ⟨g,0,none⟩) n cap') args:=by
 have h1:=xoO hown (xaj w1 (.cells #[.int .i64 xv.k,.int .i64 xv.n] 27));refine⟨xah hb (xaj _ _),qzJ w1 _,?_⟩;generalize (w1.alloc (.cells #[.int .i64 xv.k,.int .i64 xv.n] 27))=V at *
 have hc:Cells xmM 2 (fun b=>W.heap.size<=b/\b<V.heap.size) V (xal args) args:=⟨xbm _,fun i y hy=>by
  obtain⟨d1,d2⟩:=xbO hy
  exact⟨by simpa using d1,d2⟩⟩
 exact xe4 xaK h1 hc hn (fun b h1 h2=>⟨by omega,h2⟩) (by omega)
theorem xn3 {wr W V:World}{f:Fr}{x:QI}{nn na xb:Nat}{asv:Value}{xv:QV}(hb:Below wr.heap.size wr W)(hl:wr.heap.size<W.heap.size)(hx:InB W wr.heap.size x)(h1:Below W.heap.size W V)(h2:V.heap[xb]?=some (.cells #[.int .i64 xv.k,.int .i64 xv.n] 27 (0,0)))(h3:xaB (fun b=>W.heap.size<=b/\b<V.heap.size) V asv (f.stack.drop (nn+1)))(hxl:W.heap.size<=xb)(hna:x.a=(na:Int))(hlen:f.stack.length=nn+1+na)(hxv:f.stack[nn]?=some xv):SdA wr V f x nn na xb asv xv:=
 have hs:=h1.size
 ⟨xah hb h1,hx.later h1,h2,⟨by omega,by omega⟩,h3.mono xaK fun b hb=>⟨by omega,hb.2⟩,hna,hlen,hxv⟩
theorem br14:Br 14:=by
 intro p d T T1 w wr W mb K R av kv gk G' m f c n1 n2 n3 k x hv sv ov sa sc H hop
 intros
 rename_i hN K9 hK9;have HH:=hid H;obtain⟨hX,HEn,HR,HG,HX,HMa,HF,HL,HB1,HI,hM1,hF1,hsc1,hsc2,hBl,hWl,hxb,⟨aa,ca,rfl,hca⟩,ht40⟩:=H.pre;have HOP:=hid hop;clear hop;unfold xdw;unfold sw9 at hK9;have hp5:=hF1.pos;have hfw:=HX.out.few;obtain⟨hs0,hs4⟩:=HX.out.send HOP.out;have hneed:=HX.out.need;obtain⟨na,hna⟩:∃ na:Nat,x.a=(na:Int):=⟨x.a.toNat,by omega⟩
 have hnx:na+1<=f.stack.length:=by
  have hop:x.op=14:=HOP.out;have hn:(xaN x k).need=x.a+1:=by unfold xaN;simp[hop]
  rw[hn,hna] at hneed;omega
 obtain⟨nn,hlen⟩:∃ nn,f.stack.length=nn+1+na:=⟨f.stack.length-1-na,by omega⟩
 obtain⟨xv,hxv⟩:∃ xv,f.stack[nn]?=some xv:=⟨f.stack[nn]'(by omega),by simp⟩
 have HN:=hid (And.intro hna (And.intro hlen hxv));have hv:=hF1.stack.vals (by omega)
 obtain⟨a',cap',e',-,-,-,hrow⟩:=hv
 cases e'
 obtain⟨gs,os,rfl,hbo,y0,y1⟩:=hrow nn xv hxv;simp only[Nat.add_zero] at y0;have htl:=hF1.stack.tail (k:=nn+1) (by omega) (by omega)
 have hdl:(f.stack.drop (nn+1)).length=na:=by rw[List.length_drop];omega
 rw[hdl] at htl;obtain⟨at1,ct1,et1,-,-,hby,hrw⟩:=htl;simp only[Value.slice.injEq] at et1;obtain⟨et1,-,et3⟩:=et1;subst et1;subst et3;obtain⟨vs,hvs,hvsrc⟩:=hrw.cells xaK;have hvc:=xco (E:=()) hvs;subst hvc;have hvl:(xal (f.stack.drop (nn+1))).length=na*2:=by rw[xbm,hdl]
 obtain⟨ad,HAD⟩:∃ ad,Hid (ad=if sc=nn+1 then some (Addr.mk gs os none) else some (Addr.mk gs (os+(nn+1)*2) none)):=⟨_,rfl⟩
 have HV:Hid (∀ (j:Nat) (u:Value),(xal (f.stack.drop (nn+1)))[j]?=some u->∃ b,ad=some b/\W.cell? (b.add j)=some u):=by
  intro j u hj
  by_cases hsn:sc=nn+1
  ·have:f.stack.drop (nn+1)=[]:=List.eq_nil_of_length_eq_zero (by omega)
   rw[this] at hj
   simp[xal] at hj
  ·rw[HAD.out,if_neg hsn]
   exact hvsrc j u hj
 have x1:=hxb.x1;rw[hna] at x1;have hw40:IntKind.i64.wrap ((f.stack.length:Int)-(na:Int))=((nn+1:Nat):Int):=by rw[xaE (by omega) (by omega)];omega
 have hwn:IntKind.i64.wrap (((nn+1:Nat):Int)-1)=(nn:Int):=by rw[xaE (by omega) (by omega)];omega
 have hst0:=hF1.st;have hWl2:wr.heap.size<W.heap.size:=World.block_lt_of_cell? W ⟨wr.heap.size,1,none⟩ hxb.x1;have hSl:∀ w',Below W.heap.size W w'->w'.cell? ⟨w.heap.size+4,0,none⟩=some (.slice (some ⟨gs,os,none⟩) f.stack.length sc)/\w'.cell? ⟨gs,os+nn*2,none⟩=some (.int .i64 xv.k)/\w'.cell? ⟨gs,os+nn*2+1,none⟩=some (.int .i64 xv.n):=fun w' hb=>⟨qzA hb hF1.st,qzA hb y0,qzA hb y1⟩
 have hS0:=hSl _ (qzL _ W).drew;clear hrow hrw hvsrc hvs hna hM1 hneed hs0 hs4 hbo
 go_upto_region 41 with (fail)
 clear hst0 x1 hw40;refine xaY (S:=fun w'=>w'.cell? ⟨w.heap.size+4,0,none⟩=some (.slice (some ⟨gs,os,none⟩) f.stack.length sc)/\w'.cell? ⟨gs,os+nn*2,none⟩=some (.int .i64 xv.k)/\w'.cell? ⟨gs,os+nn*2+1,none⟩=some (.int .i64 xv.n)) [12] (by kernel_rfl) ?_
 refine tj 1 (⟨some 193,.load 28 (.tmp 12),28,_,_,none⟩) (.slice (some ⟨gs,os,none⟩) f.stack.length sc) (hS0) ?_ ?_
 ·rintro w⟨q0,q1,q2⟩;go_simp
 try simp only[Act.put,qzF,qzG,qzH]
 refine tj 2 (⟨some 194,.move (.tmp 18),3,_,_,none⟩) (.int .i64 ((nn+1:Nat):Int)) (hS0) ?_ ?_
 ·rintro w⟨q0,q1,q2⟩;go_simp
 try simp only[Act.put,qzF,qzG,qzH]
 refine tj 3 (⟨some 195,.slice 28 (.tmp 193) (some (.tmp 194)) none none,28,_,_,none⟩) (.slice ad na (sc-(nn+1))) (hS0) ?_ ?_
 ·rintro w⟨q0,q1,q2⟩;go_simp;rw[if_pos (by omega),HAD.out]
 try simp only[Act.put,qzF,qzG,qzH]
 refine tj 5 (⟨some 197,.load 28 (.tmp 12),28,_,_,none⟩) (.slice (some ⟨gs,os,none⟩) f.stack.length sc) (hS0) ?_ ?_
 ·rintro w⟨q0,q1,q2⟩;go_simp
 try simp only[Act.put,qzF,qzG,qzH]
 refine tj 6 (⟨some 198,.move (.tmp 18),3,_,_,none⟩) (.int .i64 ((nn+1:Nat):Int)) (hS0) ?_ ?_
 ·rintro w⟨q0,q1,q2⟩;go_simp
 try simp only[Act.put,qzF,qzG,qzH]
 refine tj 7 (⟨some 199,.binOp .sub 3 (.tmp 198) (.const (.int .i64 1)) 3,3,_,_,none⟩) (.int .i64 (nn:Int)) (hS0) ?_ ?_
 ·rintro w⟨q0,q1,q2⟩;go_simp
  exact xaE (by omega) (by omega)
 try simp only[Act.put,qzF,qzG,qzH]
 refine tj 8 (⟨some 200,.indexAddr 28 (.tmp 197) (.tmp 199),0,_,_,none⟩) (.pointer (some ⟨gs,os+nn*2,none⟩)) (hS0) ?_ ?_
 ·rintro w⟨q0,q1,q2⟩;go_simp;intro h;omega
 try simp only[Act.put,qzF,qzG,qzH]
 refine tj 9 (⟨some 201,.load 27 (.tmp 200),27,_,_,none⟩) (VV xv) (hS0) ?_ ?_
 ·rintro w⟨q0,q1,q2⟩;go_simp
 try simp only[Act.put,qzF,qzG,qzH]
 refine xag (rs:=[0,10]) (by kernel_rfl) (by simp) ?_
 intro i hi;simp only[List.mem_cons,List.not_mem_nil,or_false] at hi
 rcases hi with hi | hi
 ·subst hi;refine xa6 (o:=⟨some 192,.buildSlice 28 0 #[],28,_,_,none⟩) rfl (fun K' hK=>?_)
  have hbz:Below W.heap.size W (W.drew.alloc (.cells #[] 27)):=xah (qzL _ W).drew (xaj _ _);go_simp;refine hK _ _ (fun _=>hSl _ hbz) ?_
  clear hK K'
  try simp only[Act.put,qzF,qzG,qzH]
  refine xag (rs:=[4,10]) (by kernel_rfl) (by simp) ?_
  intro i hi;simp only[List.mem_cons,List.not_mem_nil,or_false] at hi
  rcases hi with hi | hi
  ·subst hi;refine xa6 (o:=⟨some 196,.call ⟨.builtin .append,#[.tmp 192,.tmp 195],#[28,28]⟩,28,_,_,none⟩) rfl (fun K' hK=>?_)
   obtain⟨g,cap1,w1,hrun1,hown,hgB,hgl,hbA⟩:=xb3 (w:=(W.drew.alloc (.cells #[] 27))) 28 28 27 _ 2 16 Tryz.underlying28 xbW rfl (by omega) (by omega) (W.drew.heap.size) (qzJ W.drew _) ad na (sc-(nn+1)) (xal (f.stack.drop (nn+1))) hvl (fun j u hj=>by obtain⟨b,e,h⟩:=HV.out j u hj;exact⟨b,e,qzA hbz h⟩) (by omega)
   have hb1:Below W.heap.size W w1:=xah hbz hbA;refine xat rfl (.tmp 192) (.tmp 195) 28 rfl (.slice (some ⟨W.drew.heap.size,0,none⟩) 0 0) (.slice ad na (sc-(nn+1))) (.slice (some ⟨g,0,none⟩) na cap1) (by simp[Act.eval,Act.put]) (by simp[Act.eval,Act.put]) hrun1 ?_
   refine hK _ _ (fun _=>hSl _ hb1) ?_
   clear hK K'
   try simp only[Act.put,qzF,qzG,qzH]
   refine xag (rs:=[10]) (by kernel_rfl) (by simp) ?_
   intro i hi;simp only[List.mem_cons,List.not_mem_nil,or_false] at hi;subst hi;refine xa6 (o:=⟨some 20,.alloc 27,0,_,_,none⟩) rfl (fun K' hK=>?_)
   go_simp;refine hK _ _ (fun _=>hSl _ (xah hb1 (xaj _ _))) ?_
   clear hK K'
   try simp only[Act.put,qzF,qzG,qzH]
   refine tj 11 (⟨some 19,.assign (.tmp 196),28,_,_,none⟩) (.slice (some ⟨g,0,none⟩) na cap1) (hSl _ (xah hb1 (xaj _ _))) ?_ ?_
   ·rintro w⟨q0,q1,q2⟩;go_simp
   try simp only[Act.put,qzF,qzG,qzH]
   have hx0:(w1.alloc (.cells #[.int .i64 0,.int .i64 0] 27)).heap[w1.heap.size]?=some (.cells #[.int .i64 0,.int .i64 0] 27 (0,0)):=qzJ w1 _;have x00:(w1.alloc (.cells #[.int .i64 0,.int .i64 0] 27)).cell? ⟨w1.heap.size,0,none⟩=some (.int .i64 0):=by rw[qzB hx0];rfl
   have x01:(w1.alloc (.cells #[.int .i64 0,.int .i64 0] 27)).cell? ⟨w1.heap.size,1,none⟩=some (.int .i64 0):=by rw[qzB hx0];rfl
   have x0f:=xam hx0;obtain⟨e1,e2,e3⟩:=xpg (n:=na) xv hb1 hown (by rw[List.length_drop];omega) (by omega) (qzC _)
   have hgg:W.heap.size<=w1.heap.size:=hb1.size;refine xag (rs:=[12]) (by kernel_rfl) (by simp) ?_
   intro i hi;simp only[List.mem_cons,List.not_mem_nil,or_false] at hi;subst hi;refine xa6 (o:=⟨none,.store 27 (.tmp 20) (.tmp 201),0,_,_,none⟩) rfl (fun K' hK=>?_)
   go_simp;refine hK _ _ (fun h=>absurd h (by decide)) ?_
   clear hK K'
   try simp only[Act.put,qzF,qzG,qzH]
   refine xa0 (by kernel_rfl) ?_ _
   try simp only[Act.put,qzF,qzG,qzH]
   have HE1:=hid e1;have HE2:=hid e2;have HE3:=hid e3;clear e1 e2 e3 hSl hS0 hF1 x00 x01 x0f hx0
   go_upto_region 42 with (fail)
   exact xnN HH.out HOP.out (xn3 HB1.out hWl2 hxb HE1.out HE2.out HE3.out hgg HN.out.1 HN.out.2.1 HN.out.2.2) (by assumption) (by assumption)
  ·subst hi;refine xa6 (o:=⟨some 20,.alloc 27,0,_,_,none⟩) rfl (fun K' hK=>?_)
   replace hbz:Below W.heap.size W ((W.drew.alloc (.cells #[] 27)).alloc (.cells #[.int .i64 0,.int .i64 0] 27)):=xah hbz (xaj _ _);go_simp;refine hK _ _ (fun _=>hSl _ hbz) ?_
   clear hK K'
   try simp only[Act.put,qzF,qzG,qzH]
   refine xag (rs:=[4]) (by kernel_rfl) (by simp) ?_
   intro i hi;simp only[List.mem_cons,List.not_mem_nil,or_false] at hi;subst hi;refine xa6 (o:=⟨some 196,.call ⟨.builtin .append,#[.tmp 192,.tmp 195],#[28,28]⟩,28,_,_,none⟩) rfl (fun K' hK=>?_)
   obtain⟨g,cap1,w1,hrun1,hown,hgB,hgl,hbA⟩:=xb3 (w:=(W.drew.alloc (.cells #[] 27)).alloc (.cells #[.int .i64 0,.int .i64 0] 27)) 28 28 27 _ 2 16 Tryz.underlying28 xbW rfl (by omega) (by omega) (W.drew.heap.size) (xac (qzJ W.drew _) (xaj _ _)) ad na (sc-(nn+1)) (xal (f.stack.drop (nn+1))) hvl (fun j u hj=>by obtain⟨b,e,h⟩:=HV.out j u hj;exact⟨b,e,qzA hbz h⟩) (by omega)
   have hb1:Below W.heap.size W w1:=xah hbz hbA;refine xat rfl (.tmp 192) (.tmp 195) 28 rfl (.slice (some ⟨W.drew.heap.size,0,none⟩) 0 0) (.slice ad na (sc-(nn+1))) (.slice (some ⟨g,0,none⟩) na cap1) (by simp[Act.eval,Act.put]) (by simp[Act.eval,Act.put]) hrun1 ?_
   refine hK _ _ (fun _=>hSl _ hb1) ?_
   clear hK K'
   try simp only[Act.put,qzF,qzG,qzH]
   refine tj 11 (⟨some 19,.assign (.tmp 196),28,_,_,none⟩) (.slice (some ⟨g,0,none⟩) na cap1) (hSl _ hb1) ?_ ?_
   ·rintro w⟨q0,q1,q2⟩;go_simp
   try simp only[Act.put,qzF,qzG,qzH]
   have hx0:(w1).heap[W.heap.size+1]?=some (.cells #[.int .i64 0,.int .i64 0] 27 (0,0)):=xac (by have:=qzJ (W.drew.alloc (.cells #[] 27)) (.cells #[.int .i64 0,.int .i64 0] 27);simpa using this) hbA
   have x00:(w1).cell? ⟨W.heap.size+1,0,none⟩=some (.int .i64 0):=by rw[qzB hx0];rfl
   have x01:(w1).cell? ⟨W.heap.size+1,1,none⟩=some (.int .i64 0):=by rw[qzB hx0];rfl
   have x0f:=xam hx0;obtain⟨e1,e2,e3⟩:=sd41 (n:=na) xv hb1 hown (by rw[List.length_drop];omega) (by omega) (qzC _) (show W.heap.size<=W.heap.size+1 from (by show W.heap.size<=W.heap.size+1;omega)) (by have h2:((W.drew.alloc (.cells #[] 27)).alloc (.cells #[.int .i64 0,.int .i64 0] 27)).heap.size=W.heap.size+2:=(by simp);have h3:W.drew.heap.size=W.heap.size:=rfl;rw[h2] at hgB;omega) hx0
   have hgg:W.heap.size<=W.heap.size+1:=(by show W.heap.size<=W.heap.size+1;omega)
   refine xag (rs:=[12]) (by kernel_rfl) (by simp) ?_
   intro i hi;simp only[List.mem_cons,List.not_mem_nil,or_false] at hi;subst hi;refine xa6 (o:=⟨none,.store 27 (.tmp 20) (.tmp 201),0,_,_,none⟩) rfl (fun K' hK=>?_)
   go_simp;refine hK _ _ (fun h=>absurd h (by decide)) ?_
   clear hK K'
   try simp only[Act.put,qzF,qzG,qzH]
   refine xa0 (by kernel_rfl) ?_ _
   try simp only[Act.put,qzF,qzG,qzH]
   have HE1:=hid e1;have HE2:=hid e2;have HE3:=hid e3;clear e1 e2 e3 hSl hS0 hF1 x00 x01 x0f hx0
   go_upto_region 42 with (fail)
   exact xnN HH.out HOP.out (xn3 HB1.out hWl2 hxb HE1.out HE2.out HE3.out hgg HN.out.1 HN.out.2.1 HN.out.2.2) (by assumption) (by assumption)
 ·subst hi;refine xa6 (o:=⟨some 20,.alloc 27,0,_,_,none⟩) rfl (fun K' hK=>?_)
  have hbz:Below W.heap.size W (W.drew.alloc (.cells #[.int .i64 0,.int .i64 0] 27)):=xah (qzL _ W).drew (xaj _ _);go_simp;refine hK _ _ (fun _=>hSl _ hbz) ?_
  clear hK K'
  try simp only[Act.put,qzF,qzG,qzH]
  refine xag (rs:=[0]) (by kernel_rfl) (by simp) ?_
  intro i hi;simp only[List.mem_cons,List.not_mem_nil,or_false] at hi;subst hi;refine xa6 (o:=⟨some 192,.buildSlice 28 0 #[],28,_,_,none⟩) rfl (fun K' hK=>?_)
  replace hbz:Below W.heap.size W ((W.drew.alloc (.cells #[.int .i64 0,.int .i64 0] 27)).alloc (.cells #[] 27)):=xah hbz (xaj _ _);go_simp;refine hK _ _ (fun _=>hSl _ hbz) ?_
  clear hK K'
  try simp only[Act.put,qzF,qzG,qzH]
  refine xag (rs:=[4]) (by kernel_rfl) (by simp) ?_
  intro i hi;simp only[List.mem_cons,List.not_mem_nil,or_false] at hi;subst hi;refine xa6 (o:=⟨some 196,.call ⟨.builtin .append,#[.tmp 192,.tmp 195],#[28,28]⟩,28,_,_,none⟩) rfl (fun K' hK=>?_)
  obtain⟨g,cap1,w1,hrun1,hown,hgB,hgl,hbA⟩:=xb3 (w:=(W.drew.alloc (.cells #[.int .i64 0,.int .i64 0] 27)).alloc (.cells #[] 27)) 28 28 27 _ 2 16 Tryz.underlying28 xbW rfl (by omega) (by omega) (W.drew.heap.size+1) (by have:=qzJ (W.drew.alloc (.cells #[.int .i64 0,.int .i64 0] 27)) (.cells #[] 27);simpa using this) ad na (sc-(nn+1)) (xal (f.stack.drop (nn+1))) hvl (fun j u hj=>by obtain⟨b,e,h⟩:=HV.out j u hj;exact⟨b,e,qzA hbz h⟩) (by omega)
  have hb1:Below W.heap.size W w1:=xah hbz hbA;refine xat rfl (.tmp 192) (.tmp 195) 28 rfl (.slice (some ⟨W.drew.heap.size+1,0,none⟩) 0 0) (.slice ad na (sc-(nn+1))) (.slice (some ⟨g,0,none⟩) na cap1) (by simp[Act.eval,Act.put]) (by simp[Act.eval,Act.put]) hrun1 ?_
  refine hK _ _ (fun _=>hSl _ hb1) ?_
  clear hK K'
  try simp only[Act.put,qzF,qzG,qzH]
  refine tj 11 (⟨some 19,.assign (.tmp 196),28,_,_,none⟩) (.slice (some ⟨g,0,none⟩) na cap1) (hSl _ hb1) ?_ ?_
  ·rintro w⟨q0,q1,q2⟩;go_simp
  try simp only[Act.put,qzF,qzG,qzH]
  have hx0:(w1).heap[W.heap.size]?=some (.cells #[.int .i64 0,.int .i64 0] 27 (0,0)):=xac (xac (qzJ W.drew (.cells #[.int .i64 0,.int .i64 0] 27)) (xaj _ _)) hbA;have x00:(w1).cell? ⟨W.heap.size,0,none⟩=some (.int .i64 0):=by rw[qzB hx0];rfl
  have x01:(w1).cell? ⟨W.heap.size,1,none⟩=some (.int .i64 0):=by rw[qzB hx0];rfl
  have x0f:=xam hx0;obtain⟨e1,e2,e3⟩:=sd41 (n:=na) xv hb1 hown (by rw[List.length_drop];omega) (by omega) (by show W.heap.size<=W.heap.size+1;omega) (show W.heap.size<=W.heap.size from (qzC _)) (by have h2:((W.drew.alloc (.cells #[.int .i64 0,.int .i64 0] 27)).alloc (.cells #[] 27)).heap.size=W.heap.size+2:=(by simp);have h3:W.drew.heap.size=W.heap.size:=rfl;rw[h2] at hgB;omega) hx0
  have hgg:W.heap.size<=W.heap.size:=(qzC _);refine xag (rs:=[12]) (by kernel_rfl) (by simp) ?_
  intro i hi;simp only[List.mem_cons,List.not_mem_nil,or_false] at hi;subst hi;refine xa6 (o:=⟨none,.store 27 (.tmp 20) (.tmp 201),0,_,_,none⟩) rfl (fun K' hK=>?_)
  go_simp;refine hK _ _ (fun h=>absurd h (by decide)) ?_
  clear hK K'
  try simp only[Act.put,qzF,qzG,qzH]
  refine xa0 (by kernel_rfl) ?_ _
  try simp only[Act.put,qzF,qzG,qzH]
  have HE1:=hid e1;have HE2:=hid e2;have HE3:=hid e3;clear e1 e2 e3 hSl hS0 hF1 x00 x01 x0f hx0
  go_upto_region 42 with (fail)
  exact xnN HH.out HOP.out (xn3 HB1.out hWl2 hxb HE1.out HE2.out HE3.out hgg HN.out.1 HN.out.2.1 HN.out.2.2) (by assumption) (by assumption)
theorem br15:Br 15:=by
 intro p d T T1 w wr W mb K R av kv gk G' m f c n1 n2 n3 k x hv sv ov sa sc H hop
 intros
 rename_i hN K9 hK9;obtain⟨hX,HEn,HR,HG,HX,HMa,HF,HL,HB1,HI,hM1,hF1,hsc1,hsc2,hBl,hWl,hxb,⟨aa,ca,rfl,hca⟩,ht40⟩:=H.pre;have HOP:=hid hop;clear hop;unfold xdw;unfold sw9 at hK9;have x1:=hxb.x1;have HM2:=hid hM1;have HF2:=hid hF1;clear hM1 hF1;go_wp2
 exact Or.inr ⟨rfl,by have:=HOP.out;omega,{ f with pc:=f.pc+1 },T1,_,_,_,_,.refl _ _,Kp.of_below HB1.out,HM2.out,HF2.out.at _,HL.out,xkM HOP.out HX.out⟩
theorem br16:Br 16:=by
 intro p d T T1 w wr W mb K R av kv gk G' m f c n1 n2 n3 k x hv sv ov sa sc H hop
 intros
 rename_i hN K9 hK9;obtain⟨hX,HEn,HR,HG,HX,HMa,HF,HL,HB1,HI,hM1,hF1,hsc1,hsc2,hBl,hWl,hxb,⟨aa,ca,rfl,hca⟩,ht40⟩:=H.pre;have HOP:=hid hop;clear hop;unfold xdw;unfold sw9 at hK9
 have hnx:0<f.stack.length:=by
  have hneed:=HX.out.need;have hop:x.op=16:=HOP.out;unfold xaN at hneed
  simp[hop] at hneed
  omega
 have x1:=hxb.x1;have hFt:=HF.out.t4W (U:=W) HB1.out;have hMt:=HMa.out.t4W (U:=W) HB1.out;have hp5:=hFt.pos;clear hM1 hF1;go_wp2_with fail;refine (xem hFt hnx).mono ?_;rintro e w2 ⟨rfl,⟨st',hF2⟩,hK2⟩;dsimp only;have hbx:=xaj w2 (.cells #[.int .i64 f.top.k,.int .i64 f.top.n] 27);have hx2:=hK2.cell x1 (by rw[xav (qzC _)];omega)
 have hx3:=qzA hbx hx2;have b0:(w2.alloc (.cells #[.int .i64 f.top.k,.int .i64 f.top.n] 27)).cell? ⟨w2.heap.size,0,none⟩=some (.int .i64 f.top.k):=xaa _ _ _ _ rfl 0;have HF3:=hid (hF2.later hbx);have hM3:=(hMt.keep (.refl _ _) hK2 (by omega) (by omega) (by omega) (by omega)).later hbx
 have HM3:=hid hM3;have HK3:Hid (Kp (All K) T1 wr (w2.alloc (.cells #[.int .i64 f.top.k,.int .i64 f.top.n] 27))):=kp4 HB1.out ((xdB hK2 fun t ht=>by omega).on hbx)
 have c7:=hM3.c7;have cf7:=xam hM3.box;have HN7:=hid (hM3.num7 11);have HT7:=hid hM3.tag;clear hF2 hK2 hFt hMt x1 hbx hx2 hM3
 go_upto_region 53 with (fail)
 generalize (w2.alloc (.cells #[.int .i64 f.top.k,.int .i64 f.top.n] 27))=V at *
 by_cases h1:f.top.k=1
 ·have H1:=hid h1;rw[h1] at b0;clear h1;go_wp2
  exact Or.inr ⟨rfl,by have:=HOP.out;omega,({ f with pc:=f.pc+1 }:Fr).pop,xau T1 wr 4,_,_,_,_,xao T1 wr 4,HK3.out,HM3.out,HF3.out.at _,HL.out,xkd HOP.out H1.out HX.out⟩
 ·have hd1:(f.top.k == 1)=false:=by simpa using h1
  have H1:=hid h1;clear h1
  by_cases h2:f.top.k=2
  ·have H2:=hid h2;rw[h2] at b0;clear h2 hd1;go_wp2
   exact Or.inl ⟨rfl,xnO hX HR.out HG.out HX.out HOP.out H2.out HL.out (xao T1 wr 4) HK3.out HM3.out HF3.out⟩
  ·have hd2:(f.top.k == 2)=false:=by simpa using h2
   have H2:=hid h2;clear h2;go_wp2
   exact Or.inl ⟨rfl,xlQ hX HR.out HG.out HX.out HOP.out H1.out H2.out (xao T1 wr 4) (HK3.out.trans (xao T1 wr 4) ((Kp.refl (All K) _ _).set (fun _=>Or.inl HT7.out) _ _)) HN7.out⟩
theorem br17:Br 17:=by
 intro p d T T1 w wr W mb K R av kv gk G' m f c n1 n2 n3 k x hv sv ov sa sc H hop
 intros
 rename_i hN K9 hK9;obtain⟨hX,HEn,HR,HG,HX,HMa,HF,HL,HB1,HI,hM1,hF1,hsc1,hsc2,hBl,hWl,hxb,⟨aa,ca,rfl,hca⟩,ht40⟩:=H.pre;have HOP:=hid hop;clear hop;unfold xdw;unfold sw9 at hK9;have hnx:0<f.stack.length:=by have:=HX.out.back HOP.out;omega
 go_wp2_with fail;refine (xem hF1 hnx).mono ?_;rintro e w2 ⟨rfl,⟨st',hF2⟩,hK2⟩;dsimp only;have HK2:Hid (Kp (All K) T1 wr w2):=((Kp.of_below HB1.out).trans (.refl _ _) (xdB hK2 fun t ht=>by omega))
 have HM2:=hid (hM1.keep (.refl _ _) hK2 (by have:=hF1.pos;omega) (by have:=hF1.pos;omega) (by have:=hF1.pos;omega) (by have:=hF1.pos;omega))
 obtain⟨⟨q0,q1⟩,qf⟩:=xoB HR.out HK2.out;clear hF1 hF2 hK2 hM1;go_wp2;refine qzK (v:=VV f.top) ?_ rfl (HR.out.set_res (.refl _ _) HK2.out HM2.out (xoc HR.out HG.out HX.out HOP.out))
 simp[results,Tryz.results52,go_sem,q0,q1]
theorem xjC {p:Rp}{d:Nat}{T T1:Nat->Nat}{w wr W:World}{mb K:Nat}{R:Mc RSt × QV × Int}{av kv:Value}{gk G':Nat}{m:Mc RSt}{f:Fr}{c:Int}{n1 n2 n3 k:Nat}{x:QI}{hv sv ov:Value}{sa:Option Addr}{sc:Nat}(H:SwC p d T w mb K R av kv gk G' c n1 n2 n3 T1 m f wr W k x hv sv ov sa sc)
  {u0 u1 u2 u3 u4 u5 u6 u7 u8 u9 ua ub uc ud ue uf ug uh ui uj uk ul um un uo up uq ur us ut uu uv uw ux uy uz ua0 ua1 ua2 ua3 ua4 ua5 ua6 ua7 ua8 ua9
  uaa uab uac uad uae uaf uag uah uai uaj uak ual uam uan uao uap uaq uar uas uat uau uav uaw uax uay uaz ub0 ub1 ub2 ub3 ub4 ub5 ub6 ub7 ub8 ub9 uba ubb ubc ubd ube ubf ubg ubh
  ubi ubj ubk ubl ubm ubn ubo ubp ubq ubr ubs ubt ubu ubv ubw ubx uby ubz uc0 uc1 uc2 uc3 uc4 uc5 uc6 uc7 uc8 uc9 uca ucb ucc ucd uce ucf ucg uch
  uci ucj uck ucl ucm ucn uco ucp ucq ucr ucs uct ucu ucv ucw ucx ucy ucz ud0 ud1 ud2 ud3 ud4 ud5 ud6 ud7 ud8 ud9 uda udb udc udd ude udf udg udh
  udi udj udk udl udm udn udo udp udq udr uds udt udu udv udw udx udy udz ue0 ue1 ue2 ue3 ue4 ue5 ue6 ue7 ue8 ue9 uea ueb uec ued uee uef ueg ueh
  uei uej uek uel uem uen ueo uep ueq uer ues uet ueu uev uew uex uey uez uf0 uf1 uf2 uf3 uf4 uf5 uf6 uf7 uf8 uf9 ufa ufb ufc ufd ufe uff ufg ufh
  ufi ufj ufk ufl ufm ufn ufo ufp ufq ufr ufs uft ufu ufv ufw ufx ufy ufz ug0 ug1 ug2 ug3 ug4 ug5 ug6 ug7 ug8 ug9 uga ugb ugc ugd uge ugf ugg ugh
  ugi ugj ugk ugl ugm ugn ugo ugp ugq ugr ugs ugt ugu ugv ugw ugx ugy ugz uh0 uh1 uh2 uh3:Value}
  {KT K2 K3:Act->World->Prop}
  (hN:∀ (u5 u6 u7 u8 u9 ua ub uc uu uv uw ux uy uz ua0 ua1 ua2 ua3 ua4 ua5 ua6 ua7 ua8 ua9 uaa uab uac uad uae uaf uag uah uai uaj uak ual uam uan uao uap uaq uar uas uat uau
  uav uaw uax uay uaz ub0 ub1 ub2 ub3 ub4 ub5 ub6 ub7 ub8 ub9 uba ubb ubc ubd ube ubf ubg ubh ubi ubj ubk ubl ubm ubn ubo ubp ubq ubr ubs ubt ubu ubv ubw ubx uby
  ubz uc0 uc1 uc2 uc3 uc4 uc5 uc6 uc7 uc8 uc9 uca ucb ucc ucd uce ucf ucg uch uci ucj uck ucl ucm ucn uco ucp ucq ucr ucs uct ucu ucv ucw ucx ucy
  ucz ud0 ud1 ud2 ud3 ud4 ud5 ud6 ud7 ud8 ud9 uda udb udc udd ude udf udg udh udi udj udk udl udm udn udo udp udq udr uds udt udu udv udw udx udy
  udz ue0 ue1 ue2 ue3 ue4 ue5 ue6 ue7 ue8 ue9 uea ueb uec ued uee uef ueg ueh uei uej uek uel uem uen ueo uep ueq uer ues uet ueu uev uew uex uey
  uez uf0 uf1 uf2 uf3 uf4 uf5 uf6 uf7 uf8 uf9 ufa ufb ufc ufd ufe uff ufg ufh ufi ufj ufk ufl ufm ufn ufo ufp ufq ufr ufs uft ufu ufv ufw ufx ufy
  ufz ug0 ug1 ug2 ug3 ug4 ug5 ug6 ug7 ug8 ug9 uga ugb ugc ugd uge ugf ugg ugh ugi ugj:Value) (tg:Int) (w':World),xf0 p d T w mb K R av kv G' c n1 n2 n3 T1 m f wr k x tg w'->KT (Act.mk #[.pointer (some ⟨mb,0,none⟩),.int .i64 c,u0,u1,av,u2,u3,.pointer (some ⟨w.heap.size,0,none⟩),.pointer (some ⟨w.heap.size+1,0,none⟩),u4,.pointer (some
  ⟨w.heap.size+2,0,none⟩),.slice (some ⟨w.heap.size+3,0,none⟩) n2 n2,.pointer (some ⟨w.heap.size+4,0,none⟩),.func (.func 68) #[] #[.pointer (some ⟨w.heap.size+4,0,
  none⟩)],.int .i64 (k:Int),.pointer (some ⟨wr.heap.size,0,none⟩),.int .i64 tg,u5,u6,u7,u8,u9,ua,ub,uc,ud,ue,uf,ug,uh,ui,uj,uk,ul,um,un,
  uo,up,uq,ur,us,ut,.int .i64 x.op,uu,uv,uw,ux,uy,uz,ua0,ua1,ua2,ua3,ua4,ua5,ua6,ua7,ua8,ua9,uaa,uab,uac,uad,uae,uaf,uag,uah,uai,uaj,uak,
  ual,uam,uan,uao,uap,uaq,uar,uas,uat,uau,uav,uaw,uax,uay,uaz,ub0,ub1,ub2,ub3,ub4,ub5,ub6,ub7,ub8,ub9,uba,ubb,ubc,ubd,ube,ubf,ubg,ubh,ubi,ubj,
  ubk,ubl,ubm,ubn,ubo,ubp,ubq,ubr,ubs,ubt,ubu,ubv,ubw,ubx,uby,ubz,uc0,uc1,uc2,uc3,uc4,uc5,uc6,uc7,uc8,uc9,uca,ucb,ucc,ucd,
  uce,ucf,ucg,uch,uci,ucj,uck,ucl,ucm,ucn,uco,ucp,ucq,ucr,ucs,uct,ucu,ucv,ucw,ucx,ucy,ucz,ud0,ud1,ud2,ud3,ud4,ud5,ud6,ud7,
  ud8,ud9,uda,udb,udc,udd,ude,udf,udg,udh,udi,udj,udk,udl,udm,udn,udo,udp,udq,udr,uds,udt,udu,udv,udw,udx,udy,udz,ue0,ue1,
  ue2,ue3,ue4,ue5,ue6,ue7,ue8,ue9,uea,ueb,uec,ued,uee,uef,ueg,ueh,uei,uej,uek,uel,uem,uen,ueo,uep,ueq,uer,ues,uet,ueu,uev,
  uew,uex,uey,uez,uf0,uf1,uf2,uf3,uf4,uf5,uf6,uf7,uf8,uf9,ufa,ufb,ufc,ufd,ufe,uff,ufg,ufh,ufi,ufj,ufk,ufl,ufm,ufn,ufo,ufp,
  ufq,ufr,ufs,uft,ufu,ufv,ufw,ufx,ufy,ufz,ug0,ug1,ug2,ug3,ug4,ug5,ug6,ug7,ug8,ug9,uga,ugb,ugc,ugd,uge,ugf,ugg,ugh,ugi,ugj,
  ugk,ugl,ugm,ugn,ugo,ugp,ugq,ugr,ugs,ugt,ugu,ugv,ugw,ugx,ugy,ugz,uh0,uh1,uh2,uh3] []) w')
  {K9:Act->World->Prop} (hK9:∀ a w',Code.wp Tryz.prog sw9 (Exit.inBlock 2 (Exit.then KT (Exit.inBlock 1 (Exit.then K2 (Exit.inBlock 0 (Exit.then K3 (bodyPost Tryz.prog Tryz.f52 fun e w'=>xaS p T w mb (20-(d:Int)) K R e w'))))))) a w'->K9 a w') :
  Code.wp Tryz.prog xdw (Exit.then K9 (Exit.inBlock 2 (Exit.then KT (Exit.inBlock 1 (Exit.then K2 (Exit.inBlock 0 (Exit.then K3 (bodyPost Tryz.prog Tryz.f52 fun e w'=>xaS p T w mb (20-(d:Int)) K R e w')))))))) (Act.mk #[.pointer (some ⟨mb,0,none⟩),.int .i64 c,u0,u1,av,u2,u3,.pointer (some ⟨w.heap.size,0,none⟩),.pointer (some ⟨w.heap.size+1,0,none⟩),u4,.pointer (some
  ⟨w.heap.size+2,0,none⟩),.slice (some ⟨w.heap.size+3,0,none⟩) n2 n2,.pointer (some ⟨w.heap.size+4,0,none⟩),.func (.func 68) #[] #[.pointer (some ⟨w.heap.size+4,0,
  none⟩)],.int .i64 (k:Int),.pointer (some ⟨wr.heap.size,0,none⟩),.int .i64 ((k:Int)+1),u5,u6,u7,u8,u9,ua,ub,uc,ud,ue,uf,ug,uh,ui,uj,uk,
  ul,um,un,uo,up,uq,ur,us,ut,.int .i64 x.op,uu,uv,uw,ux,uy,uz,ua0,ua1,ua2,ua3,ua4,ua5,ua6,ua7,ua8,ua9,uaa,uab,uac,uad,uae,uaf,uag,uah,
  uai,uaj,uak,ual,uam,uan,uao,uap,uaq,uar,uas,uat,uau,uav,uaw,uax,uay,uaz,ub0,ub1,ub2,ub3,ub4,ub5,ub6,ub7,ub8,ub9,uba,ubb,ubc,ubd,ube,ubf,ubg,
  ubh,ubi,ubj,ubk,ubl,ubm,ubn,ubo,ubp,ubq,ubr,ubs,ubt,ubu,ubv,ubw,ubx,uby,ubz,uc0,uc1,uc2,uc3,uc4,uc5,uc6,uc7,uc8,uc9,uca,
  ucb,ucc,ucd,uce,ucf,ucg,uch,uci,ucj,uck,ucl,ucm,ucn,uco,ucp,ucq,ucr,ucs,uct,ucu,ucv,ucw,ucx,ucy,ucz,ud0,ud1,ud2,ud3,ud4,
  ud5,ud6,ud7,ud8,ud9,uda,udb,udc,udd,ude,udf,udg,udh,udi,udj,udk,udl,udm,udn,udo,udp,udq,udr,uds,udt,udu,udv,udw,udx,udy,
  udz,ue0,ue1,ue2,ue3,ue4,ue5,ue6,ue7,ue8,ue9,uea,ueb,uec,ued,uee,uef,ueg,ueh,uei,uej,uek,uel,uem,uen,ueo,uep,ueq,uer,ues,
  uet,ueu,uev,uew,uex,uey,uez,uf0,uf1,uf2,uf3,uf4,uf5,uf6,uf7,uf8,uf9,ufa,ufb,ufc,ufd,ufe,uff,ufg,ufh,ufi,ufj,ufk,ufl,ufm,
  ufn,ufo,ufp,ufq,ufr,ufs,uft,ufu,ufv,ufw,ufx,ufy,ufz,ug0,ug1,ug2,ug3,ug4,ug5,ug6,ug7,ug8,ug9,uga,ugb,ugc,ugd,uge,ugf,ugg,
  ugh,ugi,ugj,ugk,ugl,ugm,ugn,ugo,ugp,ugq,ugr,ugs,ugt,ugu,ugv,ugw,ugx,ugy,ugz,uh0,uh1,uh2,uh3] []) W:=by
 have hkd:=H.nx.kind;obtain⟨on,hon,h1,h2⟩:∃ on:Nat,x.op=(on:Int)/\1<=on/\on<=17:=⟨x.op.toNat,by omega,by omega,by omega⟩
 rw[hon] at hN ⊢
 match on,h1,h2 with
 | 1,_,_=>exact br1 H hon hN hK9
 | 2,_,_=>exact br2 H hon hN hK9
 | 3,_,_=>exact br3 H hon hN hK9
 | 4,_,_=>exact br4 H hon hN hK9
 | 5,_,_=>exact br5 H hon hN hK9
 | 6,_,_=>exact br6 H hon hN hK9
 | 7,_,_=>exact br7 H hon hN hK9
 | 8,_,_=>exact br8 H hon hN hK9
 | 9,_,_=>exact br9 H hon hN hK9
 | 10,_,_=>exact br10 H hon hN hK9
 | 11,_,_=>exact br11 H hon hN hK9
 | 12,_,_=>exact br12 H hon hN hK9
 | 13,_,_=>exact br13 H hon hN hK9
 | 14,_,_=>exact br14 H hon hN hK9
 | 15,_,_=>exact br15 H hon hN hK9
 | 16,_,_=>exact br16 H hon hN hK9
 | 17,_,_=>exact br17 H hon hN hK9
 | 0,h0,_=>exact absurd h0 (by omega)
 | n+18,_,h0=>exact absurd h0 (by omega)
set_option maxRecDepth 8000
section
variable {p:Rp} {d:Nat} {T T1 T2:Nat->Nat} {w wr w2:World} {mb K:Nat} {R:Mc RSt × QV × Int} {av kv:Value} {gk:Nat} {at' at2:Value} {m:Mc RSt} {f:Fr}
theorem xmA {c:Int}{n1 n2 n3 G' k:Nat}{x:QI}{f1:Fr}{hv sv ov st:Value}{w':World}(hX:Rx p)(hR:BdR p d T w mb K R av kv gk at' T1 m f 0 wr)(hg:gk=G'+1)(hx:NxOk f k x)(h17:x.op≠17)(hr:xan (xa1 p.E d) p.E d m { f with pc:=f.pc+1 } f.pc x=xaX m f1 k x.a)(hle:¬ x.a<=k)(ht:m.turns<=300)(hE:Ext T1 T2 wr)(hK:Kp (All K) T1 wr w')(hM:RMac p T2 w' mb m (20-(d:Int)) 0 hv sv ov)(hF:RF T2 K w' w.heap.size f1 av kv st)(hL:xiO c n1 n2 n3 f1) :
  BdX p d T w mb K R av kv c n1 n2 n3 G' (.int .i64 x.a) w':=by
 have hj:xaX m f1 k x.a=(m,{ f1 with pc:=x.a },0):=by unfold xaX;simp only[hle,if_false];rw[if_neg (by omega)]
 exact⟨_,_,_,_,hR.next hX hg hx h17 (hr.trans hj) hE hK hM (fun _=>⟨_,hF.at _⟩) (fun _=>rfl),fun _=>hL⟩
theorem xks {c:Int}{n1 n2 n3 G' k:Nat}{x:QI}{f1:Fr}{hv sv ov st:Value}{w':World}(hX:Rx p)(hR:BdR p d T w mb K R av kv gk at' T1 m f 0 wr)(hg:gk=G'+1)(hx:NxOk f k x)(h17:x.op≠17)(hr:xan (xa1 p.E d) p.E d m { f with pc:=f.pc+1 } f.pc x=xaX m f1 k x.a)(hle:x.a<=k)(ht:m.turns+1<=300)(hE:Ext T1 T2 wr)(hK:Kp (All K) T1 wr w')(hM:RMac p T2 w' mb m (20-(d:Int)) 0 hv sv ov)(hF:RF T2 K w' w.heap.size f1 av kv st)(hL:xiO c n1 n2 n3 f1) :
  BdX p d T w mb K R av kv c n1 n2 n3 G' (.int .i64 x.a) (w'.setCell ⟨mb,5,none⟩ (.int .i64 (m.turns+1))):=by
 have hp:=hF.pos;have hj:xaX m f1 k x.a=({ m with turns:=m.turns+1 },{ f1 with pc:=x.a },0):=by unfold xaX;simp only[hle,if_true];rw[if_neg (by omega)]
 have k1:=kp1 hM 5 (.int .i64 (m.turns+1))
 exact⟨_,_,_,_,hR.next hX hg hx h17 (hr.trans hj) hE (hK.trans hE (k1.mono fun t h=>Or.inl h)) (hM.num5 _) (fun _=>⟨_,(hF.keep (.refl _ _) k1 (by omega) (by omega) (by omega) (by omega) (by omega)).at _⟩) (fun _=>rfl),fun _=>hL⟩
theorem xke {c:Int}{n1 n2 n3 G' k:Nat}{x:QI}{f1:Fr}{hv sv ov:Value}{w':World}{at2:Value}(hX:Rx p)(hR:BdR p d T w mb K R av kv gk at' T1 m f 0 wr)(hg:gk=G'+1)(hx:NxOk f k x)(h17:x.op≠17)(hr:xan (xa1 p.E d) p.E d m { f with pc:=f.pc+1 } f.pc x=xaX m f1 k x.a)(hle:x.a<=k)(ht:¬ m.turns+1<=300)(hE:Ext T1 T2 wr)(hK:Kp (All K) T1 wr w')(hM:RMac p T2 w' mb m (20-(d:Int)) 0 hv sv ov) :
  BdX p d T w mb K R av kv c n1 n2 n3 G' at2 ((w'.setCell ⟨mb,5,none⟩ (.int .i64 (m.turns+1))).setCell ⟨mb,7,none⟩ (.int .i64 16)):=by
 have hj:xaX m f1 k x.a=({ m with turns:=m.turns+1 },f1,16):=by unfold xaX;simp only[hle,if_true];rw[if_pos (by omega)]
 have k1:=kp1 hM 5 (.int .i64 (m.turns+1));have hM1:=hM.num5 (m.turns+1);have k2:=kp1 hM1 7 (.int .i64 16)
 exact⟨_,_,_,_,hR.next hX hg hx h17 (hr.trans hj) hE (hK.trans hE ((k1.mono fun t h=>Or.inl h).trans (.refl _ _) (k2.mono fun t h=>Or.inl h))) (hM1.num7 16) (fun h=>by cases h) (fun h=>by cases h),fun h=>by cases h⟩
theorem xny {err:Int}{hv sv ov:Value}(hR:BdR p d T w mb K R av kv gk at' T1 m f err wr)(hM:RMac p T1 wr mb m (20-(d:Int)) err hv sv ov)(hE:R=(m,xaU,err)):xaS p T w mb (20-(d:Int)) K R (.returned (VV xaU)) ((wr.setCell ⟨w.heap.size+2,0,none⟩ (.int .i64 0)).setCell ⟨w.heap.size+2,1,none⟩ (.int .i64 0)):=by
 have ht:=hR.tres;have k4:Kp (fun t=>t=4) T1 wr ((wr.setCell ⟨w.heap.size+2,0,none⟩ (.int .i64 0)).setCell ⟨w.heap.size+2,1,none⟩ (.int .i64 0)):=((Kp.refl (fun t=>t=4) T1 wr).set (b:=w.heap.size+2) (fun _=>ht) _ _).set (b:=w.heap.size+2) (fun _=>ht) _ _
 subst hE
 exact⟨rfl,⟨T1,_,_,_,hR.ext,hM.keep (.refl _ _) k4 (by omega) (by omega) (by omega) (by omega)⟩,(hR.kp.set (fun h=>by omega) _ _).set (fun h=>by omega) _ _⟩
theorem xlO (hX:Rx p)(hEn:xoY p d)(K:Nat)(T:Nat->Nat)(w:World)(mb:Nat)(m:Mc RSt)(hv sv ov:Value)(c n:Int)(self:QV)(args:List QV)(av:Value)(mt:QM)(kv:Value)(hK:5<=K)(h:RMac p T w mb m (20-(d:Int)) 0 hv sv ov)(hI:MIn p.E m)(hW:Few m)(hFo:FOk p.X.cz m.heap.length (xaG p.E c n mt self args))(hPl:PlOk (xaG p.E c n mt self args))(hA:xaB (Fx T w) w av args)(hC:xa5 (Fx T w) w kv mt.code) :
  Calls Tryz.prog 52 #[.pointer (some ⟨mb,0,none⟩),.int .i64 c,MV mt kv,VV self,av] w fun e w'=>xaS p T w mb (20-(d:Int)) K (xcL (xa1 p.E d) p.E d (xeQ (xaG p.E c n mt self args)) m (xaG p.E c n mt self args)) e w':=by
 obtain⟨aa,ca,rfl,-,hca,-,-⟩:=id hA;obtain⟨ak,ck,rfl,-,hck,-,-⟩:=id hC;unfold maxLen at hca hck;have hfr:xaG p.E c n mt self args=⟨c,mt,self,args,xaQ mt.temps,[],mt.code,0,false⟩:=rfl;have htl:=hPl.temps;have hlm:=xaf h.box;obtain⟨tn,htn⟩:∃ tn:Nat,mt.temps=(tn:Int):=⟨mt.temps.toNat,by rw[hfr] at htl;simp only at htl;omega⟩
 have htr:xaQ mt.temps=List.replicate tn xaU:=by
  rw[hfr] at htl;simp only[xaQ,List.length_replicate] at htl;unfold xaQ
  congr 1
  omega
 have ht40:tn<=40:=by rw[hfr] at htl;simp only[xaQ,List.length_replicate] at htl;omega
 have hmk:=xcA tn (by omega)
 have xcS:=fun (U:World) hb u0 u1 u2 u3 u4=>xjP (U:=U) h hK hI hW hFo hPl (by rw[hfr];exact hA) (by rw[hfr];exact hC) rfl rfl rfl hb u0 u1 u2 u3 u4
 have HSt:=hid xcS;clear xcS hFo hPl hA hC hI hW htl h;obtain⟨f0,hf0⟩:∃ f0,f0=xaG p.E c n mt self args:=⟨_,rfl⟩;obtain⟨e1,e2,e3,e4⟩:f0.meth=mt/\f0.self=self/\f0.temps=List.replicate tn xaU/\f0.cls=c/\f0.args.length=args.length/\f0.code.length=mt.code.length:=by rw[hf0,hfr];exact⟨rfl,rfl,htr,rfl,rfl,rfl⟩
 rw[← hf0] at HSt ⊢;have HM:=hid (And.intro e1 (And.intro e2 (And.intro e3 e4)));generalize xcL (xa1 p.E d) p.E d (xeQ f0) m f0=R at *;generalize hG:xeQ f0=G at *;clear hf0 hfr e1 e2 e3 e4 hG htr;obtain⟨mname,margs,mtemps,mprim,mcode⟩:=mt;simp only at htn HM;subst htn;simp only at *;go_enter Tryz.func52,Tryz.ntmps52
 go_upto_region 4 with (fail)
 have hbU:Below w.heap.size w (((((w.alloc (.cells #[.string mname,.int .i64 margs,.int .i64 (tn:Int),.int .i64 mprim,.slice ak mcode.length ck] 59)).alloc (.cells #[.int .i64 self.k,.int .i64 self.n] 27)).alloc (.cells #[.int .i64 0,.int .i64 0] 27)).alloc (.cells (madeCells #[.int .i64 0,.int .i64 0] (tn*2)) 27)).alloc (.cells #[.slice none 0 0] 28)):=by
  refine (((xfv _ _ _ _).alloc (by simp;omega) _).alloc (by simp;omega) _)
 have hRel:BdR p d T w mb K R (.slice aa args.length ca) (.slice ak mcode.length ck) G (.int .i64 0) (xlK T w.heap.size K) m f0 0 (((((w.alloc (.cells #[.string mname,.int .i64 margs,.int .i64 (tn:Int),.int .i64 mprim,.slice ak mcode.length ck] 59)).alloc (.cells #[.int .i64 self.k,.int .i64 self.n] 27)).alloc (.cells #[.int .i64 0,.int .i64 0] 27)).alloc (.cells (madeCells #[.int .i64 0,.int .i64 0] (tn*2)) 27)).alloc (.cells #[.slice none 0 0] 28)):=by
  obtain⟨g1,g2,g3,-⟩:=HM.out;refine HSt.out _ hbU ?_ ?_ ?_ ?_ ?_
  ·rw[g1];exact (xot w _ _ _ _ _).1.1
  ·rw[g2];exact (xot w _ _ _ _ _).1.2.1
  ·exact (xot w _ _ _ _ _).1.2.2
  ·rw[g3,← xji];exact (xot w _ _ _ _ _).2.1
  ·exact (xot w _ _ _ _ _).2.2
 generalize (((((w.alloc (.cells #[.string mname,.int .i64 margs,.int .i64 (tn:Int),.int .i64 mprim,.slice ak mcode.length ck] 59)).alloc (.cells #[.int .i64 self.k,.int .i64 self.n] 27)).alloc (.cells #[.int .i64 0,.int .i64 0] 27)).alloc (.cells (madeCells #[.int .i64 0,.int .i64 0] (tn*2)) 27)).alloc (.cells #[.slice none 0 0] 28))=W0 at *;clear hbU HSt hmk;have HM2:Hid (f0.meth=⟨mname,margs,tn,mprim,mcode⟩/\f0.self=self):=⟨HM.out.1,HM.out.2.1⟩;simp only[Nat.add_assoc,Nat.reduceAdd];go_wp2
 go_loopg [14] G (fun gk at' wr=>BdX p d T w mb K R (.slice aa args.length ca) (.slice ak mcode.length ck) c args.length tn mcode.length gk at' wr)
 case atStart=>exact⟨_,_,_,_,hRel,fun _=>by obtain⟨g1,g2,g3,g4,g5,g6⟩:=HM.out;exact⟨g4,g5,by rw[g3];simp,g6⟩⟩
 case round=>
  clear hRel;obtain⟨T1,m,f,err,hR,hLen⟩:=hrel;obtain⟨hv1,sv1,ov1,hM⟩:=hR.mac;have c7:=hM.c7
  by_cases herr:err=0
  ·subst herr;obtain⟨l0,l1,l2,l3⟩:=hLen rfl;obtain⟨hI,hW,hFo,hPl,hmu,hval,hat⟩:=hR.min rfl;obtain⟨st,hF⟩:=hR.run rfl;obtain⟨sa,sc,rfl,hsc1,hsc2⟩:=hF.stack.form;unfold maxLen at hsc2;obtain⟨k,x,hx⟩:=hPl.nx;have hpc:=hx.pc;have hkl:=hx.lt
   obtain⟨G',hG'⟩:∃ G',gk=G'+1:=⟨gk-1,by
    have:0<muE m f:=by unfold muE;rw[hpc];simp;omega
    omega⟩
   rw[hpc] at hat;subst hat;have k4:=hF.k4;obtain⟨a',cc',e',hlc,hcc,-,hrow⟩:=hF.code;unfold maxLen at hcc;simp only[Value.slice.injEq] at e';obtain⟨rfl,-,-⟩:=e';obtain⟨bc,oc,hac,-,i0,i1,i2,i3,i4,-⟩:=hrow k x hx.here;have hkm:k<mcode.length:=by omega
   have hk0:(0:Int)<=(k:Int):=by omega
   have hk1:(k:Int)<(mcode.length:Int):=by omega
   have hkw:IntKind.i64.wrap ((k:Int)+1)=(k:Int)+1:=xaE (by omega) (by omega)
   simp only[Nat.add_zero] at i0;subst hac;have hSw0:Below wr.heap.size wr (wr.alloc (.cells #[.int .i64 x.op,.int .i64 x.a,.int .i64 x.b,.int .i64 x.c,.string x.name] 76)):=xaj _ _;have hSw:SwC p d T w mb K R (.slice aa args.length ca) (.slice (some ⟨bc,oc,none⟩) mcode.length ck) gk G' c args.length tn mcode.length T1 m f wr (wr.alloc (.cells #[.int .i64 x.op,.int .i64 x.a,.int .i64 x.b,.int .i64 x.c,.string x.name] 76)) k x hv1 sv1 ov1 sa sc:=⟨hX,hEn,hR,hG',hx,hM,hF,⟨hsc1,by omega⟩,⟨l0,l1,l2,l3⟩,hSw0,xj8 wr x,⟨_,_,rfl,by omega⟩,ht40,⟨hI,hW,hFo,hPl⟩⟩
   have HX:=hid hx;have HSw:=hid hSw;clear hSw hSw0;have HR:=hid hR;have HMa:=hid hM;have HF:=hid hF;have HL:=hid (And.intro l0 (And.intro l1 (And.intro l2 l3)));have HG:=hid hG';have hb1:=xaj wr (.cells #[.int .i64 x.op,.int .i64 x.a,.int .i64 x.b,.int .i64 x.c,.string x.name] 76);have hxb:=(xj8 wr x).x0;have hBl:w.heap.size+4<wr.heap.size:=xaf hF.sb;clear hx hR hM hF hLen hI hW hFo hPl hmu hval hrow hG' hpc hkl l0 l1 l2 l3
   go_upto_region 9 with (fail)
   generalize (wr.alloc (.cells #[.int .i64 x.op,.int .i64 x.a,.int .i64 x.b,.int .i64 x.c,.string x.name] 76))=W at *;have HTu:Hid (0<=m.turns/\m.turns<=300):=HSw.out.min.1.turns;refine xjC HSw.out ?_ (by assumption)
   intros
   rename_i tg w' hok;dsimp only
   rcases hok with ⟨rfl,hBd⟩ | ⟨rfl,h17,f1,T2,hv2,sv2,ov2,st2,e1,e2,e3,e4,e5,e6⟩
   ·have HBd:=hid hBd;have hkk:decide ((k:Int)+1<=(k:Int))=false:=by simp;omega
    clear hBd hxb;go_wp2
    go_roundg G'
    case measure=>have:=HG.out;omega
    case rel=>exact HBd.out
   ·by_cases hle:x.a<=(k:Int)
    ·have hd:decide (x.a<=(k:Int))=true:=by simpa using hle
     have c5:=e3.c5;have f5:=xam e3.box;obtain⟨ht0,ht3⟩:=HTu.out;have htw:IntKind.i64.wrap (m.turns+1)=m.turns+1:=xaE (by omega) (by omega)
     have htw':wrap64 (m.turns+1)=m.turns+1:=by unfold wrap64;omega
     have hN5:=e3.num5 (m.turns+1);have g5:=hN5.c5;have g7:=hN5.c7;have gf:=xam hN5.box;have E6:=hid e6;have E1:=hid e1;have E2:=hid e2;have E3:=hid e3;have E4:=hid e4;have E5:=hid e5;have HLE:=hid hle;have H17:=hid h17;clear e1 e2 e3 e4 e5 e6 hle h17 hN5 hxb ht0 ht3;simp only[] at g5
     by_cases ht:m.turns+1<=300
     ·have hd3:decide (300<m.turns+1)=false:=by simp;omega
      have HT:=hid ht;clear ht;go_wp2
      go_roundg G'
      case measure=>have:=HG.out;omega
      case rel=>exact xks hX HR.out HG.out HX.out H17.out E6.out HLE.out HT.out E1.out E2.out E3.out E4.out E5.out
     ·have hd3:decide (300<m.turns+1)=true:=by simp;omega
      have HT:=hid ht;clear ht;go_wp2
      go_roundg G'
      case measure=>have:=HG.out;omega
      case rel=>exact xke hX HR.out HG.out HX.out H17.out E6.out HLE.out (by have:=HT.out;omega) E1.out E2.out E3.out
    ·have hd:decide (x.a<=(k:Int))=false:=by simpa using hle
     have E6:=hid e6;have E1:=hid e1;have E2:=hid e2;have E3:=hid e3;have E4:=hid e4;have E5:=hid e5;have HLE:=hid hle;have H17:=hid h17;clear e1 e2 e3 e4 e5 e6 hle h17 hxb;go_wp2
     go_roundg G'
     case measure=>have:=HG.out;omega
     case rel=>exact xmA hX HR.out HG.out HX.out H17.out E6.out (by have:=HLE.out;omega) HTu.out.2 E1.out E2.out E3.out E4.out E5.out
  ·have herr':(err == 0)=false:=by simpa using herr
   have HE:=hid (hR.bad herr);have HMa:=hid hM;have HR:=hid hR;have r0:wr.cell? ⟨w.heap.size+2,0,none⟩=some (.int .i64 0):=by rw[qzB hR.res];rfl
   have r1:wr.cell? ⟨w.heap.size+2,1,none⟩=some (.int .i64 0):=by rw[qzB hR.res];rfl
   have rf:=xam hR.res;clear hR hM hLen herr;go_wp2;refine qzK (v:=VV xaU) ?_ rfl (xny HR.out HMa.out HE.out)
   simp[results,Tryz.results52,go_sem,r0,r1]
end
theorem w64 {n:Int}(h0:-9223372036854775808<=n)(h1:n<=9223372036854775807):wrap64 n=n:=by unfold wrap64;omega
theorem xid {N:Int}(h:0<=N)(h1:N<=2000000000000000000):wrap64 (N-wrap64 (wrap64 (N.tdiv 1073741825)*1073741825))=N.tmod 1073741825:=by
 have e:N.tdiv 1073741825=N / 1073741825:=Int.tdiv_eq_ediv_of_nonneg h;have t:N.tmod 1073741825=N % 1073741825:=Int.tmod_eq_emod_of_nonneg h;rw[e,t];have h2:0<=N / 1073741825/\N / 1073741825*1073741825<=N:=by omega
 rw[w64 (n:=N / 1073741825) (by omega) (by omega),w64 (n:=N / 1073741825*1073741825) (by omega) (by omega),w64 (by omega) (by omega)]
 omega
theorem xik {N:Int}(h:¬ 0<=N)(h1:-2000000000000000000<=N):wrap64 (N+wrap64 (wrap64 ((wrap64 (-N)).tdiv 1073741825)*1073741825))=N.tmod 1073741825:=by
 rw[w64 (n:=-N) (by omega) (by omega)]
 have e:(-N).tdiv 1073741825=(-N) / 1073741825:=Int.tdiv_eq_ediv_of_nonneg (by omega)
 have t:N.tmod 1073741825=-((-N) % 1073741825):=by
  rw[← Int.tmod_eq_emod_of_nonneg (show (0:Int)<=-N by omega),Int.neg_tmod,Int.neg_neg]
 rw[e,t];rw[w64 (n:=(-N) / 1073741825) (by omega) (by omega),w64 (n:=(-N) / 1073741825*1073741825) (by omega) (by omega),w64 (by omega) (by omega)]
 omega
theorem xlk (p:Int)(a b:QV)(w:World)(ha:a.k=3->-1073741824<=a.n/\a.n<=1073741824)(hb:b.k=3->-1073741824<=b.n/\b.n<=1073741824):Calls Tryz.prog 51 #[.int .i64 p,VV a,VV b] w fun e w'=>e=.returned (.tuple #[VV (xbA p a b).1,.int .i64 (xbA p a b).2])/\Below w.heap.size w w':=by
 have hR:=xk7 w a b;go_enter Tryz.func51,Tryz.ntmps51
 go_upto_region 1 with (fail)
 generalize (((w.alloc (.cells #[.int .i64 a.k,.int .i64 a.n] 27)).alloc (.cells #[.int .i64 b.k,.int .i64 b.n] 27)).alloc (.cells #[.int .i64 0,.int .i64 0] 27))=W at *;obtain⟨-,a0,a1,b0,b1,r0,r1,rf,sz⟩:=id hR;simp only[Nat.add_assoc,Nat.reduceAdd] at *
 by_cases hk:a.k=3/\b.k=3
 ·have hab:=And.intro (ha hk.1) (hb hk.2);have ak':(a.k != 3)=false:=by simpa using hk.1
  have bk':(b.k != 3)=false:=by simpa using hk.2
  have hP:xbA p a b=if p=1 then (⟨3,(a.n+b.n).tmod 1073741825⟩,0) else if p=2 then (⟨3,(a.n-b.n).tmod 1073741825⟩,0) else if p=3 then (⟨3,(a.n*b.n).tmod 1073741825⟩,0) else if p=4 then (⟨if a.n<b.n then 2 else 1,0⟩,0) else if p=5 then (⟨if a.n=b.n then 2 else 1,0⟩,0) else (xaU,1):=by unfold xbA;rw[if_neg (by omega)]
  have wadd:IntKind.i64.wrap (a.n+b.n)=a.n+b.n:=xaE (by omega) (by omega)
  have wsub:IntKind.i64.wrap (a.n-b.n)=a.n-b.n:=xaE (by omega) (by omega)
  have hm:=xkI hab.1 hab.2;have wmul:IntKind.i64.wrap (a.n*b.n)=a.n*b.n:=xaE (by omega) (by omega)
  have hA:=hid hab;have hM:=hid hm;clear hab hm ha hb hk
  by_cases hp1:p=1
  ·have hV:Hid (xbA p a b=(⟨3,(a.n+b.n).tmod 1073741825⟩,0)):=by show _=_;rw[hP];rw[if_pos hp1]
   have hq1:(p == 1)=true:=by simpa using hp1
   clear hP
   by_cases hs:0<=a.n+b.n
   ·have HM:=hid (xid hs (by have:=hA.out;omega))
    go_wp2;refine qzK (v:=.tuple #[VV ⟨3,(a.n+b.n).tmod 1073741825⟩,.int .i64 0]) ?_ rfl ⟨by have:=hV.out;first | rw[this] | (rw[hp1] at this;rw[this]),(hR.bel.setCell (by simp) _).setCell (by simp) _⟩
    simp[results,Tryz.results51,go_sem,r0,r1]
    exact HM.out
   ·have HM:=hid (xik hs (by have:=hA.out;omega))
    go_wp2;refine qzK (v:=.tuple #[VV ⟨3,(a.n+b.n).tmod 1073741825⟩,.int .i64 0]) ?_ rfl ⟨by have:=hV.out;first | rw[this] | (rw[hp1] at this;rw[this]),(hR.bel.setCell (by simp) _).setCell (by simp) _⟩
    simp[results,Tryz.results51,go_sem,r0,r1]
    exact HM.out
  have hq1:(p == 1)=false:=by simpa using hp1
  by_cases hp2:p=2
  ·have hV:Hid (xbA p a b=(⟨3,(a.n-b.n).tmod 1073741825⟩,0)):=by show _=_;rw[hP];rw[if_neg hp1];rw[if_pos hp2]
   have hq2:(p == 2)=true:=by simpa using hp2
   clear hP
   by_cases hs:0<=a.n-b.n
   ·have HM:=hid (xid hs (by have:=hA.out;omega))
    go_wp2;refine qzK (v:=.tuple #[VV ⟨3,(a.n-b.n).tmod 1073741825⟩,.int .i64 0]) ?_ rfl ⟨by have:=hV.out;first | rw[this] | (rw[hp2] at this;rw[this]),(hR.bel.setCell (by simp) _).setCell (by simp) _⟩
    simp[results,Tryz.results51,go_sem,r0,r1]
    exact HM.out
   ·have HM:=hid (xik hs (by have:=hA.out;omega))
    go_wp2;refine qzK (v:=.tuple #[VV ⟨3,(a.n-b.n).tmod 1073741825⟩,.int .i64 0]) ?_ rfl ⟨by have:=hV.out;first | rw[this] | (rw[hp2] at this;rw[this]),(hR.bel.setCell (by simp) _).setCell (by simp) _⟩
    simp[results,Tryz.results51,go_sem,r0,r1]
    exact HM.out
  have hq2:(p == 2)=false:=by simpa using hp2
  by_cases hp3:p=3
  ·have hV:Hid (xbA p a b=(⟨3,(a.n*b.n).tmod 1073741825⟩,0)):=by show _=_;rw[hP];rw[if_neg hp1];rw[if_neg hp2];rw[if_pos hp3]
   have hq3:(p == 3)=true:=by simpa using hp3
   clear hP
   by_cases hs:0<=a.n*b.n
   ·have HM:=hid (xid hs (by have:=hM.out;omega))
    go_wp2;refine qzK (v:=.tuple #[VV ⟨3,(a.n*b.n).tmod 1073741825⟩,.int .i64 0]) ?_ rfl ⟨by have:=hV.out;first | rw[this] | (rw[hp3] at this;rw[this]),(hR.bel.setCell (by simp) _).setCell (by simp) _⟩
    simp[results,Tryz.results51,go_sem,r0,r1]
    exact HM.out
   ·have HM:=hid (xik hs (by have:=hM.out;omega))
    go_wp2;refine qzK (v:=.tuple #[VV ⟨3,(a.n*b.n).tmod 1073741825⟩,.int .i64 0]) ?_ rfl ⟨by have:=hV.out;first | rw[this] | (rw[hp3] at this;rw[this]),(hR.bel.setCell (by simp) _).setCell (by simp) _⟩
    simp[results,Tryz.results51,go_sem,r0,r1]
    exact HM.out
  have hq3:(p == 3)=false:=by simpa using hp3
  by_cases hp4:p=4
  ·have hV:Hid (xbA p a b=(⟨if decide (a.n<b.n) then 2 else 1,0⟩,0)):=by show _=_;rw[hP];rw[if_neg hp1];rw[if_neg hp2];rw[if_neg hp3];rw[if_pos hp4];simp
   have hq4:(p == 4)=true:=by simpa using hp4
   clear hP;have hrb:=fun w=>xdZ (decide (a.n<b.n)) w
   generalize (if decide (a.n<b.n)=true then (2:Int) else 1)=z at hrb hV;go_wp2_with fail;refine (hrb _).mono ?_;rintro e w1 ⟨rfl,hb1⟩;have hR1:=hR.later hb1;clear a0 a1 b0 b1 r0 r1 rf hR;obtain⟨-,a0,a1,b0,b1,r0,r1,rf,-⟩:=id hR1;go_wp2;refine qzK (v:=.tuple #[VV ⟨z,0⟩,.int .i64 0]) ?_ rfl ⟨by have:=hV.out;first | rw[this] | (rw[hp4] at this;rw[this]),(hR1.bel.setCell (by simp) _).setCell (by simp) _⟩
   simp[results,Tryz.results51,go_sem,r0,r1]
  have hq4:(p == 4)=false:=by simpa using hp4
  by_cases hp5:p=5
  ·have hV:Hid (xbA p a b=(⟨if (a.n == b.n) then 2 else 1,0⟩,0)):=by show _=_;rw[hP];rw[if_neg hp1];rw[if_neg hp2];rw[if_neg hp3];rw[if_neg hp4];rw[if_pos hp5];simp
   have hq5:(p == 5)=true:=by simpa using hp5
   clear hP;have hrb:=fun w=>xdZ ((a.n == b.n)) w
   generalize (if (a.n == b.n)=true then (2:Int) else 1)=z at hrb hV;go_wp2_with fail;refine (hrb _).mono ?_;rintro e w1 ⟨rfl,hb1⟩;have hR1:=hR.later hb1;clear a0 a1 b0 b1 r0 r1 rf hR;obtain⟨-,a0,a1,b0,b1,r0,r1,rf,-⟩:=id hR1;go_wp2;refine qzK (v:=.tuple #[VV ⟨z,0⟩,.int .i64 0]) ?_ rfl ⟨by have:=hV.out;first | rw[this] | (rw[hp5] at this;rw[this]),(hR1.bel.setCell (by simp) _).setCell (by simp) _⟩
   simp[results,Tryz.results51,go_sem,r0,r1]
  have hq5:(p == 5)=false:=by simpa using hp5
  have hV:Hid (xbA p a b=(xaU,1)):=by show _=_;rw[hP,if_neg hp1,if_neg hp2,if_neg hp3,if_neg hp4,if_neg hp5]
  clear hP;go_wp2;refine qzK (v:=.tuple #[VV xaU,.int .i64 1]) ?_ rfl ⟨by rw[hV.out],(hR.bel.setCell (by simp) _).setCell (by simp) _⟩
  simp[results,Tryz.results51,go_sem,r0,r1]
 ·have hV:Hid (xbA p a b=(xaU,12)):=by show _=_;unfold xbA;rw[if_pos (by omega)]
  by_cases h1:a.k=3
  ·have ak':(a.k != 3)=false:=by simpa using h1
   have bk':(b.k != 3)=true:=by simp;omega
   go_wp2;refine qzK (v:=.tuple #[VV xaU,.int .i64 12]) ?_ rfl ⟨by rw[hV.out],(hR.bel.setCell (by simp) _).setCell (by simp) _⟩
   simp[results,Tryz.results51,go_sem,r0,r1]
  ·have ak':(a.k != 3)=true:=by simpa using h1
   go_wp2;refine qzK (v:=.tuple #[VV xaU,.int .i64 12]) ?_ rfl ⟨by rw[hV.out],(hR.bel.setCell (by simp) _).setCell (by simp) _⟩
   simp[results,Tryz.results51,go_sem,r0,r1]
def xoE (p:Rp)(d:Nat):Prop:=
 ∀ (K:Nat) (T:Nat->Nat) (w:World) (mb:Nat) (m:Mc RSt) (hv sv ov:Value) (c n:Int) (self:QV) (args:List QV) (av:Value) (mt:QM) (kv:Value),5<=K->RMac p T w mb m (20-(d:Int)) 0 hv sv ov->MIn p.E m->Few m->FOk p.X.cz m.heap.length (xaG p.E c n mt self args)->PlOk (xaG p.E c n mt self args)->xaB (Fx T w) w av args->xa5 (Fx T w) w kv mt.code->
  Calls Tryz.prog 52 #[.pointer (some ⟨mb,0,none⟩),.int .i64 c,MV mt kv,VV self,av] w fun e w'=>xaS p T w mb (20-(d:Int)) K (xcL (xa1 p.E d) p.E d (xeQ (xaG p.E c n mt self args)) m (xaG p.E c n mt self args)) e w'
structure ErB (w:World)(sf:QV)(mt:QM)(kv:Value)(w':World):Prop where
 s0:w'.cell? ⟨w.heap.size,0,none⟩=some (.int .i64 sf.k)
 s1:w'.cell? ⟨w.heap.size,1,none⟩=some (.int .i64 sf.n)
 r0:w'.cell? ⟨w.heap.size+1,0,none⟩=some (.int .i64 0)
 r1:w'.cell? ⟨w.heap.size+1,1,none⟩=some (.int .i64 0)
 rf:∀ o,w'.frozen? ⟨w.heap.size+1,o,none⟩=false
 m0:w'.heap[w.heap.size+2]?=some (.cells #[.string mt.name,.int .i64 mt.args,.int .i64 mt.temps,.int .i64 mt.prim,kv] 59 (0,0))
theorem ErB.kp {w:World}{sf:QV}{mt:QM}{kv:Value}{w' w'':World}{S:Nat->Prop}{T:Nat->Nat}(h:ErB w sf mt kv w')(k:Kp S T w' w'')(h0:¬ S (T w.heap.size))(h1:¬ S (T (w.heap.size+1)))(h2:¬ S (T (w.heap.size+2))):ErB w sf mt kv w'':=
 ⟨k.cell h.s0 h0,k.cell h.s1 h0,k.cell h.r0 h1,k.cell h.r1 h1,fun o=>xb6 k (by have:=xaf h.m0;omega) h1 (h.rf o),k.held h.m0 h2⟩
theorem ErB.later {w:World}{sf:QV}{mt:QM}{kv:Value}{w' w'':World}(h:ErB w sf mt kv w')(hb:Below w'.heap.size w' w''):ErB w sf mt kv w'':=h.kp (S:=fun _=>False) (T:=fun _=>0) (.of_below hb) id id id
theorem xog (w:World)(sf:QV)(mt:QM)(kv:Value):ErB w sf mt kv (((w.alloc (.cells #[.int .i64 sf.k,.int .i64 sf.n] 27)).alloc (.cells #[.int .i64 0,.int .i64 0] 27)).alloc (.cells #[.string mt.name,.int .i64 mt.args,.int .i64 mt.temps,.int .i64 mt.prim,kv] 59)):=by
 obtain⟨s0,s1,r0,r1,rf,sz⟩:=xhM w sf;have hb:=xaj ((w.alloc (.cells #[.int .i64 sf.k,.int .i64 sf.n] 27)).alloc (.cells #[.int .i64 0,.int .i64 0] 27)) (.cells #[.string mt.name,.int .i64 mt.args,.int .i64 mt.temps,.int .i64 mt.prim,kv] 59);have hz:((w.alloc (.cells #[.int .i64 sf.k,.int .i64 sf.n] 27)).alloc (.cells #[.int .i64 0,.int .i64 0] 27)).heap.size=w.heap.size+2:=by simp
 refine⟨qzA hb s0,qzA hb s1,qzA hb r0,qzA hb r1,fun o=>(hb.frozen (p:=⟨w.heap.size+1,o,none⟩) (by simp)).trans (rf o),?_⟩
 have:=qzJ ((w.alloc (.cells #[.int .i64 sf.k,.int .i64 sf.n] 27)).alloc (.cells #[.int .i64 0,.int .i64 0] 27)) (.cells #[.string mt.name,.int .i64 mt.args,.int .i64 mt.temps,.int .i64 mt.prim,kv] 59);rw[hz] at this
 exact this
section
variable {p:Rp} {d:Nat} {T T1:Nat->Nat} {w U:World} {mb K:Nat} {m:Mc RSt} {hv sv ov:Value} {r:Mc RSt × QV × Int}
theorem xfU {deep:Int}(hE:Ext T T1 w)(hM:RMac p T1 U mb r.1 deep r.2.2 hv sv ov)(hK:Kp (All K) T w U)(h4:T1 (w.heap.size+1)=4):xaS p T w mb deep K r (.returned (VV r.2.1)) ((U.setCell ⟨w.heap.size+1,0,none⟩ (.int .i64 r.2.1.k)).setCell ⟨w.heap.size+1,1,none⟩ (.int .i64 r.2.1.n)):=by
 have k4:Kp (fun t=>t=4) T1 U ((U.setCell ⟨w.heap.size+1,0,none⟩ (.int .i64 r.2.1.k)).setCell ⟨w.heap.size+1,1,none⟩ (.int .i64 r.2.1.n)):=((Kp.refl (fun t=>t=4) T1 U).set (b:=w.heap.size+1) (fun _=>h4) _ _).set (b:=w.heap.size+1) (fun _=>h4) _ _
 exact⟨rfl,⟨T1,_,_,_,hE,hM.keep (.refl _ _) k4 (by omega) (by omega) (by omega) (by omega)⟩,(hK.set (fun h=>by omega) _ _).set (fun h=>by omega) _ _⟩
end
theorem xfO {h:Int}{v:QV}(hv:xas h v=0):v.k=3->-1073741824<=v.n/\v.n<=1073741824:=fun hk=>by
 unfold xas xch at hv;rw[hk] at hv
 simp at hv
 omega
structure PmS (W:World)(b:Nat)(q:Int)(s y:QV)(ba oa:Nat)(w':World):Prop where
 c1:w'.cell? ⟨b+2,3,none⟩=some (.int .i64 q)
 c2:w'.cell? ⟨b,0,none⟩=some (.int .i64 s.k)
 c3:w'.cell? ⟨b,1,none⟩=some (.int .i64 s.n)
 c4:w'.cell? ⟨ba,oa,none⟩=some (.int .i64 y.k)
 c5:w'.cell? ⟨ba,oa+1,none⟩=some (.int .i64 y.n)
 bel:Below W.heap.size W w'
 lt:b+2<W.heap.size/\ba<W.heap.size
theorem PmS.later {W:World}{b:Nat}{q:Int}{s y:QV}{ba oa:Nat}{w' w'':World}(h:PmS W b q s y ba oa w')(hb:Below w'.heap.size w' w''):PmS W b q s y ba oa w'':=⟨qzA hb h.c1,qzA hb h.c2,qzA hb h.c3,qzA hb h.c4,qzA hb h.c5,xah h.bel hb,h.lt⟩
theorem PmS.al {W:World}{b:Nat}{q:Int}{s y:QV}{ba oa:Nat}{w':World}(h:PmS W b q s y ba oa w'):w'.cell? ⟨b+1+1,3,none⟩=some (.int .i64 q)/\w'.cell? ⟨b,0,none⟩=some (.int .i64 s.k)/\w'.cell? ⟨b,1,none⟩=some (.int .i64 s.n)/\w'.cell? ⟨ba,oa,none⟩=some (.int .i64 y.k)/\w'.cell? ⟨ba,oa+1,none⟩=some (.int .i64 y.n)/\PmS W b q s y ba oa w':=⟨h.c1,h.c2,h.c3,h.c4,h.c5,h⟩
theorem PmS.set {W:World}{b:Nat}{q:Int}{s y:QV}{ba oa:Nat}{w':World}(h:PmS W b q s y ba oa w'){x:Nat}(hx:W.heap.size<=x)(o:Nat)(u:Value):PmS W b q s y ba oa (w'.setCell ⟨x,o,none⟩ u):=
 have hl:=h.lt
 ⟨(qzI _ _ _ _ (by simp;omega)).trans h.c1,(qzI _ _ _ _ (by simp;omega)).trans h.c2,(qzI _ _ _ _ (by simp;omega)).trans h.c3,(qzI _ _ _ _ (by simp;omega)).trans h.c4,(qzI _ _ _ _ (by simp;omega)).trans h.c5,h.bel.setCell hx _,hl⟩
theorem xoy {V w2:World}{v:QV}(hb:Below (V.alloc (.cells #[.int .i64 0,.int .i64 0] 27)).drew.heap.size (V.alloc (.cells #[.int .i64 0,.int .i64 0] 27)).drew w2):((w2.setCell ⟨V.heap.size,0,none⟩ (.int .i64 v.k)).setCell ⟨V.heap.size,1,none⟩ (.int .i64 v.n)).cell? ⟨V.heap.size,0,none⟩=some (.int .i64 v.k)/\((w2.setCell ⟨V.heap.size,0,none⟩ (.int .i64 v.k)).setCell ⟨V.heap.size,1,none⟩ (.int .i64 v.n)).cell? ⟨V.heap.size,1,none⟩=some (.int .i64 v.n):=by
 have g0:(V.alloc (.cells #[.int .i64 0,.int .i64 0] 27)).drew.cell? ⟨V.heap.size,0,none⟩=some (.int .i64 0):=xaa V _ _ _ rfl 0;have g1:(V.alloc (.cells #[.int .i64 0,.int .i64 0] 27)).drew.cell? ⟨V.heap.size,1,none⟩=some (.int .i64 0):=xaa V _ _ _ rfl 1;have c0:=qzA hb g0;have c1:=qzA hb g1
 exact⟨(qzM _ _ _ _ (by simp)).trans (World.cell?_setCell_same _ _ _ c0),World.cell?_setCell_same _ _ _ ((qzM _ _ _ _ (by simp)).trans c1)⟩
theorem xf2 {p:Rp}(hX:Rx p)(d:Nat)(hd:d<=20)(hB:∀ d',d=d'+1->xoE p d'):xoY p d:=by
 intro K T w mb m hv sv ov c n self args av mt hK h hI hW hSe hAr hA hmt;obtain⟨aa,ca,rfl,-,hca,-,-⟩:=id hA;unfold maxLen at hca;obtain⟨q,j,xc,rfl,rfl,hxc,hxm⟩:=xej hmt;obtain⟨ac,cc,hcv,hlc,hcc,-,hrow⟩:=id h.cls;obtain⟨bc,oc,hac,-,-,-,-,-,mv,y3,hms⟩:=hrow q xc hxc;obtain⟨am,cm,rfl,hlm,hcm,-,hrm⟩:=hms;obtain⟨b2,o2,rfl,-,z0,z1,z2,z3,-,kv,z4,hco⟩:=hrm j mt hxm;obtain⟨ak,ck,rfl,-⟩:=id hco;subst hac;simp only[Nat.add_zero] at z0;unfold maxLen at hcc hcm;have hq:=xae hxc;have hj:=xae hxm;have hq1:(q:Int)<(p.X.cz.length:Int):=by omega
 have hq0:(0:Int)<=(q:Int):=by omega
 have hj1:(j:Int)<(xc.mz.length:Int):=by omega
 have hj0:(0:Int)<=(j:Int):=by omega
 have hmbl:=xaf h.box;have hb2:=xca w (.cells #[.int .i64 self.k,.int .i64 self.n] 27) (.cells #[.int .i64 0,.int .i64 0] 27);have hb3:=xfv w (.cells #[.int .i64 self.k,.int .i64 self.n] 27) (.cells #[.int .i64 0,.int .i64 0] 27) (.cells #[.string mt.name,.int .i64 mt.args,.int .i64 mt.temps,.int .i64 mt.prim,.slice ak mt.code.length ck] 59);have c0:=qzA hb2 h.c0;rw[hcv] at c0;have y3':=qzA hb2 y3;have z0':=qzA hb2 z0;have z1':=qzA hb2 z1;have z2':=qzA hb2 z2;have z3':=qzA hb2 z3;have z4':=qzA hb2 z4;have hE0:=xog w self mt (.slice ak mt.code.length ck);have hM0:=h.keep (xao T w 4) (Kp.of_below (S:=fun _=>False) hb3) id id id id
 have hA0:=hA.fx xaK (xao T w 4) (Kp.of_below (S:=fun _=>False) hb3) id
 have hC0:=hco.fx xbl (xao T w 4) (Kp.of_below (S:=fun _=>False) hb3) id
 have HK0:Hid (Kp (All K) T w _):=Kp.of_below hb3;have HRM:=hid (xfT hX.right hmt);have HEN:Hid (xa1 p.E d m q j self args=xbj p.E d (xie p.E d) m q j self args):=by show _=_;rw[xlq]
 have HMT:=hid hmt;clear hrow hrm hxc hxm z0 z1 z2 z3 z4 y3 hco hA h;go_enter Tryz.func35,Tryz.ntmps35
 go_upto_region 2 with (fail)
 generalize (((w.alloc (.cells #[.int .i64 self.k,.int .i64 self.n] 27)).alloc (.cells #[.int .i64 0,.int .i64 0] 27)).alloc (.cells #[.string mt.name,.int .i64 mt.args,.int .i64 mt.temps,.int .i64 mt.prim,.slice ak mt.code.length ck] 59))=W at *;have t0:xau T w 4 w.heap.size=4:=xav (qzC _);have t1:xau T w 4 (w.heap.size+1)=4:=xav (by omega)
 have t2:xau T w 4 (w.heap.size+2)=4:=xav (by omega)
 have hEx:=xao T w 4;generalize xau T w 4=T1 at *;have HEx:=hid hEx;have HT1:=hid t1;clear c0 y3' z0' z1' z2' z3' z4' hb2 hb3 hEx;have hne1:¬ mb=w.heap.size+1:=by omega
 have hne1':¬ w.heap.size+1=mb:=by omega
 have hne0:¬ mb=w.heap.size:=by omega
 have hne0':¬ w.heap.size=mb:=by omega
 have hne2:¬ mb=w.heap.size+2:=by omega
 have hne2':¬ w.heap.size+2=mb:=by omega
 have hfail:∀ (e:Int),Hid (RMac p T1 (W.setCell ⟨mb,7,none⟩ (.int .i64 e)) mb m (20-(d:Int)) e hv sv ov/\Kp (All K) T w (W.setCell ⟨mb,7,none⟩ (.int .i64 e))):=fun e=>⟨hM0.num7 e,HK0.out.trans HEx.out ((kp1 hM0 7 (.int .i64 e)).mono fun t h=>Or.inl h)⟩
 have c7:=hM0.c7;have cf:=xam hM0.box;obtain⟨s0,s1,r0,r1,rf,hm0⟩:=id hE0;have m1:W.cell? ⟨w.heap.size+2,1,none⟩=some (.int .i64 mt.args):=by rw[qzB hm0];rfl
 have m3:W.cell? ⟨w.heap.size+2,3,none⟩=some (.int .i64 mt.prim):=by rw[qzB hm0];rfl
 have hEq:∀ r,xbj p.E d (xie p.E d) m q j self args=r->Hid (xa1 p.E d m q j self args=r):=fun r h=>HEN.out.trans h
 by_cases hargs:mt.args=(args.length:Int)
 ·have hd:(mt.args == (args.length:Int))=true:=by simpa using hargs
  have c3:=hM0.c3;have c4:=hM0.c4;have HArg:=hid hargs;rw[hargs] at m1;clear hargs hd hfail
  go_upto_region 5 with (fail)
  go_quiet (fail)
  have hbq:=below_drewN (qzL W.heap.size W) nq;replace hM0:=hM0.later hbq;replace hE0:=hE0.later hbq;replace hA0:=hA0.fx xaK (.refl _ _) (Kp.of_below (S:=fun _=>False) hbq) id
  replace hC0:=hC0.fx xbl (.refl _ _) (Kp.of_below (S:=fun _=>False) hbq) id
  have HKV:Hid (Kp (All K) T w (W.drewN nq)):=HK0.out.trans HEx.out (Kp.of_below hbq);clear hbq c3 c4 c7 cf s0 s1 r0 r1 rf hm0 m1 m3;generalize W.drewN nq=V at *;obtain⟨s0,s1,r0,r1,rf,hm0⟩:=id hE0;have m3:V.cell? ⟨w.heap.size+2,3,none⟩=some (.int .i64 mt.prim):=by rw[qzB hm0];rfl
  have c4:=hM0.c4;have c6:=hM0.c6;have c7:=hM0.c7;have cf:=xam hM0.box;have hfail:∀ (e:Int),Hid (RMac p T1 (V.setCell ⟨mb,7,none⟩ (.int .i64 e)) mb m (20-(d:Int)) e hv sv ov/\Kp (All K) T w (V.setCell ⟨mb,7,none⟩ (.int .i64 e))):=fun e=>⟨hM0.num7 e,HKV.out.trans HEx.out ((kp1 hM0 7 (.int .i64 e)).mono fun t h=>Or.inl h)⟩
  have hEnt:xbj p.E d (xie p.E d) m q j self args=if mt.prim≠0 then (if p.fuel<=m.sz_ then (m,xaU,13) else ({ m with sz_:=m.sz_+1 },xbA mt.prim self (xaM args 0))) else if (xay p.E d m).2≠0 then (m,xaU,(xay p.E d m).2) else xie p.E d (xay p.E d m).1 (xaG p.E q j mt self args):=by
   unfold xbj;rw[show xaO p.E.cz (q:Int) (j:Int)=some mt from HMT.out]
   simp only[];rw[if_neg (by have:=HArg.out;omega)]
   rfl
  have HEnt:=hid hEnt;clear hEnt
  by_cases hfu:p.fuel<=m.sz_
  ·have HV:=hEq (m,xaU,13) (by
    rw[HEnt.out]
    by_cases hpr:mt.prim≠0
    ·rw[if_pos hpr,if_pos hfu]
    ·rw[if_neg hpr];have hc:xay p.E d m=(m,13):=by unfold xay;rw[if_pos (show p.E.fuel<=m.sz_ from hfu)]
     rw[hc];simp)
   obtain⟨HM7,HK7⟩:=(hfail 13).out;have HM7:=hid HM7;have HK7:=hid HK7;have hfd:decide (p.fuel<=m.sz_)=true:=by simpa using hfu
   clear hfail hEq hE0 hM0 hA0 hC0;go_wp2;rw[HV.out];refine qzK (v:=VV xaU) ?_ rfl (xfU (r:=(m,xaU,13)) HEx.out HM7.out HK7.out HT1.out)
   simp[results,Tryz.results35,go_sem,r0,r1,hne1,hne1']
  ·have hfd:decide (p.fuel<=m.sz_)=false:=by simpa using hfu
   have HFu:=hid hfu;have hsw:IntKind.i64.wrap (m.sz_+1)=m.sz_+1:=by have:=hI.sz_;have:=hX.fuel;exact xaE (by omega) (by omega)
   have hsw':wrap64 (m.sz_+1)=m.sz_+1:=by have:=hI.sz_;have:=hX.fuel;unfold wrap64;omega
   clear hfu
   by_cases hpr:mt.prim=0
   ·rw[hpr] at m3
    by_cases hd0:d=0
    ·have HV:=hEq (m,xaU,14) (by
      rw[HEnt.out,if_neg (by simpa using hpr)]
      have hc:xay p.E d m=(m,14):=by unfold xay;rw[if_neg (show ¬ p.E.fuel<=m.sz_ from HFu.out),if_pos hd0]
      rw[hc];simp)
     obtain⟨HM7,HK7⟩:=(hfail 14).out;have HM7:=hid HM7;have HK7:=hid HK7;have c6a:V.cell? ⟨mb,6,none⟩=some (.int .i64 20):=by rw[c6,hd0];rfl
     obtain rfl:d=0:=hd0;clear c6;clear hfail hEq hE0 hM0 hA0 hC0 hpr;go_wp2;rw[HV.out];refine qzK (v:=VV xaU) ?_ rfl (by have:=xfU (r:=(m,xaU,14)) HEx.out HM7.out HK7.out HT1.out;simpa using this)
     simp[results,Tryz.results35,go_sem,r0,r1,hne1,hne1']
    ·obtain⟨d',rfl⟩:∃ d',d=d'+1:=⟨d-1,by omega⟩
     have hc:xay p.E (d'+1) m=({ m with sz_:=m.sz_+1 },0):=by unfold xay;rw[if_neg (show ¬ p.E.fuel<=m.sz_ from HFu.out),if_neg (by omega)]
     have HV:=hEq (xcL (xa1 p.E d') p.E d' (xeQ (xaG p.E q j mt self args)) { m with sz_:=m.sz_+1 } (xaG p.E q j mt self args)) (by
      rw[HEnt.out,if_neg (by simpa using hpr),hc]
      simp only[];rw[if_neg (by simp)]
      rfl)
     have hdp:(20:Int)-((d'+1:Nat):Int)=19-(d':Int):=by omega
     rw[hdp] at c6;have hdg:decide ((20:Int)<=19-(d':Int))=false:=by simp;omega
     have hdw:IntKind.i64.wrap (19-(d':Int)+1)=20-(d':Int):=by rw[xaE (by omega) (by omega)];omega
     have hdw':wrap64 (19-(d':Int)+1)=20-(d':Int):=by unfold wrap64;omega
     have hdv:IntKind.i64.wrap (20-(d':Int)-1)=19-(d':Int):=by rw[xaE (by omega) (by omega)];omega
     have hdv':wrap64 (20-(d':Int)-1)=19-(d':Int):=by unfold wrap64;omega
     have hM1:=(hM0.num4 (m.sz_+1)).num6 (20-(d':Int));have k1:Kp (fun t=>t=1) T1 V ((V.setCell ⟨mb,4,none⟩ (.int .i64 (m.sz_+1))).setCell ⟨mb,6,none⟩ (.int .i64 (20-(d':Int)))):=(kp1 hM0 4 _).trans (.refl _ _) (kp1 (hM0.num4 (m.sz_+1)) 6 _)
     have hE1:=hE0.kp k1 (by rw[t0];omega) (by rw[t1];omega) (by rw[t2];omega)
     have hA1:=hA0.fx xaK (.refl _ _) k1 (by omega)
     have hC1:=hC0.fx xbl (.refl _ _) k1 (by omega)
     have HK1:Hid (Kp (All K) T w _):=HKV.out.trans HEx.out (k1.mono fun t h=>Or.inl h)
     have hMI:MIn p.E { m with sz_:=m.sz_+1 }:=⟨hI.heap,⟨by have:=hI.sz_;show 0<=m.sz_+1;omega,by have:=HFu.out;show m.sz_+1<=p.fuel;omega⟩,hI.turns⟩
     have hFw:Few { m with sz_:=m.sz_+1 }:=hW
     have hFO:FOk p.X.cz m.heap.length (xaG p.E q j mt self args):=⟨hSe,hAr,xc8 _ _,(fun v hv=>by cases hv),hX.ok.meths _ _ _ HMT.out,hX.ok.meths _ _ _ HMT.out⟩
     have hPl:PlOk (xaG p.E q j mt self args):=xl9 hX.right HMT.out hpr HArg.out self rfl;have hBd:=hB d' rfl K T1 _ mb _ hv sv ov q j self args _ mt _ hK hM1 hMI hFw hFO hPl hA1 hC1;have n4:=hM0.c4;have g6:(V.setCell ⟨mb,4,none⟩ (.int .i64 (m.sz_+1))).cell? ⟨mb,6,none⟩=some (.int .i64 (19-(d':Int))):=by have:=(hM0.num4 (m.sz_+1)).c6;rw[hdp] at this;exact this
     have gf:=xam (hM0.num4 (m.sz_+1)).box;clear hfail hEq hE0 hM0 hA0 hC0 hMI hFw hFO hPl hA1 hC1 k1 hpr
     go_upto_region 18 with (fail)
     generalize ((V.setCell ⟨mb,4,none⟩ (.int .i64 (m.sz_+1))).setCell ⟨mb,6,none⟩ (.int .i64 (20-(d':Int))))=V2 at *;have hB1:=hE1.m0;have a0:V2.cell? ⟨w.heap.size+2,0,none⟩=some (.string mt.name):=by rw[qzB hB1];rfl
     have a1:V2.cell? ⟨w.heap.size+2,1,none⟩=some (.int .i64 mt.args):=by rw[qzB hB1];rfl
     have a2:V2.cell? ⟨w.heap.size+2,2,none⟩=some (.int .i64 mt.temps):=by rw[qzB hB1];rfl
     have a3:V2.cell? ⟨w.heap.size+2,3,none⟩=some (.int .i64 mt.prim):=by rw[qzB hB1];rfl
     have a4:V2.cell? ⟨w.heap.size+2,4,none⟩=some (.slice ak mt.code.length ck):=by rw[qzB hB1];rfl
     have b0:=hE1.s0;have b1:=hE1.s1;clear s0 s1 r0 r1 rf hm0 m3 c4 c6 c7 cf n4 g6 gf;go_wp2_with fail;clear a0 a1 a2 a3 a4 b0 b1 hB1;refine hBd.mono ?_;rintro e w3 ⟨rfl,⟨T3,hv3,sv3,ov3,hE3,hM3⟩,hK3⟩;dsimp only;have hE3b:=hE1.kp hK3 (by rw[t0];unfold All;omega) (by rw[t1];unfold All;omega) (by rw[t2];unfold All;omega)
     obtain⟨RR,HRR⟩:∃ RR,Hid (xcL (xa1 p.E d') p.E d' (xeQ (xaG p.E q j mt self args)) { m with sz_:=m.sz_+1 } (xaG p.E q j mt self args)=RR):=⟨_,rfl⟩
     rw[HRR.out] at hM3 ⊢;have hbx:=xaj w3 (.cells #[.int .i64 RR.2.1.k,.int .i64 RR.2.1.n] 27);have hE4:=hE3b.later hbx;have hM4:=hM3.later hbx;have k6:=hM4.c6;have kf:=xam hM4.box;have e0:(w3.alloc (.cells #[.int .i64 RR.2.1.k,.int .i64 RR.2.1.n] 27)).cell? ⟨w3.heap.size,0,none⟩=some (.int .i64 RR.2.1.k):=xaa _ _ _ _ rfl 0;have e1:(w3.alloc (.cells #[.int .i64 RR.2.1.k,.int .i64 RR.2.1.n] 27)).cell? ⟨w3.heap.size,1,none⟩=some (.int .i64 RR.2.1.n):=xaa _ _ _ _ rfl 1;have hM5:=hM4.num6 (19-(d':Int));have hmw:mb<w3.heap.size:=xaf hM3.box;have hww:w.heap.size+2<w3.heap.size:=xaf hE3b.m0;have hz2:V2.heap.size<=w3.heap.size:=hK3.size
     have HE3:Hid (Ext T T3 w):=fun b hb=>(hE3 b (by have:=HK1.out.size;omega)).trans (HEx.out b hb)
     have HT3:Hid (T3 (w.heap.size+1)=4):=by show _=_;rw[hE3 _ (by have:=xaf hE1.m0;omega)];exact t1
     have HK5:Hid (Kp (All K) T w ((w3.alloc (.cells #[.int .i64 RR.2.1.k,.int .i64 RR.2.1.n] 27)).setCell ⟨mb,6,none⟩ (.int .i64 (19-(d':Int))))):=by
      have k5:=kp1 hM4 6 (.int .i64 (19-(d':Int)));have:=(HK1.out.trans HEx.out hK3).on hbx
      exact this.trans HE3.out (k5.mono fun t h=>Or.inl h)
     have HM5:=hid hM5;obtain⟨-,-,r0,r1,rf,-⟩:=hE4;have n1:¬ mb=w3.heap.size:=by omega
     have n2:¬ w3.heap.size=mb:=by omega
     have n3:¬ w.heap.size+1=w3.heap.size:=by omega
     have n4:¬ w3.heap.size=w.heap.size+1:=by omega
     clear hE1 hE3b hM3 hM4 hM5 hE3 hK3 hBd hbx
     go_upto_region 19 with (fail)
     generalize (w3.alloc (.cells #[.int .i64 RR.2.1.k,.int .i64 RR.2.1.n] 27))=V4 at *;go_wp2;rw[HV.out,HRR.out];refine qzK (v:=VV RR.2.1) ?_ rfl (xfU (r:=RR) HE3.out (by rw[hdp];exact HM5.out) HK5.out HT3.out)
     simp[results,Tryz.results35,go_sem,r0,r1,hne1,hne1',n1,n2,n3,n4]
   ·have hpn:(mt.prim == 0)=false:=by simpa using hpr
    have hone:args.length=1:=by
     rcases HRM.out with ⟨-,h1⟩ | ⟨h0,-⟩
     ·have:=HArg.out;omega
     ·exact absurd h0 hpr
    obtain⟨a0,rfl⟩:∃ a0,args=[a0]:=by
     match args,hone with
     | [a0],_=>exact⟨a0,rfl⟩
    have HV:=hEq ({ m with sz_:=m.sz_+1 },xbA mt.prim self a0) (by
     rw[HEnt.out,if_pos hpr,if_neg HFu.out]
     rfl)
    have hM1:=hM0.num4 (m.sz_+1);have k1:=kp1 hM0 4 (.int .i64 (m.sz_+1));have hE1:=hE0.kp k1 (by rw[t0];omega) (by rw[t1];omega) (by rw[t2];omega)
    have hA1:=hA0.fx xaK (.refl _ _) k1 (by omega)
    have HK1:Hid (Kp (All K) T w (V.setCell ⟨mb,4,none⟩ (.int .i64 (m.sz_+1)))):=HKV.out.trans HEx.out (k1.mono fun t h=>Or.inl h)
    clear hfail hEq hE0 hM0 hA0 hC0 s0 s1 r0 r1 rf hm0 c6 c7 k1 hpr
    go_upto_region 10 with (fail)
    generalize (V.setCell ⟨mb,4,none⟩ (.int .i64 (m.sz_+1)))=V1 at *;obtain⟨aa',ca',e',-,-,-,hrow⟩:=id hA1;simp only[Value.slice.injEq] at e';obtain⟨rfl,-,-⟩:=e';obtain⟨ba,oa,rfl,hba,u0,u1⟩:=hrow 0 a0 rfl;simp only[Nat.zero_mul,Nat.add_zero] at u0 u1;have n3:V1.cell? ⟨w.heap.size+2,3,none⟩=some (.int .i64 mt.prim):=by rw[qzB hE1.m0];rfl
    have hlw:=xaf hE1.m0;have hS0:PmS V1 w.heap.size mt.prim self a0 ba oa V1.drew:=⟨n3,hE1.s0,hE1.s1,u0,u1,(qzL _ _).drew,hlw,hba.1⟩;have hr1:=xfO hSe;have hr2:=xfO (hAr a0 (by simp))
    clear n3 u0 u1 hrow;obtain⟨v1,e1,hr⟩:∃ v1 e1,xbA mt.prim self a0=(v1,e1):=⟨_,_,rfl⟩;have hprim:∀ w,Calls Tryz.prog 51 #[.int .i64 mt.prim,VV self,VV a0] w fun e w'=>e=.returned (.tuple #[VV v1,.int .i64 e1])/\Below w.heap.size w w':=fun w=>by have:=xlk mt.prim self a0 w hr1 hr2;rw[hr] at this;exact this
    rw[hr] at HV;clear hr hr1 hr2;have HE1:=hid hE1;have HM1:=hid hM1;clear hE1 hM1 hA1 m3 c4 cf;have tokA:True:=trivial
    go_region_held3 (fun w'=>w'.cell? ⟨w.heap.size+1+1,3,none⟩=some (.int .i64 mt.prim)/\w'.cell? ⟨w.heap.size,0,none⟩=some (.int .i64 self.k)/\w'.cell? ⟨w.heap.size,1,none⟩=some (.int .i64 self.n)/\w'.cell? ⟨ba,oa,none⟩=some (.int .i64 a0.k)/\w'.cell? ⟨ba,oa+1,none⟩=some (.int .i64 a0.n)/\PmS V1 w.heap.size mt.prim self a0 ba oa w')
     (first | with_reducible exact hS0.al | with_reducible exact hY.al | exact (hS0.later (xaj _ _)).al | exact (hY.later (xaj _ _)).al | exact ((‹_/\_/\_/\_/\_/\PmS V1 w.heap.size mt.prim self a0 ba oa _›).2.2.2.2.2.later (xaj _ _)).al | exact ((hY.set (by omega) _ _).set (by omega) _ _).al | exact ((((‹_/\_/\_/\_/\_/\PmS V1 w.heap.size mt.prim self a0 ba oa _›).2.2.2.2.2.set (by omega) _ _).set (by omega) _ _).al))
     (first
      | (have _t:=tokA;go_at_call 51;refine (hprim _).mono ?_;rintro e w2 ⟨rfl,hb2⟩;have hY:=(‹_/\_/\_/\_/\_/\PmS V1 w.heap.size mt.prim self a0 ba oa _›).2.2.2.2.2.later hb2;have hsz0:=(‹_/\_/\_/\_/\_/\PmS V1 w.heap.size mt.prim self a0 ba oa _›).2.2.2.2.2.bel.size;clear tokA;obtain⟨hc2,hf2⟩:=xhH hb2;have hz2:=hb2.size))
    ·have hT:=(‹_/\_/\_/\_/\_/\PmS V1 w.heap.size mt.prim self a0 ba oa _›).2.2.2.2.2.bel;have hM2:=HM1.out.later hT;have hE2:=HE1.out.later hT;have k7:=hM2.c7;have kf:=xam hM2.box;have e0:(w2.alloc (.cells #[.int .i64 v1.k,.int .i64 v1.n] 27)).cell? ⟨w2.heap.size,0,none⟩=some (.int .i64 v1.k):=xaa _ _ _ _ rfl 0;have e1':(w2.alloc (.cells #[.int .i64 v1.k,.int .i64 v1.n] 27)).cell? ⟨w2.heap.size,1,none⟩=some (.int .i64 v1.n):=xaa _ _ _ _ rfl 1;have hmv:mb<V1.heap.size:=xaf HM1.out.box;have n1:¬ mb=w2.heap.size:=by have:=hz2;have:=hsz0;omega
     have n2:¬ w2.heap.size=mb:=fun h=>n1 h.symm
     have n3:¬ w.heap.size+1=w2.heap.size:=by have:=hz2;have:=hsz0;omega
     have n4:¬ w2.heap.size=w.heap.size+1:=fun h=>n3 h.symm
     have HM3:=hid (hM2.num7 e1);have HK3:Hid (Kp (All K) T w ((w2.alloc (.cells #[.int .i64 v1.k,.int .i64 v1.n] 27)).setCell ⟨mb,7,none⟩ (.int .i64 e1))):=(HK1.out.on hT).trans HEx.out ((kp1 hM2 7 (.int .i64 e1)).mono fun t h=>Or.inl h)
     obtain⟨-,-,r0,r1,rf,-⟩:=hE2;clear hM2 hT hY hS0 hc2 hf2 hb2;generalize (w2.alloc (.cells #[.int .i64 v1.k,.int .i64 v1.n] 27))=V' at *;go_wp2;rw[HV.out];refine qzK (v:=VV v1) ?_ rfl (xfU (r:=(_,v1,e1)) HEx.out HM3.out HK3.out HT1.out)
     simp[results,Tryz.results35,go_sem,r0,r1,hne1,hne1',n1,n2,n3,n4]
    ·have hT:=(‹_/\_/\_/\_/\_/\PmS V1 w.heap.size mt.prim self a0 ba oa _›).2.2.2.2.2.bel;have hM2:=HM1.out.later hT;have hE2:=HE1.out.later hT;have k7:=hM2.c7;have kf:=xam hM2.box;obtain⟨e0,e1'⟩:=xoy (v:=v1) hb2;have hmv:mb<V1.heap.size:=xaf HM1.out.box;have n1:¬ mb=V1.heap.size:=by have:=hz2;have:=hsz0;omega
     have n2:¬ V1.heap.size=mb:=fun h=>n1 h.symm
     have n3:¬ w.heap.size+1=V1.heap.size:=by have:=hz2;have:=hsz0;omega
     have n4:¬ V1.heap.size=w.heap.size+1:=fun h=>n3 h.symm
     have HM3:=hid (hM2.num7 e1);have HK3:Hid (Kp (All K) T w (((w2.setCell ⟨V1.heap.size,0,none⟩ (.int .i64 v1.k)).setCell ⟨V1.heap.size,1,none⟩ (.int .i64 v1.n)).setCell ⟨mb,7,none⟩ (.int .i64 e1))):=(HK1.out.on hT).trans HEx.out ((kp1 hM2 7 (.int .i64 e1)).mono fun t h=>Or.inl h)
     obtain⟨-,-,r0,r1,rf,-⟩:=hE2;clear hM2 hT hY hS0 hc2 hf2 hb2;generalize ((w2.setCell ⟨V1.heap.size,0,none⟩ (.int .i64 v1.k)).setCell ⟨V1.heap.size,1,none⟩ (.int .i64 v1.n))=V' at *;go_wp2;rw[HV.out];refine qzK (v:=VV v1) ?_ rfl (xfU (r:=(_,v1,e1)) HEx.out HM3.out HK3.out HT1.out)
     simp[results,Tryz.results35,go_sem,r0,r1,hne1,hne1',n1,n2,n3,n4]
 ·have HV:=hEq (m,xaU,8) (by
   unfold xbj;rw[show xaO p.E.cz (q:Int) (j:Int)=some mt from HMT.out]
   simp only[];rw[if_pos hargs])
  have hd:(mt.args == (args.length:Int))=false:=by simpa using hargs
  obtain⟨HM7,HK7⟩:=(hfail 8).out;have HM7:=hid HM7;have HK7:=hid HK7;clear hfail hEq hE0 hM0 hA0 hC0 hargs;go_wp2;rw[HV.out];refine qzK (v:=VV xaU) ?_ rfl (xfU (r:=(m,xaU,8)) HEx.out HM7.out HK7.out HT1.out)
  simp[results,Tryz.results35,go_sem,r0,r1,hne1,hne1']
end Go.Proofs.YtapbeiccodnniaaGreat
