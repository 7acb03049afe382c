/- A part. -/
import Derived.Test.YtapbeiccodnniaaGreatM34
namespace Go.Proofs.YtapbeiccodnniaaGreat
open Go.ChangeShapes Go.WideShapes Go.ChangeAt Go.RowKit
set_option linter.unusedSimpArgs false
set_option linter.unusedVariables false
set_option maxHeartbeats 8000000
set_option maxRecDepth 100000
theorem xoO {w w':World}{B g n cap:Nat}{cs:List Value}(h:w.ownsRow B 27 2 (.slice (some ⟨g,0,none⟩) n cap) n cs)(hb:Below w.heap.size w w'):w'.ownsRow B 27 2 (.slice (some ⟨g,0,none⟩) n cap) n cs:=by
 obtain⟨h0,h1 | ⟨g',c,cur,e,h1,h2,h3⟩⟩:=h
 ·cases h1.1
 ·exact⟨h0,Or.inr ⟨g',c,cur,e,h1,by rw[hb.block _ (xaf h2)];exact h2,h3⟩⟩
theorem xpg {W w1:World}{g cap' B n:Nat}{args:List QV}(xv:QV)(hb:Below W.heap.size W w1)(hown:w1.ownsRow B 27 2 (.slice (some ⟨g,0,none⟩) n cap') n (xal args))(hn:args.length=n)(hnl:n<=1000000)(hB:W.heap.size<=B) :
  Below W.heap.size W (w1.alloc (.cells #[.int .i64 xv.k,.int .i64 xv.n] 27))/\(w1.alloc (.cells #[.int .i64 xv.k,.int .i64 xv.n] 27)).heap[w1.heap.size]?=some (.cells #[.int .i64 xv.k,.int .i64 xv.n] 27 (0,0))/\xaB (fun b=>W.heap.size<=b/\b<(w1.alloc (.cells #[.int .i64 xv.k,.int .i64 xv.n] 27)).heap.size) (w1.alloc (.cells #[.int .i64 xv.k,.int .i64 xv.n] 27)) (.slice (some ⟨g,0,none⟩) n cap') args:=by
 have h1:=xoO hown (xaj w1 (.cells #[.int .i64 xv.k,.int .i64 xv.n] 27));refine⟨xah hb (xaj _ _),qzJ w1 _,?_⟩;generalize (w1.alloc (.cells #[.int .i64 xv.k,.int .i64 xv.n] 27))=V at *
 have hc:Cells xmM 2 (fun b=>W.heap.size<=b/\b<V.heap.size) V (xal args) args:=⟨xbm _,fun i y hy=>by
  obtain⟨d1,d2⟩:=xbO hy
  exact⟨by simpa using d1,d2⟩⟩
 exact xe4 xaK h1 hc hn (fun b h1 h2=>⟨by omega,h2⟩) (by omega)
theorem xn3 {wr W V:World}{f:Fr}{x:QI}{nn na xb:Nat}{asv:Value}{xv:QV}(hb:Below wr.heap.size wr W)(hl:wr.heap.size<W.heap.size)(hx:InB W wr.heap.size x)(h1:Below W.heap.size W V)(h2:V.heap[xb]?=some (.cells #[.int .i64 xv.k,.int .i64 xv.n] 27 (0,0)))(h3:xaB (fun b=>W.heap.size<=b/\b<V.heap.size) V asv (f.stack.drop (nn+1)))(hxl:W.heap.size<=xb)(hna:x.a=(na:Int))(hlen:f.stack.length=nn+1+na)(hxv:f.stack[nn]?=some xv):SdA wr V f x nn na xb asv xv:=
 have hs:=h1.size
 ⟨xah hb h1,hx.later h1,h2,⟨by omega,by omega⟩,h3.mono xaK fun b hb=>⟨by omega,hb.2⟩,hna,hlen,hxv⟩
theorem br14:Br 14:=by
 intro p d T T1 w wr W mb K R av kv gk G' m f c n1 n2 n3 k x hv sv ov sa sc H hop
 intros
 rename_i hN K9 hK9;have HH:=hid H;obtain⟨hX,HEn,HR,HG,HX,HMa,HF,HL,HB1,HI,hM1,hF1,hsc1,hsc2,hBl,hWl,hxb,⟨aa,ca,rfl,hca⟩,ht40⟩:=H.pre;have HOP:=hid hop;clear hop;unfold xdw;unfold sw9 at hK9;have hp5:=hF1.pos;have hfw:=HX.out.few;obtain⟨hs0,hs4⟩:=HX.out.send HOP.out;have hneed:=HX.out.need;obtain⟨na,hna⟩:∃ na:Nat,x.a=(na:Int):=⟨x.a.toNat,by omega⟩
 have hnx:na+1<=f.stack.length:=by
  have hop:x.op=14:=HOP.out;have hn:(xaN x k).need=x.a+1:=by unfold xaN;simp[hop]
  rw[hn,hna] at hneed;omega
 obtain⟨nn,hlen⟩:∃ nn,f.stack.length=nn+1+na:=⟨f.stack.length-1-na,by omega⟩
 obtain⟨xv,hxv⟩:∃ xv,f.stack[nn]?=some xv:=⟨f.stack[nn]'(by omega),by simp⟩
 have HN:=hid (And.intro hna (And.intro hlen hxv));have hv:=hF1.stack.vals (by omega)
 obtain⟨a',cap',e',-,-,-,hrow⟩:=hv
 cases e'
 obtain⟨gs,os,rfl,hbo,y0,y1⟩:=hrow nn xv hxv;simp only[Nat.add_zero] at y0;have htl:=hF1.stack.tail (k:=nn+1) (by omega) (by omega)
 have hdl:(f.stack.drop (nn+1)).length=na:=by rw[List.length_drop];omega
 rw[hdl] at htl;obtain⟨at1,ct1,et1,-,-,hby,hrw⟩:=htl;simp only[Value.slice.injEq] at et1;obtain⟨et1,-,et3⟩:=et1;subst et1;subst et3;obtain⟨vs,hvs,hvsrc⟩:=hrw.cells xaK;have hvc:=xco (E:=()) hvs;subst hvc;have hvl:(xal (f.stack.drop (nn+1))).length=na*2:=by rw[xbm,hdl]
 obtain⟨ad,HAD⟩:∃ ad,Hid (ad=if sc=nn+1 then some (Addr.mk gs os none) else some (Addr.mk gs (os+(nn+1)*2) none)):=⟨_,rfl⟩
 have HV:Hid (∀ (j:Nat) (u:Value),(xal (f.stack.drop (nn+1)))[j]?=some u->∃ b,ad=some b/\W.cell? (b.add j)=some u):=by
  intro j u hj
  by_cases hsn:sc=nn+1
  ·have:f.stack.drop (nn+1)=[]:=List.eq_nil_of_length_eq_zero (by omega)
   rw[this] at hj
   simp[xal] at hj
  ·rw[HAD.out,if_neg hsn]
   exact hvsrc j u hj
 have x1:=hxb.x1;rw[hna] at x1;have hw40:IntKind.i64.wrap ((f.stack.length:Int)-(na:Int))=((nn+1:Nat):Int):=by rw[xaE (by omega) (by omega)];omega
 have hwn:IntKind.i64.wrap (((nn+1:Nat):Int)-1)=(nn:Int):=by rw[xaE (by omega) (by omega)];omega
 have hst0:=hF1.st;have hWl2:wr.heap.size<W.heap.size:=World.block_lt_of_cell? W ⟨wr.heap.size,1,none⟩ hxb.x1;have hSl:∀ w',Below W.heap.size W w'->w'.cell? ⟨w.heap.size+4,0,none⟩=some (.slice (some ⟨gs,os,none⟩) f.stack.length sc)/\w'.cell? ⟨gs,os+nn*2,none⟩=some (.int .i64 xv.k)/\w'.cell? ⟨gs,os+nn*2+1,none⟩=some (.int .i64 xv.n):=fun w' hb=>⟨qzA hb hF1.st,qzA hb y0,qzA hb y1⟩
 have hS0:=hSl _ (qzL _ W).drew;clear hrow hrw hvsrc hvs hna hM1 hneed hs0 hs4 hbo
 go_upto_region 41 with (fail)
 clear hst0 x1 hw40;refine xaY (S:=fun w'=>w'.cell? ⟨w.heap.size+4,0,none⟩=some (.slice (some ⟨gs,os,none⟩) f.stack.length sc)/\w'.cell? ⟨gs,os+nn*2,none⟩=some (.int .i64 xv.k)/\w'.cell? ⟨gs,os+nn*2+1,none⟩=some (.int .i64 xv.n)) [12] (by kernel_rfl) ?_
 refine tj 1 (⟨some 193,.load 28 (.tmp 12),28,_,_,none⟩) (.slice (some ⟨gs,os,none⟩) f.stack.length sc) (hS0) ?_ ?_
 ·rintro w⟨q0,q1,q2⟩;go_simp
 try simp only[Act.put,qzF,qzG,qzH]
 refine tj 2 (⟨some 194,.move (.tmp 18),3,_,_,none⟩) (.int .i64 ((nn+1:Nat):Int)) (hS0) ?_ ?_
 ·rintro w⟨q0,q1,q2⟩;go_simp
 try simp only[Act.put,qzF,qzG,qzH]
 refine tj 3 (⟨some 195,.slice 28 (.tmp 193) (some (.tmp 194)) none none,28,_,_,none⟩) (.slice ad na (sc-(nn+1))) (hS0) ?_ ?_
 ·rintro w⟨q0,q1,q2⟩;go_simp;rw[if_pos (by omega),HAD.out]
 try simp only[Act.put,qzF,qzG,qzH]
 refine tj 5 (⟨some 197,.load 28 (.tmp 12),28,_,_,none⟩) (.slice (some ⟨gs,os,none⟩) f.stack.length sc) (hS0) ?_ ?_
 ·rintro w⟨q0,q1,q2⟩;go_simp
 try simp only[Act.put,qzF,qzG,qzH]
 refine tj 6 (⟨some 198,.move (.tmp 18),3,_,_,none⟩) (.int .i64 ((nn+1:Nat):Int)) (hS0) ?_ ?_
 ·rintro w⟨q0,q1,q2⟩;go_simp
 try simp only[Act.put,qzF,qzG,qzH]
 refine tj 7 (⟨some 199,.binOp .sub 3 (.tmp 198) (.const (.int .i64 1)) 3,3,_,_,none⟩) (.int .i64 (nn:Int)) (hS0) ?_ ?_
 ·rintro w⟨q0,q1,q2⟩;go_simp
  exact xaE (by omega) (by omega)
 try simp only[Act.put,qzF,qzG,qzH]
 refine tj 8 (⟨some 200,.indexAddr 28 (.tmp 197) (.tmp 199),0,_,_,none⟩) (.pointer (some ⟨gs,os+nn*2,none⟩)) (hS0) ?_ ?_
 ·rintro w⟨q0,q1,q2⟩;go_simp;intro h;omega
 try simp only[Act.put,qzF,qzG,qzH]
 refine tj 9 (⟨some 201,.load 27 (.tmp 200),27,_,_,none⟩) (VV xv) (hS0) ?_ ?_
 ·rintro w⟨q0,q1,q2⟩;go_simp
 try simp only[Act.put,qzF,qzG,qzH]
 refine xag (rs:=[0,10]) (by kernel_rfl) (by simp) ?_
 intro i hi;simp only[List.mem_cons,List.not_mem_nil,or_false] at hi
 rcases hi with hi | hi
 ·subst hi;refine xa6 (o:=⟨some 192,.buildSlice 28 0 #[],28,_,_,none⟩) rfl (fun K' hK=>?_)
  have hbz:Below W.heap.size W (W.drew.alloc (.cells #[] 27)):=xah (qzL _ W).drew (xaj _ _);go_simp;refine hK _ _ (fun _=>hSl _ hbz) ?_
  clear hK K'
  try simp only[Act.put,qzF,qzG,qzH]
  refine xag (rs:=[4,10]) (by kernel_rfl) (by simp) ?_
  intro i hi;simp only[List.mem_cons,List.not_mem_nil,or_false] at hi
  rcases hi with hi | hi
  ·subst hi;refine xa6 (o:=⟨some 196,.call ⟨.builtin .append,#[.tmp 192,.tmp 195],#[28,28]⟩,28,_,_,none⟩) rfl (fun K' hK=>?_)
   obtain⟨g,cap1,w1,hrun1,hown,hgB,hgl,hbA⟩:=xb3 (w:=(W.drew.alloc (.cells #[] 27))) 28 28 27 _ 2 16 Tryz.underlying28 xbW rfl (by omega) (by omega) (W.drew.heap.size) (qzJ W.drew _) ad na (sc-(nn+1)) (xal (f.stack.drop (nn+1))) hvl (fun j u hj=>by obtain⟨b,e,h⟩:=HV.out j u hj;exact⟨b,e,qzA hbz h⟩) (by omega)
   have hb1:Below W.heap.size W w1:=xah hbz hbA;refine xat rfl (.tmp 192) (.tmp 195) 28 rfl (.slice (some ⟨W.drew.heap.size,0,none⟩) 0 0) (.slice ad na (sc-(nn+1))) (.slice (some ⟨g,0,none⟩) na cap1) (by simp[Act.eval,Act.put]) (by simp[Act.eval,Act.put]) hrun1 ?_
   refine hK _ _ (fun _=>hSl _ hb1) ?_
   clear hK K'
   try simp only[Act.put,qzF,qzG,qzH]
   refine xag (rs:=[10]) (by kernel_rfl) (by simp) ?_
   intro i hi;simp only[List.mem_cons,List.not_mem_nil,or_false] at hi;subst hi;refine xa6 (o:=⟨some 20,.alloc 27,0,_,_,none⟩) rfl (fun K' hK=>?_)
   go_simp;refine hK _ _ (fun _=>hSl _ (xah hb1 (xaj _ _))) ?_
   clear hK K'
   try simp only[Act.put,qzF,qzG,qzH]
   refine tj 11 (⟨some 19,.assign (.tmp 196),28,_,_,none⟩) (.slice (some ⟨g,0,none⟩) na cap1) (hSl _ (xah hb1 (xaj _ _))) ?_ ?_
   ·rintro w⟨q0,q1,q2⟩;go_simp
   try simp only[Act.put,qzF,qzG,qzH]
   have hx0:(w1.alloc (.cells #[.int .i64 0,.int .i64 0] 27)).heap[w1.heap.size]?=some (.cells #[.int .i64 0,.int .i64 0] 27 (0,0)):=qzJ w1 _;have x00:(w1.alloc (.cells #[.int .i64 0,.int .i64 0] 27)).cell? ⟨w1.heap.size,0,none⟩=some (.int .i64 0):=by rw[qzB hx0];rfl
   have x01:(w1.alloc (.cells #[.int .i64 0,.int .i64 0] 27)).cell? ⟨w1.heap.size,1,none⟩=some (.int .i64 0):=by rw[qzB hx0];rfl
   have x0f:=xam hx0;obtain⟨e1,e2,e3⟩:=xpg (n:=na) xv hb1 hown (by rw[List.length_drop];omega) (by omega) (qzC _)
   have hgg:W.heap.size<=w1.heap.size:=hb1.size;refine xag (rs:=[12]) (by kernel_rfl) (by simp) ?_
   intro i hi;simp only[List.mem_cons,List.not_mem_nil,or_false] at hi;subst hi;refine xa6 (o:=⟨none,.store 27 (.tmp 20) (.tmp 201),0,_,_,none⟩) rfl (fun K' hK=>?_)
   go_simp;refine hK _ _ (fun h=>absurd h (by decide)) ?_
   clear hK K'
   try simp only[Act.put,qzF,qzG,qzH]
   refine xa0 (by kernel_rfl) ?_ _
   try simp only[Act.put,qzF,qzG,qzH]
   have HE1:=hid e1;have HE2:=hid e2;have HE3:=hid e3;clear e1 e2 e3 hSl hS0 hF1 x00 x01 x0f hx0
   go_upto_region 42 with (fail)
   exact xnN HH.out HOP.out (xn3 HB1.out hWl2 hxb HE1.out HE2.out HE3.out hgg HN.out.1 HN.out.2.1 HN.out.2.2) (by assumption) (by assumption)
  ·subst hi;refine xa6 (o:=⟨some 20,.alloc 27,0,_,_,none⟩) rfl (fun K' hK=>?_)
   replace hbz:Below W.heap.size W ((W.drew.alloc (.cells #[] 27)).alloc (.cells #[.int .i64 0,.int .i64 0] 27)):=xah hbz (xaj _ _);go_simp;refine hK _ _ (fun _=>hSl _ hbz) ?_
   clear hK K'
   try simp only[Act.put,qzF,qzG,qzH]
   refine xag (rs:=[4]) (by kernel_rfl) (by simp) ?_
   intro i hi;simp only[List.mem_cons,List.not_mem_nil,or_false] at hi;subst hi;refine xa6 (o:=⟨some 196,.call ⟨.builtin .append,#[.tmp 192,.tmp 195],#[28,28]⟩,28,_,_,none⟩) rfl (fun K' hK=>?_)
   obtain⟨g,cap1,w1,hrun1,hown,hgB,hgl,hbA⟩:=xb3 (w:=(W.drew.alloc (.cells #[] 27)).alloc (.cells #[.int .i64 0,.int .i64 0] 27)) 28 28 27 _ 2 16 Tryz.underlying28 xbW rfl (by omega) (by omega) (W.drew.heap.size) (xac (qzJ W.drew _) (xaj _ _)) ad na (sc-(nn+1)) (xal (f.stack.drop (nn+1))) hvl (fun j u hj=>by obtain⟨b,e,h⟩:=HV.out j u hj;exact⟨b,e,qzA hbz h⟩) (by omega)
   have hb1:Below W.heap.size W w1:=xah hbz hbA;refine xat rfl (.tmp 192) (.tmp 195) 28 rfl (.slice (some ⟨W.drew.heap.size,0,none⟩) 0 0) (.slice ad na (sc-(nn+1))) (.slice (some ⟨g,0,none⟩) na cap1) (by simp[Act.eval,Act.put]) (by simp[Act.eval,Act.put]) hrun1 ?_
   refine hK _ _ (fun _=>hSl _ hb1) ?_
   clear hK K'
   try simp only[Act.put,qzF,qzG,qzH]
   refine tj 11 (⟨some 19,.assign (.tmp 196),28,_,_,none⟩) (.slice (some ⟨g,0,none⟩) na cap1) (hSl _ hb1) ?_ ?_
   ·rintro w⟨q0,q1,q2⟩;go_simp
   try simp only[Act.put,qzF,qzG,qzH]
   have hx0:(w1).heap[W.heap.size+1]?=some (.cells #[.int .i64 0,.int .i64 0] 27 (0,0)):=xac (by have:=qzJ (W.drew.alloc (.cells #[] 27)) (.cells #[.int .i64 0,.int .i64 0] 27);simpa using this) hbA
   have x00:(w1).cell? ⟨W.heap.size+1,0,none⟩=some (.int .i64 0):=by rw[qzB hx0];rfl
   have x01:(w1).cell? ⟨W.heap.size+1,1,none⟩=some (.int .i64 0):=by rw[qzB hx0];rfl
   have x0f:=xam hx0;obtain⟨e1,e2,e3⟩:=sd41 (n:=na) xv hb1 hown (by rw[List.length_drop];omega) (by omega) (qzC _) (show W.heap.size<=W.heap.size+1 from (by show W.heap.size<=W.heap.size+1;omega)) (by have h2:((W.drew.alloc (.cells #[] 27)).alloc (.cells #[.int .i64 0,.int .i64 0] 27)).heap.size=W.heap.size+2:=(by simp);have h3:W.drew.heap.size=W.heap.size:=rfl;rw[h2] at hgB;omega) hx0
   have hgg:W.heap.size<=W.heap.size+1:=(by show W.heap.size<=W.heap.size+1;omega)
   refine xag (rs:=[12]) (by kernel_rfl) (by simp) ?_
   intro i hi;simp only[List.mem_cons,List.not_mem_nil,or_false] at hi;subst hi;refine xa6 (o:=⟨none,.store 27 (.tmp 20) (.tmp 201),0,_,_,none⟩) rfl (fun K' hK=>?_)
   go_simp;refine hK _ _ (fun h=>absurd h (by decide)) ?_
   clear hK K'
   try simp only[Act.put,qzF,qzG,qzH]
   refine xa0 (by kernel_rfl) ?_ _
   try simp only[Act.put,qzF,qzG,qzH]
   have HE1:=hid e1;have HE2:=hid e2;have HE3:=hid e3;clear e1 e2 e3 hSl hS0 hF1 x00 x01 x0f hx0
   go_upto_region 42 with (fail)
   exact xnN HH.out HOP.out (xn3 HB1.out hWl2 hxb HE1.out HE2.out HE3.out hgg HN.out.1 HN.out.2.1 HN.out.2.2) (by assumption) (by assumption)
 ·subst hi;refine xa6 (o:=⟨some 20,.alloc 27,0,_,_,none⟩) rfl (fun K' hK=>?_)
  have hbz:Below W.heap.size W (W.drew.alloc (.cells #[.int .i64 0,.int .i64 0] 27)):=xah (qzL _ W).drew (xaj _ _);go_simp;refine hK _ _ (fun _=>hSl _ hbz) ?_
  clear hK K'
  try simp only[Act.put,qzF,qzG,qzH]
  refine xag (rs:=[0]) (by kernel_rfl) (by simp) ?_
  intro i hi;simp only[List.mem_cons,List.not_mem_nil,or_false] at hi;subst hi;refine xa6 (o:=⟨some 192,.buildSlice 28 0 #[],28,_,_,none⟩) rfl (fun K' hK=>?_)
  replace hbz:Below W.heap.size W ((W.drew.alloc (.cells #[.int .i64 0,.int .i64 0] 27)).alloc (.cells #[] 27)):=xah hbz (xaj _ _);go_simp;refine hK _ _ (fun _=>hSl _ hbz) ?_
  clear hK K'
  try simp only[Act.put,qzF,qzG,qzH]
  refine xag (rs:=[4]) (by kernel_rfl) (by simp) ?_
  intro i hi;simp only[List.mem_cons,List.not_mem_nil,or_false] at hi;subst hi;refine xa6 (o:=⟨some 196,.call ⟨.builtin .append,#[.tmp 192,.tmp 195],#[28,28]⟩,28,_,_,none⟩) rfl (fun K' hK=>?_)
  obtain⟨g,cap1,w1,hrun1,hown,hgB,hgl,hbA⟩:=xb3 (w:=(W.drew.alloc (.cells #[.int .i64 0,.int .i64 0] 27)).alloc (.cells #[] 27)) 28 28 27 _ 2 16 Tryz.underlying28 xbW rfl (by omega) (by omega) (W.drew.heap.size+1) (by have:=qzJ (W.drew.alloc (.cells #[.int .i64 0,.int .i64 0] 27)) (.cells #[] 27);simpa using this) ad na (sc-(nn+1)) (xal (f.stack.drop (nn+1))) hvl (fun j u hj=>by obtain⟨b,e,h⟩:=HV.out j u hj;exact⟨b,e,qzA hbz h⟩) (by omega)
  have hb1:Below W.heap.size W w1:=xah hbz hbA;refine xat rfl (.tmp 192) (.tmp 195) 28 rfl (.slice (some ⟨W.drew.heap.size+1,0,none⟩) 0 0) (.slice ad na (sc-(nn+1))) (.slice (some ⟨g,0,none⟩) na cap1) (by simp[Act.eval,Act.put]) (by simp[Act.eval,Act.put]) hrun1 ?_
  refine hK _ _ (fun _=>hSl _ hb1) ?_
  clear hK K'
  try simp only[Act.put,qzF,qzG,qzH]
  refine tj 11 (⟨some 19,.assign (.tmp 196),28,_,_,none⟩) (.slice (some ⟨g,0,none⟩) na cap1) (hSl _ hb1) ?_ ?_
  ·rintro w⟨q0,q1,q2⟩;go_simp
  try simp only[Act.put,qzF,qzG,qzH]
  have hx0:(w1).heap[W.heap.size]?=some (.cells #[.int .i64 0,.int .i64 0] 27 (0,0)):=xac (xac (qzJ W.drew (.cells #[.int .i64 0,.int .i64 0] 27)) (xaj _ _)) hbA;have x00:(w1).cell? ⟨W.heap.size,0,none⟩=some (.int .i64 0):=by rw[qzB hx0];rfl
  have x01:(w1).cell? ⟨W.heap.size,1,none⟩=some (.int .i64 0):=by rw[qzB hx0];rfl
  have x0f:=xam hx0;obtain⟨e1,e2,e3⟩:=sd41 (n:=na) xv hb1 hown (by rw[List.length_drop];omega) (by omega) (by show W.heap.size<=W.heap.size+1;omega) (show W.heap.size<=W.heap.size from (qzC _)) (by have h2:((W.drew.alloc (.cells #[.int .i64 0,.int .i64 0] 27)).alloc (.cells #[] 27)).heap.size=W.heap.size+2:=(by simp);have h3:W.drew.heap.size=W.heap.size:=rfl;rw[h2] at hgB;omega) hx0
  have hgg:W.heap.size<=W.heap.size:=(qzC _);refine xag (rs:=[12]) (by kernel_rfl) (by simp) ?_
  intro i hi;simp only[List.mem_cons,List.not_mem_nil,or_false] at hi;subst hi;refine xa6 (o:=⟨none,.store 27 (.tmp 20) (.tmp 201),0,_,_,none⟩) rfl (fun K' hK=>?_)
  go_simp;refine hK _ _ (fun h=>absurd h (by decide)) ?_
  clear hK K'
  try simp only[Act.put,qzF,qzG,qzH]
  refine xa0 (by kernel_rfl) ?_ _
  try simp only[Act.put,qzF,qzG,qzH]
  have HE1:=hid e1;have HE2:=hid e2;have HE3:=hid e3;clear e1 e2 e3 hSl hS0 hF1 x00 x01 x0f hx0
  go_upto_region 42 with (fail)
  exact xnN HH.out HOP.out (xn3 HB1.out hWl2 hxb HE1.out HE2.out HE3.out hgg HN.out.1 HN.out.2.1 HN.out.2.2) (by assumption) (by assumption)
theorem br15:Br 15:=by
 intro p d T T1 w wr W mb K R av kv gk G' m f c n1 n2 n3 k x hv sv ov sa sc H hop
 intros
 rename_i hN K9 hK9;obtain⟨hX,HEn,HR,HG,HX,HMa,HF,HL,HB1,HI,hM1,hF1,hsc1,hsc2,hBl,hWl,hxb,⟨aa,ca,rfl,hca⟩,ht40⟩:=H.pre;have HOP:=hid hop;clear hop;unfold xdw;unfold sw9 at hK9;have x1:=hxb.x1;have HM2:=hid hM1;have HF2:=hid hF1;clear hM1 hF1;go_wp2
 exact Or.inr ⟨rfl,by have:=HOP.out;omega,{ f with pc:=f.pc+1 },T1,_,_,_,_,.refl _ _,Kp.of_below HB1.out,HM2.out,HF2.out.at _,HL.out,xkM HOP.out HX.out⟩
theorem br16:Br 16:=by
 intro p d T T1 w wr W mb K R av kv gk G' m f c n1 n2 n3 k x hv sv ov sa sc H hop
 intros
 rename_i hN K9 hK9;obtain⟨hX,HEn,HR,HG,HX,HMa,HF,HL,HB1,HI,hM1,hF1,hsc1,hsc2,hBl,hWl,hxb,⟨aa,ca,rfl,hca⟩,ht40⟩:=H.pre;have HOP:=hid hop;clear hop;unfold xdw;unfold sw9 at hK9
 have hnx:0<f.stack.length:=by
  have hneed:=HX.out.need;have hop:x.op=16:=HOP.out;unfold xaN at hneed
  simp[hop] at hneed
  omega
 have x1:=hxb.x1;have hFt:=HF.out.t4W (U:=W) HB1.out;have hMt:=HMa.out.t4W (U:=W) HB1.out;have hp5:=hFt.pos;clear hM1 hF1;go_wp2_with fail;refine (xem hFt hnx).mono ?_;rintro e w2 ⟨rfl,⟨st',hF2⟩,hK2⟩;dsimp only;have hbx:=xaj w2 (.cells #[.int .i64 f.top.k,.int .i64 f.top.n] 27);have hx2:=hK2.cell x1 (by rw[xav (qzC _)];omega)
 have hx3:=qzA hbx hx2;have b0:(w2.alloc (.cells #[.int .i64 f.top.k,.int .i64 f.top.n] 27)).cell? ⟨w2.heap.size,0,none⟩=some (.int .i64 f.top.k):=xaa _ _ _ _ rfl 0;have HF3:=hid (hF2.later hbx);have hM3:=(hMt.keep (.refl _ _) hK2 (by omega) (by omega) (by omega) (by omega)).later hbx
 have HM3:=hid hM3;have HK3:Hid (Kp (All K) T1 wr (w2.alloc (.cells #[.int .i64 f.top.k,.int .i64 f.top.n] 27))):=kp4 HB1.out ((xdB hK2 fun t ht=>by omega).on hbx)
 have c7:=hM3.c7;have cf7:=xam hM3.box;have HN7:=hid (hM3.num7 11);have HT7:=hid hM3.tag;clear hF2 hK2 hFt hMt x1 hbx hx2 hM3
 go_upto_region 53 with (fail)
 generalize (w2.alloc (.cells #[.int .i64 f.top.k,.int .i64 f.top.n] 27))=V at *
 by_cases h1:f.top.k=1
 ·have H1:=hid h1;rw[h1] at b0;clear h1;go_wp2
  exact Or.inr ⟨rfl,by have:=HOP.out;omega,({ f with pc:=f.pc+1 }:Fr).pop,xau T1 wr 4,_,_,_,_,xao T1 wr 4,HK3.out,HM3.out,HF3.out.at _,HL.out,xkd HOP.out H1.out HX.out⟩
 ·have hd1:(f.top.k == 1)=false:=by simpa using h1
  have H1:=hid h1;clear h1
  by_cases h2:f.top.k=2
  ·have H2:=hid h2;rw[h2] at b0;clear h2 hd1;go_wp2
   exact Or.inl ⟨rfl,xnO hX HR.out HG.out HX.out HOP.out H2.out HL.out (xao T1 wr 4) HK3.out HM3.out HF3.out⟩
  ·have hd2:(f.top.k == 2)=false:=by simpa using h2
   have H2:=hid h2;clear h2;go_wp2
   exact Or.inl ⟨rfl,xlQ hX HR.out HG.out HX.out HOP.out H1.out H2.out (xao T1 wr 4) (HK3.out.trans (xao T1 wr 4) ((Kp.refl (All K) _ _).set (fun _=>Or.inl HT7.out) _ _)) HN7.out⟩
theorem br17:Br 17:=by
 intro p d T T1 w wr W mb K R av kv gk G' m f c n1 n2 n3 k x hv sv ov sa sc H hop
 intros
 rename_i hN K9 hK9;obtain⟨hX,HEn,HR,HG,HX,HMa,HF,HL,HB1,HI,hM1,hF1,hsc1,hsc2,hBl,hWl,hxb,⟨aa,ca,rfl,hca⟩,ht40⟩:=H.pre;have HOP:=hid hop;clear hop;unfold xdw;unfold sw9 at hK9;have hnx:0<f.stack.length:=by have:=HX.out.back HOP.out;omega
 go_wp2_with fail;refine (xem hF1 hnx).mono ?_;rintro e w2 ⟨rfl,⟨st',hF2⟩,hK2⟩;dsimp only;have HK2:Hid (Kp (All K) T1 wr w2):=((Kp.of_below HB1.out).trans (.refl _ _) (xdB hK2 fun t ht=>by omega))
 have HM2:=hid (hM1.keep (.refl _ _) hK2 (by have:=hF1.pos;omega) (by have:=hF1.pos;omega) (by have:=hF1.pos;omega) (by have:=hF1.pos;omega))
 obtain⟨⟨q0,q1⟩,qf⟩:=xoB HR.out HK2.out;clear hF1 hF2 hK2 hM1;go_wp2;refine qzK (v:=VV f.top) ?_ rfl (HR.out.set_res (.refl _ _) HK2.out HM2.out (xoc HR.out HG.out HX.out HOP.out))
 simp[results,Tryz.results52,go_sem,q0,q1]
theorem xjC {p:Rp}{d:Nat}{T T1:Nat->Nat}{w wr W:World}{mb K:Nat}{R:Mc RSt × QV × Int}{av kv:Value}{gk G':Nat}{m:Mc RSt}{f:Fr}{c:Int}{n1 n2 n3 k:Nat}{x:QI}{hv sv ov:Value}{sa:Option Addr}{sc:Nat}(H:SwC p d T w mb K R av kv gk G' c n1 n2 n3 T1 m f wr W k x hv sv ov sa sc)
  {u0 u1 u2 u3 u4 u5 u6 u7 u8 u9 ua ub uc ud ue uf ug uh ui uj uk ul um un uo up uq ur us ut uu uv uw ux uy uz ua0 ua1 ua2 ua3 ua4 ua5 ua6 ua7 ua8 ua9
  uaa uab uac uad uae uaf uag uah uai uaj uak ual uam uan uao uap uaq uar uas uat uau uav uaw uax uay uaz ub0 ub1 ub2 ub3 ub4 ub5 ub6 ub7 ub8 ub9 uba ubb ubc ubd ube ubf ubg ubh
  ubi ubj ubk ubl ubm ubn ubo ubp ubq ubr ubs ubt ubu ubv ubw ubx uby ubz uc0 uc1 uc2 uc3 uc4 uc5 uc6 uc7 uc8 uc9 uca ucb ucc ucd uce ucf ucg uch
  uci ucj uck ucl ucm ucn uco ucp ucq ucr ucs uct ucu ucv ucw ucx ucy ucz ud0 ud1 ud2 ud3 ud4 ud5 ud6 ud7 ud8 ud9 uda udb udc udd ude udf udg udh
  udi udj udk udl udm udn udo udp udq udr uds udt udu udv udw udx udy udz ue0 ue1 ue2 ue3 ue4 ue5 ue6 ue7 ue8 ue9 uea ueb uec ued uee uef ueg ueh
  uei uej uek uel uem uen ueo uep ueq uer ues uet ueu uev uew uex uey uez uf0 uf1 uf2 uf3 uf4 uf5 uf6 uf7 uf8 uf9 ufa ufb ufc ufd ufe uff ufg ufh
  ufi ufj ufk ufl ufm ufn ufo ufp ufq ufr ufs uft ufu ufv ufw ufx ufy ufz ug0 ug1 ug2 ug3 ug4 ug5 ug6 ug7 ug8 ug9 uga ugb ugc ugd uge ugf ugg ugh
  ugi ugj ugk ugl ugm ugn ugo ugp ugq ugr ugs ugt ugu ugv ugw ugx ugy ugz uh0 uh1 uh2 uh3:Value}
  {KT K2 K3:Act->World->Prop}
  (hN:∀ (u5 u6 u7 u8 u9 ua ub uc uu uv uw ux uy uz ua0 ua1 ua2 ua3 ua4 ua5 ua6 ua7 ua8 ua9 uaa uab uac uad uae uaf uag uah uai uaj uak ual uam uan uao uap uaq uar uas uat uau
  uav uaw uax uay uaz ub0 ub1 ub2 ub3 ub4 ub5 ub6 ub7 ub8 ub9 uba ubb ubc ubd ube ubf ubg ubh ubi ubj ubk ubl ubm ubn ubo ubp ubq ubr ubs ubt ubu ubv ubw ubx uby
  ubz uc0 uc1 uc2 uc3 uc4 uc5 uc6 uc7 uc8 uc9 uca ucb ucc ucd uce ucf ucg uch uci ucj uck ucl ucm ucn uco ucp ucq ucr ucs uct ucu ucv ucw ucx ucy
  ucz ud0 ud1 ud2 ud3 ud4 ud5 ud6 ud7 ud8 ud9 uda udb udc udd ude udf udg udh udi udj udk udl udm udn udo udp udq udr uds udt udu udv udw udx udy
  udz ue0 ue1 ue2 ue3 ue4 ue5 ue6 ue7 ue8 ue9 uea ueb uec ued uee uef ueg ueh uei uej uek uel uem uen ueo uep ueq uer ues uet ueu uev uew uex uey
  uez uf0 uf1 uf2 uf3 uf4 uf5 uf6 uf7 uf8 uf9 ufa ufb ufc ufd ufe uff ufg ufh ufi ufj ufk ufl ufm ufn ufo ufp ufq ufr ufs uft ufu ufv ufw ufx ufy
  ufz ug0 ug1 ug2 ug3 ug4 ug5 ug6 ug7 ug8 ug9 uga ugb ugc ugd uge ugf ugg ugh ugi ugj:Value) (tg:Int) (w':World),xf0 p d T w mb K R av kv G' c n1 n2 n3 T1 m f wr k x tg w'->KT (Act.mk #[.pointer (some ⟨mb,0,none⟩),.int .i64 c,u0,u1,av,u2,u3,.pointer (some ⟨w.heap.size,0,none⟩),.pointer (some ⟨w.heap.size+1,0,none⟩),u4,.pointer (some
  ⟨w.heap.size+2,0,none⟩),.slice (some ⟨w.heap.size+3,0,none⟩) n2 n2,.pointer (some ⟨w.heap.size+4,0,none⟩),.func (.func 68) #[] #[.pointer (some ⟨w.heap.size+4,0,
  none⟩)],.int .i64 (k:Int),.pointer (some ⟨wr.heap.size,0,none⟩),.int .i64 tg,u5,u6,u7,u8,u9,ua,ub,uc,ud,ue,uf,ug,uh,ui,uj,uk,ul,um,un,
  uo,up,uq,ur,us,ut,.int .i64 x.op,uu,uv,uw,ux,uy,uz,ua0,ua1,ua2,ua3,ua4,ua5,ua6,ua7,ua8,ua9,uaa,uab,uac,uad,uae,uaf,uag,uah,uai,uaj,uak,
  ual,uam,uan,uao,uap,uaq,uar,uas,uat,uau,uav,uaw,uax,uay,uaz,ub0,ub1,ub2,ub3,ub4,ub5,ub6,ub7,ub8,ub9,uba,ubb,ubc,ubd,ube,ubf,ubg,ubh,ubi,ubj,
  ubk,ubl,ubm,ubn,ubo,ubp,ubq,ubr,ubs,ubt,ubu,ubv,ubw,ubx,uby,ubz,uc0,uc1,uc2,uc3,uc4,uc5,uc6,uc7,uc8,uc9,uca,ucb,ucc,ucd,
  uce,ucf,ucg,uch,uci,ucj,uck,ucl,ucm,ucn,uco,ucp,ucq,ucr,ucs,uct,ucu,ucv,ucw,ucx,ucy,ucz,ud0,ud1,ud2,ud3,ud4,ud5,ud6,ud7,
  ud8,ud9,uda,udb,udc,udd,ude,udf,udg,udh,udi,udj,udk,udl,udm,udn,udo,udp,udq,udr,uds,udt,udu,udv,udw,udx,udy,udz,ue0,ue1,
  ue2,ue3,ue4,ue5,ue6,ue7,ue8,ue9,uea,ueb,uec,ued,uee,uef,ueg,ueh,uei,uej,uek,uel,uem,uen,ueo,uep,ueq,uer,ues,uet,ueu,uev,
  uew,uex,uey,uez,uf0,uf1,uf2,uf3,uf4,uf5,uf6,uf7,uf8,uf9,ufa,ufb,ufc,ufd,ufe,uff,ufg,ufh,ufi,ufj,ufk,ufl,ufm,ufn,ufo,ufp,
  ufq,ufr,ufs,uft,ufu,ufv,ufw,ufx,ufy,ufz,ug0,ug1,ug2,ug3,ug4,ug5,ug6,ug7,ug8,ug9,uga,ugb,ugc,ugd,uge,ugf,ugg,ugh,ugi,ugj,
  ugk,ugl,ugm,ugn,ugo,ugp,ugq,ugr,ugs,ugt,ugu,ugv,ugw,ugx,ugy,ugz,uh0,uh1,uh2,uh3] []) w')
  {K9:Act->World->Prop} (hK9:∀ a w',Code.wp Tryz.prog sw9 (Exit.inBlock 2 (Exit.then KT (Exit.inBlock 1 (Exit.then K2 (Exit.inBlock 0 (Exit.then K3 (bodyPost Tryz.prog Tryz.f52 fun e w'=>xaS p T w mb (20-(d:Int)) K R e w'))))))) a w'->K9 a w') :
  Code.wp Tryz.prog xdw (Exit.then K9 (Exit.inBlock 2 (Exit.then KT (Exit.inBlock 1 (Exit.then K2 (Exit.inBlock 0 (Exit.then K3 (bodyPost Tryz.prog Tryz.f52 fun e w'=>xaS p T w mb (20-(d:Int)) K R e w')))))))) (Act.mk #[.pointer (some ⟨mb,0,none⟩),.int .i64 c,u0,u1,av,u2,u3,.pointer (some ⟨w.heap.size,0,none⟩),.pointer (some ⟨w.heap.size+1,0,none⟩),u4,.pointer (some
  ⟨w.heap.size+2,0,none⟩),.slice (some ⟨w.heap.size+3,0,none⟩) n2 n2,.pointer (some ⟨w.heap.size+4,0,none⟩),.func (.func 68) #[] #[.pointer (some ⟨w.heap.size+4,0,
  none⟩)],.int .i64 (k:Int),.pointer (some ⟨wr.heap.size,0,none⟩),.int .i64 ((k:Int)+1),u5,u6,u7,u8,u9,ua,ub,uc,ud,ue,uf,ug,uh,ui,uj,uk,
  ul,um,un,uo,up,uq,ur,us,ut,.int .i64 x.op,uu,uv,uw,ux,uy,uz,ua0,ua1,ua2,ua3,ua4,ua5,ua6,ua7,ua8,ua9,uaa,uab,uac,uad,uae,uaf,uag,uah,
  uai,uaj,uak,ual,uam,uan,uao,uap,uaq,uar,uas,uat,uau,uav,uaw,uax,uay,uaz,ub0,ub1,ub2,ub3,ub4,ub5,ub6,ub7,ub8,ub9,uba,ubb,ubc,ubd,ube,ubf,ubg,
  ubh,ubi,ubj,ubk,ubl,ubm,ubn,ubo,ubp,ubq,ubr,ubs,ubt,ubu,ubv,ubw,ubx,uby,ubz,uc0,uc1,uc2,uc3,uc4,uc5,uc6,uc7,uc8,uc9,uca,
  ucb,ucc,ucd,uce,ucf,ucg,uch,uci,ucj,uck,ucl,ucm,ucn,uco,ucp,ucq,ucr,ucs,uct,ucu,ucv,ucw,ucx,ucy,ucz,ud0,ud1,ud2,ud3,ud4,
  ud5,ud6,ud7,ud8,ud9,uda,udb,udc,udd,ude,udf,udg,udh,udi,udj,udk,udl,udm,udn,udo,udp,udq,udr,uds,udt,udu,udv,udw,udx,udy,
  udz,ue0,ue1,ue2,ue3,ue4,ue5,ue6,ue7,ue8,ue9,uea,ueb,uec,ued,uee,uef,ueg,ueh,uei,uej,uek,uel,uem,uen,ueo,uep,ueq,uer,ues,
  uet,ueu,uev,uew,uex,uey,uez,uf0,uf1,uf2,uf3,uf4,uf5,uf6,uf7,uf8,uf9,ufa,ufb,ufc,ufd,ufe,uff,ufg,ufh,ufi,ufj,ufk,ufl,ufm,
  ufn,ufo,ufp,ufq,ufr,ufs,uft,ufu,ufv,ufw,ufx,ufy,ufz,ug0,ug1,ug2,ug3,ug4,ug5,ug6,ug7,ug8,ug9,uga,ugb,ugc,ugd,uge,ugf,ugg,
  ugh,ugi,ugj,ugk,ugl,ugm,ugn,ugo,ugp,ugq,ugr,ugs,ugt,ugu,ugv,ugw,ugx,ugy,ugz,uh0,uh1,uh2,uh3] []) W:=by
 have hkd:=H.nx.kind;obtain⟨on,hon,h1,h2⟩:∃ on:Nat,x.op=(on:Int)/\1<=on/\on<=17:=⟨x.op.toNat,by omega,by omega,by omega⟩
 rw[hon] at hN ⊢
 match on,h1,h2 with
 | 1,_,_=>exact br1 H hon hN hK9
 | 2,_,_=>exact br2 H hon hN hK9
 | 3,_,_=>exact br3 H hon hN hK9
 | 4,_,_=>exact br4 H hon hN hK9
 | 5,_,_=>exact br5 H hon hN hK9
 | 6,_,_=>exact br6 H hon hN hK9
 | 7,_,_=>exact br7 H hon hN hK9
 | 8,_,_=>exact br8 H hon hN hK9
 | 9,_,_=>exact br9 H hon hN hK9
 | 10,_,_=>exact br10 H hon hN hK9
 | 11,_,_=>exact br11 H hon hN hK9
 | 12,_,_=>exact br12 H hon hN hK9
 | 13,_,_=>exact br13 H hon hN hK9
 | 14,_,_=>exact br14 H hon hN hK9
 | 15,_,_=>exact br15 H hon hN hK9
 | 16,_,_=>exact br16 H hon hN hK9
 | 17,_,_=>exact br17 H hon hN hK9
 | 0,h0,_=>exact absurd h0 (by omega)
 | n+18,_,h0=>exact absurd h0 (by omega)
end Go.Proofs.YtapbeiccodnniaaGreat
