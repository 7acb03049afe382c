/- A part. -/
import Derived.Test.YtbafokihegegiaaGreatDoorM3
namespace Go.Proofs.YtbafokihegegiaaGreatDoor
open Go.ChangeShapes Go.WideShapes Go.ChangeAt Go.RowKit
set_option linter.unusedSimpArgs false
set_option linter.unusedVariables false
set_option maxHeartbeats 8000000
set_option maxRecDepth 8000
theorem xru:(Tryz.prog.info? 209).map (fun i=>(i.zero,i.size,i.bytes))=some (some (.agg #[.int .i64 0,.int .i64 0]),2,16):=by kernel_rfl
structure LeQ (w:World)(base bl:Nat)(v:Value)(q:List (Int × Int)):Prop where
 box:w.heap[bl]?=some (.cells #[v] 207 (0,0))
 own:ownsAt w base 209 2 v q.length (xcq q)
 lt:bl<base
theorem LeQ.later {w w':World}{base bl:Nat}{v:Value}{q:List (Int × Int)}(h:LeQ w base bl v q)(hb:Below w.heap.size w w'):LeQ w' base bl v q:=
 ⟨by rw[hb.block _ (xam h.box)];exact h.box,h.own.keep fun g hg=>hb.block _ (h.own.lt g hg).2,h.lt⟩
theorem xjJ (tt ht:Int)(bl base:Nat)(v:Value)(q:List (Int × Int))(w:World)(hQ:LeQ w base bl v q)(hbase:base<=w.heap.size)(hlen:q.length<=8000000000000) :
  Calls Tryz.prog 132 #[.int .i64 tt,.int .i64 ht,.pointer (some ⟨bl,0,none⟩)] w fun e w'=>e=.returned (.tuple #[])/\∃ v',LeQ w' base bl v' (q++[(tt,ht)])/\LedF w w' bl v v':=by
 obtain⟨a,cap,rfl,h1,h2⟩:=hQ.own.form;have c0:=cell_of_one hQ.box;have hlt:=hQ.lt;have hbl:=xam hQ.box;have hown:=hQ.own;have hf0:=free_of_one hQ.box;go_enter Tryz.func132,Tryz.ntmps132
 go_wp2_with (at_builtin;refine xbS rfl (.tmp 5) (.tmp 9) 207 209 _ 2 16 rfl Tryz.underlying207 xru rfl (by decide) base q.length (.slice a q.length cap) (xcq q) rfl (hown.alloc _) w.heap.size rfl [.int .i64 tt,.int .i64 ht] rfl (xaR _ _ _ rfl) (by intro u hu;simp at hu;rcases hu with rfl | rfl<;>rfl) (by unfold maxLen;omega) (by omega) (by simp;omega) ?_;intro a' cap' w2 hown2 hob hb2 hblk;have hc2:w2.cell? ⟨bl,0,none⟩=some (.slice a q.length cap):=((hb2.cell (by simp;omega)).trans (qzA (xai _ _) c0));have hf2:w2.frozen? ⟨bl,0,none⟩=false:=((hb2.frozen (by simp;omega)).trans (((xai _ _).frozen (by simp;omega)).trans hf0)))
 go_end0
 have hbx:w2.heap[bl]?=some (.cells #[.slice a q.length cap] 207 (0,0)):=by rw[hb2.block _ hlt,(xai _ _).block _ (by simpa using hbl)];exact hQ.box
 refine⟨rfl,_,⟨one_setCell hbx,?_,hlt⟩,?_,fun b hb h3 h4=>?_,?_⟩
 ·rw[List.length_append,xfl]
  exact hown2.keep fun g hg=>xac (by have:=(hown2.lt g hg).1;omega) _
 ·exact (((xai w _).mono (by omega)).trans (hb2.mono (by omega))).setCell (by show bl<=bl;exact qzC _) _
 ·rw[xac h3,hblk b (by simp;omega) h4,(xai _ _).block _ (by simpa using hb)]
 ·rcases hob with e | ⟨g,e,hg⟩
  ·exact Or.inl e
  ·exact Or.inr ⟨g,e,by simp at hg;omega⟩
theorem xeX (tt ht:Int)(bl base bf bh:Nat)(v:Value)(q:List (Int × Int))(w:World)(hQ:LeQ w base bl v q)(hbase:base<=w.heap.size)(hlen:q.length<=8000000000000)(hf:w.cell? ⟨bf,0,none⟩=some (.func (.func 132) #[] #[.pointer (some ⟨bl,0,none⟩)]))(hh:w.cell? ⟨bh,0,none⟩=some (.int .i64 ht)) :
  Calls Tryz.prog 187 #[.int .i64 tt,.pointer (some ⟨bf,0,none⟩),.pointer (some ⟨bh,0,none⟩)] w fun e w'=>e=.returned (.tuple #[])/\∃ v',LeQ w' base bl v' (q++[(tt,ht)])/\LedF w w' bl v v':=by
 go_enter Tryz.func187,Tryz.ntmps187;go_wp2_with fail;refine (xjJ tt ht bl base v q w hQ hbase hlen).mono ?_;rintro e w1 ⟨rfl,h⟩;go_wp2
 go_end0
 exact⟨rfl,h⟩
theorem xot (x:QI)(p ht:Int)(bl base bf bh:Nat)(v:Value)(q:List (Int × Int))(w:World)(hQ:LeQ w base bl v q)(hbase:base<=w.heap.size)(hlen:q.length+2<=8000000000000)(hf:w.heap[bf]?=some (.cells #[.func (.func 132) #[] #[.pointer (some ⟨bl,0,none⟩)]] 210 (0,0)))(hh:w.heap[bh]?=some (.cells #[.int .i64 ht] 3 (0,0)))(hbf:bf≠bl/\some bf≠v.ownBlock)(hbh:bh≠bl/\some bh≠v.ownBlock)(hp:IntKind.i64.wrap (p+1)=p+1) :
  Calls Tryz.prog 186 #[IV x,.int .i64 p,.func (.func 187) #[] #[.pointer (some ⟨bf,0,none⟩),.pointer (some ⟨bh,0,none⟩)]] w fun e w'=>e=.returned (.tuple #[])/\∃ v',LeQ w' base bl v' (q++(xaO x p).next.map fun t=>(t,ht))/\LedF w w' bl v v':=by
 obtain⟨op,xa,xb,xc,nm⟩:=x;have hb1:=xai w (Obj.cells #[.int .i64 op,.int .i64 xa,.int .i64 xb,.int .i64 xc,.string nm] 69);have hQ1:=hQ.later hb1;have hF1:=LedF.of_below bl v hb1 (by have:=hQ.lt;omega)
 have hf1:=cell_of_one (xaa hf hb1);have hh1:=cell_of_one (xaa hh hb1);have hx1:∀ q,(w.alloc (Obj.cells #[.int .i64 op,.int .i64 xa,.int .i64 xb,.int .i64 xc,.string nm] 69)).cell? ⟨w.heap.size,q,none⟩=(#[Value.int .i64 op,.int .i64 xa,.int .i64 xb,.int .i64 xc,.string nm]:Array Value)[q]?:=fun q=>xab _ _ _ _ rfl q
 have hxb:=xaR w (Obj.cells #[.int .i64 op,.int .i64 xa,.int .i64 xb,.int .i64 xc,.string nm] 69) _ rfl;have hlt:=hQ.lt;have hvl:some w.heap.size≠v.ownBlock:=fun e=>by have:=(hQ.own.lt _ e.symm).2;omega
 go_enter Tryz.func186,Tryz.ntmps186
 by_cases h17:op=17
 ·subst h17;go_wp2
  go_end0
  exact⟨rfl,v,by simpa [xaO] using hQ1,hF1⟩
 ·by_cases h15:op=15
  ·subst h15;go_wp2_with fail;refine (xeX xa ht bl base bf bh v q _ hQ1 (by simp;omega) (by omega) hf1 hh1).mono ?_
   rintro e w1 ⟨rfl,v',h2,h3⟩;go_wp2
   go_end0
   exact⟨rfl,v',by simpa [xaO] using h2,hF1.trans h3⟩
  ·by_cases h16:op=16
   ·subst h16;go_wp2_with fail;refine (xeX (p+1) ht bl base bf bh v q _ hQ1 (by simp;omega) (by omega) hf1 hh1).mono ?_
    rintro e w1 ⟨rfl,v',h2,h3⟩;have hbx:w1.heap[w.heap.size]?=_:=(h3.blk w.heap.size (by simp) (by omega) hvl).trans hxb
    have hx2:∀ q,w1.cell? ⟨w.heap.size,q,none⟩=(#[Value.int .i64 16,.int .i64 xa,.int .i64 xb,.int .i64 xc,.string nm]:Array Value)[q]?:=fun q=>by rw[qzB hbx]
    have hf2:=cell_of_one ((h3.blk bf (xam (xaa hf hb1)) hbf.1 hbf.2).trans (xaa hf hb1));have hh2:=cell_of_one ((h3.blk bh (xam (xaa hh hb1)) hbh.1 hbh.2).trans (xaa hh hb1));have hsz:=h3.bel.size
    simp at hsz
    go_wp2_with fail;refine (xeX xa ht bl base bf bh v' _ _ h2 (by omega) (by simp;omega) hf2 hh2).mono ?_
    rintro e w2 ⟨rfl,v2,h4,h5⟩;go_wp2
    go_end0
    exact⟨rfl,v2,by simpa [xaO] using h4,(hF1.trans h3).trans h5⟩
   ·have hn:(xaO ⟨op,xa,xb,xc,nm⟩ p).next=[p+1]:=by
     unfold xaO;simp only[h15,h16,h17,if_false]
     (repeat' split)<;>rfl
    go_wp2_with fail;refine (xeX (p+1) ht bl base bf bh v q _ hQ1 (by simp;omega) (by omega) hf1 hh1).mono ?_
    rintro e w1 ⟨rfl,v',h2,h3⟩;go_wp2
    go_end0
    refine⟨rfl,v',?_,hF1.trans h3⟩;rw[hn]
    exact h2
theorem xmc (x:QI)(p:Int)(w:World)(hx:x.op=14->0<=x.a/\x.a<=4):Calls Tryz.prog 225 #[IV x] w fun e w'=>e=.returned (.tuple #[.int .i64 (xaO x p).need,.int .i64 ((xaO x p).need+(xaO x p).more)])/\Below w.heap.size w w':=by
 obtain⟨op,xa,xb,xc,nm⟩:=x;simp only at hx;go_enter Tryz.func225,Tryz.ntmps225
 by_cases h1:op=9\/op=11\/op=12
 ·rcases h1 with rfl | rfl | rfl
  all_goals
   go_wp2;refine bodyPost_ret (v:=.tuple #[.int .i64 1,.int .i64 0]) (by simp[results,Tryz.results225,go_sem]) rfl ⟨by simp[xaO],xai _ _⟩
 ·by_cases h2:op=16
  ·subst h2;go_wp2;refine bodyPost_ret (v:=.tuple #[.int .i64 1,.int .i64 0]) (by simp[results,Tryz.results225,go_sem]) rfl ⟨by simp[xaO],xai _ _⟩
  ·by_cases h3:op=17
   ·subst h3;go_wp2;refine bodyPost_ret (v:=.tuple #[.int .i64 1,.int .i64 0]) (by simp[results,Tryz.results225,go_sem]) rfl ⟨by simp[xaO],xai _ _⟩
   ·by_cases h4:op=10
    ·subst h4;go_wp2;refine bodyPost_ret (v:=.tuple #[.int .i64 1,.int .i64 2]) (by simp[results,Tryz.results225,go_sem]) rfl ⟨by simp[xaO],xai _ _⟩
    ·by_cases h5:op=14
     ·subst h5;obtain⟨q1,q2⟩:=hx rfl;go_wp2;refine bodyPost_ret (v:=.tuple #[.int .i64 (xa+1),.int .i64 1]) (by simp[results,Tryz.results225,go_sem]) rfl ⟨?_,xai _ _⟩
      simp[xaO]
      omega
     ·by_cases h6:op=15
      ·subst h6;go_wp2;refine bodyPost_ret (v:=.tuple #[.int .i64 0,.int .i64 0]) (by simp[results,Tryz.results225,go_sem]) rfl ⟨by simp[xaO],xai _ _⟩
      ·have n1:¬ op=9:=fun h=>h1 (Or.inl h)
       have n2:¬ op=11:=fun h=>h1 (Or.inr (Or.inl h))
       have n3:¬ op=12:=fun h=>h1 (Or.inr (Or.inr h))
       go_wp2;refine bodyPost_ret (v:=.tuple #[.int .i64 0,.int .i64 1]) (by simp[results,Tryz.results225,go_sem]) rfl ⟨by simp[xaO,h2,h3,h4,h5,h6,n1,n2,n3],xai _ _⟩
theorem xj1 (x:QI)(p n:Int)(w:World)(hx:x.op=14->0<=x.a/\x.a<=4)(hn:0<=n/\n<=12):Calls Tryz.prog 185 #[IV x,.int .i64 n] w fun e w'=>e=.returned (.tuple #[.int .i64 (xeP x p n).1,.int .i64 (xeP x p n).2])/\Below w.heap.size w w':=by
 obtain⟨r1,r2,r3,r4,r5,-⟩:=xeC hx p;have he:=xmc x p (w.alloc (Obj.cells #[.int .i64 x.op,.int .i64 x.a,.int .i64 x.b,.int .i64 x.c,.string x.name] 69)) hx;have HSE:Hid (xeP x p n=if n<(xaO x p).need\/x.op=17/\n≠1 then (0,8) else if 12<n+(xaO x p).more then (0,4) else (n+(xaO x p).more,0)):=rfl;generalize xeP x p n=r at *;generalize hN:xaO x p=N at *;obtain⟨need,more,next⟩:=N;simp only at r1 r2 r3 r4 r5 he HSE;clear hN;have hw1:IntKind.i64.wrap (n-need)=n-need:=xal (by omega) (by omega)
 have hw2:IntKind.i64.wrap (n-need+(need+more))=n+more:=by rw[show n-need+(need+more)=n+more by omega];exact xal (by omega) (by omega)
 go_enter Tryz.func185,Tryz.ntmps185;go_wp2_with fail;refine he.mono ?_;rintro e w1 ⟨rfl,hb⟩;have hx0:w1.cell? ⟨w.heap.size,0,none⟩=some (.int .i64 x.op):=qzA hb (by rw[xab _ _ _ _ rfl];rfl)
 have hB:=xaf (xai _ _) hb;clear hb he
 by_cases h1:n<need
 ·go_wp2;refine bodyPost_ret (v:=.tuple #[.int .i64 0,.int .i64 8]) (by simp[results,Tryz.results185,go_sem]) rfl ⟨?_,hB⟩
  rw[HSE.out,if_pos (Or.inl h1)]
 ·have h1':decide (n<need)=false:=by simpa using h1
  by_cases h2:x.op=17
  ·by_cases h3:n=1
   ·subst h3
    by_cases h4:12<1+more
    ·omega
    ·go_wp2;refine bodyPost_ret (v:=.tuple #[.int .i64 (1+more),.int .i64 0]) (by simp[results,Tryz.results185,go_sem]) rfl ⟨?_,hB⟩
     rw[HSE.out,if_neg (by omega),if_neg (by omega)]
   ·have h3':(n != 1)=true:=by simpa using h3
    go_wp2;refine bodyPost_ret (v:=.tuple #[.int .i64 0,.int .i64 8]) (by simp[results,Tryz.results185,go_sem]) rfl ⟨?_,hB⟩
    rw[HSE.out,if_pos (Or.inr ⟨h2,h3⟩)]
  ·by_cases h4:12<n+more
   ·go_wp2;refine bodyPost_ret (v:=.tuple #[.int .i64 0,.int .i64 4]) (by simp[results,Tryz.results185,go_sem]) rfl ⟨?_,hB⟩
    rw[HSE.out,if_neg (by omega),if_pos h4]
   ·go_wp2;refine bodyPost_ret (v:=.tuple #[.int .i64 (n+more),.int .i64 0]) (by simp[results,Tryz.results185,go_sem]) rfl ⟨?_,hB⟩
    rw[HSE.out,if_neg (by omega),if_neg (by omega)]
theorem xhG (code:List QI)(cv:Value)(h:List Int)(p n:Int)(q:List (Int × Int))(lo gh bl base:Nat)(v:Value)(w:World)
  (hc:xaG (fun b=>b<lo) w cv code) (hs:xdb code) (hg:w.heap[gh]?=some (xew h)) (hl:h.length=code.length) (hn:0<=n/\n<=12) (hQ:LeQ w base bl v q) (hq:q.length+2<=8000000000000)
  (h1:lo<=gh) (h2:lo<=bl) (h3:gh<base) (h4:gh≠bl) (h5:base<=w.heap.size) :
  Calls Tryz.prog 133 #[cv,.slice (some ⟨gh,0,none⟩) code.length code.length,.agg #[.int .i64 p,.int .i64 n],.func (.func 132) #[] #[.pointer (some ⟨bl,0,none⟩)]] w fun e w'=>
   match xc8 code h (p,n) with
   | .inl f=>e=.returned (FV f)/\Below lo w w'/\(∀ b,b<w.heap.size->b≠gh->w'.heap[b]?=w.heap[b]?)
   | .inr (h',new)=>e=.returned (FV (0,0))/\∃ v',LeQ w' base bl v' (q++new)/\w'.heap[gh]?=some (xew h')/\ArrF w w' lo bl gh v v':=by
 obtain⟨ad,cap,rfl,hcl,hcap,hcb,hrow⟩:=id hc;unfold maxLen at hcap;have hgl:=xam hg;have hblt:=hQ.lt;have hb3:=xeQ w (Obj.cells #[.int .i64 p,.int .i64 n] 209) (Obj.cells #[.func (.func 132) #[] #[.pointer (some ⟨bl,0,none⟩)]] 210) (Obj.cells #[.int .i64 0,.int .i64 0] 90);have hg3:=xaa hg hb3;have hQ3:=hQ.later hb3;go_enter Tryz.func133,Tryz.ntmps133
 cases hx:xdI code p with
 | none=>
  have hst:xc8 code h (p,n)=.inl (9,(code.length:Int)):=by unfold xc8;simp only[hx]
  rw[hst];rw[xj3] at hx
  by_cases hp:p<0
  ·go_wp2;refine bodyPost_ret (v:=FV (9,code.length)) ?_ rfl ⟨rfl,?_,fun b hb _=>(xeQ _ _ _ _).block b hb⟩
   ·simp[results,Tryz.results133,go_sem]
   ·exact (xeQ _ _ _ _).mono (by omega)
  ·have hp':decide (p<0)=false:=by simpa using hp
   have hp2:(code.length:Int)<=p:=by omega
   go_wp2;refine bodyPost_ret (v:=FV (9,code.length)) ?_ rfl ⟨rfl,?_,fun b hb _=>(xeQ _ _ _ _).block b hb⟩
   ·simp[results,Tryz.results133,go_sem]
   ·exact (xeQ _ _ _ _).mono (by omega)
 | some x=>
  obtain⟨k,rfl,hxk⟩:=xdW hx;have hk:=xad hxk;have hk0:(0:Int)<=(k:Int):=by omega
  have hk1:(k:Int)<(code.length:Int):=by omega
  have hcell:=xfj hg3 (k:=k) (by omega)
  have hfree:=xe2 hg3 k;have hsx:=hs x (List.mem_of_getElem? hxk);obtain⟨bc,oc,rfl,hbc,i0,i1,i2,i3,i4,-⟩:=hrow k x hxk;simp only[Nat.add_zero] at i0;obtain⟨u,hu⟩:∃ u,u=h.getD k 0:=⟨_,rfl⟩
  have hst0:Hid (xc8 code h ((k:Int),n)=if 0<=u then (if u≠n then .inl (8,(k:Int)) else .inr (h,[])) else if n<(xaO x k).need\/x.op=17/\n≠1 then .inl (8,(k:Int)) else if 12<n+(xaO x k).more then .inl (4,(k:Int)) else .inr (h.set k n,(xaO x k).next.map fun t=>(t,n+(xaO x k).more))):=by
   show _=_
   unfold xc8;simp only[hx,Int.toNat_natCast];rw[← hu]
  rw[← hu] at hcell;clear hu hx
  by_cases hv0:0<=u
  ·by_cases hv1:u=n
   ·have hst:xc8 code h ((k:Int),n)=.inr (h,[]):=by rw[hst0.out,if_pos hv0,if_neg (by simpa using hv1)]
    rw[hst];subst hv1;go_wp2;refine bodyPost_ret (v:=FV (0,0)) ?_ rfl ⟨rfl,v,by simpa using hQ3,hg3,hb3.mono (by omega),fun b hb _ _ _=>hb3.block b hb,Or.inl rfl⟩
    simp[results,Tryz.results133,go_sem]
   ·have hst:xc8 code h ((k:Int),n)=.inl (8,(k:Int)):=by rw[hst0.out,if_pos hv0,if_pos hv1]
    rw[hst];have hv1':(u != n)=true:=by simpa using hv1
    go_wp2;refine bodyPost_ret (v:=FV (8,(k:Int))) ?_ rfl ⟨rfl,(xeQ _ _ _ _).mono (by omega),fun b hb _=>(xeQ _ _ _ _).block b hb⟩
    simp[results,Tryz.results133,go_sem]
  ·have hv0':decide (0<=u)=false:=by simpa using hv0
   have HSE:Hid (xc8 code h ((k:Int),n)=if (xeP x k n).2≠0 then .inl ((xeP x k n).2,(k:Int)) else .inr (h.set k n,(xaO x k).next.map fun t=>(t,(xeP x k n).1))):=by
    show _=_
    rw[hst0.out,if_neg hv0];unfold xeP
    (repeat' split)<;>simp_all
   clear hst0
   by_cases her:(xeP x k n).2=0
   ·have hst:xc8 code h ((k:Int),n)=.inr (h.set k n,(xaO x k).next.map fun t=>(t,(xeP x k n).1)):=by rw[HSE.out,if_neg (by simpa using her)]
    rw[hst];clear HSE hst;have hgW:=xfi hg3 k n;have hbW:Below lo w ((((w.alloc (Obj.cells #[.int .i64 (k:Int),.int .i64 n] 209)).alloc (Obj.cells #[.func (.func 132) #[] #[.pointer (some ⟨bl,0,none⟩)]] 210)).alloc (Obj.cells #[.int .i64 0,.int .i64 0] 90)).setCell ⟨gh,k,none⟩ (.int .i64 n)):=(hb3.mono (by omega)).setCell h1 _
    have hkW:∀ b,b<w.heap.size->b≠gh->((((w.alloc (Obj.cells #[.int .i64 (k:Int),.int .i64 n] 209)).alloc (Obj.cells #[.func (.func 132) #[] #[.pointer (some ⟨bl,0,none⟩)]] 210)).alloc (Obj.cells #[.int .i64 0,.int .i64 0] 90)).setCell ⟨gh,k,none⟩ (.int .i64 n)).heap[b]?=w.heap[b]?:=fun b hb hne=>(xac hne _).trans (hb3.block b hb)
    have j0:=(hbW.cell (p:=⟨bc,oc+k*5,none⟩) hbc).trans i0;have j1:=(hbW.cell (p:=⟨bc,oc+k*5+1,none⟩) hbc).trans i1;have j2:=(hbW.cell (p:=⟨bc,oc+k*5+2,none⟩) hbc).trans i2;have j3:=(hbW.cell (p:=⟨bc,oc+k*5+3,none⟩) hbc).trans i3;have j4:=(hbW.cell (p:=⟨bc,oc+k*5+4,none⟩) hbc).trans i4;go_wp2_with fail
    have hQW:LeQ ((((w.alloc (Obj.cells #[.int .i64 (k:Int),.int .i64 n] 209)).alloc (Obj.cells #[.func (.func 132) #[] #[.pointer (some ⟨bl,0,none⟩)]] 210)).alloc (Obj.cells #[.int .i64 0,.int .i64 0] 90)).setCell ⟨gh,k,none⟩ (.int .i64 n)) base bl v q:=
     ⟨(xac (Ne.symm h4) _).trans hQ3.box,hQ3.own.keep fun g hg'=>xac (by have:=(hQ3.own.lt g hg').1;omega) _,hQ3.lt⟩
    have fb:((((w.alloc (Obj.cells #[.int .i64 (k:Int),.int .i64 n] 209)).alloc (Obj.cells #[.func (.func 132) #[] #[.pointer (some ⟨bl,0,none⟩)]] 210)).alloc (Obj.cells #[.int .i64 0,.int .i64 0] 90)).setCell ⟨gh,k,none⟩ (.int .i64 n)).heap[w.heap.size+1]?=some (.cells #[.func (.func 132) #[] #[.pointer (some ⟨bl,0,none⟩)]] 210 (0,0)):=(xac (by omega) _).trans (((xai _ _).block _ (by simp)).trans (xaR _ _ _ (by simp)))
    have pb:((((w.alloc (Obj.cells #[.int .i64 (k:Int),.int .i64 n] 209)).alloc (Obj.cells #[.func (.func 132) #[] #[.pointer (some ⟨bl,0,none⟩)]] 210)).alloc (Obj.cells #[.int .i64 0,.int .i64 0] 90)).setCell ⟨gh,k,none⟩ (.int .i64 n)).heap[w.heap.size]?=some (.cells #[.int .i64 (k:Int),.int .i64 n] 209 (0,0)):=(xac (by omega) _).trans (((xbp _ _ _).block _ (by simp)).trans (xaR _ _ _ rfl))
    have rb:((((w.alloc (Obj.cells #[.int .i64 (k:Int),.int .i64 n] 209)).alloc (Obj.cells #[.func (.func 132) #[] #[.pointer (some ⟨bl,0,none⟩)]] 210)).alloc (Obj.cells #[.int .i64 0,.int .i64 0] 90)).setCell ⟨gh,k,none⟩ (.int .i64 n)).heap[w.heap.size+1+1]?=some (.cells #[.int .i64 0,.int .i64 0] 90 (0,0)):=(xac (by omega) _).trans (xaR _ _ _ (by simp))
    have hsW:((((w.alloc (Obj.cells #[.int .i64 (k:Int),.int .i64 n] 209)).alloc (Obj.cells #[.func (.func 132) #[] #[.pointer (some ⟨bl,0,none⟩)]] 210)).alloc (Obj.cells #[.int .i64 0,.int .i64 0] 90)).setCell ⟨gh,k,none⟩ (.int .i64 n)).heap.size=w.heap.size+3:=by rw[xaX];simp
    clear i0 i1 i2 i3 i4 j0 j1 j2 j3 j4 hcell hfree;generalize ((((w.alloc (Obj.cells #[.int .i64 (k:Int),.int .i64 n] 209)).alloc (Obj.cells #[.func (.func 132) #[] #[.pointer (some ⟨bl,0,none⟩)]] 210)).alloc (Obj.cells #[.int .i64 0,.int .i64 0] 90)).setCell ⟨gh,k,none⟩ (.int .i64 n))=W at *;have hbx:=xai W (Obj.cells #[Value.int .i64 x.op,Value.int .i64 x.a,Value.int .i64 x.b,Value.int .i64 x.c,Value.string x.name] 69);have xb:=xaR W (Obj.cells #[Value.int .i64 x.op,Value.int .i64 x.a,Value.int .i64 x.b,Value.int .i64 x.c,Value.string x.name] 69) (w.heap.size+1+1+1) (by rw[hsW])
    refine (xj1 x k n _ hsx hn).mono ?_;rintro e w6 ⟨rfl,hb6⟩;replace xb:=xaa xb hb6;replace hb6:=xaf hbx hb6;have hs6:=hb6.size;have pc:∀ z q,(w6.alloc z).cell? ⟨w.heap.size,q,none⟩=(#[Value.int .i64 (k:Int),.int .i64 n]:Array Value)[q]?:=fun z q=>by rw[(xai w6 z).cell (p:=⟨w.heap.size,q,none⟩) (by show w.heap.size<w6.heap.size;omega),qzB (xaa pb hb6)]
    have rc:∀ z q,(w6.alloc z).cell? ⟨w.heap.size+1+1,q,none⟩=(#[Value.int .i64 0,.int .i64 0]:Array Value)[q]?:=fun z q=>by rw[(xai w6 z).cell (p:=⟨w.heap.size+1+1,q,none⟩) (by show w.heap.size+1+1<w6.heap.size;omega),qzB (xaa rb hb6)]
    have rf:∀ z q,(w6.alloc z).frozen? ⟨w.heap.size+1+1,q,none⟩=false:=fun z q=>by rw[(xai w6 z).frozen (p:=⟨w.heap.size+1+1,q,none⟩) (by show w.heap.size+1+1<w6.heap.size;omega)];unfold World.frozen?;simp[xaa rb hb6]
    have xc:∀ z q,(w6.alloc z).cell? ⟨w.heap.size+1+1+1,q,none⟩=(#[Value.int .i64 x.op,Value.int .i64 x.a,Value.int .i64 x.b,Value.int .i64 x.c,Value.string x.name]:Array Value)[q]?:=fun z q=>by rw[(xai w6 z).cell (p:=⟨w.heap.size+1+1+1,q,none⟩) (xam xb),qzB xb]
    rw[her];have hmf':=hmf;have hbh:=xai w6 (Obj.cells #[.int .i64 (xeP x k n).1] 3);go_wp2_with fail;have hQ7:=hQW.later (xaf hb6 hbh);refine (xot x k (xeP x k n).1 bl base (w.heap.size+1) w6.heap.size v q _ hQ7 (by simp;omega) hq (xaa fb (xaf hb6 hbh)) (xaR _ _ _ rfl) ⟨by omega,fun e=>by have:=(hQ.own.lt _ e.symm).2;omega⟩ ⟨by omega,fun e=>by have:=(hQ.own.lt _ e.symm).2;omega⟩ (xal (by omega) (by omega))).mono ?_
    rintro e w8 ⟨rfl,v',hQ8,hF8⟩;have rb8:w8.heap[w.heap.size+1+1]?=_:=(hF8.blk (w.heap.size+1+1) (by simp;omega) (by omega) (fun e=>by have:=(hQ.own.lt _ e.symm).2;omega)).trans (xaa rb (xaf hb6 hbh))
    have rc8:∀ q,w8.cell? ⟨w.heap.size+1+1,q,none⟩=(#[Value.int .i64 0,.int .i64 0]:Array Value)[q]?:=fun q=>by rw[qzB rb8]
    have rf8:∀ q,w8.frozen? ⟨w.heap.size+1+1,q,none⟩=false:=fun q=>by unfold World.frozen?;simp[rb8]
    have hg8:w8.heap[gh]?=some (xew (h.set k n)):=(hF8.blk gh (by simp;omega) h4 (fun e=>by have:=(hQ.own.lt _ e.symm).1;omega)).trans (xaa hgW (xaf hb6 hbh))
    have hs8:=hF8.bel.size
    simp at hs8
    go_wp2;refine bodyPost_ret (v:=FV (0,0)) ?_ rfl ⟨rfl,v',⟨?_,?_,hQ8.lt⟩,?_,?_,fun b hb e1 e2 e3=>?_,?_⟩
    ·simp[results,Tryz.results133,go_sem,rc8,rf8]
    ·rw[xac (by omega),xac (by omega)];exact hQ8.box
    ·refine hQ8.own.keep fun g hg'=>?_
     have hne:g≠w.heap.size+1+1:=by
      rcases hF8.own with e | ⟨g1,e,hg1⟩
      ·rw[e] at hg';have:=(hQ.own.lt g hg').2
       omega
      ·rw[e] at hg'
       cases hg'
       simp at hg1
       omega
     rw[xac hne,xac hne]
    ·rw[xac (by omega),xac (by omega)];exact hg8
    ·exact (((hbW.trans ((xaf hb6 hbh).mono (by omega))).trans (hF8.bel.mono h2)).setCell (by show lo<=w.heap.size+1+1;omega) _).setCell (by show lo<=w.heap.size+1+1;omega) _
    ·rw[xac (by omega),xac (by omega),hF8.blk b (by simp;omega) e1 e3,(xaf hb6 hbh).block b (by omega),hkW b hb e2]
    ·rcases hF8.own with e | ⟨g1,e,hg1⟩
     ·exact Or.inl e
     ·exact Or.inr ⟨g1,e,by simp at hg1;omega⟩
   ·have hst:xc8 code h ((k:Int),n)=.inl ((xeP x k n).2,(k:Int)):=by rw[HSE.out,if_pos her]
    rw[hst];clear HSE hst;have hgW:=xfi hg3 k n;have hbW:Below lo w ((((w.alloc (Obj.cells #[.int .i64 (k:Int),.int .i64 n] 209)).alloc (Obj.cells #[.func (.func 132) #[] #[.pointer (some ⟨bl,0,none⟩)]] 210)).alloc (Obj.cells #[.int .i64 0,.int .i64 0] 90)).setCell ⟨gh,k,none⟩ (.int .i64 n)):=(hb3.mono (by omega)).setCell h1 _
    have hkW:∀ b,b<w.heap.size->b≠gh->((((w.alloc (Obj.cells #[.int .i64 (k:Int),.int .i64 n] 209)).alloc (Obj.cells #[.func (.func 132) #[] #[.pointer (some ⟨bl,0,none⟩)]] 210)).alloc (Obj.cells #[.int .i64 0,.int .i64 0] 90)).setCell ⟨gh,k,none⟩ (.int .i64 n)).heap[b]?=w.heap[b]?:=fun b hb hne=>(xac hne _).trans (hb3.block b hb)
    have j0:=(hbW.cell (p:=⟨bc,oc+k*5,none⟩) hbc).trans i0;have j1:=(hbW.cell (p:=⟨bc,oc+k*5+1,none⟩) hbc).trans i1;have j2:=(hbW.cell (p:=⟨bc,oc+k*5+2,none⟩) hbc).trans i2;have j3:=(hbW.cell (p:=⟨bc,oc+k*5+3,none⟩) hbc).trans i3;have j4:=(hbW.cell (p:=⟨bc,oc+k*5+4,none⟩) hbc).trans i4;go_wp2_with fail
    have hQW:LeQ ((((w.alloc (Obj.cells #[.int .i64 (k:Int),.int .i64 n] 209)).alloc (Obj.cells #[.func (.func 132) #[] #[.pointer (some ⟨bl,0,none⟩)]] 210)).alloc (Obj.cells #[.int .i64 0,.int .i64 0] 90)).setCell ⟨gh,k,none⟩ (.int .i64 n)) base bl v q:=
     ⟨(xac (Ne.symm h4) _).trans hQ3.box,hQ3.own.keep fun g hg'=>xac (by have:=(hQ3.own.lt g hg').1;omega) _,hQ3.lt⟩
    have fb:((((w.alloc (Obj.cells #[.int .i64 (k:Int),.int .i64 n] 209)).alloc (Obj.cells #[.func (.func 132) #[] #[.pointer (some ⟨bl,0,none⟩)]] 210)).alloc (Obj.cells #[.int .i64 0,.int .i64 0] 90)).setCell ⟨gh,k,none⟩ (.int .i64 n)).heap[w.heap.size+1]?=some (.cells #[.func (.func 132) #[] #[.pointer (some ⟨bl,0,none⟩)]] 210 (0,0)):=(xac (by omega) _).trans (((xai _ _).block _ (by simp)).trans (xaR _ _ _ (by simp)))
    have pb:((((w.alloc (Obj.cells #[.int .i64 (k:Int),.int .i64 n] 209)).alloc (Obj.cells #[.func (.func 132) #[] #[.pointer (some ⟨bl,0,none⟩)]] 210)).alloc (Obj.cells #[.int .i64 0,.int .i64 0] 90)).setCell ⟨gh,k,none⟩ (.int .i64 n)).heap[w.heap.size]?=some (.cells #[.int .i64 (k:Int),.int .i64 n] 209 (0,0)):=(xac (by omega) _).trans (((xbp _ _ _).block _ (by simp)).trans (xaR _ _ _ rfl))
    have rb:((((w.alloc (Obj.cells #[.int .i64 (k:Int),.int .i64 n] 209)).alloc (Obj.cells #[.func (.func 132) #[] #[.pointer (some ⟨bl,0,none⟩)]] 210)).alloc (Obj.cells #[.int .i64 0,.int .i64 0] 90)).setCell ⟨gh,k,none⟩ (.int .i64 n)).heap[w.heap.size+1+1]?=some (.cells #[.int .i64 0,.int .i64 0] 90 (0,0)):=(xac (by omega) _).trans (xaR _ _ _ (by simp))
    have hsW:((((w.alloc (Obj.cells #[.int .i64 (k:Int),.int .i64 n] 209)).alloc (Obj.cells #[.func (.func 132) #[] #[.pointer (some ⟨bl,0,none⟩)]] 210)).alloc (Obj.cells #[.int .i64 0,.int .i64 0] 90)).setCell ⟨gh,k,none⟩ (.int .i64 n)).heap.size=w.heap.size+3:=by rw[xaX];simp
    clear i0 i1 i2 i3 i4 j0 j1 j2 j3 j4 hcell hfree;generalize ((((w.alloc (Obj.cells #[.int .i64 (k:Int),.int .i64 n] 209)).alloc (Obj.cells #[.func (.func 132) #[] #[.pointer (some ⟨bl,0,none⟩)]] 210)).alloc (Obj.cells #[.int .i64 0,.int .i64 0] 90)).setCell ⟨gh,k,none⟩ (.int .i64 n))=W at *;have hbx:=xai W (Obj.cells #[Value.int .i64 x.op,Value.int .i64 x.a,Value.int .i64 x.b,Value.int .i64 x.c,Value.string x.name] 69);have xb:=xaR W (Obj.cells #[Value.int .i64 x.op,Value.int .i64 x.a,Value.int .i64 x.b,Value.int .i64 x.c,Value.string x.name] 69) (w.heap.size+1+1+1) (by rw[hsW])
    refine (xj1 x k n _ hsx hn).mono ?_;rintro e w6 ⟨rfl,hb6⟩;replace xb:=xaa xb hb6;replace hb6:=xaf hbx hb6;have hs6:=hb6.size;have pc:∀ z q,(w6.alloc z).cell? ⟨w.heap.size,q,none⟩=(#[Value.int .i64 (k:Int),.int .i64 n]:Array Value)[q]?:=fun z q=>by rw[(xai w6 z).cell (p:=⟨w.heap.size,q,none⟩) (by show w.heap.size<w6.heap.size;omega),qzB (xaa pb hb6)]
    have rc:∀ z q,(w6.alloc z).cell? ⟨w.heap.size+1+1,q,none⟩=(#[Value.int .i64 0,.int .i64 0]:Array Value)[q]?:=fun z q=>by rw[(xai w6 z).cell (p:=⟨w.heap.size+1+1,q,none⟩) (by show w.heap.size+1+1<w6.heap.size;omega),qzB (xaa rb hb6)]
    have rf:∀ z q,(w6.alloc z).frozen? ⟨w.heap.size+1+1,q,none⟩=false:=fun z q=>by rw[(xai w6 z).frozen (p:=⟨w.heap.size+1+1,q,none⟩) (by show w.heap.size+1+1<w6.heap.size;omega)];unfold World.frozen?;simp[xaa rb hb6]
    have xc:∀ z q,(w6.alloc z).cell? ⟨w.heap.size+1+1+1,q,none⟩=(#[Value.int .i64 x.op,Value.int .i64 x.a,Value.int .i64 x.b,Value.int .i64 x.c,Value.string x.name]:Array Value)[q]?:=fun z q=>by rw[(xai w6 z).cell (p:=⟨w.heap.size+1+1+1,q,none⟩) (xam xb),qzB xb]
    have her':((xeP x k n).2 != 0)=true:=by simpa using her
    go_wp2;refine bodyPost_ret (v:=FV ((xeP x k n).2,(k:Int))) ?_ rfl ⟨rfl,?_,fun b hb e2=>?_⟩
    ·simp[results,Tryz.results133,go_sem,rc,rf]
    ·exact (((hbW.trans (hb6.mono (by omega))).alloc (by omega) _).setCell (by show lo<=w.heap.size+1+1;omega) _).setCell (by show lo<=w.heap.size+1+1;omega) _
    ·rw[xac (by omega),xac (by omega),(xai _ _).block b (by omega),hb6.block b (by omega),hkW b hb e2]
theorem LeQ.cut {w:World}{base bl:Nat}{v v':Value}{r q:List (Int × Int)}(h:LeQ w base bl v r)(z:Obj)(ho:ownsAt w base 209 2 v' q.length (xcq q)):LeQ ((w.alloc z).setCell ⟨bl,0,none⟩ v') base bl v' q:=by
 refine⟨one_setCell (xaa h.box (xai _ _)),?_,h.lt⟩
 exact (ho.alloc z).keep fun g hg=>xac (by have:=(ho.lt g hg).1;have:=h.lt;omega) _
theorem xlf {P:Nat->Prop}(m:QM)(mv:Value)(w:World)(hc:xaG P w mv m.code)(hs:xdb m.code):Calls Tryz.prog 101 #[MV m mv] w fun e w'=>xpV w m.code e w':=by
 obtain⟨ad,cap,rfl,hcl,hcap,hcb,hrow⟩:=id hc;unfold maxLen at hcap;have hmi:=xgW m.code.length (by omega)
 have hcI:xaG (fun b=>b<w.heap.size) w (.slice ad m.code.length cap) m.code:=by
  refine⟨ad,cap,rfl,hcl,by unfold maxLen;omega,hcb,fun i x hx=>?_⟩
  obtain⟨b,o,e1,-,e3⟩:=hrow i x hx
  exact⟨b,o,e1,World.block_lt_of_cell? w _ e3.1,e3⟩
 clear hrow;go_enter Tryz.func101,Tryz.ntmps101;go_wp2;generalize hW0:((w.alloc (Obj.cells #[Value.string m.name,Value.int .i64 m.args,Value.int .i64 m.temps,Value.int .i64 m.prim,Value.slice ad m.code.length cap] 51)).alloc (Obj.cells #[Value.int .i64 0,Value.int .i64 0] 90))=W0 at *;have hs0:W0.heap.size=w.heap.size+1+1:=by rw[← hW0];simp
 have hbW:Below w.heap.size w W0:=by rw[← hW0];exact xbp _ _ _
 have mb:W0.heap[w.heap.size]?=some (.cells #[Value.string m.name,Value.int .i64 m.args,Value.int .i64 m.temps,Value.int .i64 m.prim,Value.slice ad m.code.length cap] 51 (0,0)):=by rw[← hW0,(xai _ _).block _ (by simp)];exact xaR _ _ _ rfl
 have rb:W0.heap[w.heap.size+1]?=some (.cells #[Value.int .i64 0,Value.int .i64 0] 90 (0,0)):=by rw[← hW0];exact xaR _ _ _ (by simp)
 clear hW0
 go_loopg [16] m.code.length (fun g i wr=>∃ j:Nat,j+g=m.code.length/\i=.int .i64 j/\Below (w.heap.size+2) W0 wr/\wr.heap.size=w.heap.size+3/\wr.heap[w.heap.size+1+1]?=some (xew (List.replicate j (-1)++List.replicate (m.code.length-j) 0)))
 case atStart=>exact⟨0,by omega,rfl,(xai _ _).mono (by omega),by simp[hs0],by simpa using xaR W0 (xew (List.replicate m.code.length 0)) _ hs0⟩
 case round=>
  obtain⟨j,hg,rfl,hb,hz,hr⟩:=hrel
  by_cases hj:j<m.code.length
  ·have hj1:(j:Int)<(m.code.length:Int):=by omega
   have hj0:(0:Int)<=(j:Int):=by omega
   have hcell:=xfj hr (k:=j) (by simp;omega)
   have hfree:=xe2 hr j;have hset:=xfi hr j (-1);rw[xp8 hj] at hset;generalize (List.replicate j (-1:Int)++List.replicate (m.code.length-j) 0).getD j 0=u at hcell;go_wp2
   go_roundg (gk-1)
   case measure=>omega
   case rel=>exact⟨j+1,by omega,by go_num,hb.setCell (by show w.heap.size+2<=w.heap.size+1+1;omega) _,by rw[xaX];exact hz,hset⟩
  ·obtain rfl:j=m.code.length:=by omega
   have hr':wr.heap[w.heap.size+1+1]?=some (xew (xeq m.code.length)):=by simpa [xeq] using hr
   clear hr;have hmf':=hmf;have hj1:(m.code.length:Int)<=(m.code.length:Int):=by omega
   go_wp2_with fail;have hq0:LeQ (wr.alloc (Obj.cells #[Value.slice none 0 0] 207)) (w.heap.size+4) (w.heap.size+3) (.slice none 0 0) []:=⟨xaR _ _ _ hz,⟨rfl,Or.inl ⟨rfl,rfl⟩⟩,by omega⟩
   refine (xjJ 0 0 (w.heap.size+3) (w.heap.size+4) _ [] _ hq0 (by simp[hz]) (by simp)).mono ?_
   rintro e w1 ⟨rfl,v1,hQ1,hF1⟩;have hb1:Below (w.heap.size+2) W0 w1:=(hb.trans ((xai _ _).mono (by omega))).trans (hF1.bel.mono (by omega))
   have hr1:w1.heap[w.heap.size+1+1]?=some (xew (xeq m.code.length)):=(hF1.blk (w.heap.size+1+1) (by simp[hz]) (by omega) (by simp[Value.ownBlock])).trans (xaa hr' (xai _ _))
   have hz1:w.heap.size+4<=w1.heap.size:=by have:=hF1.bel.size;simp[hz] at this;omega
   clear hq0 hF1 hb hz hr' hj1 hg hj;go_wp2_with fail
   go_loopg [] (2*m.code.length+1) (fun g wr=>∃ (v:Value) (h:List Int) (q:List (Int × Int)),g<=2*m.code.length+1/\xjM m.code g h q=xaN m.code/\HInv m.code h q/\xf8 h q<=g/\LeQ wr (w.heap.size+4) (w.heap.size+3) v q/\wr.heap[w.heap.size+1+1]?=some (xew h)/\Below (w.heap.size+2) W0 wr/\w.heap.size+4<=wr.heap.size)
   case atStart=>exact⟨v1,_,[(0,0)],qzC _,rfl,HInv.start _,Nat.le_of_eq (xg0 _),hQ1,hr1,hb1,hz1⟩
   case round=>
    obtain⟨v,h,q,hgk,hR,hI,hL,hQ,hr,hb,hz⟩:=hrel;clear hQ1 hr1 hb1 hz1;have HR:Hid (xjM m.code gk h q=xaN m.code):=hR;clear hR;obtain⟨a,kq,rfl,hn1,hn2⟩:=hQ.own.form;have lc:=cell_of_one hQ.box;have lf:=free_of_one hQ.box;have hcW:xaG (fun b=>b<w.heap.size) wr (.slice ad m.code.length cap) m.code:=hcI.later xaU (hbW.trans (hb.mono (by omega)))
    have mb':wr.heap[w.heap.size]?=_:=(hb.block _ (by omega)).trans mb
    have rb':wr.heap[w.heap.size+1]?=_:=(hb.block _ (by omega)).trans rb
    have hBw:Below w.heap.size w wr:=hbW.trans (hb.mono (by omega))
    cases q with
    | nil=>
     have HE:Hid (xaN m.code=(h,(0,0))):=by show _=_;rw[← HR.out];cases gk<;>rfl
     have rc:∀ q,wr.cell? ⟨w.heap.size+1,q,none⟩=(#[Value.int .i64 0,.int .i64 0]:Array Value)[q]?:=fun q=>by rw[qzB rb']
     have rf:∀ q,wr.frozen? ⟨w.heap.size+1,q,none⟩=false:=fun q=>by unfold World.frozen?;simp[rb']
     go_wp2;refine bodyPost_ret (v:=.tuple #[.slice (some ⟨w.heap.size+1+1,0,none⟩) m.code.length m.code.length,FV (0,0)]) ?_ rfl ⟨?_,Or.inl ⟨by rw[HE.out],_,rfl,?_,by omega⟩⟩
     ·simp[results,Tryz.results101,go_sem,rc,rf]
     ·exact ((hBw.setCell (by simp) _).setCell (by simp) _)
     ·rw[xac (by omega),xac (by omega),HE.out]
      exact hr
    | cons p q=>
     obtain⟨g',rfl⟩:∃ g',gk=g'+1:=⟨gk-1,by simp[xf8] at hL;omega⟩
     simp only[List.length_cons] at lc lf hn1;obtain⟨gq,oq,rfl,p1,p2,-,-,htl⟩:=hQ.own.head;have hpos:(0:Int)<((q.length+1:Nat):Int):=by omega
     have lcx:=fun z=>qzA (xai wr z) lc
     have lfx:=fun z=>((xai wr z).frozen (p:=⟨w.heap.size+3,0,none⟩) (xam hQ.box)).trans lf
     have mcx:∀ z,(wr.alloc z).cell? ⟨w.heap.size,4,none⟩=some (.slice ad m.code.length cap):=fun z=>qzA (xai wr z) (by rw[qzB mb'];rfl)
     have hb1':∀ v',Below w.heap.size wr ((wr.alloc (Obj.cells #[Value.int .i64 p.1,Value.int .i64 p.2] 209)).setCell ⟨w.heap.size+3,0,none⟩ v'):=fun v'=>((xai _ _).mono (by omega)).setCell (by show w.heap.size<=w.heap.size+3;omega) _
     by_cases hk1:kq=1
     ·subst hk1;obtain rfl:=List.eq_nil_of_length_eq_zero (l:=q) (by omega)
      go_wp2_with fail;have hQ1:LeQ ((wr.alloc (Obj.cells #[Value.int .i64 p.1,Value.int .i64 p.2] 209)).setCell ⟨w.heap.size+3,0,none⟩ (Value.slice (some ⟨gq,oq,none⟩) 0 0)) (w.heap.size+4) (w.heap.size+3) (Value.slice (some ⟨gq,oq,none⟩) 0 0) []:=hQ.cut (q:=[]) _ (by simpa using htl oq (by simp))
      have hb1:Below (w.heap.size+2) W0 ((wr.alloc (Obj.cells #[Value.int .i64 p.1,Value.int .i64 p.2] 209)).setCell ⟨w.heap.size+3,0,none⟩ (Value.slice (some ⟨gq,oq,none⟩) 0 0)):=(hb.trans ((xai _ _).mono (by omega))).setCell (by show w.heap.size+2<=w.heap.size+3;omega) _
      have hk1':∀ b,b<wr.heap.size->b≠w.heap.size+3->((wr.alloc (Obj.cells #[Value.int .i64 p.1,Value.int .i64 p.2] 209)).setCell ⟨w.heap.size+3,0,none⟩ (Value.slice (some ⟨gq,oq,none⟩) 0 0)).heap[b]?=wr.heap[b]?:=fun b hb hne=>(xac hne _).trans ((xai _ _).block b hb)
      have hs1:wr.heap.size+1=((wr.alloc (Obj.cells #[Value.int .i64 p.1,Value.int .i64 p.2] 209)).setCell ⟨w.heap.size+3,0,none⟩ (Value.slice (some ⟨gq,oq,none⟩) 0 0)).heap.size:=by rw[xaX];simp
      have hw1:(Value.ownBlock (Value.slice (some ⟨gq,oq,none⟩) 0 0))=some gq:=rfl;clear lc lf lcx lfx p1 p2 htl mcx;replace hb1':=hb1' (Value.slice (some ⟨gq,oq,none⟩) 0 0);generalize ((wr.alloc (Obj.cells #[Value.int .i64 p.1,Value.int .i64 p.2] 209)).setCell ⟨w.heap.size+3,0,none⟩ (Value.slice (some ⟨gq,oq,none⟩) 0 0))=w2 at *;generalize (Value.slice (some ⟨gq,oq,none⟩) 0 0)=v2 at *;have hr1:w2.heap[w.heap.size+1+1]?=some (xew h):=(hk1' _ (by omega) (by omega)).trans hr
      have hcw:xaG (fun b=>b<w.heap.size) w2 (.slice ad m.code.length cap) m.code:=hcI.later xaU (hbW.trans (hb1.mono (by omega)))
      have hgq:=(hQ.own.lt gq rfl).1;have hgq2:=(hQ.own.lt gq rfl).2;refine (xhG m.code _ h p.1 p.2 [] w.heap.size (w.heap.size+1+1) (w.heap.size+3) (w.heap.size+4) v2 w2 hcw hs hr1 hI.len (hI.wait p (by simp)) hQ1 (by simp[xf8] at hL;omega) (by omega) (by omega) (by omega) (by omega) (by omega)).mono ?_
      intro e w3 hpost
      cases hst:xc8 m.code h (p.1,p.2) with
      | inl f=>
       rw[hst] at hpost;obtain⟨rfl,hb3,hk3⟩:=hpost;have hf:=xeZ hst;have hf':(f.1 != 0)=true:=by simpa using hf
       have HE:Hid (xaN m.code=([],f)):=by show _=_;rw[← HR.out];unfold xjM;rw[hst]
       have rb3:w3.heap[w.heap.size+1]?=some (.cells #[Value.int .i64 0,Value.int .i64 0] 90 (0,0)):=(hk3 _ (by omega) (by omega)).trans ((hk1' _ (by omega) (by omega)).trans rb')
       have hs3:=hb3.size;have rc:∀ z q,(w3.alloc z).cell? ⟨w.heap.size+1,q,none⟩=(#[Value.int .i64 0,.int .i64 0]:Array Value)[q]?:=fun z q=>by rw[qzB (xaa rb3 (xai w3 z))]
       have rf:∀ z q,(w3.alloc z).frozen? ⟨w.heap.size+1,q,none⟩=false:=fun z q=>by unfold World.frozen?;simp[xaa rb3 (xai w3 z)]
       have hne:¬ w3.heap.size=w.heap.size+1:=by omega
       have hne':¬ w.heap.size+1=w3.heap.size:=by omega
       go_wp2
       go_region
       all_goals go_wp2
       all_goals refine bodyPost_ret (v:=.tuple #[.slice none 0 0,FV f]) ?_ rfl ⟨?_,Or.inr ⟨by rw[HE.out];exact hf,by rw[HE.out]⟩⟩
       all_goals first
        | (simp[results,Tryz.results101,go_sem,rc,rf,hne,hne'];done)
        | exact (((((hBw.trans (hb1'.mono (by omega))).trans hb3).alloc (by omega) _).setCell (by simp) _).setCell (by simp) _)
        | exact ((((((hBw.trans (hb1'.mono (by omega))).trans hb3).alloc (by omega) _).setCell (by simp) _).setCell (by simp) _)).drew
      | inr r=>
       obtain⟨h',new⟩:=r;rw[hst] at hpost;obtain⟨rfl,v3,hQ3,hr3,hA3⟩:=hpost;obtain⟨hI',hL'⟩:=hI.step hs hst;have HE:Hid (xjM m.code g' h' ([]++new)=xaN m.code):=by show _=_;rw[← HR.out];conv=>rhs;unfold xjM;rw[hst]
       have hs3:=hA3.bel.size;go_wp2
       go_roundg g'
       case measure=>omega
       case rel=>
        refine⟨v3,h',[]++new,by omega,HE.out,hI',by omega,hQ3.later (xai _ _),xaa hr3 (xai _ _),?_,by simp;omega⟩
        exact (hb1.trans (hA3.below (by omega) (by omega) (fun g hg=>by rw[hw1] at hg;cases hg;omega) (by omega))).trans ((xai _ _).mono (by omega))
     ·go_wp2_with fail;have hQ1:LeQ ((wr.alloc (Obj.cells #[Value.int .i64 p.1,Value.int .i64 p.2] 209)).setCell ⟨w.heap.size+3,0,none⟩ (Value.slice (some ⟨gq,oq+2,none⟩) q.length (kq-1))) (w.heap.size+4) (w.heap.size+3) (Value.slice (some ⟨gq,oq+2,none⟩) q.length (kq-1)) q:=hQ.cut _ (htl (oq+2) (by omega))
      have hb1:Below (w.heap.size+2) W0 ((wr.alloc (Obj.cells #[Value.int .i64 p.1,Value.int .i64 p.2] 209)).setCell ⟨w.heap.size+3,0,none⟩ (Value.slice (some ⟨gq,oq+2,none⟩) q.length (kq-1))):=(hb.trans ((xai _ _).mono (by omega))).setCell (by show w.heap.size+2<=w.heap.size+3;omega) _
      have hk1':∀ b,b<wr.heap.size->b≠w.heap.size+3->((wr.alloc (Obj.cells #[Value.int .i64 p.1,Value.int .i64 p.2] 209)).setCell ⟨w.heap.size+3,0,none⟩ (Value.slice (some ⟨gq,oq+2,none⟩) q.length (kq-1))).heap[b]?=wr.heap[b]?:=fun b hb hne=>(xac hne _).trans ((xai _ _).block b hb)
      have hs1:wr.heap.size+1=((wr.alloc (Obj.cells #[Value.int .i64 p.1,Value.int .i64 p.2] 209)).setCell ⟨w.heap.size+3,0,none⟩ (Value.slice (some ⟨gq,oq+2,none⟩) q.length (kq-1))).heap.size:=by rw[xaX];simp
      have hw1:(Value.ownBlock (Value.slice (some ⟨gq,oq+2,none⟩) q.length (kq-1)))=some gq:=rfl;clear lc lf lcx lfx p1 p2 htl mcx;replace hb1':=hb1' (Value.slice (some ⟨gq,oq+2,none⟩) q.length (kq-1));generalize ((wr.alloc (Obj.cells #[Value.int .i64 p.1,Value.int .i64 p.2] 209)).setCell ⟨w.heap.size+3,0,none⟩ (Value.slice (some ⟨gq,oq+2,none⟩) q.length (kq-1)))=w2 at *;generalize (Value.slice (some ⟨gq,oq+2,none⟩) q.length (kq-1))=v2 at *;have hr1:w2.heap[w.heap.size+1+1]?=some (xew h):=(hk1' _ (by omega) (by omega)).trans hr
      have hcw:xaG (fun b=>b<w.heap.size) w2 (.slice ad m.code.length cap) m.code:=hcI.later xaU (hbW.trans (hb1.mono (by omega)))
      have hgq:=(hQ.own.lt gq rfl).1;have hgq2:=(hQ.own.lt gq rfl).2;refine (xhG m.code _ h p.1 p.2 q w.heap.size (w.heap.size+1+1) (w.heap.size+3) (w.heap.size+4) v2 w2 hcw hs hr1 hI.len (hI.wait p (by simp)) hQ1 (by simp[xf8] at hL;omega) (by omega) (by omega) (by omega) (by omega) (by omega)).mono ?_
      intro e w3 hpost
      cases hst:xc8 m.code h (p.1,p.2) with
      | inl f=>
       rw[hst] at hpost;obtain⟨rfl,hb3,hk3⟩:=hpost;have hf:=xeZ hst;have hf':(f.1 != 0)=true:=by simpa using hf
       have HE:Hid (xaN m.code=([],f)):=by show _=_;rw[← HR.out];unfold xjM;rw[hst]
       have rb3:w3.heap[w.heap.size+1]?=some (.cells #[Value.int .i64 0,Value.int .i64 0] 90 (0,0)):=(hk3 _ (by omega) (by omega)).trans ((hk1' _ (by omega) (by omega)).trans rb')
       have hs3:=hb3.size;have rc:∀ z q,(w3.alloc z).cell? ⟨w.heap.size+1,q,none⟩=(#[Value.int .i64 0,.int .i64 0]:Array Value)[q]?:=fun z q=>by rw[qzB (xaa rb3 (xai w3 z))]
       have rf:∀ z q,(w3.alloc z).frozen? ⟨w.heap.size+1,q,none⟩=false:=fun z q=>by unfold World.frozen?;simp[xaa rb3 (xai w3 z)]
       have hne:¬ w3.heap.size=w.heap.size+1:=by omega
       have hne':¬ w.heap.size+1=w3.heap.size:=by omega
       go_wp2
       go_region
       all_goals go_wp2
       all_goals refine bodyPost_ret (v:=.tuple #[.slice none 0 0,FV f]) ?_ rfl ⟨?_,Or.inr ⟨by rw[HE.out];exact hf,by rw[HE.out]⟩⟩
       all_goals first
        | (simp[results,Tryz.results101,go_sem,rc,rf,hne,hne'];done)
        | exact (((((hBw.trans (hb1'.mono (by omega))).trans hb3).alloc (by omega) _).setCell (by simp) _).setCell (by simp) _)
        | exact ((((((hBw.trans (hb1'.mono (by omega))).trans hb3).alloc (by omega) _).setCell (by simp) _).setCell (by simp) _)).drew
      | inr r=>
       obtain⟨h',new⟩:=r;rw[hst] at hpost;obtain⟨rfl,v3,hQ3,hr3,hA3⟩:=hpost;obtain⟨hI',hL'⟩:=hI.step hs hst;have HE:Hid (xjM m.code g' h' (q++new)=xaN m.code):=by show _=_;rw[← HR.out];conv=>rhs;unfold xjM;rw[hst]
       have hs3:=hA3.bel.size;go_wp2
       go_roundg g'
       case measure=>omega
       case rel=>
        refine⟨v3,h',q++new,by omega,HE.out,hI',by omega,hQ3.later (xai _ _),xaa hr3 (xai _ _),?_,by simp;omega⟩
        exact (hb1.trans (hA3.below (by omega) (by omega) (fun g hg=>by rw[hw1] at hg;cases hg;omega) (by omega))).trans ((xai _ _).mono (by omega))
theorem xbt (n low high:Int)(w:World):Calls Tryz.prog 129 #[.int .i64 n,.int .i64 low,.int .i64 high] w fun e w'=>e=.returned (.bool (inR n low high))/\Below w.heap.size w w':=by
 go_enter Tryz.func129,Tryz.ntmps129
 by_cases h1:low<=n
 ·by_cases h2:n<=high
  ·go_wp2
   go_ret
   exact⟨xbg (by simp[inR,h1,h2]),Below.refl _ _⟩
  ·have h2':decide (n<=high)=false:=by simpa using h2
   go_wp2
   go_ret
   exact⟨xbg (by simp[inR];omega),Below.refl _ _⟩
 ·have h1':decide (low<=n)=false:=by simpa using h1
  go_wp2
  go_ret
  exact⟨xbg (by simp[inR];omega),Below.refl _ _⟩
theorem xiu (x:QI)(w:World)(hn:x.name.size<=140737488351232):Calls Tryz.prog 131 #[IV x] w fun e w'=>e=.returned (.bool (rnB x))/\Below w.heap.size w w':=by
 obtain⟨op,xa,xb,xc,nm⟩:=x;go_enter Tryz.func131,Tryz.ntmps131
 by_cases h:op=14
 ·subst h;go_wp2_with fail;refine (xfo nm _ hn).mono ?_;rintro e w1 ⟨rfl,hb⟩;go_wp2
  go_ret
  exact⟨xbg (by simp[rnB]),xaf (xai _ _) hb⟩
 ·go_wp2
  go_ret
  exact⟨xbg (by simp[rnB,h,xnV]),xai _ _⟩
theorem xmy {P:Nat->Prop}(X:QW)(c:Int)(m:QM)(x:QI)(cv hv mv:Value)(w:World)(hh:xag P w cv X.cz)(hH:xav P w hv X.heap)(hM:xaG P w mv m.code)(ha:0<=m.args/\m.args<=4)(ht:0<=m.temps/\m.temps<=6):Calls Tryz.prog 130 #[WV cv hv X.ez,.int .i64 c,MV m mv,IV x] w fun e w'=>e=.returned (.bool (raE (xaS X.cz c) X.cz.length m x))/\Below w.heap.size w w':=by
 obtain⟨op,xa,xb,xc,nm⟩:=x;obtain⟨ad,cap,rfl,hl,hcap,hby,-⟩:=id hh;obtain⟨ah,ch,rfl,-,-,-,-⟩:=id hH;obtain⟨am,cm,rfl,-,-,hcb,-⟩:=id hM;have hw1:IntKind.i64.wrap (m.args-1)=m.args-1:=xal (by omega) (by omega)
 have hw2:IntKind.i64.wrap (m.temps-1)=m.temps-1:=xal (by omega) (by omega)
 have hw3:IntKind.i64.wrap ((m.code.length:Int)-1)=(m.code.length:Int)-1:=xal (by omega) (by omega)
 have hw4:IntKind.i64.wrap ((X.cz.length:Int)-1)=(X.cz.length:Int)-1:=xal (by omega) (by omega)
 have hb3:=xeQ w (Obj.cells #[Value.slice ad X.cz.length cap,Value.slice ah X.heap.length ch,Value.int .i64 X.ez] 26) (Obj.cells #[Value.string m.name,Value.int .i64 m.args,Value.int .i64 m.temps,Value.int .i64 m.prim,Value.slice am m.code.length cm] 51) (Obj.cells #[Value.int .i64 op,Value.int .i64 xa,Value.int .i64 xb,Value.int .i64 xc,Value.string nm] 69);go_enter Tryz.func130,Tryz.ntmps130
 by_cases h2:op=2
 ·subst h2;go_wp2_with fail;refine (xbt _ _ _ _).mono ?_;rintro e w1 ⟨rfl,hb⟩;go_wp2
  go_ret
  exact⟨xbg (by simp[raE]),xaf hb3 hb⟩
 ·by_cases h3:op=3\/op=11
  ·rcases h3 with rfl | rfl
   all_goals
    go_wp2_with fail;refine (xbt _ _ _ _).mono ?_;rintro e w1 ⟨rfl,hb⟩;go_wp2
    go_ret
    exact⟨xbg (by simp[raE]),xaf hb3 hb⟩
  ·by_cases h4:op=4\/op=12
   ·rcases h4 with rfl | rfl
    ·go_wp2
     have hS0:(((w.alloc (Obj.cells #[Value.slice ad X.cz.length cap,Value.slice ah X.heap.length ch,Value.int .i64 X.ez] 26)).alloc (Obj.cells #[Value.string m.name,Value.int .i64 m.args,Value.int .i64 m.temps,Value.int .i64 m.prim,Value.slice am m.code.length cm] 51)).alloc (Obj.cells #[Value.int .i64 4,Value.int .i64 xa,Value.int .i64 xb,Value.int .i64 xc,Value.string nm] 69)).drew.cell? ⟨w.heap.size+1+1,1,none⟩=some (.int .i64 xa)/\(((w.alloc (Obj.cells #[Value.slice ad X.cz.length cap,Value.slice ah X.heap.length ch,Value.int .i64 X.ez] 26)).alloc (Obj.cells #[Value.string m.name,Value.int .i64 m.args,Value.int .i64 m.temps,Value.int .i64 m.prim,Value.slice am m.code.length cm] 51)).alloc (Obj.cells #[Value.int .i64 4,Value.int .i64 xa,Value.int .i64 xb,Value.int .i64 xc,Value.string nm] 69)).drew.cell? ⟨w.heap.size,0,none⟩=some (.slice ad X.cz.length cap)/\(((w.alloc (Obj.cells #[Value.slice ad X.cz.length cap,Value.slice ah X.heap.length ch,Value.int .i64 X.ez] 26)).alloc (Obj.cells #[Value.string m.name,Value.int .i64 m.args,Value.int .i64 m.temps,Value.int .i64 m.prim,Value.slice am m.code.length cm] 51)).alloc (Obj.cells #[Value.int .i64 4,Value.int .i64 xa,Value.int .i64 xb,Value.int .i64 xc,Value.string nm] 69)).drew.cell? ⟨w.heap.size,1,none⟩=some (.slice ah X.heap.length ch)/\(((w.alloc (Obj.cells #[Value.slice ad X.cz.length cap,Value.slice ah X.heap.length ch,Value.int .i64 X.ez] 26)).alloc (Obj.cells #[Value.string m.name,Value.int .i64 m.args,Value.int .i64 m.temps,Value.int .i64 m.prim,Value.slice am m.code.length cm] 51)).alloc (Obj.cells #[Value.int .i64 4,Value.int .i64 xa,Value.int .i64 xb,Value.int .i64 xc,Value.string nm] 69)).drew.cell? ⟨w.heap.size,2,none⟩=some (.int .i64 X.ez)/\Below w.heap.size w (((w.alloc (Obj.cells #[Value.slice ad X.cz.length cap,Value.slice ah X.heap.length ch,Value.int .i64 X.ez] 26)).alloc (Obj.cells #[Value.string m.name,Value.int .i64 m.args,Value.int .i64 m.temps,Value.int .i64 m.prim,Value.slice am m.code.length cm] 51)).alloc (Obj.cells #[Value.int .i64 4,Value.int .i64 xa,Value.int .i64 xb,Value.int .i64 xc,Value.string nm] 69)).drew:=
      ⟨(xab _ _ _ _ (by simp) 1).trans rfl,qzA (xbp _ _ _).drew (by rw[xab _ _ _ _ rfl];rfl),qzA (xbp _ _ _).drew (by rw[xab _ _ _ _ rfl];rfl),qzA (xbp _ _ _).drew (by rw[xab _ _ _ _ rfl];rfl),hb3.drew⟩
     generalize (((w.alloc (Obj.cells #[Value.slice ad X.cz.length cap,Value.slice ah X.heap.length ch,Value.int .i64 X.ez] 26)).alloc (Obj.cells #[Value.string m.name,Value.int .i64 m.args,Value.int .i64 m.temps,Value.int .i64 m.prim,Value.slice am m.code.length cm] 51)).alloc (Obj.cells #[Value.int .i64 4,Value.int .i64 xa,Value.int .i64 xb,Value.int .i64 xc,Value.string nm] 69))=W at *
     go_region_held3 (fun w'=>w'.cell? ⟨w.heap.size+1+1,1,none⟩=some (.int .i64 xa)/\w'.cell? ⟨w.heap.size,0,none⟩=some (.slice ad X.cz.length cap)/\w'.cell? ⟨w.heap.size,1,none⟩=some (.slice ah X.heap.length ch)/\w'.cell? ⟨w.heap.size,2,none⟩=some (.int .i64 X.ez)/\Below w.heap.size w w')
      (first | with_reducible exact hS0 | with_reducible exact xh4 (‹_/\_/\_/\_/\Below w.heap.size w _›) hb)
      (first
       | (go_at_call 83;refine (xfD X c _ _ _ (hh.later xax (‹_/\_/\_/\_/\Below w.heap.size w _›).2.2.2.2) (hH.later xaB (‹_/\_/\_/\_/\Below w.heap.size w _›).2.2.2.2)).mono ?_;rintro e w' ⟨rfl,hb⟩)
       | (go_at_call 129;refine (xbt _ _ _ _).mono ?_;rintro e w' ⟨rfl,hb⟩))
     all_goals go_wp2
     all_goals go_ret
     all_goals exact⟨xbg (by simp[raE]),(‹_/\_/\_/\_/\Below w.heap.size w _›).2.2.2.2⟩
    ·go_wp2
     have hS0:(((w.alloc (Obj.cells #[Value.slice ad X.cz.length cap,Value.slice ah X.heap.length ch,Value.int .i64 X.ez] 26)).alloc (Obj.cells #[Value.string m.name,Value.int .i64 m.args,Value.int .i64 m.temps,Value.int .i64 m.prim,Value.slice am m.code.length cm] 51)).alloc (Obj.cells #[Value.int .i64 12,Value.int .i64 xa,Value.int .i64 xb,Value.int .i64 xc,Value.string nm] 69)).drew.cell? ⟨w.heap.size+1+1,1,none⟩=some (.int .i64 xa)/\(((w.alloc (Obj.cells #[Value.slice ad X.cz.length cap,Value.slice ah X.heap.length ch,Value.int .i64 X.ez] 26)).alloc (Obj.cells #[Value.string m.name,Value.int .i64 m.args,Value.int .i64 m.temps,Value.int .i64 m.prim,Value.slice am m.code.length cm] 51)).alloc (Obj.cells #[Value.int .i64 12,Value.int .i64 xa,Value.int .i64 xb,Value.int .i64 xc,Value.string nm] 69)).drew.cell? ⟨w.heap.size,0,none⟩=some (.slice ad X.cz.length cap)/\(((w.alloc (Obj.cells #[Value.slice ad X.cz.length cap,Value.slice ah X.heap.length ch,Value.int .i64 X.ez] 26)).alloc (Obj.cells #[Value.string m.name,Value.int .i64 m.args,Value.int .i64 m.temps,Value.int .i64 m.prim,Value.slice am m.code.length cm] 51)).alloc (Obj.cells #[Value.int .i64 12,Value.int .i64 xa,Value.int .i64 xb,Value.int .i64 xc,Value.string nm] 69)).drew.cell? ⟨w.heap.size,1,none⟩=some (.slice ah X.heap.length ch)/\(((w.alloc (Obj.cells #[Value.slice ad X.cz.length cap,Value.slice ah X.heap.length ch,Value.int .i64 X.ez] 26)).alloc (Obj.cells #[Value.string m.name,Value.int .i64 m.args,Value.int .i64 m.temps,Value.int .i64 m.prim,Value.slice am m.code.length cm] 51)).alloc (Obj.cells #[Value.int .i64 12,Value.int .i64 xa,Value.int .i64 xb,Value.int .i64 xc,Value.string nm] 69)).drew.cell? ⟨w.heap.size,2,none⟩=some (.int .i64 X.ez)/\Below w.heap.size w (((w.alloc (Obj.cells #[Value.slice ad X.cz.length cap,Value.slice ah X.heap.length ch,Value.int .i64 X.ez] 26)).alloc (Obj.cells #[Value.string m.name,Value.int .i64 m.args,Value.int .i64 m.temps,Value.int .i64 m.prim,Value.slice am m.code.length cm] 51)).alloc (Obj.cells #[Value.int .i64 12,Value.int .i64 xa,Value.int .i64 xb,Value.int .i64 xc,Value.string nm] 69)).drew:=
      ⟨(xab _ _ _ _ (by simp) 1).trans rfl,qzA (xbp _ _ _).drew (by rw[xab _ _ _ _ rfl];rfl),qzA (xbp _ _ _).drew (by rw[xab _ _ _ _ rfl];rfl),qzA (xbp _ _ _).drew (by rw[xab _ _ _ _ rfl];rfl),hb3.drew⟩
     generalize (((w.alloc (Obj.cells #[Value.slice ad X.cz.length cap,Value.slice ah X.heap.length ch,Value.int .i64 X.ez] 26)).alloc (Obj.cells #[Value.string m.name,Value.int .i64 m.args,Value.int .i64 m.temps,Value.int .i64 m.prim,Value.slice am m.code.length cm] 51)).alloc (Obj.cells #[Value.int .i64 12,Value.int .i64 xa,Value.int .i64 xb,Value.int .i64 xc,Value.string nm] 69))=W at *
     go_region_held3 (fun w'=>w'.cell? ⟨w.heap.size+1+1,1,none⟩=some (.int .i64 xa)/\w'.cell? ⟨w.heap.size,0,none⟩=some (.slice ad X.cz.length cap)/\w'.cell? ⟨w.heap.size,1,none⟩=some (.slice ah X.heap.length ch)/\w'.cell? ⟨w.heap.size,2,none⟩=some (.int .i64 X.ez)/\Below w.heap.size w w')
      (first | with_reducible exact hS0 | with_reducible exact xh4 (‹_/\_/\_/\_/\Below w.heap.size w _›) hb)
      (first
       | (go_at_call 83;refine (xfD X c _ _ _ (hh.later xax (‹_/\_/\_/\_/\Below w.heap.size w _›).2.2.2.2) (hH.later xaB (‹_/\_/\_/\_/\Below w.heap.size w _›).2.2.2.2)).mono ?_;rintro e w' ⟨rfl,hb⟩)
       | (go_at_call 129;refine (xbt _ _ _ _).mono ?_;rintro e w' ⟨rfl,hb⟩))
     all_goals go_wp2
     all_goals go_ret
     all_goals exact⟨xbg (by simp[raE]),(‹_/\_/\_/\_/\Below w.heap.size w _›).2.2.2.2⟩
   ·by_cases h5:op=15\/op=16
    ·rcases h5 with rfl | rfl
     all_goals
      go_wp2_with fail;refine (xbt _ _ _ _).mono ?_;rintro e w1 ⟨rfl,hb⟩;go_wp2
      go_ret
      exact⟨xbg (by simp[raE]),xaf hb3 hb⟩
    ·by_cases h6:op=14
     ·subst h6;go_wp2_with fail;refine (xbt _ _ _ _).mono ?_;rintro e w1 ⟨rfl,hb⟩;go_wp2
      go_ret
      exact⟨xbg (by simp[raE]),xaf hb3 hb⟩
     ·by_cases h7:op=5
      ·subst h7;go_wp2_with fail;refine (xbt _ _ _ _).mono ?_;rintro e w1 ⟨rfl,hb⟩;go_wp2
       go_ret
       exact⟨xbg (by simp[raE]),xaf hb3 hb⟩
      ·by_cases h8:op=13
       ·subst h8
        by_cases h9:xa=0
        ·subst h9;go_wp2
         go_ret
         exact⟨xbg (by simp[raE]),hb3⟩
        ·have h9':(xa == 0)=false:=by simpa using h9
         go_wp2_with fail;refine (xbt _ _ _ _).mono ?_;rintro e w1 ⟨rfl,hb⟩;go_wp2
         go_ret
         exact⟨xbg (by simp[raE,h9]),xaf hb3 hb⟩
       ·have n1:¬ op=3:=fun h=>h3 (Or.inl h)
        have n2:¬ op=11:=fun h=>h3 (Or.inr h)
        have n3:¬ op=4:=fun h=>h4 (Or.inl h)
        have n4:¬ op=12:=fun h=>h4 (Or.inr h)
        have n5:¬ op=15:=fun h=>h5 (Or.inl h)
        have n6:¬ op=16:=fun h=>h5 (Or.inr h)
        go_wp2
        go_ret
        exact⟨xbg (by simp[raE,h2,h6,h7,h8,n1,n2,n3,n4,n5,n6];rw[Bool.eq_iff_iff];simp),hb3⟩
theorem xg8 (X:QW)(c:Int)(m:QM)(ad ah am:Option Addr)(cap ch cm:Nat)(w:World)(hby:X.cz.length*56<=140737488351232)(hcb:m.code.length*48<=140737488351232)(hmn:m.name.size<=140737488351232):Calls Tryz.prog 99 #[WV (.slice ad X.cz.length cap) (.slice ah X.heap.length ch) X.ez,.int .i64 c,MV m (.slice am m.code.length cm)] w fun e w'=>e=.returned (.int .i64 (wmE X.cz.length c m))/\Below w.heap.size w w':=by
 have hw4:IntKind.i64.wrap ((X.cz.length:Int)-1)=(X.cz.length:Int)-1:=xal (by omega) (by omega)
 have hb2:=xbp w (Obj.cells #[Value.slice ad X.cz.length cap,Value.slice ah X.heap.length ch,Value.int .i64 X.ez] 26) (Obj.cells #[Value.string m.name,Value.int .i64 m.args,Value.int .i64 m.temps,Value.int .i64 m.prim,Value.slice am m.code.length cm] 51);have mb:=xaR (w.alloc (Obj.cells #[Value.slice ad X.cz.length cap,Value.slice ah X.heap.length ch,Value.int .i64 X.ez] 26)) (Obj.cells #[Value.string m.name,Value.int .i64 m.args,Value.int .i64 m.temps,Value.int .i64 m.prim,Value.slice am m.code.length cm] 51) (w.heap.size+1) (by simp)
 have HE:Hid (wmE X.cz.length c m=if inR c 0 (X.cz.length-1)=false then 6 else if xdz m.name=false then 7 else if inR m.args 0 4=false\/inR m.temps 0 6=false then 3 else if m.prim≠0 then 1 else if inR m.code.length 1 60=false then 5 else 0):=rfl;generalize wmE X.cz.length c m=u at *;go_enter Tryz.func99,Tryz.ntmps99;go_wp2_with fail;refine (xbt _ _ _ _).mono ?_;rintro e w1 ⟨rfl,hb⟩;replace hb2:=xaf hb2 hb;replace mb:=xaa mb hb;clear hb
 cases h1:inR c 0 ((X.cz.length:Int)-1)
 ·go_wp2
  go_ret
  exact⟨xa6 (by rw[HE.out,if_pos h1]),hb2⟩
 ·have mc:∀ q,w1.cell? ⟨w.heap.size+1,q,none⟩=(#[Value.string m.name,Value.int .i64 m.args,Value.int .i64 m.temps,Value.int .i64 m.prim,Value.slice am m.code.length cm]:Array Value)[q]?:=fun q=>by rw[qzB mb]
  go_wp2_with fail;refine (xfo m.name _ hmn).mono ?_;rintro e w2 ⟨rfl,hb⟩;replace hb2:=xaf hb2 hb;replace mb:=xaa mb hb;clear hb mc
  cases h2:xdz m.name
  ·go_wp2
   go_ret
   exact⟨xa6 (by rw[HE.out,if_neg (by rw[h1];simp),if_pos h2]),hb2⟩
  ·have mc:∀ q,w2.cell? ⟨w.heap.size+1,q,none⟩=(#[Value.string m.name,Value.int .i64 m.args,Value.int .i64 m.temps,Value.int .i64 m.prim,Value.slice am m.code.length cm]:Array Value)[q]?:=fun q=>by rw[qzB mb]
   go_wp2_with fail;refine (xbt _ _ _ _).mono ?_;rintro e w3 ⟨rfl,hb⟩;replace hb2:=xaf hb2 hb;replace mb:=xaa mb hb;clear hb mc
   cases h3:inR m.args 0 4
   ·go_wp2
    go_ret
    exact⟨xa6 (by rw[HE.out,if_neg (by rw[h1];simp),if_neg (by rw[h2];simp),if_pos (Or.inl h3)]),hb2⟩
   ·have mc:∀ q,w3.cell? ⟨w.heap.size+1,q,none⟩=(#[Value.string m.name,Value.int .i64 m.args,Value.int .i64 m.temps,Value.int .i64 m.prim,Value.slice am m.code.length cm]:Array Value)[q]?:=fun q=>by rw[qzB mb]
    go_wp2_with fail;refine (xbt _ _ _ _).mono ?_;rintro e w4 ⟨rfl,hb⟩;replace hb2:=xaf hb2 hb;replace mb:=xaa mb hb;clear hb mc
    cases h4:inR m.temps 0 6
    ·go_wp2
     go_ret
     exact⟨xa6 (by rw[HE.out,if_neg (by rw[h1];simp),if_neg (by rw[h2];simp),if_pos (Or.inr h4)]),hb2⟩
    ·have mc:∀ q,w4.cell? ⟨w.heap.size+1,q,none⟩=(#[Value.string m.name,Value.int .i64 m.args,Value.int .i64 m.temps,Value.int .i64 m.prim,Value.slice am m.code.length cm]:Array Value)[q]?:=fun q=>by rw[qzB mb]
     have HE2:Hid (u=if m.prim≠0 then 1 else if inR m.code.length 1 60=false then 5 else 0):=by
      show _=_
      rw[HE.out,if_neg (by rw[h1];simp),if_neg (by rw[h2];simp),if_neg (by rw[h3,h4];simp)]
     by_cases h5:m.prim=0
     ·go_wp2_with fail;refine (xbt _ _ _ _).mono ?_;rintro e w5 ⟨rfl,hb⟩;replace hb2:=xaf hb2 hb;clear hb mc
      cases h6:inR (m.code.length:Int) 1 60
      ·go_wp2
       go_ret
       exact⟨xa6 (by rw[HE2.out,if_neg (by simp[h5]),if_pos h6]),hb2⟩
      ·go_wp2
       go_ret
       exact⟨xa6 (by rw[HE2.out,if_neg (by simp[h5]),if_neg (by rw[h6];simp)]),hb2⟩
     ·have h5':(m.prim != 0)=true:=by simpa using h5
      go_wp2
      go_ret
      exact⟨xa6 (by rw[HE2.out,if_pos h5]),hb2⟩
theorem xhB {P:Nat->Prop}(X:QW)(c:Int)(m:QM)(x:QI)(cv hv mv:Value)(w:World)(hh:xag P w cv X.cz)(hH:xav P w hv X.heap)(hM:xaG P w mv m.code)(ha:0<=m.args/\m.args<=4)(ht:0<=m.temps/\m.temps<=6)(hn:x.name.size<=140737488351232):Calls Tryz.prog 100 #[WV cv hv X.ez,.int .i64 c,MV m mv,IV x] w fun e w'=>e=.returned (.int .i64 (xfq (xaS X.cz c) X.cz.length m x))/\Below w.heap.size w w':=by
 obtain⟨ad,cap,rfl⟩:=hh.get;obtain⟨ah,ch,rfl⟩:=hH.get;obtain⟨am,cm,rfl⟩:=hM.get;have hb2:=xeQ w (Obj.cells #[Value.slice ad X.cz.length cap,Value.slice ah X.heap.length ch,Value.int .i64 X.ez] 26) (Obj.cells #[Value.string m.name,Value.int .i64 m.args,Value.int .i64 m.temps,Value.int .i64 m.prim,Value.slice am m.code.length cm] 51) (Obj.cells #[Value.int .i64 x.op,Value.int .i64 x.a,Value.int .i64 x.b,Value.int .i64 x.c,Value.string x.name] 69);have wb:(((w.alloc (Obj.cells #[Value.slice ad X.cz.length cap,Value.slice ah X.heap.length ch,Value.int .i64 X.ez] 26)).alloc (Obj.cells #[Value.string m.name,Value.int .i64 m.args,Value.int .i64 m.temps,Value.int .i64 m.prim,Value.slice am m.code.length cm] 51)).alloc (Obj.cells #[Value.int .i64 x.op,Value.int .i64 x.a,Value.int .i64 x.b,Value.int .i64 x.c,Value.string x.name] 69)).heap[w.heap.size]?=some (.cells #[Value.slice ad X.cz.length cap,Value.slice ah X.heap.length ch,Value.int .i64 X.ez] 26 (0,0)):=((xbp _ _ _).block _ (by simp)).trans (xaR _ _ _ rfl)
 have mb:(((w.alloc (Obj.cells #[Value.slice ad X.cz.length cap,Value.slice ah X.heap.length ch,Value.int .i64 X.ez] 26)).alloc (Obj.cells #[Value.string m.name,Value.int .i64 m.args,Value.int .i64 m.temps,Value.int .i64 m.prim,Value.slice am m.code.length cm] 51)).alloc (Obj.cells #[Value.int .i64 x.op,Value.int .i64 x.a,Value.int .i64 x.b,Value.int .i64 x.c,Value.string x.name] 69)).heap[w.heap.size+1]?=some (.cells #[Value.string m.name,Value.int .i64 m.args,Value.int .i64 m.temps,Value.int .i64 m.prim,Value.slice am m.code.length cm] 51 (0,0)):=((xai _ _).block _ (by simp)).trans (xaR _ _ _ (by simp))
 have xb:(((w.alloc (Obj.cells #[Value.slice ad X.cz.length cap,Value.slice ah X.heap.length ch,Value.int .i64 X.ez] 26)).alloc (Obj.cells #[Value.string m.name,Value.int .i64 m.args,Value.int .i64 m.temps,Value.int .i64 m.prim,Value.slice am m.code.length cm] 51)).alloc (Obj.cells #[Value.int .i64 x.op,Value.int .i64 x.a,Value.int .i64 x.b,Value.int .i64 x.c,Value.string x.name] 69)).heap[w.heap.size+1+1]?=some (.cells #[Value.int .i64 x.op,Value.int .i64 x.a,Value.int .i64 x.b,Value.int .i64 x.c,Value.string x.name] 69 (0,0)):=xaR _ _ _ (by simp)
 have HE:Hid (xfq (xaS X.cz c) X.cz.length m x=if inR x.op 1 17=false then 1 else if raE (xaS X.cz c) X.cz.length m x=false then 3 else if rnB x=false\/x.b≠0\/x.c≠0 then 2 else 0):=rfl;generalize xfq (xaS X.cz c) X.cz.length m x=u at *;go_enter Tryz.func100,Tryz.ntmps100;go_wp2_with fail;refine (xbt _ _ _ _).mono ?_;rintro e w1 ⟨rfl,hb⟩;replace hb2:=xaf hb2 hb;replace mb:=xaa mb hb;replace wb:=xaa wb hb;replace xb:=xaa xb hb;clear hb
 cases h1:inR x.op 1 17
 ·go_wp2
  go_ret
  exact⟨xa6 (by rw[HE.out,if_pos h1]),hb2⟩
 ·have wc:∀ q,w1.cell? ⟨w.heap.size,q,none⟩=(#[Value.slice ad X.cz.length cap,Value.slice ah X.heap.length ch,Value.int .i64 X.ez]:Array Value)[q]?:=fun q=>by rw[qzB wb]
  have mc:∀ q,w1.cell? ⟨w.heap.size+1,q,none⟩=(#[Value.string m.name,Value.int .i64 m.args,Value.int .i64 m.temps,Value.int .i64 m.prim,Value.slice am m.code.length cm]:Array Value)[q]?:=fun q=>by rw[qzB mb]
  have xc:∀ q,w1.cell? ⟨w.heap.size+1+1,q,none⟩=(#[Value.int .i64 x.op,Value.int .i64 x.a,Value.int .i64 x.b,Value.int .i64 x.c,Value.string x.name]:Array Value)[q]?:=fun q=>by rw[qzB xb]
  go_wp2_with fail;refine (xmy X c m x _ _ _ _ (hh.later xax hb2) (hH.later xaB hb2) (hM.later xaU hb2) ha ht).mono ?_;rintro e w2 ⟨rfl,hb⟩;replace hb2:=xaf hb2 hb;replace xb:=xaa xb hb;clear hb wc mc xc
  cases h2:raE (xaS X.cz c) X.cz.length m x
  ·go_wp2
   go_ret
   exact⟨xa6 (by rw[HE.out,if_neg (by rw[h1];simp),if_pos h2]),hb2⟩
  ·have xc:∀ q,w2.cell? ⟨w.heap.size+1+1,q,none⟩=(#[Value.int .i64 x.op,Value.int .i64 x.a,Value.int .i64 x.b,Value.int .i64 x.c,Value.string x.name]:Array Value)[q]?:=fun q=>by rw[qzB xb]
   have HE2:Hid (u=if rnB x=false\/x.b≠0\/x.c≠0 then 2 else 0):=by show _=_;rw[HE.out,if_neg (by rw[h1];simp),if_neg (by rw[h2];simp)]
   go_wp2_with fail;refine (xiu x _ hn).mono ?_;rintro e w3 ⟨rfl,hb⟩;replace hb2:=xaf hb2 hb;replace xb:=xaa xb hb;clear hb xc;have xc:∀ q,w3.cell? ⟨w.heap.size+1+1,q,none⟩=(#[Value.int .i64 x.op,Value.int .i64 x.a,Value.int .i64 x.b,Value.int .i64 x.c,Value.string x.name]:Array Value)[q]?:=fun q=>by rw[qzB xb]
   cases h3:rnB x
   ·go_wp2
    go_ret
    exact⟨xa6 (by rw[HE2.out,if_pos (Or.inl h3)]),hb2⟩
   ·by_cases h4:x.b=0
    ·by_cases h5:x.c=0
     ·go_wp2
      go_ret
      exact⟨xa6 (by rw[HE2.out,if_neg (by rw[h3,h4,h5];simp)]),hb2⟩
     ·have h5':(x.c != 0)=true:=by simpa using h5
      go_wp2
      go_ret
      exact⟨xa6 (by rw[HE2.out,if_pos (Or.inr (Or.inr h5))]),hb2⟩
    ·have h4':(x.b != 0)=true:=by simpa using h4
     go_wp2
     go_ret
     exact⟨xa6 (by rw[HE2.out,if_pos (Or.inr (Or.inl h4))]),hb2⟩
theorem xiR {P:Nat->Prop}(m:QM)(mv:Value)(w:World)(hc:xaG P w mv m.code)(hs:xdb m.code):Calls Tryz.prog 101 #[MV m mv] w fun e w'=>∃ a n k,e=.returned (.tuple #[.slice a n k,FV (xaN m.code).2])/\Below w.heap.size w w':=by
 refine (xlf m mv w hc hs).mono ?_;rintro e w' ⟨hb,⟨h0,g,rfl,-,-⟩ | ⟨h0,rfl⟩⟩
 ·have:=xjA _ _ _ h0
  exact⟨_,_,_,by unfold xaN at *;rw[this],hb⟩
 ·exact⟨_,_,_,rfl,hb⟩
theorem xnu {P:Nat->Prop}(X:QW)(c:Int)(m:QM)(cv hv mv:Value)(w:World)(hh:xag P w cv X.cz)(hH:xav P w hv X.heap)(hM:xaG P w mv m.code)(hmn:m.name.size<=140737488351232):Calls Tryz.prog 79 #[WV cv hv X.ez,.int .i64 c,MV m mv] w fun e w'=>e=.returned (FV (xce (xaS X.cz c) X.cz.length c m))/\Below w.heap.size w w':=by
 obtain⟨ad,cap,rfl,hl,hcap,hby,-⟩:=id hh;obtain⟨ah,ch,rfl⟩:=hH.get;obtain⟨am,cm,rfl,hl2,hcm,hcb,hrow⟩:=id hM;unfold maxLen at hcm;have HCE:Hid (xce (xaS X.cz c) X.cz.length c m=if wmE X.cz.length c m≠0 then (wmE X.cz.length c m,0) else match xkV (xfq (xaS X.cz c) X.cz.length m) 0 m.code with | some f=>f | none=>(xaN m.code).2):=rfl
 generalize xce (xaS X.cz c) X.cz.length c m=R at *;go_enter Tryz.func79,Tryz.ntmps79;go_wp2_with fail;have hb3:=xeQ w (Obj.cells #[Value.slice ad X.cz.length cap,Value.slice ah X.heap.length ch,Value.int .i64 X.ez] 26) (Obj.cells #[Value.string m.name,Value.int .i64 m.args,Value.int .i64 m.temps,Value.int .i64 m.prim,Value.slice am m.code.length cm] 51) (Obj.cells #[Value.int .i64 0,Value.int .i64 0] 90);have wb:(((w.alloc (Obj.cells #[Value.slice ad X.cz.length cap,Value.slice ah X.heap.length ch,Value.int .i64 X.ez] 26)).alloc (Obj.cells #[Value.string m.name,Value.int .i64 m.args,Value.int .i64 m.temps,Value.int .i64 m.prim,Value.slice am m.code.length cm] 51)).alloc (Obj.cells #[Value.int .i64 0,Value.int .i64 0] 90)).heap[w.heap.size]?=some (.cells #[Value.slice ad X.cz.length cap,Value.slice ah X.heap.length ch,Value.int .i64 X.ez] 26 (0,0)):=((xbp _ _ _).block _ (by simp)).trans (xaR _ _ _ rfl)
 have mb:(((w.alloc (Obj.cells #[Value.slice ad X.cz.length cap,Value.slice ah X.heap.length ch,Value.int .i64 X.ez] 26)).alloc (Obj.cells #[Value.string m.name,Value.int .i64 m.args,Value.int .i64 m.temps,Value.int .i64 m.prim,Value.slice am m.code.length cm] 51)).alloc (Obj.cells #[Value.int .i64 0,Value.int .i64 0] 90)).heap[w.heap.size+1]?=some (.cells #[Value.string m.name,Value.int .i64 m.args,Value.int .i64 m.temps,Value.int .i64 m.prim,Value.slice am m.code.length cm] 51 (0,0)):=((xai _ _).block _ (by simp)).trans (xaR _ _ _ (by simp))
 have rb:(((w.alloc (Obj.cells #[Value.slice ad X.cz.length cap,Value.slice ah X.heap.length ch,Value.int .i64 X.ez] 26)).alloc (Obj.cells #[Value.string m.name,Value.int .i64 m.args,Value.int .i64 m.temps,Value.int .i64 m.prim,Value.slice am m.code.length cm] 51)).alloc (Obj.cells #[Value.int .i64 0,Value.int .i64 0] 90)).heap[w.heap.size+1+1]?=some (.cells #[Value.int .i64 0,Value.int .i64 0] 90 (0,0)):=xaR _ _ _ (by simp)
 refine (xg8 X c m _ _ _ _ _ _ _ hby hcb hmn).mono ?_;rintro e w1 ⟨rfl,hb⟩;replace hb3:=xaf hb3 hb;replace mb:=xaa mb hb;replace wb:=xaa wb hb;replace rb:=xaa rb hb;clear hb
 by_cases h1:wmE X.cz.length c m=0
 ·obtain⟨ha,ht,hn1,hn2,-,-⟩:=xiN h1;rw[h1];have HCE2:Hid (R=match xkV (xfq (xaS X.cz c) X.cz.length m) 0 m.code with | some f=>f | none=>(xaN m.code).2):=by show _=_;rw[HCE.out,if_neg (by simp[h1])]
  have mc1:w1.cell? ⟨w.heap.size+1,4,none⟩=some (.slice am m.code.length cm):=by rw[qzB mb];rfl
  go_wp2;clear mc1
  go_loopg [24] m.code.length (fun g i wr=>∃ j:Nat,j+g=m.code.length/\i=.int .i64 j/\Below w1.heap.size w1 wr/\(∀ i x,i<j->m.code[i]?=some x->xfq (xaS X.cz c) X.cz.length m x=0))
  case atStart=>exact⟨0,by omega,rfl,Below.refl _ _,fun i x h=>by omega⟩
  case round=>
   obtain⟨j,hg,rfl,hbr,hD⟩:=hrel;have HD:Hid (∀ i x,i<j->m.code[i]?=some x->xfq (xaS X.cz c) X.cz.length m x=0):=hD;clear hD;have hB:=xaf hb3 hbr
   by_cases hj:j<m.code.length
   ·have hj1:(j:Int)<(m.code.length:Int):=by omega
    have hj0:(0:Int)<=(j:Int):=by omega
    obtain⟨x,hx⟩:∃ x,m.code[j]?=some x:=⟨_,List.getElem?_eq_getElem hj⟩;obtain⟨b,o,rfl,-,v0,v1,v2,v3,v4,hxn⟩:=hrow j x hx;simp only[Nat.add_zero] at v0;replace v0:=qzA hB v0;replace v1:=qzA hB v1;replace v2:=qzA hB v2;replace v3:=qzA hB v3;replace v4:=qzA hB v4;have HX:Hid (m.code[j]?=some x):=hx;clear hx;have hb4:=xai wr (Obj.cells #[Value.int .i64 x.op,Value.int .i64 x.a,Value.int .i64 x.b,Value.int .i64 x.c,Value.string x.name] 69);have wc:∀ z q,(wr.alloc z).cell? ⟨w.heap.size,q,none⟩=(#[Value.slice ad X.cz.length cap,Value.slice ah X.heap.length ch,Value.int .i64 X.ez]:Array Value)[q]?:=fun z q=>by rw[qzB (xaa wb (xaf hbr (xai wr z)))]
    have mc:∀ z q,(wr.alloc z).cell? ⟨w.heap.size+1,q,none⟩=(#[Value.string m.name,Value.int .i64 m.args,Value.int .i64 m.temps,Value.int .i64 m.prim,Value.slice (some ⟨b,o,none⟩) m.code.length cm]:Array Value)[q]?:=fun z q=>by rw[qzB (xaa mb (xaf hbr (xai wr z)))]
    go_wp2_with fail;refine (xhB X c m x _ _ _ _ (hh.later xax (xaf hB hb4)) (hH.later xaB (xaf hB hb4)) (hM.later xaU (xaf hB hb4)) ha ht hxn).mono ?_;rintro e w2 ⟨rfl,hb⟩;have hb5:=xaf (xaf hbr hb4) hb;clear wc mc v0 v1 v2 v3 v4
    by_cases h2:xfq (xaS X.cz c) X.cz.length m x=0
    ·rw[h2];go_wp2
     go_roundg (gk-1)
     case measure=>omega
     case rel=>
      refine⟨j+1,by omega,by go_num,hb5,fun i y h hy=>?_⟩
      by_cases hij:i=j
      ·subst hij;rw[HX.out] at hy
       cases hy
       exact h2
      ·exact HD.out i y (by omega) hy
    ·have h2':(xfq (xaS X.cz c) X.cz.length m x != 0)=true:=by simpa using h2
     have HR:Hid (R=(xfq (xaS X.cz c) X.cz.length m x,(j:Int))):=by
      show _=_
      rw[HCE2.out,xoT (k:=0) HX.out h2 HD.out]
      simp
     obtain⟨rc,rf⟩:=xsF (xaa rb hb5);go_wp2;refine bodyPost_ret (v:=FV (xfq (xaS X.cz c) X.cz.length m x,(j:Int))) ?_ rfl ⟨by rw[HR.out],?_⟩
     ·simp[results,Tryz.results79,go_sem,rc,rf]
     ·exact ((xaf hb3 hb5).setCell (by simp;omega) _).setCell (by simp;omega) _
   ·obtain rfl:j=m.code.length:=by omega
    have hall:∀ (i:Nat) y,m.code[i]?=some y->xfq (xaS X.cz c) X.cz.length m y=0:=fun i y hy=>HD.out i y (xad hy) hy
    have HR:Hid (R=(xaN m.code).2):=by show _=_;rw[HCE2.out,xgs hall]
    have hso:xdb m.code:=fun x hx=>by
     obtain⟨i,hi,rfl⟩:=List.mem_iff_getElem.1 hx
     exact xeU (hall i _ (List.getElem?_eq_getElem hi))
    have mc:∀ q,wr.cell? ⟨w.heap.size+1,q,none⟩=(#[Value.string m.name,Value.int .i64 m.args,Value.int .i64 m.temps,Value.int .i64 m.prim,Value.slice am m.code.length cm]:Array Value)[q]?:=fun q=>by rw[qzB (xaa mb hbr)]
    have hj1:(m.code.length:Int)<=(m.code.length:Int):=by omega
    go_wp2_with fail;refine (xiR m _ _ (hM.later xaU hB) hso).mono ?_;rintro e w2 ⟨a,n,k,rfl,hb⟩;have hz:w.heap.size+1+1<w2.heap.size:=xam (xaa rb (xaf hbr hb));have rc:∀ z q,(w2.alloc z).cell? ⟨w.heap.size+1+1,q,none⟩=(#[Value.int .i64 0,.int .i64 0]:Array Value)[q]?:=fun z q=>by rw[qzB (xaa rb (xaf (xaf hbr hb) (xai w2 z)))]
    have rf:∀ z q,(w2.alloc z).frozen? ⟨w.heap.size+1+1,q,none⟩=false:=fun z q=>by unfold World.frozen?;simp[xaa rb (xaf (xaf hbr hb) (xai w2 z))]
    generalize (xaN m.code).2=F at *;obtain⟨f1,f2⟩:=F;obtain⟨rc2,rf2⟩:=xsF (xaa rb (xaf hbr hb));obtain⟨sc0,sc1⟩:=xmL (xaa rb (xaf hbr hb)) (.int .i64 f1) (.int .i64 f2) (Obj.cells #[Value.int .i64 f1,Value.int .i64 f2] 90);have hne:¬ w2.heap.size=w.heap.size+1+1:=by omega
    have hne':¬ w.heap.size+1+1=w2.heap.size:=by omega
    go_wp2;refine bodyPost_ret (v:=FV (f1,f2)) ?_ rfl ⟨by rw[HR.out],?_⟩
    ·simp[results,Tryz.results79,go_sem,rc,rf,rc2,rf2,hne,hne',sc0,sc1]
    ·first
      | exact ((xaf (xaf hB hb) (xai _ _)).setCell (by simp;omega) _).setCell (by simp;omega) _
      | exact (((xaf hB hb).setCell (by simp;omega) _).setCell (by simp;omega) _).alloc (by rw[xaX,xaX];omega) _
 ·have h1':(wmE X.cz.length c m != 0)=true:=by simpa using h1
  have HR:Hid (R=(wmE X.cz.length c m,0)):=by show _=_;rw[HCE.out,if_pos h1]
  obtain⟨rc,rf⟩:=xsF rb;go_wp2;refine bodyPost_ret (v:=FV (wmE X.cz.length c m,0)) ?_ rfl ⟨by rw[HR.out],?_⟩
  ·simp[results,Tryz.results79,go_sem,rc,rf]
  ·exact (hb3.setCell (by simp;omega) _).setCell (by simp;omega) _
end Go.Proofs.YtbafokihegegiaaGreatDoor
