/- A part. -/
import Derived.Test.YtbafokihegegiaaGreatDoorU4
namespace Go.Proofs.YtbafokihegegiaaGreatDoor
open Go.ChangeShapes Go.WideShapes Go.ChangeAt Go.RowKit
set_option linter.unusedSimpArgs false
set_option linter.unusedVariables false
set_option maxHeartbeats 8000000
set_option maxRecDepth 8000
theorem xru:(Tryz.prog.info? 209).map (λi=>(i.zero,i.size,i.bytes))=some (some (.agg #[J 0,J 0]),2,16):=by kernel_rfl
structure LeQ (w:qW)(base bl:Nat)(v:Value)(q:List (Int × Int)):Prop where
 box:w.heap[bl]?=some (qC #[v] 207 (0,0))
 own:ownsAt w base 209 2 v q.length (FD q)
 lt:bl<base
theorem LeQ.later {w w':qW}{base bl:Nat}{v:Value}{q:List (Int × Int)}(h:LeQ w base bl v q)(a:qY w w'):LeQ w' base bl v q:=
 ⟨by rw[a.block _ (By h.box)];exact h.box,h.own.keep λg b=>a.block _ (h.own.lt g b).2,h.lt⟩
theorem xjJ (tt ht:Int)(bl base:Nat)(v:Value)(q:List (Int × Int))(w:qW)(k:LeQ w base bl v q)(i:base<=w.heap.size)(j:q.length<=8000000000000) :
  Calls Tryz.prog 132 #[J tt,J ht,qP bl] w λe w'=>e=.returned (.tuple #[])/\∃v',LeQ w' base bl v' (q++[(tt,ht)])/\LedF w w' bl v v':=by
 obtain⟨a,cap,rfl,D,F⟩:=k.own.form;have c0:=cell_of_one k.box;have m:=k.lt;have o:=By k.box;have l:=k.own;have n:=free_of_one k.box;go_enter Tryz.func132,Tryz.ntmps132;go_wp2_with (at_builtin;refine Pv rfl (.tmp 5) (.tmp 9) 207 209 _ 2 16 rfl Tryz.underlying207 xru rfl (by decide) base q.length (qS a q.length cap) (FD q) rfl (l.alloc _) w.heap.size rfl [J tt,J ht] rfl (Dh _ _ _ rfl) (by intro u s;simp at s;rcases s with rfl | rfl<;>rfl) (by unfold maxLen;omega) (by omega) (by simp;omega) ?_;intro a' cap' w2 c h d f;have y:w2.cell? (O bl 0)=some (qS a q.length cap):=((d.cell (by simp;omega)).trans (Bf (Bg _ _) c0));have B:w2.frozen? (O bl 0)=false:=((d.frozen (by simp;omega)).trans (((Bg _ _).frozen (by simp;omega)).trans n)));go_end0;have p:w2.heap[bl]?=some (qC #[qS a q.length cap] 207 (0,0)):=by rw[d.block _ m,(Bg _ _).block _ (by simpa using o)];exact k.box
 refine⟨rfl,_,⟨one_setCell p,?_,m⟩,?_,λb z C t=>?_,?_⟩
 ·rw[List.length_append,xfl];exact c.keep λg r=>BS (by have:=(c.lt g r).1;omega) _
 ·exact (((Bg w _).mono (by omega)).trans (d.mono (by omega))).setCell (by show bl<=bl;exact Bq _) _
 ·rw[BS C,f b (by simp;omega) t,(Bg _ _).block _ (by simpa using z)]
 rcases h with e | ⟨g,e,r⟩
 ·exact Or.inl e
 exact Or.inr ⟨g,e,by simp at r;omega⟩
theorem xeX (tt ht:Int)(bl base bf bh:Nat)(v:Value)(q:List (Int × Int))(w:qW)(c:LeQ w base bl v q)(a:base<=w.heap.size)(b:q.length<=8000000000000)(d:w.cell? (O bf 0)=some (.func (.func 132) #[] #[qP bl]))(f:w.cell? (O bh 0)=some (J ht)) :
  Calls Tryz.prog 187 #[J tt,qP bf,qP bh] w λe w'=>e=.returned (.tuple #[])/\∃v',LeQ w' base bl v' (q++[(tt,ht)])/\LedF w w' bl v v':=by
 go_enter Tryz.func187,Tryz.ntmps187;go_wp2_with fail;refine (xjJ tt ht bl base v q w c a b).mono ?_;rintro e w1 ⟨rfl,h⟩;go_wp2;go_end0;exact⟨rfl,h⟩
theorem xot (x:QI)(p ht:Int)(bl base bf bh:Nat)(v:Value)(q:List (Int × Int))(w:qW)(m:LeQ w base bl v q)(c:base<=w.heap.size)(d:q.length+2<=8000000000000)(o:w.heap[bf]?=some (qC #[.func (.func 132) #[] #[qP bl]] 210 (0,0)))(u:w.heap[bh]?=some (qC #[J ht] 3 (0,0)))(a:bf≠bl/\some bf≠v.ownBlock)(b:bh≠bl/\some bh≠v.ownBlock)(L:IntKind.i64.wrap (p+1)=p+1) :
  Calls Tryz.prog 186 #[IV x,J p,.func (.func 187) #[] #[qP bf,qP bh]] w λe w'=>e=.returned (.tuple #[])/\∃v',LeQ w' base bl v' (q++(Cb x p).next.map λt=>(t,ht))/\LedF w w' bl v v':=by
 obtain⟨op,xa,xb,xc,nm⟩:=x;have f:=Bg w (qC #[J op,J xa,J xb,J xc,qZ nm] 69);have g:=m.later f;have h:=LedF.of_below bl v f (by have:=m.lt;omega);have k:=cell_of_one (Bs o f);have j:=cell_of_one (Bs u f);have D:∀q,(w.alloc (qC #[J op,J xa,J xb,J xc,qZ nm] 69)).cell? (O w.heap.size q)=(#[J op,J xa,J xb,J xc,qZ nm]:Array Value)[q]?:=λq=>Bp _ _ _ _ rfl q;have n:=Dh w (qC #[J op,J xa,J xb,J xc,qZ nm] 69) _ rfl;have G:=m.lt;have s:some w.heap.size≠v.ownBlock:=λe=>by have:=(m.own.lt _ e.symm).2;omega
 go_enter Tryz.func186,Tryz.ntmps186;by_cases h17:op=17
 ·subst h17;go_wp2;go_end0;exact⟨rfl,v,by simpa [Cb] using g,h⟩
 by_cases h15:op=15
 ·subst h15;go_wp2_with fail;refine (xeX xa ht bl base bf bh v q _ g (by simp;omega) (by omega) k j).mono ?_;rintro e w1 ⟨rfl,v',l,i⟩;go_wp2;go_end0;exact⟨rfl,v',by simpa [Cb] using l,h.trans i⟩
 by_cases h16:op=16
 ·subst h16;go_wp2_with fail;refine (xeX (p+1) ht bl base bf bh v q _ g (by simp;omega) (by omega) k j).mono ?_;rintro e w1 ⟨rfl,v',l,i⟩;have B:w1.heap[w.heap.size]?=_:=(i.blk w.heap.size (by simp) (by omega) s).trans n;have C:∀q,w1.cell? (O w.heap.size q)=(#[J 16,J xa,J xb,J xc,qZ nm]:Array Value)[q]?:=λq=>by rw[Bn B]
  have y:=cell_of_one ((i.blk bf (By (Bs o f)) a.1 a.2).trans (Bs o f));have r:=cell_of_one ((i.blk bh (By (Bs u f)) b.1 b.2).trans (Bs u f));have z:=i.bel.size;simp at z;go_wp2_with fail;refine (xeX xa ht bl base bf bh v' _ _ l (by omega) (by simp;omega) y r).mono ?_;rintro e w2 ⟨rfl,v2,K,H⟩;go_wp2;go_end0;exact⟨rfl,v2,by simpa [Cb] using K,(h.trans i).trans H⟩
 have F:(Cb ⟨op,xa,xb,xc,nm⟩ p).next=[p+1]:=by
  unfold Cb;simp only[h15,h16,h17,if_false]
  (repeat' split)<;>rfl
 go_wp2_with fail;refine (xeX (p+1) ht bl base bf bh v q _ g (by simp;omega) (by omega) k j).mono ?_;rintro e w1 ⟨rfl,v',l,i⟩;go_wp2;go_end0;refine⟨rfl,v',?_,h.trans i⟩;rw[F];exact l
theorem xmc (x:QI)(p:Int)(w:qW)(c:x.op=14->0<=x.a/\x.a<=4):Calls Tryz.prog 225 #[IV x] w λe w'=>e=.returned (.tuple #[J (Cb x p).need,J ((Cb x p).need+(Cb x p).more)])/\qY w w':=by
 obtain⟨op,xa,xb,xc,nm⟩:=x;simp only at c;go_enter Tryz.func225,Tryz.ntmps225;by_cases b:op=9\/op=11\/op=12
 ·rcases b with rfl | rfl | rfl
  all_goals
   go_wp2;refine Bt (v:=.tuple #[J 1,J 0]) (by simp[results,Tryz.results225,go_sem]) rfl ⟨by simp[Cb],Bg _ _⟩
 by_cases h2:op=16
 ·subst h2;go_wp2;refine Bt (v:=.tuple #[J 1,J 0]) (by simp[results,Tryz.results225,go_sem]) rfl ⟨by simp[Cb],Bg _ _⟩
 by_cases h3:op=17
 ·subst h3;go_wp2;refine Bt (v:=.tuple #[J 1,J 0]) (by simp[results,Tryz.results225,go_sem]) rfl ⟨by simp[Cb],Bg _ _⟩
 by_cases h4:op=10
 ·subst h4;go_wp2;refine Bt (v:=.tuple #[J 1,J 2]) (by simp[results,Tryz.results225,go_sem]) rfl ⟨by simp[Cb],Bg _ _⟩
 by_cases h5:op=14
 ·subst h5;obtain⟨q1,q2⟩:=c rfl;go_wp2;refine Bt (v:=.tuple #[J (xa+1),J 1]) (by simp[results,Tryz.results225,go_sem]) rfl ⟨?_,Bg _ _⟩;simp[Cb];omega
 by_cases h6:op=15
 ·subst h6;go_wp2;refine Bt (v:=.tuple #[J 0,J 0]) (by simp[results,Tryz.results225,go_sem]) rfl ⟨by simp[Cb],Bg _ _⟩
 have n1:¬ op=9:=λh=>b (Or.inl h);have n2:¬ op=11:=λh=>b (Or.inr (Or.inl h));have n3:¬ op=12:=λh=>b (Or.inr (Or.inr h));go_wp2;refine Bt (v:=.tuple #[J 0,J 1]) (by simp[results,Tryz.results225,go_sem]) rfl ⟨by simp[Cb,h2,h3,h4,h5,h6,n1,n2,n3],Bg _ _⟩
theorem xj1 (x:QI)(p n:Int)(w:qW)(i:x.op=14->0<=x.a/\x.a<=4)(s:0<=n/\n<=12):Calls Tryz.prog 185 #[IV x,J n] w λe w'=>e=.returned (.tuple #[J (GQ x p n).1,J (GQ x p n).2])/\qY w w':=by
 obtain⟨r1,r2,r3,r4,r5,-⟩:=xeC i p;have g:=xmc x p (w.alloc (qE x)) i;have d:Hid (GQ x p n=if n<(Cb x p).need\/x.op=17/\n≠1 then (0,8) else if 12<n+(Cb x p).more then (0,4) else (n+(Cb x p).more,0)):=rfl;generalize GQ x p n=r at *;generalize o:Cb x p=N at *;obtain⟨need,more,next⟩:=N;simp only at r1 r2 r3 r4 r5 g d;clear o;have k:IntKind.i64.wrap (n-need)=n-need:=CM (by omega) (by omega);have m:IntKind.i64.wrap (n-need+(need+more))=n+more:=by rw[show n-need+(need+more)=n+more by omega];exact CM (by omega) (by omega)
 go_enter Tryz.func185,Tryz.ntmps185;go_wp2_with fail;refine g.mono ?_;rintro e w1 ⟨rfl,h⟩;have j:w1.cell? (O w.heap.size 0)=some (J x.op):=Bf h (by rw[Bp _ _ _ _ rfl];rfl);have f:=Bh (Bg _ _) h;clear h g;by_cases h1:n<need
 ·go_wp2;refine Bt (v:=.tuple #[J 0,J 8]) (by simp[results,Tryz.results185,go_sem]) rfl ⟨?_,f⟩;rw[d.out,if_pos (Or.inl h1)]
 have q:decide (n<need)=false:=by simpa using h1
 by_cases h2:x.op=17
 ·by_cases h3:n=1
  ·subst h3;by_cases h4:12<1+more
   ·omega
   go_wp2;refine Bt (v:=.tuple #[J (1+more),J 0]) (by simp[results,Tryz.results185,go_sem]) rfl ⟨?_,f⟩;rw[d.out,if_neg (by omega),if_neg (by omega)]
  have l:(n != 1)=true:=by simpa using h3
  go_wp2;refine Bt (v:=.tuple #[J 0,J 8]) (by simp[results,Tryz.results185,go_sem]) rfl ⟨?_,f⟩;rw[d.out,if_pos (Or.inr ⟨h2,h3⟩)]
 by_cases h4:12<n+more
 ·go_wp2;refine Bt (v:=.tuple #[J 0,J 4]) (by simp[results,Tryz.results185,go_sem]) rfl ⟨?_,f⟩;rw[d.out,if_neg (by omega),if_pos h4]
 go_wp2;refine Bt (v:=.tuple #[J (n+more),J 0]) (by simp[results,Tryz.results185,go_sem]) rfl ⟨?_,f⟩;rw[d.out,if_neg (by omega),if_neg (by omega)]
theorem xhG (code:List QI)(cv:Value)(h:List Int)(p n:Int)(q:List (Int × Int))(lo gh bl base:Nat)(v:Value)(w:qW)
  (hc:Cm (λb=>b<lo) w cv code) (hs:Lr code) (hg:w.heap[gh]?=some (xew h)) (hl:h.length=code.length) (hn:0<=n/\n<=12) (T:LeQ w base bl v q) (hq:q.length+2<=8000000000000)
  (h1:lo<=gh) (h2:lo<=bl) (h3:gh<base) (h4:gh≠bl) (h5:base<=w.heap.size) :
  Calls Tryz.prog 133 #[cv,qG gh code.length code.length,.agg #[J p,J n],.func (.func 132) #[] #[qP bl]] w λe w'=>
   match Ff code h (p,n) with
   | .inl f=>e=.returned (FV f)/\Below lo w w'/\(∀b,b<w.heap.size->b≠gh->w'.heap[b]?=w.heap[b]?)
   | .inr (h',new)=>e=.returned (FV (0,0))/\∃v',LeQ w' base bl v' (q++new)/\w'.heap[gh]?=some (xew h')/\ArrF w w' lo bl gh v v':=by
 obtain⟨ad,cap,rfl,s,o,r,m⟩:=id hc;unfold maxLen at o;have ag:=By hg;have aa:=T.lt;have G:=DW w (qC #[J p,J n] 209) (qC #[.func (.func 132) #[] #[qP bl]] 210) (qC #[J 0,J 0] 90);have R:=Bs hg G;have D:=T.later G;go_enter Tryz.func133,Tryz.ntmps133
 cases hx:LK code p with
 | none=>
  have C:Ff code h (p,n)=.inl (9,(code.length:Int)):=by unfold Ff;simp only[hx]
  rw[C];rw[xj3] at hx;by_cases hp:p<0
  ·go_wp2;refine Bt (v:=FV (9,code.length)) ?_ rfl ⟨rfl,?_,λb K _=>(DW _ _ _ _).block b K⟩
   ·simp[results,Tryz.results133,go_sem]
   exact (DW _ _ _ _).mono (by omega)
  have ab:decide (p<0)=false:=by simpa using hp
  have af:(code.length:Int)<=p:=by omega
  go_wp2;refine Bt (v:=FV (9,code.length)) ?_ rfl ⟨rfl,?_,λb K _=>(DW _ _ _ _).block b K⟩
  ·simp[results,Tryz.results133,go_sem]
  exact (DW _ _ _ _).mono (by omega)
 | some x=>
  obtain⟨k,rfl,l⟩:=xdW hx;have hk:=Bz l;have ah:(0:Int)<=(k:Int):=by omega
  have ae:(k:Int)<(code.length:Int):=by omega
  have H:=xfj R (k:=k) (by omega);have Q:=xe2 R k;have a1:=hs x (List.mem_of_getElem? l);obtain⟨bc,oc,rfl,d,i0,i1,i2,i3,i4,-⟩:=m k x l;simp only[Nat.add_zero] at i0;obtain⟨u,hu⟩:∃u,u=h.getD k 0:=⟨_,rfl⟩
  have L:Hid (Ff code h ((k:Int),n)=if 0<=u then (if u≠n then .inl (8,(k:Int)) else .inr (h,[])) else if n<(Cb x k).need\/x.op=17/\n≠1 then .inl (8,(k:Int)) else if 12<n+(Cb x k).more then .inl (4,(k:Int)) else .inr (h.set k n,(Cb x k).next.map λt=>(t,n+(Cb x k).more))):=by
   show _=_;unfold Ff;simp only[hx,Int.toNat_natCast];rw[← hu]
  rw[← hu] at H;clear hu hx;by_cases hv0:0<=u
  ·by_cases hv1:u=n
   ·have C:Ff code h ((k:Int),n)=.inr (h,[]):=by rw[L.out,if_pos hv0,if_neg (by simpa using hv1)]
    rw[C];subst hv1;go_wp2;refine Bt (v:=FV (0,0)) ?_ rfl ⟨rfl,v,by simpa using D,R,G.mono (by omega),λb K _ _ _=>G.block b K,Or.inl rfl⟩;simp[results,Tryz.results133,go_sem]
   have C:Ff code h ((k:Int),n)=.inl (8,(k:Int)):=by rw[L.out,if_pos hv0,if_pos hv1]
   rw[C];have a7:(u != n)=true:=by simpa using hv1
   go_wp2;refine Bt (v:=FV (8,(k:Int))) ?_ rfl ⟨rfl,(DW _ _ _ _).mono (by omega),λb K _=>(DW _ _ _ _).block b K⟩;simp[results,Tryz.results133,go_sem]
  have a8:decide (0<=u)=false:=by simpa using hv0
  have S:Hid (Ff code h ((k:Int),n)=if (GQ x k n).2≠0 then .inl ((GQ x k n).2,(k:Int)) else .inr (h.set k n,(Cb x k).next.map λt=>(t,(GQ x k n).1))):=by
   show _=_;rw[L.out,if_neg hv0];unfold GQ
   (repeat' split)<;>simp_all
  clear L;by_cases her:(GQ x k n).2=0
  ·have C:Ff code h ((k:Int),n)=.inr (h.set k n,(Cb x k).next.map λt=>(t,(GQ x k n).1)):=by rw[S.out,if_neg (by simpa using her)]
   rw[C];clear S C;have Z:=Ql R k n;have B:Below lo w ((((w.alloc (qC #[J (k:Int),J n] 209)).alloc (qC #[.func (.func 132) #[] #[qP bl]] 210)).alloc (qC #[J 0,J 0] 90)).setCell (O gh k) (J n)):=(G.mono (by omega)).setCell h1 _;have X:∀b,b<w.heap.size->b≠gh->((((w.alloc (qC #[J (k:Int),J n] 209)).alloc (qC #[.func (.func 132) #[] #[qP bl]] 210)).alloc (qC #[J 0,J 0] 90)).setCell (O gh k) (J n)).heap[b]?=w.heap[b]?:=λb K M=>(BS M _).trans (G.block b K);have j0:=(B.cell (p:=(O bc (oc+k*5))) d).trans i0;have j1:=(B.cell (p:=(O bc (oc+k*5+1))) d).trans i1;have j2:=(B.cell (p:=(O bc (oc+k*5+2))) d).trans i2;have j3:=(B.cell (p:=(O bc (oc+k*5+3))) d).trans i3;have j4:=(B.cell (p:=(O bc (oc+k*5+4))) d).trans i4;go_wp2_with fail
   have a0:LeQ ((((w.alloc (qC #[J (k:Int),J n] 209)).alloc (qC #[.func (.func 132) #[] #[qP bl]] 210)).alloc (qC #[J 0,J 0] 90)).setCell (O gh k) (J n)) base bl v q:=
    ⟨(BS (Ne.symm h4) _).trans D.box,D.own.keep λg F=>BS (by have:=(D.own.lt g F).1;omega) _,D.lt⟩
   have fb:((((w.alloc (qC #[J (k:Int),J n] 209)).alloc (qC #[.func (.func 132) #[] #[qP bl]] 210)).alloc (qC #[J 0,J 0] 90)).setCell (O gh k) (J n)).heap[w.heap.size+1]?=some (qC #[.func (.func 132) #[] #[qP bl]] 210 (0,0)):=(BS (by omega) _).trans (((Bg _ _).block _ (by simp)).trans (Dh _ _ _ (by simp)));have pb:((((w.alloc (qC #[J (k:Int),J n] 209)).alloc (qC #[.func (.func 132) #[] #[qP bl]] 210)).alloc (qC #[J 0,J 0] 90)).setCell (O gh k) (J n)).heap[w.heap.size]?=some (qC #[J (k:Int),J n] 209 (0,0)):=(BS (by omega) _).trans (((BG _ _ _).block _ (by simp)).trans (Dh _ _ _ rfl));have rb:((((w.alloc (qC #[J (k:Int),J n] 209)).alloc (qC #[.func (.func 132) #[] #[qP bl]] 210)).alloc (qC #[J 0,J 0] 90)).setCell (O gh k) (J n)).heap[w.heap.size+1+1]?=some (qC #[J 0,J 0] 90 (0,0)):=(BS (by omega) _).trans (Dh _ _ _ (by simp));have U:((((w.alloc (qC #[J (k:Int),J n] 209)).alloc (qC #[.func (.func 132) #[] #[qP bl]] 210)).alloc (qC #[J 0,J 0] 90)).setCell (O gh k) (J n)).heap.size=w.heap.size+3:=by rw[GT];simp
   clear i0 i1 i2 i3 i4 j0 j1 j2 j3 j4 H Q;generalize ((((w.alloc (qC #[J (k:Int),J n] 209)).alloc (qC #[.func (.func 132) #[] #[qP bl]] 210)).alloc (qC #[J 0,J 0] 90)).setCell (O gh k) (J n))=W at *;have Y:=Bg W (qE x);have xb:=Dh W (qE x) (w.heap.size+1+1+1) (by rw[U]);refine (xj1 x k n _ a1 hn).mono ?_;rintro e w6 ⟨rfl,y⟩;replace xb:=Bs xb y;replace y:=Bh Y y;have a3:=y.size;have pc:∀z q,(w6.alloc z).cell? (O w.heap.size q)=(#[J (k:Int),J n]:Array Value)[q]?:=λz q=>by rw[(Bg w6 z).cell (p:=(O w.heap.size q)) (by show w.heap.size<w6.heap.size;omega),Bn (Bs pb y)]
   have rc:∀z q,(w6.alloc z).cell? (O (w.heap.size+1+1) q)=(#[J 0,J 0]:Array Value)[q]?:=λz q=>by rw[(Bg w6 z).cell (p:=(O (w.heap.size+1+1) q)) (by show w.heap.size+1+1<w6.heap.size;omega),Bn (Bs rb y)]
   have rf:∀z q,(w6.alloc z).frozen? (O (w.heap.size+1+1) q)=false:=λz q=>by rw[(Bg w6 z).frozen (p:=(O (w.heap.size+1+1) q)) (by show w.heap.size+1+1<w6.heap.size;omega)];unfold World.frozen?;simp[Bs rb y]
   have xc:∀z q,(w6.alloc z).cell? (O (w.heap.size+1+1+1) q)=(#[J x.op,J x.a,J x.b,J x.c,qZ x.name]:Array Value)[q]?:=λz q=>by rw[(Bg w6 z).cell (p:=(O (w.heap.size+1+1+1) q)) (By xb),Bn xb]
   rw[her];have a9:=Gm;have N:=Bg w6 (qC #[J (GQ x k n).1] 3);go_wp2_with fail;have a4:=a0.later (Bh y N);refine (xot x k (GQ x k n).1 bl base (w.heap.size+1) w6.heap.size v q _ a4 (by simp;omega) hq (Bs fb (Bh y N)) (Dh _ _ _ rfl) ⟨by omega,λe=>by have:=(T.own.lt _ e.symm).2;omega⟩ ⟨by omega,λe=>by have:=(T.own.lt _ e.symm).2;omega⟩ (CM (by omega) (by omega))).mono ?_;rintro e w8 ⟨rfl,v',j,i⟩;have rb8:w8.heap[w.heap.size+1+1]?=_:=(i.blk (w.heap.size+1+1) (by simp;omega) (by omega) (λe=>by have:=(T.own.lt _ e.symm).2;omega)).trans (Bs rb (Bh y N));have rc8:∀q,w8.cell? (O (w.heap.size+1+1) q)=(#[J 0,J 0]:Array Value)[q]?:=λq=>by rw[Bn rb8]
   have rf8:∀q,w8.frozen? (O (w.heap.size+1+1) q)=false:=λq=>by unfold World.frozen?;simp[rb8]
   have a5:w8.heap[gh]?=some (xew (h.set k n)):=(i.blk gh (by simp;omega) h4 (λe=>by have:=(T.own.lt _ e.symm).1;omega)).trans (Bs Z (Bh y N));have a2:=i.bel.size;simp at a2;go_wp2;refine Bt (v:=FV (0,0)) ?_ rfl ⟨rfl,v',⟨?_,?_,j.lt⟩,?_,?_,λb K e1 e2 e3=>?_,?_⟩
   ·simp[results,Tryz.results133,go_sem,rc8,rf8]
   ·rw[BS (by omega),BS (by omega)];exact j.box
   ·refine j.own.keep λg F=>?_
    have M:g≠w.heap.size+1+1:=by
     rcases i.own with e | ⟨g1,e,V⟩
     ·rw[e] at F;have:=(T.own.lt g F).2;omega
     rw[e] at F
     cases F;simp at V;omega
    rw[BS M,BS M]
   ·rw[BS (by omega),BS (by omega)];exact a5
   ·exact (((B.trans ((Bh y N).mono (by omega))).trans (i.bel.mono h2)).setCell (by show lo<=w.heap.size+1+1;omega) _).setCell (by show lo<=w.heap.size+1+1;omega) _
   ·rw[BS (by omega),BS (by omega),i.blk b (by simp;omega) e1 e3,(Bh y N).block b (by omega),X b K e2]
   rcases i.own with e | ⟨g1,e,V⟩
   ·exact Or.inl e
   exact Or.inr ⟨g1,e,by simp at V;omega⟩
  have C:Ff code h ((k:Int),n)=.inl ((GQ x k n).2,(k:Int)):=by rw[S.out,if_pos her]
  rw[C];clear S C;have Z:=Ql R k n;have B:Below lo w ((((w.alloc (qC #[J (k:Int),J n] 209)).alloc (qC #[.func (.func 132) #[] #[qP bl]] 210)).alloc (qC #[J 0,J 0] 90)).setCell (O gh k) (J n)):=(G.mono (by omega)).setCell h1 _;have X:∀b,b<w.heap.size->b≠gh->((((w.alloc (qC #[J (k:Int),J n] 209)).alloc (qC #[.func (.func 132) #[] #[qP bl]] 210)).alloc (qC #[J 0,J 0] 90)).setCell (O gh k) (J n)).heap[b]?=w.heap[b]?:=λb K M=>(BS M _).trans (G.block b K);have j0:=(B.cell (p:=(O bc (oc+k*5))) d).trans i0;have j1:=(B.cell (p:=(O bc (oc+k*5+1))) d).trans i1;have j2:=(B.cell (p:=(O bc (oc+k*5+2))) d).trans i2;have j3:=(B.cell (p:=(O bc (oc+k*5+3))) d).trans i3;have j4:=(B.cell (p:=(O bc (oc+k*5+4))) d).trans i4;go_wp2_with fail
  have a0:LeQ ((((w.alloc (qC #[J (k:Int),J n] 209)).alloc (qC #[.func (.func 132) #[] #[qP bl]] 210)).alloc (qC #[J 0,J 0] 90)).setCell (O gh k) (J n)) base bl v q:=
   ⟨(BS (Ne.symm h4) _).trans D.box,D.own.keep λg F=>BS (by have:=(D.own.lt g F).1;omega) _,D.lt⟩
  have fb:((((w.alloc (qC #[J (k:Int),J n] 209)).alloc (qC #[.func (.func 132) #[] #[qP bl]] 210)).alloc (qC #[J 0,J 0] 90)).setCell (O gh k) (J n)).heap[w.heap.size+1]?=some (qC #[.func (.func 132) #[] #[qP bl]] 210 (0,0)):=(BS (by omega) _).trans (((Bg _ _).block _ (by simp)).trans (Dh _ _ _ (by simp)));have pb:((((w.alloc (qC #[J (k:Int),J n] 209)).alloc (qC #[.func (.func 132) #[] #[qP bl]] 210)).alloc (qC #[J 0,J 0] 90)).setCell (O gh k) (J n)).heap[w.heap.size]?=some (qC #[J (k:Int),J n] 209 (0,0)):=(BS (by omega) _).trans (((BG _ _ _).block _ (by simp)).trans (Dh _ _ _ rfl));have rb:((((w.alloc (qC #[J (k:Int),J n] 209)).alloc (qC #[.func (.func 132) #[] #[qP bl]] 210)).alloc (qC #[J 0,J 0] 90)).setCell (O gh k) (J n)).heap[w.heap.size+1+1]?=some (qC #[J 0,J 0] 90 (0,0)):=(BS (by omega) _).trans (Dh _ _ _ (by simp));have U:((((w.alloc (qC #[J (k:Int),J n] 209)).alloc (qC #[.func (.func 132) #[] #[qP bl]] 210)).alloc (qC #[J 0,J 0] 90)).setCell (O gh k) (J n)).heap.size=w.heap.size+3:=by rw[GT];simp
  clear i0 i1 i2 i3 i4 j0 j1 j2 j3 j4 H Q;generalize ((((w.alloc (qC #[J (k:Int),J n] 209)).alloc (qC #[.func (.func 132) #[] #[qP bl]] 210)).alloc (qC #[J 0,J 0] 90)).setCell (O gh k) (J n))=W at *;have Y:=Bg W (qE x);have xb:=Dh W (qE x) (w.heap.size+1+1+1) (by rw[U]);refine (xj1 x k n _ a1 hn).mono ?_;rintro e w6 ⟨rfl,y⟩;replace xb:=Bs xb y;replace y:=Bh Y y;have a3:=y.size;have pc:∀z q,(w6.alloc z).cell? (O w.heap.size q)=(#[J (k:Int),J n]:Array Value)[q]?:=λz q=>by rw[(Bg w6 z).cell (p:=(O w.heap.size q)) (by show w.heap.size<w6.heap.size;omega),Bn (Bs pb y)]
  have rc:∀z q,(w6.alloc z).cell? (O (w.heap.size+1+1) q)=(#[J 0,J 0]:Array Value)[q]?:=λz q=>by rw[(Bg w6 z).cell (p:=(O (w.heap.size+1+1) q)) (by show w.heap.size+1+1<w6.heap.size;omega),Bn (Bs rb y)]
  have rf:∀z q,(w6.alloc z).frozen? (O (w.heap.size+1+1) q)=false:=λz q=>by rw[(Bg w6 z).frozen (p:=(O (w.heap.size+1+1) q)) (by show w.heap.size+1+1<w6.heap.size;omega)];unfold World.frozen?;simp[Bs rb y]
  have xc:∀z q,(w6.alloc z).cell? (O (w.heap.size+1+1+1) q)=(#[J x.op,J x.a,J x.b,J x.c,qZ x.name]:Array Value)[q]?:=λz q=>by rw[(Bg w6 z).cell (p:=(O (w.heap.size+1+1+1) q)) (By xb),Bn xb]
  have a6:((GQ x k n).2 != 0)=true:=by simpa using her
  go_wp2;refine Bt (v:=FV ((GQ x k n).2,(k:Int))) ?_ rfl ⟨rfl,?_,λb K e2=>?_⟩
  ·simp[results,Tryz.results133,go_sem,rc,rf]
  ·exact (((B.trans (y.mono (by omega))).alloc (by omega) _).setCell (by show lo<=w.heap.size+1+1;omega) _).setCell (by show lo<=w.heap.size+1+1;omega) _
  rw[BS (by omega),BS (by omega),(Bg _ _).block b (by omega),y.block b (by omega),X b K e2]
theorem LeQ.cut {w:qW}{base bl:Nat}{v v':Value}{r q:List (Int × Int)}(h:LeQ w base bl v r)(z:Obj)(a:ownsAt w base 209 2 v' q.length (FD q)):LeQ ((w.alloc z).setCell (O bl 0) v') base bl v' q:=by
 refine⟨one_setCell (Bs h.box (Bg _ _)),?_,h.lt⟩;exact (a.alloc z).keep λg b=>BS (by have:=(a.lt g b).1;have:=h.lt;omega) _
theorem xlf {P:Nat->Prop}(m:QM)(mv:Value)(w:qW)(hc:Cm P w mv m.code)(hs:Lr m.code):Calls Tryz.prog 101 #[MV m mv] w λe w'=>xpV w m.code e w':=by
 obtain⟨ad,cap,rfl,N,K,M,C⟩:=id hc;unfold maxLen at K;have aq:=xgW m.code.length (by omega)
 have a8:Cm (λb=>b<w.heap.size) w (qS ad m.code.length cap) m.code:=by
  refine⟨ad,cap,rfl,N,by unfold maxLen;omega,M,λi x hx=>?_⟩;obtain⟨b,o,e1,-,e3⟩:=C i x hx;exact⟨b,o,e1,World.block_lt_of_cell? w _ e3.1,e3⟩
 clear C;go_enter Tryz.func101,Tryz.ntmps101;go_wp2;generalize a1:((w.alloc (qD m ad cap)).alloc (qC #[J 0,J 0] 90))=W0 at *;have ah:W0.heap.size=w.heap.size+1+1:=by rw[← a1];simp
 have a3:qY w W0:=by rw[← a1];exact BG _ _ _
 have mb:W0.heap[w.heap.size]?=some (qD m ad cap):=by rw[← a1,(Bg _ _).block _ (by simp)];exact Dh _ _ _ rfl
 have rb:W0.heap[w.heap.size+1]?=some (qC #[J 0,J 0] 90 (0,0)):=by rw[← a1];exact Dh _ _ _ (by simp)
 clear a1
 go_loopg [16] m.code.length (λg i wr=>∃j:Nat,j+g=m.code.length/\i=J j/\Below (w.heap.size+2) W0 wr/\wr.heap.size=w.heap.size+3/\wr.heap[w.heap.size+1+1]?=some (xew (List.replicate j (-1)++List.replicate (m.code.length-j) 0)))
 case atStart=>exact⟨0,by omega,rfl,(Bg _ _).mono (by omega),by simp[ah],by simpa using Dh W0 (xew (List.replicate m.code.length 0)) _ ah⟩
 case round=>
  obtain⟨j,hg,rfl,Y,hz,hr⟩:=hrel;by_cases hj:j<m.code.length
  ·have aa:(j:Int)<(m.code.length:Int):=by omega
   have ap:(0:Int)<=(j:Int):=by omega
   have a6:=xfj hr (k:=j) (by simp;omega);have ak:=xe2 hr j;have a4:=Ql hr j (-1);rw[xp8 hj] at a4;generalize (List.replicate j (-1:Int)++List.replicate (m.code.length-j) 0).getD j 0=u at a6;go_wp2;go_roundg (gk-1)
   case measure=>omega
   case rel=>exact⟨j+1,by omega,by go_num,Y.setCell (by show w.heap.size+2<=w.heap.size+1+1;omega) _,by rw[GT];exact hz,a4⟩
  obtain rfl:j=m.code.length:=by omega
  have ab:wr.heap[w.heap.size+1+1]?=some (xew (Lg m.code.length)):=by simpa [Lg] using hr
  clear hr;have an:=Gm;have aa:(m.code.length:Int)<=(m.code.length:Int):=by omega
  go_wp2_with fail;have ag:LeQ (wr.alloc (qC #[qN] 207)) (w.heap.size+4) (w.heap.size+3) (qN) []:=⟨Dh _ _ _ hz,⟨rfl,Or.inl ⟨rfl,rfl⟩⟩,by omega⟩
  refine (xjJ 0 0 (w.heap.size+3) (w.heap.size+4) _ [] _ ag (by simp[hz]) (by simp)).mono ?_;rintro e w1 ⟨rfl,v1,n,B⟩;have V:Below (w.heap.size+2) W0 w1:=(Y.trans ((Bg _ _).mono (by omega))).trans (B.bel.mono (by omega));have Z:w1.heap[w.heap.size+1+1]?=some (xew (Lg m.code.length)):=(B.blk (w.heap.size+1+1) (by simp[hz]) (by omega) (by simp[Value.ownBlock])).trans (Bs ab (Bg _ _));have ae:w.heap.size+4<=w1.heap.size:=by have:=B.bel.size;simp[hz] at this;omega
  clear ag B Y hz ab aa hg hj;go_wp2_with fail
  go_loopg [] (2*m.code.length+1) (λg wr=>∃(v:Value) (h:List Int) (q:List (Int × Int)),g<=2*m.code.length+1/\Gp m.code g h q=DN m.code/\HInv m.code h q/\Kl h q<=g/\LeQ wr (w.heap.size+4) (w.heap.size+3) v q/\wr.heap[w.heap.size+1+1]?=some (xew h)/\Below (w.heap.size+2) W0 wr/\w.heap.size+4<=wr.heap.size)
  case atStart=>exact⟨v1,_,[(0,0)],Bq _,rfl,HInv.start _,Nat.le_of_eq (xg0 _),n,Z,V,ae⟩
  case round=>
   obtain⟨v,h,q,S,hR,hI,hL,hQ,hr,Y,hz⟩:=hrel;clear n Z V ae;have HR:Hid (Gp m.code gk h q=DN m.code):=hR;clear hR;obtain⟨a,kq,rfl,Q,R⟩:=hQ.own.form;have lc:=cell_of_one hQ.box;have lf:=free_of_one hQ.box;have ao:Cm (λb=>b<w.heap.size) wr (qS ad m.code.length cap) m.code:=a8.later BR (a3.trans (Y.mono (by omega)));have mb':wr.heap[w.heap.size]?=_:=(Y.block _ (by omega)).trans mb;have rb':wr.heap[w.heap.size+1]?=_:=(Y.block _ (by omega)).trans rb;have a2:qY w wr:=a3.trans (Y.mono (by omega))
   cases q with
   | nil=>
    have HE:Hid (DN m.code=(h,(0,0))):=by show _=_;rw[← HR.out];cases gk<;>rfl
    have rc:∀q,wr.cell? (O (w.heap.size+1) q)=(#[J 0,J 0]:Array Value)[q]?:=λq=>by rw[Bn rb']
    have rf:∀q,wr.frozen? (O (w.heap.size+1) q)=false:=λq=>by unfold World.frozen?;simp[rb']
    go_wp2;refine Bt (v:=.tuple #[qS (some (O (w.heap.size+1+1) 0)) m.code.length m.code.length,FV (0,0)]) ?_ rfl ⟨?_,Or.inl ⟨by rw[HE.out],_,rfl,?_,by omega⟩⟩
    ·simp[results,Tryz.results101,go_sem,rc,rf]
    ·exact ((a2.setCell (by simp) _).setCell (by simp) _)
    rw[BS (by omega),BS (by omega),HE.out];exact hr
   | cons p q=>
    obtain⟨g',rfl⟩:∃g',gk=g'+1:=⟨gk-1,by simp[Kl] at hL;omega⟩
    simp only[List.length_cons] at lc lf Q;obtain⟨gq,oq,rfl,p1,p2,-,-,y⟩:=hQ.own.head;have am:(0:Int)<((q.length+1:Nat):Int):=by omega
    have lcx:=λz=>Bf (Bg wr z) lc;have lfx:=λz=>((Bg wr z).frozen (p:=(O (w.heap.size+3) 0)) (By hQ.box)).trans lf;have mcx:∀z,(wr.alloc z).cell? (O w.heap.size 4)=some (qS ad m.code.length cap):=λz=>Bf (Bg wr z) (by rw[Bn mb'];rfl);have U:∀v',Below w.heap.size wr ((wr.alloc (qC #[J p.1,J p.2] 209)).setCell (O (w.heap.size+3) 0) v'):=λv'=>((Bg _ _).mono (by omega)).setCell (by show w.heap.size<=w.heap.size+3;omega) _;by_cases hk1:kq=1
    ·subst hk1;obtain rfl:=List.eq_nil_of_length_eq_zero (l:=q) (by omega);go_wp2_with fail;have n:LeQ ((wr.alloc (qC #[J p.1,J p.2] 209)).setCell (O (w.heap.size+3) 0) (qS (some (O gq oq)) 0 0)) (w.heap.size+4) (w.heap.size+3) (qS (some (O gq oq)) 0 0) []:=hQ.cut (q:=[]) _ (by simpa using y oq (by simp));have V:Below (w.heap.size+2) W0 ((wr.alloc (qC #[J p.1,J p.2] 209)).setCell (O (w.heap.size+3) 0) (qS (some (O gq oq)) 0 0)):=(Y.trans ((Bg _ _).mono (by omega))).setCell (by show w.heap.size+2<=w.heap.size+3;omega) _;have W:∀b,b<wr.heap.size->b≠w.heap.size+3->((wr.alloc (qC #[J p.1,J p.2] 209)).setCell (O (w.heap.size+3) 0) (qS (some (O gq oq)) 0 0)).heap[b]?=wr.heap[b]?:=λb Y X=>(BS X _).trans ((Bg _ _).block b Y);have ai:wr.heap.size+1=((wr.alloc (qC #[J p.1,J p.2] 209)).setCell (O (w.heap.size+3) 0) (qS (some (O gq oq)) 0 0)).heap.size:=by rw[GT];simp
     have a5:(Value.ownBlock (qS (some (O gq oq)) 0 0))=some gq:=rfl;clear lc lf lcx lfx p1 p2 y mcx;replace U:=U (qS (some (O gq oq)) 0 0);generalize ((wr.alloc (qC #[J p.1,J p.2] 209)).setCell (O (w.heap.size+3) 0) (qS (some (O gq oq)) 0 0))=w2 at *;generalize (qS (some (O gq oq)) 0 0)=v2 at *;have Z:w2.heap[w.heap.size+1+1]?=some (xew h):=(W _ (by omega) (by omega)).trans hr;have a9:Cm (λb=>b<w.heap.size) w2 (qS ad m.code.length cap) m.code:=a8.later BR (a3.trans (V.mono (by omega)));have aj:=(hQ.own.lt gq rfl).1;have af:=(hQ.own.lt gq rfl).2;refine (xhG m.code _ h p.1 p.2 [] w.heap.size (w.heap.size+1+1) (w.heap.size+3) (w.heap.size+4) v2 w2 a9 hs Z hI.len (hI.wait p (by simp)) n (by simp[Kl] at hL;omega) (by omega) (by omega) (by omega) (by omega) (by omega)).mono ?_;intro e w3 c
     cases T:Ff m.code h (p.1,p.2) with
     | inl f=>
      rw[T] at c;obtain⟨rfl,d,D⟩:=c;have hf:=xeZ T;have al:(f.1 != 0)=true:=by simpa using hf
      have HE:Hid (DN m.code=([],f)):=by show _=_;rw[← HR.out];unfold Gp;rw[T]
      have rb3:w3.heap[w.heap.size+1]?=some (qC #[J 0,J 0] 90 (0,0)):=(D _ (by omega) (by omega)).trans ((W _ (by omega) (by omega)).trans rb');have a7:=d.size;have rc:∀z q,(w3.alloc z).cell? (O (w.heap.size+1) q)=(#[J 0,J 0]:Array Value)[q]?:=λz q=>by rw[Bn (Bs rb3 (Bg w3 z))]
      have rf:∀z q,(w3.alloc z).frozen? (O (w.heap.size+1) q)=false:=λz q=>by unfold World.frozen?;simp[Bs rb3 (Bg w3 z)]
      have X:¬ w3.heap.size=w.heap.size+1:=by omega
      have a0:¬ w.heap.size+1=w3.heap.size:=by omega
      go_wp2
      go_region
      all_goals go_wp2
      all_goals refine Bt (v:=.tuple #[qN,FV f]) ?_ rfl ⟨?_,Or.inr ⟨by rw[HE.out];exact hf,by rw[HE.out]⟩⟩
      all_goals first
       | (simp[results,Tryz.results101,go_sem,rc,rf,X,a0];done)
       | exact (((((a2.trans (U.mono (by omega))).trans d).alloc (by omega) _).setCell (by simp) _).setCell (by simp) _)
       | exact ((((((a2.trans (U.mono (by omega))).trans d).alloc (by omega) _).setCell (by simp) _).setCell (by simp) _)).drew
     | inr r=>
      obtain⟨h',t⟩:=r;rw[T] at c;obtain⟨rfl,v3,F,G,s⟩:=c;obtain⟨H,L⟩:=hI.step hs T;have HE:Hid (Gp m.code g' h' ([]++t)=DN m.code):=by show _=_;rw[← HR.out];conv=>rhs;unfold Gp;rw[T]
      have a7:=s.bel.size;go_wp2;go_roundg g'
      case measure=>omega
      case rel=>
       refine⟨v3,h',[]++t,by omega,HE.out,H,by omega,F.later (Bg _ _),Bs G (Bg _ _),?_,by simp;omega⟩;exact (V.trans (s.below (by omega) (by omega) (λg hg=>by rw[a5] at hg;cases hg;omega) (by omega))).trans ((Bg _ _).mono (by omega))
    go_wp2_with fail;have n:LeQ ((wr.alloc (qC #[J p.1,J p.2] 209)).setCell (O (w.heap.size+3) 0) (qS (some (O gq (oq+2))) q.length (kq-1))) (w.heap.size+4) (w.heap.size+3) (qS (some (O gq (oq+2))) q.length (kq-1)) q:=hQ.cut _ (y (oq+2) (by omega));have V:Below (w.heap.size+2) W0 ((wr.alloc (qC #[J p.1,J p.2] 209)).setCell (O (w.heap.size+3) 0) (qS (some (O gq (oq+2))) q.length (kq-1))):=(Y.trans ((Bg _ _).mono (by omega))).setCell (by show w.heap.size+2<=w.heap.size+3;omega) _;have W:∀b,b<wr.heap.size->b≠w.heap.size+3->((wr.alloc (qC #[J p.1,J p.2] 209)).setCell (O (w.heap.size+3) 0) (qS (some (O gq (oq+2))) q.length (kq-1))).heap[b]?=wr.heap[b]?:=λb Y X=>(BS X _).trans ((Bg _ _).block b Y);have ai:wr.heap.size+1=((wr.alloc (qC #[J p.1,J p.2] 209)).setCell (O (w.heap.size+3) 0) (qS (some (O gq (oq+2))) q.length (kq-1))).heap.size:=by rw[GT];simp
    have a5:(Value.ownBlock (qS (some (O gq (oq+2))) q.length (kq-1)))=some gq:=rfl;clear lc lf lcx lfx p1 p2 y mcx;replace U:=U (qS (some (O gq (oq+2))) q.length (kq-1));generalize ((wr.alloc (qC #[J p.1,J p.2] 209)).setCell (O (w.heap.size+3) 0) (qS (some (O gq (oq+2))) q.length (kq-1)))=w2 at *;generalize (qS (some (O gq (oq+2))) q.length (kq-1))=v2 at *;have Z:w2.heap[w.heap.size+1+1]?=some (xew h):=(W _ (by omega) (by omega)).trans hr;have a9:Cm (λb=>b<w.heap.size) w2 (qS ad m.code.length cap) m.code:=a8.later BR (a3.trans (V.mono (by omega)));have aj:=(hQ.own.lt gq rfl).1;have af:=(hQ.own.lt gq rfl).2;refine (xhG m.code _ h p.1 p.2 q w.heap.size (w.heap.size+1+1) (w.heap.size+3) (w.heap.size+4) v2 w2 a9 hs Z hI.len (hI.wait p (by simp)) n (by simp[Kl] at hL;omega) (by omega) (by omega) (by omega) (by omega) (by omega)).mono ?_;intro e w3 c
    cases T:Ff m.code h (p.1,p.2) with
    | inl f=>
     rw[T] at c;obtain⟨rfl,d,D⟩:=c;have hf:=xeZ T;have al:(f.1 != 0)=true:=by simpa using hf
     have HE:Hid (DN m.code=([],f)):=by show _=_;rw[← HR.out];unfold Gp;rw[T]
     have rb3:w3.heap[w.heap.size+1]?=some (qC #[J 0,J 0] 90 (0,0)):=(D _ (by omega) (by omega)).trans ((W _ (by omega) (by omega)).trans rb');have a7:=d.size;have rc:∀z q,(w3.alloc z).cell? (O (w.heap.size+1) q)=(#[J 0,J 0]:Array Value)[q]?:=λz q=>by rw[Bn (Bs rb3 (Bg w3 z))]
     have rf:∀z q,(w3.alloc z).frozen? (O (w.heap.size+1) q)=false:=λz q=>by unfold World.frozen?;simp[Bs rb3 (Bg w3 z)]
     have X:¬ w3.heap.size=w.heap.size+1:=by omega
     have a0:¬ w.heap.size+1=w3.heap.size:=by omega
     go_wp2
     go_region
     all_goals go_wp2
     all_goals refine Bt (v:=.tuple #[qN,FV f]) ?_ rfl ⟨?_,Or.inr ⟨by rw[HE.out];exact hf,by rw[HE.out]⟩⟩
     all_goals first
      | (simp[results,Tryz.results101,go_sem,rc,rf,X,a0];done)
      | exact (((((a2.trans (U.mono (by omega))).trans d).alloc (by omega) _).setCell (by simp) _).setCell (by simp) _)
      | exact ((((((a2.trans (U.mono (by omega))).trans d).alloc (by omega) _).setCell (by simp) _).setCell (by simp) _)).drew
    | inr r=>
     obtain⟨h',t⟩:=r;rw[T] at c;obtain⟨rfl,v3,F,G,s⟩:=c;obtain⟨H,L⟩:=hI.step hs T;have HE:Hid (Gp m.code g' h' (q++t)=DN m.code):=by show _=_;rw[← HR.out];conv=>rhs;unfold Gp;rw[T]
     have a7:=s.bel.size;go_wp2;go_roundg g'
     case measure=>omega
     case rel=>
      refine⟨v3,h',q++t,by omega,HE.out,H,by omega,F.later (Bg _ _),Bs G (Bg _ _),?_,by simp;omega⟩;exact (V.trans (s.below (by omega) (by omega) (λg hg=>by rw[a5] at hg;cases hg;omega) (by omega))).trans ((Bg _ _).mono (by omega))
theorem Hz (n b a:Int)(w:qW):Calls Tryz.prog 129 #[J n,J b,J a] w λe w'=>e=.returned (.bool (Cj n b a))/\qY w w':=by
 go_enter Tryz.func129,Tryz.ntmps129;by_cases h1:b<=n
 ·by_cases h2:n<=a
  ·go_wp2;go_ret;exact⟨Cq (by simp[Cj,h1,h2]),Br _ _⟩
  have c:decide (n<=a)=false:=by simpa using h2
  go_wp2;go_ret;exact⟨Cq (by simp[Cj];omega),Br _ _⟩
 have d:decide (b<=n)=false:=by simpa using h1
 go_wp2;go_ret;exact⟨Cq (by simp[Cj];omega),Br _ _⟩
theorem xiu (x:QI)(w:qW)(a:x.name.size<=140737488351232):Calls Tryz.prog 131 #[IV x] w λe w'=>e=.returned (.bool (Kf x))/\qY w w':=by
 obtain⟨op,xa,xb,xc,nm⟩:=x;go_enter Tryz.func131,Tryz.ntmps131;by_cases h:op=14
 ·subst h;go_wp2_with fail;refine (Qj nm _ a).mono ?_;rintro e w1 ⟨rfl,b⟩;go_wp2;go_ret;exact⟨Cq (by simp[Kf]),Bh (Bg _ _) b⟩
 go_wp2;go_ret;exact⟨Cq (by simp[Kf,h,PW]),Bg _ _⟩
theorem xmy {P:Nat->Prop}(X:QW)(c:Int)(m:QM)(x:QI)(cv hv mv:Value)(w:qW)(l:BK P w cv X.cz)(o:BP P w hv X.heap)(u:Cm P w mv m.code)(z:0<=m.args/\m.args<=4)(y:0<=m.temps/\m.temps<=6):Calls Tryz.prog 130 #[WV cv hv X.ez,J c,MV m mv,IV x] w λe w'=>e=.returned (.bool (Ew (Cs X.cz c) X.cz.length m x))/\qY w w':=by
 obtain⟨op,xa,xb,xc,nm⟩:=x;obtain⟨ad,cap,rfl,v,a,b,-⟩:=id l;obtain⟨ah,ch,rfl,-,-,-,-⟩:=id o;obtain⟨am,cm,rfl,-,-,d,-⟩:=id u;have p:IntKind.i64.wrap (m.args-1)=m.args-1:=CM (by omega) (by omega);have r:IntKind.i64.wrap (m.temps-1)=m.temps-1:=CM (by omega) (by omega);have s:IntKind.i64.wrap ((m.code.length:Int)-1)=(m.code.length:Int)-1:=CM (by omega) (by omega);have t:IntKind.i64.wrap ((X.cz.length:Int)-1)=(X.cz.length:Int)-1:=CM (by omega) (by omega);have f:=DW w (qA ad cap ah ch X) (qD m am cm) (qC #[J op,J xa,J xb,J xc,qZ nm] 69);go_enter Tryz.func130,Tryz.ntmps130;by_cases h2:op=2
 ·subst h2;go_wp2_with fail;refine (Hz _ _ _ _).mono ?_;rintro e w1 ⟨rfl,g⟩;go_wp2;go_ret;exact⟨Cq (by simp[Ew]),Bh f g⟩
 by_cases n:op=3\/op=11
 ·rcases n with rfl | rfl
  all_goals
   go_wp2_with fail;refine (Hz _ _ _ _).mono ?_;rintro e w1 ⟨rfl,g⟩;go_wp2;go_ret;exact⟨Cq (by simp[Ew]),Bh f g⟩
 by_cases j:op=4\/op=12
 ·rcases j with rfl | rfl
  ·go_wp2
   have i:(((w.alloc (qA ad cap ah ch X)).alloc (qD m am cm)).alloc (qC #[J 4,J xa,J xb,J xc,qZ nm] 69)).drew.cell? (O (w.heap.size+1+1) 1)=some (J xa)/\(((w.alloc (qA ad cap ah ch X)).alloc (qD m am cm)).alloc (qC #[J 4,J xa,J xb,J xc,qZ nm] 69)).drew.cell? (O w.heap.size 0)=some (qS ad X.cz.length cap)/\(((w.alloc (qA ad cap ah ch X)).alloc (qD m am cm)).alloc (qC #[J 4,J xa,J xb,J xc,qZ nm] 69)).drew.cell? (O w.heap.size 1)=some (qS ah X.heap.length ch)/\(((w.alloc (qA ad cap ah ch X)).alloc (qD m am cm)).alloc (qC #[J 4,J xa,J xb,J xc,qZ nm] 69)).drew.cell? (O w.heap.size 2)=some (J X.ez)/\qY w (((w.alloc (qA ad cap ah ch X)).alloc (qD m am cm)).alloc (qC #[J 4,J xa,J xb,J xc,qZ nm] 69)).drew:=
    ⟨(Bp _ _ _ _ (by simp) 1).trans rfl,Bf (BG _ _ _).drew (by rw[Bp _ _ _ _ rfl];rfl),Bf (BG _ _ _).drew (by rw[Bp _ _ _ _ rfl];rfl),Bf (BG _ _ _).drew (by rw[Bp _ _ _ _ rfl];rfl),f.drew⟩
   generalize (((w.alloc (qA ad cap ah ch X)).alloc (qD m am cm)).alloc (qC #[J 4,J xa,J xb,J xc,qZ nm] 69))=W at *
   go_region_held3 (λw'=>w'.cell? (O (w.heap.size+1+1) 1)=some (J xa)/\w'.cell? (O w.heap.size 0)=some (qS ad X.cz.length cap)/\w'.cell? (O w.heap.size 1)=some (qS ah X.heap.length ch)/\w'.cell? (O w.heap.size 2)=some (J X.ez)/\qY w w')
    (first | with_reducible exact i | with_reducible exact xh4 (‹_/\_/\_/\_/\qY w _›) g)
    (first
     | (go_at_call 83;refine (xfD X c _ _ _ (l.later Bw (‹_/\_/\_/\_/\qY w _›).2.2.2.2) (o.later BB (‹_/\_/\_/\_/\qY w _›).2.2.2.2)).mono ?_;rintro e w' ⟨rfl,g⟩)
     | (go_at_call 129;refine (Hz _ _ _ _).mono ?_;rintro e w' ⟨rfl,g⟩))
   all_goals go_wp2
   all_goals go_ret
   all_goals exact⟨Cq (by simp[Ew]),(‹_/\_/\_/\_/\qY w _›).2.2.2.2⟩
  go_wp2
  have i:(((w.alloc (qA ad cap ah ch X)).alloc (qD m am cm)).alloc (qC #[J 12,J xa,J xb,J xc,qZ nm] 69)).drew.cell? (O (w.heap.size+1+1) 1)=some (J xa)/\(((w.alloc (qA ad cap ah ch X)).alloc (qD m am cm)).alloc (qC #[J 12,J xa,J xb,J xc,qZ nm] 69)).drew.cell? (O w.heap.size 0)=some (qS ad X.cz.length cap)/\(((w.alloc (qA ad cap ah ch X)).alloc (qD m am cm)).alloc (qC #[J 12,J xa,J xb,J xc,qZ nm] 69)).drew.cell? (O w.heap.size 1)=some (qS ah X.heap.length ch)/\(((w.alloc (qA ad cap ah ch X)).alloc (qD m am cm)).alloc (qC #[J 12,J xa,J xb,J xc,qZ nm] 69)).drew.cell? (O w.heap.size 2)=some (J X.ez)/\qY w (((w.alloc (qA ad cap ah ch X)).alloc (qD m am cm)).alloc (qC #[J 12,J xa,J xb,J xc,qZ nm] 69)).drew:=
   ⟨(Bp _ _ _ _ (by simp) 1).trans rfl,Bf (BG _ _ _).drew (by rw[Bp _ _ _ _ rfl];rfl),Bf (BG _ _ _).drew (by rw[Bp _ _ _ _ rfl];rfl),Bf (BG _ _ _).drew (by rw[Bp _ _ _ _ rfl];rfl),f.drew⟩
  generalize (((w.alloc (qA ad cap ah ch X)).alloc (qD m am cm)).alloc (qC #[J 12,J xa,J xb,J xc,qZ nm] 69))=W at *
  go_region_held3 (λw'=>w'.cell? (O (w.heap.size+1+1) 1)=some (J xa)/\w'.cell? (O w.heap.size 0)=some (qS ad X.cz.length cap)/\w'.cell? (O w.heap.size 1)=some (qS ah X.heap.length ch)/\w'.cell? (O w.heap.size 2)=some (J X.ez)/\qY w w')
   (first | with_reducible exact i | with_reducible exact xh4 (‹_/\_/\_/\_/\qY w _›) g)
   (first
    | (go_at_call 83;refine (xfD X c _ _ _ (l.later Bw (‹_/\_/\_/\_/\qY w _›).2.2.2.2) (o.later BB (‹_/\_/\_/\_/\qY w _›).2.2.2.2)).mono ?_;rintro e w' ⟨rfl,g⟩)
    | (go_at_call 129;refine (Hz _ _ _ _).mono ?_;rintro e w' ⟨rfl,g⟩))
  all_goals go_wp2
  all_goals go_ret
  all_goals exact⟨Cq (by simp[Ew]),(‹_/\_/\_/\_/\qY w _›).2.2.2.2⟩
 by_cases k:op=15\/op=16
 ·rcases k with rfl | rfl
  all_goals
   go_wp2_with fail;refine (Hz _ _ _ _).mono ?_;rintro e w1 ⟨rfl,g⟩;go_wp2;go_ret;exact⟨Cq (by simp[Ew]),Bh f g⟩
 by_cases h6:op=14
 ·subst h6;go_wp2_with fail;refine (Hz _ _ _ _).mono ?_;rintro e w1 ⟨rfl,g⟩;go_wp2;go_ret;exact⟨Cq (by simp[Ew]),Bh f g⟩
 by_cases h7:op=5
 ·subst h7;go_wp2_with fail;refine (Hz _ _ _ _).mono ?_;rintro e w1 ⟨rfl,g⟩;go_wp2;go_ret;exact⟨Cq (by simp[Ew]),Bh f g⟩
 by_cases h8:op=13
 ·subst h8;by_cases h9:xa=0
  ·subst h9;go_wp2;go_ret;exact⟨Cq (by simp[Ew]),f⟩
  have q:(xa == 0)=false:=by simpa using h9
  go_wp2_with fail;refine (Hz _ _ _ _).mono ?_;rintro e w1 ⟨rfl,g⟩;go_wp2;go_ret;exact⟨Cq (by simp[Ew,h9]),Bh f g⟩
 have n1:¬ op=3:=λh=>n (Or.inl h);have n2:¬ op=11:=λh=>n (Or.inr h);have n3:¬ op=4:=λh=>j (Or.inl h);have n4:¬ op=12:=λh=>j (Or.inr h);have n5:¬ op=15:=λh=>k (Or.inl h);have n6:¬ op=16:=λh=>k (Or.inr h);go_wp2;go_ret;exact⟨Cq (by simp[Ew,h2,h6,h7,h8,n1,n2,n3,n4,n5,n6];rw[Bool.eq_iff_iff];simp),f⟩
theorem xg8 (X:QW)(c:Int)(m:QM)(ad ah am:Option Addr)(cap ch cm:Nat)(w:qW)(b:X.cz.length*56<=140737488351232)(d:m.code.length*48<=140737488351232)(a:m.name.size<=140737488351232):Calls Tryz.prog 99 #[qV ad cap ah ch X,J c,MV m (qS am m.code.length cm)] w λe w'=>e=.returned (J (DF X.cz.length c m))/\qY w w':=by
 have p:IntKind.i64.wrap ((X.cz.length:Int)-1)=(X.cz.length:Int)-1:=CM (by omega) (by omega);have f:=BG w (qA ad cap ah ch X) (qD m am cm);have mb:=Dh (w.alloc (qA ad cap ah ch X)) (qD m am cm) (w.heap.size+1) (by simp);have j:Hid (DF X.cz.length c m=if Cj c 0 (X.cz.length-1)=false then 6 else if DC m.name=false then 7 else if Cj m.args 0 4=false\/Cj m.temps 0 6=false then 3 else if m.prim≠0 then 1 else if Cj m.code.length 1 60=false then 5 else 0):=rfl;generalize DF X.cz.length c m=u at *;go_enter Tryz.func99,Tryz.ntmps99;go_wp2_with fail;refine (Hz _ _ _ _).mono ?_;rintro e w1 ⟨rfl,g⟩;replace f:=Bh f g;replace mb:=Bs mb g;clear g
 cases i:Cj c 0 ((X.cz.length:Int)-1)
 ·go_wp2;go_ret;exact⟨BT (by rw[j.out,if_pos i]),f⟩
 have mc:∀q,w1.cell? (O (w.heap.size+1) q)=(#[qZ m.name,J m.args,J m.temps,J m.prim,qS am m.code.length cm]:Array Value)[q]?:=λq=>by rw[Bn mb]
 go_wp2_with fail;refine (Qj m.name _ a).mono ?_;rintro e w2 ⟨rfl,g⟩;replace f:=Bh f g;replace mb:=Bs mb g;clear g mc
 cases k:DC m.name
 ·go_wp2;go_ret;exact⟨BT (by rw[j.out,if_neg (by rw[i];simp),if_pos k]),f⟩
 have mc:∀q,w2.cell? (O (w.heap.size+1) q)=(#[qZ m.name,J m.args,J m.temps,J m.prim,qS am m.code.length cm]:Array Value)[q]?:=λq=>by rw[Bn mb]
 go_wp2_with fail;refine (Hz _ _ _ _).mono ?_;rintro e w3 ⟨rfl,g⟩;replace f:=Bh f g;replace mb:=Bs mb g;clear g mc
 cases o:Cj m.args 0 4
 ·go_wp2;go_ret;exact⟨BT (by rw[j.out,if_neg (by rw[i];simp),if_neg (by rw[k];simp),if_pos (Or.inl o)]),f⟩
 have mc:∀q,w3.cell? (O (w.heap.size+1) q)=(#[qZ m.name,J m.args,J m.temps,J m.prim,qS am m.code.length cm]:Array Value)[q]?:=λq=>by rw[Bn mb]
 go_wp2_with fail;refine (Hz _ _ _ _).mono ?_;rintro e w4 ⟨rfl,g⟩;replace f:=Bh f g;replace mb:=Bs mb g;clear g mc
 cases l:Cj m.temps 0 6
 ·go_wp2;go_ret;exact⟨BT (by rw[j.out,if_neg (by rw[i];simp),if_neg (by rw[k];simp),if_pos (Or.inr l)]),f⟩
 have mc:∀q,w4.cell? (O (w.heap.size+1) q)=(#[qZ m.name,J m.args,J m.temps,J m.prim,qS am m.code.length cm]:Array Value)[q]?:=λq=>by rw[Bn mb]
 have h:Hid (u=if m.prim≠0 then 1 else if Cj m.code.length 1 60=false then 5 else 0):=by
  show _=_;rw[j.out,if_neg (by rw[i];simp),if_neg (by rw[k];simp),if_neg (by rw[o,l];simp)]
 by_cases h5:m.prim=0
 ·go_wp2_with fail;refine (Hz _ _ _ _).mono ?_;rintro e w5 ⟨rfl,g⟩;replace f:=Bh f g;clear g mc
  cases n:Cj (m.code.length:Int) 1 60
  ·go_wp2;go_ret;exact⟨BT (by rw[h.out,if_neg (by simp[h5]),if_pos n]),f⟩
  go_wp2;go_ret;exact⟨BT (by rw[h.out,if_neg (by simp[h5]),if_neg (by rw[n];simp)]),f⟩
 have r:(m.prim != 0)=true:=by simpa using h5
 go_wp2;go_ret;exact⟨BT (by rw[h.out,if_pos h5]),f⟩
theorem xhB {P:Nat->Prop}(X:QW)(c:Int)(m:QM)(x:QI)(cv hv mv:Value)(w:qW)(l:BK P w cv X.cz)(n:BP P w hv X.heap)(o:Cm P w mv m.code)(s:0<=m.args/\m.args<=4)(p:0<=m.temps/\m.temps<=6)(r:x.name.size<=140737488351232):Calls Tryz.prog 100 #[WV cv hv X.ez,J c,MV m mv,IV x] w λe w'=>e=.returned (J (DD (Cs X.cz c) X.cz.length m x))/\qY w w':=by
 obtain⟨ad,cap,rfl⟩:=l.get;obtain⟨ah,ch,rfl⟩:=n.get;obtain⟨am,cm,rfl⟩:=o.get;have d:=DW w (qA ad cap ah ch X) (qD m am cm) (qE x);have wb:(((w.alloc (qA ad cap ah ch X)).alloc (qD m am cm)).alloc (qE x)).heap[w.heap.size]?=some (qA ad cap ah ch X):=((BG _ _ _).block _ (by simp)).trans (Dh _ _ _ rfl);have mb:(((w.alloc (qA ad cap ah ch X)).alloc (qD m am cm)).alloc (qE x)).heap[w.heap.size+1]?=some (qD m am cm):=((Bg _ _).block _ (by simp)).trans (Dh _ _ _ (by simp));have xb:(((w.alloc (qA ad cap ah ch X)).alloc (qD m am cm)).alloc (qE x)).heap[w.heap.size+1+1]?=some (qE x):=Dh _ _ _ (by simp);have i:Hid (DD (Cs X.cz c) X.cz.length m x=if Cj x.op 1 17=false then 1 else if Ew (Cs X.cz c) X.cz.length m x=false then 3 else if Kf x=false\/x.b≠0\/x.c≠0 then 2 else 0):=rfl;generalize DD (Cs X.cz c) X.cz.length m x=u at *;go_enter Tryz.func100,Tryz.ntmps100;go_wp2_with fail;refine (Hz _ _ _ _).mono ?_;rintro e w1 ⟨rfl,f⟩;replace d:=Bh d f;replace mb:=Bs mb f;replace wb:=Bs wb f;replace xb:=Bs xb f;clear f
 cases h:Cj x.op 1 17
 ·go_wp2;go_ret;exact⟨BT (by rw[i.out,if_pos h]),d⟩
 have wc:∀q,w1.cell? (O w.heap.size q)=(#[qS ad X.cz.length cap,qS ah X.heap.length ch,J X.ez]:Array Value)[q]?:=λq=>by rw[Bn wb]
 have mc:∀q,w1.cell? (O (w.heap.size+1) q)=(#[qZ m.name,J m.args,J m.temps,J m.prim,qS am m.code.length cm]:Array Value)[q]?:=λq=>by rw[Bn mb]
 have xc:∀q,w1.cell? (O (w.heap.size+1+1) q)=(#[J x.op,J x.a,J x.b,J x.c,qZ x.name]:Array Value)[q]?:=λq=>by rw[Bn xb]
 go_wp2_with fail;refine (xmy X c m x _ _ _ _ (l.later Bw d) (n.later BB d) (o.later BR d) s p).mono ?_;rintro e w2 ⟨rfl,f⟩;replace d:=Bh d f;replace xb:=Bs xb f;clear f wc mc xc
 cases j:Ew (Cs X.cz c) X.cz.length m x
 ·go_wp2;go_ret;exact⟨BT (by rw[i.out,if_neg (by rw[h];simp),if_pos j]),d⟩
 have xc:∀q,w2.cell? (O (w.heap.size+1+1) q)=(#[J x.op,J x.a,J x.b,J x.c,qZ x.name]:Array Value)[q]?:=λq=>by rw[Bn xb]
 have g:Hid (u=if Kf x=false\/x.b≠0\/x.c≠0 then 2 else 0):=by show _=_;rw[i.out,if_neg (by rw[h];simp),if_neg (by rw[j];simp)]
 go_wp2_with fail;refine (xiu x _ r).mono ?_;rintro e w3 ⟨rfl,f⟩;replace d:=Bh d f;replace xb:=Bs xb f;clear f xc;have xc:∀q,w3.cell? (O (w.heap.size+1+1) q)=(#[J x.op,J x.a,J x.b,J x.c,qZ x.name]:Array Value)[q]?:=λq=>by rw[Bn xb]
 cases k:Kf x
 ·go_wp2;go_ret;exact⟨BT (by rw[g.out,if_pos (Or.inl k)]),d⟩
 by_cases h4:x.b=0
 ·by_cases h5:x.c=0
  ·go_wp2;go_ret;exact⟨BT (by rw[g.out,if_neg (by rw[k,h4,h5];simp)]),d⟩
  have t:(x.c != 0)=true:=by simpa using h5
  go_wp2;go_ret;exact⟨BT (by rw[g.out,if_pos (Or.inr (Or.inr h5))]),d⟩
 have v:(x.b != 0)=true:=by simpa using h4
 go_wp2;go_ret;exact⟨BT (by rw[g.out,if_pos (Or.inr (Or.inl h4))]),d⟩
theorem xiR {P:Nat->Prop}(m:QM)(mv:Value)(w:qW)(f:Cm P w mv m.code)(d:Lr m.code):Calls Tryz.prog 101 #[MV m mv] w λe w'=>∃a n k,e=.returned (.tuple #[qS a n k,FV (DN m.code).2])/\qY w w':=by
 refine (xlf m mv w f d).mono ?_;rintro e w' ⟨c,⟨b,g,rfl,-,-⟩ | ⟨b,rfl⟩⟩
 ·have:=xjA _ _ _ b;exact⟨_,_,_,by unfold DN at *;rw[this],c⟩
 exact⟨_,_,_,rfl,c⟩
theorem xnu {P:Nat->Prop}(X:QW)(c:Int)(m:QM)(cv hv mv:Value)(w:qW)(hh:BK P w cv X.cz)(hH:BP P w hv X.heap)(hM:Cm P w mv m.code)(s:m.name.size<=140737488351232):Calls Tryz.prog 79 #[WV cv hv X.ez,J c,MV m mv] w λe w'=>e=.returned (FV (Em (Cs X.cz c) X.cz.length c m))/\qY w w':=by
 obtain⟨ad,cap,rfl,hl,H,u,-⟩:=id hh;obtain⟨ah,ch,rfl⟩:=hH.get;obtain⟨am,cm,rfl,L,B,t,l⟩:=id hM;unfold maxLen at B;have Z:Hid (Em (Cs X.cz c) X.cz.length c m=if DF X.cz.length c m≠0 then (DF X.cz.length c m,0) else match FX (DD (Cs X.cz c) X.cz.length m) 0 m.code with | some f=>f | none=>(DN m.code).2):=rfl;generalize Em (Cs X.cz c) X.cz.length c m=R at *;go_enter Tryz.func79,Tryz.ntmps79;go_wp2_with fail;have S:=DW w (qA ad cap ah ch X) (qD m am cm) (qC #[J 0,J 0] 90);have wb:(((w.alloc (qA ad cap ah ch X)).alloc (qD m am cm)).alloc (qC #[J 0,J 0] 90)).heap[w.heap.size]?=some (qA ad cap ah ch X):=((BG _ _ _).block _ (by simp)).trans (Dh _ _ _ rfl);have mb:(((w.alloc (qA ad cap ah ch X)).alloc (qD m am cm)).alloc (qC #[J 0,J 0] 90)).heap[w.heap.size+1]?=some (qD m am cm):=((Bg _ _).block _ (by simp)).trans (Dh _ _ _ (by simp));have rb:(((w.alloc (qA ad cap ah ch X)).alloc (qD m am cm)).alloc (qC #[J 0,J 0] 90)).heap[w.heap.size+1+1]?=some (qC #[J 0,J 0] 90 (0,0)):=Dh _ _ _ (by simp);refine (xg8 X c m _ _ _ _ _ _ _ u t s).mono ?_;rintro e w1 ⟨rfl,N⟩;replace S:=Bh S N;replace mb:=Bs mb N;replace wb:=Bs wb N;replace rb:=Bs rb N;clear N
 by_cases h1:DF X.cz.length c m=0
 ·obtain⟨ha,ht,M,K,-,-⟩:=xiN h1;rw[h1];have U:Hid (R=match FX (DD (Cs X.cz c) X.cz.length m) 0 m.code with | some f=>f | none=>(DN m.code).2):=by show _=_;rw[Z.out,if_neg (by simp[h1])]
  have mc1:w1.cell? (O (w.heap.size+1) 4)=some (qS am m.code.length cm):=by rw[Bn mb];rfl
  go_wp2;clear mc1
  go_loopg [24] m.code.length (λg i wr=>∃j:Nat,j+g=m.code.length/\i=J j/\qY w1 wr/\(∀i x,i<j->m.code[i]?=some x->DD (Cs X.cz c) X.cz.length m x=0))
  case atStart=>exact⟨0,by omega,rfl,Br _ _,λi x h=>by omega⟩
  case round=>
   obtain⟨j,hg,rfl,d,hD⟩:=hrel;have HD:Hid (∀i x,i<j->m.code[i]?=some x->DD (Cs X.cz c) X.cz.length m x=0):=hD;clear hD;have Q:=Bh S d;by_cases hj:j<m.code.length
   ·have a1:(j:Int)<(m.code.length:Int):=by omega
    have a4:(0:Int)<=(j:Int):=by omega
    obtain⟨x,hx⟩:∃x,m.code[j]?=some x:=⟨_,List.getElem?_eq_getElem hj⟩;obtain⟨b,o,rfl,-,v0,v1,v2,v3,v4,G⟩:=l j x hx;simp only[Nat.add_zero] at v0;replace v0:=Bf Q v0;replace v1:=Bf Q v1;replace v2:=Bf Q v2;replace v3:=Bf Q v3;replace v4:=Bf Q v4;have HX:Hid (m.code[j]?=some x):=hx;clear hx;have T:=Bg wr (qE x);have wc:∀z q,(wr.alloc z).cell? (O w.heap.size q)=(#[qS ad X.cz.length cap,qS ah X.heap.length ch,J X.ez]:Array Value)[q]?:=λz q=>by rw[Bn (Bs wb (Bh d (Bg wr z)))]
    have mc:∀z q,(wr.alloc z).cell? (O (w.heap.size+1) q)=(#[qZ m.name,J m.args,J m.temps,J m.prim,qS (some (O b o)) m.code.length cm]:Array Value)[q]?:=λz q=>by rw[Bn (Bs mb (Bh d (Bg wr z)))]
    go_wp2_with fail;refine (xhB X c m x _ _ _ _ (hh.later Bw (Bh Q T)) (hH.later BB (Bh Q T)) (hM.later BR (Bh Q T)) ha ht G).mono ?_;rintro e w2 ⟨rfl,N⟩;have W:=Bh (Bh d T) N;clear wc mc v0 v1 v2 v3 v4;by_cases h2:DD (Cs X.cz c) X.cz.length m x=0
    ·rw[h2];go_wp2;go_roundg (gk-1)
     case measure=>omega
     case rel=>
      refine⟨j+1,by omega,by go_num,W,λi y h Y=>?_⟩;by_cases hij:i=j
      ·subst hij;rw[HX.out] at Y
       cases Y;exact h2
      exact HD.out i y (by omega) Y
    have a5:(DD (Cs X.cz c) X.cz.length m x != 0)=true:=by simpa using h2
    have HR:Hid (R=(DD (Cs X.cz c) X.cz.length m x,(j:Int))):=by
     show _=_;rw[U.out,xoT (k:=0) HX.out h2 HD.out];simp
    obtain⟨rc,rf⟩:=xsF (Bs rb W);go_wp2;refine Bt (v:=FV (DD (Cs X.cz c) X.cz.length m x,(j:Int))) ?_ rfl ⟨by rw[HR.out],?_⟩
    ·simp[results,Tryz.results79,go_sem,rc,rf]
    exact ((Bh S W).setCell (by simp;omega) _).setCell (by simp;omega) _
   obtain rfl:j=m.code.length:=by omega
   have V:∀(i:Nat) y,m.code[i]?=some y->DD (Cs X.cz c) X.cz.length m y=0:=λi y Y=>HD.out i y (Bz Y) Y;have HR:Hid (R=(DN m.code).2):=by show _=_;rw[U.out,xgs V]
   have a3:Lr m.code:=λx hx=>by
    obtain⟨i,hi,rfl⟩:=List.mem_iff_getElem.1 hx;exact xeU (V i _ (List.getElem?_eq_getElem hi))
   have mc:∀q,wr.cell? (O (w.heap.size+1) q)=(#[qZ m.name,J m.args,J m.temps,J m.prim,qS am m.code.length cm]:Array Value)[q]?:=λq=>by rw[Bn (Bs mb d)]
   have a1:(m.code.length:Int)<=(m.code.length:Int):=by omega
   go_wp2_with fail;refine (xiR m _ _ (hM.later BR Q) a3).mono ?_;rintro e w2 ⟨a,n,k,rfl,N⟩;have hz:w.heap.size+1+1<w2.heap.size:=By (Bs rb (Bh d N));have rc:∀z q,(w2.alloc z).cell? (O (w.heap.size+1+1) q)=(#[J 0,J 0]:Array Value)[q]?:=λz q=>by rw[Bn (Bs rb (Bh (Bh d N) (Bg w2 z)))]
   have rf:∀z q,(w2.alloc z).frozen? (O (w.heap.size+1+1) q)=false:=λz q=>by unfold World.frozen?;simp[Bs rb (Bh (Bh d N) (Bg w2 z))]
   generalize (DN m.code).2=F at *;obtain⟨f1,f2⟩:=F;obtain⟨r,p⟩:=xsF (Bs rb (Bh d N));obtain⟨C,D⟩:=xmL (Bs rb (Bh d N)) (J f1) (J f2) (qC #[J f1,J f2] 90);have a2:¬ w2.heap.size=w.heap.size+1+1:=by omega
   have a0:¬ w.heap.size+1+1=w2.heap.size:=by omega
   go_wp2;refine Bt (v:=FV (f1,f2)) ?_ rfl ⟨by rw[HR.out],?_⟩
   ·simp[results,Tryz.results79,go_sem,rc,rf,r,p,a2,a0,C,D]
   first
    | exact ((Bh (Bh Q N) (Bg _ _)).setCell (by simp;omega) _).setCell (by simp;omega) _
    | exact (((Bh Q N).setCell (by simp;omega) _).setCell (by simp;omega) _).alloc (by rw[GT,GT];omega) _
 have a6:(DF X.cz.length c m != 0)=true:=by simpa using h1
 have HR:Hid (R=(DF X.cz.length c m,0)):=by show _=_;rw[Z.out,if_pos h1]
 obtain⟨rc,rf⟩:=xsF rb;go_wp2;refine Bt (v:=FV (DF X.cz.length c m,0)) ?_ rfl ⟨by rw[HR.out],?_⟩
 ·simp[results,Tryz.results79,go_sem,rc,rf]
 exact (S.setCell (by simp;omega) _).setCell (by simp;omega) _
end Go.Proofs.YtbafokihegegiaaGreatDoor
