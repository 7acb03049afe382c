import Derived.Test.YtbafokihegegiaaGreatDoorU8
import Derived.Deep.RegionWith
namespace Go.Proofs.YtbafokihegegiaaGreatDoor
open ChangeShapes WideShapes ChangeAt RowKit
set_option linter.unusedSimpArgs false
set_option linter.unusedVariables false
set_option maxHeartbeats 8000000
theorem xfy:∀(x y z:List UInt8),Op.bytesLess x y=true->Op.bytesLess y z=true->Op.bytesLess x z=true
 | [],[],z,h,_=>by simp[Op.bytesLess] at h
 | [],b :: y,[],_,k=>by simp[Op.bytesLess] at k
 | [],b :: y,c :: z,_,_=>by simp[Op.bytesLess]
 | a :: x,[],z,h,_=>by simp[Op.bytesLess] at h
 | a :: x,b :: y,[],_,k=>by simp[Op.bytesLess] at k
 | a :: x,b :: y,c :: z,h,k=>by
  simp only[Op.bytesLess,Bool.or_eq_true,decide_eq_true_eq,Bool.and_eq_true,beq_iff_eq] at h k ⊢;rcases h with h | ⟨rfl,h⟩
  ·rcases k with k | ⟨rfl,k⟩
   ·exact Or.inl (UInt8.lt_trans h k)
   exact Or.inl h
  rcases k with k | ⟨rfl,k⟩
  ·exact Or.inl k
  exact Or.inr ⟨rfl,xfy x y z h k⟩
theorem xgi:∀(x:List UInt8),Op.bytesLess x x=false
 | []=>rfl
 | a :: x=>by simp[Op.bytesLess,xgi x]
theorem xiH:∀(x y:List UInt8),Op.bytesLess x y=true\/x=y\/Op.bytesLess y x=true
 | [],[]=>Or.inr (Or.inl rfl)
 | [],b :: y=>Or.inl (by simp[Op.bytesLess])
 | a :: x,[]=>Or.inr (Or.inr (by simp[Op.bytesLess]))
 | a :: x,b :: y=>by
  simp only[Op.bytesLess,Bool.or_eq_true,decide_eq_true_eq,Bool.and_eq_true,beq_iff_eq];rcases UInt8.lt_or_lt_of_ne (a:=a) (b:=b) |> λh=>(Classical.em (a=b)).elim (λe=>Or.inr e) (λe=>Or.inl (h e)) with (h | h) | rfl
  ·exact Or.inl (Or.inl h)
  ·exact Or.inr (Or.inr (Or.inl h))
  rcases xiH x y with h | rfl | h
  ·exact Or.inl (Or.inr ⟨rfl,h⟩)
  ·exact Or.inr (Or.inl rfl)
  exact Or.inr (Or.inr (Or.inr ⟨rfl,h⟩))
theorem xoq {a b:ByteArray}:GK a b=true ↔ FK b a=true:=by
 unfold GK FK;constructor
 ·intro h;simp only[Bool.and_eq_true,Bool.not_eq_true',beq_eq_false_iff_ne] at h;rcases xiH a.toList b.toList with k | k | k
  ·rw[h.1] at k;cases k
  ·exact absurd k (by simpa using h.2)
  exact k
 intro h
 have c:Op.bytesLess a.toList b.toList=false:=by
  cases k:Op.bytesLess a.toList b.toList
  ·rfl
  have:=xfy _ _ _ h k;rw[xgi] at this;cases this
 have d:¬ a.toList=b.toList:=λe=>by rw[e,xgi] at h;cases h
 simp[c,d]
theorem xed {a b:ByteArray}:CD a b=true ↔ a.toList=b.toList:=by simp[CD]
theorem xr2 {a b c:ByteArray}(h:CD a b=true)(k:FK a c=true):FK b c=true:=by
 unfold FK at k ⊢;rw[← xed.1 h];exact k
set_option maxRecDepth 8000
theorem xfJ (w:qW)(cs:Array Value)(t:TypeId)(n j:Nat)(a:w.heap.size=n):(w.alloc (.cells cs t)).frozen? (O n j)=false:=by
 subst a;unfold World.frozen?;rw[show (w.alloc (.cells cs t)).heap[((O w.heap.size j):Addr).block]?=some (.cells cs t) from BH w _];simp
def Tight (P:Nat->Prop)(w:qW)(v:Value)(ls:List QL):Prop:=∃a,v=qS a ls.length ls.length/\(a=none->ls=[])/\Fw P w v ls
theorem Tight.keep {P Q:Nat->Prop}{w w':qW}{v:Value}{ls:List QL}(h:Tight P w v ls)(e:Keeps P w w')(d:∀b,P b->Q b):Tight Q w' v ls:=by
 obtain⟨a,c,f,g⟩:=h;exact⟨a,c,f,g.keep Db e d⟩
def CellT:CT QE:=λP w f x=>f 0=some (J x.site.cls)/\f 1=some (qZ x.site.name)/\f 2=some (J x.site.at')/\f 3=some (J x.ez)/\f 4=some (.bool x.many)/\∃v,f 5=some v/\Tight P w v x.lz
theorem xcN:Good CellT 6 where
 move h hl hk hf:=by
  obtain⟨d,b,f,g,c,v,e,i⟩:=h;exact⟨hf 0 Zo _ d,hf 1 Zo _ b,hf 2 Zo _ f,hf 3 Zo _ g,hf 4 Zo _ c,v,hf 5 Zo _ e,i.keep hk hl⟩
 there h k hk:=by
  obtain⟨d,b,f,g,c,v,e,a,rfl,-⟩:=h
  match k,hk with
  | 0,_=>exact⟨_,d,rfl⟩
  | 1,_=>exact⟨_,b,rfl⟩
  | 2,_=>exact⟨_,f,rfl⟩
  | 3,_=>exact⟨_,g,rfl⟩
  | 4,_=>exact⟨_,c,rfl⟩
  | 5,_=>exact⟨_,e,rfl⟩
 pos:=by omega
theorem CellT.plain {P:Nat->Prop}{w:qW}{f:Nat->Option Value}{x:QE}(h:CellT P w f x):Ln P w f x:=by
 obtain⟨d,b,i,j,c,v,g,a,-,-,e⟩:=h;exact⟨d,b,i,j,c,v,g,e⟩
theorem Nz {P:Nat->Prop}{w:qW}{v:Value}{xs:List QE}(h:IsRow CellT 6 0 P w v xs):Fj P w v xs:=by
 obtain⟨ad,cap,a,e,g,c,d⟩:=h;refine⟨ad,cap,a,e,g,c,λi x f=>?_⟩;obtain⟨b,o,e1,e2,e3⟩:=d i x f;exact⟨b,o,e1,e2,e3.plain⟩
theorem OwnSt.row0 {α:Type}{E:CT α}{sz:Nat}{t:TypeId}{w:qW}{B:Nat}{xs:List α}(h:OwnSt E sz t w B xs xs.length)(G:Good E sz)(d:xs.length<=maxLen):IsRow E sz 0 (λb=>B<=b/\b<w.heap.size) w (qG B xs.length xs.length) xs:=by
 obtain⟨⟨cur,c,f⟩,e⟩:=h;refine⟨_,_,rfl,Bq _,d,by simp,λi x a=>⟨B,0,rfl,⟨Bq _,By c⟩,?_⟩⟩;exact G.move (e i x (Bz a) a) (λb h=>⟨by omega,h.2⟩) (.refl _ _) λk _ v hv=>by rw[Nat.zero_add];exact hv
theorem xnb:(Tryz.prog.info? 108).map (λi=>(i.zero,i.size,i.bytes))=some (some (.agg #[J 0,qZ ⟨#[]⟩,J 0,J 0,.bool false,qN]),6,72):=by kernel_rfl
theorem xmz (n:Nat)(a:n*72<=281474976710656):Lz 27 108 #[J 0,qZ ⟨#[]⟩,J 0,J 0,.bool false,qN] 6 n:=λw=>xgb Tryz.underlying27 xnb (by omega) n a rfl w
structure BoxE (w:qW)(b:Nat)(x:QE)(lv:Value):Prop where
 c0:w.cell? (O b 0)=some (J x.site.cls)
 c1:w.cell? (O b 1)=some (qZ x.site.name)
 c2:w.cell? (O b 2)=some (J x.site.at')
 c3:w.cell? (O b 3)=some (J x.ez)
 c4:w.cell? (O b 4)=some (.bool x.many)
 c5:w.cell? (O b 5)=some lv
theorem BoxE.later {w w':qW}{b:Nat}{x:QE}{lv:Value}(h:BoxE w b x lv)(a:qY w w'):BoxE w' b x lv:=⟨Bf a h.c0,Bf a h.c1,Bf a h.c2,Bf a h.c3,Bf a h.c4,Bf a h.c5⟩
theorem xiJ (w:qW)(x:QE)(lv:Value)(t:TypeId):BoxE (w.alloc (qC #[J x.site.cls,qZ x.site.name,J x.site.at',J x.ez,.bool x.many,lv] t)) w.heap.size x lv:=⟨by rw[Bp _ _ _ _ rfl];rfl,by rw[Bp _ _ _ _ rfl];rfl,by rw[Bp _ _ _ _ rfl];rfl,by rw[Bp _ _ _ _ rfl];rfl,by rw[Bp _ _ _ _ rfl];rfl,by rw[Bp _ _ _ _ rfl];rfl⟩
theorem xq0 {P:Nat->Prop}{w:qW}{g b:Nat}{ls:List QL}(h:Fw P w (qG g ls.length ls.length) ls)(a:¬ P b)(o:Nat)(u:Value):Tight P (w.setCell (O b o) u) (qG g ls.length ls.length) ls:=
 ⟨_,rfl,λh=>(by cases h),h.keep Db (Keeps.of_setCell a _) λ_ h=>h⟩
theorem NV {P:Nat->Prop}(xs:List QE)(v:Value)(w:qW)(hh:Fj P w v xs)(z:xs.length*72<=281474976710656)(u:∀x∈xs,x.lz.length*16<=281474976710656):Calls Tryz.prog 33 #[v] w λe w'=>∃g,e=.returned (qG g xs.length xs.length)/\OwnSt CellT 6 108 w' g xs xs.length/\w.heap.size<=g/\qY w w':=by
 obtain⟨ad,cap,rfl,hl,B,-,i⟩:=hh;have Q:=xmz xs.length z;go_enter Tryz.func33,Tryz.ntmps33;go_wp2
 go_loopg [11] xs.length (λg c wr=>∃j:Nat,j+g=xs.length/\c=J j/\qY w wr/\OwnSt CellT 6 108 wr w.heap.size xs j/\w.heap.size<wr.heap.size)
 case atStart=>exact⟨0,by omega,rfl,Bg _ _,OwnSt.start _ _ (size_madeCells _ _),by simp⟩
 case round=>
  obtain⟨j,hj,rfl,a,f,hz⟩:=hrel;clear Q;by_cases hlt:j<xs.length
  ·obtain⟨b,o,rfl,-,k,t,m,n,s,sv,l,r⟩:=i j xs[j] (by simp[hlt]);have N:Hid (xs[j]?=some xs[j]):=by show _=_;simp[hlt]
   have R:=u xs[j] (by simp);generalize xs[j]=x at *;simp only[Nat.add_zero] at k;have u0:=Bf a k;have u1:=Bf a t;have u2:=Bf a m;have u3:=Bf a n;have u4:=Bf a s;have u5:=Bf a l;have D:=r.later Db a;obtain⟨y,q,rfl,-,-,-,-⟩:=id D;clear k t m n s l r i;have X:(j:Int)<(xs.length:Int):=by omega
   have Y:(0:Int)<=(j:Int):=by omega
   go_wp2_with fail;refine (xi0 x.lz _ _ (D.later Db (Bg _ _)) R).mono ?_;rintro e w1 ⟨g,rfl,d,V,K⟩;have S:=(xiJ wr x (qS y x.lz.length q) 108).later K;have F:=(f.later xcN (Bg _ _)).later xcN K;have H:=EB a K;have a1:wr.heap.size<g:=by simp at V;omega
   have Z:∀o,w1.frozen? (O wr.heap.size o)=false:=λo=>(K.frozen (p:=(O wr.heap.size o)) (by simp)).trans (xfJ wr _ _ _ _ rfl);have a0:wr.heap.size+1<=w1.heap.size:=by have:=K.size;simpa using this
   have G:qY wr w1:=EB (Br _ _) K;have T:Hid (OwnSt CellT 6 108 (w1.setCell (O wr.heap.size 5) (qG g x.lz.length x.lz.length)) w.heap.size xs j):=f.later xcN (G.setCell (Bq _) _);have L:Hid (Tight (λb=>b=g) (w1.setCell (O wr.heap.size 5) (qG g x.lz.length x.lz.length)) (qG g x.lz.length x.lz.length) x.lz):=xq0 (d.isLines (by unfold maxLen;omega) (P:=λb=>b=g) rfl) (by show ¬ (wr.heap.size=g);omega) _ _;have M:Hid (g<w1.heap.size):=by obtain⟨⟨C,q1,-⟩,-⟩:=d;exact By q1
   clear f D u0 u1 u2 u3 u4 u5 K V G d;generalize wr.heap.size=TB at *;obtain⟨c0,c1,c2,c3,c4,c5⟩:=S;obtain⟨⟨cur,k1,k2⟩,k3⟩:=id F;have f1:∀o,w1.frozen? (O w.heap.size o)=false:=F.unfrozen;have W:¬ TB=w.heap.size:=by omega
   have U:¬ w.heap.size=TB:=by omega
   have e0:w1.cell? (O w.heap.size (j*6))=some (cur[j*6]'Zo):=(by rw[Bn k1];simp)
   have e1:w1.cell? (O w.heap.size (j*6+1))=some (cur[j*6+1]'Zo):=(by rw[Bn k1];simp)
   have e2:w1.cell? (O w.heap.size (j*6+2))=some (cur[j*6+2]'Zo):=(by rw[Bn k1];simp)
   have e3:w1.cell? (O w.heap.size (j*6+3))=some (cur[j*6+3]'Zo):=(by rw[Bn k1];simp)
   have e4:w1.cell? (O w.heap.size (j*6+4))=some (cur[j*6+4]'Zo):=(by rw[Bn k1];simp)
   have e5:w1.cell? (O w.heap.size (j*6+5))=some (cur[j*6+5]'Zo):=(by rw[Bn k1];simp)
   go_wp2;go_roundg (gk-1)
   case measure=>omega
   case rel=>
    refine⟨j+1,by omega,by go_num,((((((H.setCell (p:=(O TB 5)) (by simp;omega) _).setCell (Bq _) _).setCell (Bq _) _).setCell (Bq _) _).setCell (Bq _) _).setCell (Bq _) _).setCell (Bq _) _,?_,by simp;omega⟩;refine T.out.step xcN N.out (vs:=[J x.site.cls,qZ x.site.name,J x.site.at',J x.ez,.bool x.many,qG g x.lz.length x.lz.length]) rfl ?_;exact⟨rfl,rfl,rfl,rfl,rfl,_,rfl,L.out.keep (.refl _ _) λb h=>⟨by omega,by have:=M.out;simp;omega⟩⟩
  obtain rfl:j=xs.length:=by omega
  go_wp2;go_ret;exact⟨_,rfl,f,Bq _,a⟩
theorem xfR {P:Nat->Prop}(xs:List QE)(v:Value)(s:QS)(w:qW)(d:Fj P w v xs):Calls Tryz.prog 233 #[v,SV s] w λe w'=>e=.returned (J (CB (λx:QE=>Cw x.site s) xs))/\qY w w':=by
 have f:=Gm;go_enter Tryz.func233,Tryz.ntmps233;go_wp2_with fail;refine (xkZ _ (λx:QE=>Cw x.site s) xs v _ (d.later Dc (Bg _ _)) λx a n c w' b=>xmN x a n c _ s w' ((Lf w s 105).later b)).mono ?_;rintro e w1 ⟨rfl,b⟩;go_wp2;go_ret;exact⟨rfl,EB (Br _ _) b⟩
theorem Qz {P:Nat->Prop}(xs:List QL)(v:Value)(c:Int)(w:qW)(b:Fw P w v xs):Calls Tryz.prog 234 #[v,J c] w λe w'=>e=.returned (J (CB (λx:QL=>x.cls == c) xs))/\qY w w':=by
 have d:=Gm;go_enter Tryz.func234,Tryz.ntmps234;go_wp2_with fail;refine (xkp _ (λx:QL=>x.cls == c) xs v _ (b.later Db (Bg _ _)) λx w' a=>xjp x _ c w' (Bf a (by rw[Bp _ _ _ _ rfl];rfl))).mono ?_;rintro e w1 ⟨rfl,a⟩;go_wp2;go_ret;exact⟨rfl,EB (Br _ _) a⟩
def Hv (ls:List QL)(c:Int):Int:=((ls.find? λy=>y.cls == c).map (·.found)).getD (-1)
def Fb (xs:List QE)(s:QS)(ep c:Int):Int:=((xs.find? λx=>Cw x.site s).map λx=>if x.ez=ep then Hv x.lz c else -1).getD (-1)
theorem xkd {α:Type}{p:α->Bool}{xs:List α}(h:CB p xs=-1):xs.find? p=none:=by
 rw[List.find?_eq_none];intro x b;obtain⟨i,c,rfl⟩:=List.mem_iff_getElem.1 b;unfold CB at h
 cases a:xs.findIdx? p with
 | none=>rw[List.findIdx?_eq_none_iff] at a;simpa using a _ b
 | some k=>rw[a] at h;simp at h
theorem xn6 {α:Type}{p:α->Bool}{xs:List α}{j:Nat}{x:α}(a:xs[j]?=some x)(d:p x=true)(b:∀i y,i<j->xs[i]?=some y->p y=false):xs.find? p=some x:=by
 induction xs generalizing j with
 | nil=>simp at a
 | cons y r ih=>
  cases j with
  | zero=>simp at a;subst a;simp[d]
  | succ j=>
   have e:=b 0 y (by omega) rfl;rw[List.find?_cons,e];exact ih (by simpa using a) (λi z f c=>b (i+1) z (by omega) (by simpa using c))
theorem xrU {P:Nat->Prop}(xs:List QE)(v:Value)(s:QS)(ep c:Int)(w:qW)(B:Fj P w v xs):Calls Tryz.prog 193 #[v,SV s,J ep,J c] w λe w'=>e=.returned (J (Fb xs s ep c))/\qY w w':=by
 obtain⟨ad,cap,rfl,L,i,-,-⟩:=id B;unfold maxLen at i;have t:=Bg w (qJ s);rcases MT (λx:QE=>Cw x.site s) xs with hf | ⟨j,x,hf,hx,hp,hn⟩
 ·have r:Hid (Fb xs s ep c=-1):=by show _=_;unfold Fb;rw[xkd hf];rfl
  go_enter Tryz.func193,Tryz.ntmps193;go_wp2_with fail;refine (xfR xs _ s _ (B.later Dc t)).mono ?_;rintro e w1 ⟨rfl,f⟩;rw[hf];go_wp2;go_ret;exact⟨BT r.out.symm,EB (Br _ _) f⟩
 have Q:=Bz hx;have H:(0:Int)<=(j:Int):=by omega
 have D:(j:Int)<(xs.length:Int):=by omega
 have z:Hid (Fb xs s ep c=if x.ez=ep then Hv x.lz c else -1):=by show _=_;unfold Fb;rw[xn6 hx hp hn];rfl
 have C:Hid (xs[j]?=some x):=hx;go_enter Tryz.func193,Tryz.ntmps193;go_wp2_with fail;refine (xfR xs _ s _ (B.later Dc t)).mono ?_;rintro e w1 ⟨rfl,f⟩;have p:=EB (Br _ _) f;rw[hf];clear hf hx hp hn t f;obtain⟨l,cap',e',-,-,-,g⟩:=B.later Dc p;simp only[Value.slice.injEq] at e';obtain⟨rfl,-,-⟩:=e';obtain⟨b,o,rfl,-,-,-,-,q3,-,lv,q5,ql⟩:=g j x C.out;clear g B;by_cases he:x.ez=ep
 ·obtain⟨m,k,rfl,n,h,-,d⟩:=id ql;unfold maxLen at h;have u:Hid (Fb xs s ep c=Hv x.lz c):=by show _=_;rw[z.out,if_pos he]
  rcases MT (λy:QL=>y.cls == c) x.lz with hf | ⟨q,y,hf,hy,hpy,hny⟩
  ·have r:Hid (Fb xs s ep c=-1):=by show _=_;rw[u.out];unfold Hv;rw[xkd hf];rfl
   go_wp2_with fail;refine (Qz x.lz _ c _ ql).mono ?_;rintro e w2 ⟨rfl,a⟩;rw[hf];go_wp2;go_ret;exact⟨BT r.out.symm,Bh p a⟩
  have r:Hid (Fb xs s ep c=y.found):=by show _=_;rw[u.out];unfold Hv;rw[xn6 hy hpy hny];rfl
  have M:=Bz hy;have G:(0:Int)<=(q:Int):=by omega
  have F:(q:Int)<(x.lz.length:Int):=by omega
  have K:Hid (x.lz[q]?=some y):=hy;clear hy hpy hny;go_wp2_with fail;refine (Qz x.lz _ c _ ql).mono ?_;rintro e w2 ⟨rfl,a⟩;rw[hf];obtain⟨b3,o3,rfl,-,y0,y1⟩:=d q y K.out;replace y1:=Bf a y1;replace q5:=Bf a q5;clear d;go_wp2;go_ret;exact⟨BT r.out.symm,Bh p a⟩
 have r:Hid (Fb xs s ep c=-1):=by show _=_;rw[z.out,if_neg he]
 have N:(x.ez != ep)=true:=by simpa using he
 go_wp2;go_ret;exact⟨BT r.out.symm,p⟩
def DP (x:QE)(y:QL):QE:=if x.many=true\/0<=CB (λz:QL=>z.cls == y.cls) x.lz then x else if 3<=x.lz.length then ⟨x.site,x.ez,true,[]⟩ else ⟨x.site,x.ez,x.many,x.lz++[y]⟩
def xsK (P:Nat->Prop)(w:qW)(x:QE)(e:Ending)(w':qW):Prop:=
 ∃a n c,e=.returned (EV x (qS a n c))/\n=x.lz.length/\Fw (λb=>P b\/w.heap.size<=b) w' (qS a n c) x.lz/\qY w w'
theorem xrN {w:qW}{g cap n:Nat}{ls:List QL}{R:Nat->Prop}{vs:List Value}(h:∃cur:Array Value,w.heap[g]?=some (.cells cur 147 (0,0))/\cur.size=cap*2/\n+1<=cap/\cap<=maxLen/\Cells FG 2 R w (cur.toList.take ((n+1)*2)) ls/\∀k v,vs[k]?=some v->w.cell? (O g (n*2+k))=some v)(a:ls.length=n+1:=by simp):Fw (λb=>b=g) w (qG g (n+1) cap) ls:=by
 obtain⟨cur,q1,q2,q3,q4,q5,-⟩:=h;have:=Cells.row (E:=FG) (sz:=2) (bytes:=0) (P:=λb=>b=g) (xs:=ls) (g:=g) (cap:=cap) ⟨q5.1,q5.2⟩ Db rfl q1 (by rw[a]) (by omega) q4 (by simp);rw[a] at this;exact this
theorem xd9 {P:Nat->Prop}(x:QE)(y:QL)(lv:Value)(w:qW)(hh:Tight P w lv x.lz):Calls Tryz.prog 235 #[EV x lv,LV y] w λe w'=>xsK P w (DP x y) e w':=by
 obtain⟨ad,rfl,f,Q⟩:=hh;have r:=DW w (qC #[J x.site.cls,qZ x.site.name,J x.site.at',J x.ez,.bool x.many,qS ad x.lz.length x.lz.length] 108) (qC #[J y.cls,J y.found] 147) (qC #[J 0,qZ ⟨#[]⟩,J 0,J 0,.bool false,qN] 108);by_cases hm:x.many=true
 ·have B:Hid (DP x y=x):=by show _=_;unfold DP;rw[if_pos (Or.inl hm)]
  go_enter Tryz.func235,Tryz.ntmps235;go_wp2;refine Bt (v:=EV x (qS ad x.lz.length x.lz.length)) ?_ rfl ?_
  ·simp[results,Tryz.results235,go_sem,hm]
  rw[B.out];refine⟨ad,_,_,rfl,rfl,?_,?_⟩
  ·exact (Q.later Db (DW _ _ _ _)).mono Db λb h=>Or.inl h
  exact DW _ _ _ _
 have t:x.many=false:=by simpa using hm
 clear hm;have F:=((xiJ w x (qS ad x.lz.length x.lz.length) 108).later (Bg _ (qC #[J y.cls,J y.found] 147))).later (Bg _ (qC #[J 0,qZ ⟨#[]⟩,J 0,J 0,.bool false,qN] 108));have G:=xiJ ((w.alloc (qC #[J x.site.cls,qZ x.site.name,J x.site.at',J x.ez,.bool x.many,qS ad x.lz.length x.lz.length] 108)).alloc (qC #[J y.cls,J y.found] 147)) ⟨⟨0,⟨#[]⟩,0⟩,0,false,[]⟩ (qN) 108;have D:((w.alloc (qC #[J x.site.cls,qZ x.site.name,J x.site.at',J x.ez,.bool x.many,qS ad x.lz.length x.lz.length] 108)).alloc (qC #[J y.cls,J y.found] 147)).heap.size=w.heap.size+1+1:=by simp
 rw[D] at G;have K:(((w.alloc (qC #[J x.site.cls,qZ x.site.name,J x.site.at',J x.ez,.bool x.many,qS ad x.lz.length x.lz.length] 108)).alloc (qC #[J y.cls,J y.found] 147)).alloc (qC #[J 0,qZ ⟨#[]⟩,J 0,J 0,.bool false,qN] 108)).cell? (O (w.heap.size+1) 0)=some (J y.cls):=Bf (Bg _ _) (by rw[Bp _ _ _ _ (by simp)];rfl);have H:(((w.alloc (qC #[J x.site.cls,qZ x.site.name,J x.site.at',J x.ez,.bool x.many,qS ad x.lz.length x.lz.length] 108)).alloc (qC #[J y.cls,J y.found] 147)).alloc (qC #[J 0,qZ ⟨#[]⟩,J 0,J 0,.bool false,qN] 108)).cell? (O (w.heap.size+1) 1)=some (J y.found):=Bf (Bg _ _) (by rw[Bp _ _ _ _ (by simp)];rfl);have C:∀o,(((w.alloc (qC #[J x.site.cls,qZ x.site.name,J x.site.at',J x.ez,.bool x.many,qS ad x.lz.length x.lz.length] 108)).alloc (qC #[J y.cls,J y.found] 147)).alloc (qC #[J 0,qZ ⟨#[]⟩,J 0,J 0,.bool false,qN] 108)).frozen? (O w.heap.size o)=false:=λo=>((BG _ _ _).frozen (p:=(O w.heap.size o)) (by simp)).trans (xfJ w _ _ _ _ rfl)
 have u:∀o,(((w.alloc (qC #[J x.site.cls,qZ x.site.name,J x.site.at',J x.ez,.bool x.many,qS ad x.lz.length x.lz.length] 108)).alloc (qC #[J y.cls,J y.found] 147)).alloc (qC #[J 0,qZ ⟨#[]⟩,J 0,J 0,.bool false,qN] 108)).frozen? (O (w.heap.size+1+1) o)=false:=λo=>xfJ _ _ _ _ _ D;have s:=Q.later Db r;have T:(((w.alloc (qC #[J x.site.cls,qZ x.site.name,J x.site.at',J x.ez,.bool x.many,qS ad x.lz.length x.lz.length] 108)).alloc (qC #[J y.cls,J y.found] 147)).alloc (qC #[J 0,qZ ⟨#[]⟩,J 0,J 0,.bool false,qN] 108)).heap.size=w.heap.size+3:=by simp
 rw[t] at r F G K H C u s T;go_enter Tryz.func235,Tryz.ntmps235;go_upto_region 1 with (fail);generalize (((w.alloc (qC #[J x.site.cls,qZ x.site.name,J x.site.at',J x.ez,.bool false,qS ad x.lz.length x.lz.length] 108)).alloc (qC #[J y.cls,J y.found] 147)).alloc (qC #[J 0,qZ ⟨#[]⟩,J 0,J 0,.bool false,qN] 108))=W3 at *;have X:¬ w.heap.size=w.heap.size+1+1:=by omega
 have W:¬ w.heap.size+1+1=w.heap.size:=by omega
 have q:∀ {w1:qW} {u0 u1 u2 u3 u4 u5:Value},qY W3 w1->qY w ((((((w1.setCell (O (w.heap.size+1+1) 0) u0).setCell (O (w.heap.size+1+1) 1) u1).setCell (O (w.heap.size+1+1) 2) u2).setCell (O (w.heap.size+1+1) 3) u3).setCell (O (w.heap.size+1+1) 4) u4).setCell (O (w.heap.size+1+1) 5) u5):=λh=>((((((r.trans (h.mono r.size)).setCell (by simp;omega) _).setCell (by simp;omega) _).setCell (by simp;omega) _).setCell (by simp;omega) _).setCell (by simp;omega) _).setCell (by simp;omega) _;obtain⟨x0,x1,x2,x3,x4,x5⟩:=id F;rcases MT (λz:QL=>z.cls == y.cls) x.lz with hf | ⟨j,z,hf,hz,hp,hn⟩
 ·by_cases h3:3<=x.lz.length
  ·have B:Hid (DP x y=⟨x.site,x.ez,true,[]⟩):=by show _=_;unfold DP;rw[if_neg (by rw[hf,t];simp),if_pos h3]
   have V:(3:Int)<=(x.lz.length:Int):=by omega
   go_wp2_with fail;refine (Qz x.lz _ y.cls _ s).mono ?_;rintro e w1 ⟨rfl,a⟩;rw[hf];obtain⟨x0,x1,x2,x3,x4,x5⟩:=F.later a;obtain⟨z0,z1,z2,z3,z4,z5⟩:=G.later a;have f2:=λo=>(a.frozen (p:=(O (w.heap.size+1+1) o)) (by simp;omega)).trans (u o);go_wp2;refine Bt (v:=EV ⟨x.site,x.ez,true,[]⟩ (qN)) ?_ rfl ?_
   ·simp[results,Tryz.results235,go_sem,z0,z1,z2,z3,z4,z5]
   rw[B.out];exact⟨none,0,0,rfl,rfl,⟨none,0,rfl,by simp,by simp,by simp,λi x hx=>by simp at hx⟩,q a⟩
  have B:Hid (DP x y=⟨x.site,x.ez,false,x.lz++[y]⟩):=by show _=_;unfold DP;rw[if_neg (by rw[hf,t];simp),if_neg h3,t]
  have V:(x.lz.length:Int)<(3:Int):=by omega
  go_wp2_with fail;refine (Qz x.lz _ y.cls _ s).mono ?_;rintro e w1 ⟨rfl,a⟩;rw[hf];have L:=F.later a;have S:=G.later a;obtain⟨x0,x1,x2,x3,x4,x5⟩:=id L;have y0:=Bf a K;have y1:=Bf a H;have f0:=λo=>(a.frozen (p:=(O w.heap.size o)) (by simp;omega)).trans (C o);have f2:=λo=>(a.frozen (p:=(O (w.heap.size+1+1) o)) (by simp;omega)).trans (u o);have N:=s.later Db a;have a0:w.heap.size+3<=w1.heap.size:=by have:=a.size;omega
  go_wp2_with (at_builtin;refine Qr (R:=P) Db rfl (.tmp 26) (.tmp 28) 106 rfl 147 _ 16 Tryz.underlying106 xiB rfl x.lz _ rfl (N.later Db (Bg _ _)) _ 147 [J y.cls,J y.found] rfl (BH _ _) rfl y (P':=λb=>False) ⟨rfl,rfl⟩ f (by unfold maxLen;omega) (by omega) (λ_ h=>h) (λ_ h=>h.elim) ?_;intro g2 c w2 g l m k d;have n:=EB (Br _ _) k;obtain⟨x0,x1,x2,x3,x4,x5⟩:=L.later n;obtain⟨z0,z1,z2,z3,z4,z5⟩:=S.later n;have g0:=λo=>(n.frozen (p:=(O w.heap.size o)) (by simp;omega)).trans (f0 o);have g2':=λo=>(n.frozen (p:=(O (w.heap.size+1+1) o)) (by simp;omega)).trans (f2 o);have U:Hid (Fw (λb=>b=g2) w2 (qG g2 (x.lz.length+1) c) (x.lz++[y])):=xrN d;clear g d);have Y:w.heap.size+3<=g2:=by simp at l;omega
  refine Bt (v:=EV ⟨x.site,x.ez,false,x.lz++[y]⟩ (qG g2 (x.lz.length+1) c)) ?_ rfl ?_
  ·simp[results,Tryz.results235,go_sem,z0,z1,z2,z3,z4,z5]
  rw[B.out];have M:qY w w2:=r.trans ((a.mono r.size).trans (n.mono (by have:=a.size;omega)));refine⟨some (O g2 0),_,c,rfl,by simp,?_,((((((M.setCell (Bq _) _).setCell (by simp;omega) _).setCell (by simp;omega) _).setCell (by simp;omega) _).setCell (by simp;omega) _).setCell (by simp;omega) _).setCell (by simp;omega) _⟩;refine U.out.keep Db ?_ (λb h=>Or.inr (by omega));exact CK (CK (CK (CK (CK (CK (CK (Keeps.refl _ _) (by show ¬ (_=g2);omega) _) (by show ¬ (_=g2);omega) _) (by show ¬ (_=g2);omega) _) (by show ¬ (_=g2);omega) _) (by show ¬ (_=g2);omega) _) (by show ¬ (_=g2);omega) _) (by show ¬ (_=g2);omega) _
 have B:Hid (DP x y=x):=by show _=_;unfold DP;rw[if_pos (Or.inr (by rw[hf];omega))]
 have Z:(0:Int)<=(j:Int):=by omega
 clear hz hp hn;go_wp2_with fail;refine (Qz x.lz _ y.cls _ s).mono ?_;rintro e w1 ⟨rfl,a⟩;rw[hf];obtain⟨x0,x1,x2,x3,x4,x5⟩:=F.later a;obtain⟨z0,z1,z2,z3,z4,z5⟩:=G.later a;have f2:=λo=>(a.frozen (p:=(O (w.heap.size+1+1) o)) (by simp;omega)).trans (u o);go_wp2;refine Bt (v:=EV x (qS ad x.lz.length x.lz.length)) ?_ rfl ?_
 ·simp[results,Tryz.results235,go_sem,z0,z1,z2,z3,z4,z5,t]
 rw[B.out];exact⟨ad,_,_,rfl,rfl,(Q.later Db (q a)).mono Db λb h=>Or.inl h,q a⟩
def FQ (x:QE)(s:QS)(ep:Int):QE:=if x.ez=ep then x else ⟨s,ep,false,[]⟩
def Dy:List QE->QS->Int->QL->List QE
 | [],s,ep,y=>[DP ⟨s,ep,false,[]⟩ y]
 | x :: r,s,ep,y=>if Cw x.site s then DP (FQ x s ep) y :: r else x :: Dy r s ep y
theorem xjX:∀ {xs:List QE} {s:QS} {ep:Int} {y:QL},CB (λx=>Cw x.site s) xs=-1->Dy xs s ep y=xs++[DP ⟨s,ep,false,[]⟩ y]
 | [],s,ep,y,_=>rfl
 | x :: r,s,ep,y,h=>by
  have a:Cw x.site s=false:=by
   cases c:Cw x.site s with
   | false=>rfl
   | true=>rw[Kq (j:=0) (x:=x) rfl c (λi y e _=>by omega)] at h;simp at h
  have d:CB (λx:QE=>Cw x.site s) r=-1:=by
   unfold CB at h ⊢;rw[List.findIdx?_cons,a] at h
   cases b:r.findIdx? (λx=>Cw x.site s) with
   | none=>rfl
   | some k=>rw[b] at h;simp at h;omega
  simp[Dy,a,xjX d]
theorem xoc:∀ {xs:List QE} {s:QS} {ep:Int} {y:QL} {j:Nat} {x:QE},xs[j]?=some x->Cw x.site s=true->(∀i z,i<j->xs[i]?=some z->Cw z.site s=false)->Dy xs s ep y=xs.set j (DP (FQ x s ep) y)
 | [],s,ep,y,j,x,h,_,_=>by simp at h
 | z :: r,s,ep,y,0,x,h,hp,_=>by
  simp at h;subst h;simp[Dy,hp]
 | z :: r,s,ep,y,j+1,x,h,hp,hn=>by
  have b:=hn 0 z (by omega) rfl;simp only[Dy,b,List.set_cons_succ];rw[xoc (xs:=r) (j:=j) (x:=x) (by simpa using h) hp (λi u c a=>hn (i+1) u (by omega) (by simpa using a))];rfl
theorem xld {α:Type}{E:CT α}{sz:Nat}(G:Good E sz){w:qW}{g j cap:Nat}{xs:List α}{x':α}{vs:List Value}{Q S:Nat->Prop}(B:j<xs.length)
  (a:∀i y,i≠j->xs[i]?=some y->∃R:Nat->Prop,¬ R g/\(∀b,R b->S b)/\E R w (λk=>w.cell? (O g (i*sz+k))) y)
  (c:∀k,k<sz->∃u,w.cell? (O g (j*sz+k))=some u) (H:vs.length=sz) (F:E Q w (λk=>vs[k]?) x') (s:¬ Q g) (m:∀b,Q b->S b) (f:S g) (l:xs.length<=cap) (d:cap<=maxLen) :
  IsRow E sz 0 S (w.setCells g (j*sz) vs) (qG g xs.length cap) (xs.set j x'):=by
 have p:∀R:Nat->Prop,¬ R g->Keeps R w (w.setCells g (j*sz) vs):=λR o=>Keeps.of_block λb C _=>Er (by intro e;subst e;exact o C) _ _ _;refine⟨some (O g 0),cap,by simp,by simpa using l,d,by simp,λi y n=>⟨g,0,rfl,f,?_⟩⟩;by_cases hij:i=j
 ·subst hij;rw[List.getElem?_set_self B] at n
  cases n;refine G.move F m (p Q s) λk t v hv=>?_;have:=World.cell?_setCells_in g vs (i*sz) w (λq z=>by obtain⟨u,D⟩:=c q Zo;rw[D];rfl) k Zo;rw[Nat.zero_add,this];rw[List.getElem?_eq_getElem Zo] at hv;exact hv
 rw[List.getElem?_set_ne Zo] at n;obtain⟨R,o,h,r⟩:=a i y hij n;refine G.move r h (p R o) λk t v hv=>?_;rw[Nat.zero_add,World.cell?_setCells_out g vs (j*sz) w _ (λq z=>?_)]
 ·exact hv
 by_cases hlt:i<j
 ·left;have:=Nat.mul_le_mul_right sz (show i+1<=j by omega);rw[Nat.add_mul] at this;simp;omega
 right;have:=Nat.mul_le_mul_right sz (show j+1<=i by omega);rw[Nat.add_mul] at this;simp;omega
theorem xn4 {P:Nat->Prop}(xs:List QE)(v:Value)(s:QS)(ep c fd:Int)(w:qW)(hh:Fj P w v xs)(F:(xs.length+1)*72<=140737488355328)(H:∀x∈xs,x.lz.length*16<=281474976710656) :
  Calls Tryz.prog 194 #[v,SV s,J ep,J c,J fd] w λe w'=>∃g cap,e=.returned (qG g (Dy xs s ep ⟨c,fd⟩).length cap)/\Fj (λb=>w.heap.size<=b) w' (qG g (Dy xs s ep ⟨c,fd⟩).length cap) (Dy xs s ep ⟨c,fd⟩)/\qY w w':=by
 have Y:xs.length<=maxLen:=by unfold maxLen;omega
 obtain⟨ad,cap,rfl,-,-,-,-⟩:=id hh;have a9:=Bg w (qJ s);have a8:=Lf w s 105;go_enter Tryz.func194,Tryz.ntmps194;go_wp2_with fail;refine (NV xs _ _ (hh.later Dc a9) Zo H).mono ?_;rintro e w1 ⟨g,rfl,L,hg,z⟩;have a2:=a8.later z;have a1:qY w w1:=EB (Br _ _) z;have al:w.heap.size<g:=by simp at hg;omega
 clear z a9 a8 hg hh;obtain⟨s0,s1,s2⟩:=id a2;go_wp2_with fail;refine (xfR xs _ s _ (Nz (L.row0 xcN Y))).mono ?_;rintro e w2 ⟨rfl,f⟩;replace L:=L.later xcN f;obtain⟨s0,s1,s2⟩:=a2.later f;have N:qY w w2:=Bh a1 f;clear f a1;rcases MT (λx:QE=>Cw x.site s) xs with hf | ⟨j,x,hf,X,hp,hn⟩
 ·have HO:Hid (Dy xs s ep ⟨c,fd⟩=xs++[DP ⟨s,ep,false,[]⟩ ⟨c,fd⟩]):=xjX hf;rw[hf];have a0:=L.row0 xcN Y;go_wp2_with (at_builtin;refine Qr (R:=λb=>g<=b/\b<w2.heap.size) xcN rfl (.tmp 22) (.tmp 26) 27 rfl 108 _ 72 Tryz.underlying27 xnb rfl xs _ rfl (a0.later xcN (Bg _ _)) _ 108 [J s.cls,qZ s.name,J s.at',J ep,.bool false,qN] rfl (BH _ _) rfl ⟨s,ep,false,[]⟩ (P':=λb=>False) ⟨rfl,rfl,rfl,rfl,rfl,_,rfl,none,rfl,λ_=>rfl,none,0,rfl,by simp,by simp,by simp,λi x X=>by simp at X⟩ (λh=>by cases h) (by unfold maxLen;omega) F (λ_ h=>h) (λ_ h=>h.elim) ?_;intro g' cap' w3 r G B a l;obtain⟨K,q1,q2,q3,q4,q5,q6⟩:=l;have k0:=q6 0 _ rfl;have k1:=q6 1 _ rfl;have k2:=q6 2 _ rfl;have k3:=q6 3 _ rfl;have k4:=q6 4 _ rfl;have k5:=q6 5 _ rfl;simp only[Nat.add_zero] at k0;have fz3:∀o,w3.frozen? (O g' o)=false:=(λo=>by simp[World.frozen?,q1]);have ao:(xs.length:Int)<(xs.length:Int)+1:=Zo;have am:(0:Int)<=(xs.length:Int):=Zo;clear r);refine (xd9 (P:=λ_=>False) ⟨s,ep,false,[]⟩ ⟨c,fd⟩ _ w3 ⟨none,rfl,λ_=>rfl,none,0,rfl,by simp,by simp,by simp,λi x X=>by simp at X⟩).mono ?_;rintro e w4 ⟨a4,n4,c4,rfl,D,C,d⟩;have ai:w2.heap.size+1<=g':=by simpa using G
  have ag:=N.size;have Z:qY w w3:=EB N a;have ae:=Z.size;generalize DP ⟨s,ep,false,[]⟩ ⟨c,fd⟩=x' at *;have k0:=Bf d k0;have k1:=Bf d k1;have k2:=Bf d k2;have k3:=Bf d k3;have k4:=Bf d k4;have k5:=Bf d k5;have f4:∀o,w4.frozen? (O g' o)=false:=λo=>(d.frozen (p:=(O g' o)) B).trans (fz3 o)
  have M:Hid (∀i y,i≠xs.length->(xs++[(⟨s,ep,false,[]⟩:QE)])[i]?=some y->∃R:Nat->Prop,¬ R g'/\(∀b,R b->w.heap.size<=b)/\Ln R w4 (λk=>w4.cell? (O g' (i*6+k))) y):=λi y hi hy=>by
   refine⟨λb=>g<=b/\b<w2.heap.size,λh=>by omega,λb h=>by omega,CellT.plain ?_⟩;refine xcN.move (q5.2 i y hy) (λ_ h=>h) (.of_below d) λk U v hv=>?_;rw[List.getElem?_take] at hv;split at hv
   ·refine Bf d ?_;rw[Bn q1];simpa using hv
   cases hv
  have V:Hid (∀k,k<6->∃u,w4.cell? (O g' (xs.length*6+k))=some u):=λk U=>by
   match k,U with
   | 0,_=>exact⟨_,k0⟩
   | 1,_=>exact⟨_,k1⟩
   | 2,_=>exact⟨_,k2⟩
   | 3,_=>exact⟨_,k3⟩
   | 4,_=>exact⟨_,k4⟩
   | 5,_=>exact⟨_,k5⟩
  clear a fz3 q6 q5 a0 hf L;subst D;go_wp2_with fail;go_ret;rw[HO.out];refine⟨g',cap',by simp,?_,((((((Z.trans (d.mono ae)).setCell (by simp;omega) _).setCell (by simp;omega) _).setCell (by simp;omega) _).setCell (by simp;omega) _).setCell (by simp;omega) _).setCell (by simp;omega) _⟩;have:=xld Dc (g:=g') (j:=xs.length) (cap:=cap') (xs:=xs++[⟨s,ep,false,[]⟩]) (x':=x') (vs:=[J x'.site.cls,qZ x'.site.name,J x'.site.at',J x'.ez,.bool x'.many,qS a4 x'.lz.length c4]) (Q:=λb=>False\/w3.heap.size<=b) (S:=λb=>w.heap.size<=b) (by simp) M.out V.out rfl ⟨rfl,rfl,rfl,rfl,rfl,_,rfl,C⟩ (by rintro (h | h)<;>first | exact h | omega) (λb h=>by rcases h with h | h<;>first | exact h.elim | omega) Zo (by simpa using q3) q4;rw[show (xs++[(⟨s,ep,false,[]⟩:QE)]).set xs.length x'=xs++[x'] by simp,show (xs++[(⟨s,ep,false,[]⟩:QE)]).length=xs.length+1 by simp] at this;rw[show (xs++[x']).length=xs.length+1 by simp];exact this
 have HO:Hid (Dy xs s ep ⟨c,fd⟩=xs.set j (DP (FQ x s ep) ⟨c,fd⟩)):=xoc X hp hn;have hj:=Bz X;have ak:(0:Int)<=(j:Int):=by omega
 have aj:(j:Int)<(xs.length:Int):=by omega
 obtain⟨k0,k1,k2,k3,k4,lv,k5,t⟩:=L.2 j x hj X;replace k0:w2.cell? (O g (j*6))=some (J x.site.cls):=k0;replace k1:w2.cell? (O g (j*6+1))=some (qZ x.site.name):=k1;replace k2:w2.cell? (O g (j*6+2))=some (J x.site.at'):=k2;replace k3:w2.cell? (O g (j*6+3))=some (J x.ez):=k3;replace k4:w2.cell? (O g (j*6+4))=some (.bool x.many):=k4;replace k5:w2.cell? (O g (j*6+5))=some lv:=k5;have ag:=N.size;have fz2:∀o,w2.frozen? (O g o)=false:=L.unfrozen;have ah:g<w2.heap.size:=by obtain⟨⟨cur,h1,-⟩,-⟩:=L;exact By h1
 have M:Hid (∀w',Keeps (λb=>g<b/\b<w2.heap.size) w2 w'->(∀i k,i<xs.length->i≠j->k<6->∀v,w2.cell? (O g (i*6+k))=some v->w'.cell? (O g (i*6+k))=some v)->∀i y,i≠j->xs[i]?=some y->∃R:Nat->Prop,¬ R g/\(∀b,R b->w.heap.size<=b)/\Ln R w' (λk=>w'.cell? (O g (i*6+k))) y):=λw' U af i y hi hy=>by
  refine⟨λb=>g<b/\b<w2.heap.size,λh=>by omega,λb h=>by omega,CellT.plain ?_⟩;exact xcN.move (L.2 i y (Bz hy) hy) (λ_ h=>h) U λk ab v hv=>af i k (Bz hy) hi ab v hv
 rw[hf];clear hf hn X a2;by_cases he:x.ez=ep
 ·have HF:Hid (FQ x s ep=x):=by show _=_;unfold FQ;rw[if_pos he]
  rw[HF.out] at HO;subst he;go_wp2_with fail;refine (xd9 x ⟨c,fd⟩ lv w2 t).mono ?_;rintro e w3 ⟨a3,n3,c3,rfl,n,m,a⟩;generalize DP x ⟨c,fd⟩=x' at *;have a5:Hid (∀i y,i≠j->xs[i]?=some y->∃R:Nat->Prop,¬ R g/\(∀b,R b->w.heap.size<=b)/\Ln R w3 (λk=>w3.cell? (O g (i*6+k))) y):=M.out w3 (.of_below a) λi k _ _ _ v hv=>Bf a hv;have m0:=Bf a k0;have m1:=Bf a k1;have m2:=Bf a k2;have m3:=Bf a k3;have m4:=Bf a k4;have m5:=Bf a k5;have W:=Bh N a;clear k0 k1 k2 k3 k4 k5 M L t s0 s1 s2;have f3:∀o,w3.frozen? (O g o)=false:=λo=>(a.frozen (p:=(O g o)) ah).trans (fz2 o)
  have V:Hid (∀k,k<6->∃u,w3.cell? (O g (j*6+k))=some u):=λk U=>by
   match k,U with
   | 0,_=>exact⟨_,m0⟩
   | 1,_=>exact⟨_,m1⟩
   | 2,_=>exact⟨_,m2⟩
   | 3,_=>exact⟨_,m3⟩
   | 4,_=>exact⟨_,m4⟩
   | 5,_=>exact⟨_,m5⟩
  subst n;go_wp2_with fail;go_ret;rw[HO.out];refine⟨g,xs.length,by simp,?_,(((((W.setCell (by simp;omega) _).setCell (by simp;omega) _).setCell (by simp;omega) _).setCell (by simp;omega) _).setCell (by simp;omega) _).setCell (by simp;omega) _⟩;have:=xld Dc (g:=g) (j:=j) (cap:=xs.length) (xs:=xs) (x':=x') (vs:=[J x'.site.cls,qZ x'.site.name,J x'.site.at',J x'.ez,.bool x'.many,qS a3 x'.lz.length c3]) (Q:=λb=>(g<b/\b<w2.heap.size)\/w2.heap.size<=b) (S:=λb=>w.heap.size<=b) hj a5.out V.out rfl ⟨rfl,rfl,rfl,rfl,rfl,_,rfl,m⟩ (by rintro (h | h)<;>first | exact h | omega) (λb h=>by rcases h with h | h<;>first | exact h.elim | omega) Zo (Bq _) Y;rw[show (xs.set j x').length=xs.length by simp];exact this
 have HF:Hid (FQ x s ep=⟨s,ep,false,[]⟩):=by show _=_;unfold FQ;rw[if_neg he]
 rw[HF.out] at HO;have hd:(x.ez != ep)=true:=by simpa using he
 go_wp2_with fail
 have T:=λk (U:k<6)=>World.cell?_setCells_in g [J s.cls,qZ s.name,J s.at',J ep,.bool false,qN] (j*6) w2 (λq hq=>by
  simp only[List.length_cons,List.length_nil] at hq
  match q,hq with
  | 0,_=>show (w2.cell? (O g (j*6))).isSome=true;rw[k0];rfl
  | 1,_=>rw[k1];rfl
  | 2,_=>rw[k2];rfl
  | 3,_=>rw[k3];rfl
  | 4,_=>rw[k4];rfl
  | 5,_=>rw[k5];rfl) k (by simpa using U)
 have hW:Keeps (λb=>g<b/\b<w2.heap.size) w2 (w2.setCells g (j*6) [J s.cls,qZ s.name,J s.at',J ep,.bool false,qN]):=Keeps.of_block λb hb _=>Er Zo _ _ _
 have aa:∀i k,i<xs.length->i≠j->k<6->∀v,w2.cell? (O g (i*6+k))=some v->(w2.setCells g (j*6) [J s.cls,qZ s.name,J s.at',J ep,.bool false,qN]).cell? (O g (i*6+k))=some v:=λi k hi an U v hv=>by
  rw[World.cell?_setCells_out g _ (j*6) w2 _ (λ_ _=>?_)]
  ·exact hv
  simp;omega
 have a7:qY w (w2.setCells g (j*6) [J s.cls,qZ s.name,J s.at',J ep,.bool false,qN]):=(((((N.setCell (by simp;omega) _).setCell (by simp;omega) _).setCell (by simp;omega) _).setCell (by simp;omega) _).setCell (by simp;omega) _).setCell (by simp;omega) _;have ap:(w2.setCells g (j*6) [J s.cls,qZ s.name,J s.at',J ep,.bool false,qN]).heap.size=w2.heap.size:=Ks _ _ _;have a6:∀o,(w2.setCells g (j*6) [J s.cls,qZ s.name,J s.at',J ep,.bool false,qN]).frozen? (O g o)=false:=λo=>by simpa [World.setCells] using fz2 o
 change Calls Tryz.prog 235 _ (w2.setCells g (j*6) [J s.cls,qZ s.name,J s.at',J ep,.bool false,qN]) _;generalize (w2.setCells g (j*6) [J s.cls,qZ s.name,J s.at',J ep,.bool false,qN])=W2 at *;refine (xd9 (P:=λ_=>False) ⟨s,ep,false,[]⟩ ⟨c,fd⟩ _ W2 ⟨none,rfl,λ_=>rfl,none,0,rfl,by simp,by simp,by simp,λi x X=>by simp at X⟩).mono ?_;rintro e w3 ⟨a3,n3,c3,rfl,n,m,a⟩;generalize DP ⟨s,ep,false,[]⟩ ⟨c,fd⟩=x' at *;have a5:Hid (∀i y,i≠j->xs[i]?=some y->∃R:Nat->Prop,¬ R g/\(∀b,R b->w.heap.size<=b)/\Ln R w3 (λk=>w3.cell? (O g (i*6+k))) y):=M.out w3 (hW.trans (.of_below a)) λi k h1 h2 h3 v hv=>Bf a (aa i k h1 h2 h3 v hv);have m0:w3.cell? (O g (j*6))=some (J s.cls):=Bf a (T 0 Zo);have m1:w3.cell? (O g (j*6+1))=some (qZ s.name):=Bf a (T 1 Zo);have m2:w3.cell? (O g (j*6+2))=some (J s.at'):=Bf a (T 2 Zo);have m3:w3.cell? (O g (j*6+3))=some (J ep):=Bf a (T 3 Zo);have m4:w3.cell? (O g (j*6+4))=some (.bool false):=Bf a (T 4 Zo);have m5:w3.cell? (O g (j*6+5))=some (qN):=Bf a (T 5 Zo);have W:=Bh a7 a;clear k0 k1 k2 k3 k4 k5 M L t s0 s1 s2;have f3:∀o,w3.frozen? (O g o)=false:=λo=>(a.frozen (p:=(O g o)) (by simp;omega)).trans (a6 o)
 clear T hW aa a6 a7
 have V:Hid (∀k,k<6->∃u,w3.cell? (O g (j*6+k))=some u):=λk U=>by
  match k,U with
  | 0,_=>exact⟨_,m0⟩
  | 1,_=>exact⟨_,m1⟩
  | 2,_=>exact⟨_,m2⟩
  | 3,_=>exact⟨_,m3⟩
  | 4,_=>exact⟨_,m4⟩
  | 5,_=>exact⟨_,m5⟩
 subst n;go_wp2_with fail;go_ret;rw[HO.out];refine⟨g,xs.length,by simp,?_,(((((W.setCell (by simp;omega) _).setCell (by simp;omega) _).setCell (by simp;omega) _).setCell (by simp;omega) _).setCell (by simp;omega) _).setCell (by simp;omega) _⟩;have:=xld Dc (g:=g) (j:=j) (cap:=xs.length) (xs:=xs) (x':=x') (vs:=[J x'.site.cls,qZ x'.site.name,J x'.site.at',J x'.ez,.bool x'.many,qS a3 x'.lz.length c3]) (Q:=λb=>False\/W2.heap.size<=b) (S:=λb=>w.heap.size<=b) hj a5.out V.out rfl ⟨rfl,rfl,rfl,rfl,rfl,_,rfl,m⟩ (by rintro (h | h)<;>first | exact h | omega) (λb h=>by rcases h with h | h<;>first | exact h.elim | omega) Zo (Bq _) Y;rw[show (xs.set j x').length=xs.length by simp];exact this
def Dr (xs:List QE)(X:QW)(s:QS)(c:Int)(name:ByteArray):List QE × (Int × Int) × Bool:=
 if Dg X.cz.length (Fb xs s X.ez c) then (xs,BF X.cz (Fb xs s X.ez c) name,true)
 else if (BF X.cz c name).1<0 then (xs,BF X.cz c name,false)
 else (Dy xs s X.ez ⟨c,(BF X.cz c name).1⟩,BF X.cz c name,false)
structure FdR (w:qW)(P:Nat->Prop)(v cv hv:Value)(xs:List QE)(X:QW)(s:QS)(w':qW):Prop where
 bel:qY w w'
 cl:Fj P w' v xs
 hc:BK P w' cv X.cz
 hh:BP P w' hv X.heap
 w0:w'.cell? (O w.heap.size 0)=some cv
 w1:w'.cell? (O w.heap.size 1)=some hv
 w2:w'.cell? (O w.heap.size 2)=some (J X.ez)
 st:SiteAt w' (w.heap.size+1) s
theorem FdR.later {w:qW}{P:Nat->Prop}{v cv hv:Value}{xs:List QE}{X:QW}{s:QS}{w' w'':qW}(h:FdR w P v cv hv xs X s w')(a:qY w' w''):FdR w P v cv hv xs X s w'':=
 ⟨Bh h.bel a,h.cl.later Dc a,h.hc.later Bw a,h.hh.later BB a,Bf a h.w0,Bf a h.w1,Bf a h.w2,h.st.later a⟩
theorem xoe {P:Nat->Prop}(xs:List QE)(X:QW)(s:QS)(c:Int)(name:ByteArray)(v cv hv:Value)(w:qW)(G:Fj P w v xs)(H:BK P w cv X.cz)(K:BP P w hv X.heap)(m:(xs.length+1)*72<=140737488355328)(j:∀x∈xs,x.lz.length*16<=281474976710656) :
  Calls Tryz.prog 144 #[v,WV cv hv X.ez,SV s,J c,qZ name] w λe w'=>∃a k,e=.returned (.tuple #[qS a (Dr xs X s c name).1.length k,J (Dr xs X s c name).2.1.1,J (Dr xs X s c name).2.1.2,.bool (Dr xs X s c name).2.2])/\Fj (λb=>w.heap.size<=b) w' (qS a (Dr xs X s c name).1.length k) (Dr xs X s c name).1/\qY w w':=by
 have z:xs.length<=maxLen:=by unfold maxLen;omega
 have t:FdR w P v cv hv xs X s ((w.alloc (qC #[cv,hv,J X.ez] 26)).alloc (qJ s)):=by
  have B:=BG w (qC #[cv,hv,J X.ez] 26) (qJ s);refine⟨B,G.later Dc B,H.later Bw B,K.later BB B,Bf (Bg _ _) (by rw[Bp _ _ _ _ rfl];rfl),Bf (Bg _ _) (by rw[Bp _ _ _ _ rfl];rfl),Bf (Bg _ _) (by rw[Bp _ _ _ _ rfl];rfl),?_⟩;have:=Lf (w.alloc (qC #[cv,hv,J X.ez] 26)) s 105;simpa using this
 obtain⟨ad,cap,rfl,-,-,-,-⟩:=id G;obtain⟨ac,cc,rfl,-,-,-,-⟩:=id H;obtain⟨ah,ch,rfl,-,-,-,-⟩:=id K;clear G H K;go_enter Tryz.func144,Tryz.ntmps144;go_upto_region 1 with (fail);generalize ((w.alloc (qA ac cc ah ch X)).alloc (qJ s))=W0 at *;obtain⟨-,-,-,-,b0,b1,b2,s0,s1,s2⟩:=id t;go_wp2_with fail;refine (xrU xs _ s X.ez c _ t.cl).mono ?_;rintro e w1 ⟨rfl,n⟩;have p:=t.later n;clear t n b0 b1 b2 s0 s1 s2;obtain⟨k,y⟩:∃k,k=Fb xs s X.ez c:=⟨_,rfl⟩;rw[← y];obtain⟨-,-,-,-,b0,b1,b2,s0,s1,s2⟩:=id p;by_cases h0:0<=k
 ·have D:decide (0<=k)=true:=by simpa using h0
  by_cases h1:k<X.cz.length
  ·have C:decide (k<(X.cz.length:Int))=true:=by simpa using h1
   have u:Hid (Dr xs X s c name=(xs,BF X.cz k name,true)):=by show _=_;unfold Dr;rw[← y,if_pos (by simp[Dg,h0,h1])]
   clear y;go_wp2_with fail;refine (Mb X k name _ _ _ p.hc p.hh).mono ?_;rintro e w2 ⟨rfl,i⟩;have o:=p.later i;clear p i b0 b1 b2 s0 s1 s2;go_wp2_with fail;refine (NV xs _ _ o.cl (by omega) j).mono ?_;rintro e w3 ⟨g,rfl,f,L,d⟩;go_wp2;rw[u.out];refine Bt (v:=.tuple #[qG g xs.length xs.length,J (BF X.cz k name).1,J (BF X.cz k name).2,.bool true]) ?_ rfl ⟨_,_,rfl,?_,Bh o.bel d⟩
   ·simp[results,Tryz.results144,go_sem]
   exact (Nz (f.row0 xcN z)).mono Dc λb h=>by have:=o.bel.size;omega
  have C:decide (k<(X.cz.length:Int))=false:=by simpa using h1
  have q:Hid (Dr xs X s c name=if (BF X.cz c name).1<0 then (xs,BF X.cz c name,false) else (Dy xs s X.ez ⟨c,(BF X.cz c name).1⟩,BF X.cz c name,false)):=by show _=_;unfold Dr;rw[← y,if_neg (by simp[Dg];omega)]
  clear y;go_wp2_with fail;refine (Mb X c name _ _ _ p.hc p.hh).mono ?_;rintro e w2 ⟨rfl,i⟩;have o:=p.later i;clear p i b0 b1 b2 s0 s1 s2;obtain⟨-,-,-,-,b0,b1,b2,s0,s1,s2⟩:=id o;generalize BF X.cz c name=r at *;obtain⟨r1,r2⟩:=r;simp only at q ⊢;by_cases hr:r1<0
  ·have u:Hid (Dr xs X s c name=(xs,(r1,r2),false)):=by show _=_;rw[q.out,if_pos hr]
   go_wp2_with fail;refine (NV xs _ _ o.cl (by omega) j).mono ?_;rintro e w3 ⟨g,rfl,f,L,d⟩;go_wp2;rw[u.out];refine Bt (v:=.tuple #[qG g xs.length xs.length,J r1,J r2,.bool false]) ?_ rfl ⟨_,_,rfl,?_,Bh o.bel d⟩
   ·simp[results,Tryz.results144,go_sem]
   exact (Nz (f.row0 xcN z)).mono Dc λb h=>by have:=o.bel.size;omega
  have u:Hid (Dr xs X s c name=(Dy xs s X.ez ⟨c,r1⟩,(r1,r2),false)):=by show _=_;rw[q.out,if_neg hr]
  have F:0<=r1:=by omega
  go_wp2_with fail;refine (xn4 xs _ s X.ez c r1 _ o.cl m j).mono ?_;rintro e w3 ⟨g,k3,rfl,l,d⟩;generalize Dy xs s X.ez ⟨c,r1⟩=ys at *;go_wp2;rw[u.out];refine Bt (v:=.tuple #[qG g ys.length k3,J r1,J r2,.bool false]) ?_ rfl ⟨_,_,rfl,?_,Bh o.bel d⟩
  ·simp[results,Tryz.results144,go_sem]
  exact l.mono Dc λb h=>by have:=o.bel.size;omega
 have D:decide (0<=k)=false:=by simpa using h0
 have q:Hid (Dr xs X s c name=if (BF X.cz c name).1<0 then (xs,BF X.cz c name,false) else (Dy xs s X.ez ⟨c,(BF X.cz c name).1⟩,BF X.cz c name,false)):=by show _=_;unfold Dr;rw[← y,if_neg (by simp[Dg];omega)]
 clear y;go_wp2_with fail;refine (Mb X c name _ _ _ p.hc p.hh).mono ?_;rintro e w2 ⟨rfl,i⟩;have o:=p.later i;clear p i b0 b1 b2 s0 s1 s2;obtain⟨-,-,-,-,b0,b1,b2,s0,s1,s2⟩:=id o;generalize BF X.cz c name=r at *;obtain⟨r1,r2⟩:=r;simp only at q ⊢;by_cases hr:r1<0
 ·have u:Hid (Dr xs X s c name=(xs,(r1,r2),false)):=by show _=_;rw[q.out,if_pos hr]
  go_wp2_with fail;refine (NV xs _ _ o.cl (by omega) j).mono ?_;rintro e w3 ⟨g,rfl,f,L,d⟩;go_wp2;rw[u.out];refine Bt (v:=.tuple #[qG g xs.length xs.length,J r1,J r2,.bool false]) ?_ rfl ⟨_,_,rfl,?_,Bh o.bel d⟩
  ·simp[results,Tryz.results144,go_sem]
  exact (Nz (f.row0 xcN z)).mono Dc λb h=>by have:=o.bel.size;omega
 have u:Hid (Dr xs X s c name=(Dy xs s X.ez ⟨c,r1⟩,(r1,r2),false)):=by show _=_;rw[q.out,if_neg hr]
 have F:0<=r1:=by omega
 go_wp2_with fail;refine (xn4 xs _ s X.ez c r1 _ o.cl m j).mono ?_;rintro e w3 ⟨g,k3,rfl,l,d⟩;generalize Dy xs s X.ez ⟨c,r1⟩=ys at *;go_wp2;rw[u.out];refine Bt (v:=.tuple #[qG g ys.length k3,J r1,J r2,.bool false]) ?_ rfl ⟨_,_,rfl,?_,Bh o.bel d⟩
 ·simp[results,Tryz.results144,go_sem]
 exact l.mono Dc λb h=>by have:=o.bel.size;omega
theorem xlG:∀(l:List QE) (s:QS) (ep:Int) (y:QL),(Dy l s ep y).length<=l.length+1
 | [],s,ep,y=>by simp[Dy]
 | x :: r,s,ep,y=>by
  unfold Dy;split
  ·simp
  simpa using xlG r s ep y
structure CSt where
 cells:List QE
 ts:List QT
 hits:Int
 nots:Int
def Ey (X:QW)(st:CSt)(s:QS)(c:Int)(name:ByteArray):CSt × (Int × Int):=
 (⟨(Dr st.cells X s c name).1,DL st.ts s c,if (Dr st.cells X s c name).2.2 then st.hits+1 else st.hits,if (Dr st.cells X s c name).2.2 then st.nots else st.nots+1⟩,(Dr st.cells X s c name).2.1)
def Ds (X:QW)(fuel:Int):Env CSt:=⟨X.cz,fuel,Ey X,NX⟩
theorem xf2 (x:QE)(y:QL):(DP x y).lz.length<=3\/(DP x y).lz.length<=x.lz.length:=by
 unfold DP;split
 ·exact Or.inr (Bq _)
 split
 ·exact Or.inl (by simp)
 exact Or.inl (by simp;omega)
theorem xnz (s:QS)(ep:Int)(y:QL):∀(l:List QE) (z:QE),z∈Dy l s ep y->z.lz.length<=3\/∃x∈l,z.lz.length<=x.lz.length
 | [],z,h=>by
  simp[Dy] at h;subst h;rcases xf2 ⟨s,ep,false,[]⟩ y with h | h
  ·exact Or.inl h
  exact Or.inl (by simp at h;simp[h])
 | x :: r,z,h=>by
  unfold Dy at h;split at h
  ·rw[List.mem_cons] at h;rcases h with rfl | h
   ·rcases xf2 (FQ x s ep) y with h | h
    ·exact Or.inl h
    refine Or.inr ⟨x,by simp,BX h ?_⟩;unfold FQ;split<;>simp
   ·exact Or.inr ⟨z,by simp[h],Bq _⟩
  rw[List.mem_cons] at h;rcases h with rfl | h
  ·exact Or.inr ⟨z,by simp,Bq _⟩
  rcases xnz s ep y r z h with h | ⟨x',a,h⟩
  ·exact Or.inl h
  exact Or.inr ⟨x',by simp[a],h⟩
theorem xje (l:List QE)(X:QW)(s:QS)(c:Int)(nm:ByteArray):(Dr l X s c nm).1.length<=l.length+1/\∀z∈(Dr l X s c nm).1,z.lz.length<=3\/∃x∈l,z.lz.length<=x.lz.length:=by
 unfold Dr;split
 ·exact⟨by simp,λz a=>Or.inr ⟨z,a,Bq _⟩⟩
 split
 ·exact⟨by simp,λz a=>Or.inr ⟨z,a,Bq _⟩⟩
 exact⟨xlG _ _ _ _,λz a=>xnz _ _ _ _ z a⟩
theorem xg5:∀(ls:List QL) (c:Int),(GP ls c).length<=ls.length+1
 | [],c=>by simp[GP]
 | x :: r,c=>by
  unfold GP;split
  ·simp
  simpa using xg5 r c
theorem xkC (s:QS)(c:Int):∀l:List QT,(DL l s c).length<=l.length+1/\∀z∈DL l s c,z.lz.length<=1\/∃x∈l,z.lz.length<=x.lz.length+1
 | []=>⟨by simp[DL],λz a=>by simp[DL] at a;subst a;exact Or.inl (by simp)⟩
 | x :: r=>by
  obtain⟨b,d⟩:=xkC s c r;unfold DL;split
  ·refine⟨by simp,λz a=>?_⟩;rw[List.mem_cons] at a;rcases a with rfl | a
   ·exact Or.inr ⟨x,by simp,xg5 _ _⟩
   exact Or.inr ⟨z,by simp[a],by omega⟩
  refine⟨by simpa using b,λz a=>?_⟩;rw[List.mem_cons] at a;rcases a with rfl | a
  ·exact Or.inr ⟨z,by simp,by omega⟩
  rcases d z a with h | ⟨x',e,h⟩
  ·exact Or.inl h
  exact Or.inr ⟨x',by simp[e],h⟩
abbrev OB (lv tv:Value)(st:CSt):Obj:=qC #[qN,qN,J 0,J 0,J 0,J 0,J 0,lv,tv,J st.hits,J st.nots] 100 (0,0)
structure CFew (st:CSt)(n:Nat):Prop where
 c:st.cells.length+n+1<=1000000000000
 cl:∀x∈st.cells,x.lz.length<=1000000000000
 t:st.ts.length+n+1<=1000000000000
 tl:∀x∈st.ts,x.lz.length+n+1<=1000000000000
 h:0<=st.hits/\st.hits+n<=1000000000
 k:0<=st.nots/\st.nots+n<=1000000000
theorem CFew.mono {st:CSt}{n n':Nat}(h:CFew st n)(b:n'<=n):CFew st n' where
 c:=by have:=h.c;omega
 cl:=h.cl
 t:=by have:=h.t;omega
 tl:=λx a=>by have:=h.tl x a;omega
 h:=by have:=h.h;omega
 k:=by have:=h.k;omega
theorem CFew.look {st:CSt}{n:Nat}(h:CFew st (n+1))(X:QW)(s:QS)(c:Int)(nm:ByteArray):CFew (Ey X st s c nm).1 n where
 c:=by
  have a:=h.c;have e:=(xje st.cells X s c nm).1;show (Dr st.cells X s c nm).1.length+n+1<=_;omega
 cl:=λx d=>by
  rcases (xje st.cells X s c nm).2 x d with h' | ⟨y,b,h'⟩
  ·omega
  have:=h.cl y b;omega
 t:=by
  have a:=h.t;have e:=(xkC s c st.ts).1;show (DL st.ts s c).length+n+1<=_;omega
 tl:=λx d=>by
  have a:=h.t;rcases (xkC s c st.ts).2 x d with h' | ⟨y,b,h'⟩
  ·omega
  have:=h.tl y b;omega
 h:=by
  have a:=h.h;unfold Ey;simp only;split<;>omega
 k:=by
  have a:=h.k;unfold Ey;simp only;split<;>omega
theorem IsRow.fxl {α:Type}{E:CT α}{sz bytes:Nat}{t lo:Nat}{T T':Nat->Nat}{S:Nat->Prop}{w w':qW}{v:Value}{xs:List α}(h:IsRow E sz bytes (λb=>lo<=b/\b<w.heap.size/\T b=t) w v xs)(G:Good E sz)(e:Ext T T' w)(k:Kp S T w w')(c:¬ S t):IsRow E sz bytes (λb=>lo<=b/\b<w'.heap.size/\T' b=t) w' v xs:=
 h.keep G (Keeps.of_block λb a d=>k.blk b d (by rw[a.2.2];exact c)) λb a=>⟨a.1,Cd a.2.1 k.size,by rw[e b a.2.1];exact a.2.2⟩
structure LcP (X:QW)(pb wb ob lo:Nat)(cv hv:Value)(T:Nat->Nat)(w:qW)(st:CSt)(n:Nat):Prop where
 tp:T pb=0
 lp:pb<w.heap.size
 p0:w.cell? (O pb 0)=some (qP ob)
 lk:LkP X wb cv hv T w () 0
 to3:T ob=3
 ll:lo<=w.heap.size
 box:∃a m k g j i,w.heap[ob]?=some (OB (qS a m k) (qS g j i) st)/\Fj (λb=>lo<=b/\b<w.heap.size/\T b=0) w (qS a m k) st.cells/\Ep (λb=>lo<=b/\b<w.heap.size/\T b=0) w (qS g j i) st.ts
 few:CFew st n
theorem LcP.keep {X:QW}{pb wb ob lo:Nat}{cv hv:Value}{T T':Nat->Nat}{w w':qW}{st:CSt}{n:Nat}{S:Nat->Prop}(h:LcP X pb wb ob lo cv hv T w st n)(e:Ext T T' w)(k:Kp S T w w')(b:¬ S 0)(c:¬ S 3):LcP X pb wb ob lo cv hv T' w' st n:=by
 obtain⟨a,m,kk,g,j,i,b1,b2,b3⟩:=h.box;exact⟨by rw[e _ h.lp];exact h.tp,Cd h.lp k.size,k.cell h.p0 (by rw[h.tp];exact b),h.lk.keep e k b,by rw[e _ (By b1)];exact h.to3,BX h.ll k.size,⟨a,m,kk,g,j,i,k.held b1 (by rw[h.to3];exact c),b2.fxl Dc e k b,b3.fxl xbD e k b⟩,h.few⟩
theorem LcP.mono {X:QW}{pb wb ob lo:Nat}{cv hv:Value}{T:Nat->Nat}{w:qW}{st:CSt}{n n':Nat}(h:LcP X pb wb ob lo cv hv T w st n)(a:n'<=n):LcP X pb wb ob lo cv hv T w st n':=⟨h.tp,h.lp,h.p0,h.lk,h.to3,h.ll,h.box,h.few.mono a⟩
end Go.Proofs.YtbafokihegegiaaGreatDoor
