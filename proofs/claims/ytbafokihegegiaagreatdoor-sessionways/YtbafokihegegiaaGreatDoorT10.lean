/- A part. -/
import Derived.Test.YtbafokihegegiaaGreatDoorT9
namespace Go.Proofs.YtbafokihegegiaaGreatDoor
open Go.ChangeShapes Go.WideShapes Go.ChangeAt Go.RowKit
set_option linter.unusedSimpArgs false
set_option linter.unusedVariables false
set_option maxHeartbeats 8000000
def DL:List QT->QS->Int->List QT
 | [],s,c=>[⟨s,[⟨c,1⟩]⟩]
 | x :: r,s,c=>if Cw x.site s then ⟨x.site,GP x.lz c⟩ :: r else x :: DL r s c
theorem xja:∀ {xs:List QT} {s:QS} {c:Int},CB (λx=>Cw x.site s) xs=-1->DL xs s c=xs++[⟨s,[⟨c,1⟩]⟩]
 | [],s,c,_=>rfl
 | x :: r,s,c,h=>by
  have a:Cw x.site s=false:=by
   cases d:Cw x.site s with
   | false=>rfl
   | true=>rw[Kq (j:=0) (x:=x) rfl d (λi y f _=>by omega)] at h;simp at h
  have e:CB (λx:QT=>Cw x.site s) r=-1:=by
   unfold CB at h ⊢;rw[List.findIdx?_cons,a] at h
   cases b:r.findIdx? (λx=>Cw x.site s) with
   | none=>rfl
   | some k=>rw[b] at h;simp at h;omega
  simp[DL,a,xja e]
theorem xnx:∀ {xs:List QT} {s:QS} {c:Int} {j:Nat} {x:QT},xs[j]?=some x->Cw x.site s=true->(∀i y,i<j->xs[i]?=some y->Cw y.site s=false)->DL xs s c=xs.set j ⟨x.site,GP x.lz c⟩
 | [],s,c,j,x,h,_,_=>by simp at h
 | y :: r,s,c,0,x,h,hp,_=>by
  simp at h;subst h;simp[DL,hp]
 | y :: r,s,c,j+1,x,h,hp,hn=>by
  have a:=hn 0 y (by omega) rfl;simp only[DL,a,List.set_cons_succ];rw[xnx (xs:=r) (j:=j) (x:=x) (by simpa using h) hp (λi z d b=>hn (i+1) z (by omega) (by simpa using b))];rfl
theorem xjk {w:qW}{g j cap:Nat}{xs:List QT}{x:QT}{v':Value}{c:List QL}{Q S:Nat->Prop}(F:xs[j]?=some x)
  (a:∀i y,i≠j->xs[i]?=some y->∃R:Nat->Prop,¬ R g/\(∀b,R b->S b)/\Mh R w (λk=>w.cell? (O g (i*4+k))) y)
  (z:w.cell? (O g (j*4+0))=some (J x.site.cls)) (s:w.cell? (O g (j*4+1))=some (qZ x.site.name)) (C:w.cell? (O g (j*4+2))=some (J x.site.at')) {u:Value} (G:w.cell? (O g (j*4+3))=some u)
  (B:Fw Q w v' c) (t:¬ Q g) (m:∀b,Q b->S b) (f:S g) (l:xs.length<=cap) (d:cap<=maxLen):Ep S (w.setCell (O g (j*4+3)) v') (qG g xs.length cap) (xs.set j ⟨x.site,c⟩):=by
 have p:=Kw G v';have n:∀o,o≠j*4+3->(w.setCell (O g (j*4+3)) v').cell? (O g o)=w.cell? (O g o):=λo K=>DX _ _ _ _ (by intro e;injection e with _ e2 _;omega);refine⟨some (O g 0),cap,by simp,by simpa using l,d,by simp,λi y q=>⟨g,0,rfl,f,?_⟩⟩;by_cases hij:i=j
 ·subst hij;rw[List.getElem?_set_self (Bz F)] at q
  cases q;simp only[Nat.zero_add];refine⟨(n (i*4+0) (by omega)).trans z,(n (i*4+1) (by omega)).trans s,(n (i*4+2) (by omega)).trans C,v',p,?_⟩;exact B.keep Db (Keeps.of_setCell t _) m
 rw[List.getElem?_set_ne (by omega)] at q;obtain⟨R,D,h,r⟩:=a i y hij q;simp only[Nat.zero_add];refine xbD.move r h (Keeps.of_setCell D _) λk H v hv=>?_;rw[n _ (by omega)];exact hv
theorem OneLeft.cell {w w':qW}{g:Option Nat}{ls:List QL}{e:Ending}(h:OneLeft w g ls e w'){b o:Nat}{v:Value}(a:w.cell? (O b o)=some v)(c:some b≠g):w'.cell? (O b o)=some v:=by
 obtain⟨-,-,-,-,-,-,d,-⟩:=h;have f:=World.block_lt_of_cell? _ _ a;rw[World.cell?_of_block (d b f c)];exact a
theorem OneLeft.frozen {w w':qW}{g:Option Nat}{ls:List QL}{e:Ending}(h:OneLeft w g ls e w'){b:Nat}(c:b<w.heap.size)(d:some b≠g):∀o,w'.frozen? (O b o)=w.frozen? (O b o):=λo=>by
 obtain⟨-,-,-,-,-,-,a,-⟩:=h;exact World.frozen?_of_block (a b c d)
theorem OneLeft.below {w w':qW}{g:Option Nat}{ls:List QL}{e:Ending}(h:OneLeft w g ls e w'){B:Nat}(m:B<=w.heap.size)(i:∀b,g=some b->B<=b):Below B w w':=by
 obtain⟨-,-,-,-,-,-,a,f,j,c,d⟩:=h;exact⟨f,j,c,d,λk l=>a k (by omega) λe=>by have:=i k e.symm;omega⟩
theorem xrm {P:Nat->Prop}(xs:List QT)(v:Value)(s:QS)(c:Int)(w:qW)(hh:Ep P w v xs)(D:(xs.length+1)*56<=140737488355328)(u:∀x∈xs,(x.lz.length+1)*16<=140737488355328) :
  Calls Tryz.prog 145 #[v,SV s,J c] w λe w'=>∃g cap,e=.returned (qG g (DL xs s c).length cap)/\Ep (λb=>w.heap.size<=b) w' (qG g (DL xs s c).length cap) (DL xs s c)/\qY w w':=by
 have hm:=Gm;have Z:xs.length<=maxLen:=by unfold maxLen;omega
 have V:∀x∈xs,x.lz.length<=maxLen:=λx N=>by have:=u x N;unfold maxLen;omega
 obtain⟨ad,cap,rfl,-,-,-,-⟩:=id hh;have a1:=Bg w (qJ s);have a0:=Lf w s 105;go_enter Tryz.func145,Tryz.ntmps145;go_wp2_with fail;refine (xg4 xs _ _ (hh.later xbD a1) (by omega) (λx N=>by have:=u x N;omega)).mono ?_;rintro e w1 ⟨g,gs,rfl,H,hg,t⟩;have Q:=a0.later t;have Y:qY w w1:=EB (Br _ _) t;have ag:w.heap.size<g:=by simp at hg;omega
 clear t a1 a0 hg hh;go_wp2_with fail;refine (xkO _ (λx=>Cw x.site s) xs _ _ (H.tallies Z V (P:=λb=>g<=b) λb h _=>h) λx a n k w' a4=>xkT x a n k _ s w' (Q.later a4)).mono ?_;rintro e w2 ⟨rfl,l⟩;replace H:=H.later l;replace Q:=Q.later l;have M:qY w w2:=Bh Y l;clear l Y hm;rcases MT (λx:QT=>Cw x.site s) xs with hf | ⟨j,x,hf,N,hp,hn⟩
 ·have HO:Hid (DL xs s c=xs++[⟨s,[⟨c,1⟩]⟩]):=xja hf;rw[hf];obtain⟨s0,s1,s2⟩:=Q;have X:=H.tallies Z V (P:=λb=>g<=b/\b<w2.heap.size) λb h h'=>⟨h,h'⟩
  go_wp2_with (at_builtin;refine Qr (R:=λb=>g<=b/\b<w2.heap.size) xbD rfl (.tmp 18) (.tmp 21) 28 rfl 111 _ 56 Tryz.underlying28 xoR rfl xs _ rfl (X.later xbD (Bg _ _)) _ 111 [J s.cls,qZ s.name,J s.at',qN] rfl (BH _ _) rfl ⟨s,[]⟩ (P':=λb=>False) ⟨rfl,rfl,rfl,_,rfl,none,0,rfl,by simp,by simp,by simp,λi x N=>by simp at N⟩ (λh=>by cases h) (by unfold maxLen;omega) D (λ_ h=>h) (λ_ h=>h.elim) ?_;intro g' cap' w3 r F m B q;obtain⟨G,q1,q2,q3,q4,q5,q6⟩:=q;have k3:=q6 3 _ rfl;have fz3:∀o,w3.frozen? (O g' o)=false:=(λo=>by simp[World.frozen?,q1]);have ai:(xs.length:Int)<(xs.length:Int)+1:=(by omega);have ah:(0:Int)<=(xs.length:Int):=(by omega);clear r);refine (xlk c w3).mono ?_;rintro e w4 d;have a8:w2.heap.size+1<=g':=by simpa using F
  have a6:=M.size;have K:Hid (qY w3 w4):=d.below (Bq _) (λb h=>by cases h);have U:qY w w3:=EB M B;obtain⟨r0,r1,r2⟩:w4.cell? (O g' (xs.length*4+0))=some (J s.cls)/\w4.cell? (O g' (xs.length*4+1))=some (qZ s.name)/\w4.cell? (O g' (xs.length*4+2))=some (J s.at'):=⟨Bf K.out (q6 0 _ rfl),Bf K.out (q6 1 _ rfl),Bf K.out (q6 2 _ rfl)⟩;have r3:=Bf K.out k3;have f4:∀o,w4.frozen? (O g' o)=false:=λo=>(d.frozen m (by simp) o).trans (fz3 o);obtain⟨g4,z,rfl,p,f,C,-⟩:=d;have a7:w3.heap.size<=g4:=f.resolve_left (by simp)
  have T:Hid (∀i y,i≠xs.length->(xs++[(⟨s,[]⟩:QT)])[i]?=some y->∃R:Nat->Prop,¬ R g'/\(∀b,R b->w.heap.size<=b)/\Mh R w4 (λk=>w4.cell? (O g' (i*4+k))) y):=λi y hi hy=>by
   refine⟨λb=>g<=b/\b<w2.heap.size,λh=>by omega,λb h=>by omega,?_⟩;refine xbD.move (q5.2 i y hy) (λ_ h=>h) (.of_below K.out) λk hk v hv=>?_;rw[List.getElem?_take] at hv;split at hv
   ·refine Bf K.out ?_;rw[Bn q1];simpa using hv
   cases hv
  clear B k3 fz3 q6 q5 X hf m;go_wp2_with fail;go_ret;rw[HO.out];refine⟨g',cap',by simp,?_,(U.trans (K.out.mono U.size)).setCell (by simp;omega) _⟩;have:=xjk (g:=g') (j:=xs.length) (cap:=cap') (xs:=xs++[⟨s,[]⟩]) (x:=⟨s,[]⟩) (S:=λb=>w.heap.size<=b) (by simp) T.out r0 r1 r2 r3 p (by intro h;have:=By q1;omega) (λb h=>by have:=U.size;omega) (by omega) (by simpa using q3) q4;simpa using this
 have HO:Hid (DL xs s c=xs.set j ⟨x.site,GP x.lz c⟩):=xnx N hp hn;have hj:=Bz N;have ab:(0:Int)<=(j:Int):=by omega
 have a9:(j:Int)<(xs.length:Int):=by omega
 have a5:=u x (List.mem_of_getElem? N);have HX:Hid (xs[j]?=some x):=N;rw[hf];obtain⟨k0,k1,k2,k3⟩:=H.cells j x hj N;have a3:=H.lz j x hj N;have aa:=H.reach j hj
 have fz2:∀o,w2.frozen? (O g o)=false:=by
  obtain⟨cur,h1,-⟩:=H.row;intro o;simp[World.frozen?,h1]
 clear hf hn N Q;go_wp2_with fail;refine (xk8 x.lz (gs j) c w2 a3 a5).mono ?_;rintro e w3 d;have a6:=M.size;have a2:Hid (Below (gs j) w2 w3):=d.below (by omega) (λb h=>by cases h;exact Bq _);have L:some g≠some (gs j):=by simp;omega
 obtain⟨r0,r1,r2,r3⟩:w3.cell? (O g (j*4+0))=some (J x.site.cls)/\w3.cell? (O g (j*4+1))=some (qZ x.site.name)/\w3.cell? (O g (j*4+2))=some (J x.site.at')/\w3.cell? (O g (j*4+3))=some (qS (some (O (gs j) 0)) x.lz.length x.lz.length):=⟨d.cell k0 L,d.cell k1 L,d.cell k2 L,d.cell k3 L⟩;have f3:∀o,w3.frozen? (O g o)=false:=λo=>(d.frozen (by omega) L o).trans (fz2 o)
 have T:Hid (∀i y,i≠j->xs[i]?=some y->∃R:Nat->Prop,¬ R g/\(∀b,R b->w.heap.size<=b)/\Mh R w3 (λk=>w3.cell? (O g (i*4+k))) y):=λi y hi hy=>by
  have W:=Bz hy;have af:=H.reach i W
  have aj:gs i≠gs j:=by
   rcases Nat.lt_or_ge i j with h | h
   ·have:=H.rise i j h hj;omega
   have:=H.rise j i (by omega) W;omega
  obtain⟨c0,c1,c2,c3⟩:=H.cells i y W hy;refine⟨λb=>b=gs i,λh=>by omega,λb h=>by omega,d.cell c0 L,d.cell c1 L,d.cell c2 L,_,d.cell c3 L,?_⟩;refine ((H.lz i y W hy).isLines (V y (List.mem_of_getElem? hy)) (P:=λb=>b=gs i) rfl).keep Db (λb o v hb hc=>?_) λ_ h=>h;exact d.cell hc (by subst hb;simp;omega)
 obtain⟨g4,z,rfl,p,f,C,-⟩:=d;clear k0 k1 k2 k3 fz2 a3 H;go_wp2_with fail;go_ret;rw[HO.out];refine⟨g,xs.length,by simp,?_,(M.trans (a2.out.mono (by omega))).setCell (by simp;omega) _⟩
 have ae:g<g4:=by
  rcases f with h | h
  ·cases h;omega
  omega
 have:=xjk (g:=g) (j:=j) (cap:=xs.length) (xs:=xs) (x:=x) (S:=λb=>w.heap.size<=b) HX.out T.out r0 r1 r2 r3 p (by omega) (λb h=>by omega) (by omega) (Bq _) Z;simpa using this
set_option maxRecDepth 8000
theorem xfJ (w:qW)(cs:Array Value)(t:TypeId)(n j:Nat)(a:w.heap.size=n):(w.alloc (.cells cs t)).frozen? (O n j)=false:=by
 subst a;unfold World.frozen?;rw[show (w.alloc (.cells cs t)).heap[((O w.heap.size j):Addr).block]?=some (.cells cs t) from BH w _];simp
def Tight (P:Nat->Prop)(w:qW)(v:Value)(ls:List QL):Prop:=∃a,v=qS a ls.length ls.length/\(a=none->ls=[])/\Fw P w v ls
theorem Tight.keep {P Q:Nat->Prop}{w w':qW}{v:Value}{ls:List QL}(h:Tight P w v ls)(e:Keeps P w w')(d:∀b,P b->Q b):Tight Q w' v ls:=by
 obtain⟨a,c,f,g⟩:=h;exact⟨a,c,f,g.keep Db e d⟩
def CellT:CT QE:=λP w f x=>f 0=some (J x.site.cls)/\f 1=some (qZ x.site.name)/\f 2=some (J x.site.at')/\f 3=some (J x.ez)/\f 4=some (.bool x.many)/\∃v,f 5=some v/\Tight P w v x.lz
theorem xcN:Good CellT 6 where
 move h hl hk hf:=by
  obtain⟨d,b,f,g,c,v,e,i⟩:=h;exact⟨hf 0 (by omega) _ d,hf 1 (by omega) _ b,hf 2 (by omega) _ f,hf 3 (by omega) _ g,hf 4 (by omega) _ c,v,hf 5 (by omega) _ e,i.keep hk hl⟩
 there h k hk:=by
  obtain⟨d,b,f,g,c,v,e,a,rfl,-⟩:=h
  match k,hk with
  | 0,_=>exact⟨_,d,rfl⟩
  | 1,_=>exact⟨_,b,rfl⟩
  | 2,_=>exact⟨_,f,rfl⟩
  | 3,_=>exact⟨_,g,rfl⟩
  | 4,_=>exact⟨_,c,rfl⟩
  | 5,_=>exact⟨_,e,rfl⟩
 pos:=by omega
theorem CellT.plain {P:Nat->Prop}{w:qW}{f:Nat->Option Value}{x:QE}(h:CellT P w f x):Ln P w f x:=by
 obtain⟨d,b,i,j,c,v,g,a,-,-,e⟩:=h;exact⟨d,b,i,j,c,v,g,e⟩
theorem Nz {P:Nat->Prop}{w:qW}{v:Value}{xs:List QE}(h:IsRow CellT 6 0 P w v xs):Fj P w v xs:=by
 obtain⟨ad,cap,a,e,g,c,d⟩:=h;refine⟨ad,cap,a,e,g,c,λi x f=>?_⟩;obtain⟨b,o,e1,e2,e3⟩:=d i x f;exact⟨b,o,e1,e2,e3.plain⟩
theorem OwnSt.row0 {α:Type}{E:CT α}{sz:Nat}{t:TypeId}{w:qW}{B:Nat}{xs:List α}(h:OwnSt E sz t w B xs xs.length)(G:Good E sz)(d:xs.length<=maxLen):IsRow E sz 0 (λb=>B<=b/\b<w.heap.size) w (qG B xs.length xs.length) xs:=by
 obtain⟨⟨cur,c,f⟩,e⟩:=h;refine⟨_,_,rfl,Bq _,d,by simp,λi x a=>⟨B,0,rfl,⟨Bq _,By c⟩,?_⟩⟩;exact G.move (e i x (Bz a) a) (λb h=>⟨by omega,h.2⟩) (.refl _ _) λk _ v hv=>by rw[Nat.zero_add];exact hv
theorem xnb:(Tryz.prog.info? 108).map (λi=>(i.zero,i.size,i.bytes))=some (some (.agg #[J 0,qZ ⟨#[]⟩,J 0,J 0,.bool false,qN]),6,72):=by kernel_rfl
theorem xmz (n:Nat)(a:n*72<=281474976710656):Lz 27 108 #[J 0,qZ ⟨#[]⟩,J 0,J 0,.bool false,qN] 6 n:=λw=>xgb Tryz.underlying27 xnb (by omega) n a rfl w
structure BoxE (w:qW)(b:Nat)(x:QE)(lv:Value):Prop where
 c0:w.cell? (O b 0)=some (J x.site.cls)
 c1:w.cell? (O b 1)=some (qZ x.site.name)
 c2:w.cell? (O b 2)=some (J x.site.at')
 c3:w.cell? (O b 3)=some (J x.ez)
 c4:w.cell? (O b 4)=some (.bool x.many)
 c5:w.cell? (O b 5)=some lv
theorem BoxE.later {w w':qW}{b:Nat}{x:QE}{lv:Value}(h:BoxE w b x lv)(a:qY w w'):BoxE w' b x lv:=⟨Bf a h.c0,Bf a h.c1,Bf a h.c2,Bf a h.c3,Bf a h.c4,Bf a h.c5⟩
theorem xiJ (w:qW)(x:QE)(lv:Value)(t:TypeId):BoxE (w.alloc (qC #[J x.site.cls,qZ x.site.name,J x.site.at',J x.ez,.bool x.many,lv] t)) w.heap.size x lv:=⟨by rw[Bp _ _ _ _ rfl];rfl,by rw[Bp _ _ _ _ rfl];rfl,by rw[Bp _ _ _ _ rfl];rfl,by rw[Bp _ _ _ _ rfl];rfl,by rw[Bp _ _ _ _ rfl];rfl,by rw[Bp _ _ _ _ rfl];rfl⟩
theorem xq0 {P:Nat->Prop}{w:qW}{g b:Nat}{ls:List QL}(h:Fw P w (qG g ls.length ls.length) ls)(a:¬ P b)(o:Nat)(u:Value):Tight P (w.setCell (O b o) u) (qG g ls.length ls.length) ls:=
 ⟨_,rfl,λh=>(by cases h),h.keep Db (Keeps.of_setCell a _) λ_ h=>h⟩
theorem NV {P:Nat->Prop}(xs:List QE)(v:Value)(w:qW)(hh:Fj P w v xs)(z:xs.length*72<=281474976710656)(u:∀x∈xs,x.lz.length*16<=281474976710656):Calls Tryz.prog 33 #[v] w λe w'=>∃g,e=.returned (qG g xs.length xs.length)/\OwnSt CellT 6 108 w' g xs xs.length/\w.heap.size<=g/\qY w w':=by
 obtain⟨ad,cap,rfl,hl,B,-,i⟩:=hh;have Q:=xmz xs.length z;go_enter Tryz.func33,Tryz.ntmps33;go_wp2
 go_loopg [11] xs.length (λg c wr=>∃j:Nat,j+g=xs.length/\c=J j/\qY w wr/\OwnSt CellT 6 108 wr w.heap.size xs j/\w.heap.size<wr.heap.size)
 case atStart=>exact⟨0,by omega,rfl,Bg _ _,OwnSt.start _ _ (size_madeCells _ _),by simp⟩
 case round=>
  obtain⟨j,hj,rfl,a,f,hz⟩:=hrel;clear Q;by_cases hlt:j<xs.length
  ·obtain⟨b,o,rfl,-,k,t,m,n,s,sv,l,r⟩:=i j xs[j] (by simp[hlt]);have N:Hid (xs[j]?=some xs[j]):=by show _=_;simp[hlt]
   have R:=u xs[j] (by simp);generalize xs[j]=x at *;simp only[Nat.add_zero] at k;have u0:=Bf a k;have u1:=Bf a t;have u2:=Bf a m;have u3:=Bf a n;have u4:=Bf a s;have u5:=Bf a l;have D:=r.later Db a;obtain⟨y,q,rfl,-,-,-,-⟩:=id D;clear k t m n s l r i;have X:(j:Int)<(xs.length:Int):=by omega
   have Y:(0:Int)<=(j:Int):=by omega
   go_wp2_with fail;refine (xi0 x.lz _ _ (D.later Db (Bg _ _)) R).mono ?_;rintro e w1 ⟨g,rfl,d,V,K⟩;have S:=(xiJ wr x (qS y x.lz.length q) 108).later K;have F:=(f.later xcN (Bg _ _)).later xcN K;have H:=EB a K;have a1:wr.heap.size<g:=by simp at V;omega
   have Z:∀o,w1.frozen? (O wr.heap.size o)=false:=λo=>(K.frozen (p:=(O wr.heap.size o)) (by simp)).trans (xfJ wr _ _ _ _ rfl);have a0:wr.heap.size+1<=w1.heap.size:=by have:=K.size;simpa using this
   have G:qY wr w1:=EB (Br _ _) K;have T:Hid (OwnSt CellT 6 108 (w1.setCell (O wr.heap.size 5) (qG g x.lz.length x.lz.length)) w.heap.size xs j):=f.later xcN (G.setCell (Bq _) _);have L:Hid (Tight (λb=>b=g) (w1.setCell (O wr.heap.size 5) (qG g x.lz.length x.lz.length)) (qG g x.lz.length x.lz.length) x.lz):=xq0 (d.isLines (by unfold maxLen;omega) (P:=λb=>b=g) rfl) (by show ¬ (wr.heap.size=g);omega) _ _;have M:Hid (g<w1.heap.size):=by obtain⟨⟨C,q1,-⟩,-⟩:=d;exact By q1
   clear f D u0 u1 u2 u3 u4 u5 K V G d;generalize wr.heap.size=TB at *;obtain⟨c0,c1,c2,c3,c4,c5⟩:=S;obtain⟨⟨cur,k1,k2⟩,k3⟩:=id F;have f1:∀o,w1.frozen? (O w.heap.size o)=false:=F.unfrozen;have W:¬ TB=w.heap.size:=by omega
   have U:¬ w.heap.size=TB:=by omega
   have e0:w1.cell? (O w.heap.size (j*6))=some (cur[j*6]'(by omega)):=(by rw[Bn k1];simp)
   have e1:w1.cell? (O w.heap.size (j*6+1))=some (cur[j*6+1]'(by omega)):=(by rw[Bn k1];simp)
   have e2:w1.cell? (O w.heap.size (j*6+2))=some (cur[j*6+2]'(by omega)):=(by rw[Bn k1];simp)
   have e3:w1.cell? (O w.heap.size (j*6+3))=some (cur[j*6+3]'(by omega)):=(by rw[Bn k1];simp)
   have e4:w1.cell? (O w.heap.size (j*6+4))=some (cur[j*6+4]'(by omega)):=(by rw[Bn k1];simp)
   have e5:w1.cell? (O w.heap.size (j*6+5))=some (cur[j*6+5]'(by omega)):=(by rw[Bn k1];simp)
   go_wp2;go_roundg (gk-1)
   case measure=>omega
   case rel=>
    refine⟨j+1,by omega,by go_num,((((((H.setCell (p:=(O TB 5)) (by simp;omega) _).setCell (Bq _) _).setCell (Bq _) _).setCell (Bq _) _).setCell (Bq _) _).setCell (Bq _) _).setCell (Bq _) _,?_,by simp;omega⟩;refine T.out.step xcN N.out (vs:=[J x.site.cls,qZ x.site.name,J x.site.at',J x.ez,.bool x.many,qG g x.lz.length x.lz.length]) rfl ?_;exact⟨rfl,rfl,rfl,rfl,rfl,_,rfl,L.out.keep (.refl _ _) λb h=>⟨by omega,by have:=M.out;simp;omega⟩⟩
  obtain rfl:j=xs.length:=by omega
  go_wp2;go_ret;exact⟨_,rfl,f,Bq _,a⟩
theorem xfR {P:Nat->Prop}(xs:List QE)(v:Value)(s:QS)(w:qW)(d:Fj P w v xs):Calls Tryz.prog 233 #[v,SV s] w λe w'=>e=.returned (J (CB (λx:QE=>Cw x.site s) xs))/\qY w w':=by
 have f:=Gm;go_enter Tryz.func233,Tryz.ntmps233;go_wp2_with fail;refine (xkZ _ (λx:QE=>Cw x.site s) xs v _ (d.later Dc (Bg _ _)) λx a n c w' b=>xmN x a n c _ s w' ((Lf w s 105).later b)).mono ?_;rintro e w1 ⟨rfl,b⟩;go_wp2;go_ret;exact⟨rfl,EB (Br _ _) b⟩
theorem Qz {P:Nat->Prop}(xs:List QL)(v:Value)(c:Int)(w:qW)(b:Fw P w v xs):Calls Tryz.prog 234 #[v,J c] w λe w'=>e=.returned (J (CB (λx:QL=>x.cls == c) xs))/\qY w w':=by
 have d:=Gm;go_enter Tryz.func234,Tryz.ntmps234;go_wp2_with fail;refine (xkp _ (λx:QL=>x.cls == c) xs v _ (b.later Db (Bg _ _)) λx w' a=>xjp x _ c w' (Bf a (by rw[Bp _ _ _ _ rfl];rfl))).mono ?_;rintro e w1 ⟨rfl,a⟩;go_wp2;go_ret;exact⟨rfl,EB (Br _ _) a⟩
def Hv (ls:List QL)(c:Int):Int:=((ls.find? λy=>y.cls == c).map (·.found)).getD (-1)
def Fb (xs:List QE)(s:QS)(ep c:Int):Int:=((xs.find? λx=>Cw x.site s).map λx=>if x.ez=ep then Hv x.lz c else -1).getD (-1)
theorem xkd {α:Type}{p:α->Bool}{xs:List α}(h:CB p xs=-1):xs.find? p=none:=by
 rw[List.find?_eq_none];intro x b;obtain⟨i,c,rfl⟩:=List.mem_iff_getElem.1 b;unfold CB at h
 cases a:xs.findIdx? p with
 | none=>rw[List.findIdx?_eq_none_iff] at a;simpa using a _ b
 | some k=>rw[a] at h;simp at h
theorem xn6 {α:Type}{p:α->Bool}{xs:List α}{j:Nat}{x:α}(a:xs[j]?=some x)(d:p x=true)(b:∀i y,i<j->xs[i]?=some y->p y=false):xs.find? p=some x:=by
 induction xs generalizing j with
 | nil=>simp at a
 | cons y r ih=>
  cases j with
  | zero=>simp at a;subst a;simp[d]
  | succ j=>
   have e:=b 0 y (by omega) rfl;rw[List.find?_cons,e];exact ih (by simpa using a) (λi z f c=>b (i+1) z (by omega) (by simpa using c))
theorem xrU {P:Nat->Prop}(xs:List QE)(v:Value)(s:QS)(ep c:Int)(w:qW)(B:Fj P w v xs):Calls Tryz.prog 193 #[v,SV s,J ep,J c] w λe w'=>e=.returned (J (Fb xs s ep c))/\qY w w':=by
 obtain⟨ad,cap,rfl,L,i,-,-⟩:=id B;unfold maxLen at i;have t:=Bg w (qJ s);rcases MT (λx:QE=>Cw x.site s) xs with hf | ⟨j,x,hf,hx,hp,hn⟩
 ·have r:Hid (Fb xs s ep c=-1):=by show _=_;unfold Fb;rw[xkd hf];rfl
  go_enter Tryz.func193,Tryz.ntmps193;go_wp2_with fail;refine (xfR xs _ s _ (B.later Dc t)).mono ?_;rintro e w1 ⟨rfl,f⟩;rw[hf];go_wp2;go_ret;exact⟨BT r.out.symm,EB (Br _ _) f⟩
 have Q:=Bz hx;have H:(0:Int)<=(j:Int):=by omega
 have D:(j:Int)<(xs.length:Int):=by omega
 have z:Hid (Fb xs s ep c=if x.ez=ep then Hv x.lz c else -1):=by show _=_;unfold Fb;rw[xn6 hx hp hn];rfl
 have C:Hid (xs[j]?=some x):=hx;go_enter Tryz.func193,Tryz.ntmps193;go_wp2_with fail;refine (xfR xs _ s _ (B.later Dc t)).mono ?_;rintro e w1 ⟨rfl,f⟩;have p:=EB (Br _ _) f;rw[hf];clear hf hx hp hn t f;obtain⟨l,cap',e',-,-,-,g⟩:=B.later Dc p;simp only[Value.slice.injEq] at e';obtain⟨rfl,-,-⟩:=e';obtain⟨b,o,rfl,-,-,-,-,q3,-,lv,q5,ql⟩:=g j x C.out;clear g B;by_cases he:x.ez=ep
 ·obtain⟨m,k,rfl,n,h,-,d⟩:=id ql;unfold maxLen at h;have u:Hid (Fb xs s ep c=Hv x.lz c):=by show _=_;rw[z.out,if_pos he]
  rcases MT (λy:QL=>y.cls == c) x.lz with hf | ⟨q,y,hf,hy,hpy,hny⟩
  ·have r:Hid (Fb xs s ep c=-1):=by show _=_;rw[u.out];unfold Hv;rw[xkd hf];rfl
   go_wp2_with fail;refine (Qz x.lz _ c _ ql).mono ?_;rintro e w2 ⟨rfl,a⟩;rw[hf];go_wp2;go_ret;exact⟨BT r.out.symm,Bh p a⟩
  have r:Hid (Fb xs s ep c=y.found):=by show _=_;rw[u.out];unfold Hv;rw[xn6 hy hpy hny];rfl
  have M:=Bz hy;have G:(0:Int)<=(q:Int):=by omega
  have F:(q:Int)<(x.lz.length:Int):=by omega
  have K:Hid (x.lz[q]?=some y):=hy;clear hy hpy hny;go_wp2_with fail;refine (Qz x.lz _ c _ ql).mono ?_;rintro e w2 ⟨rfl,a⟩;rw[hf];obtain⟨b3,o3,rfl,-,y0,y1⟩:=d q y K.out;replace y1:=Bf a y1;replace q5:=Bf a q5;clear d;go_wp2;go_ret;exact⟨BT r.out.symm,Bh p a⟩
 have r:Hid (Fb xs s ep c=-1):=by show _=_;rw[z.out,if_neg he]
 have N:(x.ez != ep)=true:=by simpa using he
 go_wp2;go_ret;exact⟨BT r.out.symm,p⟩
def DP (x:QE)(y:QL):QE:=if x.many=true\/0<=CB (λz:QL=>z.cls == y.cls) x.lz then x else if 3<=x.lz.length then ⟨x.site,x.ez,true,[]⟩ else ⟨x.site,x.ez,x.many,x.lz++[y]⟩
def xsK (P:Nat->Prop)(w:qW)(x:QE)(e:Ending)(w':qW):Prop:=
 ∃a n c,e=.returned (EV x (qS a n c))/\n=x.lz.length/\Fw (λb=>P b\/w.heap.size<=b) w' (qS a n c) x.lz/\qY w w'
theorem xrN {w:qW}{g cap n:Nat}{ls:List QL}{R:Nat->Prop}{vs:List Value}(h:∃cur:Array Value,w.heap[g]?=some (.cells cur 147 (0,0))/\cur.size=cap*2/\n+1<=cap/\cap<=maxLen/\Cells FG 2 R w (cur.toList.take ((n+1)*2)) ls/\∀k v,vs[k]?=some v->w.cell? (O g (n*2+k))=some v)(a:ls.length=n+1:=by simp):Fw (λb=>b=g) w (qG g (n+1) cap) ls:=by
 obtain⟨cur,q1,q2,q3,q4,q5,-⟩:=h;have:=Cells.row (E:=FG) (sz:=2) (bytes:=0) (P:=λb=>b=g) (xs:=ls) (g:=g) (cap:=cap) ⟨q5.1,q5.2⟩ Db rfl q1 (by rw[a]) (by omega) q4 (by simp);rw[a] at this;exact this
theorem xd9 {P:Nat->Prop}(x:QE)(y:QL)(lv:Value)(w:qW)(hh:Tight P w lv x.lz):Calls Tryz.prog 235 #[EV x lv,LV y] w λe w'=>xsK P w (DP x y) e w':=by
 obtain⟨ad,rfl,f,Q⟩:=hh;have r:=DW w (qC #[J x.site.cls,qZ x.site.name,J x.site.at',J x.ez,.bool x.many,qS ad x.lz.length x.lz.length] 108) (qC #[J y.cls,J y.found] 147) (qC #[J 0,qZ ⟨#[]⟩,J 0,J 0,.bool false,qN] 108);by_cases hm:x.many=true
 ·have B:Hid (DP x y=x):=by show _=_;unfold DP;rw[if_pos (Or.inl hm)]
  go_enter Tryz.func235,Tryz.ntmps235;go_wp2;refine Bt (v:=EV x (qS ad x.lz.length x.lz.length)) ?_ rfl ?_
  ·simp[results,Tryz.results235,go_sem,hm]
  rw[B.out];refine⟨ad,_,_,rfl,rfl,?_,?_⟩
  ·exact (Q.later Db (DW _ _ _ _)).mono Db λb h=>Or.inl h
  exact DW _ _ _ _
 have t:x.many=false:=by simpa using hm
 clear hm;have F:=((xiJ w x (qS ad x.lz.length x.lz.length) 108).later (Bg _ (qC #[J y.cls,J y.found] 147))).later (Bg _ (qC #[J 0,qZ ⟨#[]⟩,J 0,J 0,.bool false,qN] 108));have G:=xiJ ((w.alloc (qC #[J x.site.cls,qZ x.site.name,J x.site.at',J x.ez,.bool x.many,qS ad x.lz.length x.lz.length] 108)).alloc (qC #[J y.cls,J y.found] 147)) ⟨⟨0,⟨#[]⟩,0⟩,0,false,[]⟩ (qN) 108;have D:((w.alloc (qC #[J x.site.cls,qZ x.site.name,J x.site.at',J x.ez,.bool x.many,qS ad x.lz.length x.lz.length] 108)).alloc (qC #[J y.cls,J y.found] 147)).heap.size=w.heap.size+1+1:=by simp
 rw[D] at G;have K:(((w.alloc (qC #[J x.site.cls,qZ x.site.name,J x.site.at',J x.ez,.bool x.many,qS ad x.lz.length x.lz.length] 108)).alloc (qC #[J y.cls,J y.found] 147)).alloc (qC #[J 0,qZ ⟨#[]⟩,J 0,J 0,.bool false,qN] 108)).cell? (O (w.heap.size+1) 0)=some (J y.cls):=Bf (Bg _ _) (by rw[Bp _ _ _ _ (by simp)];rfl);have H:(((w.alloc (qC #[J x.site.cls,qZ x.site.name,J x.site.at',J x.ez,.bool x.many,qS ad x.lz.length x.lz.length] 108)).alloc (qC #[J y.cls,J y.found] 147)).alloc (qC #[J 0,qZ ⟨#[]⟩,J 0,J 0,.bool false,qN] 108)).cell? (O (w.heap.size+1) 1)=some (J y.found):=Bf (Bg _ _) (by rw[Bp _ _ _ _ (by simp)];rfl);have C:∀o,(((w.alloc (qC #[J x.site.cls,qZ x.site.name,J x.site.at',J x.ez,.bool x.many,qS ad x.lz.length x.lz.length] 108)).alloc (qC #[J y.cls,J y.found] 147)).alloc (qC #[J 0,qZ ⟨#[]⟩,J 0,J 0,.bool false,qN] 108)).frozen? (O w.heap.size o)=false:=λo=>((BG _ _ _).frozen (p:=(O w.heap.size o)) (by simp)).trans (xfJ w _ _ _ _ rfl)
 have u:∀o,(((w.alloc (qC #[J x.site.cls,qZ x.site.name,J x.site.at',J x.ez,.bool x.many,qS ad x.lz.length x.lz.length] 108)).alloc (qC #[J y.cls,J y.found] 147)).alloc (qC #[J 0,qZ ⟨#[]⟩,J 0,J 0,.bool false,qN] 108)).frozen? (O (w.heap.size+1+1) o)=false:=λo=>xfJ _ _ _ _ _ D;have s:=Q.later Db r;have T:(((w.alloc (qC #[J x.site.cls,qZ x.site.name,J x.site.at',J x.ez,.bool x.many,qS ad x.lz.length x.lz.length] 108)).alloc (qC #[J y.cls,J y.found] 147)).alloc (qC #[J 0,qZ ⟨#[]⟩,J 0,J 0,.bool false,qN] 108)).heap.size=w.heap.size+3:=by simp
 rw[t] at r F G K H C u s T;go_enter Tryz.func235,Tryz.ntmps235;go_upto_region 1 with (fail);generalize (((w.alloc (qC #[J x.site.cls,qZ x.site.name,J x.site.at',J x.ez,.bool false,qS ad x.lz.length x.lz.length] 108)).alloc (qC #[J y.cls,J y.found] 147)).alloc (qC #[J 0,qZ ⟨#[]⟩,J 0,J 0,.bool false,qN] 108))=W3 at *;have X:¬ w.heap.size=w.heap.size+1+1:=by omega
 have W:¬ w.heap.size+1+1=w.heap.size:=by omega
 have q:∀ {w1:qW} {u0 u1 u2 u3 u4 u5:Value},qY W3 w1->qY w ((((((w1.setCell (O (w.heap.size+1+1) 0) u0).setCell (O (w.heap.size+1+1) 1) u1).setCell (O (w.heap.size+1+1) 2) u2).setCell (O (w.heap.size+1+1) 3) u3).setCell (O (w.heap.size+1+1) 4) u4).setCell (O (w.heap.size+1+1) 5) u5):=λh=>((((((r.trans (h.mono r.size)).setCell (by simp;omega) _).setCell (by simp;omega) _).setCell (by simp;omega) _).setCell (by simp;omega) _).setCell (by simp;omega) _).setCell (by simp;omega) _;obtain⟨x0,x1,x2,x3,x4,x5⟩:=id F;rcases MT (λz:QL=>z.cls == y.cls) x.lz with hf | ⟨j,z,hf,hz,hp,hn⟩
 ·by_cases h3:3<=x.lz.length
  ·have B:Hid (DP x y=⟨x.site,x.ez,true,[]⟩):=by show _=_;unfold DP;rw[if_neg (by rw[hf,t];simp),if_pos h3]
   have V:(3:Int)<=(x.lz.length:Int):=by omega
   go_wp2_with fail;refine (Qz x.lz _ y.cls _ s).mono ?_;rintro e w1 ⟨rfl,a⟩;rw[hf];obtain⟨x0,x1,x2,x3,x4,x5⟩:=F.later a;obtain⟨z0,z1,z2,z3,z4,z5⟩:=G.later a;have f2:=λo=>(a.frozen (p:=(O (w.heap.size+1+1) o)) (by simp;omega)).trans (u o);go_wp2;refine Bt (v:=EV ⟨x.site,x.ez,true,[]⟩ (qN)) ?_ rfl ?_
   ·simp[results,Tryz.results235,go_sem,z0,z1,z2,z3,z4,z5]
   rw[B.out];exact⟨none,0,0,rfl,rfl,⟨none,0,rfl,by simp,by simp,by simp,λi x hx=>by simp at hx⟩,q a⟩
  have B:Hid (DP x y=⟨x.site,x.ez,false,x.lz++[y]⟩):=by show _=_;unfold DP;rw[if_neg (by rw[hf,t];simp),if_neg h3,t]
  have V:(x.lz.length:Int)<(3:Int):=by omega
  go_wp2_with fail;refine (Qz x.lz _ y.cls _ s).mono ?_;rintro e w1 ⟨rfl,a⟩;rw[hf];have L:=F.later a;have S:=G.later a;obtain⟨x0,x1,x2,x3,x4,x5⟩:=id L;have y0:=Bf a K;have y1:=Bf a H;have f0:=λo=>(a.frozen (p:=(O w.heap.size o)) (by simp;omega)).trans (C o);have f2:=λo=>(a.frozen (p:=(O (w.heap.size+1+1) o)) (by simp;omega)).trans (u o);have N:=s.later Db a;have a0:w.heap.size+3<=w1.heap.size:=by have:=a.size;omega
  go_wp2_with (at_builtin;refine Qr (R:=P) Db rfl (.tmp 26) (.tmp 28) 106 rfl 147 _ 16 Tryz.underlying106 xiB rfl x.lz _ rfl (N.later Db (Bg _ _)) _ 147 [J y.cls,J y.found] rfl (BH _ _) rfl y (P':=λb=>False) ⟨rfl,rfl⟩ f (by unfold maxLen;omega) (by omega) (λ_ h=>h) (λ_ h=>h.elim) ?_;intro g2 c w2 g l m k d;have n:=EB (Br _ _) k;obtain⟨x0,x1,x2,x3,x4,x5⟩:=L.later n;obtain⟨z0,z1,z2,z3,z4,z5⟩:=S.later n;have g0:=λo=>(n.frozen (p:=(O w.heap.size o)) (by simp;omega)).trans (f0 o);have g2':=λo=>(n.frozen (p:=(O (w.heap.size+1+1) o)) (by simp;omega)).trans (f2 o);have U:Hid (Fw (λb=>b=g2) w2 (qG g2 (x.lz.length+1) c) (x.lz++[y])):=xrN d;clear g d);have Y:w.heap.size+3<=g2:=by simp at l;omega
  refine Bt (v:=EV ⟨x.site,x.ez,false,x.lz++[y]⟩ (qG g2 (x.lz.length+1) c)) ?_ rfl ?_
  ·simp[results,Tryz.results235,go_sem,z0,z1,z2,z3,z4,z5]
  rw[B.out];have M:qY w w2:=r.trans ((a.mono r.size).trans (n.mono (by have:=a.size;omega)));refine⟨some (O g2 0),_,c,rfl,by simp,?_,((((((M.setCell (Bq _) _).setCell (by simp;omega) _).setCell (by simp;omega) _).setCell (by simp;omega) _).setCell (by simp;omega) _).setCell (by simp;omega) _).setCell (by simp;omega) _⟩;refine U.out.keep Db ?_ (λb h=>Or.inr (by omega));exact CK (CK (CK (CK (CK (CK (CK (Keeps.refl _ _) (by show ¬ (_=g2);omega) _) (by show ¬ (_=g2);omega) _) (by show ¬ (_=g2);omega) _) (by show ¬ (_=g2);omega) _) (by show ¬ (_=g2);omega) _) (by show ¬ (_=g2);omega) _) (by show ¬ (_=g2);omega) _
 have B:Hid (DP x y=x):=by show _=_;unfold DP;rw[if_pos (Or.inr (by rw[hf];omega))]
 have Z:(0:Int)<=(j:Int):=by omega
 clear hz hp hn;go_wp2_with fail;refine (Qz x.lz _ y.cls _ s).mono ?_;rintro e w1 ⟨rfl,a⟩;rw[hf];obtain⟨x0,x1,x2,x3,x4,x5⟩:=F.later a;obtain⟨z0,z1,z2,z3,z4,z5⟩:=G.later a;have f2:=λo=>(a.frozen (p:=(O (w.heap.size+1+1) o)) (by simp;omega)).trans (u o);go_wp2;refine Bt (v:=EV x (qS ad x.lz.length x.lz.length)) ?_ rfl ?_
 ·simp[results,Tryz.results235,go_sem,z0,z1,z2,z3,z4,z5,t]
 rw[B.out];exact⟨ad,_,_,rfl,rfl,(Q.later Db (q a)).mono Db λb h=>Or.inl h,q a⟩
def FQ (x:QE)(s:QS)(ep:Int):QE:=if x.ez=ep then x else ⟨s,ep,false,[]⟩
def Dy:List QE->QS->Int->QL->List QE
 | [],s,ep,y=>[DP ⟨s,ep,false,[]⟩ y]
 | x :: r,s,ep,y=>if Cw x.site s then DP (FQ x s ep) y :: r else x :: Dy r s ep y
theorem xjX:∀ {xs:List QE} {s:QS} {ep:Int} {y:QL},CB (λx=>Cw x.site s) xs=-1->Dy xs s ep y=xs++[DP ⟨s,ep,false,[]⟩ y]
 | [],s,ep,y,_=>rfl
 | x :: r,s,ep,y,h=>by
  have a:Cw x.site s=false:=by
   cases c:Cw x.site s with
   | false=>rfl
   | true=>rw[Kq (j:=0) (x:=x) rfl c (λi y e _=>by omega)] at h;simp at h
  have d:CB (λx:QE=>Cw x.site s) r=-1:=by
   unfold CB at h ⊢;rw[List.findIdx?_cons,a] at h
   cases b:r.findIdx? (λx=>Cw x.site s) with
   | none=>rfl
   | some k=>rw[b] at h;simp at h;omega
  simp[Dy,a,xjX d]
theorem xoc:∀ {xs:List QE} {s:QS} {ep:Int} {y:QL} {j:Nat} {x:QE},xs[j]?=some x->Cw x.site s=true->(∀i z,i<j->xs[i]?=some z->Cw z.site s=false)->Dy xs s ep y=xs.set j (DP (FQ x s ep) y)
 | [],s,ep,y,j,x,h,_,_=>by simp at h
 | z :: r,s,ep,y,0,x,h,hp,_=>by
  simp at h;subst h;simp[Dy,hp]
 | z :: r,s,ep,y,j+1,x,h,hp,hn=>by
  have b:=hn 0 z (by omega) rfl;simp only[Dy,b,List.set_cons_succ];rw[xoc (xs:=r) (j:=j) (x:=x) (by simpa using h) hp (λi u c a=>hn (i+1) u (by omega) (by simpa using a))];rfl
theorem xld {α:Type}{E:CT α}{sz:Nat}(G:Good E sz){w:qW}{g j cap:Nat}{xs:List α}{x':α}{vs:List Value}{Q S:Nat->Prop}(B:j<xs.length)
  (a:∀i y,i≠j->xs[i]?=some y->∃R:Nat->Prop,¬ R g/\(∀b,R b->S b)/\E R w (λk=>w.cell? (O g (i*sz+k))) y)
  (c:∀k,k<sz->∃u,w.cell? (O g (j*sz+k))=some u) (H:vs.length=sz) (F:E Q w (λk=>vs[k]?) x') (s:¬ Q g) (m:∀b,Q b->S b) (f:S g) (l:xs.length<=cap) (d:cap<=maxLen) :
  IsRow E sz 0 S (w.setCells g (j*sz) vs) (qG g xs.length cap) (xs.set j x'):=by
 have p:∀R:Nat->Prop,¬ R g->Keeps R w (w.setCells g (j*sz) vs):=λR o=>Keeps.of_block λb C _=>Er (by intro e;subst e;exact o C) _ _ _;refine⟨some (O g 0),cap,by simp,by simpa using l,d,by simp,λi y n=>⟨g,0,rfl,f,?_⟩⟩;by_cases hij:i=j
 ·subst hij;rw[List.getElem?_set_self B] at n
  cases n;refine G.move F m (p Q s) λk t v hv=>?_;have:=World.cell?_setCells_in g vs (i*sz) w (λq z=>by obtain⟨u,D⟩:=c q (by omega);rw[D];rfl) k (by omega);rw[Nat.zero_add,this];rw[List.getElem?_eq_getElem (by omega)] at hv;exact hv
 rw[List.getElem?_set_ne (by omega)] at n;obtain⟨R,o,h,r⟩:=a i y hij n;refine G.move r h (p R o) λk t v hv=>?_;rw[Nat.zero_add,World.cell?_setCells_out g vs (j*sz) w _ (λq z=>?_)]
 ·exact hv
 by_cases hlt:i<j
 ·left;have:=Nat.mul_le_mul_right sz (show i+1<=j by omega);rw[Nat.add_mul] at this;simp;omega
 right;have:=Nat.mul_le_mul_right sz (show j+1<=i by omega);rw[Nat.add_mul] at this;simp;omega
theorem xn4 {P:Nat->Prop}(xs:List QE)(v:Value)(s:QS)(ep c fd:Int)(w:qW)(hh:Fj P w v xs)(F:(xs.length+1)*72<=140737488355328)(H:∀x∈xs,x.lz.length*16<=281474976710656) :
  Calls Tryz.prog 194 #[v,SV s,J ep,J c,J fd] w λe w'=>∃g cap,e=.returned (qG g (Dy xs s ep ⟨c,fd⟩).length cap)/\Fj (λb=>w.heap.size<=b) w' (qG g (Dy xs s ep ⟨c,fd⟩).length cap) (Dy xs s ep ⟨c,fd⟩)/\qY w w':=by
 have Y:xs.length<=maxLen:=by unfold maxLen;omega
 obtain⟨ad,cap,rfl,-,-,-,-⟩:=id hh;have a9:=Bg w (qJ s);have a8:=Lf w s 105;go_enter Tryz.func194,Tryz.ntmps194;go_wp2_with fail;refine (NV xs _ _ (hh.later Dc a9) (by omega) H).mono ?_;rintro e w1 ⟨g,rfl,L,hg,z⟩;have a2:=a8.later z;have a1:qY w w1:=EB (Br _ _) z;have al:w.heap.size<g:=by simp at hg;omega
 clear z a9 a8 hg hh;obtain⟨s0,s1,s2⟩:=id a2;go_wp2_with fail;refine (xfR xs _ s _ (Nz (L.row0 xcN Y))).mono ?_;rintro e w2 ⟨rfl,f⟩;replace L:=L.later xcN f;obtain⟨s0,s1,s2⟩:=a2.later f;have N:qY w w2:=Bh a1 f;clear f a1;rcases MT (λx:QE=>Cw x.site s) xs with hf | ⟨j,x,hf,X,hp,hn⟩
 ·have HO:Hid (Dy xs s ep ⟨c,fd⟩=xs++[DP ⟨s,ep,false,[]⟩ ⟨c,fd⟩]):=xjX hf;rw[hf];have a0:=L.row0 xcN Y;go_wp2_with (at_builtin;refine Qr (R:=λb=>g<=b/\b<w2.heap.size) xcN rfl (.tmp 22) (.tmp 26) 27 rfl 108 _ 72 Tryz.underlying27 xnb rfl xs _ rfl (a0.later xcN (Bg _ _)) _ 108 [J s.cls,qZ s.name,J s.at',J ep,.bool false,qN] rfl (BH _ _) rfl ⟨s,ep,false,[]⟩ (P':=λb=>False) ⟨rfl,rfl,rfl,rfl,rfl,_,rfl,none,rfl,λ_=>rfl,none,0,rfl,by simp,by simp,by simp,λi x X=>by simp at X⟩ (λh=>by cases h) (by unfold maxLen;omega) F (λ_ h=>h) (λ_ h=>h.elim) ?_;intro g' cap' w3 r G B a l;obtain⟨K,q1,q2,q3,q4,q5,q6⟩:=l;have k0:=q6 0 _ rfl;have k1:=q6 1 _ rfl;have k2:=q6 2 _ rfl;have k3:=q6 3 _ rfl;have k4:=q6 4 _ rfl;have k5:=q6 5 _ rfl;simp only[Nat.add_zero] at k0;have fz3:∀o,w3.frozen? (O g' o)=false:=(λo=>by simp[World.frozen?,q1]);have ao:(xs.length:Int)<(xs.length:Int)+1:=(by omega);have am:(0:Int)<=(xs.length:Int):=(by omega);clear r);refine (xd9 (P:=λ_=>False) ⟨s,ep,false,[]⟩ ⟨c,fd⟩ _ w3 ⟨none,rfl,λ_=>rfl,none,0,rfl,by simp,by simp,by simp,λi x X=>by simp at X⟩).mono ?_;rintro e w4 ⟨a4,n4,c4,rfl,D,C,d⟩;have ai:w2.heap.size+1<=g':=by simpa using G
  have ag:=N.size;have Z:qY w w3:=EB N a;have ae:=Z.size;generalize DP ⟨s,ep,false,[]⟩ ⟨c,fd⟩=x' at *;have k0:=Bf d k0;have k1:=Bf d k1;have k2:=Bf d k2;have k3:=Bf d k3;have k4:=Bf d k4;have k5:=Bf d k5;have f4:∀o,w4.frozen? (O g' o)=false:=λo=>(d.frozen (p:=(O g' o)) B).trans (fz3 o)
  have M:Hid (∀i y,i≠xs.length->(xs++[(⟨s,ep,false,[]⟩:QE)])[i]?=some y->∃R:Nat->Prop,¬ R g'/\(∀b,R b->w.heap.size<=b)/\Ln R w4 (λk=>w4.cell? (O g' (i*6+k))) y):=λi y hi hy=>by
   refine⟨λb=>g<=b/\b<w2.heap.size,λh=>by omega,λb h=>by omega,CellT.plain ?_⟩;refine xcN.move (q5.2 i y hy) (λ_ h=>h) (.of_below d) λk U v hv=>?_;rw[List.getElem?_take] at hv;split at hv
   ·refine Bf d ?_;rw[Bn q1];simpa using hv
   cases hv
  have V:Hid (∀k,k<6->∃u,w4.cell? (O g' (xs.length*6+k))=some u):=λk U=>by
   match k,U with
   | 0,_=>exact⟨_,k0⟩
   | 1,_=>exact⟨_,k1⟩
   | 2,_=>exact⟨_,k2⟩
   | 3,_=>exact⟨_,k3⟩
   | 4,_=>exact⟨_,k4⟩
   | 5,_=>exact⟨_,k5⟩
  clear a fz3 q6 q5 a0 hf L;subst D;go_wp2_with fail;go_ret;rw[HO.out];refine⟨g',cap',by simp,?_,((((((Z.trans (d.mono ae)).setCell (by simp;omega) _).setCell (by simp;omega) _).setCell (by simp;omega) _).setCell (by simp;omega) _).setCell (by simp;omega) _).setCell (by simp;omega) _⟩;have:=xld Dc (g:=g') (j:=xs.length) (cap:=cap') (xs:=xs++[⟨s,ep,false,[]⟩]) (x':=x') (vs:=[J x'.site.cls,qZ x'.site.name,J x'.site.at',J x'.ez,.bool x'.many,qS a4 x'.lz.length c4]) (Q:=λb=>False\/w3.heap.size<=b) (S:=λb=>w.heap.size<=b) (by simp) M.out V.out rfl ⟨rfl,rfl,rfl,rfl,rfl,_,rfl,C⟩ (by rintro (h | h)<;>first | exact h | omega) (λb h=>by rcases h with h | h<;>first | exact h.elim | omega) (by omega) (by simpa using q3) q4;rw[show (xs++[(⟨s,ep,false,[]⟩:QE)]).set xs.length x'=xs++[x'] by simp,show (xs++[(⟨s,ep,false,[]⟩:QE)]).length=xs.length+1 by simp] at this;rw[show (xs++[x']).length=xs.length+1 by simp];exact this
 have HO:Hid (Dy xs s ep ⟨c,fd⟩=xs.set j (DP (FQ x s ep) ⟨c,fd⟩)):=xoc X hp hn;have hj:=Bz X;have ak:(0:Int)<=(j:Int):=by omega
 have aj:(j:Int)<(xs.length:Int):=by omega
 obtain⟨k0,k1,k2,k3,k4,lv,k5,t⟩:=L.2 j x hj X;replace k0:w2.cell? (O g (j*6))=some (J x.site.cls):=k0;replace k1:w2.cell? (O g (j*6+1))=some (qZ x.site.name):=k1;replace k2:w2.cell? (O g (j*6+2))=some (J x.site.at'):=k2;replace k3:w2.cell? (O g (j*6+3))=some (J x.ez):=k3;replace k4:w2.cell? (O g (j*6+4))=some (.bool x.many):=k4;replace k5:w2.cell? (O g (j*6+5))=some lv:=k5;have ag:=N.size;have fz2:∀o,w2.frozen? (O g o)=false:=L.unfrozen;have ah:g<w2.heap.size:=by obtain⟨⟨cur,h1,-⟩,-⟩:=L;exact By h1
 have M:Hid (∀w',Keeps (λb=>g<b/\b<w2.heap.size) w2 w'->(∀i k,i<xs.length->i≠j->k<6->∀v,w2.cell? (O g (i*6+k))=some v->w'.cell? (O g (i*6+k))=some v)->∀i y,i≠j->xs[i]?=some y->∃R:Nat->Prop,¬ R g/\(∀b,R b->w.heap.size<=b)/\Ln R w' (λk=>w'.cell? (O g (i*6+k))) y):=λw' U af i y hi hy=>by
  refine⟨λb=>g<b/\b<w2.heap.size,λh=>by omega,λb h=>by omega,CellT.plain ?_⟩;exact xcN.move (L.2 i y (Bz hy) hy) (λ_ h=>h) U λk ab v hv=>af i k (Bz hy) hi ab v hv
 rw[hf];clear hf hn X a2;by_cases he:x.ez=ep
 ·have HF:Hid (FQ x s ep=x):=by show _=_;unfold FQ;rw[if_pos he]
  rw[HF.out] at HO;subst he;go_wp2_with fail;refine (xd9 x ⟨c,fd⟩ lv w2 t).mono ?_;rintro e w3 ⟨a3,n3,c3,rfl,n,m,a⟩;generalize DP x ⟨c,fd⟩=x' at *;have a5:Hid (∀i y,i≠j->xs[i]?=some y->∃R:Nat->Prop,¬ R g/\(∀b,R b->w.heap.size<=b)/\Ln R w3 (λk=>w3.cell? (O g (i*6+k))) y):=M.out w3 (.of_below a) λi k _ _ _ v hv=>Bf a hv;have m0:=Bf a k0;have m1:=Bf a k1;have m2:=Bf a k2;have m3:=Bf a k3;have m4:=Bf a k4;have m5:=Bf a k5;have W:=Bh N a;clear k0 k1 k2 k3 k4 k5 M L t s0 s1 s2;have f3:∀o,w3.frozen? (O g o)=false:=λo=>(a.frozen (p:=(O g o)) ah).trans (fz2 o)
  have V:Hid (∀k,k<6->∃u,w3.cell? (O g (j*6+k))=some u):=λk U=>by
   match k,U with
   | 0,_=>exact⟨_,m0⟩
   | 1,_=>exact⟨_,m1⟩
   | 2,_=>exact⟨_,m2⟩
   | 3,_=>exact⟨_,m3⟩
   | 4,_=>exact⟨_,m4⟩
   | 5,_=>exact⟨_,m5⟩
  subst n;go_wp2_with fail;go_ret;rw[HO.out];refine⟨g,xs.length,by simp,?_,(((((W.setCell (by simp;omega) _).setCell (by simp;omega) _).setCell (by simp;omega) _).setCell (by simp;omega) _).setCell (by simp;omega) _).setCell (by simp;omega) _⟩;have:=xld Dc (g:=g) (j:=j) (cap:=xs.length) (xs:=xs) (x':=x') (vs:=[J x'.site.cls,qZ x'.site.name,J x'.site.at',J x'.ez,.bool x'.many,qS a3 x'.lz.length c3]) (Q:=λb=>(g<b/\b<w2.heap.size)\/w2.heap.size<=b) (S:=λb=>w.heap.size<=b) hj a5.out V.out rfl ⟨rfl,rfl,rfl,rfl,rfl,_,rfl,m⟩ (by rintro (h | h)<;>first | exact h | omega) (λb h=>by rcases h with h | h<;>first | exact h.elim | omega) (by omega) (Bq _) Y;rw[show (xs.set j x').length=xs.length by simp];exact this
 have HF:Hid (FQ x s ep=⟨s,ep,false,[]⟩):=by show _=_;unfold FQ;rw[if_neg he]
 rw[HF.out] at HO;have hd:(x.ez != ep)=true:=by simpa using he
 go_wp2_with fail
 have T:=λk (U:k<6)=>World.cell?_setCells_in g [J s.cls,qZ s.name,J s.at',J ep,.bool false,qN] (j*6) w2 (λq hq=>by
  simp only[List.length_cons,List.length_nil] at hq
  match q,hq with
  | 0,_=>show (w2.cell? (O g (j*6))).isSome=true;rw[k0];rfl
  | 1,_=>rw[k1];rfl
  | 2,_=>rw[k2];rfl
  | 3,_=>rw[k3];rfl
  | 4,_=>rw[k4];rfl
  | 5,_=>rw[k5];rfl) k (by simpa using U)
 have hW:Keeps (λb=>g<b/\b<w2.heap.size) w2 (w2.setCells g (j*6) [J s.cls,qZ s.name,J s.at',J ep,.bool false,qN]):=Keeps.of_block λb hb _=>Er (by omega) _ _ _
 have aa:∀i k,i<xs.length->i≠j->k<6->∀v,w2.cell? (O g (i*6+k))=some v->(w2.setCells g (j*6) [J s.cls,qZ s.name,J s.at',J ep,.bool false,qN]).cell? (O g (i*6+k))=some v:=λi k hi an U v hv=>by
  rw[World.cell?_setCells_out g _ (j*6) w2 _ (λ_ _=>?_)]
  ·exact hv
  simp;omega
 have a7:qY w (w2.setCells g (j*6) [J s.cls,qZ s.name,J s.at',J ep,.bool false,qN]):=(((((N.setCell (by simp;omega) _).setCell (by simp;omega) _).setCell (by simp;omega) _).setCell (by simp;omega) _).setCell (by simp;omega) _).setCell (by simp;omega) _;have ap:(w2.setCells g (j*6) [J s.cls,qZ s.name,J s.at',J ep,.bool false,qN]).heap.size=w2.heap.size:=Ks _ _ _;have a6:∀o,(w2.setCells g (j*6) [J s.cls,qZ s.name,J s.at',J ep,.bool false,qN]).frozen? (O g o)=false:=λo=>by simpa [World.setCells] using fz2 o
 change Calls Tryz.prog 235 _ (w2.setCells g (j*6) [J s.cls,qZ s.name,J s.at',J ep,.bool false,qN]) _;generalize (w2.setCells g (j*6) [J s.cls,qZ s.name,J s.at',J ep,.bool false,qN])=W2 at *;refine (xd9 (P:=λ_=>False) ⟨s,ep,false,[]⟩ ⟨c,fd⟩ _ W2 ⟨none,rfl,λ_=>rfl,none,0,rfl,by simp,by simp,by simp,λi x X=>by simp at X⟩).mono ?_;rintro e w3 ⟨a3,n3,c3,rfl,n,m,a⟩;generalize DP ⟨s,ep,false,[]⟩ ⟨c,fd⟩=x' at *;have a5:Hid (∀i y,i≠j->xs[i]?=some y->∃R:Nat->Prop,¬ R g/\(∀b,R b->w.heap.size<=b)/\Ln R w3 (λk=>w3.cell? (O g (i*6+k))) y):=M.out w3 (hW.trans (.of_below a)) λi k h1 h2 h3 v hv=>Bf a (aa i k h1 h2 h3 v hv);have m0:w3.cell? (O g (j*6))=some (J s.cls):=Bf a (T 0 (by omega));have m1:w3.cell? (O g (j*6+1))=some (qZ s.name):=Bf a (T 1 (by omega));have m2:w3.cell? (O g (j*6+2))=some (J s.at'):=Bf a (T 2 (by omega));have m3:w3.cell? (O g (j*6+3))=some (J ep):=Bf a (T 3 (by omega));have m4:w3.cell? (O g (j*6+4))=some (.bool false):=Bf a (T 4 (by omega));have m5:w3.cell? (O g (j*6+5))=some (qN):=Bf a (T 5 (by omega));have W:=Bh a7 a;clear k0 k1 k2 k3 k4 k5 M L t s0 s1 s2;have f3:∀o,w3.frozen? (O g o)=false:=λo=>(a.frozen (p:=(O g o)) (by simp;omega)).trans (a6 o)
 clear T hW aa a6 a7
 have V:Hid (∀k,k<6->∃u,w3.cell? (O g (j*6+k))=some u):=λk U=>by
  match k,U with
  | 0,_=>exact⟨_,m0⟩
  | 1,_=>exact⟨_,m1⟩
  | 2,_=>exact⟨_,m2⟩
  | 3,_=>exact⟨_,m3⟩
  | 4,_=>exact⟨_,m4⟩
  | 5,_=>exact⟨_,m5⟩
 subst n;go_wp2_with fail;go_ret;rw[HO.out];refine⟨g,xs.length,by simp,?_,(((((W.setCell (by simp;omega) _).setCell (by simp;omega) _).setCell (by simp;omega) _).setCell (by simp;omega) _).setCell (by simp;omega) _).setCell (by simp;omega) _⟩;have:=xld Dc (g:=g) (j:=j) (cap:=xs.length) (xs:=xs) (x':=x') (vs:=[J x'.site.cls,qZ x'.site.name,J x'.site.at',J x'.ez,.bool x'.many,qS a3 x'.lz.length c3]) (Q:=λb=>False\/W2.heap.size<=b) (S:=λb=>w.heap.size<=b) hj a5.out V.out rfl ⟨rfl,rfl,rfl,rfl,rfl,_,rfl,m⟩ (by rintro (h | h)<;>first | exact h | omega) (λb h=>by rcases h with h | h<;>first | exact h.elim | omega) (by omega) (Bq _) Y;rw[show (xs.set j x').length=xs.length by simp];exact this
def Dr (xs:List QE)(X:QW)(s:QS)(c:Int)(name:ByteArray):List QE × (Int × Int) × Bool:=
 if Dg X.cz.length (Fb xs s X.ez c) then (xs,BF X.cz (Fb xs s X.ez c) name,true)
 else if (BF X.cz c name).1<0 then (xs,BF X.cz c name,false)
 else (Dy xs s X.ez ⟨c,(BF X.cz c name).1⟩,BF X.cz c name,false)
structure FdR (w:qW)(P:Nat->Prop)(v cv hv:Value)(xs:List QE)(X:QW)(s:QS)(w':qW):Prop where
 bel:qY w w'
 cl:Fj P w' v xs
 hc:BK P w' cv X.cz
 hh:BP P w' hv X.heap
 w0:w'.cell? (O w.heap.size 0)=some cv
 w1:w'.cell? (O w.heap.size 1)=some hv
 w2:w'.cell? (O w.heap.size 2)=some (J X.ez)
 st:SiteAt w' (w.heap.size+1) s
theorem FdR.later {w:qW}{P:Nat->Prop}{v cv hv:Value}{xs:List QE}{X:QW}{s:QS}{w' w'':qW}(h:FdR w P v cv hv xs X s w')(a:qY w' w''):FdR w P v cv hv xs X s w'':=
 ⟨Bh h.bel a,h.cl.later Dc a,h.hc.later Bw a,h.hh.later BB a,Bf a h.w0,Bf a h.w1,Bf a h.w2,h.st.later a⟩
theorem xoe {P:Nat->Prop}(xs:List QE)(X:QW)(s:QS)(c:Int)(name:ByteArray)(v cv hv:Value)(w:qW)(G:Fj P w v xs)(H:BK P w cv X.cz)(K:BP P w hv X.heap)(m:(xs.length+1)*72<=140737488355328)(j:∀x∈xs,x.lz.length*16<=281474976710656) :
  Calls Tryz.prog 144 #[v,WV cv hv X.ez,SV s,J c,qZ name] w λe w'=>∃a k,e=.returned (.tuple #[qS a (Dr xs X s c name).1.length k,J (Dr xs X s c name).2.1.1,J (Dr xs X s c name).2.1.2,.bool (Dr xs X s c name).2.2])/\Fj (λb=>w.heap.size<=b) w' (qS a (Dr xs X s c name).1.length k) (Dr xs X s c name).1/\qY w w':=by
 have z:xs.length<=maxLen:=by unfold maxLen;omega
 have t:FdR w P v cv hv xs X s ((w.alloc (qC #[cv,hv,J X.ez] 26)).alloc (qJ s)):=by
  have B:=BG w (qC #[cv,hv,J X.ez] 26) (qJ s);refine⟨B,G.later Dc B,H.later Bw B,K.later BB B,Bf (Bg _ _) (by rw[Bp _ _ _ _ rfl];rfl),Bf (Bg _ _) (by rw[Bp _ _ _ _ rfl];rfl),Bf (Bg _ _) (by rw[Bp _ _ _ _ rfl];rfl),?_⟩;have:=Lf (w.alloc (qC #[cv,hv,J X.ez] 26)) s 105;simpa using this
 obtain⟨ad,cap,rfl,-,-,-,-⟩:=id G;obtain⟨ac,cc,rfl,-,-,-,-⟩:=id H;obtain⟨ah,ch,rfl,-,-,-,-⟩:=id K;clear G H K;go_enter Tryz.func144,Tryz.ntmps144;go_upto_region 1 with (fail);generalize ((w.alloc (qA ac cc ah ch X)).alloc (qJ s))=W0 at *;obtain⟨-,-,-,-,b0,b1,b2,s0,s1,s2⟩:=id t;go_wp2_with fail;refine (xrU xs _ s X.ez c _ t.cl).mono ?_;rintro e w1 ⟨rfl,n⟩;have p:=t.later n;clear t n b0 b1 b2 s0 s1 s2;obtain⟨k,y⟩:∃k,k=Fb xs s X.ez c:=⟨_,rfl⟩;rw[← y];obtain⟨-,-,-,-,b0,b1,b2,s0,s1,s2⟩:=id p;by_cases h0:0<=k
 ·have D:decide (0<=k)=true:=by simpa using h0
  by_cases h1:k<X.cz.length
  ·have C:decide (k<(X.cz.length:Int))=true:=by simpa using h1
   have u:Hid (Dr xs X s c name=(xs,BF X.cz k name,true)):=by show _=_;unfold Dr;rw[← y,if_pos (by simp[Dg,h0,h1])]
   clear y;go_wp2_with fail;refine (Mb X k name _ _ _ p.hc p.hh).mono ?_;rintro e w2 ⟨rfl,i⟩;have o:=p.later i;clear p i b0 b1 b2 s0 s1 s2;go_wp2_with fail;refine (NV xs _ _ o.cl (by omega) j).mono ?_;rintro e w3 ⟨g,rfl,f,L,d⟩;go_wp2;rw[u.out];refine Bt (v:=.tuple #[qG g xs.length xs.length,J (BF X.cz k name).1,J (BF X.cz k name).2,.bool true]) ?_ rfl ⟨_,_,rfl,?_,Bh o.bel d⟩
   ·simp[results,Tryz.results144,go_sem]
   exact (Nz (f.row0 xcN z)).mono Dc λb h=>by have:=o.bel.size;omega
  have C:decide (k<(X.cz.length:Int))=false:=by simpa using h1
  have q:Hid (Dr xs X s c name=if (BF X.cz c name).1<0 then (xs,BF X.cz c name,false) else (Dy xs s X.ez ⟨c,(BF X.cz c name).1⟩,BF X.cz c name,false)):=by show _=_;unfold Dr;rw[← y,if_neg (by simp[Dg];omega)]
  clear y;go_wp2_with fail;refine (Mb X c name _ _ _ p.hc p.hh).mono ?_;rintro e w2 ⟨rfl,i⟩;have o:=p.later i;clear p i b0 b1 b2 s0 s1 s2;obtain⟨-,-,-,-,b0,b1,b2,s0,s1,s2⟩:=id o;generalize BF X.cz c name=r at *;obtain⟨r1,r2⟩:=r;simp only at q ⊢;by_cases hr:r1<0
  ·have u:Hid (Dr xs X s c name=(xs,(r1,r2),false)):=by show _=_;rw[q.out,if_pos hr]
   go_wp2_with fail;refine (NV xs _ _ o.cl (by omega) j).mono ?_;rintro e w3 ⟨g,rfl,f,L,d⟩;go_wp2;rw[u.out];refine Bt (v:=.tuple #[qG g xs.length xs.length,J r1,J r2,.bool false]) ?_ rfl ⟨_,_,rfl,?_,Bh o.bel d⟩
   ·simp[results,Tryz.results144,go_sem]
   exact (Nz (f.row0 xcN z)).mono Dc λb h=>by have:=o.bel.size;omega
  have u:Hid (Dr xs X s c name=(Dy xs s X.ez ⟨c,r1⟩,(r1,r2),false)):=by show _=_;rw[q.out,if_neg hr]
  have F:0<=r1:=by omega
  go_wp2_with fail;refine (xn4 xs _ s X.ez c r1 _ o.cl m j).mono ?_;rintro e w3 ⟨g,k3,rfl,l,d⟩;generalize Dy xs s X.ez ⟨c,r1⟩=ys at *;go_wp2;rw[u.out];refine Bt (v:=.tuple #[qG g ys.length k3,J r1,J r2,.bool false]) ?_ rfl ⟨_,_,rfl,?_,Bh o.bel d⟩
  ·simp[results,Tryz.results144,go_sem]
  exact l.mono Dc λb h=>by have:=o.bel.size;omega
 have D:decide (0<=k)=false:=by simpa using h0
 have q:Hid (Dr xs X s c name=if (BF X.cz c name).1<0 then (xs,BF X.cz c name,false) else (Dy xs s X.ez ⟨c,(BF X.cz c name).1⟩,BF X.cz c name,false)):=by show _=_;unfold Dr;rw[← y,if_neg (by simp[Dg];omega)]
 clear y;go_wp2_with fail;refine (Mb X c name _ _ _ p.hc p.hh).mono ?_;rintro e w2 ⟨rfl,i⟩;have o:=p.later i;clear p i b0 b1 b2 s0 s1 s2;obtain⟨-,-,-,-,b0,b1,b2,s0,s1,s2⟩:=id o;generalize BF X.cz c name=r at *;obtain⟨r1,r2⟩:=r;simp only at q ⊢;by_cases hr:r1<0
 ·have u:Hid (Dr xs X s c name=(xs,(r1,r2),false)):=by show _=_;rw[q.out,if_pos hr]
  go_wp2_with fail;refine (NV xs _ _ o.cl (by omega) j).mono ?_;rintro e w3 ⟨g,rfl,f,L,d⟩;go_wp2;rw[u.out];refine Bt (v:=.tuple #[qG g xs.length xs.length,J r1,J r2,.bool false]) ?_ rfl ⟨_,_,rfl,?_,Bh o.bel d⟩
  ·simp[results,Tryz.results144,go_sem]
  exact (Nz (f.row0 xcN z)).mono Dc λb h=>by have:=o.bel.size;omega
 have u:Hid (Dr xs X s c name=(Dy xs s X.ez ⟨c,r1⟩,(r1,r2),false)):=by show _=_;rw[q.out,if_neg hr]
 have F:0<=r1:=by omega
 go_wp2_with fail;refine (xn4 xs _ s X.ez c r1 _ o.cl m j).mono ?_;rintro e w3 ⟨g,k3,rfl,l,d⟩;generalize Dy xs s X.ez ⟨c,r1⟩=ys at *;go_wp2;rw[u.out];refine Bt (v:=.tuple #[qG g ys.length k3,J r1,J r2,.bool false]) ?_ rfl ⟨_,_,rfl,?_,Bh o.bel d⟩
 ·simp[results,Tryz.results144,go_sem]
 exact l.mono Dc λb h=>by have:=o.bel.size;omega
theorem xfB {xs:List QC}{name:ByteArray}:∀ {l:List Int},Fl xs name l=(-1,-1)\/∃k∈l,0<=CZ (Km xs k) name/\Fl xs name l=(k,CZ (Km xs k) name)
 | []=>Or.inl rfl
 | k :: r=>by
  unfold Fl;split
  ·rename_i a;exact Or.inr ⟨k,by simp,a,rfl⟩
  rcases xfB (xs:=xs) (name:=name) (l:=r) with h | ⟨q,hq,h1,h2⟩
  ·exact Or.inl h
  exact Or.inr ⟨q,by simp[hq],h1,h2⟩
theorem xlh (xs:List QC)(c:Int)(name:ByteArray)(h:0<=(BF xs c name).1):BF xs (BF xs c name).1 name=BF xs c name:=by
 rw[NP c];rw[NP c] at h;rcases xfB (xs:=xs) (name:=name) (l:=KX xs (xs.length+1) c) with he | ⟨k,hk,h1,he⟩
 ·rw[he] at h;simp at h
 rw[he];simp only;rw[NP];obtain⟨i,d,a⟩:=List.mem_iff_getElem.1 hk;obtain⟨q,x,e,b⟩:=xgf _ _ i _ (by rw[List.getElem?_eq_getElem d]);rw[a] at e;have f:Cy xs k=some x:=by rw[e,Mv];exact b
 unfold KX;rw[f];simp only[Fl];rw[if_pos h1]
theorem xex (x:QE)(y z:QL)(h:z∈(DP x y).lz):z∈x.lz\/z=y:=by
 unfold DP at h;split at h
 ·exact Or.inl h
 split at h
 ·simp at h
 rw[List.mem_append] at h;rcases h with h | h
 ·exact Or.inl h
 simp at h;exact Or.inr h
theorem xlG:∀(l:List QE) (s:QS) (ep:Int) (y:QL),(Dy l s ep y).length<=l.length+1
 | [],s,ep,y=>by simp[Dy]
 | x :: r,s,ep,y=>by
  unfold Dy;split
  ·simp
  simpa using xlG r s ep y
end Go.Proofs.YtbafokihegegiaaGreatDoor
