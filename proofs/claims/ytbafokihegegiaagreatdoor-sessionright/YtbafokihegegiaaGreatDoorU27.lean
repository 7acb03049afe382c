import Derived.Test.YtbafokihegegiaaGreatDoorU26
import Derived.Maps.OwnSet
import Derived.Maps.OwnOps
import Derived.StringKeys
namespace Go.Proofs.YtbafokihegegiaaGreatDoor
open Go.ChangeShapes Go.WideShapes Go.ChangeAt Go.RowKit Go.WideMaps Go.Maps
set_option linter.unusedSimpArgs false
set_option linter.unusedVariables false
set_option maxHeartbeats 8000000
set_option maxRecDepth 8000
structure ElS (w:qW)(br:Nat)(t:TypeId)(zs cs:Array Value)(st:Option (List UInt8))(w':qW):Prop where
 res:w'.heap[w.heap.size]?=some (.cells zs t (0,0))
 box:w'.heap[w.heap.size+1]?=some (.cells cs t (0,0))
 S:RdS br w' st
 K:RdK br w w'
 lt:br<w.heap.size
section
variable {w:World} {br:Nat} {t:TypeId} {zs cs:Array Value} {st st2:Option (List UInt8)} {w' w2:World}
theorem NY (h:RdS br w st)(zs:Array Value)(t:TypeId):ElS w br t zs zs st ((w.alloc (.cells zs t)).alloc (.cells zs t)):=by
 refine⟨?_,?_,h.later (BG _ _ _),.of_below (Nat.le_of_lt h.lt) (BG _ _ _),h.lt⟩
 ·rw[Below.heap_alloc _ _ _ (by simp)];exact BH w _
 have:=BH (w.alloc (.cells zs t)) (.cells zs t);simpa using this
theorem ElS.call (h:ElS w br t zs cs st w')(b:RdS br w2 st2)(a:RdK br w' w2):ElS w br t zs cs st2 w2:=
 ⟨(a.oth _ (By h.res) (by have:=h.lt;omega)).trans h.res,(a.oth _ (By h.box) (by have:=h.lt;omega)).trans h.box,b,h.K.trans a,h.lt⟩
theorem ElS.set (h:ElS w br t zs cs st w')(k:Nat)(v:Value):ElS w br t zs (cs.setIfInBounds k v) st (w'.setCell (O (w.heap.size+1) k) v):=
 ⟨(BS (by omega) v).trans h.res,BW h.box v,h.S.setHi (by have:=h.lt;omega) _ _,h.K.setHi (by omega) (by have:=h.lt;omega) _ _,h.lt⟩
theorem ElS.c (h:ElS w br t zs cs st w')(k:Nat):w'.cell? (O (w.heap.size+1) k)=cs[k]?:=Bn h.box
theorem ElS.z (h:ElS w br t zs cs st w')(k:Nat):w'.cell? (O w.heap.size k)=zs[k]?:=Bn h.res
theorem ElS.fin (h:ElS w br t zs cs st w')(vs:List Value):RdS br (w'.setCells w.heap.size 0 vs) st/\RdK br w (w'.setCells w.heap.size 0 vs):=by
 have b:=h.lt;have c:=h.S;have a:=h.K;clear h;generalize 0=o
 induction vs generalizing o w' with
 | nil=>exact⟨c,a⟩
 | cons v r ih=>exact ih (c.setHi b _ _) (a.setHi (Bq _) (Nat.le_of_lt b) _ _) (o+1)
end
abbrev VW (x:QV):Value:=.agg #[J x.k,J x.n]
theorem xxu {st s1 s2:Option (List UInt8)}{a b:Int}(g:RdR Dd st a s1)(f:RdR Dd s1 b s2):RdR Hs st ⟨a,b⟩ s2:=by
 rcases g.cases with ⟨l,r,rfl,d,rfl⟩ | ⟨rfl,d⟩
 ·rcases f.cases with ⟨l2,r2,e,c,rfl⟩ | ⟨rfl,c⟩
  ·cases e;exact RdR.some (by unfold Hs;rw[d];simp only[Option.bind_some];rw[c];rfl)
  exact RdR.bad _ (by unfold Hs;rw[d];simp only[Option.bind_some];rw[c _ rfl];rfl)
 obtain rfl:s2=none:=f
 cases st with
 | none=>exact RdR.none _
 | some l=>exact RdR.bad _ (by unfold Hs;rw[d l rfl];rfl)
theorem xvR {br:Nat}{w:qW}{st:Option (List UInt8)}(h:RdS br w st):Calls Tryz.prog 213 #[qP br] w λe w'=>∃(x:QV) (d:Option (List UInt8)),e=.returned (VW x)/\RdR Hs st x d/\RdS br w' d/\RdK br w w':=by
 have k:=NY h #[J 0,J 0] 41;clear h;go_enter Tryz.func213,Tryz.ntmps213;go_upto_region 2 with (fail);generalize ((w.alloc (qQ)).alloc (qQ))=W0 at *;go_wp2_with (go_at_call 162;refine (Kg k.S).mono ?_;rintro e w1 ⟨n1,s1,rfl,g,j,a,b⟩;refine Hid.out ?_);refine Lib.hid ?_;replace k:=k.call a b;have c0:w1.cell? (O (w.heap.size+1) 0)=some (J 0):=k.c 0;have cf:=BN k.box;replace k:=k.set 0 (J n1);clear a b;go_upto_region 3 with (fail);clear c0 cf;generalize (w1.setCell (O (w.heap.size+1) 0) (J n1))=W1 at *;go_wp2_with (go_at_call 162;refine (Kg k.S).mono ?_;rintro e w2 ⟨n2,s2,rfl,f,i,a,b⟩;refine Hid.out ?_);refine Lib.hid ?_;replace k:=k.call a b;have c0:w2.cell? (O (w.heap.size+1) 1)=some (J 0):=k.c 1;have cf:=BN k.box;replace k:=k.set 1 (J n2);clear a b;go_upto_region 4 with (fail)
 clear c0 cf;generalize (w2.setCell (O (w.heap.size+1) 1) (J n2))=W2 at *;have d0:W2.cell? (O (w.heap.size+1) 0)=some (J n1):=k.c 0;have d1:W2.cell? (O (w.heap.size+1) 1)=some (J n2):=k.c 1;have z0:W2.cell? (O w.heap.size 0)=some (J 0):=k.z 0;have z1:W2.cell? (O w.heap.size 1)=some (J 0):=k.z 1;have zf:=BN k.res;have l:=hid (k.fin [J n1,J n2]);go_wp2;refine Bt (v:=VW ⟨n1,n2⟩) ?_ rfl ⟨⟨n1,n2⟩,s2,rfl,xxu g f,l.out.1,l.out.2⟩;simp[results,Tryz.results213,go_sem,z0,z1]
def RowSt {α:Type}(E:CT α)(sz:Nat)(t:TypeId)(lo:Nat)(w:qW)(B n:Nat)(ys:List α):Prop:=
 (∃cur:Array Value,w.heap[B]?=some (.cells cur t (0,0))/\cur.size=n*sz)/\∀i x,ys[i]?=some x->E (λb=>lo<=b/\b≠B) w (λk=>w.cell? (O B (i*sz+k))) x
section
variable {α:Type} {E:CT α} {sz:Nat} {t:TypeId} {lo br:Nat} {w w':World} {B n:Nat} {ys:List α}
theorem RowSt.keep (h:RowSt E sz t lo w B n ys)(G:Good E sz)(d:RdK br w w')(c:br<lo)(f:B≠br):RowSt E sz t lo w' B n ys:=by
 obtain⟨⟨cur,a,g⟩,l⟩:=h;have e:=(d.oth B (By a) f).trans a;refine⟨⟨cur,e,g⟩,λi x j=>?_⟩;refine G.move (l i x j) (λ_ h=>h) (Keeps.of_block λb m c=>d.oth b c (by omega)) λk _ v hv=>?_;rw[Bn e];rw[Bn a] at hv;exact hv
theorem RowSt.start (w:qW)(lo:Nat)(c:Array Value)(b:c.size=n*sz):RowSt E sz t lo (w.alloc (.cells c t)) w.heap.size n ([]:List α):=
 ⟨⟨c,BH w _,b⟩,λi x a=>by simp at a⟩
theorem RowSt.step {x:α}{vs:List Value}(h:RowSt E sz t lo w B n ys)(G:Good E sz)(s:ys.length<n)(p:vs.length=sz)(m:E (λb=>lo<=b/\b≠B) w (λk=>vs[k]?) x):RowSt E sz t lo (w.setCells B (ys.length*sz) vs) B n (ys++[x]):=by
 obtain⟨⟨cur,c,g⟩,o⟩:=h;have d:Keeps (λb=>lo<=b/\b≠B) w (w.setCells B (ys.length*sz) vs):=Keeps.of_block λb l _=>Er l.2 _ _ _;refine⟨NF vs _ w ⟨cur,c,g⟩,λi y a=>?_⟩
 have e:ys.length*sz+sz<=n*sz:=by
  have:=Nat.mul_le_mul_right sz (show ys.length+1<=n by omega);rw[Nat.add_mul] at this;omega
 by_cases hij:i=ys.length
 ·subst hij;rw[List.getElem?_append_right (Bq _)] at a;simp at a;subst a;refine G.move m (λ_ h=>h) d λk f v hv=>?_;have:=World.cell?_setCells_in B vs (ys.length*sz) w (λq r=>by rw[Bn c];simp;omega) k (by omega);rw[this];rw[List.getElem?_eq_getElem (by omega)] at hv;exact hv
 have j:i<ys.length:=by
  have:=Bz a;simp at this;omega
 rw[List.getElem?_append_left j] at a;refine G.move (o i y a) (λ_ h=>h) d λk f v hv=>?_;rw[World.cell?_setCells_out B vs (ys.length*sz) w _ (λ_ _=>Or.inl ?_)]
 ·exact hv
 have:=Nat.mul_le_mul_right sz (show i+1<=ys.length by omega);rw[Nat.add_mul] at this;simp;omega
theorem RowSt.row {bytes:Nat}(h:RowSt E sz t lo w B n ys)(G:Good E sz)(c:ys.length=n)(a:lo<=B)(e:n*bytes<=140737488351232)(d:0<bytes):IsRow E sz bytes (λb=>lo<=b) w (qG B ys.length ys.length) ys:=by
 obtain⟨⟨cur,j,l⟩,g⟩:=h;subst c;have c:ys.length<=ys.length*bytes:=Nat.le_mul_of_pos_right _ d;refine⟨_,_,rfl,Bq _,by unfold maxLen;omega,e,λi x f=>⟨B,0,rfl,a,?_⟩⟩;exact G.move (g i x f) (λb h=>h.1) (.refl _ _) λk _ v hv=>by rw[Nat.zero_add];exact hv
theorem RdS.setsHi {st:Option (List UInt8)}{d:Nat}(a:br<d):∀(vs:List Value) (o:Nat) (w:qW),RdS br w st->RdS br (w.setCells d o vs) st
 | [],_,_,h=>h
 | v :: r,o,w,h=>RdS.setsHi a r (o+1) _ (h.setHi a _ _)
theorem RdK.setsHi {w:qW}{d:Nat}(a:w.heap.size<=d)(b:br<=d):∀(vs:List Value) (o:Nat) (w':qW),RdK br w w'->RdK br w (w'.setCells d o vs)
 | [],_,_,h=>h
 | v :: r,o,w',h=>RdK.setsHi a b r (o+1) _ (h.setHi a b _ _)
end
theorem xtW {α:Type}(f:List UInt8->Option (α × List UInt8)):∀(n:Nat) (l:List UInt8),EP f (n+1) l=(EP f n l).bind λp=>(f p.2).bind λq=>some (p.1++[q.1],q.2)
 | 0,l=>by simp[EP]
 | n+1,l=>by
  rw[EP]
  cases a:f l with
  | none=>simp[EP,a]
  | some p=>
   simp only[Option.bind_some];rw[xtW f n p.2]
   conv=>rhs;rw[EP,a]
   simp only[Option.bind_some]
   cases b:EP f n p.2 with
   | none=>simp
   | some q=>
    simp only[Option.bind_some]
    cases f q.2<;>simp
theorem QR {α:Type}{f:List UInt8->Option (α × List UInt8)}{n:Nat}{st s1 s2:Option (List UInt8)}{ys:List α}{x:α}(d:RdR (EP f n) st ys s1)(c:RdR f s1 x s2):RdR (EP f (n+1)) st (ys++[x]) s2:=by
 rcases d.cases with ⟨l,r,rfl,b,rfl⟩ | ⟨rfl,b⟩
 ·rcases c.cases with ⟨l2,r2,e,a,rfl⟩ | ⟨rfl,a⟩
  ·cases e;exact RdR.some (by rw[xtW,b];simp only[Option.bind_some];rw[a];rfl)
  exact RdR.bad _ (by rw[xtW,b];simp only[Option.bind_some];rw[a _ rfl];rfl)
 obtain rfl:s2=none:=c
 cases st with
 | none=>exact RdR.none _
 | some l=>exact RdR.bad _ (by rw[xtW,b l rfl];rfl)
theorem PB {α:Type}{f:List UInt8->Option (α × List UInt8)}{a n:Nat}{st s1 s2:Option (List UInt8)}{ys:List α}(g:RdR (Hr a) st n s1)(d:RdR (EP f n) s1 ys s2):RdR (DM f a) st ys s2:=by
 rcases g.cases with ⟨l,r,rfl,c,rfl⟩ | ⟨rfl,c⟩
 ·rcases d.cases with ⟨l2,r2,e,b,rfl⟩ | ⟨rfl,b⟩
  ·cases e;exact RdR.some (by unfold DM;rw[c];simp only[Option.bind_some];exact b)
  exact RdR.bad _ (by unfold DM;rw[c];simp only[Option.bind_some];exact b _ rfl)
 obtain rfl:s2=none:=d
 cases st with
 | none=>exact RdR.none _
 | some l=>exact RdR.bad _ (by unfold DM;rw[c l rfl];rfl)
theorem Qg {α:Type}{f:List UInt8->Option (α × List UInt8)}(st:Option (List UInt8)):RdR (EP f 0) st [] st:=by
 cases st with
 | none=>rfl
 | some l=>exact RdR.some rfl
theorem xwF {br:Nat}{w:qW}{st:Option (List UInt8)}(a:Nat)(S:a<=1000)(h:RdS br w st):Calls Tryz.prog 212 #[qP br,J (a:Int),.func (.func 213) #[qP br] #[]] w λe w'=>∃(xs:List QV) (g:Nat) (m:Option (List UInt8)),e=.returned (qG g xs.length xs.length)/\IsRow KY 2 16 (λb=>w.heap.size<=b) w' (qG g xs.length xs.length) xs/\RdR (DM Hs a) st xs m/\RdS br w' m/\RdK br w w':=by
 have G:=h.lt;go_enter Tryz.func212,Tryz.ntmps212;go_wp2_with (go_at_call 209;refine (Pm a S h).mono ?_;rintro e w1 ⟨n,s,rfl,t,hn,f,j⟩;refine Hid.out ?_);refine Lib.hid ?_;have H:=Ns n Zo;have U:=j.bel.size;have C:RowSt KY 2 41 w.heap.size (w1.alloc (.cells (madeCells #[J 0,J 0] (n*2)) 41)) w1.heap.size n []:=RowSt.start _ _ _ (size_madeCells _ _);have y:=f.later (Bg w1 (.cells (madeCells #[J 0,J 0] (n*2)) 41));have z:=j.trans (.of_below (Nat.le_of_lt f.lt) (Bg w1 (.cells (madeCells #[J 0,J 0] (n*2)) 41)));clear f j;go_wp2_with (fail);generalize (w1.alloc (.cells (madeCells #[J 0,J 0] (n*2)) 41))=W1 at *;generalize w1.heap.size=B at *
 go_loopg [15] n (λg c wr=>∃(ys:List QV) (d:Option (List UInt8)),ys.length+g=n/\c=J (ys.length:Int)/\RowSt KY 2 41 w.heap.size wr B n ys/\RdR (EP Hs ys.length) s ys d/\RdS br wr d/\RdK br w wr)
 case atStart=>exact⟨[],s,by simp,rfl,C,Qg _,y,z⟩
 case round=>
  clear C y z H;obtain⟨ys,d,M,rfl,F,i,K,D⟩:=hrel;by_cases hj:ys.length<n
  ·have N:(ys.length:Int)<(n:Int):=by omega
   have R:(0:Int)<=(ys.length:Int):=by omega
   have Y:B<wr.heap.size:=by obtain⟨⟨c,V,-⟩,-⟩:=id F;exact By V
   go_wp2_with (go_at_call 213;refine (xvR K).mono ?_;rintro e w2 ⟨x,u,rfl,r,p,l⟩;refine Hid.out ?_);refine Lib.hid ?_;have v:=F.keep BZ l G Zo;have T:=D.bel.size;obtain⟨⟨cur,k1,k2⟩,k3⟩:=id v;have f1:∀o,w2.frozen? (O B o)=false:=BN k1;have Z:ys.length*2+2<=n*2:=by omega
   obtain⟨q0,e0⟩:∃q,w2.cell? (O B (ys.length*2))=some q:=⟨_,by rw[Bn k1];exact Array.getElem?_eq_getElem Zo⟩
   obtain⟨q1,e1⟩:∃q,w2.cell? (O B (ys.length*2+1))=some q:=⟨_,by rw[Bn k1];exact Array.getElem?_eq_getElem Zo⟩
   have W:=hid (RdS.setsHi (show br<B by omega) [J x.k,J x.n] (ys.length*2) _ p);have X:=hid (RdK.setsHi (show w.heap.size<=B by omega) (show br<=B by omega) [J x.k,J x.n] (ys.length*2) _ (D.trans l));have Q:=hid (v.step BZ hj (vs:=[J x.k,J x.n]) rfl ⟨rfl,rfl⟩);have HQ:=hid (QR i r);have L:=hid M;clear v p l i r K D k3 F M;go_wp2;go_roundg (gk-1)
   case measure=>have:=L.out;omega
   case rel=>exact⟨ys++[x],u,by have:=L.out;simp;omega,by simp;try go_num,Q.out,by rw[List.length_append];exact HQ.out,W.out,X.out⟩
  obtain rfl:n=ys.length:=by omega
  go_wp2;go_ret;exact⟨ys,B,d,rfl,F.row BZ rfl Zo Zo Zo,PB t i,K,D⟩
structure WbS (w:qW)(X:QW)(cv hv:Value)(w':qW):Prop where
 bel:qY w w'
 a0:w'.cell? (O w.heap.size 0)=some cv
 a1:w'.cell? (O w.heap.size 1)=some hv
 a2:w'.cell? (O w.heap.size 2)=some (J X.ez)
theorem WbS.later {w:qW}{X:QW}{cv hv:Value}{w' w1:qW}(h:WbS w X cv hv w')(a:qY w' w1):WbS w X cv hv w1:=
 ⟨Bh h.bel a,Bf a h.a0,Bf a h.a1,Bf a h.a2⟩
theorem Pw (w:qW)(X:QW)(cv hv:Value):WbS w X cv hv (w.alloc (qC #[cv,hv,J X.ez] 26)):=
 ⟨Bg _ _,by rw[Bp _ _ _ _ rfl];rfl,by rw[Bp _ _ _ _ rfl];rfl,by rw[Bp _ _ _ _ rfl];rfl⟩
structure WbO (w:qW)(X:QW)(cv hv:Value)(x:QO)(sv:Value)(Bo:Nat)(w':qW):Prop where
 S:WbS w X cv hv w'
 o0:w'.cell? (O Bo 0)=some (J x.cls)
 o1:w'.cell? (O Bo 1)=some sv
theorem WbO.later {w:qW}{X:QW}{cv hv:Value}{x:QO}{sv:Value}{Bo:Nat}{w' w1:qW}(h:WbO w X cv hv x sv Bo w')(a:qY w' w1):WbO w X cv hv x sv Bo w1:=
 ⟨h.S.later a,Bf a h.o0,Bf a h.o1⟩
theorem woA {w:qW}{X:QW}{cv hv:Value}{x:QO}{sv:Value}{Bo:Nat}{w':qW}(h:WbO w X cv hv x sv Bo w'):w'.cell? (O Bo 0)=some (J x.cls)/\w'.cell? (O Bo 1)=some sv/\w'.cell? (O w.heap.size 0)=some cv/\w'.cell? (O w.heap.size 1)=some hv/\w'.cell? (O w.heap.size 2)=some (J X.ez)/\WbO w X cv hv x sv Bo w':=⟨h.o0,h.o1,h.S.a0,h.S.a1,h.S.a2,h⟩
theorem woB {w:qW}{X:QW}{cv hv:Value}{x:QO}{sv:Value}{Bo:Nat}{w' w1:qW}{p1 p2 p3 p4 p5:Prop}(h:p1/\p2/\p3/\p4/\p5/\WbO w X cv hv x sv Bo w')(a:qY w' w1):w1.cell? (O Bo 0)=some (J x.cls)/\w1.cell? (O Bo 1)=some sv/\w1.cell? (O w.heap.size 0)=some cv/\w1.cell? (O w.heap.size 1)=some hv/\w1.cell? (O w.heap.size 2)=some (J X.ez)/\WbO w X cv hv x sv Bo w1:=woA (h.2.2.2.2.2.later a)
theorem xvH {P:Nat->Prop}(X:QW)(c:Int)(cv hv:Value)(w:qW)(d:BK P w cv X.cz)(a:BP P w hv X.heap)(S:Int)(b:Cs X.cz c=S):Calls Tryz.prog 83 #[WV cv hv X.ez,J c] w λe w'=>e=.returned (J S)/\qY w w':=by
 have:=xfD X c cv hv w d a;rw[b] at this;exact this
theorem xwh {n c:Int}{b:Bool}(d:Dj n c=b)(w:qW)(a:0<=n/\n<=1000):Calls Tryz.prog 215 #[J n,J c] w λe w'=>e=.returned (.bool b)/\w'=w:=by
 have:=xui n c w a;rw[d] at this;exact this
theorem xxr {n c:Int}{b:Bool}(d:Dj n c=b)(w:qW)(a:0<=n/\n<=1000):Calls Tryz.prog 215 #[J n,J c] w λe w'=>e=.returned (.bool b)/\qY w w':=by
 refine (xwh d w a).mono ?_;rintro e w' ⟨rfl,rfl⟩;exact⟨rfl,Br _ _⟩
set_option maxRecDepth 100000 in
theorem xu6 {P:Nat->Prop}(X:QW)(cv hv:Value)(w:qW)(hh:BK P w cv X.cz)(hH:BP P w hv X.heap)(B:X.cz.length<=12):Calls Tryz.prog 170 #[WV cv hv X.ez] w λe w'=>e=.returned (J (CP (Ev X) 0 X.heap))/\qY w w':=by
 obtain⟨ad,cap,rfl,hl,u,H,-⟩:=id hh;obtain⟨ah,ch,rfl,G,m,D,l⟩:=id hH;unfold maxLen at u m
 have a5:Hid (∀(j:Nat) x (v:Int),X.heap[j]?=some x->(∀i y,i<j->X.heap[i]?=some y->Ev X i y=0)->Ev X j x=v->v≠0->v=CP (Ev X) 0 X.heap):=λj x v Z hD e hv=>by
  subst e;exact (PH Z hv hD).symm
 have ab:Hid ((∀i y,X.heap[i]?=some y->Ev X i y=0)->0=CP (Ev X) 0 X.heap):=λh=>(KL h).symm;generalize CP (Ev X) 0 X.heap=R at *;go_enter Tryz.func170,Tryz.ntmps170;go_upto_region 1 with (fail);have V:=Pw w X (qS ad X.cz.length cap) (qS ah X.heap.length ch);generalize (w.alloc (qA ad cap ah ch X))=W0 at *;have a1:=V.a1;go_wp2;clear a1
 go_loopg [11] X.heap.length (λg i wr=>∃j:Nat,j+g=X.heap.length/\i=J j/\WbS w X (qS ad X.cz.length cap) (qS ah X.heap.length ch) wr/\∀i y,i<j->X.heap[i]?=some y->Ev X i y=0)
 case atStart=>exact⟨0,by omega,rfl,V,λi x h=>by omega⟩
 case round=>
  clear V;obtain⟨j,L,rfl,V,hD⟩:=hrel;have HD:Hid (∀i y,i<j->X.heap[i]?=some y->Ev X i y=0):=hD;clear hD;by_cases hj:j<X.heap.length
  ·have aj:(j:Int)<(X.heap.length:Int):=by omega
   have ak:(0:Int)<=(j:Int):=by omega
   obtain⟨x,Z⟩:∃x,X.heap[j]?=some x:=⟨_,List.getElem?_eq_getElem hj⟩;obtain⟨b,o,rfl,-,v0,sv,v1,hV⟩:=l j x Z;obtain⟨c,a,rfl,F,q,C,p⟩:=id hV;unfold maxLen at q;have U:Hid (∀v:Int,Ev X j x=v->v≠0->v=R):=λv e hv=>a5.out j x v Z HD.out e hv
   have a4:Hid (Ev X j x=0->∀i y,i<j+1->X.heap[i]?=some y->Ev X i y=0):=λh i y hi N=>by
    by_cases hij:i=j
    ·subst hij;rw[Z] at N
     cases N;exact h
    exact HD.out i y (by omega) N
   clear HD Z;simp only[Nat.add_zero] at v0;replace v0:=Bf V.bel v0;replace v1:=Bf V.bel v1
   have M:WbO w X (qS ad X.cz.length cap) (qS (some (O b o)) X.heap.length ch) x (qS c x.slots.length a) wr.heap.size (wr.alloc (qC #[J x.cls,qS c x.slots.length a] 84)):=
    ⟨V.later (Bg _ _),by rw[Bp _ _ _ _ rfl];rfl,by rw[Bp _ _ _ _ rfl];rfl⟩
   go_upto_region 4 with (fail);clear v0 v1 V;generalize wr.heap.size=Bo at *;generalize (wr.alloc (qC #[J x.cls,qS c x.slots.length a] 84))=W2 at *;have o0:=M.o0;have o1:=M.o1;have a0:=M.S.a0;have a1:=M.S.a1;have a2:=M.S.a2
   cases T:Dj (X.cz.length:Int) x.cls
   ·have H8:Hid (8=R):=U.out 8 (by unfold Ev;rw[if_pos (Or.inl T)]) (by decide);go_quiet (first | (go_at_call 215;refine Calls.quiet_of_same (xwh T _ ⟨by omega,by omega⟩)));go_wp2;go_ret;exact⟨BT H8.out,below_drewN M.S.bel _⟩
   obtain⟨S,r⟩:∃S,Cs X.cz x.cls=S:=⟨_,rfl⟩;obtain⟨bb,d⟩:∃bb,bb=((x.slots.length:Int) != S):=⟨_,rfl⟩
   go_cut [31] (λs wx=>s=.bool bb/\WbO w X (qS ad X.cz.length cap) (qS (some (O b o)) X.heap.length ch) x (qS c x.slots.length a) Bo wx)
   case first=>
    have a7:=woA (M.later (Br _ _).drew);clear o0 o1 a0 a1 a2 M
    go_region_held3 (λw'=>w'.cell? (O Bo 0)=some (J x.cls)/\w'.cell? (O Bo 1)=some (qS c x.slots.length a)/\w'.cell? (O w.heap.size 0)=some (qS ad X.cz.length cap)/\w'.cell? (O w.heap.size 1)=some (qS (some (O b o)) X.heap.length ch)/\w'.cell? (O w.heap.size 2)=some (J X.ez)/\WbO w X (qS ad X.cz.length cap) (qS (some (O b o)) X.heap.length ch) x (qS c x.slots.length a) Bo w')
     (first | with_reducible exact a7 | with_reducible exact woB (‹_/\_/\_/\_/\_/\WbO _ _ _ _ _ _ _ _›) hb)
     (first
      | (go_at_call 215;refine (xxr T _ ⟨by omega,by omega⟩).mono ?_;rintro e w' ⟨rfl,hb⟩)
      | (go_at_call 83;refine (xvH X x.cls _ _ _ (hh.later Bw (‹_/\_/\_/\_/\_/\WbO _ _ _ _ _ _ _ _›).2.2.2.2.2.S.bel) (hH.later BB (‹_/\_/\_/\_/\_/\WbO _ _ _ _ _ _ _ _›).2.2.2.2.2.S.bel) S r).mono ?_;rintro e w' ⟨rfl,hb⟩))
    go_wp2_with fail;go_meet
    case rel=>exact⟨by rw[d],(‹_/\_/\_/\_/\_/\WbO _ _ _ _ _ _ _ _›).2.2.2.2.2⟩
   case rest=>
    clear M o0 o1 a0 a1 a2;obtain⟨rfl,M⟩:=hcut;have a3:Hid (Dj (X.cz.length:Int) x.cls=true):=T;have W:Hid (Cs X.cz x.cls=S):=r;have Q:Hid (bb=((x.slots.length:Int) != S)):=d;clear r d T
    cases bb
    ·have HF:Hid (Ev X j x=CP (λ_ v=>Cn X.heap.length v) 0 x.slots):=by
      have h1:=Q.out;show _=_;unfold Ev;rw[if_neg];rw[a3.out,W.out];simpa using h1
     have HV:Hid (∀(i:Nat) (y:QV),x.slots[i]?=some y->(∀k z,k<i->x.slots[k]?=some z->Cn X.heap.length z=0)->Cn X.heap.length y≠0->Cn X.heap.length y=R):=λi y N hi hv=>U.out _ (by rw[HF.out];exact PH (f:=λ_ v=>Cn X.heap.length v) N hv hi) hv;have a6:Hid ((∀k z,x.slots[k]?=some z->Cn X.heap.length z=0)->∀i y,i<j+1->X.heap[i]?=some y->Ev X i y=0):=λh=>a4.out (by rw[HF.out];exact KL h);clear HF U a4 Q W a3;have o1:=M.o1;go_wp2;clear o1;obtain⟨go,K⟩:∃go,go=gk:=⟨_,rfl⟩
     go_loopg [35] x.slots.length (λg i wi=>∃t:Nat,t+g=x.slots.length/\i=J t/\WbO w X (qS ad X.cz.length cap) (qS (some (O b o)) X.heap.length ch) x (qS c x.slots.length a) Bo wi/\∀k z,k<t->x.slots[k]?=some z->Cn X.heap.length z=0)
     case atStart=>exact⟨0,by omega,rfl,M,λk z h=>by omega⟩
     case round=>
      clear M;obtain⟨t,ht,rfl,M,hE⟩:=hrel;have HE:Hid (∀k z,k<t->x.slots[k]?=some z->Cn X.heap.length z=0):=hE;clear hE;by_cases htl:t<x.slots.length
      ·have am:(t:Int)<(x.slots.length:Int):=by omega
       have al:(0:Int)<=(t:Int):=by omega
       obtain⟨y,N⟩:∃y,x.slots[t]?=some y:=⟨_,List.getElem?_eq_getElem htl⟩;obtain⟨b2,o2,rfl,-,p0,p1⟩:=p t y N;simp only[Nat.add_zero] at p0;replace p0:=Bf M.S.bel p0;replace p1:=Bf M.S.bel p1;have Y:=Bg wr (qH y);have a1:=Bf Y M.S.a1;have a8:Hid (Cn X.heap.length y≠0->Cn X.heap.length y=R):=λh=>HV.out t y N HE.out h
       have a9:Hid (Cn X.heap.length y=0->∀k z,k<t+1->x.slots[k]?=some z->Cn X.heap.length z=0):=λh k z hk hz=>by
        by_cases hkt:k=t
        ·subst hkt;rw[N] at hz;cases hz;exact h
        exact HE.out k z (by omega) hz
       clear HE N;go_wp2_with fail;refine (xin y X.heap.length _).mono ?_;rintro e w5 ⟨rfl,hb⟩;replace M:=M.later (Bh Y hb);clear hb Y a1 p0 p1;generalize Cn X.heap.length y=wv at *;by_cases wz:wv=0
       ·have wz':(wv != 0)=false:=by simp[wz]
        have ae:Hid (∀k z,k<t+1->x.slots[k]?=some z->Cn X.heap.length z=0):=a9.out wz;clear wz;go_wp2;go_roundg (gk-1)
        case measure=>omega
        case rel=>exact⟨t+1,by omega,by go_num,M,ae.out⟩
       have wz':(wv != 0)=true:=by simpa using wz
       have ai:Hid (wv=R):=a8.out wz;clear wz;go_wp2;go_ret;exact⟨BT ai.out,M.S.bel⟩
      obtain rfl:t=x.slots.length:=by omega
      have ag:Hid (∀i y,i<j+1->X.heap[i]?=some y->Ev X i y=0):=a6.out λk z hz=>HE.out k z (Bz hz) hz;go_wp2;go_roundg (go-1)
      case measure=>omega
      case rel=>exact⟨j+1,by omega,by go_num,M.S,ag.out⟩
    have aa:Hid (8=R):=U.out 8 (by
     have h1:=Q.out;unfold Ev;rw[if_pos (Or.inr (by rw[W.out];simpa using h1.symm))]) (by decide)
    go_wp2;go_ret;exact⟨BT aa.out,M.S.bel⟩
  obtain rfl:j=X.heap.length:=by omega
  have af:Hid (0=R):=ab.out λi y N=>HD.out i y (Bz N) N;go_wp2;go_ret;exact⟨BT af.out,V.bel⟩
theorem xvT (a b:Option Addr)(c n c':Nat)(w:qW):Calls Tryz.prog 267 #[qS a 0 c,qS b n c'] w λe w'=>e=.returned (.bool (decide (n=0)))/\w'=w:=by
 go_enter Tryz.func267,Tryz.ntmps267;by_cases h:n=0
 ·subst h;go_wp2
  go_loopg [13] 0 (λg i wr=>i=J 0/\wr=w)
  case atStart=>exact⟨rfl,rfl⟩
  case round=>
   obtain⟨rfl,f⟩:=hrel;subst f;go_wp2;go_ret;exact⟨rfl,rfl⟩
 have h':((0:Int) != (n:Int))=true:=by simp;omega
 have d:decide (n=0)=false:=by simpa using h
 go_wp2;go_ret;exact⟨Cq d.symm,rfl⟩
def Ph (m p:QM):Bool:=CD p.name m.name && decide (p.args=m.args) && decide (p.temps=m.temps) && decide (p.prim=m.prim) && decide (m.code.length=0)
theorem xv1 {P:Nat->Prop}(cap':Value)(p:QM->Bool)(xs:List QM)(v:Value)(w:qW)(Q:EC P w v xs)
  (L:∀(x:QM) (a:Option Addr) (c:Nat) (w':qW),x∈xs->qY w w'->Calls Tryz.prog 266 #[MV x (qS a x.code.length c),cap'] w' λe w''=>e=.returned (.bool (p x))/\qY w' w'') :
  Calls Tryz.prog 134 #[v,.func (.func 266) #[] #[cap']] w λe w'=>e=.returned (J (CB p xs))/\qY w w':=by
 obtain⟨ad,cap,rfl,R,u,B,f⟩:=Q;go_enter Tryz.func134,Tryz.ntmps134;go_wp2
 go_loopg [8] xs.length (λg c wr=>∃j:Nat,j+g=xs.length/\c=J j/\qY w wr/\∀i y,i<j->xs[i]?=some y->p y=false)
 case atStart=>exact⟨0,by omega,rfl,Br _ _,λi y N=>by omega⟩
 case round=>
  obtain⟨j,S,rfl,d,q⟩:=hrel;have F:Hid (∀i y,i<j->xs[i]?=some y->p y=false):=q;clear q;by_cases hlt:j<xs.length
  ·obtain⟨b,o,rfl,-,h,s,k,m,z,sv,r,n⟩:=f j xs[j] (by simp[hlt]);have C:Hid (xs[j]?=some xs[j]):=by show _=_;simp[hlt]
   generalize xs[j]=x at *;simp only[Nat.add_zero] at h;have u0:=Bf d h;have u1:=Bf d s;have u2:=Bf d k;have u3:=Bf d m;have u4:=Bf d r;obtain⟨t,l,rfl,-,-,-,-⟩:=id n;clear h s k m r n f;have K:(j:Int)<(xs.length:Int):=by omega
   have M:(0:Int)<=(j:Int):=by omega
   go_wp2_with fail;refine (L x t l _ (List.mem_of_getElem? C.out) d).mono ?_;rintro e w1 ⟨rfl,H⟩;by_cases hp:p x=true
   ·go_wp2;go_ret;exact⟨BT (Kq C.out hp F.out).symm,Bh d H⟩
   have G:p x=false:=by simpa using hp
   clear hp;go_wp2;go_roundg (gk-1)
   case measure=>omega
   case rel=>
    refine⟨j+1,by omega,by go_num,Bh d H,λi y N D=>?_⟩;by_cases hij:i=j
    ·subst hij;rw[C.out] at D;cases D;exact G
    exact F.out i y (by omega) D
  obtain rfl:j=xs.length:=by omega
  go_wp2;go_ret;exact⟨BT (Lq λi y D=>F.out i y (Bz D) D).symm,d⟩
theorem xw1 (m x:QM)(a b:Option Addr)(c c' B:Nat)(w:qW)(p:x.code=[])(q0:w.cell? (O B 0)=some (qZ m.name))(q1:w.cell? (O B 1)=some (J m.args))(q2:w.cell? (O B 2)=some (J m.temps))(q3:w.cell? (O B 3)=some (J m.prim))(q4:w.cell? (O B 4)=some (qS b m.code.length c')):Calls Tryz.prog 266 #[MV x (qS a x.code.length c),qP B] w λe w'=>e=.returned (.bool (Ph m x))/\qY w w':=by
 rw[p];have f:Hid (Ph m x=(CD x.name m.name && decide (x.args=m.args) && decide (x.temps=m.temps) && decide (x.prim=m.prim) && decide (m.code.length=0))):=rfl;generalize Ph m x=R at *;have d:=Bg w (qC #[qZ x.name,J x.args,J x.temps,J x.prim,qS a 0 c] 51);replace q0:=Bf d q0;replace q1:=Bf d q1;replace q2:=Bf d q2;replace q3:=Bf d q3;replace q4:=Bf d q4;go_enter Tryz.func266,Tryz.ntmps266
 cases g:CD x.name m.name
 ·have i:(x.name.toList == m.name.toList)=false:=g;go_wp2;go_ret;exact⟨Cq (by rw[f.out,g];rfl),d⟩
 have i:(x.name.toList == m.name.toList)=true:=g;by_cases h1:x.args=m.args
 case neg=>
  have k:(x.args == m.args)=false:=beq_eq_false_iff_ne.2 h1;go_wp2;go_ret;exact⟨Cq (by rw[f.out,decide_eq_false h1];simp),d⟩
 have k:(x.args == m.args)=true:=beq_iff_eq.2 h1;have q:Hid (decide (x.args=m.args)=true):=decide_eq_true h1;clear h1;by_cases h2:x.temps=m.temps
 case neg=>
  have h:(x.temps == m.temps)=false:=beq_eq_false_iff_ne.2 h2;go_wp2;go_ret;exact⟨Cq (by rw[f.out,decide_eq_false h2];simp),d⟩
 have h:(x.temps == m.temps)=true:=beq_iff_eq.2 h2;have o:Hid (decide (x.temps=m.temps)=true):=decide_eq_true h2;clear h2;by_cases h3:x.prim=m.prim
 case neg=>
  have j:(x.prim == m.prim)=false:=beq_eq_false_iff_ne.2 h3;go_wp2;go_ret;exact⟨Cq (by rw[f.out,decide_eq_false h3];simp),d⟩
 have j:(x.prim == m.prim)=true:=beq_iff_eq.2 h3;have l:Hid (decide (x.prim=m.prim)=true):=decide_eq_true h3;clear h3;go_wp2_with fail;refine (xvT _ _ _ m.code.length _ _).mono ?_;rintro e w1 ⟨rfl,n⟩;subst n;go_wp2;go_ret;exact⟨Cq (by rw[f.out,q.out,o.out,l.out,g];simp),d⟩
theorem xwA {m:QM}:xrh.any (Ph m)=Ft 3 m:=by
 unfold xrh Ft Ph;simp only[xrh,List.any_cons,List.any_nil,decide_true,Bool.true_and,Bool.or_false];have e1:decide ((1:Int)=m.args)=decide (m.args=1):=by simp[eq_comm]
 have e2:decide ((0:Int)=m.temps)=decide (m.temps=0):=by simp[eq_comm]
 rw[e1,e2]
 cases decide (m.args=1)<;>cases decide (m.temps=0)<;>cases decide (m.code.length=0)<;>simp
theorem xwb:∀x∈xrh,x.code=[]:=by
 intro x a;unfold xrh at a;simp only[Zm,Zn,or_false] at a;rcases a with rfl | rfl | rfl | rfl | rfl<;>rfl
theorem xv8 {P:Nat->Prop}(cap':Value)(p:QM->Bool)(xs:List QM)(v:Value)(w:qW)(f:EC P w v xs)
  (b:∀(x:QM) (a:Option Addr) (c:Nat) (w':qW),x∈xs->qY w w'->Calls Tryz.prog 266 #[MV x (qS a x.code.length c),cap'] w' λe w''=>e=.returned (.bool (p x))/\qY w' w'') :
  Calls Tryz.prog 265 #[v,.func (.func 266) #[] #[cap']] w λe w'=>e=.returned (.bool (decide (0<=CB p xs)))/\qY w w':=by
 go_enter Tryz.func265,Tryz.ntmps265;go_wp2_with fail;refine (xv1 cap' p xs v w f b).mono ?_;rintro e w1 ⟨rfl,d⟩;go_wp2;go_ret;exact⟨rfl,d⟩
theorem xwN {P:Nat->Prop}(m:QM)(v mv:Value)(w:qW)(j:EC P w v xrh)(h:∃b c,mv=qS b m.code.length c):Calls Tryz.prog 248 #[v,MV m mv] w λe w'=>e=.returned (.bool (Ft 3 m))/\qY w w':=by
 obtain⟨b,c,rfl⟩:=h;have f:=Bg w (qD m b c);rw[← xwA,← xn8];have g:=Gm;go_enter Tryz.func248,Tryz.ntmps248;go_wp2_with fail;refine (xv8 _ (Ph m) xrh v _ (j.later xbj f) λx a c' w' i d=>xw1 m x a b c' c w.heap.size w' (xwb x i) (Bf d (by rw[Bp _ _ _ _ rfl];rfl)) (Bf d (by rw[Bp _ _ _ _ rfl];rfl)) (Bf d (by rw[Bp _ _ _ _ rfl];rfl)) (Bf d (by rw[Bp _ _ _ _ rfl];rfl)) (Bf d (by rw[Bp _ _ _ _ rfl];rfl))).mono ?_;rintro e w1 ⟨rfl,d⟩;go_wp2;go_ret;exact⟨rfl,Bh f d⟩
theorem infE:(Tryz.prog.info? 33).map (λi=>(i.zero,i.size,i.bytes))=some (some (J 0),1,8):=by kernel_rfl
theorem xxP:(Tryz.prog.info? 23).map (λi=>(i.zero,i.size,i.bytes))=some (some (qN),1,24):=by kernel_rfl
theorem xxj (a b:Int)(w:qW):(Instr.field 90 (.agg #[J a,J b]) 0).run Tryz.prog w=.ok (J a) w:=by
 obtain⟨i0,f,e,c,d⟩:=Gb infE;simp[Instr.field,run_underlying Tryz.underlying90,part,sizeOf,typeInfo,f,c,asAgg]
theorem xvw (a b c:Value)(w:qW):(Instr.field 26 (.agg #[a,b,c]) 0).run Tryz.prog w=.ok a w:=by
 obtain⟨i0,g,f,d,e⟩:=Gb xxP;simp[Instr.field,run_underlying Tryz.underlying26,part,sizeOf,typeInfo,g,d,asAgg]
theorem xuJ {ms:List QM}{t:Nat}{p m:QM}(h:ms[t]?=some p):GW ms (t+1) m=FK p.name m.name:=by simp[GW,h]
theorem xwQ {X:QW}{k i:Nat}{ms:List QM}{m:QM}(h:GW ms i m=false):Dn X k ms i m=7:=by unfold Dn;rw[if_pos h]
theorem xxp {X:QW}{k i:Nat}{ms:List QM}{m:QM}(h:GW ms i m=true)(a:Ft k m=true):Dn X k ms i m=0:=by unfold Dn;rw[if_neg (by simp[h]),if_pos a]
theorem xwX {X:QW}{k i:Nat}{ms:List QM}{m:QM}(h:GW ms i m=true)(a:Ft k m=false):Dn X k ms i m=(Em (Cs X.cz k) X.cz.length k m).1:=by unfold Dn;rw[if_neg (by simp[h]),if_neg (by simp[a])]
theorem xwL {k:Nat}{m:QM}(h:k≠3):Ft k m=false:=by
 unfold Ft;rw[List.any_eq_false];intro p _;simp[h]
structure WmS (w:qW)(X:QW)(cv hv:Value)(m:QM)(mv:Value)(b2 o2 k:Nat)(w':qW):Prop where
 S:WbS w X cv hv w'
 p0:w'.cell? (O b2 (o2+k*5))=some (qZ m.name)
 p1:w'.cell? (O b2 (o2+k*5+1))=some (J m.args)
 p2:w'.cell? (O b2 (o2+k*5+2))=some (J m.temps)
 p3:w'.cell? (O b2 (o2+k*5+3))=some (J m.prim)
 p4:w'.cell? (O b2 (o2+k*5+4))=some mv
theorem WmS.later {w:qW}{X:QW}{cv hv:Value}{m:QM}{mv:Value}{b2 o2 k:Nat}{w' w1:qW}(h:WmS w X cv hv m mv b2 o2 k w')(a:qY w' w1):WmS w X cv hv m mv b2 o2 k w1:=
 ⟨h.S.later a,Bf a h.p0,Bf a h.p1,Bf a h.p2,Bf a h.p3,Bf a h.p4⟩
theorem wmA {w:qW}{X:QW}{cv hv:Value}{m:QM}{mv:Value}{b2 o2 k:Nat}{w':qW}(h:WmS w X cv hv m mv b2 o2 k w'):w'.cell? (O w.heap.size 0)=some cv/\w'.cell? (O w.heap.size 1)=some hv/\w'.cell? (O w.heap.size 2)=some (J X.ez)/\w'.cell? (O b2 (o2+k*5))=some (qZ m.name)/\w'.cell? (O b2 (o2+k*5+1))=some (J m.args)/\w'.cell? (O b2 (o2+k*5+2))=some (J m.temps)/\w'.cell? (O b2 (o2+k*5+3))=some (J m.prim)/\w'.cell? (O b2 (o2+k*5+4))=some mv/\WmS w X cv hv m mv b2 o2 k w':=⟨h.S.a0,h.S.a1,h.S.a2,h.p0,h.p1,h.p2,h.p3,h.p4,h⟩
theorem wmB {w:qW}{X:QW}{cv hv:Value}{m:QM}{mv:Value}{b2 o2 k:Nat}{w' w1:qW}{q0 q1 q2 q3 q4 q5 q6 q7:Prop}(h:q0/\q1/\q2/\q3/\q4/\q5/\q6/\q7/\WmS w X cv hv m mv b2 o2 k w')(a:qY w' w1):w1.cell? (O w.heap.size 0)=some cv/\w1.cell? (O w.heap.size 1)=some hv/\w1.cell? (O w.heap.size 2)=some (J X.ez)/\w1.cell? (O b2 (o2+k*5))=some (qZ m.name)/\w1.cell? (O b2 (o2+k*5+1))=some (J m.args)/\w1.cell? (O b2 (o2+k*5+2))=some (J m.temps)/\w1.cell? (O b2 (o2+k*5+3))=some (J m.prim)/\w1.cell? (O b2 (o2+k*5+4))=some mv/\WmS w X cv hv m mv b2 o2 k w1:=wmA (h.2.2.2.2.2.2.2.2.later a)
theorem xwk (w:qW):Calls Tryz.prog 35 #[] w λe w'=>∃cv hv,e=.returned (WV cv hv 0)/\BK (λb=>w.heap.size<=b) w' cv xlV.cz/\BP (λb=>w.heap.size<=b) w' hv []/\qY w w':=by
 go_enter Tryz.func35,Tryz.ntmps35;go_wp2;refine Bt (v:=WV (qS (some (O (w.heap.size+1+1) 0)) 4 4) (qN) 0) ?_ rfl ⟨_,_,rfl,?_,GZ,DW _ _ _ _⟩
 ·simp[results,Tryz.results35,go_sem]
 refine Cells.row (cs:=xqn (qG (w.heap.size+1) 5 5)) (xmq ?_) Bw (by omega) (Dh _ _ _ (by simp)) rfl (by decide) (by unfold maxLen;omega) (by decide);refine IsRow.later ?_ xbj (Bg _ _);exact Cells.row xmx xbj (by omega) (Dh _ _ _ (by simp)) rfl (by decide) (by unfold maxLen;omega) (by decide)
theorem xvc {P:Nat->Prop}{w:qW}{cv:Value}(h:BK P w cv xlV.cz):∃bf og y1 b3 o3 c3,cv=qS (some (O bf og)) 4 y1/\w.cell? (O bf (og+15))=some (qS (some (O b3 o3)) 5 c3)/\EC P w (qS (some (O b3 o3)) 5 c3) xrh:=by
 obtain⟨a,c,rfl,-,-,-,e⟩:=h;obtain⟨bf,og,rfl,-,-,-,-,-,mv,v3,d⟩:=e 3 _ rfl;obtain⟨a3,c3,rfl,f,g,i,b⟩:=id d;obtain⟨b3,o3,rfl,-⟩:=b 0 _ rfl;exact⟨bf,og,c,b3,o3,c3,rfl,v3,d⟩
theorem xxB {P:Nat->Prop}(X:QW)(c:Int)(m:QM)(cv hv mv:Value)(w:qW)(b:BK P w cv X.cz)(f:BP P w hv X.heap)(g:Cm P w mv m.code)(a:m.name.size<=140737488351232)(f1 f2:Int)(d:Em (Cs X.cz c) X.cz.length c m=(f1,f2)):Calls Tryz.prog 79 #[WV cv hv X.ez,J c,MV m mv] w λe w'=>e=.returned (.agg #[J f1,J f2])/\qY w w':=by
 have:=xnu X c m cv hv mv w b f g a;rw[d] at this;exact this
set_option maxRecDepth 100000 in
theorem xv9 {P:Nat->Prop}(X:QW)(n k:Nat)(x:QC)(m:QM)(cv hv:Value)(w:qW)(hh:BK P w cv X.cz)(hH:BP P w hv X.heap)(hx:X.cz[n]?=some x)(hm:x.mz[k]?=some m):Calls Tryz.prog 216 #[WV cv hv X.ez,J n,J k] w λe w'=>e=.returned (J (Dn X n x.mz k m))/\qY w w':=by
 obtain⟨ad,cap,rfl,hl,j,K,l⟩:=id hh;obtain⟨ah,ch,rfl⟩:=hH.get;unfold maxLen at j;obtain⟨b,o,rfl,-,-,-,-,-,mv,v3,z⟩:=l n x hx;obtain⟨G,D,rfl,L,g,C,c⟩:=id z;unfold maxLen at g;obtain⟨b2,o2,rfl,-,p0,p1,p2,p3,y,M,p4,i⟩:=c k m hm;obtain⟨f,a,rfl⟩:=i.get;simp only[Nat.add_zero] at p0;have aj:=Bz hx;have ab:=Bz hm;have af:(0:Int)<=(n:Int):=by omega
 have ag:(n:Int)<(X.cz.length:Int):=by omega
 have ai:(0:Int)<=(k:Int):=by omega
 have ae:(k:Int)<(x.mz.length:Int):=by omega
 have HA:Hid (GW x.mz k m=false->7=Dn X n x.mz k m):=λh=>(xwQ h).symm;have HP:Hid (GW x.mz k m=true->Ft n m=true->0=Dn X n x.mz k m):=λh h2=>(xxp h h2).symm;have HC:Hid (GW x.mz k m=true->Ft n m=false->(Em (Cs X.cz n) X.cz.length n m).1=Dn X n x.mz k m):=λh h2=>(xwX h h2).symm;generalize Dn X n x.mz k m=R at *;go_enter Tryz.func216,Tryz.ntmps216;go_upto_region 1 with (fail);have U:=Pw w X (qS (some (O b o)) X.cz.length cap) (qS ah X.heap.length ch);generalize (w.alloc (qC #[qS (some (O b o)) X.cz.length cap,qS ah X.heap.length ch,J X.ez] 26))=W0 at *;have Q:WmS w X (qS (some (O b o)) X.cz.length cap) (qS ah X.heap.length ch) m (qS f m.code.length a) b2 o2 k W0:=⟨U,Bf U.bel p0,Bf U.bel p1,Bf U.bel p2,Bf U.bel p3,Bf U.bel p4⟩;clear p0 p1 p2 p3 p4;have a0:=Q.S.a0;replace v3:=Bf Q.S.bel v3;go_upto_region 2 with (fail);clear a0 v3 U;have p0:=Q.p0
 cases N:GW x.mz k m
 ·have H7:Hid (7=R):=HA.out N
  cases k with
  | zero=>cases N
  | succ t=>
   obtain⟨p,Y⟩:∃p,x.mz[t]?=some p:=⟨_,List.getElem?_eq_getElem (by omega)⟩
   have a8:Op.bytesLess p.name.toList m.name.toList=false:=by
    have:=N;rw[xuJ Y] at this;exact this
   obtain⟨b3,o3,e3,-,r0,-⟩:=c t p Y
   cases e3;simp only[Nat.add_zero] at r0;replace r0:=Bf Q.S.bel r0;have a2:(0:Int)<((t+1:Nat):Int):=by omega
   have a1:IntKind.i64.wrap (((t+1:Nat):Int)-1)=(t:Int):=by rw[IntKind.wrap_i64];omega
   have a6:(t:Int)<(x.mz.length:Int):=by omega
   clear Y N;go_quiet (fail);go_wp2;go_ret;exact⟨BT H7.out,below_drewN Q.S.bel _⟩
 go_cut [29] (λs wx=>s=.bool false/\WmS w X (qS (some (O b o)) X.cz.length cap) (qS ah X.heap.length ch) m (qS f m.code.length a) b2 o2 k wx)
 case first=>
  cases k with
  | zero=>
   go_quiet (fail);go_wp2_with fail;go_meet
   case rel=>exact⟨rfl,Q.later (below_drewN (Br _ _) _)⟩
  | succ t=>
   obtain⟨p,Y⟩:∃p,x.mz[t]?=some p:=⟨_,List.getElem?_eq_getElem (by omega)⟩
   have a8:Op.bytesLess p.name.toList m.name.toList=true:=by
    have:=N;rw[xuJ Y] at this;exact this
   obtain⟨b3,o3,e3,-,r0,-⟩:=c t p Y
   cases e3;simp only[Nat.add_zero] at r0;replace r0:=Bf Q.S.bel r0;have a2:(0:Int)<((t+1:Nat):Int):=by omega
   have a1:IntKind.i64.wrap (((t+1:Nat):Int)-1)=(t:Int):=by rw[IntKind.wrap_i64];omega
   have a6:(t:Int)<(x.mz.length:Int):=by omega
   clear Y N;go_quiet (fail);go_wp2_with fail;go_meet
   case rel=>exact⟨rfl,Q.later (below_drewN (Br _ _) _)⟩
 case rest=>
  clear Q p0;obtain⟨rfl,Q⟩:=hcut;have Z:Hid (Ft n m=true->0=R):=HP.out N;have a3:Hid (Ft n m=false->(Em (Cs X.cz n) X.cz.length n m).1=R):=HC.out N;clear HA HP HC N;go_upto_region 4 with (fail);obtain⟨pb,d⟩:∃pb,Ft n m=pb:=⟨_,rfl⟩
  go_cut [44] (λs wx=>s=.bool pb/\WmS w X (qS (some (O b o)) X.cz.length cap) (qS ah X.heap.length ch) m (qS f m.code.length a) b2 o2 k wx)
  case first=>
   by_cases n3:n=3
   case neg=>
    have n3':((n:Int) == 3)=false:=beq_eq_false_iff_ne.2 (by omega);have a7:pb=false:=by rw[← d];exact xwL n3
    subst a7;clear d n3;go_quiet (fail);go_wp2_with fail;go_meet
    case rel=>exact⟨rfl,Q.later (below_drewN (Br _ _) _)⟩
   subst n3;have T:=Q.later (Br _ _).drew;clear Q;have a9:=xvw;have p0:=T.p0;have p1:=T.p1;have p2:=T.p2;have p3:=T.p3;have p4:=T.p4
   go_region_with (first
    | (go_at_call 35;refine (xwk _).mono ?_;rintro e w' ⟨F,H,rfl,r,u,q⟩;obtain⟨bf,og,y1,b3,o3,c3,rfl,u3,v⟩:=xvc r;obtain⟨x2,y2,rfl⟩:=u.get;have V:=T.later q;have r0:=V.p0;have r1:=V.p1;have r2:=V.p2;have r3:=V.p3;have r4:=V.p4)
    | (go_at_call 248;refine (xwN m _ _ _ v ⟨_,_,rfl⟩).mono ?_;rintro e w'' ⟨rfl,B⟩;have a4:=V.later B))
   all_goals
    go_wp2_with fail;go_meet
    case rel=>exact⟨by rw[← d],a4⟩
  case rest=>
   clear Q;obtain⟨rfl,Q⟩:=hcut
   cases pb
   ·have W:=a3.out d;obtain⟨f1,f2,hf⟩:∃f1 f2,Em (Cs X.cz n) X.cz.length n m=(f1,f2):=⟨_,_,rfl⟩;have a5:Hid (f1=R):=by rw[hf] at W;exact W
    clear W Z a3 d;have aa:=xxj;go_upto_region 6 with (fail);have T:=wmA (Q.later (Br _ _).drew);clear Q
    go_region_held3 (λw'=>w'.cell? (O w.heap.size 0)=some (qS (some (O b o)) X.cz.length cap)/\w'.cell? (O w.heap.size 1)=some (qS ah X.heap.length ch)/\w'.cell? (O w.heap.size 2)=some (J X.ez)/\w'.cell? (O b2 (o2+k*5))=some (qZ m.name)/\w'.cell? (O b2 (o2+k*5+1))=some (J m.args)/\w'.cell? (O b2 (o2+k*5+2))=some (J m.temps)/\w'.cell? (O b2 (o2+k*5+3))=some (J m.prim)/\w'.cell? (O b2 (o2+k*5+4))=some (qS f m.code.length a)/\WmS w X (qS (some (O b o)) X.cz.length cap) (qS ah X.heap.length ch) m (qS f m.code.length a) b2 o2 k w')
     (first | with_reducible exact T | with_reducible exact wmB (‹_/\_/\_/\_/\_/\_/\_/\_/\WmS _ _ _ _ _ _ _ _ _ _›) hb)
     (first | (go_at_call 79;refine (xxB X n m _ _ _ _ (hh.later Bw (‹_/\_/\_/\_/\_/\_/\_/\_/\WmS _ _ _ _ _ _ _ _ _ _›).2.2.2.2.2.2.2.2.S.bel) (hH.later BB (‹_/\_/\_/\_/\_/\_/\_/\_/\WmS _ _ _ _ _ _ _ _ _ _›).2.2.2.2.2.2.2.2.S.bel) (i.later BR (‹_/\_/\_/\_/\_/\_/\_/\_/\WmS _ _ _ _ _ _ _ _ _ _›).2.2.2.2.2.2.2.2.S.bel) y f1 f2 hf).mono ?_;rintro e w' ⟨rfl,hb⟩))
    go_wp2;go_ret;exact⟨BT a5.out,(‹_/\_/\_/\_/\_/\_/\_/\_/\WmS _ _ _ _ _ _ _ _ _ _›).2.2.2.2.2.2.2.2.S.bel⟩
   have H0:Hid (0=R):=Z.out d;go_wp2;go_ret;exact⟨BT H0.out,Q.S.bel⟩
structure WbC (w:qW)(X:QW)(cv hv:Value)(sv:Value)(Bc:Nat)(w':qW):Prop where
 S:WbS w X cv hv w'
 c3:w'.cell? (O Bc 3)=some sv
theorem WbC.later {w:qW}{X:QW}{cv hv:Value}{sv:Value}{Bc:Nat}{w' w1:qW}(h:WbC w X cv hv sv Bc w')(a:qY w' w1):WbC w X cv hv sv Bc w1:=⟨h.S.later a,Bf a h.c3⟩
set_option maxRecDepth 100000 in
theorem xuw {P:Nat->Prop}(X:QW)(cv hv:Value)(w:qW)(Y:BK P w cv X.cz)(hH:BP P w hv X.heap):Calls Tryz.prog 169 #[WV cv hv X.ez] w λe w'=>e=.returned (J (CP (Dm X) 0 X.cz))/\qY w w':=by
 obtain⟨ad,cap,rfl,hl,n,u,l⟩:=id Y;obtain⟨ah,ch,rfl⟩:=hH.get;unfold maxLen at n
 have W:Hid (∀(j:Nat) x (v:Int),X.cz[j]?=some x->(∀i y,i<j->X.cz[i]?=some y->Dm X i y=0)->Dm X j x=v->v≠0->v=CP (Dm X) 0 X.cz):=λj x v M V e hv=>by
  subst e;exact (PH M hv V).symm
 have a6:Hid ((∀i y,X.cz[i]?=some y->Dm X i y=0)->0=CP (Dm X) 0 X.cz):=λh=>(KL h).symm;generalize CP (Dm X) 0 X.cz=R at *;go_enter Tryz.func169,Tryz.ntmps169;go_upto_region 1 with (fail);have F:=Pw w X (qS ad X.cz.length cap) (qS ah X.heap.length ch);generalize (w.alloc (qA ad cap ah ch X))=W0 at *;have a0:=F.a0;go_wp2;clear a0
 go_loopg [10] X.cz.length (λg i wr=>∃j:Nat,j+g=X.cz.length/\i=J j/\WbS w X (qS ad X.cz.length cap) (qS ah X.heap.length ch) wr/\∀i y,i<j->X.cz[i]?=some y->Dm X i y=0)
 case atStart=>exact⟨0,by omega,rfl,F,λi x h=>by omega⟩
 case round=>
  clear F;obtain⟨j,hg,rfl,F,V⟩:=hrel;have T:Hid (∀i y,i<j->X.cz[i]?=some y->Dm X i y=0):=V;clear V;by_cases hj:j<X.cz.length
  ·have ae:(j:Int)<(X.cz.length:Int):=by omega
   have af:(0:Int)<=(j:Int):=by omega
   obtain⟨x,M⟩:∃x,X.cz[j]?=some x:=⟨_,List.getElem?_eq_getElem hj⟩;obtain⟨b,o,rfl,-,v0,v1,v2,B,mv,v3,p⟩:=l j x M;obtain⟨c,a,rfl,s,d,r,q⟩:=id p;unfold maxLen at d;simp only[Nat.add_zero] at v0;replace v0:=Bf F.bel v0;replace v1:=Bf F.bel v1;replace v2:=Bf F.bel v2;replace v3:=Bf F.bel v3;have Z:Hid (X.cz[j]?=some x):=M;clear M;have G:Hid (∀v:Int,Dm X j x=v->v≠0->v=R):=λv e hv=>W.out j x v Z.out T.out e hv
   have N:Hid (Dm X j x=0->∀i y,i<j+1->X.cz[i]?=some y->Dm X i y=0):=λh i y hi D=>by
    by_cases hij:i=j
    ·subst hij;rw[Z.out] at D
     cases D;exact h
    exact T.out i y Zo D
   have C:WbC w X (qS (some (O b o)) X.cz.length cap) (qS ah X.heap.length ch) (qS c x.mz.length a) wr.heap.size (wr.alloc (qC #[qZ x.name,J x.super,J x.slots,qS c x.mz.length a] 80)):=
    ⟨F.later (Bg _ _),by rw[Bp _ _ _ _ rfl];rfl⟩
   have a0:=C.S.a0;have a1:=C.S.a1;have a2:=C.S.a2;obtain⟨S,f⟩:∃S,Cs X.cz j=S:=⟨_,rfl⟩;go_wp2_with fail;clear v0 v1 v2 v3 F a0 a1 a2;generalize wr.heap.size=Bc at *;generalize (wr.alloc (qC #[qZ x.name,J x.super,J x.slots,qS c x.mz.length a] 80))=W2 at *;refine (xvH X j _ _ _ (Y.later Bw C.S.bel) (hH.later BB C.S.bel) S f).mono ?_;rintro e w2 ⟨rfl,Q⟩;replace C:=C.later Q;clear Q;have H:Hid (Cs X.cz j=S):=f;clear f;have c3:=C.c3;by_cases s6:6<S
   ·have H3:Hid (3=R):=G.out 3 (by unfold Dm;rw[H.out,if_pos s6]) (by decide);go_wp2;go_ret;exact⟨BT H3.out,C.S.bel⟩
   have s6':decide (6<S)=false:=by simpa using s6
   by_cases m8:(8:Int)<(x.mz.length:Int)
   ·have H5:Hid (5=R):=G.out 5 (by unfold Dm;rw[H.out,if_neg s6,if_pos Zo]) (by decide);go_wp2;go_ret;exact⟨BT H5.out,C.S.bel⟩
   have m8':decide ((8:Int)<(x.mz.length:Int))=false:=by simpa using m8
   have K:Hid (Dm X j x=CP (Dn X j x.mz) 0 x.mz):=by show _=_;unfold Dm;rw[H.out,if_neg s6,if_neg Zo]
   have a4:Hid (∀(i:Nat) (m:QM),x.mz[i]?=some m->(∀k y,k<i->x.mz[k]?=some y->Dn X j x.mz k y=0)->∀v:Int,Dn X j x.mz i m=v->v≠0->v=R):=λi m L hi v e hv=>by
    subst e;exact G.out _ (by rw[K.out,PH L hv hi]) hv
   have aa:Hid ((∀k y,x.mz[k]?=some y->Dn X j x.mz k y=0)->∀i y,i<j+1->X.cz[i]?=some y->Dm X i y=0):=λh=>N.out (by rw[K.out];exact KL h);clear G N K H T;go_wp2;clear c3 s6 s6' m8 m8';obtain⟨go,z⟩:∃go,go=gk:=⟨_,rfl⟩
   go_loopg [26] x.mz.length (λg i wi=>∃t:Nat,t+g=x.mz.length/\i=J t/\WbC w X (qS (some (O b o)) X.cz.length cap) (qS ah X.heap.length ch) (qS c x.mz.length a) Bc wi/\∀k y,k<t->x.mz[k]?=some y->Dn X j x.mz k y=0)
   case atStart=>exact⟨0,by omega,rfl,C,λk y h=>by omega⟩
   case round=>
    clear C;obtain⟨t,ht,rfl,C,hE⟩:=hrel;have U:Hid (∀k y,k<t->x.mz[k]?=some y->Dn X j x.mz k y=0):=hE;clear hE;by_cases htl:t<x.mz.length
    ·have ai:(t:Int)<(x.mz.length:Int):=by omega
     have ag:(0:Int)<=(t:Int):=by omega
     obtain⟨m,L⟩:∃m,x.mz[t]?=some m:=⟨_,List.getElem?_eq_getElem htl⟩;have a0:=C.S.a0;have a1:=C.S.a1;have a2:=C.S.a2;have a3:Hid (∀v:Int,Dn X j x.mz t m=v->v≠0->v=R):=a4.out t m L U.out
     have a5:Hid (Dn X j x.mz t m=0->∀k y,k<t+1->x.mz[k]?=some y->Dn X j x.mz k y=0):=λh k y hk D=>by
      by_cases hkt:k=t
      ·subst hkt;rw[L] at D;cases D;exact h
      exact U.out k y Zo D
     have HM:Hid (x.mz[t]?=some m):=L;clear U L;go_wp2_with fail;refine (xv9 X j t x m _ _ _ (Y.later Bw C.S.bel) (hH.later BB C.S.bel) Z.out HM.out).mono ?_;rintro e w5 ⟨rfl,Q⟩;replace C:=C.later Q;clear Q a0 a1 a2;generalize Dn X j x.mz t m=rv at *;by_cases wz:rv=0
     ·have wz':(rv != 0)=false:=by simp[wz]
      have a7:Hid (∀k y,k<t+1->x.mz[k]?=some y->Dn X j x.mz k y=0):=a5.out wz;clear wz;go_wp2;go_roundg (gk-1)
      case measure=>omega
      case rel=>exact⟨t+1,by omega,by go_num,C,a7.out⟩
     have wz':(rv != 0)=true:=by simpa using wz
     have ab:Hid (rv=R):=a3.out rv rfl wz;clear wz;go_wp2;go_ret;exact⟨BT ab.out,C.S.bel⟩
    obtain rfl:t=x.mz.length:=by omega
    have a9:Hid (∀i y,i<j+1->X.cz[i]?=some y->Dm X i y=0):=aa.out λk y D=>U.out k y (Bz D) D;go_wp2;go_roundg (go-1)
    case measure=>omega
    case rel=>exact⟨j+1,by omega,by go_num,C.S,a9.out⟩
  obtain rfl:j=X.cz.length:=by omega
  have a8:Hid (0=R):=a6.out λi y D=>T.out i y (Bz D) D;go_wp2;go_ret;exact⟨BT a8.out,F.bel⟩
theorem xxN:Keyed Tryz.prog 9:=string_keyed Tryz.underlying9
theorem xxI (w:qW):(zeroValue 3).run Tryz.prog w=.ok (J 0) w:=by kernel_rfl
theorem xuK {H:Type}{w w':qW}{k:TypeId}{R:Value->Option (DataW H × List MemPlace)}{b n:Nat}{D:DataW H}(h:w.ownsMap Tryz.prog k R b n D)(e:qY w w'):w'.ownsMap Tryz.prog k R b n D:=by
 obtain⟨es,a,c,d⟩:=h;exact⟨es,a,(e.block _ (By c)).trans c,d⟩
def Pt (D:DataW Unit)(l:List QC):Prop:=Maps.IsMap D/\∀s:ByteArray,Maps.has D (.string s.data.toList)=l.any λd=>CD d.name s
theorem xwy {D:DataW Unit}{l:List QC}(h:Pt D l)(x:QC)(d:DataW Unit):Pt (D.put (.string x.name.data.toList) d) (l++[x]):=by
 refine⟨h.1.put _ _,λs=>?_⟩;rw[List.any_append];by_cases he:x.name.data.toList=s.data.toList
 ·have e1:CD x.name s=true:=by unfold CD;rw[ByteArray.toList_eq,ByteArray.toList_eq,he];simp
  rw[← he,Maps.has_put_same h.1 (by simp[WideAt.IsKeyLit]),List.any_cons,e1];simp
 have e1:CD x.name s=false:=by unfold CD;rw[ByteArray.toList_eq,ByteArray.toList_eq];simpa using he
 rw[Maps.has_put_other (by intro a;injection a with a;exact he a.symm),h.2 s];simp[e1]
theorem xxf {xs:List QC}{k:Nat}{x:QC}(a:Gh xs k x.name=true):CY xs k x=7:=by
 unfold CY;split
 ·rfl
 split
 ·split
  ·rfl
  first | rfl | rw[if_pos a]
 first | rfl | rw[if_pos a]
theorem xxm {xs:List QC}{k:Nat}{x:QC}(h:DC x.name=false):CY xs k x=7:=by unfold CY;rw[if_pos h]
theorem xwI {xs:List QC}{k:Nat}{x y:QC}(h:DC x.name=true)(a:xo1[k]?=some y)(b:CD x.name y.name=false):CY xs k x=7:=by
 unfold CY;rw[if_neg (by simp[h]),a];simp only;rw[if_pos b]
theorem xw8 {xs:List QC}{k:Nat}{x y:QC}(h:DC x.name=true)(a:xo1[k]?=some y)(c:CD x.name y.name=true)(b:Gh xs k x.name=false):CY xs k x=if x.super≠y.super then 3 else if x.slots<0\/0<x.slots then 3 else 0:=by
 unfold CY;rw[if_neg (by simp[h]),a];simp only;rw[if_neg (by simp[c]),if_neg (by simp[b])]
theorem xxH {xs:List QC}{k:Nat}{x:QC}(h:DC x.name=true)(c:4<=k)(b:Gh xs k x.name=false):CY xs k x=if Dj k x.super=false then 3 else if x.slots<0\/6<x.slots then 3 else 0:=by
 have a:xo1[k]?=none:=List.getElem?_eq_none (by simpa [xo1] using c);unfold CY;rw[if_neg (by simp[h]),a];simp only;rw[if_neg (by simp[b])]
structure WkS (w:qW)(X:QW)(cv hv:Value)(bf og y1 Bm:Nat)(w':qW):Prop where
 S:WbS w X cv hv w'
 fc:BK (λ_=>True) w' (qS (some (O bf og)) 4 y1) xo1
 lt:w.heap.size<Bm
theorem WkS.later {w:qW}{X:QW}{cv hv:Value}{bf og y1 Bm:Nat}{w' w1:qW}(h:WkS w X cv hv bf og y1 Bm w')(a:qY w' w1):WkS w X cv hv bf og y1 Bm w1:=⟨h.S.later a,h.fc.later Bw a,h.lt⟩
theorem WkS.grown {w:qW}{X:QW}{cv hv:Value}{bf og y1 Bm:Nat}{w' w1:qW}(h:WkS w X cv hv bf og y1 Bm w')(a:w'.grownBy w1 (some Bm))(d:∃es c,w'.heap[Bm]?=some (.map es c)):WkS w X cv hv bf og y1 Bm w1:=by
 obtain⟨es,c,d⟩:=d;have f:=h.lt
 refine⟨⟨h.S.bel.grown a h.S.bel.size (λj i=>by cases i;omega),a.cell h.S.a0 (by simp;omega),a.cell h.S.a1 (by simp;omega),a.cell h.S.a2 (by simp;omega)⟩,h.fc.keep Bw (λb o v k e=>a.cell e (by
  intro g;have e2:b=Bm:=by simpa using g
  subst e2;unfold World.cell? at e;simp[d] at e)) λ_ h=>h,f⟩
theorem WkS.first {w:qW}{X:QW}{cv hv:Value}{bf og y1 Bm:Nat}{w':qW}(h:WkS w X cv hv bf og y1 Bm w'){k:Nat}{y:QC}(c:xo1[k]?=some y):w'.cell? (O bf (og+k*4))=some (qZ y.name)/\w'.cell? (O bf (og+k*4+1))=some (J y.super):=by
 obtain⟨a,c',e,-,-,-,d⟩:=h.fc;simp only[Value.slice.injEq] at e;obtain⟨rfl,-,-⟩:=e;obtain⟨b,o,e2,-,v0,v1,-⟩:=d k y c
 cases e2;exact⟨v0,v1⟩
structure WkC (w:qW)(X:QW)(cv hv:Value)(bf og y1 Bm j:Nat)(D:DataW Unit)(x:QC)(Bc:Nat)(w':qW):Prop where
 K:WkS w X cv hv bf og y1 Bm w'
 own:w'.ownsMap Tryz.prog 9 (plainElem (H:=Unit) Tryz.prog 3) Bm j D
 c0:w'.cell? (O Bc 0)=some (qZ x.name)
 c1:w'.cell? (O Bc 1)=some (J x.super)
 c2:w'.cell? (O Bc 2)=some (J x.slots)
theorem WkC.later {w:qW}{X:QW}{cv hv:Value}{bf og y1 Bm j:Nat}{D:DataW Unit}{x:QC}{Bc:Nat}{w' w1:qW}(h:WkC w X cv hv bf og y1 Bm j D x Bc w')(a:qY w' w1):WkC w X cv hv bf og y1 Bm j D x Bc w1:=
 ⟨h.K.later a,xuK h.own a,Bf a h.c0,Bf a h.c1,Bf a h.c2⟩
set_option maxRecDepth 100000 in
theorem xux {P:Nat->Prop}(X:QW)(cv hv:Value)(w:qW)(hh:BK P w cv X.cz)(hH:BP P w hv X.heap)(N:X.cz.length<=12):Calls Tryz.prog 168 #[WV cv hv X.ez] w λe w'=>e=.returned (J (CP (CY X.cz) 0 X.cz))/\qY w w':=by
 obtain⟨ad,cap,rfl,hl,u,U,F⟩:=id hh;obtain⟨ah,ch,rfl⟩:=hH.get;unfold maxLen at u
 have au:Hid (∀(j:Nat) x (v:Int),X.cz[j]?=some x->(∀i y,i<j->X.cz[i]?=some y->CY X.cz i y=0)->CY X.cz j x=v->v≠0->v=CP (CY X.cz) 0 X.cz):=λj x v hx hD e hv=>by
  subst e;exact (PH hx hv hD).symm
 have av:Hid ((∀i y,X.cz[i]?=some y->CY X.cz i y=0)->0=CP (CY X.cz) 0 X.cz):=λh=>(KL h).symm;generalize CP (CY X.cz) 0 X.cz=R at *;have az:=@run_makeMap Tryz.prog;have aw:=xvw;go_enter Tryz.func168,Tryz.ntmps168;go_upto_region 1 with (fail);have am:=Pw w X (qS ad X.cz.length cap) (qS ah X.heap.length ch);generalize (w.alloc (qA ad cap ah ch X))=W0 at *;go_wp2_with fail;refine (xwk _).mono ?_;rintro e w1 ⟨Q,T,rfl,m,r,q⟩;obtain⟨bf,og,y1,b3,o3,c3,rfl,-,-⟩:=xvc m;obtain⟨x2,y2,rfl⟩:=r.get;have a7:=am.later q;have a0:=λz=>Bf (Bg w1 z) a7.a0;go_wp2;have ao:WkS w X (qS ad X.cz.length cap) (qS ah X.heap.length ch) bf og y1 w1.heap.size (w1.alloc (.map #[] 0)):=⟨a7.later (Bg _ _),(m.mono Bw λ_ _=>trivial).later Bw (Bg _ _),World.block_lt_of_cell? _ _ a7.a0⟩
 have ar:(w1.alloc (.map #[] 0)).ownsMap Tryz.prog 9 (plainElem (H:=Unit) Tryz.prog 3) w1.heap.size 0 (.map []):=World.ownsMap_made _ _ _ _;clear a0 a7 m r q am;generalize (w1.alloc (.map #[] 0))=W3 at *;generalize w1.heap.size=Bm at *
 go_loopg [15] X.cz.length (λg i wr=>∃(j:Nat) (D:DataW Unit),j+g=X.cz.length/\i=J j/\WkS w X (qS ad X.cz.length cap) (qS ah X.heap.length ch) bf og y1 Bm wr/\wr.ownsMap Tryz.prog 9 (plainElem (H:=Unit) Tryz.prog 3) Bm j D/\Pt D (X.cz.take j)/\∀i y,i<j->X.cz[i]?=some y->CY X.cz i y=0)
 case atStart=>exact⟨0,.map [],by omega,rfl,ao,ar,⟨Maps.isMap_empty,λs=>rfl⟩,λi x h=>by omega⟩
 case round=>
  clear ao ar;obtain⟨j,D,hg,rfl,Z,Y,C,hD⟩:=hrel;have HD:Hid (∀i y,i<j->X.cz[i]?=some y->CY X.cz i y=0):=hD;have aa:Hid (Pt D (X.cz.take j)):=C;clear hD C;by_cases hj:j<X.cz.length
  ·have ax:(j:Int)<(X.cz.length:Int):=by omega
   have ay:(0:Int)<=(j:Int):=by omega
   obtain⟨x,hx⟩:∃x,X.cz[j]?=some x:=⟨_,List.getElem?_eq_getElem hj⟩;obtain⟨b,o,rfl,-,v0,v1,v2,M,mv,v3,L⟩:=F j x hx;obtain⟨k,c,rfl⟩:=L.get;simp only[Nat.add_zero] at v0;replace v0:=Bf Z.S.bel v0;replace v1:=Bf Z.S.bel v1;replace v2:=Bf Z.S.bel v2;replace v3:=Bf Z.S.bel v3;have HX:Hid (X.cz[j]?=some x):=hx;clear hx;have a3:Hid (∀v:Int,CY X.cz j x=v->v≠0->v=R):=λv e hv=>au.out j x v HX.out HD.out e hv
   have an:Hid (CY X.cz j x=0->∀i y,i<j+1->X.cz[i]?=some y->CY X.cz i y=0):=λh i y hi V=>by
    by_cases hij:i=j
    ·subst hij;rw[HX.out] at V
     cases V;exact h
    exact HD.out i y Zo V
   have a2:keyOf Tryz.prog 9 (qZ x.name)=some (.string x.name.data.toList):=keyOf_string_mk Tryz.underlying9 (by unfold maxLen;omega);have ai:=Bg wr (qC #[qZ x.name,J x.super,J x.slots,qS k x.mz.length c] 80);have c0:(wr.alloc (qC #[qZ x.name,J x.super,J x.slots,qS k x.mz.length c] 80)).cell? (O wr.heap.size 0)=some (qZ x.name):=by rw[Bp _ _ _ _ rfl];rfl
   have c1:(wr.alloc (qC #[qZ x.name,J x.super,J x.slots,qS k x.mz.length c] 80)).cell? (O wr.heap.size 1)=some (J x.super):=by rw[Bp _ _ _ _ rfl];rfl
   have c2:(wr.alloc (qC #[qZ x.name,J x.super,J x.slots,qS k x.mz.length c] 80)).cell? (O wr.heap.size 2)=some (J x.slots):=by rw[Bp _ _ _ _ rfl];rfl
   replace Z:=Z.later ai;replace Y:=xuK Y ai;go_upto_region 6 with (fail);clear v0 v1 v2 v3 ai;generalize wr.heap.size=Bc at *;generalize (wr.alloc (qC #[qZ x.name,J x.super,J x.slots,qS k x.mz.length c] 80))=W4 at *;have a4:Hid (Maps.has D (.string x.name.data.toList)=Gh X.cz j x.name):=aa.out.2 x.name
   cases a1:Maps.has D (.string x.name.data.toList)
   case true=>
    have H7:Hid (7=R):=a3.out 7 (xxf (by rw[← a4.out];exact a1)) (by decide);go_wp2_with (at_lookup;refine wpList_lookup_own_ok_int _ rfl _ _ 280 rfl 9 3 .i64 xxN Tryz.underlying280 Tryz.underlying3 (xxI _) Bm j D rfl Y _ _ rfl a2 ?_;intro cc B G;rw[a1]);go_ret;exact⟨BT H7.out,Z.S.bel⟩
   have af:Hid (Gh X.cz j x.name=false):=by show _=_;rw[← a4.out];exact a1
   have aq:Hid (∀d,Pt (D.put (.string x.name.data.toList) d) (X.cz.take (j+1))):=λd=>by
    rw[List.take_add_one,HX.out];exact xwy aa.out x d
   have ap:(Lit.int .i64 (j:Int)).wf=true:=by
    have h:=wrap64_wf (j:Int);rw[show wrap64 (j:Int)=(j:Int) by unfold wrap64;omega] at h;exact h
   go_wp2_with (at_lookup;refine wpList_lookup_own_ok_int _ rfl _ _ 280 rfl 9 3 .i64 xxN Tryz.underlying280 Tryz.underlying3 (xxI _) Bm j D rfl Y _ _ rfl a2 ?_;intro cc B G;rw[a1]);refine (Qj x.name _ M).mono ?_;rintro e w5 ⟨rfl,hb⟩;replace Z:=Z.later hb;replace Y:=xuK Y hb;replace c0:=Bf hb c0;replace c1:=Bf hb c1;replace c2:=Bf hb c2;clear hb B G a4 aa
   cases a5:DC x.name
   ·have H7:Hid (7=R):=a3.out 7 (xxm a5) (by decide);go_wp2;go_ret;exact⟨BT H7.out,Z.S.bel⟩
   have W:WkC w X (qS (some (O b o)) X.cz.length cap) (qS ah X.heap.length ch) bf og y1 Bm j D x Bc w5:=⟨Z,Y,c0,c1,c2⟩;clear Y c1 c2;by_cases hnw:∃y,xo1[j]?=some y/\CD x.name y.name=false
   ·obtain⟨y,V,t⟩:=hnw;have j4:j<4:=Bz V;have j4':(j:Int)<4:=by omega
    obtain⟨u0,-⟩:=Z.first V;have H7:Hid (7=R):=a3.out 7 (xwI a5 V t) (by decide);have al:(x.name.toList == y.name.toList)=false:=t;clear V;go_wp2;go_quiet (fail);go_wp2;go_ret;exact⟨BT H7.out,below_drewN Z.S.bel _⟩
   have ab:Hid (∀y,xo1[j]?=some y->CD x.name y.name=true):=λy V=>by
    cases he:CD x.name y.name
    ·exact absurd ⟨y,V,he⟩ hnw
    rfl
   clear hnw;go_upto_region 9 with (fail)
   go_cut [35] (λs wx=>s=.bool false/\WkC w X (qS (some (O b o)) X.cz.length cap) (qS ah X.heap.length ch) bf og y1 Bm j D x Bc wx)
   case first=>
    by_cases j4:j<4
    ·obtain⟨y,V⟩:∃y,xo1[j]?=some y:=⟨_,List.getElem?_eq_getElem (show j<xo1.length from j4)⟩
     have j4':(j:Int)<4:=by omega
     obtain⟨u0,-⟩:=Z.first V;have al:(x.name.toList == y.name.toList)=true:=ab.out y V;clear V;go_quiet (fail);go_wp2_with fail;go_meet
     case rel=>exact⟨rfl,W.later (below_drewN (Br _ _) _)⟩
    have j4':decide ((j:Int)<4)=false:=by simp;omega
    go_quiet (fail);go_wp2_with fail;go_meet
    case rel=>exact⟨rfl,W.later (below_drewN (Br _ _) _)⟩
   case rest=>
    clear W Z c0;obtain⟨rfl,W⟩:=hcut;have c1:=W.c1;have c2:=W.c2;by_cases hbad:∃y,xo1[j]?=some y/\(x.super≠y.super\/x.slots≠0)
    ·obtain⟨y,V,l⟩:=hbad;have j4:j<4:=Bz V;have j4':(j:Int)<4:=by omega
     obtain⟨-,u1⟩:=W.K.first V
     have H3:Hid (3=R):=a3.out 3 (by
      rw[xw8 a5 V (ab.out y V) af.out];rcases l with h | h
      ·rw[if_pos h]
      ·by_cases h2:x.super≠y.super
       ·rw[if_pos h2]
       ·rw[if_neg h2,if_pos Zo]) (by decide)
     clear V;by_cases s1:x.super=y.super
     ·have s1':(x.super != y.super)=false:=by simp[s1]
      have s2':(x.slots != 0)=true:=by
       rcases l with h | h
       ·exact absurd s1 h
       simpa using h
      clear l s1;go_wp2;go_quiet (fail);go_wp2;go_ret;exact⟨BT H3.out,below_drewN W.K.S.bel _⟩
     have s1':(x.super != y.super)=true:=by simpa using s1
     clear l s1;go_wp2;go_quiet (fail);go_wp2;go_ret;exact⟨BT H3.out,below_drewN W.K.S.bel _⟩
    have a6:Hid (∀y,xo1[j]?=some y->x.super=y.super/\x.slots=0):=λy V=>by
     refine⟨?_,?_⟩
     ·by_cases h:x.super=y.super
      ·exact h
      exact absurd ⟨y,V,Or.inl h⟩ hbad
     by_cases h:x.slots=0
     ·exact h
     exact absurd ⟨y,V,Or.inr h⟩ hbad
    clear hbad;go_upto_region 11 with (fail)
    go_cut [50] (λs wx=>s=.bool false/\WkC w X (qS (some (O b o)) X.cz.length cap) (qS ah X.heap.length ch) bf og y1 Bm j D x Bc wx)
    case first=>
     by_cases j4:j<4
     ·obtain⟨y,V⟩:∃y,xo1[j]?=some y:=⟨_,List.getElem?_eq_getElem (show j<xo1.length from j4)⟩
      have j4':(j:Int)<4:=by omega
      obtain⟨-,u1⟩:=W.K.first V;obtain⟨e1,e2⟩:=a6.out y V;have s1':(x.super != y.super)=false:=by simp[e1]
      have s2':(x.slots != 0)=false:=by simp[e2]
      clear V e1 e2;go_quiet (fail);go_wp2_with fail;go_meet
      case rel=>exact⟨rfl,W.later (below_drewN (Br _ _) _)⟩
     have j4':decide ((j:Int)<4)=false:=by simp;omega
     go_quiet (fail);go_wp2_with fail;go_meet
     case rel=>exact⟨rfl,W.later (below_drewN (Br _ _) _)⟩
    case rest=>
     clear W c1 c2;obtain⟨rfl,W⟩:=hcut;have c1:=W.c1;have c2:=W.c2;by_cases j4:j<4
     ·obtain⟨y,V⟩:∃y,xo1[j]?=some y:=⟨_,List.getElem?_eq_getElem (show j<xo1.length from j4)⟩
      obtain⟨e1,e2⟩:=a6.out y V;have aj:Hid (CY X.cz j x=0):=by show _=_;rw[xw8 a5 V (ab.out y V) af.out,if_neg (by simp[e1]),if_neg Zo]
      have a8:Cj x.slots 0 6=true:=by unfold Cj;simp;omega
      have j4'':decide ((4:Int)<=(j:Int))=false:=by simp;omega
      clear V e1 e2;go_wp2_with fail;refine (Nh _ 0 6 _).mono ?_;rw[a8];rintro e w6 ⟨rfl,hw⟩;subst hw;clear c1 c2;have c0:=W.c0;go_wp2_with (at_mapUpdate;refine wpList_mapUpdate_own _ rfl _ _ _ 280 rfl 9 3 xxN Tryz.underlying280 _ Bm j D rfl W.own (by unfold maxLen;omega) _ _ _ rfl rfl a2 _ [] (plainElem_int Tryz.underlying3 ap) ?_;intro w9 f a);obtain⟨es,p,n,-⟩:=W.own;have ae:=W.K.grown a ⟨es,p,n⟩;clear W a c0;go_wp2;go_roundg (gk-1)
      case measure=>omega
      case rel=>exact⟨j+1,_,by omega,by go_num,ae,f,aq.out _,an.out aj.out⟩
     have j4'':(4:Int)<=(j:Int):=by omega
     have ak:Hid (CY X.cz j x=if Dj j x.super=false then 3 else if x.slots<0\/6<x.slots then 3 else 0):=xxH a5 Zo af.out;go_wp2_with fail;refine (xui j x.super _ ⟨by omega,by omega⟩).mono ?_;rintro e w6 ⟨rfl,hw⟩;subst hw
     cases ag:Dj (j:Int) x.super
     ·have H3:Hid (3=R):=a3.out 3 (by rw[ak.out,if_pos ag]) (by decide);go_wp2;go_ret;exact⟨BT H3.out,W.K.S.bel⟩
     go_wp2_with fail;refine (Nh _ 0 6 _).mono ?_;rintro e w7 ⟨rfl,hw⟩;subst hw
     cases a8:Cj x.slots 0 6
     ·have a9:¬ (0<=x.slots/\x.slots<=6):=by simpa [Cj] using a8
      have H3:Hid (3=R):=a3.out 3 (by rw[ak.out,if_neg (by simp[ag]),if_pos Zo]) (by decide);go_wp2;go_ret;exact⟨BT H3.out,W.K.S.bel⟩
     have a9:0<=x.slots/\x.slots<=6:=by simpa [Cj] using a8
     have aj:Hid (CY X.cz j x=0):=by show _=_;rw[ak.out,if_neg (by simp[ag]),if_neg Zo]
     clear c1 c2 a9;have c0:=W.c0;go_wp2_with (at_mapUpdate;refine wpList_mapUpdate_own _ rfl _ _ _ 280 rfl 9 3 xxN Tryz.underlying280 _ Bm j D rfl W.own (by unfold maxLen;omega) _ _ _ rfl rfl a2 _ [] (plainElem_int Tryz.underlying3 ap) ?_;intro w9 f a);obtain⟨es,p,n,-⟩:=W.own;have ae:=W.K.grown a ⟨es,p,n⟩;clear W a c0;go_wp2;go_roundg (gk-1)
     case measure=>omega
     case rel=>exact⟨j+1,_,by omega,by go_num,ae,f,aq.out _,an.out aj.out⟩
  obtain rfl:j=X.cz.length:=by omega
  have a6:Hid (0=R):=av.out λi y V=>HD.out i y (Bz V) V;go_wp2;go_ret;exact⟨BT a6.out,Z.S.bel⟩
end Go.Proofs.YtbafokihegegiaaGreatDoor
