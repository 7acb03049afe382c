/- A part. -/
import Derived.Test.YtbafokihegegiaaGreatDoorT5
namespace Go.Proofs.YtbafokihegegiaaGreatDoor
open Go.ChangeShapes Go.WideShapes Go.ChangeAt Go.RowKit
set_option linter.unusedSimpArgs false
set_option linter.unusedVariables false
set_option maxHeartbeats 8000000
set_option maxRecDepth 8000
section
variable {σ:Type} {p:Mp σ} {T T':Nat->Nat} {w w':World} {mb:Nat} {m m':Mc σ} {calls calls':Int} {hv:Value} {g:Nat} {s:Nat->Nat} {K fb:Nat} {f:Fr} {cv av tv sv kv:Value}
theorem xqI (v:QV)(w:qW):(Instr.field 41 (VV v) 0).run Tryz.prog w=.ok (J v.k) w:=by
 obtain⟨i0,d,c,a,b⟩:=Gb xsm;simp[Instr.field,run_underlying Tryz.underlying41,part,sizeOf,typeInfo,d,a,asAgg]
theorem xmf (h:MacAt p T w mb m calls hv g s)(z:FrAt T K w fb f cv av tv sv kv)(a b:Int)(F:0<=m.tz/\m.tz<=300):Calls Tryz.prog 278 #[qP mb,qP fb,J a,J b] w λe w'=>e=.returned (J (Dt m f a b).2.2)/\MacAt p T w' mb (Dt m f a b).1 calls hv g s/\((Dt m f a b).2.2=0->∃sv',FrAt T K w' fb (Dt m f a b).2.1 cv av tv sv' kv)/\Kp (λt=>t=1\/t=K) T w w':=by
 have G:=z.pos;have D:=xqI;go_enter Tryz.func278,Tryz.ntmps278;go_wp2_with fail;refine (Ng z).mono ?_;rintro e w1 ⟨rfl,⟨n,c⟩,d⟩;have o:=h.keep (.refl _ _) d (by omega) (by omega) (by omega);have C:=hid d;clear h z d;by_cases h2:f.top.k=2
 ·have r:Hid (Dt m f a b=(m,f.pop,0)):=by show _=_;unfold Dt;rw[if_pos h2]
  have y:(f.top.k == 2)=true:=by simpa using h2
  have q:=hid o;have v:=hid c;clear o c;go_wp2;go_ret;rw[r.out];exact⟨rfl,q.out,λ_=>⟨_,v.out⟩,C.out.mono λt h=>Or.inr h⟩
 have y:(f.top.k == 2)=false:=by simpa using h2
 by_cases h1:f.top.k=1
 ·have r:Hid (Dt m f a b=Cr m f.pop a b):=by show _=_;unfold Dt;rw[if_neg h2,if_pos h1]
  have B:(f.top.k == 1)=true:=by simpa using h1
  go_wp2_with fail;refine (xlX o c a b F).mono ?_;rintro e w2 ⟨rfl,j,i,l⟩;have q:=hid j;have v:=hid i;have u:=hid l;clear o c j i l;go_wp2;go_ret;rw[r.out];exact⟨rfl,q.out,λ_=>⟨_,v.out⟩,(C.out.mono λt h=>Or.inr h).trans (.refl _ _) u.out⟩
 have B:(f.top.k == 1)=false:=by simpa using h1
 have r:Hid (Dt m f a b=(m,f,11)):=by show _=_;unfold Dt;rw[if_neg h2,if_neg h1]
 have q:=hid o;clear o c;go_wp2;go_ret;rw[r.out];exact⟨rfl,q.out,λh=>absurd h (by simp),C.out.mono λt h=>Or.inr h⟩
theorem xgp {ops:Array Oper}{o:Oper}{a:Act}{w:qW}{K:Act->World->Prop}{Q:Exit->Act->World->Prop}{E:Prop}(m:o.guard=none)(s x:Operand)
  (r:o.op=Op.call { callee:=Callee.builtin Builtin.append,args:=#[s,x],argTypes:=#[24,24] }) (g n:Nat) (C:a.eval s=qG g n n) (Bb:Nat) (M:a.eval x=qG Bb 1 1)
  (cur:Array Value) (e:w.heap[g]?=some (.cells cur 84 (0,0))) (f:cur.size=n*2) (x0 x1:Value) (F:w.cell? (O Bb 0)=some x0) (D:w.cell? (O Bb 1)=some x1) (o0:x0.oneCell'=true) (o1:x1.oneCell'=true) (R:n<1000)
  (G:∀g' cap c w',n+1<=cap->cap<=maxLen->w'.heap[g']?=some (.cells c 84 (0,0))->c.toList.take ((n+1)*2)=cur.toList++[x0,x1]->w.heap.size<=g'->qY w w'->K (a.put o.dst (qG g' (n+1) cap)) w') :
  if Region.wanted o (yielded ops a.tmps)=true then Oper.wp Tryz.prog o a w K Q else E:=by
 obtain⟨i0,L,y,q,i⟩:=Gb xql
 refine step_append_grows m s x 24 r 84 i0 _ 2 32 Tryz.underlying24 L y q i rfl (by decide) (some (O g 0)) n n cur.toList C (λh=>by cases h) (by simpa using f)
  (λb B j u z=>by cases B;rw[Addr.add_lit,Nat.zero_add,Bn e];simpa using z) (O Bb 0) 1 1 [x0,x1] M rfl
  (λj u z=>by
   rw[Addr.add_lit,Nat.zero_add]
   match j,z with
   | 0,z=>simp at z;rw[← z];exact F
   | 1,z=>simp at z;rw[← z];exact D)
  (λu z=>by simp at z;rcases z with h | h<;>rw[h]<;>assumption) (by omega) (by unfold maxLen;omega) (by omega) ?_
 intro v' w' d p;obtain⟨-,h | ⟨g',cap,c,rfl,B,N,t,l,-,v⟩⟩:=d
 ·omega
 exact G g' cap c w' t l N v B ((Br _ _).grown p (Bq _) (λk H=>by cases H))
structure NwS (w:qW)(k:Nat)(w':qW):Prop where
 bel:qY w w'
 c0:∃u,w'.cell? (O w.heap.size 0)=some u
 c1:∃u,w'.cell? (O w.heap.size 1)=some u
 fr:∀o,w'.frozen? (O w.heap.size o)=false
 vals:w'.heap[w.heap.size+1]?=some (.cells (Cf (List.replicate k BC)).toArray 41 (0,0))
theorem NwS.later {w w' w1:qW}{k:Nat}(h:NwS w k w')(b:qY w' w1):NwS w k w1:=
 have c:=h.c0;have d:=h.c1
 ⟨Bh h.bel b,c.elim λu a=>⟨u,Bf b a⟩,d.elim λu a=>⟨u,Bf b a⟩,λo=>(b.frozen (p:=(O w.heap.size o)) (c.elim λu a=>World.block_lt_of_cell? w' (O w.heap.size 0) a)).trans (h.fr o),Bs h.vals b⟩
theorem xeW {w:qW}{a b:Addr}{x:Value}(h:∃u,w.cell? a=some u):∃u,(w.setCell b x).cell? a=some u:=by
 obtain⟨u,h⟩:=h;obtain⟨v,hv⟩:=cell?_setCell_some (w:=w) (p:=b) (x:=x) (q:=a) (v:=u) h;exact⟨v,hv⟩
theorem NwS.set {w w':qW}{k:Nat}(h:NwS w k w')(o:Nat)(u:Value):NwS w k (w'.setCell (O w.heap.size o) u):=
 ⟨h.bel.setCell (Bq _) _,xeW h.c0,xeW h.c1,λo'=>by rw[World.frozen?_setCell];exact h.fr o',by rw[BS (by omega)];exact h.vals⟩
theorem xr9 {w w':qW}{k b:Nat}{x y:Value}(a:w.heap.size<b)(h:w'.cell? (O b 0)=some x/\w'.cell? (O b 1)=some y/\NwS w k w')(o o':Nat)(u u':Value) :
  ((w'.setCell (O w.heap.size o) u).setCell (O w.heap.size o') u').cell? (O b 0)=some x/\((w'.setCell (O w.heap.size o) u).setCell (O w.heap.size o') u').cell? (O b 1)=some y/\NwS w k ((w'.setCell (O w.heap.size o) u).setCell (O w.heap.size o') u'):=
 ⟨(BV _ _ _ _ (by simp;omega)).trans ((BV _ _ _ _ (by simp;omega)).trans h.1),(BV _ _ _ _ (by simp;omega)).trans ((BV _ _ _ _ (by simp;omega)).trans h.2.1),(h.2.2.set _ _).set _ _⟩
theorem xrs {w w' w1:qW}{k:Nat}{a b:Addr}{x y:Value}(h:w'.cell? a=some x/\w'.cell? b=some y/\NwS w k w')(c:qY w' w1):w1.cell? a=some x/\w1.cell? b=some y/\NwS w k w1:=⟨Bf c h.1,Bf c h.2.1,h.2.2.later c⟩
theorem xq4 {w1 wx w2:qW}{hs:List QO}{cur f:Array Value}{c:Int}{k g g' cap vb lo:Nat}{s:Nat->Nat}(y:HRow w1 g s hs hs.length)(a:w1.heap[g]?=some (.cells cur 84 (0,0)))(l:cur.size=hs.length*2)(v:qY w1 wx)(m:qY wx w2)(hv:w2.heap[vb]?=some (.cells (Cf (List.replicate k BC)).toArray 41 (0,0)))
  (G:hs.length+1<=cap) (L:cap<=maxLen) (F:w2.heap[g']?=some (.cells f 84 (0,0))) (o:f.toList.take ((hs.length+1)*2)=cur.toList++[J c,qG vb k k]) (p:wx.heap.size<=g') (q:vb<g) (N:hs.length<1000) (Q:k<=2147483647) (n:lo<=vb) {T:Nat->Nat} (B:∀b,lo<=b->T b=2) :
  HeapSt T w2 (qG g' (hs.length+1) cap) g' (λi=>if i=hs.length then vb else s i) (hs++[⟨c,List.replicate k BC⟩]):=by
 have M:=Bh v m;have H:=By a;have K:=v.size
 have r:∀j,j<(hs.length+1)*2->w2.cell? (O g' j)=(cur.toList++[J c,qG vb k k])[j]?:=λj z=>by
  rw[Bn F,← o,List.getElem?_take,if_pos z];simp
 have u:cur.toList.length=hs.length*2:=by simpa using l
 have C:∀i x,hs[i]?=some x->s i<w1.heap.size:=λi x v=>y.lt i (Bz v);refine⟨⟨cap,by simp,by simpa using G,L⟩,by simp;omega,By F,B _ (by omega),λi x t=>?_,λi j t z e=>?_⟩
 ·by_cases hil:i<hs.length
  ·rw[List.getElem?_append_left hil] at t;obtain⟨e1,e2,e3,e4,e5⟩:=y.obj i x hil t;simp only[show i≠hs.length by omega,if_false]
   have d:∀j,j<hs.length*2->w2.cell? (O g' j)=w1.cell? (O g j):=λj z=>by
    rw[r j (by omega),List.getElem?_append_left (by omega),Bn a];simp
   have:=C i x t;exact⟨by rw[d _ (by omega)];exact e1,by rw[d _ (by omega)];exact e2,Bs e3 M,B _ (by omega),by omega,e5⟩
  have D:i=hs.length:=by
   have:=Bz t;simp at this;omega
  subst D;simp at t;subst t;simp only[if_true];refine⟨?_,?_,hv,B _ n,by omega,by simp;omega⟩
  ·rw[r _ (by omega),List.getElem?_append_right (by omega),u];simp
  rw[r _ (by omega),List.getElem?_append_right (by omega),u,show hs.length*2+1-hs.length*2=1 by omega];simp
 simp at t z
 have big:∀i,i<hs.length->vb<s i:=λi t=>by
  have v:hs[i]?=some hs[i]:=by simp[t]
  have:=(y.obj i _ t v).2.2.2.1;omega
 by_cases a1:i=hs.length
 ·by_cases a2:j=hs.length
  ·omega
  rw[if_pos a1,if_neg a2] at e;have:=big j (by omega);omega
 by_cases a2:j=hs.length
 ·rw[if_neg a1,if_pos a2] at e;have:=big i (by omega);omega
 rw[if_neg a1,if_neg a2] at e;rcases Nat.lt_trichotomy i j with h | h | h
 ·have:=y.inc i j h (by omega);omega
 ·exact h
 have:=y.inc j i h (by omega);omega
def xop (w:qW)(hs:List QO)(c:Int)(k:Nat)(e:Ending)(w':qW):Prop:=qY w w'/\
  ((60<=hs.length\/2147483647<k)->e=.returned (.tuple #[qN,VV BC,J 15]))/\
  (¬ (60<=hs.length\/2147483647<k)->∃g s cap,e=.returned (.tuple #[qG g (hs.length+1) cap,VV ⟨4,hs.length⟩,J 0])/\∀T:Nat->Nat,T w.heap.size=4->(∀b,w.heap.size+1<=b->T b=2)->HeapSt T w' (qG g (hs.length+1) cap) g s (hs++[⟨c,List.replicate k BC⟩]))
theorem xl0 {P:Nat->Prop}(y:List QO)(hv:Value)(c:Int)(k:Nat)(w:qW)(h:BP P w hv y):Calls Tryz.prog 82 #[hv,J c,J k] w λe w'=>xop w y c k e w':=by
 obtain⟨a,cap,rfl,-⟩:=id h;by_cases h6:60<=y.length
 ·have S:(60:Int)<=(y.length:Int):=by omega
  have F:Hid (60<=y.length\/2147483647<k):=Or.inl h6;go_enter Tryz.func82,Tryz.ntmps82;go_wp2;refine Bt (v:=.tuple #[qN,VV BC,J 15]) ?_ rfl ⟨Bg _ _,λ_=>rfl,λM=>absurd F.out M⟩;simp[results,Tryz.results82,go_sem]
 have S:¬ ((60:Int)<=(y.length:Int)):=by omega
 by_cases h7:2147483647<k
 ·have K:(2147483647:Int)<(k:Int):=by omega
  have F:Hid (60<=y.length\/2147483647<k):=Or.inr h7;go_enter Tryz.func82,Tryz.ntmps82;go_wp2;refine Bt (v:=.tuple #[qN,VV BC,J 15]) ?_ rfl ⟨Bg _ _,λ_=>rfl,λM=>absurd F.out M⟩;simp[results,Tryz.results82,go_sem]
 have K:¬ ((2147483647:Int)<(k:Int)):=by omega
 have R:=Ns k (by omega);have F:Hid (¬ (60<=y.length\/2147483647<k)):=by show ¬ _;omega
 have X:¬ ((k:Int)<0):=by omega
 have H:qY w (((w.alloc (qQ)).alloc (.cells (madeCells #[J 0,J 0] (k*2)) 41)).alloc (qC #[J c,qG (w.heap.size+1) k k] 84)).drew:=(DW _ _ _ _).drew;have V:=h.later BB H;have N:(((w.alloc (qQ)).alloc (.cells (madeCells #[J 0,J 0] (k*2)) 41)).alloc (qC #[J c,qG (w.heap.size+1) k k] 84)).drew.heap.size=w.heap.size+3:=by simp
 have L:(((w.alloc (qQ)).alloc (.cells (madeCells #[J 0,J 0] (k*2)) 41)).alloc (qC #[J c,qG (w.heap.size+1) k k] 84)).drew.cell? (O (w.heap.size+1+1) 0)=some (J c)/\(((w.alloc (qQ)).alloc (.cells (madeCells #[J 0,J 0] (k*2)) 41)).alloc (qC #[J c,qG (w.heap.size+1) k k] 84)).drew.cell? (O (w.heap.size+1+1) 1)=some (qG (w.heap.size+1) k k)/\NwS w k (((w.alloc (qQ)).alloc (.cells (madeCells #[J 0,J 0] (k*2)) 41)).alloc (qC #[J c,qG (w.heap.size+1) k k] 84)).drew:=by
  refine⟨Bp _ _ _ _ (by simp) 0,Bp _ _ _ _ (by simp) 1,H,⟨_,Bf (BG _ _ _).drew (Bp w #[J 0,J 0] 41 _ rfl 0)⟩,⟨_,Bf (BG _ _ _).drew (Bp w #[J 0,J 0] 41 _ rfl 1)⟩,λo=>((BG _ _ _).drew.frozen (p:=(O w.heap.size o)) (by simp)).trans (BN (BH w (qQ)) o),?_⟩;rw[← xpB];refine Bs (w:=(w.alloc (qQ)).alloc (.cells (madeCells #[J 0,J 0] (k*2)) 41)) ?_ (Bg _ _).drew;have:=BH (w.alloc (qQ)) (.cells (madeCells #[J 0,J 0] (k*2)) 41);simpa using this
 clear h;go_enter Tryz.func82,Tryz.ntmps82;go_wp2;generalize (((w.alloc (qQ)).alloc (.cells (madeCells #[J 0,J 0] (k*2)) 41)).alloc (qC #[J c,qG (w.heap.size+1) k k] 84))=W0 at *;clear R;have z:W0.heap.size=w.heap.size+3:=N
 go_region_held3 (λw'=>w'.cell? (O (w.heap.size+1+1) 0)=some (J c)/\w'.cell? (O (w.heap.size+1+1) 1)=some (qS (some { block:=w.heap.size+1,off:=0 }) k k)/\NwS w k w')
  (first | with_reducible exact L | with_reducible exact B | exact xr9 (by omega) B _ _ _ _ | exact xrs (‹_/\_/\NwS w k _›) (Bg _ _))
  (first
   | (refine xgp rfl (.tmp 24) (.tmp 26) rfl g y.length rfl _ rfl cur (by first | exact d | exact ((Bg _ _).block _ (By d)).trans d) f (J c) (qS (some { block:=w.heap.size+1,off:=0 }) k k) (by first | (rw[Bp _ _ _ _ rfl];rfl) | exact Bf j (Bp W0 _ 84 _ z 0)) (by first | (rw[Bp _ _ _ _ rfl];rfl) | exact Bf j (Bp W0 _ 84 _ z 1)) rfl rfl C ?_;intro g' cap' s w2 n1 n2 q r n l;have B:=xrs (‹_/\_/\NwS w k _›) l;have G:Hid (∀T:Nat->Nat,(∀b,w.heap.size+1<=b->T b=2)->HeapSt T w2 (qG g' (y.length+1) cap') g' _ (y++[⟨c,List.replicate k BC⟩])):=(λT W=>xq4 xew d f (by first | exact Br _ _ | exact Bg _ _) l B.2.2.vals n1 n2 q r n (by omega) C (by omega) (Bq _) W);obtain⟨-,⟨v0,u0⟩,⟨v1,u1⟩,u,-⟩:=id B.2.2)
   | (go_at_call 49;refine (xlx y _ _ (V.later BB (by first | exact Br _ _ | exact Bg _ _))).mono ?_;rintro e w1 ⟨g,sg,rfl,xew,m,j⟩;obtain⟨cur,d,f⟩:=xew.row;have C:y.length<1000:=(by omega);have U:w.heap.size+3<=g:=(by simp at m;omega);have B:=xrs (‹_/\_/\NwS w k _›) j))
 all_goals go_wp2
 all_goals (
  refine Bt (v:=.tuple #[qG g' (y.length+1) cap',VV ⟨4,y.length⟩,J 0]) ?_ rfl ⟨((B.2.2.set _ _).set _ _).bel,λh=>absurd h F.out,λ_=>⟨g',(λi=>if i=y.length then w.heap.size+1 else sg i),cap',rfl,λT D Q=>?_⟩⟩
  ·simp[results,Tryz.results82,go_sem,u0,u1]
  ·exact (G.out T Q).keep (.refl _ _) (((Kp.refl (λt=>t=4) _ _).set (λ_=>D) _ _).set (λ_=>D) _ _) (by omega))
structure MkS (w:qW)(mb:Nat)(v0 v1:Value)(ep:Int)(w':qW):Prop where
 bel:qY w w'
 m0:w'.cell? (O mb 0)=some v0
 m1:w'.cell? (O mb 1)=some v1
 m2:w'.cell? (O mb 2)=some (J ep)
 lt:mb<w.heap.size
theorem MkS.later {w:qW}{mb:Nat}{v0 v1:Value}{ep:Int}{w' w'':qW}(h:MkS w mb v0 v1 ep w')(a:qY w' w''):MkS w mb v0 v1 ep w'':=⟨Bh h.bel a,Bf a h.m0,Bf a h.m1,Bf a h.m2,h.lt⟩
theorem MkS.set {w:qW}{mb:Nat}{v0 v1:Value}{ep:Int}{w':qW}(h:MkS w mb v0 v1 ep w'){b:Nat}(c:w.heap.size<=b)(o:Nat)(u:Value):MkS w mb v0 v1 ep (w'.setCell (O b o) u):=
 have a:=h.lt
 ⟨h.bel.setCell c _,(BV _ _ _ _ (by simp;omega)).trans h.m0,(BV _ _ _ _ (by simp;omega)).trans h.m1,(BV _ _ _ _ (by simp;omega)).trans h.m2,a⟩
theorem MkS.al {w:qW}{mb:Nat}{v0 v1:Value}{ep:Int}{w':qW}(h:MkS w mb v0 v1 ep w'):w'.cell? (O mb 0)=some v0/\w'.cell? (O mb 1)=some v1/\w'.cell? (O mb 2)=some (J ep)/\MkS w mb v0 v1 ep w':=⟨h.m0,h.m1,h.m2,h⟩
theorem xqu (w:qW)(x:Obj):w.heap.size<(w.alloc x).drew.heap.size:=by simp
theorem xsD (T:Nat->Nat)(w:qW){W' w2:qW}{hv:Value}{g:Nat}{s:Nat->Nat}{xs:List QO}(h:∀T:Nat->Nat,T W'.heap.size=4->(∀b,W'.heap.size+1<=b->T b=2)->HeapSt T w2 hv g s xs):Hid (∃T2,(w.heap.size<=W'.heap.size->Ext T T2 w)/\HeapSt T2 w2 hv g s xs/\∀b,w.heap.size<=b->b<=W'.heap.size->T2 b=4):=by
 refine⟨λb=>if b<w.heap.size/\b<W'.heap.size then T b else if b<=W'.heap.size then 4 else 2,λc b a=>?_,h _ ?_ λb a=>?_,λb e d=>?_⟩
 ·simp only[if_pos (And.intro a (Cd a c))]
 ·simp
 ·simp only[if_neg (show ¬ (b<w.heap.size/\b<W'.heap.size) by omega),if_neg (show ¬ b<=W'.heap.size by omega)]
 simp only[if_neg (show ¬ (b<w.heap.size/\b<W'.heap.size) by omega),if_pos d]
theorem xmr {b:Value}{g2:Nat}{s2:Nat->Nat}{a:List QO}{w2 U:qW}{T2:Nat->Nat}{v:QV}(n:MacAt p T w mb m calls hv g s)(o:FrAt T K w fb f cv av tv sv kv)(j:Ext T T2 w)(r:HeapSt T2 w2 b g2 s2 a)(q:U.heap[mb]?=some (MB p { m with heap:=a } calls b))(kU:Kp (λt=>t=1\/t=4) T2 w2 U)(kw:Kp (λt=>t=1) T w U)(c:f.stack.length<1000000000) :
  Calls Tryz.prog 272 #[qP fb,VV v] U λe w'=>e=.returned (.tuple #[])/\(∃T',Ext T T' w/\(∃hv' g' s',MacAt p T' w' mb { m with heap:=a } calls hv' g' s')/\(((0:Int)=0)->∃sv',FrAt T' K w' fb (f.push v) cv av tv sv' kv))/\Kp (λt=>t=1\/t=K\/t=K+2) T w w':=by
 have u:=o.pos;have k:MacAt p T2 U mb { m with heap:=a } calls b g2 s2:=⟨q,by rw[j _ (By n.box)];exact n.tag,r.keep (.refl _ _) kU (by omega),n.cls.fx Bw j kw (by omega)⟩
 have l:=o.keep j kw (by omega) (by omega) (by omega) (by omega);refine (PX l v c).mono ?_;rintro e w4 ⟨rfl,⟨T4,i,e4,d⟩,k4⟩;have ew:Ext T T4 w:=j.trans kw.size e4;refine⟨rfl,⟨T4,ew,⟨_,_,_,k.keep e4 k4 (by omega) (by omega) (by omega)⟩,λ_=>⟨_,d⟩⟩,?_⟩;exact (kw.mono λt h=>Or.inl h).trans j (k4.mono λt h=>Or.inr h)
def xps (p:Mp σ)(T:Nat->Nat)(w:qW)(mb:Nat)(m:Mc σ)(calls:Int)(K fb:Nat)(f:Fr)(cv av tv kv:Value)(r:Mc σ × Fr × Int)(e:Ending)(w':qW):Prop:=
 e=.returned (J r.2.2)/\(∃T',Ext T T' w/\(∃hv' g' s',MacAt p T' w' mb r.1 calls hv' g' s')/\(r.2.2=0->∃sv',FrAt T' K w' fb r.2.1 cv av tv sv' kv))/\Kp (λt=>t=1\/t=K\/t=K+2) T w w'
theorem xhA (h:MacAt p T w mb m calls hv g s)(hF:FrAt T K w fb f cv av tv sv kv)(c:Int)(o:Cs p.E.cz c=DY p.E.cz c/\0<=DY p.E.cz c)(j:f.stack.length<1000000000):Calls Tryz.prog 275 #[qP mb,qP fb,J c] w λe w'=>xps p T w mb m calls K fb f cv av tv kv (DT p.E m f c) e w':=by
 have hp:=hF.pos;have Z:=By h.box;have aj:=By hF.box;obtain⟨k,hk⟩:∃k:Nat,DY p.E.cz c=(k:Int):=⟨(DY p.E.cz c).toNat,by omega⟩
 have HE:Hid (DT p.E m f c=if 60<=m.heap.length\/2147483647<k then (m,f,15) else ({ m with heap:=m.heap++[⟨c,List.replicate k BC⟩] },f.push ⟨4,m.heap.length⟩,0)):=by
  show _=_;unfold DT;rw[hk];simp only[Int.toNat_natCast];by_cases hc:60<=m.heap.length\/(2147483647:Int)<(k:Int)
  ·rw[if_pos hc,if_pos (by omega)]
  rw[if_neg hc,if_neg (by omega)]
 have hW:Cs p.E.cz c=(k:Int):=by rw[o.1,hk]
 clear hk o;have hd:qY w w.drew:=(Br _ _).drew;have S:=h;have a5:=hF;have hH:=S.heap.heap.mono (Q:=λ_=>True) BB λ_ _=>trivial;have hC:=S.cls.mono (Q:=λ_=>True) Bw λ_ _=>trivial;have M:MkS w mb p.cv hv p.ep w.drew:=⟨hd,S.c0,S.c1,S.c2,Z⟩;have U:=hid S;have HF:=hid a5;obtain⟨ac,cc,y,-⟩:=id hC;obtain⟨ah,ch,rfl,-⟩:=id hH
 have F:∀w':qW,qY w w'->Calls Tryz.prog 83 #[WV p.cv (qS ah m.heap.length ch) p.ep,J c] w' λe w''=>e=.returned (J (k:Int))/\qY w' w'':=λw' hb=>by
  have:=xfD ⟨p.E.cz,m.heap,p.ep⟩ c _ _ w' (hC.later Bw hb) (hH.later BB hb);rw[hW] at this;exact this
 rw[y] at F M;have H:∀w':qW,qY w w'->Calls Tryz.prog 82 #[qS ah m.heap.length ch,J c,J (k:Int)] w' λe w''=>xop w' m.heap c k e w'':=λw' hb=>xl0 m.heap _ c k w' (hH.later BB hb);clear h hF S a5 hW y hC hH;by_cases hc:60<=m.heap.length\/2147483647<k
 ·rw[if_pos hc] at HE;rw[HE.out];have HC:=hid hc;clear hc;go_enter Tryz.func275,Tryz.ntmps275;go_wp2;have tokA:True:=trivial
  go_region_held3 (λw'=>w'.cell? (O mb 0)=some (qS ac p.E.cz.length cc)/\w'.cell? (O mb 1)=some (qS ah m.heap.length ch)/\w'.cell? (O mb 2)=some (J p.ep)/\MkS w mb (qS ac p.E.cz.length cc) (qS ah m.heap.length ch) p.ep w')
   (first | with_reducible exact M.al | with_reducible exact L.al | with_reducible exact D.al | exact (D.later (Bg _ _)).al | exact ((‹_/\_/\_/\MkS w mb (qS ac p.E.cz.length cc) (qS ah m.heap.length ch) p.ep _›).2.2.2.later (Bg _ _)).al | exact ((D.set (by omega) _ _).set (by omega) _ _).al)
   (first
    | (have _t:=tokA;go_at_call 83;refine (F _ (‹_/\_/\_/\MkS w mb (qS ac p.E.cz.length cc) (qS ah m.heap.length ch) p.ep _›).2.2.2.bel).mono ?_;rintro e w1 ⟨rfl,a⟩;have L:=(‹_/\_/\_/\MkS w mb (qS ac p.E.cz.length cc) (qS ah m.heap.length ch) p.ep _›).2.2.2.later a;clear tokA;have tokB:True:=trivial;obtain⟨l,t⟩:=Hq a;have a7:=L.bel.size;try (have hl:=Cd (xqu w _) a.size))
    | (have _t:=tokB;go_at_call 82;refine (H _ (‹_/\_/\_/\MkS w mb (qS ac p.E.cz.length cc) (qS ah m.heap.length ch) p.ep _›).2.2.2.bel).mono ?_;rintro e w2 ⟨d,q,-⟩;obtain rfl:=q HC.out;clear q;have D:=(‹_/\_/\_/\MkS w mb (qS ac p.E.cz.length cc) (qS ah m.heap.length ch) p.ep _›).2.2.2.later d;have Y:=(‹_/\_/\_/\MkS w mb (qS ac p.E.cz.length cc) (qS ah m.heap.length ch) p.ep _›).2.2.2.bel.size;clear tokB;obtain⟨n,u⟩:=Hq d;have a9:=d.size;have a8:=a.size))
  all_goals (
   have V:=hid (‹_/\_/\_/\MkS w mb (qS ac p.E.cz.length cc) (qS ah m.heap.length ch) p.ep _›).2.2.2.bel;clear L D;go_wp2;go_ret;exact⟨rfl,⟨T,.refl _ _,⟨_,_,_,U.out.later V.out⟩,λh=>absurd h (by simp)⟩,Kp.of_below V.out⟩)
 rw[if_neg hc] at HE;rw[HE.out];have HC:=hid hc;clear hc;go_enter Tryz.func275,Tryz.ntmps275;go_wp2;have tokA:True:=trivial
 go_region_held3 (λw'=>w'.cell? (O mb 0)=some (qS ac p.E.cz.length cc)/\w'.cell? (O mb 1)=some (qS ah m.heap.length ch)/\w'.cell? (O mb 2)=some (J p.ep)/\MkS w mb (qS ac p.E.cz.length cc) (qS ah m.heap.length ch) p.ep w')
  (first | with_reducible exact M.al | with_reducible exact L.al | with_reducible exact D.al | exact (D.later (Bg _ _)).al | exact ((‹_/\_/\_/\MkS w mb (qS ac p.E.cz.length cc) (qS ah m.heap.length ch) p.ep _›).2.2.2.later (Bg _ _)).al | exact ((D.set (by omega) _ _).set (by omega) _ _).al)
  (first
   | (have _t:=tokA;go_at_call 83;refine (F _ (‹_/\_/\_/\MkS w mb (qS ac p.E.cz.length cc) (qS ah m.heap.length ch) p.ep _›).2.2.2.bel).mono ?_;rintro e w1 ⟨rfl,a⟩;have L:=(‹_/\_/\_/\MkS w mb (qS ac p.E.cz.length cc) (qS ah m.heap.length ch) p.ep _›).2.2.2.later a;clear tokA;have tokB:True:=trivial;obtain⟨l,t⟩:=Hq a;have a7:=L.bel.size;try (have hl:=Cd (xqu w _) a.size))
   | (have _t:=tokB;go_at_call 82;refine (H _ (‹_/\_/\_/\MkS w mb (qS ac p.E.cz.length cc) (qS ah m.heap.length ch) p.ep _›).2.2.2.bel).mono ?_;rintro e w2 ⟨d,-,r⟩;obtain⟨g2,s2,C,rfl,i⟩:=r HC.out;have W:=xsD T w i;clear r i;have D:=(‹_/\_/\_/\MkS w mb (qS ac p.E.cz.length cc) (qS ah m.heap.length ch) p.ep _›).2.2.2.later d;have Y:=(‹_/\_/\_/\MkS w mb (qS ac p.E.cz.length cc) (qS ah m.heap.length ch) p.ep _›).2.2.2.bel.size;clear tokB;obtain⟨n,u⟩:=Hq d;have a9:=d.size;have a8:=a.size))
 all_goals (
  have R:=hid D.bel;have G:=Bs U.out.box R.out;have ag:w2.cell? (O mb 1)=some (qS ah m.heap.length ch):=by rw[Bn G];rfl
  have ae:=BN G;have N:=hid G;have aa:mb<w2.heap.size:=By G;have ai:¬ mb=w2.heap.size:=by omega
  have a0:¬ mb=w1.heap.size:=by omega
  have X:¬ mb=w.heap.size:=by omega
  have ab:¬ w2.heap.size=mb:=by omega
  have ad:¬ w1.heap.size=mb:=by omega
  have af:¬ w.heap.size=mb:=by omega
  clear L D G;go_wp2_with fail;obtain⟨T2,hE,B,z⟩:=W.out;have a6:=hE (by first | omega | (simp;omega));have a4:T2 mb=1:=by rw[a6 mb Z];exact U.out.tag
  have h4:∀b,w.heap.size<=b->b<=w1.heap.size->T2 b=4:=λb h1 h2=>z b h1 (by first | omega | (simp;omega))
  refine (xmr (v:=⟨4,m.heap.length⟩) U.out HF.out a6 B
   (by first | exact Bs (xku N.out _ _) (Bg _ _) | exact xku (by rw[BS a0,BS a0];exact N.out) _ _ | exact xku (by rw[BS X,BS X];exact N.out) _ _)
   (by first | exact ((Kp.refl _ _ _).set (λ_=>Or.inl a4) _ _).on (Bg _ _) | exact (((Kp.refl _ _ _).set (λ_=>Or.inr (h4 _ (by omega) (by omega))) _ _).set (λ_=>Or.inr (h4 _ (by omega) (by omega))) _ _).set (λ_=>Or.inl a4) _ _)
   (by first | exact ((Kp.of_below R.out).set (λ_=>U.out.tag) _ _).on (Bg _ _) | exact (((Kp.of_below R.out).set (λh=>absurd h (by omega)) _ _).set (λh=>absurd h (by omega)) _ _).set (λ_=>U.out.tag) _ _)
   j).mono ?_
  rintro e w4 ⟨rfl,q1,q2⟩;have Q1:=hid q1;have Q2:=hid q2;clear q1 q2 l t n u;go_wp2;go_ret;obtain⟨T',a1,a2,a3⟩:=Q1.out;exact⟨rfl,⟨T',a1,a2,λ_=>a3 (by trivial)⟩,Q2.out⟩)
end
section
variable {σ:Type}
structure Cx (p:Mp σ)(L:(Nat->Nat)->World->σ->Nat->Prop)(LF:Nat)(lc:Array Value)(QF:Nat)(qc:Array Value):Prop where
 lv:p.lv=.func (.func LF) #[] lc
 qv:p.qv=.func (.func QF) #[] qc
 lcf:∀(args:Array Value) (w:qW),(callFunc LF args).run Tryz.prog w=.ok (.enter LF args) w
 qcf:∀(args:Array Value) (w:qW),(callFunc QF args).run Tryz.prog w=.ok (.enter QF args) w
 ok:EOk p.E
 fuel:p.E.fuel<=1000000
 keep:∀ {T T':Nat->Nat} {w w':qW} {st:σ} {n:Nat} {S:Nat->Prop},L T w st n->Ext T T' w->Kp S T w w'->¬ S 0->¬ S 3->L T' w' st n
 mono:∀ {T:Nat->Nat} {w:qW} {st:σ} {n n':Nat},L T w st n->n'<=n->L T w st n'
 look:∀(T:Nat->Nat) (w:qW) (st:σ) (s:QS) (c:Int) (name:ByteArray) (n:Nat),L T w st (n+1)->Calls Tryz.prog LF (#[SV s,J c,qZ name]++lc) w λe w'=>e=.returned (.tuple #[J (p.E.look st s c name).2.1,J (p.E.look st s c name).2.2])/\(∃T',Ext T T' w/\L T' w' (p.E.look st s c name).1 n)/\Kp (λt=>t=3) T w w'
 quick:∀(T:Nat->Nat) (w:qW) (st:σ) (c k:Int) (mt:QM) (n:Nat),L T w st n->Cp p.E.cz c k=some mt->Calls Tryz.prog QF (#[J c,J k]++qc) w λe w'=>(∃fc fn fe ft av nv cv,e=.returned (.tuple #[Lp fc fn fe ft (qS av nv cv),.bool (p.E.quick c k).isSome])/\∀q,p.E.quick c k=some q->ft=q.2/\Cm (Fx T w') w' (qS av nv cv) q.1)/\qY w w'
 few:∀c k mt,Cp p.E.cz c k=some mt->mt.code.length<=500/\∀q,p.E.quick c k=some q->q.1.length<=500/\∀x∈q.1,x.op=18->0<=x.b/\x.b<=1000
def FM (E:Env σ)(m:Mc σ):Nat:=(E.fuel-m.sz_+1).toNat
abbrev CF (K:Nat):Nat->Prop:=λt=>t=1\/t=2\/t=3\/K<=t
def EnPost (p:Mp σ)(L:(Nat->Nat)->World->σ->Nat->Prop)(T:Nat->Nat)(w:qW)(mb:Nat)(calls:Int)(K:Nat)(r:Mc σ × QV × Int)(e:Ending)(w':qW):Prop:=
 e=.returned (.tuple #[VV r.2.1,J r.2.2])/\(∃T',Ext T T' w/\(∃hv g s,MacAt p T' w' mb r.1 calls hv g s)/\L T' w' r.1.st (if r.2.2=0 then FM p.E r.1 else 0))/\Kp (CF K) T w w'
def StPost (p:Mp σ)(L:(Nat->Nat)->World->σ->Nat->Prop)(T:Nat->Nat)(w:qW)(mb:Nat)(calls:Int)(K fb:Nat)(r:Mc σ × Fr × Int)(e:Ending)(w':qW):Prop:=
 e=.returned (J r.2.2)/\(∃T',Ext T T' w/\(∃hv g s,MacAt p T' w' mb r.1 calls hv g s)/\L T' w' r.1.st (if r.2.2=0 then FM p.E r.1 else 0)/\(r.2.2=0->∃cv av tv sv kv,FrAt T' K w' fb r.2.1 cv av tv sv kv))/\Kp (CF K) T w w'
structure MIn (E:Env σ)(m:Mc σ):Prop where
 heap:HOk E.cz m.heap
 sz_:0<=m.sz_/\m.sz_<=E.fuel
 tz:0<=m.tz/\m.tz<=300
def NM (p:Mp σ)(L:(Nat->Nat)->World->σ->Nat->Prop)(d:Nat):Prop:=
 ∀(K:Nat) (T:Nat->Nat) (w:qW) (mb:Nat) (m:Mc σ) (hv:Value) (g:Nat) (s:Nat->Nat) (c n:Int) (self:QV) (args:List QV) (av:Value),5<=K->MacAt p T w mb m (20-(d:Int)) hv g s->L T w m.st (p.E.fuel-m.sz_).toNat->MIn p.E m->Cn m.heap.length self=0->VsOk m.heap.length args->CG (Fx T w) w av args->
  Calls Tryz.prog 191 #[qP mb,J c,J n,VV self,av] w λe w'=>EnPost p L T w mb (20-(d:Int)) K (BL p.E d m c n self args) e w'
variable {p:Mp σ} {L:(Nat->Nat)->World->σ->Nat->Prop} {LF QF:Nat} {lc qc:Array Value} {T T':Nat->Nat} {w w':World} {mb:Nat} {m m':Mc σ} {hv:Value} {g:Nat} {s:Nat->Nat} {K fb:Nat} {f:Fr} {cv av tv sv kv:Value}
structure SdR (w:qW)(x:QI)(w':qW):Prop where
 x0:w'.cell? (O w.heap.size 0)=some (J x.op)
 x1:w'.cell? (O w.heap.size 1)=some (J x.a)
 x2:w'.cell? (O w.heap.size 2)=some (J x.b)
 x3:w'.cell? (O w.heap.size 3)=some (J x.c)
 x4:w'.cell? (O w.heap.size 4)=some (qZ x.name)
theorem xlm (w:qW)(x:QI)(t:TypeId):SdR w x (w.alloc (qC #[J x.op,J x.a,J x.b,J x.c,qZ x.name] t)):=⟨Bp _ _ _ _ rfl 0,Bp _ _ _ _ rfl 1,Bp _ _ _ _ rfl 2,Bp _ _ _ _ rfl 3,Bp _ _ _ _ rfl 4⟩
theorem SdR.kp {w:qW}{x:QI}{w' w'':qW}{T:Nat->Nat}{S:Nat->Prop}(h:SdR w x w')(k:Kp S T w' w'')(a:¬ S (T w.heap.size)):SdR w x w'':=⟨k.cell h.x0 a,k.cell h.x1 a,k.cell h.x2 a,k.cell h.x3 a,k.cell h.x4 a⟩
theorem xsE {a1 a2 a3 a4 a5 a6 a7 a8 a9:Addr}{v1 v2 v3 v4 v5 v6 v7 v8 v9:Value}{w w':qW}(h:w.cell? a1=some v1/\w.cell? a2=some v2/\w.cell? a3=some v3/\w.cell? a4=some v4/\w.cell? a5=some v5/\w.cell? a6=some v6/\w.cell? a7=some v7/\w.cell? a8=some v8/\w.cell? a9=some v9)(a:qY w w'):w'.cell? a1=some v1/\w'.cell? a2=some v2/\w'.cell? a3=some v3/\w'.cell? a4=some v4/\w'.cell? a5=some v5/\w'.cell? a6=some v6/\w'.cell? a7=some v7/\w'.cell? a8=some v8/\w'.cell? a9=some v9:=by
 obtain⟨b,g,k,c,d,f,j,i,e⟩:=h;exact⟨Bf a b,Bf a g,Bf a k,Bf a c,Bf a d,Bf a f,Bf a j,Bf a i,Bf a e⟩
theorem xsJ {T:Nat->Nat}{S:Nat->Prop}{b1 b2 b3 o1 o2:Nat}{v1 v2 v3 v4 v5 v6 v7 v8 v9:Value}{w w':qW}(h:w.cell? (O b1 o1)=some v1/\w.cell? (O b1 o2)=some v2/\w.cell? (O b2 0)=some v3/\w.cell? (O b2 1)=some v4/\w.cell? (O b2 2)=some v5/\w.cell? (O b2 3)=some v6/\w.cell? (O b2 4)=some v7/\w.cell? (O b3 0)=some v8/\w.cell? (O b3 1)=some v9)(k:Kp S T w w')(b:¬ S (T b1))(a:¬ S (T b2))(c:¬ S (T b3)):w'.cell? (O b1 o1)=some v1/\w'.cell? (O b1 o2)=some v2/\w'.cell? (O b2 0)=some v3/\w'.cell? (O b2 1)=some v4/\w'.cell? (O b2 2)=some v5/\w'.cell? (O b2 3)=some v6/\w'.cell? (O b2 4)=some v7/\w'.cell? (O b3 0)=some v8/\w'.cell? (O b3 1)=some v9:=by
 obtain⟨e1,e2,e3,e4,e5,e6,e7,e8,e9⟩:=h;exact⟨k.cell e1 b,k.cell e2 b,k.cell e3 a,k.cell e4 a,k.cell e5 a,k.cell e6 a,k.cell e7 a,k.cell e8 c,k.cell e9 c⟩
theorem MacAt.st {a:Int}(h:MacAt p T w mb m a hv g s)(st:σ):MacAt p T w mb { m with st:=st } a hv g s:=⟨h.box,h.tag,h.heap,h.cls⟩
theorem xpZ (hC:Cx p L LF lc QF qc){d:Nat}(a1:NM p L d)(h:MacAt p T w mb m (20-(d:Int)) hv g s)(hF:FrAt T K w fb f cv av tv sv kv)(hL:L T w m.st (FM p.E m))(hI:MIn p.E m)(X:FOk p.E.cz m.heap.length f)(a5:f.stack.length<=1000000)(a:Int)(x:QI) :
  Calls Tryz.prog 276 #[qP mb,qP fb,J a,IV x] w λe w'=>StPost p L T w mb (20-(d:Int)) K fb (Dv (BL p.E d) p.E m f a x) e w':=by
 have hp:=hF.pos;have ci:=By h.box;have cf:=By hF.box;have hX:=EW T w 4;have c5:∀b,w.heap.size<=b->Dw T w 4 b=4:=λb hb=>Gr hb;have af:=Bg w (qE x);have bf:=(h.tagged0 4).later af;have b1:=(hF.tagged0 4).later af;have b8:=hC.keep (hC.keep hL hX (Kp.refl (λ_=>False) _ _) id id) (.refl _ _) (Kp.of_below (S:=λ_=>False) af) id id;have al:=xlm w x 69;clear h hF hL;generalize Dw T w 4=T1 at *;obtain⟨k,hk⟩:∃k,k=Dq f.stack x.a:=⟨_,rfl⟩;have HS:Hid (Dv (BL p.E d) p.E m f a x=(let l:=p.E.look m.st (f.site a x) (Ch m.heap (CL (f.stack.take k) 0)) x.name;let r:=BL p.E d { m with st:=l.1 } l.2.1 l.2.2 (CL (f.stack.take k) 0) (f.stack.drop k);if r.2.2≠0 then (r.1,f,r.2.2) else (r.1,{ f with stack:=(f.stack.take k).dropLast++[r.2.1] },0))):=by show _=_;unfold Dv;rw[← hk]
 have au:Hid (Cn m.heap.length (CL (f.stack.take k) 0)=0):=VsOk.entry (X.stack.sub λv hv=>List.mem_of_mem_take hv) _;have ay:Hid (VsOk m.heap.length (f.stack.drop k)):=X.stack.sub λv hv=>List.mem_of_mem_drop hv;have b6:Hid (Fr.top { f with stack:=f.stack.take k }=CL (f.stack.take k) 0):=rfl;have b3:Hid (Fr.pop { f with stack:=f.stack.take k }={ f with stack:=(f.stack.take k).dropLast }):=rfl;have b0:Hid (∀l,Fr.site { f with stack:=l } a x=f.site a x):=λ_=>rfl;have be:Hid ((f.stack.take k).dropLast.length<=1000000):=by show _<=_;simp;omega
 have bh:=xkl b1 x.a k hk;have cd:(f.stack.take k).length<=1000000:=by simp;omega
 clear hk;go_enter Tryz.func276,Tryz.ntmps276;go_upto_region 1 with (fail);generalize (w.alloc (qE x))=W at *;obtain⟨x0,x1,x2,x3,x4⟩:=id al;go_wp2_with fail;refine bh.mono ?_;rintro e w1 ⟨aa,ca,T2,a7,rfl,q,a0,R,j⟩;clear bh;generalize f.stack.drop k=args at *;have ap:T1 w.heap.size=4:=c5 _ (Bq _);have bk:=bf.keep q j (by omega) (by omega) (by omega);have bc:=hC.keep b8 q j (by omega) (by omega);have bn:=al.kp j (by rw[ap];omega);clear x0 x1 x2 x3 x4;go_wp2_with fail;refine (Ng a0).mono ?_;rintro e w2 ⟨rfl,⟨a9,N⟩,i⟩;have bm:=bk.keep (.refl _ _) i (by omega) (by omega) (by omega);have bv:=hC.keep bc (.refl _ _) i (by omega) (by omega);have bp:=R.fx BZ (.refl _ _) i (by omega);have ba:w.heap.size<W.heap.size:=World.block_lt_of_cell? W (O w.heap.size 0) al.x0;have aw:T2 w.heap.size=4:=by rw[q _ ba];exact ap
 have bb:=bn.kp i (by rw[aw];omega);rw[b6.out];rw[b3.out] at N;generalize CL (f.stack.take k) 0=self at *;generalize (f.stack.take k).dropLast=rest at *;have ai:qY w2 (w2.alloc (qH self)).drew:=(Bg _ _).drew;have az:=EW T2 w2 4;have c6:∀b,w2.heap.size<=b->Dw T2 w2 4 b=4:=λb hb=>Gr hb;have ag:=(bm.tagged0 4).later ai;have aq:=(N.tagged0 4).later ai;have bs:=hC.keep (hC.keep bv az (Kp.refl (λ_=>False) _ _) id id) (.refl _ _) (Kp.of_below (S:=λ_=>False) ai) id id;have bw:=(xfh bp BZ 4).fx BZ (.refl _ w2) (Kp.of_below (S:=λ_=>False) ai) id;have bu:SdR w x (w2.alloc (qH self)).drew:=bb.kp (T:=T2) (S:=λ_=>False) (Kp.of_below ai) id;have s0:(w2.alloc (qH self)).drew.cell? (O w2.heap.size 0)=some (J self.k):=Bp w2 #[J self.k,J self.n] 41 _ rfl 0;have s1:(w2.alloc (qH self)).drew.cell? (O w2.heap.size 1)=some (J self.n):=Bp w2 #[J self.k,J self.n] 41 _ rfl 1;have c9:Dw T2 w2 4 w.heap.size=4:=by rw[az _ (Cd ba (BX j.size i.size))];exact aw
 have c4:Dw T2 w2 4 w2.heap.size=4:=c6 _ (Bq _);have bx:Hid (Ext T (Dw T2 w2 4) w):=((hX.trans af.size q).trans (BX af.size (BX j.size i.size)) az);have bi:Hid (Kp (CF K) T w (w2.alloc (qH self)).drew):=((((Kp.of_below (S:=CF K) af).trans hX (j.mono λt h=>Or.inr (Or.inr (Or.inr (by omega))))).trans (hX.trans af.size q) (i.mono λt h=>Or.inr (Or.inr (Or.inr (by omega))))).on ai)
 clear bm N bv bp bb bk a0 bc R bn bf b1 b8 al j i q af ap aw;go_wp2;generalize Dw T2 w2 4=T3 at *;generalize (w2.alloc (qH self))=V at *;have m7:=ag.c7;have m1:=ag.c1;rw[hC.lv] at m7;obtain⟨ch,rfl,a6,ab⟩:=ag.heap.form;obtain⟨x0,x1,x2,x3,x4⟩:=id bu
 have ah:Calls Tryz.prog 282 #[qP fb,J a,IV x] V.drew λe w'=>e=.returned (SV (f.site a x))/\Below V.drew.heap.size V.drew w':=by
  have:=xpY aq a x;rw[b0.out] at this;exact this
 have aj:∀w':qW,Below V.drew.heap.size V.drew w'->Calls Tryz.prog 190 #[qG g m.heap.length ch,VV self] w' λe w''=>e=.returned (J (Ch m.heap self))/\qY w' w'':=λw' hb=>xfF m.heap _ self w' ((ag.heap.heap).later BB hb);have ae:∀w':qW,Below V.drew.heap.size V.drew w'->Calls Tryz.prog LF (#[SV (f.site a x),J (Ch m.heap self),qZ x.name]++lc) w' _:=λw' hb=>hC.look T3 w' m.st (f.site a x) (Ch m.heap self) x.name (p.E.fuel-m.sz_).toNat (hC.keep (hC.mono bs (by unfold FM;have:=hI.sz_;omega)) (.refl _ _) (Kp.of_below (S:=λ_=>False) hb) id id);obtain⟨c0,Y⟩:∃c0,c0=Ch m.heap self:=⟨_,rfl⟩;obtain⟨st0,B⟩:∃st0,st0=f.site a x:=⟨_,rfl⟩;rw[← Y] at ae HS aj;rw[← B] at ae HS ah;have cg:=hid B;clear Y B;have am:V.drew.cell? (O mb 7)=some (.func (.func LF) #[] lc)/\V.drew.cell? (O mb 1)=some (qG g m.heap.length ch)/\V.drew.cell? (O w.heap.size 0)=some (J x.op)/\V.drew.cell? (O w.heap.size 1)=some (J x.a)/\V.drew.cell? (O w.heap.size 2)=some (J x.b)/\V.drew.cell? (O w.heap.size 3)=some (J x.c)/\V.drew.cell? (O w.heap.size 4)=some (qZ x.name)/\V.drew.cell? (O w2.heap.size 0)=some (J self.k)/\V.drew.cell? (O w2.heap.size 1)=some (J self.n):=⟨m7,m1,x0,x1,x2,x3,x4,s0,s1⟩
 have c3:¬ (T3 mb=3):=by rw[ag.tag];omega
 have cb:¬ (T3 w.heap.size=3):=by rw[c9];omega
 have c8:¬ (T3 w2.heap.size=3):=by rw[c4];omega
 have ce:=hC.lcf;have tokA:True:=trivial
 go_region_held3 (λw'=>w'.cell? (O mb 7)=some (.func (.func LF) #[] lc)/\w'.cell? (O mb 1)=some (qG g m.heap.length ch)/\w'.cell? (O w.heap.size 0)=some (J x.op)/\w'.cell? (O w.heap.size 1)=some (J x.a)/\w'.cell? (O w.heap.size 2)=some (J x.b)/\w'.cell? (O w.heap.size 3)=some (J x.c)/\w'.cell? (O w.heap.size 4)=some (qZ x.name)/\w'.cell? (O w2.heap.size 0)=some (J self.k)/\w'.cell? (O w2.heap.size 1)=some (J self.n))
  (first | with_reducible exact am | with_reducible exact ao | with_reducible exact bo | with_reducible exact bj)
  (first
   | (have _t:=tokA;go_at_call 282;refine ah.mono ?_;rintro e w3 ⟨rfl,F⟩;have ao:=xsE am F;clear tokA;have tokB:True:=trivial)
   | (have _t:=tokB;go_at_call 190;refine (aj _ F).mono ?_;rintro e w4 ⟨rfl,H⟩;have bo:=xsE ao H;have ad:=Bh F H;clear tokB;have tokC:True:=trivial)
   | (have _t:=tokC;refine (ae _ ad).mono ?_;rintro e w5 ⟨rfl,⟨T5,z,Z⟩,u⟩;have bj:=xsJ (xsE am ad) u c3 cb c8;clear tokC))
 have b5:=((ag.later ad).keep z u (by omega) (by omega) (by omega)).st (p.E.look m.st st0 c0 x.name).1;have bd:=(aq.later ad).keep z u (by omega) (by omega) (by omega) (by omega);have bt:=(bw.fx BZ (.refl _ _) (Kp.of_below (S:=λ_=>False) ad) id).fx BZ z u (by omega);have bq:=hid (bx.out.trans (BX bi.out.size ad.size) z);have br:=hid ((bi.out.on ad).trans bx.out (u.mono (S':=CF K) λt h=>Or.inr (Or.inr (Or.inl h))));obtain⟨-,-,-,-,-,-,-,a2,a4⟩:=bj;clear am ao bo m7 m1 x0 x1 x2 x3 x4 s0 s1 ah aj ae ag aq bs bw bu F H ad z u;generalize p.E.look m.st st0 c0 x.name=l at *;have c2:MIn p.E { m with st:=l.1 }:=⟨hI.heap,hI.sz_,hI.tz⟩
 have an:=a1 (K+3) T5 w5 mb _ _ _ _ l.2.1 l.2.2 self args _ (by omega) b5 Z c2 au.out ay.out bt;generalize BL p.E d { m with st:=l.1 } l.2.1 l.2.2 self args=r at *;go_wp2_with fail;refine an.mono ?_;rintro e w6 ⟨rfl,⟨T6,M,⟨a3,g6,s6,y⟩,o⟩,G⟩;have ar:=bd.keep M G (by unfold CF;omega) (by unfold CF;omega) (by unfold CF;omega) (by unfold CF;omega);have ax:=hid (bq.out.trans br.out.size M);have bz:=hid (br.out.trans bq.out (G.mono (S':=CF K) λt h=>by unfold CF at *;omega));obtain⟨r1,v,er⟩:=r;simp only at HS y o;clear an b5 bd bt Z M G;by_cases her:er=0
 ·subst her;rw[if_neg (by simp)] at HS;rw[if_pos rfl] at o;have ak:qY w6 (w6.alloc (qH v)):=Bg _ _;have b2:=y.later ak;have b7:=ar.later ak;have bl:=hC.keep o (.refl _ _) (Kp.of_below (S:=λ_=>False) ak) id id;have b9:=hid (bz.out.on ak);clear y ar o;go_wp2_with fail;refine (PX b7 v (by show rest.length<_;have:=be.out;omega)).mono ?_;rintro e w8 ⟨rfl,⟨T8,a8,C,U⟩,D⟩;have b4:=b2.keep C D (by omega) (by omega) (by omega);have bg:=hC.keep bl C D (by omega) (by omega)
  have Q:Hid (StPost p L T w mb (20-(d:Int)) K fb (r1,{ f with stack:=rest++[v] },0) (.returned (J 0)) w8):=
   ⟨rfl,⟨T8,ax.out.trans b9.out.size C,⟨_,_,_,b4⟩,by rw[if_pos rfl];exact bg,λ_=>⟨_,_,_,_,_,U⟩⟩,b9.out.trans ax.out (D.mono λt h=>by unfold CF;omega)⟩
  clear b2 b7 bl b4 bg U C D;go_wp2;go_ret;rw[HS.out];exact Q.out
 rw[if_pos her] at HS;rw[if_neg her] at o;have cc:(er != 0)=true:=by simpa using her
 have Q:Hid (StPost p L T w mb (20-(d:Int)) K fb (r1,f,er) (.returned (J er)) (w6.alloc (qH v))):=
  ⟨rfl,⟨T6,ax.out,⟨_,_,_,y.later (Bg _ _)⟩,by rw[if_neg her];exact hC.keep o (.refl _ _) (Kp.of_below (S:=λ_=>False) (Bg _ _)) id id,λh=>absurd h her⟩,bz.out.on (Bg _ _)⟩
 clear y ar o;go_wp2;go_ret;rw[HS.out];exact Q.out
end
theorem xjP {P:Program}(w:qW)(dT sT ty elem:TypeId)(sz g dl f:Nat)(sp:Option Addr)(sl b n:Nat)(cur:Array Value)(t:TypeId)(cs:List Value)
  (C:P.underlying dT=some (.slice elem)) (q:(P.info? elem).map (·.size)=some sz) (z:w.heap[g]?=some (.cells cur t (0,0))) (k:Nat.min sl dl=n) (s:cs.length=n*sz)
  (d:∀j v,cs[j]?=some v->∃a,sp=some a/\w.cell? (a.add j)=some v) (l:cur.size=dl*sz) (u:∀v∈cs,v.oneCell'=true) :
  (Builtin.copy_ #[dT,sT] ty #[qG g dl f,qS sp sl b]).run P w=.ok (goInt n) (w.setRow g (cs++cur.toList.drop cs.length).toArray):=by
 cases p:P.info? elem with
 | none=>simp[p] at q
 | some i=>
  have y:i.size=sz:=by simpa [p] using q
  have B:cs.length<=cur.size:=by rw[s,l];exact Nat.mul_le_mul_right _ (by rw[← k];exact Nat.min_le_right _ _)
  have m:=run_storeCells_at P g 0 t cs 0 cur w z (by simp;omega) u
  have o:(Builtin.firstCells sz n (qS sp sl b)).run P w=.ok cs.toArray w:=by
   cases sp with
   | some a=>exact run_firstCells_some w sz n a sl b cs s (λj v hv=>by obtain⟨a',e,h⟩:=d j v hv;cases e;exact h)
   | none=>
    have:cs=[]:=by
     cases cs with
     | nil=>rfl
     | cons c r=>obtain⟨a',e,_⟩:=d 0 c rfl;cases e
    rw[this];exact run_firstCells_none w sz n sl b
  have e:(cur.toList.take (0+0)++cs++cur.toList.drop (0+0+cs.length)).toArray=(cs++cur.toList.drop cs.length).toArray:=by simp
  rw[e] at m;simp[Builtin.copy_,run_underlying C,Builtin.lenOf,sizeOf,typeInfo,p,y,k,o,m]
theorem xkF (n:Int)(l:List QV):Cf ((Cv n).zipIdx.map λp=>(l[p.2]?).getD BC)=(Cf (l.take (Nat.min l.length (Cv n).length)))++(Cf (Cv n)).drop (Cf (l.take (Nat.min l.length (Cv n).length))).length:=by
 unfold Cv;generalize (min (max n 0) 40).toNat=k;rw[List.length_replicate,MZ,List.length_take,xgx,← xdu]
 congr 1
 apply List.ext_getElem?
 intro j;simp only[List.getElem?_map,List.getElem?_zipIdx,List.getElem?_append,List.length_take,List.getElem?_take,List.getElem?_drop,List.getElem?_replicate,Nat.zero_add];have a:Nat.min l.length k=min l.length k:=rfl;rw[a];by_cases hj:j<k
 ·simp only[hj,if_true,Option.map_some];by_cases hl:j<l.length
  ·rw[if_pos (by omega),if_pos (by omega)];simp[hl]
  rw[if_neg (by omega),if_pos (by omega),List.getElem?_eq_none (by omega)];rfl
 simp only[hj,if_false,Option.map_none];rw[if_neg (by omega),if_neg (by omega)]
section
variable {T T':Nat->Nat} {K:Nat} {w w':World} {fb:Nat} {f:Fr} {cv av tv sv kv:Value}
theorem xpo (h:w.heap[fb]?=some (FB f cv av tv sv kv))(b:Value)(a:Int):((((w.setCell (O fb 11) cv).setCell (O fb 9) b).setCell (O fb 12) (J a)).setCell (O fb 13) (.bool false)).heap[fb]?=some (FB (f.leave a) cv av b sv cv):=by
 rw[BW (BW (BW (BW h _) _) _) _];rfl
theorem xiS (h:FrAt T K w fb f cv av tv sv kv)(a:Int):Calls Tryz.prog 283 #[qP fb,J a] w λe w'=>e=.returned (.tuple #[])/\(∃T' tv',Ext T T' w/\FrAt T' K w' fb (f.leave a) cv av tv' sv cv)/\Kp (λt=>t=K) T w w':=by
 have Q:=By h.box;have R:=h.pos;have H:=hid h;have c3:w.cell? (O fb 3)=some (J f.meth.temps):=by rw[Bn h.box];rfl
 obtain⟨tb,p,l,s,q⟩:=h.temps;subst p;obtain⟨ac,cc,r,-⟩:=id h.meth;subst r;clear h;go_enter Tryz.func283,Tryz.ntmps283;go_wp2_with fail;refine (xhm f.meth.temps _).mono ?_;rintro e w1 ⟨nb,rfl,c,i,d⟩;have C:=Bs H.out.box d;have d9:w1.cell? (O fb 9)=some (qG tb f.temps.length f.temps.length):=by rw[Bn C];rfl
 have V:tb<w.heap.size:=By l;have D:=Bs l d
 have z:=xjP (P:=Tryz.prog) w1 52 52 3 41 2 nb (Cv f.meth.temps).length (Cv f.meth.temps).length (some (O tb 0)) f.temps.length f.temps.length _ _ 41 (Cf (f.temps.take (Nat.min f.temps.length (Cv f.meth.temps).length))) Tryz.underlying52 (by kernel_rfl) c rfl (by rw[MZ,List.length_take];congr 1;exact Nat.min_eq_left (Nat.min_le_left _ _)) (λj v hv=>⟨(O tb 0),rfl,by
  rw[← xez,List.getElem?_take] at hv;split at hv
  ·rw[show ((O tb 0):Addr).add j=(O tb j) by simp[Addr.add];intro h;omega,Bn D];simpa using hv
  ·cases hv⟩) (by simp[MZ]) (xhE _)
 rw[List.toList_toArray,← xkF] at z;have B:nb≠fb:=by omega
 obtain⟨w2,n2,u,n,m,o⟩:∃(w2:qW) (n2:Nat),(Builtin.copy_ #[52,52] 3 #[qG nb (Cv f.meth.temps).length (Cv f.meth.temps).length,qG tb f.temps.length f.temps.length]).run Tryz.prog w1=.ok (goInt n2) w2/\w2.heap[nb]?=some (.cells (Cf (f.leave a).temps).toArray 41 (0,0))/\(∀b,b≠nb->w2.heap[b]?=w1.heap[b]?)/\qY w w2:=
  ⟨_,_,z,setRow_heap w1 nb _ _ 41 (0,0) c,λb Y=>setRow_other w1 nb b _ Y,below_setRow d i _⟩
 clear z;have y:w2.heap[fb]?=some (FB f (qS ac f.meth.code.length cc) av (qG tb f.temps.length f.temps.length) sv kv):=(m fb B.symm).trans C;have e5:w2.cell? (O fb 5)=some (qS ac f.meth.code.length cc):=by rw[Bn y];rfl
 have e9:w2.cell? (O fb 9)=some (qG tb f.temps.length f.temps.length):=by rw[Bn y];rfl
 have e11:w2.cell? (O fb 11)=some kv:=by rw[Bn y];rfl
 have e12:w2.cell? (O fb 12)=some (J f.pc):=by rw[Bn y];rfl
 have e13:w2.cell? (O fb 13)=some (.bool f.fast):=by rw[Bn y];rfl
 have ef:=BN y;have W:Hid ((Cv f.meth.temps).length=(f.leave a).temps.length):=by show _=_;simp[Fr.leave]
 have G:=hid n;have S:=hid m;have U:=hid y;have X:=hid d;have M:=hid o;have L:=hid i;clear l c3 D c C n m y d o i q;generalize (Cv f.meth.temps).length=rl at *;go_wp2;have N:=W.out;subst N;have h:=H.out;have e:Ext T (GV T nb (K+1)) w:=xgj L.out;have k:Kp (λt=>t=K) T w ((((w2.setCell (O fb 11) (qS ac f.meth.code.length cc)).setCell (O fb 9) (qG nb (f.leave a).temps.length (f.leave a).temps.length)).setCell (O fb 12) (J a)).setCell (O fb 13) (.bool false)):=(((((Kp.of_below M.out).set (λ_=>h.tag) _ _).set (λ_=>h.tag) _ _).set (λ_=>h.tag) _ _).set (λ_=>h.tag) _ _)
 have c:((((w2.setCell (O fb 11) (qS ac f.meth.code.length cc)).setCell (O fb 9) (qG nb (f.leave a).temps.length (f.leave a).temps.length)).setCell (O fb 12) (J a)).setCell (O fb 13) (.bool false)).heap[nb]?=some (.cells (Cf (f.leave a).temps).toArray 41 (0,0)):=by
  rw[BS B,BS B,BS B,BS B];exact G.out
 refine bodyPost_end (v:=.tuple #[]) (by simp[results,Tryz.results283,go_sem]) rfl ⟨rfl,⟨GV T nb (K+1),_,e,⟨xpo U.out _ a,by rw[e _ Q];exact h.tag,h.args.fx BZ e k (by omega),⟨nb,rfl,c,xfg _ _ _,?_⟩,h.stack.keep λg F=>k.blk g (h.stack.lt g F).2 (by rw[h.stag g F];omega),λg F=>by rw[e _ (h.stack.lt g F).2];exact h.stag g F,h.few,h.meth.fx BR e k (by omega),h.meth.fx BR e k (by omega),R⟩⟩,k⟩;show (f.leave a).temps.length<=40;have:=xfN f.meth.temps;simpa [Fr.leave] using this
end
end Go.Proofs.YtbafokihegegiaaGreatDoor
