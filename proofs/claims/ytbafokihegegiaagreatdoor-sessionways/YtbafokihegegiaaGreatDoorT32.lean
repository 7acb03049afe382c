/- A part. -/
import Derived.Test.YtbafokihegegiaaGreatDoorT31
namespace Go.Proofs.YtbafokihegegiaaGreatDoor
open Go.ChangeShapes Go.WideShapes Go.ChangeAt Go.RowKit
set_option linter.unusedSimpArgs false
set_option linter.unusedVariables false
set_option maxHeartbeats 8000000
set_option maxRecDepth 8000
def BytesIn (w:qW)(v:Value)(l:List UInt8):Prop:=∃ad cap,v=qS ad l.length cap/\l.length<=cap/\cap<=maxLen/\(ad=none->cap=0)/\l.length<=140737488351232/\xxQ w.heap.size w ad l
theorem TextAt.bytes {w0 w:qW}{v:Value}{l:List UInt8}(h:TextAt w0 w v l)(f:l.length<=140737488351232):BytesIn w v l:=by
 obtain⟨ad,cap,rfl,p,k⟩:=h;rcases k with ⟨e,d⟩ | ⟨g,c,cur,e,r,b,n,m,o,j⟩
 ·have:l=[]:=List.eq_nil_of_length_eq_zero d;subst this;simp only[Value.slice.injEq] at e;obtain⟨rfl,-,rfl⟩:=e;exact⟨none,0,rfl,by simp,by unfold maxLen;omega,λ_=>rfl,by simp,λi x a=>by simp at a⟩
 simp only[Value.slice.injEq] at e;obtain⟨rfl,-,rfl⟩:=e;refine⟨_,cap,rfl,n,m,(λe=>by cases e),f,λi x a=>⟨g,0,rfl,By b,?_⟩⟩;rw[Nat.zero_add,Bn b];have q:=Bz a;have e2:=congrArg (λz=>z[i]?) j;simp only[List.getElem?_take] at e2;rw[if_pos (by omega)] at e2;rw[← Array.getElem?_toList,e2];unfold Lib.byteCells;rw[List.getElem?_map,a];rfl
theorem xuh {α:Type}(E:CT α)(sz bytes:Nat)(P:Nat->Prop)(w:qW):IsRow E sz bytes P w (qN) ([]:List α):=⟨none,0,rfl,by simp,by unfold maxLen;omega,by simp,λi x a=>by simp at a⟩
def xvO (w:qW)(Y:QW)(n:Int)(e:Ending)(w':qW):Prop:=∃cv hv,e=.returned (.tuple #[WV cv hv Y.ez,J n])/\BK (λb=>w.heap.size<=b) w' cv Y.cz/\BP (λb=>w.heap.size<=b) w' hv Y.heap/\qY w w'
structure PaS (w:qW)(w':qW):Prop where
 res:w'.heap[w.heap.size]?=some (qO)
 bel:qY w w'
theorem PaS.later {w w' w2:qW}(h:PaS w w')(a:qY w' w2):PaS w w2:=⟨(a.block _ (By h.res)).trans h.res,Bh h.bel a⟩
theorem PaS.z {w w':qW}(h:PaS w w')(k:Nat):w'.cell? (O w.heap.size k)=#[qN,qN,J 0][k]?:=Bn h.res
theorem xww (l:List UInt8)(v:Value)(w:qW)(p:BytesIn w v l)(W:Vars w):Calls Tryz.prog 90 #[v] w (xvO w (Ez l).1 (Ez l).2):=by
 obtain⟨ad,cap,rfl,h2,h3,h4,h5,Y⟩:=p;have s:=BG w (qO) (qC #[qS ad l.length cap,.bool false] 197)
 have V:RdS (w.heap.size+1) ((w.alloc (qO)).alloc (qC #[qS ad l.length cap,.bool false] 197)) (some l):=by
  refine⟨⟨ad,cap,?_,h2,h3,h4,h5,λi x hx=>?_⟩,(W.from.on s).mono (by omega)⟩
  ·have:=BH (w.alloc (qO)) (qC #[qS ad l.length cap,.bool false] 197);simpa using this
  obtain⟨b,o,e,L,hc⟩:=Y i x hx;exact⟨b,o,e,by omega,Bf s hc⟩
 have q:PaS w ((w.alloc (qO)).alloc (qC #[qS ad l.length cap,.bool false] 197)):=⟨by rw[Below.heap_alloc _ _ _ (by simp)];exact BH w _,s⟩
 have M:Hid (∀X d,RdR Ms (some l) X d->(d=none->Ez l=(⟨[],[],0⟩,2))/\(∀r,d=some r->r≠[]->Ez l=(⟨[],[],0⟩,2))/\(d=some []->Ez l=if BM X=0 then (X,0) else (⟨[],[],0⟩,BM X))):=λX d K=>by
  rcases K.cases with ⟨l',r,e,T,rfl⟩ | ⟨rfl,T⟩
  ·cases e;unfold Ez;rw[T];refine⟨(λe=>by cases e),λr' e U=>?_,λe=>?_⟩
   ·cases e
    cases r with
    | nil=>exact absurd rfl U
    | cons a r=>rfl
   cases e;rfl
  unfold Ez;rw[T l rfl];exact⟨λ_=>rfl,(λr e=>by cases e),(λe=>by cases e)⟩
 generalize Ez l=R at *;clear Y s W;go_enter Tryz.func90,Tryz.ntmps90;go_upto_region 2 with (fail);generalize ((w.alloc (qO)).alloc (qC #[qS ad l.length cap,.bool false] 197))=W0 at *;have a0:=V.lt;go_wp2_with (go_at_call 117;refine (xv4 V).mono ?_;rintro e w1 ⟨X,cv,hv,d,rfl,u,t,K,D,g⟩;refine Hid.out ?_);refine Lib.hid ?_;obtain⟨j,m,h⟩:=M.out X d K;have HA:=hid j;have HB:=hid m;have H:=hid h;clear j m h;replace q:PaS w w1:=⟨(g.oth _ (by omega) (by omega)).trans q.res,q.bel.trans (g.bel.mono (by omega))⟩
 replace u:=u.mono (Q:=λb=>w.heap.size+2<=b) Bw λb p=>by omega
 replace t:=t.mono (Q:=λb=>w.heap.size+2<=b) BB λb p=>by omega
 obtain⟨ac,cc,rfl⟩:=u.get;obtain⟨ah,ch,rfl⟩:=t.get;have y:=Bg w1 (qA ac cc ah ch X);have C:=BH w1 (qA ac cc ah ch X);replace q:=q.later y;replace u:=u.later Bw y;replace t:=t.later BB y;replace D:=D.later y;clear y V g K M;go_upto_region 3 with (fail);generalize (w1.alloc (qA ac cc ah ch X))=W1 at *;generalize w1.heap.size=bx at *;have z0:W1.cell? (O w.heap.size 0)=some (qN):=q.z 0;have z1:W1.cell? (O w.heap.size 1)=some (qN):=q.z 1;have z2:W1.cell? (O w.heap.size 2)=some (J 0):=q.z 2;have zf:=BN q.res;have x0:W1.cell? (O bx 0)=some (qS ac X.cz.length cc):=by rw[Bn C];rfl
 have x1:W1.cell? (O bx 1)=some (qS ah X.heap.length ch):=by rw[Bn C];rfl
 have x2:W1.cell? (O bx 2)=some (J X.ez):=by rw[Bn C];rfl
 have G:Hid (∀w2,qY W1 w2->∀n,R=(⟨[],[],0⟩,n)->xvO w R.1 R.2 (.returned (.tuple #[WV (qN) (qN) 0,J n])) (w2.setCells w.heap.size 0 [qN,qN,J 0])):=λw2 p n K=>by
  rw[K];exact⟨_,_,rfl,xuh _ _ _ _ _,xuh _ _ _ _ _,⟨(q.later p).bel.os,(q.later p).bel.tape,(q.later p).bel.output,by rw[Ks];exact (q.later p).bel.size,λb L=>(Er (by omega) _ _ _).trans ((q.later p).bel.block b L)⟩⟩
 cases d with
 | none=>
  have f:W1.heap[w.heap.size+1]?=some (qC #[qN,.bool true] 197 (0,0)):=D.at_;have c1:W1.cell? (O (w.heap.size+1) 1)=some (.bool true):=by rw[Bn f];rfl
  have B:=hid (G.out W1 (Br _ _) 2 (HA.out rfl));clear u t G C x0 x1 x2;go_wp2;refine Bt (v:=.tuple #[WV (qN) (qN) 0,J 2]) ?_ rfl B.out;simp[results,Tryz.results90,go_sem,z0,z1,z2]
 | some r=>
  obtain⟨a2,c2,f,-⟩:=D.at_;have c0:W1.cell? (O (w.heap.size+1) 0)=some (qS a2 r.length c2):=by rw[Bn f];rfl
  have c1:W1.cell? (O (w.heap.size+1) 1)=some (.bool false):=by rw[Bn f];rfl
  by_cases hr:r=[]
  ·subst hr;replace H:=hid (H.out rfl);have c0':W1.cell? (O (w.heap.size+1) 0)=some (qS a2 0 c2):=c0;clear c0;by_cases hre:BM X=0
   ·have N:Calls Tryz.prog 118 #[qV ac cc ah ch X] W1 λe w'=>e=.returned (J 0)/\qY W1 w':=by have:=xuX X _ _ W1 u t;rw[hre] at this;exact this
    have B:Hid (∀w2,qY W1 w2->xvO w R.1 R.2 (.returned (.tuple #[qV ac cc ah ch X,J 0])) (w2.setCells w.heap.size 0 [qS ac X.cz.length cc,qS ah X.heap.length ch,J X.ez])):=λw2 p=>by
     rw[H.out,if_pos hre];have k:Keeps (λb=>w.heap.size+2<=b) w2 (w2.setCells w.heap.size 0 [qS ac X.cz.length cc,qS ah X.heap.length ch,J X.ez]):=Keeps.of_block λb p L=>Er (by omega) _ _ _;exact⟨_,_,rfl,(u.later Bw p).keep Bw k λb p=>by omega,(t.later BB p).keep BB k λb p=>by omega,⟨(q.later p).bel.os,(q.later p).bel.tape,(q.later p).bel.output,by rw[Ks];exact (q.later p).bel.size,λb L=>(Er (by omega) _ _ _).trans ((q.later p).bel.block b L)⟩⟩
    have F:=hid (λw2 p=>q.later (w2:=w2) p);clear u t G hre H;go_wp2_with (go_at_call 118;refine N.mono ?_;rintro e w2 ⟨rfl,c⟩;refine Hid.out ?_);refine Lib.hid ?_;replace z0:=Bf c z0;replace z1:=Bf c z1;replace z2:=Bf c z2;replace x0:=Bf c x0;replace x1:=Bf c x1;replace x2:=Bf c x2;clear zf;have zf:=BN (F.out w2 c).res;replace B:=hid (B.out w2 c);clear c0' c1 N c;go_wp2;refine Bt (v:=.tuple #[qV ac cc ah ch X,J 0]) ?_ rfl B.out;simp[results,Tryz.results90,go_sem,z0,z1,z2]
   obtain⟨n,S⟩:∃n,n=BM X:=⟨_,rfl⟩;have N:Calls Tryz.prog 118 #[qV ac cc ah ch X] W1 λe w'=>e=.returned (J n)/\qY W1 w':=by have:=xuX X _ _ W1 u t;rw[← S] at this;exact this
   have a1:(n != 0)=true:=by rw[S];simpa using hre
   have B:Hid (∀w2,qY W1 w2->xvO w R.1 R.2 (.returned (.tuple #[WV (qN) (qN) 0,J n])) (w2.setCells w.heap.size 0 [qN,qN,J 0])):=λw2 p=>G.out w2 p n (by rw[H.out,if_neg hre,S]);have F:=hid (λw2 p=>q.later (w2:=w2) p);clear u t G hre H S;go_wp2_with (go_at_call 118;refine N.mono ?_;rintro e w2 ⟨rfl,c⟩;refine Hid.out ?_);refine Lib.hid ?_;replace z0:=Bf c z0;replace z1:=Bf c z1;replace z2:=Bf c z2;clear zf;have zf:=BN (F.out w2 c).res;replace B:=hid (B.out w2 c);clear c0' c1 N c x0 x1 x2;go_wp2;refine Bt (v:=.tuple #[WV (qN) (qN) 0,J n]) ?_ rfl B.out;simp[results,Tryz.results90,go_sem,z0,z1,z2]
  have Z:(0:Int)<(r.length:Int):=by have:=List.length_pos_iff.2 hr;omega
  have B:=hid (G.out W1 (Br _ _) 2 (HB.out r rfl hr));clear u t G C x0 x1 x2 hr;go_wp2;refine Bt (v:=.tuple #[WV (qN) (qN) 0,J 2]) ?_ rfl B.out;simp[results,Tryz.results90,go_sem,z0,z1,z2]
abbrev ByC:CT UInt8:=λ_ _ f x=>f 0=some (.int .u8 (x.toNat:Int))
theorem xxa:Good ByC 1 where
 move h _ _ hf:=hf 0 (by omega) _ h
 there h k hk:=by
  obtain rfl:k=0:=by omega
  exact⟨_,h,rfl⟩
 pos:=by omega
def SvAt (P:Nat->Prop)(w:qW)(v:Value)(l:List UInt8):Prop:=IsRow ByC 1 1 P w v l/\∀n cap,v=qS none n cap->cap=0
theorem SvAt.keep {P Q:Nat->Prop}{w w':qW}{v:Value}{l:List UInt8}(h:SvAt P w v l)(c:Keeps P w w')(a:∀b,P b->Q b):SvAt Q w' v l:=⟨h.1.keep xxa c a,h.2⟩
theorem SvAt.nil {P:Nat->Prop}{w:qW}:SvAt P w (qN) []:=⟨xuh ByC 1 1 P w,λn cap h=>by cases h;rfl⟩
theorem SvAt.bytes {P:Nat->Prop}{w:qW}{v:Value}{l:List UInt8}(h:SvAt P w v l):BytesIn w v l:=by
 obtain⟨⟨ad,cap,rfl,a,f,j,c⟩,d⟩:=h;refine⟨ad,cap,rfl,a,f,λe=>d _ _ (by rw[e]),by omega,λi x g=>?_⟩;obtain⟨b,o,e1,e2,e3⟩:=c i x g;replace e3:w.cell? (O b (o+i*1+0))=some (.int .u8 (x.toNat:Int)):=e3;rw[Nat.mul_one,Nat.add_zero] at e3;exact⟨b,o,e1,World.block_lt_of_cell? w _ e3,e3⟩
theorem SvAt.get {P:Nat->Prop}{w:qW}{v:Value}{l:List UInt8}(h:SvAt P w v l):∃ad cap,v=qS ad l.length cap:=by
 obtain⟨⟨ad,cap,rfl,-⟩,-⟩:=h;exact⟨ad,cap,rfl⟩
theorem xuV {w:qW}{B:Nat}{v:Value}{l:List UInt8}(h:w.ownsRow B 5 1 v l.length (Lib.byteCells l))(q:l.length<=140737488351232):SvAt (λb=>B<=b/\b<w.heap.size) w v l:=by
 obtain⟨p,⟨rfl,k⟩ | ⟨g,cap,cur,rfl,o,a,j,f,s,m⟩⟩:=h
 ·obtain rfl:l=[]:=List.eq_nil_of_length_eq_zero k;exact SvAt.nil
 refine⟨⟨some (O g 0),cap,rfl,j,f,by omega,λi x d=>⟨g,0,rfl,⟨o,By a⟩,?_⟩⟩,λn c e=>by cases e⟩;show w.cell? (O g (0+i*1+0))=_;rw[Bn a];simp only[Nat.zero_add,Nat.mul_one,Nat.add_zero];have r:i<l.length:=(List.getElem?_eq_some_iff.1 d).1;have e:(cur.toList.take (l.length*1))[i]?=(Lib.byteCells l)[i]?:=by rw[m]
 rw[List.getElem?_take,if_pos (by omega)] at e;rw[← Array.getElem?_toList,e];simp[Lib.byteCells,d]
theorem xuz {P:Program}(w:qW)(t ty e:TypeId)(i:TypeInfo)(a:P.underlying t=some (.slice e))(c:P.info? e=some i)(ad:Option Addr)(cap:Nat) :
  (Builtin.append_ #[t,t] ty #[qN,qS ad 0 cap]).run P w=.ok (qN) w:=by
 have b:∀(x:Addr),(loadCells x 0).run P w=.ok #[] w:=λx=>by simpa using run_loadCells_list (P:=P) w x [] (by simp)
 cases ad<;>simp[Builtin.append_,run_underlying a,sizeOf,typeInfo,c,Builtin.lenOf,Builtin.firstCells,storeCells,b]
theorem xve {P:Nat->Prop}{w:qW}{sv:Value}{l:List UInt8}(h:SvAt P w sv l):∃sv' w',(Builtin.append_ #[29,29] 29 #[qN,sv]).run Tryz.prog w=.ok sv' w'/\SvAt (λb=>w.heap.size<=b/\b<w'.heap.size) w' sv' l/\qY w w':=by
 obtain⟨⟨ad,cap,rfl,r,t,v,g⟩,s⟩:=h;obtain⟨i0,i,e,d,c⟩:=Gb xxD;by_cases h0:l=[]
 ·subst h0;exact⟨_,w,xuz w 29 29 5 i0 Tryz.underlying29 i ad cap,SvAt.nil,.refl _ _⟩
 have f:0<l.length:=List.length_pos_iff.2 h0;obtain⟨b,o,rfl,-,-⟩:=g 0 l[0] (by simp[f])
 obtain⟨v',w',a,r1,r2,-⟩:=run_append_own (P:=Tryz.prog) w w.heap.size 29 29 5 i0 _ 1 1 Tryz.underlying29 i e d c rfl (by decide) (qN) 0 [] (World.ownsRow_nil w _ 5 1) (O b o) l.length cap (Lib.byteCells l) (by simp[Lib.byteCells]) (λj u m=>by
  simp only[Lib.byteCells,List.getElem?_map,Option.map_eq_some_iff] at m;obtain⟨x,q,rfl⟩:=m;obtain⟨b',o',e1,-,e3⟩:=g j x q
  cases e1;replace e3:w.cell? (O b (o+j*1+0))=some (.int .u8 (x.toNat:Int)):=e3;rw[Nat.mul_one,Nat.add_zero] at e3;rw[Addr.add_lit];exact e3) (λu n=>by
  simp only[Lib.byteCells,List.mem_map] at n;obtain⟨x,-,rfl⟩:=n;rfl) (by omega) (by omega) (Bq _)
 refine⟨v',w',a,xuV (by simpa using r1) (by omega),(Br _ _).grown r2 (Bq _) λk p=>by cases p⟩
section
variable {P:Nat->Prop} {w:World} {f:Nat->Option Value}
theorem IsRow.inn {α:Type}{E:CT α}{sz bytes:Nat}{v:Value}{xs:List α}(G:Good E sz)(k:∀f x,E P w f x->E (λb=>P b/\b<w.heap.size) w f x)(h:IsRow E sz bytes P w v xs):IsRow E sz bytes (λb=>P b/\b<w.heap.size) w v xs:=by
 obtain⟨ad,cap,a,e,l,c,d⟩:=h;refine⟨ad,cap,a,e,l,c,λi x j=>?_⟩;obtain⟨b,o,e1,e2,e3⟩:=d i x j;obtain⟨u,g,-⟩:=G.there e3 0 G.pos;exact⟨b,o,e1,⟨e2,World.block_lt_of_cell? w _ g⟩,k _ _ e3⟩
theorem innM {x:QM}(h:Fk P w f x):Fk (λb=>P b/\b<w.heap.size) w f x:=by
 obtain⟨d,a,i,j,c,v,g,e⟩:=h;exact⟨d,a,i,j,c,v,g,e.inn BR λ_ _ h=>h⟩
theorem xxU {x:QO}(h:LG P w f x):LG (λb=>P b/\b<w.heap.size) w f x:=by
 obtain⟨a,v,c,d⟩:=h;exact⟨a,v,c,d.inn BZ λ_ _ h=>h⟩
theorem xxV {x:QC}(h:Kd P w f x):Kd (λb=>P b/\b<w.heap.size) w f x:=by
 obtain⟨d,a,i,c,v,g,e⟩:=h;exact⟨d,a,i,c,v,g,e.inn xbj λ_ _=>innM⟩
theorem innT {x:QT}(h:Mh P w f x):Mh (λb=>P b/\b<w.heap.size) w f x:=by
 obtain⟨c,a,g,v,d,e⟩:=h;exact⟨c,a,g,v,d,e.inn Db λ_ _ h=>h⟩
theorem innE {x:QE}(h:Ln P w f x):Ln (λb=>P b/\b<w.heap.size) w f x:=by
 obtain⟨d,a,i,j,c,v,g,e⟩:=h;exact⟨d,a,i,j,c,v,g,e.inn Db λ_ _ h=>h⟩
end
def KK (P:Nat->Prop)(w:qW)(sb:Nat)(s':Sn)(r:ReE)(e:Ending)(w':qW):Prop:=
 e=.returned (Ej r)/\(∃cv hv lv tv sv,w'.heap[sb]?=some (DR cv hv s'.X.ez lv tv sv)/\SesAt (λb=>P b\/w.heap.size<=b) w' cv hv lv tv s'/\SvAt (λb=>P b\/w.heap.size<=b) w' sv s'.saved)/\Kp (λt=>t=3) (Gd sb) w w'
theorem ArPost.st {P:Nat->Prop}{w w':qW}{sb:Nat}{sv:Value}{s':Sn}{r:ReE}{e:Ending}(h:ArPost P w sb sv s' r e w')(hv:SvAt P w sv s'.saved)(d:∀b,P b->b≠sb):KK P w sb s' r e w':=by
 obtain⟨i,⟨cv,f,lv,tv,j,k⟩,c⟩:=h;exact⟨i,⟨cv,f,lv,tv,sv,j,k,hv.keep (Keeps.of_block λb a g=>c.blk b g (by rw[Eb (d b a)];omega)) λb a=>.inl a⟩,c⟩
theorem SesAt.sv {P:Nat->Prop}{w:qW}{cv hv lv tv:Value}{s:Sn}(h:SesAt P w cv hv lv tv s)(L:List UInt8):SesAt P w cv hv lv tv ⟨s.X,s.cells,s.ts,L⟩:=⟨h.c,h.h,h.l,h.t⟩
theorem setV {w:qW}{sb:Nat}{cv hv:Value}{ep:Int}{lv tv sv:Value}(h:w.heap[sb]?=some (DR cv hv ep lv tv sv))(u:Value):(w.setCell (O sb 5) u).heap[sb]?=some (DR cv hv ep lv tv u)/\Chg sb w (w.setCell (O sb 5) u):=
 ⟨by rw[BW h _];rfl,(Chg.refl _ _).set _ _⟩
theorem xwl {P:Nat->Prop}{w wc Y F:qW}{sb rb:Nat}{cv hv lv tv sv:Value}{s':Sn}{r:ReE}{e:Ending}(j:∀b,P b->b≠sb/\b<w.heap.size)(k:qY w wc)(o:Chg sb wc Y)(f:Chg rb Y F)(p:w.heap.size<=rb)(q:sb<w.heap.size)(n:Y.heap[sb]?=some (DR cv hv s'.X.ez lv tv sv))
  (l:SesAt (λb=>P b\/rb<b) wc cv hv lv tv s') (c:SvAt (λb=>P b\/rb<b) wc sv s'.saved) (m:e=.returned (Ej r)):KK P w sb s' r e F:=by
 have g:=NK k o (Br _ Y) f p
 have i:Keeps (λb=>P b\/rb<b) wc F:=g.keeps _ λb d=>by
  rcases d with d | d
  ·obtain⟨a,b⟩:=j b d;exact⟨a,by omega⟩
  exact⟨by omega,by omega⟩
 exact⟨m,⟨cv,hv,lv,tv,sv,f.held n (by omega),l.keep i λb d=>d.imp id λh=>by omega,c.keep i λb d=>d.imp id λh=>by omega⟩,g.kp⟩
theorem xwW {P:Nat->Prop}(s:Sn)(y:BM s.X=0)(cv hv lv tv sv:Value)(w:qW)(sb:Nat)(k:w.heap[sb]?=some (DR cv hv s.X.ez lv tv sv))(o:SesAt P w cv hv lv tv s)(B:∀b,P b->b≠sb/\b<w.heap.size)(D:Vars w) :
  Calls Tryz.prog 58 #[qP sb] w λe w'=>KK P w sb ⟨s.X,s.cells,s.ts,Ef s.X⟩ (Ct 0 (Ef s.X).length) e w':=by
 have i:=Bg w (qR);have z:=By k;have F:=xvU y;have p:=xwv s.X cv hv (w.alloc (qR)) (o.c.later Bw i) (o.h.later BB i) y (D.later i).tab;have m:(w.alloc (qR)).heap[w.heap.size]?=some (qR):=BH _ _;have K:w.heap.size+1<=(w.alloc (qR)).heap.size:=by simp
 obtain⟨ac,cc,rfl,-⟩:=id o.c;obtain⟨ah,ch,rfl,-⟩:=id o.h;replace k:=Bs k i;have t:=o.keep (Keeps.of_below i) λ_ h=>h;clear o;go_enter Tryz.func58,Tryz.ntmps58;go_upto_region 1 with (fail);generalize (w.alloc (qR))=W at *;obtain⟨s0,s1,s2,s3,s4,s5⟩:=Fc k;go_wp2_with fail;refine p.mono ?_;rintro e Z ⟨v,rfl,⟨ad,cap,rfl,d⟩,a⟩;have u:=Bh i a;have j:=Bs k a;have l:=Bs m a;have q:=t.keep (Keeps.of_below a) λ_ h=>h;have hv:=xuV d (by omega);clear s0 s1 s2 s3 s4 s5 k m t p D y d;obtain⟨s0,s1,s2,s3,s4,s5⟩:=Fc j;have sf:=BN j;obtain⟨rf,r0,r1,r2,r3⟩:=Ec l;obtain⟨C,f⟩:=setV j (qS ad (Ef s.X).length cap);have n:=f.held l (by omega);obtain⟨L,g⟩:=Fz n (J 0) (J (Ef s.X).length) (J 0) (J 0);have H:=hid (xwl (s':=⟨s.X,s.cells,s.ts,Ef s.X⟩) (r:=Ct 0 (Ef s.X).length) B u f g (Bq _) z C ((q.sv _).keep (Keeps.refl _ _) λb h=>Or.inl h) (hv.keep (Keeps.refl _ _) λb h=>Or.inr (by omega)) rfl);have G:sb≠w.heap.size:=by omega
 clear j l q hv C f n L g a u i B;go_wp2;refine Bt (v:=Ej (Ct 0 (Ef s.X).length)) ?_ rfl H.out;simp[results,Tryz.results58,go_sem,Ct,BC,r0,r1,r2,r3]
def LZ (s:Sn):Sn × ReE:=if s.saved=[] then (s,Ct 6 0) else if (Ez s.saved).2≠0 then (s,Ct (Ez s.saved).2 0) else (⟨⟨(Ez s.saved).1.cz,(Ez s.saved).1.heap,max (Ez s.saved).1.ez s.X.ez+1⟩,s.cells,s.ts,s.saved⟩,Ct 0 0)
theorem xwY {P:Nat->Prop}{i:Nat}(s:Sn)(hI:SInv i s)(hi:i<1000)(cv hv lv tv sv:Value)(w:qW)(sb:Nat)(k:w.heap[sb]?=some (DR cv hv s.X.ez lv tv sv))(hS:SesAt P w cv hv lv tv s)(j:SvAt P w sv s.saved)(hP:∀b,P b->b≠sb/\b<w.heap.size)(hV:Vars w) :
  Calls Tryz.prog 59 #[qP sb] w λe w'=>KK P w sb (LZ s).1 (LZ s).2 e w':=by
 have K:=Bg w (qR);have aa:=By k;have N:(w.alloc (qR)).heap[w.heap.size]?=some (qR):=BH _ _;have ao:w.heap.size+1<=(w.alloc (qR)).heap.size:=by simp
 obtain⟨ac,cc,rfl,-⟩:=id hS.c;obtain⟨ah,ch,rfl,-⟩:=id hS.h;obtain⟨av,p,rfl⟩:=j.get;have aj:sb≠w.heap.size:=by omega
 have F:=Bs k K;have a0:=hS.keep (Keeps.of_below K) λ_ h=>h;have M:=j.keep (Keeps.of_below K) λ_ h=>h;have a3:=hV.later K;clear hS j k hV;by_cases h0:s.saved=[]
 ·have hR:LZ s=(s,Ct 6 0):=by unfold LZ;rw[if_pos h0]
  rw[hR];have hl:s.saved.length=0:=by rw[h0];rfl
  obtain⟨s0,s1,s2,s3,s4,s5⟩:=Fc F;rw[hl] at s5;go_enter Tryz.func59,Tryz.ntmps59;go_upto_region 1 with (fail);generalize (w.alloc (qR))=W at *;go_wp2_with fail;refine (NW 6 W).mono ?_;rintro e Z ⟨rfl,a⟩;have C:=Bs N a;have D:=Bs F a;obtain⟨rf,r0,r1,r2,r3⟩:=Ec C;obtain⟨hF,f⟩:=Fz C (J 6) (J 0) (J 0) (J 0);have HF:=hid (xwl (s':=s) (r:=Ct 6 0) hP (Bh K a) (Chg.refl _ _) f (Bq _) aa D ((a0.keep (Keeps.of_below a) λ_ h=>h).keep (Keeps.refl _ _) λb h=>Or.inl h) ((M.keep (Keeps.of_below a) λ_ h=>h).keep (Keeps.refl _ _) λb h=>Or.inl h) rfl);clear s0 s1 s2 s3 s4 s5 F N a0 M a3 D C hF f a K;go_wp2;refine Bt (v:=Ej (Ct 6 0)) ?_ rfl HF.out;simp[results,Tryz.results59,go_sem,Ct,BC,r0,r1,r2,r3]
 obtain⟨Y,u,o,m,z,q⟩:=hI.parse h0;clear o;have e0:=hI.ep0;have e1:=hI.ep1;have hR:LZ s=(⟨⟨Y.cz,Y.heap,max Y.ez s.X.ez+1⟩,s.cells,s.ts,s.saved⟩,Ct 0 0):=by unfold LZ;rw[if_neg h0,m];simp
 rw[hR];have ag:0<s.saved.length:=List.length_pos_iff.2 h0;have a4:=xww s.saved _ _ M.bytes a3;rw[m] at a4;have al:(max Y.ez s.X.ez+1)<=2000:=by omega
 have an:0<=(max Y.ez s.X.ez+1):=by omega
 obtain⟨s0,s1,s2,s3,s4,s5⟩:=Fc F;go_enter Tryz.func59,Tryz.ntmps59;go_upto_region 1 with (fail);generalize (w.alloc (qR))=W at *;have af:¬ ((s.saved.length:Int)=0):=by omega
 go_wp2_with fail;refine a4.mono ?_;rintro e Z ⟨y,B,rfl,hC,hH,a⟩;obtain⟨ad,k1,rfl,-⟩:=id hC;obtain⟨d,k2,rfl,-⟩:=id hH;have C:=Bs N a;have D:=Bs F a;have T:=a0.keep (Keeps.of_below a) λ_ h=>h;have S:=M.keep (Keeps.of_below a) λ_ h=>h;have R:=Bh K a;have ai:=a.size;have L:=Bg Z (qA ad k1 d k2 Y);have a5:(Z.alloc (qA ad k1 d k2 Y)).heap[Z.heap.size]?=some (qA ad k1 d k2 Y):=BH _ _;have ae:Z.heap.size<(Z.alloc (qA ad k1 d k2 Y)).heap.size:=by simp
 replace hC:=(hC.inn Bw λ_ _=>xxV).keep (Q:=λb=>w.heap.size<b/\b<Z.heap.size) Bw (Keeps.of_below L) λb h=>⟨by have:=h.1;omega,h.2⟩
 replace hH:=(hH.inn BB λ_ _=>xxU).keep (Q:=λb=>w.heap.size<b/\b<Z.heap.size) BB (Keeps.of_below L) λb h=>⟨by have:=h.1;omega,h.2⟩
 replace T:=T.keep (Keeps.of_below L) λ_ h=>h;replace S:=S.keep (Keeps.of_below L) λ_ h=>h;replace C:=Bs C L;replace D:=Bs D L;replace R:=Bh R L;go_upto_region 4 with (fail);clear L a K F N a0 M a3 a4 s0 s1 s2 s3 s4 s5;generalize (Z.alloc (qA ad k1 d k2 Y))=V at *;generalize Z.heap.size=wb at *;obtain⟨sf,s0,s1,s2,s3,s4,s5⟩:=EH D;obtain⟨wf,w0,w1,w2⟩:=Kk a5
 have ap:IntKind.i64.wrap (max Y.ez s.X.ez+1)=max Y.ez s.X.ez+1:=by
  rw[IntKind.wrap_i64];omega
 go_upto_region 6 with (fail)
 go_region_with (fail)
 all_goals
  have H:Chg wb V (V.setCell (O wb 2) (J (max Y.ez s.X.ez+1))):=(Chg.refl _ _).set _ _;have a1:(V.setCell (O wb 2) (J (max Y.ez s.X.ez+1))).heap[wb]?=some (qC #[qS ad Y.cz.length k1,qS d Y.heap.length k2,J (max Y.ez s.X.ez+1)] 26 (0,0)):=by rw[BW a5 _];rfl
  have G:=(Br (V.setCell (O wb 2) (J (max Y.ez s.X.ez+1))).heap.size (V.setCell (O wb 2) (J (max Y.ez s.X.ez+1)))).drew;have am:=By D;have ak:=By C;have x1:=Bs (H.held D (by omega)) G;have x2:=Bs (H.held C (by omega)) G;have x3:=Bs a1 G;have a7:=(R.trans (H.below (n:=w.heap.size) (by omega))).trans (G.mono (by have:=H.size;omega));have a8:=(hC.keep (Q:=λb=>w.heap.size<b) Bw (H.keeps (by omega)) λb h=>h.1).later Bw G;have ab:=(hH.keep (Q:=λb=>w.heap.size<b) BB (H.keeps (by omega)) λb h=>h.1).later BB G;have a6:=(T.keep (H.keeps λh=>by have:=(hP _ h).2;omega) λ_ h=>h).keep (Keeps.of_below G) λ_ h=>h;have a9:=(S.keep (H.keeps λh=>by have:=(hP _ h).2;omega) λ_ h=>h).keep (Keeps.of_below G) λ_ h=>h;clear sf s0 s1 s2 s3 s4 s5 wf w0 w1 w2 H a1 G D C a5 hC hH T S R ae;generalize (V.setCell (O wb 2) (J (max Y.ez s.X.ez+1))).drew=U at *;obtain⟨sf,s0,s1,s2,s3,s4,s5⟩:=EH x1;obtain⟨rf,r0,r1,r2,r3⟩:=Ec x2;obtain⟨-,w0,w1,w2⟩:=Kk x3;obtain⟨hY,g⟩:=PP x1 (qS ad Y.cz.length k1) (qS d Y.heap.length k2) (max Y.ez s.X.ez+1);have a2:=g.held x2 (by omega)
  obtain⟨hF,f⟩:=Fz a2 (J 0) (J 0) (J 0) (J 0);have HF:=hid (xwl (s':=⟨⟨Y.cz,Y.heap,max Y.ez s.X.ez+1⟩,s.cells,s.ts,s.saved⟩) (r:=Ct 0 0) hP a7 g f (Bq _) aa hY ⟨a8.mono Bw λb h=>Or.inr h,ab.mono BB λb h=>Or.inr h,a6.l.mono Dc λb h=>Or.inl h,a6.t.mono xbD λb h=>Or.inl h⟩ (a9.keep (Keeps.refl _ _) λb h=>Or.inl h) rfl);clear hY g a2 hF f a8 ab a6 a9 a7 x1 x2 x3 hP;go_wp2;refine Bt (v:=Ej (Ct 0 0)) ?_ rfl HF.out;simp[results,Tryz.results59,go_sem,Ct,BC,r0,r1,r2,r3]
theorem xxx {P:Nat->Prop}{w w':qW}{sb:Nat}{cv hv lv tv sv:Value}{s:Sn}{r:ReE}{e:Ending}(a:w.heap[sb]?=some (DR cv hv s.X.ez lv tv sv))(g:SesAt P w cv hv lv tv s)(c:SvAt P w sv s.saved)(f:e=.returned (Ej r))(d:qY w w'):KK P w sb s r e w':=
 ⟨f,⟨cv,hv,lv,tv,sv,Bs a d,g.keep (Keeps.of_below d) λ_ h=>.inl h,c.keep (Keeps.of_below d) λ_ h=>.inl h⟩,d.os,d.tape,d.output,d.size,λb h _=>d.block b h⟩
theorem xxt {P:Nat->Prop}{w W Z F:qW}{sb rb:Nat}{s:Sn}{r:ReE}{e:Ending}(g:qY w W)(p:KK P W sb s r e Z)(f:Chg rb Z F)(u:w.heap.size<=rb)(d:rb<W.heap.size)(q:sb<w.heap.size)(a:∀b,P b->b<w.heap.size):KK P w sb s r e F:=by
 obtain⟨n,⟨cv,hv,lv,tv,sv,l,m,c⟩,i⟩:=p;have t:=g.size
 have j:Keeps (λb=>P b\/W.heap.size<=b) Z F:=f.keeps λh=>by
  rcases h with h | h
  ·have:=a _ h;omega
  omega
 have k:∀b,P b\/W.heap.size<=b->P b\/w.heap.size<=b:=λb h=>h.imp id λh=>by omega
 refine⟨n,⟨cv,hv,lv,tv,sv,f.held l (by omega),m.keep j k,c.keep j k⟩,f.os.trans (i.os.trans g.os),f.tape.trans (i.tape.trans g.tape),f.output.trans (i.output.trans g.output),?_,λb l o=>?_⟩
 ·have:=f.size;have:=i.size;omega
 rw[f.blk b (by omega),i.blk b (by omega) o,g.block b l]
theorem xwM {P Q:Nat->Prop}{i:Nat}(s:Sn)(H:SInv i s)(hi:i<1000)(hf:Hg s 400)(x:StE)(hN:NamesOk x)(cv hv lv tv sv mv av:Value)(w:qW)(sb:Nat)(l:w.heap[sb]?=some (DR cv hv s.X.ez lv tv sv))(G:SesAt P w cv hv lv tv s)(m:SvAt P w sv s.saved)(D:∀b,P b->b≠sb)(o:∀b,P b->b<w.heap.size)(V:VarsB w.heap.size w)(U:Cm Q w mv x.meth.code)(L:CG Q w av x.args):Calls Tryz.prog 37 #[qP sb,StV x mv av] w λe w'=>KK P w sb (Cg s x).1 (Cg s x).2 e w':=by
 obtain⟨f,j,g,name,a,sf,c,d⟩:=x;obtain⟨n0,n1,n2⟩:=hN;simp only at n0 n1 n2 U L;have A1:Hid (∃R,Cg s ⟨1,j,g,name,a,sf,c,d⟩=R/\∀w':qW,qY w w'->Calls Tryz.prog 52 #[qP sb,StV ⟨1,j,g,name,a,sf,c,d⟩ mv av] w' λe w''=>ArPost P w' sb sv R.1 R.2 e w''):=⟨LD s ⟨1,j,g,name,a,sf,c,d⟩,by unfold Cg LD;rw[if_pos rfl],λw' u=>xiK s (PY H.right) ⟨1,j,g,name,a,sf,c,d⟩ cv hv lv tv sv mv av w' sb (Bs l u) (G.keep (Keeps.of_below u) λ_ h=>h) D (U.later BR u) (L.later BZ u) n0⟩
 have A2:Hid (∃R,Cg s ⟨2,j,g,name,a,sf,c,d⟩=R/\∀w':qW,qY w w'->Calls Tryz.prog 53 #[qP sb,J j,MV a mv] w' λe w''=>ArPost P w' sb sv R.1 R.2 e w''):=⟨Kn s j a,xqE s ⟨2,j,g,name,a,sf,c,d⟩ rfl,λw' u=>xkX s j a cv hv lv tv sv mv w' sb (Bs l u) (G.keep (Keeps.of_below u) λ_ h=>h) D (U.later BR u) n1⟩
 have A3:Hid (∃R,Cg s ⟨3,j,g,name,a,sf,c,d⟩=R/\∀w':qW,qY w w'->Calls Tryz.prog 54 #[qP sb,J j] w' λe w''=>ArPost P w' sb sv R.1 R.2 e w''):=⟨KS s j,by unfold Cg KS;rw[if_neg (by simp),if_neg (by simp),if_pos rfl],λw' u=>xhy s H.right j cv hv lv tv sv w' sb (Bs l u) (G.keep (Keeps.of_below u) λ_ h=>h) D⟩
 have A4:Hid (∃R,Cg s ⟨4,j,g,name,a,sf,c,d⟩=R/\∀w':qW,qY w w'->Calls Tryz.prog 55 #[qP sb,EL sf c av] w' λe w''=>ArPost P w' sb sv R.1 R.2 e w''):=⟨(⟨⟨s.X.cz,(Dz s.X sf c d 400).heap,s.X.ez⟩,s.cells,s.ts,s.saved⟩,Es (Dz s.X sf c d 400)),by unfold Cg;rw[if_neg (by simp),if_neg (by simp),if_neg (by simp),if_pos (by simp)],λw' u=>xke s H.right sf c d cv hv lv tv sv av w' sb (Bs l u) (G.keep (Keeps.of_below u) λ_ h=>h) D (L.later BZ u) n2⟩
 have A5:Hid (∃R,Cg s ⟨5,j,g,name,a,sf,c,d⟩=R/\∀w':qW,qY w w'->Calls Tryz.prog 56 #[qP sb,EL sf c av] w' λe w''=>ArPost P w' sb sv R.1 R.2 e w''):=⟨(⟨⟨s.X.cz,(DQ (Ds s.X 400) s.X ⟨s.cells,s.ts,0,0⟩ sf c d 400).1.heap,s.X.ez⟩,(DQ (Ds s.X 400) s.X ⟨s.cells,s.ts,0,0⟩ sf c d 400).2.cells,(DQ (Ds s.X 400) s.X ⟨s.cells,s.ts,0,0⟩ sf c d 400).2.ts,s.saved⟩,Es (DQ (Ds s.X 400) s.X ⟨s.cells,s.ts,0,0⟩ sf c d 400).1),by unfold Cg;rw[if_neg (by simp),if_neg (by simp),if_neg (by simp),if_neg (by simp),if_pos rfl],λw' u=>xip s H.right sf c d cv hv lv tv sv av w' sb (Bs l u) (G.keep (Keeps.of_below u) λ_ h=>h) D (L.later BZ u) n2 hf⟩
 have A6:Hid (∃R,Cg s ⟨6,j,g,name,a,sf,c,d⟩=R/\∀w':qW,qY w w'->Calls Tryz.prog 57 #[qP sb,EL sf c av] w' λe w''=>ArPost P w' sb sv R.1 R.2 e w''):=⟨(⟨⟨s.X.cz,(Dz s.X sf c d 400).heap,s.X.ez⟩,s.cells,s.ts,s.saved⟩,Es (Dz s.X sf c d 400)),by unfold Cg;rw[if_neg (by simp),if_neg (by simp),if_neg (by simp),if_pos (by simp)],λw' u=>xkL s H.right sf c d cv hv lv tv sv av w' sb (Bs l u) (G.keep (Keeps.of_below u) λ_ h=>h) D (L.later BZ u) n2⟩
 have A7:Hid (∃R,Cg s ⟨7,j,g,name,a,sf,c,d⟩=R/\∀w':qW,qY w w'->Calls Tryz.prog 58 #[qP sb] w' λe w''=>KK P w' sb R.1 R.2 e w''):=⟨(⟨s.X,s.cells,s.ts,Ef s.X⟩,Ct 0 (Ef s.X).length),by unfold Cg;simp,λw' u=>xwW s H.right cv hv lv tv sv w' sb (Bs l u) (G.keep (Keeps.of_below u) λ_ h=>h) (λb h=>⟨D b h,by have:=o b h;have:=u.size;omega⟩) (V w' u)⟩
 have A8:Hid (∃R,Cg s ⟨8,j,g,name,a,sf,c,d⟩=R/\∀w':qW,qY w w'->Calls Tryz.prog 59 #[qP sb] w' λe w''=>KK P w' sb R.1 R.2 e w''):=⟨LZ s,by unfold Cg LZ;simp,λw' u=>xwY s H hi cv hv lv tv sv w' sb (Bs l u) (G.keep (Keeps.of_below u) λ_ h=>h) (m.keep (Keeps.of_below u) λ_ h=>h) (λb h=>⟨D b h,by have:=o b h;have:=u.size;omega⟩) (V w' u)⟩
 have A0:Hid (¬ (1<=f/\f<=8)->∃R,Cg s ⟨f,j,g,name,a,sf,c,d⟩=R/\∀w':qW,qY w w'->Calls Tryz.prog 60 #[J 1] w' λe w''=>KK P w' sb R.1 R.2 e w''):=λhk=>⟨(s,Ct 1 0),by unfold Cg;rw[if_neg (by simp only;omega),if_neg (by simp only;omega),if_neg (by simp only;omega),if_neg (by simp only;omega),if_neg (by simp only;omega),if_neg (by simp only;omega),if_neg (by simp only;omega)],λw' u=>(NW 1 w').mono λe w'' ⟨h1,h2⟩=>xxx (Bs l u) (G.keep (Keeps.of_below u) λ_ h=>h) (m.keep (Keeps.of_below u) λ_ h=>h) h1 h2⟩
 have C:Hid (∀R,f≠7->Cg s ⟨f,j,g,name,a,sf,c,d⟩=R->∀w':qW,qY w w'->SvAt P w' sv R.1.saved):=λR h7 y w' u=>by
  rw[← y,xlE s h7];exact m.keep (Keeps.of_below u) λ_ h=>h
 obtain⟨am,cm,rfl,-⟩:=id U;obtain⟨aa,ca,rfl,-⟩:=id L;have Y:=By l;clear l G m U L hf H n0 n1 n2 V;have K:=BG w (qC #[J f,qZ name,J j,J g,qZ a.name,J a.args,J a.temps,J a.prim,qS am a.code.length cm,J sf.k,J sf.n,qZ c,qS aa d.length ca] 56) (qR);have F:((w.alloc (qC #[J f,qZ name,J j,J g,qZ a.name,J a.args,J a.temps,J a.prim,qS am a.code.length cm,J sf.k,J sf.n,qZ c,qS aa d.length ca] 56)).alloc (qR)).heap[w.heap.size+1]?=some (qR):=Dh _ _ _ (by simp);have M:((w.alloc (qC #[J f,qZ name,J j,J g,qZ a.name,J a.args,J a.temps,J a.prim,qS am a.code.length cm,J sf.k,J sf.n,qZ c,qS aa d.length ca] 56)).alloc (qR)).heap[w.heap.size]?=some (qC #[J f,qZ name,J j,J g,qZ a.name,J a.args,J a.temps,J a.prim,qS am a.code.length cm,J sf.k,J sf.n,qZ c,qS aa d.length ca] 56 (0,0)):=Bs (BH w _) (Bg _ _);have a0:w.heap.size+2<=((w.alloc (qC #[J f,qZ name,J j,J g,qZ a.name,J a.args,J a.temps,J a.prim,qS am a.code.length cm,J sf.k,J sf.n,qZ c,qS aa d.length ca] 56)).alloc (qR)).heap.size:=by simp
 obtain⟨W,S⟩:∃W,(w.alloc (qC #[J f,qZ name,J j,J g,qZ a.name,J a.args,J a.temps,J a.prim,qS am a.code.length cm,J sf.k,J sf.n,qZ c,qS aa d.length ca] 56)).alloc (qR)=W:=⟨_,rfl⟩;rw[S] at K F M a0;replace S:=hid S;have N:f=1\/f=2\/f=3\/f=4\/f=5\/f=6\/f=7\/f=8\/¬ (1<=f/\f<=8):=by omega
 rcases N with rfl | rfl | rfl | rfl | rfl | rfl | rfl | rfl | hk
 all_goals
  first
   | (obtain⟨R,y,z⟩:=A1.out;replace z:=λw' u=>(z w' u).mono λe w'' B=>ArPost.st B (C.out R (by decide) y w' u) D;rw[y])
   | (obtain⟨R,y,z⟩:=A2.out;replace z:=λw' u=>(z w' u).mono λe w'' B=>ArPost.st B (C.out R (by decide) y w' u) D;rw[y])
   | (obtain⟨R,y,z⟩:=A3.out;replace z:=λw' u=>(z w' u).mono λe w'' B=>ArPost.st B (C.out R (by decide) y w' u) D;rw[y])
   | (obtain⟨R,y,z⟩:=A4.out;replace z:=λw' u=>(z w' u).mono λe w'' B=>ArPost.st B (C.out R (by decide) y w' u) D;rw[y])
   | (obtain⟨R,y,z⟩:=A5.out;replace z:=λw' u=>(z w' u).mono λe w'' B=>ArPost.st B (C.out R (by decide) y w' u) D;rw[y])
   | (obtain⟨R,y,z⟩:=A6.out;replace z:=λw' u=>(z w' u).mono λe w'' B=>ArPost.st B (C.out R (by decide) y w' u) D;rw[y])
   | (obtain⟨R,y,z⟩:=A7.out;rw[y])
   | (obtain⟨R,y,z⟩:=A8.out;rw[y])
   | (
     obtain⟨R,y,z⟩:=A0.out hk;rw[y];have k1:¬ f=1:=by omega
     have k2:¬ f=2:=by omega
     have k3:¬ f=3:=by omega
     have k4:¬ f=4:=by omega
     have k5:¬ f=5:=by omega
     have k6:¬ f=6:=by omega
     have k7:¬ f=7:=by omega
     have k8:¬ f=8:=by omega)
  clear A1 A2 A3 A4 A5 A6 A7 A8 A0 y C;obtain⟨p0,p1,p2,p3,p4,p5,p6,p7,p8,p9,t,q,r⟩:=QN M;go_enter Tryz.func37,Tryz.ntmps37;go_upto_region 1 with (fail);rw[S.out];go_wp2_with fail;refine (z W K).mono ?_;rintro e Z B;obtain rfl:=B.1;have T:Z.heap[w.heap.size+1]?=some (qR):=(B.2.2.blk _ (by omega) (by rw[Eb (by omega)];omega)).trans F;obtain⟨rf,r0,r1,r2,r3⟩:=Ec T;obtain⟨hF,p⟩:=Fz T (J R.2.err) (J R.2.n) (J R.2.v.k) (J R.2.v.n);have HF:=hid (xxt K B p (Nat.le_succ _) (by omega) Y o);clear B F M p0 p1 p2 p3 p4 p5 p6 p7 p8 p9 t q r z S;go_wp2;refine Bt (v:=Ej R.2) ?_ rfl HF.out;simp[results,Tryz.results37,go_sem,r0,r1,r2,r3]
theorem xvF {P:Nat->Prop}(s:Sn){n:Nat}(hf:Hg s n)(cv hv lv tv sv:Value)(w:qW)(K:SesAt P w cv hv lv tv s)(m:SvAt P w sv s.saved):Calls Tryz.prog 14 #[Hf cv hv s.X.ez lv tv sv] w λe w'=>∃cv' hv' lv' tv' sv':Value,e=.returned (Hf cv' hv' s.X.ez lv' tv' sv')/\SesAt (λb=>w.heap.size<=b/\b<w'.heap.size) w' cv' hv' lv' tv' s/\SvAt (λb=>w.heap.size<=b/\b<w'.heap.size) w' sv' s.saved/\qY w w':=by
 have V:=λ(w':qW) (u:qY w w')=>xsB s.X cv hv w' (K.c.later Bw u) (K.h.later BB u);have a0:=λ(w':qW) (u:qY w w')=>xsL hf lv w' (K.l.later Dc u);have Y:=λ(w':qW) (u:qY w w')=>xsC hf tv w' (K.t.later xbD u);have Z:=λ(w':qW) (u:qY w w')=>m.keep (Keeps.of_below u) λ_ h=>h;obtain⟨ac,cc,rfl,-⟩:=id K.c;obtain⟨ah,ch,rfl,-⟩:=id K.h;obtain⟨al,kl,rfl,-⟩:=id K.l;obtain⟨at',kt,rfl,-⟩:=id K.t;clear K;have D:=BG w (qF s ac cc ah ch al kl at' kt (sv)) (qM);have R:((w.alloc (qF s ac cc ah ch al kl at' kt (sv))).alloc (qM)).heap[w.heap.size]?=some (qF s ac cc ah ch al kl at' kt (sv))/\((w.alloc (qF s ac cc ah ch al kl at' kt (sv))).alloc (qM)).heap[w.heap.size+1]?=some (qM):=⟨Bs (BH w _) (Bg _ _),Dh _ _ _ (by simp)⟩
 go_enter Tryz.func14,Tryz.ntmps14;go_upto_region 1 with (fail);have a2:w.heap.size+2<=((w.alloc (qF s ac cc ah ch al kl at' kt (sv))).alloc (qM)).heap.size:=by simp
 generalize ((w.alloc (qF s ac cc ah ch al kl at' kt (sv))).alloc (qM))=W at *;have hR:Two w.heap.size (w.heap.size+1) (qF s ac cc ah ch al kl at' kt (sv)) (qM) W:=R;clear R;have z:∀W':qW,qY W W'->FZ w.heap.size (qS ac s.X.cz.length cc) (qS ah s.X.heap.length ch) s.X.ez (qS al s.cells.length kl) (qS at' s.ts.length kt) sv W':=λW' u=>Fc (hR.later u).1;refine Fm (S:=λw'=>FZ w.heap.size (qS ac s.X.cz.length cc) (qS ah s.X.heap.length ch) s.X.ez (qS al s.cells.length kl) (qS at' s.ts.length kt) sv w') [] (by kernel_rfl) ?_;have u:qY W W.drew:=(Br _ W).drew;generalize W.drew=U at *
 repeat' first
  | (
    refine tk 0 (⟨some 3,.fieldAddr 31 (.tmp 1) 0,0,_,_,none⟩) (qP w.heap.size) rfl (z _ u) (λ_ _ _ h=>h) rfl ?_ ?_ ?_
    ·decide +kernel
    ·rintro w⟨_,_,_,_,_,_⟩;go_simp
    try simp only[Act.put,Bj,Bl,Bk])
  | (
    refine tk 1 (⟨some 4,.load 26 (.tmp 3),26,_,_,none⟩) (qV ac cc ah ch s.X) rfl (z _ u) (λ_ _ _ h=>h) rfl ?_ ?_ ?_
    ·decide +kernel
    ·rintro w⟨_,_,_,_,_,_⟩;go_simp
    try simp only[Act.put,Bj,Bl,Bk])
  | (
    refine tk 3 (⟨some 6,.fieldAddr 31 (.tmp 1) 1,0,_,_,none⟩) (.pointer (some (O w.heap.size 3))) rfl (z _ u) (λ_ _ _ h=>h) rfl ?_ ?_ ?_
    ·decide +kernel
    ·rintro w⟨_,_,_,_,_,_⟩;go_simp
    try simp only[Act.put,Bj,Bl,Bk])
  | (
    refine tk 4 (⟨some 7,.load 27 (.tmp 6),27,_,_,none⟩) (qS al s.cells.length kl) rfl (z _ u) (λ_ _ _ h=>h) rfl ?_ ?_ ?_
    ·decide +kernel
    ·rintro w⟨_,_,_,_,_,_⟩;go_simp
    try simp only[Act.put,Bj,Bl,Bk])
  | (
    refine tk 6 (⟨some 9,.fieldAddr 31 (.tmp 1) 2,0,_,_,none⟩) (.pointer (some (O w.heap.size 4))) rfl (z _ u) (λ_ _ _ h=>h) rfl ?_ ?_ ?_
    ·decide +kernel
    ·rintro w⟨_,_,_,_,_,_⟩;go_simp
    try simp only[Act.put,Bj,Bl,Bk])
  | (
    refine tk 7 (⟨some 10,.load 28 (.tmp 9),28,_,_,none⟩) (qS at' s.ts.length kt) rfl (z _ u) (λ_ _ _ h=>h) rfl ?_ ?_ ?_
    ·decide +kernel
    ·rintro w⟨_,_,_,_,_,_⟩;go_simp
    try simp only[Act.put,Bj,Bl,Bk])
  | (
    refine tk 9 (⟨some 12,.fieldAddr 31 (.tmp 1) 3,0,_,_,none⟩) (.pointer (some (O w.heap.size 5))) rfl (z _ u) (λ_ _ _ h=>h) rfl ?_ ?_ ?_
    ·decide +kernel
    ·rintro w⟨_,_,_,_,_,_⟩;go_simp
    try simp only[Act.put,Bj,Bl,Bk])
  | (
    refine tk 10 (⟨some 13,.load 29 (.tmp 12),29,_,_,none⟩) (sv) rfl (z _ u) (λ_ _ _ h=>h) rfl ?_ ?_ ?_
    ·decide +kernel
    ·rintro w⟨_,_,_,_,_,_⟩;go_simp
    try simp only[Act.put,Bj,Bl,Bk])
  | (
    refine tk 12 (⟨some 15,.build 31 #[(0,.tmp 5),(1,.tmp 8),(2,.tmp 11),(3,.tmp 14)],31,_,_,none⟩) (Hf (qG g s.X.cz.length s.X.cz.length) (qG gh s.X.heap.length s.X.heap.length) s.X.ez (qG gl s.cells.length s.cells.length) (qG gt s.ts.length s.ts.length) (qS sa s.saved.length sc)) rfl (z _ u) (λ_ _ _ h=>h) rfl ?_ ?_ ?_
    ·decide +kernel
    ·rintro w⟨_,_,_,_,_,_⟩;go_simp
    try simp only[Act.put,Bj,Bl,Bk])
  | (
    refine CN [2] rfl ?_ ⟨?_,trivial⟩
    ·decide +kernel)
  | (
    refine CN [5] rfl ?_ ⟨?_,trivial⟩
    ·decide +kernel)
  | (
    refine CN [8] rfl ?_ ⟨?_,trivial⟩
    ·decide +kernel)
  | (
    refine CN [11] rfl ?_ ⟨?_,trivial⟩
    ·decide +kernel)
  | (
    refine CN [13] rfl ?_ ⟨?_,trivial⟩
    ·decide +kernel)
  | (
    refine Ck (o:=⟨some 5,.call ⟨.value (.func 32),#[.tmp 4],#[26]⟩,26,_,_,none⟩) rfl (λK' C=>?_);have B:=u.size;have y:=V U (Bh D u);refine EX rfl 32 (.func 32) #[.tmp 4] _ rfl #[] rfl #[qV ac cc ah ch s.X] (by simp[Act.eval,Act.put]) (FN Tryz.func32 (by kernel_rfl) (by kernel_rfl) _ _) ?_;refine (show Calls Tryz.prog 32 #[qV ac cc ah ch s.X] U _ from y.mono ?_);rintro e U ⟨i,g,gh,rfl,H,G⟩;refine⟨_,rfl,?_⟩;replace u:=Bh u i;refine C _ _ (λ_=>?_) ?_
    ·exact z _ u
    clear C K' y
    try simp only[Act.put,Bj,Bl,Bk]
    replace H:=H.mono Bw λb (h:_/\_)=>(⟨BX B h.1,h.2⟩:W.heap.size<=b/\b<U.heap.size)
    replace G:=G.mono BB λb (h:_/\_)=>(⟨BX B h.1,h.2⟩:W.heap.size<=b/\b<U.heap.size)
    clear i B)
  | (
    refine Ck (o:=⟨some 8,.call ⟨.value (.func 33),#[.tmp 7],#[27]⟩,27,_,_,none⟩) rfl (λK' C=>?_);have B:=u.size;have y:=a0 U (Bh D u);refine EX rfl 33 (.func 33) #[.tmp 7] _ rfl #[] rfl #[qS al s.cells.length kl] (by simp[Act.eval,Act.put]) (FN Tryz.func33 (by kernel_rfl) (by kernel_rfl) _ _) ?_;refine (show Calls Tryz.prog 33 #[qS al s.cells.length kl] U _ from y.mono ?_);rintro e U ⟨i,gl,rfl,M⟩;refine⟨_,rfl,?_⟩;replace u:=Bh u i;refine C _ _ (λ_=>?_) ?_
    ·exact z _ u
    clear C K' y
    try simp only[Act.put,Bj,Bl,Bk]
    replace M:=M.mono Dc λb (h:_/\_)=>(⟨BX B h.1,h.2⟩:W.heap.size<=b/\b<U.heap.size)
    replace H:=(H.later Bw i).mono Bw λb (h:_/\_)=>(⟨h.1,Cd h.2 i.size⟩:W.heap.size<=b/\b<U.heap.size)
    replace G:=(G.later BB i).mono BB λb (h:_/\_)=>(⟨h.1,Cd h.2 i.size⟩:W.heap.size<=b/\b<U.heap.size)
    clear i B)
  | (
    refine Ck (o:=⟨some 11,.call ⟨.value (.func 34),#[.tmp 10],#[28]⟩,28,_,_,none⟩) rfl (λK' C=>?_);have B:=u.size;have y:=Y U (Bh D u);refine EX rfl 34 (.func 34) #[.tmp 10] _ rfl #[] rfl #[qS at' s.ts.length kt] (by simp[Act.eval,Act.put]) (FN Tryz.func34 (by kernel_rfl) (by kernel_rfl) _ _) ?_;refine (show Calls Tryz.prog 34 #[qS at' s.ts.length kt] U _ from y.mono ?_);rintro e U ⟨i,gt,rfl,Q⟩;refine⟨_,rfl,?_⟩;replace u:=Bh u i;refine C _ _ (λ_=>?_) ?_
    ·exact z _ u
    clear C K' y
    try simp only[Act.put,Bj,Bl,Bk]
    replace Q:=Q.mono xbD λb (h:_/\_)=>(⟨BX B h.1,h.2⟩:W.heap.size<=b/\b<U.heap.size)
    replace H:=(H.later Bw i).mono Bw λb (h:_/\_)=>(⟨h.1,Cd h.2 i.size⟩:W.heap.size<=b/\b<U.heap.size)
    replace G:=(G.later BB i).mono BB λb (h:_/\_)=>(⟨h.1,Cd h.2 i.size⟩:W.heap.size<=b/\b<U.heap.size)
    replace M:=(M.later Dc i).mono Dc λb (h:_/\_)=>(⟨h.1,Cd h.2 i.size⟩:W.heap.size<=b/\b<U.heap.size)
    clear i B)
  | (
    refine Ck (o:=⟨some 14,.call ⟨.builtin .append,#[.const (qN),.tmp 13],#[29,29]⟩,29,_,_,none⟩) rfl (λK' C=>?_);have B:=u.size;obtain⟨p,U,k,T,i⟩:=xve (Z U (Bh D u));refine xcI rfl (.const (qN)) (.tmp 13) 29 rfl (qN) sv _ (by simp[Act.eval]) (by simp[Act.eval,Act.put]) k ?_;replace u:=Bh u i;refine C _ _ (λ_=>?_) ?_
    ·exact z _ u
    clear C K' k
    try simp only[Act.put,Bj,Bl,Bk]
    replace T:=T.keep (Keeps.refl _ _) λb (h:_/\_)=>(⟨BX B h.1,h.2⟩:W.heap.size<=b/\b<U.heap.size)
    replace H:=(H.later Bw i).mono Bw λb (h:_/\_)=>(⟨h.1,Cd h.2 i.size⟩:W.heap.size<=b/\b<U.heap.size)
    replace G:=(G.later BB i).mono BB λb (h:_/\_)=>(⟨h.1,Cd h.2 i.size⟩:W.heap.size<=b/\b<U.heap.size)
    replace M:=(M.later Dc i).mono Dc λb (h:_/\_)=>(⟨h.1,Cd h.2 i.size⟩:W.heap.size<=b/\b<U.heap.size)
    replace Q:=(Q.later xbD i).mono xbD λb (h:_/\_)=>(⟨h.1,Cd h.2 i.size⟩:W.heap.size<=b/\b<U.heap.size)
    obtain⟨sa,sc,rfl⟩:=T.get;clear i B)
  | (
    refine Ck (o:=⟨none,.store 31 (.tmp 2) (.tmp 15),0,_,_,none⟩) rfl (λK' C=>?_);have N:=(hR.later u).2;have q:=EH N;have rf:=q.1;have r0:=q.2.1;have r1:=q.2.2.1;have r2:=q.2.2.2.1;have r3:=q.2.2.2.2.1;have r4:=q.2.2.2.2.2.1;have r5:=q.2.2.2.2.2.2;obtain⟨r,j⟩:=Mm N (qG g s.X.cz.length s.X.cz.length) (qG gh s.X.heap.length s.X.heap.length) (J s.X.ez) (qG gl s.cells.length s.cells.length) (qG gt s.ts.length s.ts.length) (qS sa s.saved.length sc);go_simp;refine C _ _ (λ_=>?_) ?_
    ·exact Fc (j.held (hR.later u).1 (by omega))
    clear C K' q
    try simp only[Act.put,Bj,Bl,Bk])
  | (
    refine EZ ?_ ?_ _
    ·decide +kernel
    try simp only[Act.put,Bj,Bl,Bk]
    obtain⟨F,hF⟩:∃F,((((((U.setCell (O (w.heap.size+1) 0) (qG g s.X.cz.length s.X.cz.length)).setCell (O (w.heap.size+1) 1) (qG gh s.X.heap.length s.X.heap.length)).setCell (O (w.heap.size+1) 2) (J s.X.ez)).setCell (O (w.heap.size+1) 3) (qG gl s.cells.length s.cells.length)).setCell (O (w.heap.size+1) 4) (qG gt s.ts.length s.ts.length)).setCell (O (w.heap.size+1) 5) (qS sa s.saved.length sc))=F:=⟨_,rfl⟩;rw[hF] at j;have a1:=j.size;have L:=hid (show ∃cv' hv' lv' tv' sv':Value,Hf (qG g s.X.cz.length s.X.cz.length) (qG gh s.X.heap.length s.X.heap.length) s.X.ez (qG gl s.cells.length s.cells.length) (qG gt s.ts.length s.ts.length) (qS sa s.saved.length sc)=Hf cv' hv' s.X.ez lv' tv' sv'/\SesAt (λb=>w.heap.size<=b/\b<F.heap.size) F cv' hv' lv' tv' s/\SvAt (λb=>w.heap.size<=b/\b<F.heap.size) F sv' s.saved/\qY w F from ⟨_,_,_,_,_,rfl,⟨H.keep Bw (j.keeps (by omega)) λb h=>⟨by omega,by omega⟩,G.keep BB (j.keeps (by omega)) λb h=>⟨by omega,by omega⟩,M.keep Dc (j.keeps (by omega)) λb h=>⟨by omega,by omega⟩,Q.keep xbD (j.keeps (by omega)) λb h=>⟨by omega,by omega⟩⟩,T.keep (j.keeps (by omega)) λb h=>⟨by omega,by omega⟩,(Bh D u).trans (j.below (by omega))⟩)
    rw[← hF] at L;clear hF;go_wp2;refine Bt (v:=Hf (qG g s.X.cz.length s.X.cz.length) (qG gh s.X.heap.length s.X.heap.length) s.X.ez (qG gl s.cells.length s.cells.length) (qG gt s.ts.length s.ts.length) (qS sa s.saved.length sc)) ?_ rfl ?_
    ·simp[results,Tryz.results14,go_sem,r0,r1,r2,r3,r4,r5]
    ·obtain⟨a,b,c,d,f,h1,h2⟩:=L.out;exact⟨a,b,c,d,f,by rw[h1],h2⟩)
  | fail
end Go.Proofs.YtbafokihegegiaaGreatDoor
