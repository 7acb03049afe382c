/- A part. -/
import Derived.Test.YtbafokihegegiaaGreatDoorU2
namespace Go.Proofs.YtbafokihegegiaaGreatDoor
open Go.ChangeShapes Go.WideShapes Go.ChangeAt Go.RowKit
set_option linter.unusedSimpArgs false
set_option linter.unusedVariables false
set_option maxHeartbeats 8000000
set_option maxRecDepth 8000
theorem hid {p:Prop}(h:p):Hid p:=h
theorem xhu {P:Program}{ops:Array Oper}{o:Oper}{a:Act}{w w':qW}{K:Act->World->Prop}{Q:Exit->Act->World->Prop}{E:Prop}(g:o.guard=none)(s x:Operand)(T:TypeId)(c:o.op=Op.call { callee:=Callee.builtin Builtin.append,args:=#[s,x],argTypes:=#[T,T] })
  (vs vx v':Value) (d:a.eval s=vs) (f:a.eval x=vx) (b:(Builtin.append_ #[T,T] o.type #[vs,vx]).run P w=.ok v' w') (e:K (a.put o.dst v') w'):if Region.wanted o (yielded ops a.tmps)=true then Oper.wp P o a w K Q else E:=by
 have h:Region.wanted o (yielded ops a.tmps)=true:=by simp[Region.wanted,g]
 rw[if_pos h];unfold Oper.wp;simp[execOp,c,resolve,invoke,builtin,d,f,b,Result.andThen];exact e
theorem BN {w:qW}{b:Nat}{cur:Array Value}{t:TypeId}(h:w.heap[b]?=some (.cells cur t (0,0)))(o:Nat):w.frozen? (O b o)=false:=by unfold World.frozen?;simp[h]
theorem ownsAt.vals {w:qW}{base:Nat}{v:Value}{xs:List QV}(h:ownsAt w base 41 2 v xs.length (Cf xs))(n:xs.length*16<=140737488351232):CG (λb=>v.ownBlock=some b) w v xs:=by
 obtain⟨p,⟨rfl,k⟩ | ⟨g,o,cap,cur,rfl,s,d,e,f,r,l⟩⟩:=h
 ·have:xs=[]:=List.eq_nil_of_length_eq_zero k;subst this;exact⟨none,0,rfl,by simp,by simp,by simp,λi x c=>by simp at c⟩
 refine⟨_,_,rfl,e,f,n,λi x c=>⟨g,o,rfl,rfl,?_⟩⟩;have q:=Bz c
 have a:∀j,j<xs.length*2->w.cell? (O g (o+j))=(Cf xs)[j]?:=λj m=>by
  rw[← l,Bn d,List.getElem?_take,if_pos m,List.getElem?_drop];simp
 obtain⟨e1,e2⟩:=xeg c;exact⟨by show w.cell? (O g (o+i*2+0))=_;rw[Nat.add_zero,a _ (by omega)];exact e1,by show w.cell? (O g (o+i*2+1))=_;rw[Nat.add_assoc,a _ (by omega)];exact e2⟩
theorem ownsAt.take {w:qW}{base n:Nat}{a:Option Addr}{cap:Nat}{xs:List QV}(h:ownsAt w base 41 2 (qS a n cap) n (Cf xs)){k:Nat}(m:k<=n):ownsAt w base 41 2 (qS a k cap) k (Cf (xs.take k)):=by
 have q:xs.length=n:=by have:=h.1;rw[MZ] at this;omega
 obtain⟨j,⟨e,p⟩ | ⟨g,o,cap',cur,e,i,b,l,c,f,d⟩⟩:=h
 ·cases e;obtain rfl:k=0:=by omega
  exact⟨by simp[Cf],Or.inl ⟨rfl,rfl⟩⟩
 cases e;refine⟨by rw[MZ,List.length_take];omega,Or.inr ⟨g,o,cap,cur,rfl,i,b,by omega,c,f,?_⟩⟩;rw[← xez,← d,List.take_take]
 congr 1
 omega
abbrev FB (f:Fr)(cv av tv sv kv:Value):Obj:=qC #[J f.cls,qZ f.meth.name,J f.meth.args,J f.meth.temps,J f.meth.prim,cv,J f.self.k,J f.self.n,av,tv,sv,kv,J f.pc,.bool f.fast] 302 (0,0)
structure FrAt (T:Nat->Nat)(K:Nat)(w:qW)(fb:Nat)(f:Fr)(cv av tv sv kv:Value):Prop where
 box:w.heap[fb]?=some (FB f cv av tv sv kv)
 tag:T fb=K
 args:CG (Fx T w) w av f.args
 temps:∃tb,tv=qG tb f.temps.length f.temps.length/\w.heap[tb]?=some (.cells (Cf f.temps).toArray 41 (0,0))/\T tb=K+1/\f.temps.length<=40
 stack:ownsAt w 0 41 2 sv f.stack.length (Cf f.stack)
 stag:∀g,sv.ownBlock=some g->T g=K+2
 few:f.stack.length<=1000000000
 code:Cm (Fx T w) w kv f.code
 meth:Cm (Fx T w) w cv f.meth.code
 pos:5<=K
section
variable {T T':Nat->Nat} {K:Nat} {w w':World} {fb:Nat} {f:Fr} {cv av tv sv kv:Value}
theorem FrAt.keep {S:Nat->Prop}(h:FrAt T K w fb f cv av tv sv kv)(e:Ext T T' w)(k:Kp S T w w')(b:¬ S 0)(c:¬ S K)(d:¬ S (K+1))(i:¬ S (K+2)):FrAt T' K w' fb f cv av tv sv kv:=by
 obtain⟨tb,e1,e2,e3,e4⟩:=h.temps;refine⟨k.held h.box (by rw[h.tag];exact c),by rw[e _ (By h.box)];exact h.tag,h.args.fx BZ e k b,⟨tb,e1,k.held e2 (by rw[e3];exact d),by rw[e _ (By e2)];exact e3,e4⟩,h.stack.keep λg a=>k.blk g (h.stack.lt g a).2 (by rw[h.stag g a];exact i),λg a=>by rw[e _ (h.stack.lt g a).2];exact h.stag g a,h.few,h.code.fx BR e k b,h.meth.fx BR e k b,h.pos⟩
theorem FrAt.later (h:FrAt T K w fb f cv av tv sv kv)(a:qY w w'):FrAt T K w' fb f cv av tv sv kv:=h.keep (S:=λ_=>False) (.refl _ _) (.of_below a) id id id id
theorem FrAt.turn {f':Fr}{a:Value}(h:FrAt T K w fb f cv av tv sv kv)(k:Kp (λt=>t=K) T w w')(j:w'.heap[fb]?=some (FB f' cv av tv a kv))(e1:f'.args=f.args)(e2:f'.temps=f.temps)(e3:f'.code=f.code)(e4:f'.meth=f.meth)(b:ownsAt w 0 41 2 a f'.stack.length (Cf f'.stack))(d:∀g,a.ownBlock=some g->T g=K+2)(i:f'.stack.length<=1000000000):FrAt T K w' fb f' cv av tv a kv:=by
 obtain⟨tb,d1,d2,d3,d4⟩:=h.temps;have e:=h.pos;refine⟨j,h.tag,by rw[e1];exact h.args.fx BZ (.refl _ _) k (by omega),⟨tb,by rw[e2];exact d1,by rw[e2];exact k.held d2 (by rw[d3];omega),d3,by rw[e2];exact d4⟩,b.keep λg c=>k.blk g (b.lt g c).2 (by rw[d g c];omega),d,i,by rw[e3];exact h.code.fx BR (.refl _ _) k (by omega),by rw[e4];exact h.meth.fx BR (.refl _ _) k (by omega),e⟩
theorem FrAt.cut {a:Option Addr}{cap m:Nat}(h:FrAt T K w fb f cv av tv (qS a f.stack.length cap) kv)(k:Kp (λt=>t=K) T w w')(e:w'.heap[fb]?=some (FB { f with stack:=f.stack.take m } cv av tv (qS a m cap) kv))(c:m<=f.stack.length):FrAt T K w' fb { f with stack:=f.stack.take m } cv av tv (qS a m cap) kv:=by
 have b:(f.stack.take m).length=m:=by rw[List.length_take];omega
 refine h.turn k e rfl rfl rfl rfl ?_ (λg d=>h.stag g (by cases a<;>exact d)) (by show (f.stack.take m).length<=_;rw[b];have:=h.few;omega);show ownsAt w 0 41 2 _ (f.stack.take m).length _;rw[b];exact h.stack.take c
theorem FrAt.vals (h:FrAt T K w fb f cv av tv sv kv):CG (λb=>sv.ownBlock=some b) w sv f.stack:=h.stack.vals (by have:=h.few;omega)
end
theorem xpH {n:Nat}(h:n<=1000000000)(k:Int)(a:0<=k/\k<=9223372036854775807):IntKind.i64.wrap (IntKind.i64.wrap ((n:Int)-1)-k)=(n:Int)-1-k:=by
 rw[CM (n:=(n:Int)-1) (by omega) (by omega),CM (by omega) (by omega)]
theorem xhp {T:Nat->Nat}{K:Nat}{w:qW}{fb:Nat}{f:Fr}{cv av tv sv kv:Value}(h:FrAt T K w fb f cv av tv sv kv)(n:Int)(l:0<=n/\n<=9223372036854775807):Calls Tryz.prog 270 #[qP fb,J n] w λe w'=>e=.returned (VV (CL f.stack n))/\qY w w':=by
 have hv:=h.vals;have j:=By h.box;have c0:w.cell? (O fb 10)=some sv:=by rw[Bn h.box];rfl
 have d:=h.few;have k:Hid (IntKind.i64.wrap (IntKind.i64.wrap ((f.stack.length:Int)-1)-n)=(f.stack.length:Int)-1-n):=xpH d n l;clear h;obtain⟨a,cap,rfl,-⟩:=id hv;have c:qY w (w.alloc (qQ)).drew:=(Bg w _).drew;have g:=hv.later BZ c;have c1:=Bf c c0;have r0:(w.alloc (qQ)).drew.cell? (O w.heap.size 0)=some (J 0):=Bp w #[J 0,J 0] 41 _ rfl 0;have r1:(w.alloc (qQ)).drew.cell? (O w.heap.size 1)=some (J 0):=Bp w #[J 0,J 0] 41 _ rfl 1;have rf:∀o,(w.alloc (qQ)).drew.frozen? (O w.heap.size o)=false:=BN (BH w (qQ));have i:w.heap.size<(w.alloc (qQ)).drew.heap.size:=by simp
 clear hv c0;go_enter Tryz.func270,Tryz.ntmps270;go_upto_region 1 with (fail);generalize (w.alloc (qQ))=W at *
 go_region_held3 (λw'=>w'.cell? (O fb 10)=some (qS a f.stack.length cap))
  (first | with_reducible exact c1 | with_reducible exact c2 | exact (BV _ _ _ _ (by simp;omega)).trans ((BV _ _ _ _ (by simp;omega)).trans c2))
  (first | (go_at_call 255;rw[k.out];refine (NB f.stack _ _ _ g).mono ?_;rintro e w1 ⟨rfl,b⟩;have c2:=Bf b c1;have s0:=Bf b r0;have s1:=Bf b r1;have sf:∀o,w1.frozen? (O w.heap.size o)=false:=λo=>(b.frozen (p:=(O w.heap.size o)) i).trans (rf o)))
 go_wp2;refine Bt (v:=VV (CL f.stack n)) ?_ rfl ⟨rfl,((Bh c b).setCell (by simp) _).setCell (by simp) _⟩;simp[results,Tryz.results270,go_sem,s0,s1];exact⟨rfl,rfl⟩
theorem xgv (w:qW):w.drew.heap=w.heap:=rfl
theorem xgk {w:qW}{fb:Nat}{f:Fr}{cv av tv sv kv:Value}(h:w.heap[fb]?=some (FB f cv av tv sv kv))(l:List QV)(a:Value):(w.setCell (O fb 10) a).heap[fb]?=some (FB { f with stack:=l } cv av tv a kv):=by
 rw[BW h];rfl
theorem Ng {T:Nat->Nat}{K:Nat}{w:qW}{fb:Nat}{f:Fr}{cv av tv sv kv:Value}(h:FrAt T K w fb f cv av tv sv kv):Calls Tryz.prog 257 #[qP fb] w λe w'=>e=.returned (VV f.top)/\(∃sv',FrAt T K w' fb f.pop cv av tv sv' kv)/\Kp (λt=>t=K) T w w':=by
 have a0:=By h.box;have l:qY w (w.alloc (qQ)):=Bg w _;have C:=h.later l;have r0:(w.alloc (qQ)).cell? (O w.heap.size 0)=some (J 0):=Bp w #[J 0,J 0] 41 _ rfl 0;have r1:(w.alloc (qQ)).cell? (O w.heap.size 1)=some (J 0):=Bp w #[J 0,J 0] 41 _ rfl 1;have rf:∀o,(w.alloc (qQ)).frozen? (O w.heap.size o)=false:=BN (BH w (qQ));have hz:w.heap.size<(w.alloc (qQ)).heap.size:=by simp
 have q:Hid (FrAt T K w fb f cv av tv sv kv):=h;have N:=h.few;clear h;go_enter Tryz.func257,Tryz.ntmps257;go_upto_region 1 with (fail);generalize (w.alloc (qQ))=W at *;go_wp2_with fail;refine (xhp C 0 ⟨by omega,by omega⟩).mono ?_;rintro e w1 ⟨rfl,b⟩;have r:=C.later b;have z:=Bh l b;have s0:=Bf b r0;have s1:=Bf b r1;have sf:∀o,w1.frozen? (O w.heap.size o)=false:=λo=>(b.frozen (p:=(O w.heap.size o)) hz).trans (rf o);have c0:w1.cell? (O fb 10)=some sv:=by rw[Bn r.box];rfl
 have cf:=BN r.box;have a2:=b.size;have g:¬ fb=w.heap.size:=by omega
 have R:¬ w.heap.size=fb:=by omega
 have s:=r.box;have j:=r.stack;have S:fb<w1.heap.size:=by omega
 have D:w.heap.size<w1.heap.size:=by omega
 obtain⟨a,cap,rfl,d,c⟩:=j.form;unfold maxLen at c;have B:Hid (f.top=CL f.stack 0):=rfl;have Z:Hid (ownsAt w1 0 41 2 (qS a f.stack.length cap) f.stack.length (Cf f.stack)):=j;have M:Hid (FrAt T K w1 fb f cv av tv (qS a f.stack.length cap) kv):=r;have Y:Hid (w1.heap[fb]?=some (FB f cv av tv (qS a f.stack.length cap) kv)):=s;clear C r r0 r1 rf j s l b;obtain⟨v,hv⟩:∃v,v=CL f.stack 0:=⟨_,rfl⟩;rw[← hv] at B ⊢;clear hv;go_wp2;have HK:Hid (Kp (λt=>t=K) T w1 (w1.alloc (qH v))):=Kp.of_below (Bg _ _);have y:Hid (FrAt T K (w1.alloc (qH v)) fb f cv av tv (qS a f.stack.length cap) kv):=M.out.later (Bg _ _);have d0:=Bf (Bg w1 (qH v)) c0;have df:∀o,(w1.alloc (qH v)).frozen? (O fb o)=false:=BN y.out.box;have u0:=Bf (Bg w1 (qH v)) s0;have u1:=Bf (Bg w1 (qH v)) s1;have uf:∀o,(w1.alloc (qH v)).frozen? (O w.heap.size o)=false:=λo=>((Bg w1 _).frozen (p:=(O w.heap.size o)) D).trans (sf o);have b0:(w1.alloc (qH v)).cell? (O w1.heap.size 0)=some (J v.k):=Bp _ _ _ _ rfl 0;have b1:(w1.alloc (qH v)).cell? (O w1.heap.size 1)=some (J v.n):=Bp _ _ _ _ rfl 1;have n1:¬ w1.heap.size=fb:=by omega
 have n2:¬ w1.heap.size=w.heap.size:=by omega
 have n3:¬ w.heap.size=w1.heap.size:=by omega
 have n4:¬ fb=w1.heap.size:=by omega
 have i:Hid (qY w (w1.alloc (qH v))):=Bh z (Bg _ _);clear s0 s1 sf c0 cf M Z Y;generalize (w1.alloc (qH v))=V at *;have G:Hid (f.pop={ f with stack:=f.stack.take (f.stack.length-1) }):=by show _=_;unfold Fr.pop;rw[List.dropLast_eq_take]
 by_cases h0:f.stack.length=0
 ·have Q:IntKind.i64.wrap (((0:Nat):Int)-1)=-1:=by rfl
  have u:Hid (f.stack.length-1=0):=by show _=_;omega
  rw[h0] at d0
  go_region
  go_wp2;refine Bt (v:=VV v) ?_ rfl ⟨by rw[B.out],⟨qS a 0 cap,?_⟩,?_⟩
  ·simp[results,Tryz.results257,go_sem,u0,u1,n2,n3]
  ·rw[G.out,u.out];refine q.out.cut (m:=0) ?_ ?_ (by omega)
   ·exact (((((Kp.of_below i.out).set (λ_=>q.out.tag) _ _).set (λh=>absurd h (Nat.lt_irrefl _)) _ _).set (λh=>absurd h (Nat.lt_irrefl _)) _ _)).drew
   rw[xgv,BS g,BS g];exact xgk y.out.box _ _
  exact (((((Kp.of_below i.out).set (λ_=>q.out.tag) _ _).set (λh=>absurd h (Nat.lt_irrefl _)) _ _).set (λh=>absurd h (Nat.lt_irrefl _)) _ _)).drew
 obtain⟨m,H⟩:∃m,f.stack.length=m+1:=⟨f.stack.length-1,by omega⟩
 have Q:IntKind.i64.wrap ((f.stack.length:Int)-1)=(m:Int):=by rw[H,CM (by omega) (by omega)];omega
 have U:¬ ((m:Int)<0):=by omega
 have a1:m<=cap:=by omega
 have X:(m:Int)<=(cap:Int):=by omega
 have HM:Hid (f.stack.length-1=m):=by show _=_;omega
 have F:Hid (m<=f.stack.length):=by show _<=_;omega
 clear H h0;generalize hL:f.stack.length=L at Q d0
 go_region
 go_wp2;refine Bt (v:=VV v) ?_ rfl ⟨by rw[B.out],⟨qS a m cap,?_⟩,?_⟩
 ·simp[results,Tryz.results257,go_sem,u0,u1,n2,n3]
 ·rw[G.out,HM.out];refine q.out.cut (m:=m) ?_ ?_ F.out
  ·exact (((((Kp.of_below i.out).set (λ_=>q.out.tag) _ _).set (λh=>absurd h (Nat.lt_irrefl _)) _ _).set (λh=>absurd h (Nat.lt_irrefl _)) _ _)).drew
  rw[xgv,BS g,BS g];exact xgk y.out.box _ _
 exact (((((Kp.of_below i.out).set (λ_=>q.out.tag) _ _).set (λh=>absurd h (Nat.lt_irrefl _)) _ _).set (λh=>absurd h (Nat.lt_irrefl _)) _ _)).drew
theorem FrAt.pushed {T:Nat->Nat}{K:Nat}{w U w':qW}{fb:Nat}{f:Fr}{cv av tv sv a kv:Value}{v:QV}(h:FrAt T K w fb f cv av tv sv kv)(d:qY w U)(r:f.stack.length<1000000000)
  (r1:ownsAt w' 0 41 2 a (f.stack.length+1) (Cf f.stack++[J v.k,J v.n])) (r2:a.ownBlock=sv.ownBlock\/∃g,a.ownBlock=some g/\U.heap.size<=g) (r3:Below 0 U w') (r4:∀b,b<U.heap.size->some b≠sv.ownBlock->w'.heap[b]?=U.heap[b]?) (q:w'.heap[fb]?=some (FB f cv av tv sv kv)) :
  (∃T',Ext T T' w/\FrAt T' K (w'.setCell (O fb 10) a) fb (f.push v) cv av tv a kv)/\Kp (λt=>t=K\/t=K+2) T w (w'.setCell (O fb 10) a):=by
 have j:=By h.box;have p:=h.pos
 have kU:Kp (λt=>t=K\/t=K+2) T w w':=⟨r3.os.trans d.os,r3.tape.trans d.tape,r3.output.trans d.output,BX d.size r3.size,λb m o=>by
  rw[r4 b (Cd m d.size) (λe=>o (Or.inr (h.stag b e.symm))),d.block b m]⟩
 have k:=kU.set (b:=fb) (λ_=>Or.inl h.tag) 10 a
 obtain⟨T',c,i⟩:∃T',Ext T T' w/\∀g,a.ownBlock=some g->T' g=K+2:=by
  rcases r2 with e | ⟨g,e,i⟩
  ·exact⟨T,.refl _ _,λg i=>h.stag g (by rw[← e];exact i)⟩
  exact⟨GV T g (K+2),xgj (BX d.size i),λg' h'=>by rw[e] at h';cases h';exact xfg _ _ _⟩
 refine⟨⟨T',c,?_⟩,k⟩;obtain⟨tb,d1,d2,d3,d4⟩:=h.temps;refine⟨xgk q (f.stack++[v]) a,by rw[c _ j];exact h.tag,h.args.fx BZ c k (by omega),⟨tb,d1,k.held d2 (by rw[d3];omega),by rw[c _ (By d2)];exact d3,d4⟩,?_,i,?_,h.code.fx BR c k (by omega),h.meth.fx BR c k (by omega),p⟩
 ·have r1':ownsAt w' 0 41 2 a (f.push v).stack.length (Cf (f.push v).stack):=by
   show ownsAt w' 0 41 2 a (f.stack++[v]).length (Cf (f.stack++[v]));rw[xdu,List.length_append];exact r1
  exact r1'.keep λg l=>BS (λe=>by have:=i g l;rw[e,c _ j,h.tag] at this;omega) _
 show (f.stack++[v]).length<=_;simp;omega
theorem PX {T:Nat->Nat}{K:Nat}{w:qW}{fb:Nat}{f:Fr}{cv av tv sv kv:Value}(h:FrAt T K w fb f cv av tv sv kv)(v:QV)(b:f.stack.length<1000000000):Calls Tryz.prog 272 #[qP fb,VV v] w λe w'=>e=.returned (.tuple #[])/\(∃T' sv',Ext T T' w/\FrAt T' K w' fb (f.push v) cv av tv sv' kv)/\Kp (λt=>t=K\/t=K+2) T w w':=by
 have y:=By h.box;have j:=h.later (Bg w (qH v));have b0:(w.alloc (qH v)).cell? (O w.heap.size 0)=some (J v.k):=Bp _ _ _ _ rfl 0;have b1:(w.alloc (qH v)).cell? (O w.heap.size 1)=some (J v.n):=Bp _ _ _ _ rfl 1;have q:Hid (qY w (w.alloc (qH v))):=Bg _ _;go_enter Tryz.func272,Tryz.ntmps272;go_upto_region 1 with (fail);generalize (w.alloc (qH v))=V at *;have c0:V.cell? (O fb 10)=some sv:=by rw[Bn j.box];rfl
 have cf:=BN j.box;have u:fb<V.heap.size:=By j.box;have z:¬ fb=V.heap.size:=by omega
 have o:ownsAt (V.alloc (qH v)).drew 0 41 2 sv f.stack.length (Cf f.stack):=(j.stack.alloc _).keep λg C=>rfl;obtain⟨v',w',c,r1,r2,r3,r4⟩:=xcQ (w:=(V.alloc (qH v)).drew) 52 52 41 _ 2 16 Tryz.underlying52 xok rfl (by omega) 0 f.stack.length sv (Cf f.stack) o V.heap.size [J v.k,J v.n] rfl (BH V _) (by simp;exact⟨rfl,rfl⟩) (by unfold maxLen;omega) (by omega) (by omega);obtain⟨a,cap,rfl,i,d⟩:=j.stack.form;obtain⟨a',cap',rfl,-⟩:=r1.form;have R1:Hid (ownsAt w' 0 41 2 (qS a' (f.stack.length+1) cap') (f.stack.length+1) (Cf f.stack++[J v.k,J v.n])):=r1;have R2:=hid r2;have R4:=hid r4;have r:Hid (Below 0 _ w'):=r3;have m:some fb≠(qS a f.stack.length cap).ownBlock:=λe=>by have:=j.stag fb e.symm;rw[j.tag] at this;omega
 have l:w'.heap[fb]?=some (FB f cv av tv (qS a f.stack.length cap) kv):=by
  rw[r4 fb (by simp;omega) m];exact Bs j.box (Bg _ _).drew
 have d0:w'.cell? (O fb 10)=some (qS a f.stack.length cap):=by rw[Bn l];rfl
 have df:=BN l;have B:=hid l;have s:=hid h;have p:Hid (qY w (V.alloc (qH v)).drew):=Bh q.out (Bg _ _).drew;clear r1 r2 r3 r4 o j l m h
 go_region_law (refine xhu rfl (.tmp 8) (.tmp 10) 52 rfl (qS a f.stack.length cap) (qG V.heap.size 1 1) (qS a' (f.stack.length+1) cap') (by simp[Act.eval,Act.put]) (by simp[Act.eval,Act.put]) c ?_)
 all_goals (
  go_wp2;obtain⟨⟨T',e1,e2⟩,e3⟩:=s.out.pushed (v:=v) p.out b R1.out R2.out r.out R4.out B.out;exact bodyPost_end (v:=.tuple #[]) (by simp[results,Tryz.results272,go_sem]) rfl ⟨rfl,⟨T',_,e1,e2⟩,e3⟩)
theorem xhj {P:Program}(w:qW)(t ty e:TypeId)(i:TypeInfo)(a:P.underlying t=some (.slice e))(c:P.info? e=some i)(B:Nat)(ad:Option Addr)(cap:Nat) :
  (Builtin.append_ #[t,t] ty #[qG B 0 0,qS ad 0 cap]).run P w=.ok (qG B 0 0) w:=by
 have b:∀(x:Addr),(loadCells x 0).run P w=.ok #[] w:=λx=>by simpa using run_loadCells_list (P:=P) w x [] (by simp)
 cases ad<;>simp[Builtin.append_,run_underlying a,sizeOf,typeInfo,c,Builtin.lenOf,Builtin.firstCells,storeCells,b]
theorem xfA {ops:Array Oper}{rest:List Oper}{o:Oper}{a:Act}{w:qW}{Q:Exit->Act->World->Prop}(y:o.guard=none)(s x:Operand)(T e:TypeId)(z:Value)(sz bytes:Nat)
  (l:o.op=Op.call { callee:=Callee.builtin Builtin.append,args:=#[s,x],argTypes:=#[T,T] }) (L:Tryz.prog.underlying T=some (.slice e)) (V:(Tryz.prog.info? e).map (λi=>(i.zero,i.size,i.bytes))=some (some z,sz,bytes)) (r:z.cells.size=sz) (f:0<sz) (q:0<bytes)
  (B:Nat) (M:a.eval s=qG B 0 0) (R:w.heap[B]?=some (qC #[] e (0,0)))
  (ad:Option Addr) (n cap:Nat) (U:a.eval x=qS ad n cap) (cs:List Value) (c:cs.length=n*sz) (d:∀j u,cs[j]?=some u->∃b,ad=some b/\w.cell? (b.add j)=some u) (Y:n*bytes<=140737488351232)
  (N:∀g cap' w',w'.ownsRow B e sz (qG g n cap') n cs->(g=B\/w.heap.size<=g)->g<w'.heap.size->qY w w'->wpList Tryz.prog ops Q rest (a.put o.dst (qG g n cap')) w') :
  wpList Tryz.prog ops Q (o :: rest) a w:=by
 refine wpList_plain y λK D=>?_;obtain⟨i0,S,v,t,m⟩:=Gb V;have H:=By R;by_cases h0:n=0
 ·subst h0;have F:cs=[]:=List.eq_nil_of_length_eq_zero (by simpa using c);have C:=xhj (P:=Tryz.prog) w T o.type e i0 L S B ad cap;unfold Oper.wp;simp[execOp,l,resolve,invoke,builtin,M,U,C,Result.andThen];refine D _ _ (N B 0 w ?_ (Or.inl rfl) H (Br _ _));rw[F];exact⟨by simp,.inr ⟨B,0,#[],rfl,Bq _,R,Bq _,by unfold maxLen;omega,by simp,by simp⟩⟩
 obtain⟨b,rfl⟩:∃b,ad=some b:=by
  have:0<cs.length:=by rw[c];exact Nat.mul_pos (by omega) f
  obtain⟨b,e,-⟩:=d 0 cs[0] (by simp[this]);exact⟨b,e⟩
 have X:n<=140737488351232:=BX (Nat.le_mul_of_pos_right n q) Y;obtain⟨v',w',C,r1,r2⟩:=run_append_arg_grows (P:=Tryz.prog) w T o.type e i0 _ sz bytes L S v t m r f (O B 0) 0 0 [] (by simp) (λj u G=>by simp at G) b n cap cs c (λj u G=>by obtain⟨b',e,h⟩:=d j u G;cases e;exact h) (by omega) (by unfold maxLen;omega) (by rw[Nat.zero_add];omega);simp only[Nat.zero_add,List.nil_append] at r1;obtain⟨g,cap',rfl,Z,p⟩:=r1.form (by omega);unfold Oper.wp;simp[execOp,l,resolve,invoke,builtin,M,U,C,Result.andThen];refine D _ _ (N g cap' w' ?_ (Or.inr Z) p ((Br _ _).grown r2 (Bq _) (λk W=>by cases W)));obtain⟨q1,q2⟩:=r1;refine⟨q1,?_⟩;rcases q2 with q2 | ⟨g',c',cur,e,h1,h2⟩
 ·exact .inl q2
 exact .inr ⟨g',c',cur,e,by omega,h2⟩
theorem xqv (a:Option Addr)(n c:Nat)(w:qW):(binOp .eql 52 (qS a n c) (qN)).run Tryz.prog w=.ok (.bool (a == none)) w:=by
 have u:=Tryz.underlying52
 cases a<;>go_simp<;>rfl
theorem Nm {P:Nat->Prop}(xs:List QV)(v:Value)(w:qW)(h:CG P w v xs):Calls Tryz.prog 284 #[v] w λe w'=>∃a c,e=.returned (qS a xs.length c)/\CG (λb=>w.heap.size<=b/\b<w'.heap.size) w' (qS a xs.length c) xs/\qY w w':=by
 obtain⟨ad,cap,rfl,Q,p,m,d⟩:=h
 cases ad with
 | none=>
  have s:xs=[]:=by
   cases xs with
   | nil=>rfl
   | cons x r=>obtain⟨b,o,e,-⟩:=d 0 x rfl;cases e
  subst s;have C:=xqv none 0 cap;go_enter Tryz.func284,Tryz.ntmps284;go_wp2;go_ret;exact⟨none,0,rfl,⟨none,0,rfl,by simp,by simp,by simp,λi x s=>by simp at s⟩,Br _ _⟩
 | some ad=>
  obtain⟨cs,f,k⟩:=d.cells BZ;have D:=xff (E:=()) f;have q:=f.1;clear d;have C:=xqv (some ad) xs.length cap;go_enter Tryz.func284,Tryz.ntmps284;go_wp2_with (at_builtin;refine xfA rfl (.tmp 5) (.tmp 6) 52 41 _ 2 16 rfl Tryz.underlying52 xok rfl (by omega) (by omega) w.heap.size rfl (by first | exact BH _ _ | (simp;done)) (some ad) xs.length cap rfl cs q (λj u G=>by obtain⟨b,e,h⟩:=k j u G;exact⟨b,e,Bf (Bg _ _) h⟩) m ?_;intro g cap' w' l H n K);go_ret;have t:qY w w':=EB (Br _ _) K;refine⟨some (O g 0),cap',rfl,?_,t⟩;obtain⟨q1,q2 | ⟨g',c',cur,e,M,F,L,z,N,B⟩⟩:=l
  ·cases q2.1
  cases e;have y:w.heap.size<=g:=by rcases H with h | h<;>simp at*<;> omega
  exact Cells.row (E:=KY) (sz:=2) (cs:=cs) ⟨q,λi x s=>f.2 i x s⟩ BZ ⟨y,n⟩ F B L z m
theorem ownsAt.tail {w:qW}{g o cap:Nat}{xs:List QV}(h:ownsAt w 0 41 2 (qS (some (O g o)) xs.length cap) xs.length (Cf xs)){k:Nat}(l:k<=xs.length)(n:xs.length<=1000000000):CG (λb=>b=g) w (qS (some (O g (o+k*2))) (xs.drop k).length (cap-k)) (xs.drop k):=by
 have hv:=h.vals (by omega);obtain⟨a',c',e,a,m,p,f⟩:=hv
 cases e;have j:(xs.drop k).length=xs.length-k:=by simp
 refine⟨_,_,rfl,by omega,by unfold maxLen at *;omega,by omega,λi x c=>⟨g,o+k*2,rfl,rfl,?_⟩⟩;rw[List.getElem?_drop] at c;obtain⟨b,o',e,-,d,a⟩:=f _ x c
 cases e;exact⟨by show w.cell? ⟨_,_,_⟩=_;rw[show o+k*2+i*2+0=o+(k+i)*2+0 by omega];exact d,by show w.cell? ⟨_,_,_⟩=_;rw[show o+k*2+i*2+1=o+(k+i)*2+1 by omega];exact a⟩
theorem Pf {T:Nat->Nat}{K:Nat}{w w1:qW}{fb:Nat}{f:Fr}{cv av tv kv:Value}{a:Option Addr}{cap k:Nat}(h:FrAt T K w fb f cv av tv (qS a f.stack.length cap) kv)(l:k<=f.stack.length){c:Value}(g:qY w w1)(hv:CG (λb=>w.heap.size<=b/\b<w1.heap.size) w1 c (f.stack.drop k)) :
  ∃T',Ext T T' w/\FrAt T' K (w1.setCell (O fb 10) (qS a k cap)) fb { f with stack:=f.stack.take k } cv av tv (qS a k cap) kv/\CG (Fx T' (w1.setCell (O fb 10) (qS a k cap))) (w1.setCell (O fb 10) (qS a k cap)) c (f.stack.drop k)/\Kp (λt=>t=K) T w (w1.setCell (O fb 10) (qS a k cap)):=by
 have j:=By h.box;have e:=EW T w 0;have kk:Kp (λt=>t=K) T w (w1.setCell (O fb 10) (qS a k cap)):=(Kp.of_below g).set (λ_=>h.tag) _ _;have h':FrAt (Dw T w 0) K w fb f cv av tv (qS a f.stack.length cap) kv:=h.keep (S:=λ_=>False) e (Kp.refl _ _ _) id id id id;refine⟨Dw T w 0,e,h'.cut (m:=k) (kk.tags e) (xgk (Bs h.box g) _ _) l,?_,kk⟩;refine hv.keep BZ (Keeps.of_setCell (λi=>?_) _) λb d=>⟨by rw[GT];exact d.2,Gr d.1⟩
 have:=i.1;simp only at this;omega
theorem xkl {T:Nat->Nat}{K:Nat}{w:qW}{fb:Nat}{f:Fr}{cv av tv sv kv:Value}(h:FrAt T K w fb f cv av tv sv kv)(n:Int)(k:Nat)(C:k=Dq f.stack n):Calls Tryz.prog 281 #[qP fb,J n] w λe w'=>∃a c T' sv',e=.returned (qS a (f.stack.drop k).length c)/\Ext T T' w/\FrAt T' K w' fb { f with stack:=f.stack.take k } cv av tv sv' kv/\CG (Fx T' w') w' (qS a (f.stack.drop k).length c) (f.stack.drop k)/\Kp (λt=>t=K) T w w':=by
 have X:=By h.box;have c0:w.cell? (O fb 10)=some sv:=by rw[Bn h.box];rfl
 have D:=h.few;have U:k<=f.stack.length:=by rw[C];unfold Dq;omega
 have F:=hid U;obtain⟨a,cap,rfl,p,l⟩:=h.stack.form;unfold maxLen at l;have Y:k<=cap:=by omega
 have V:(k:Int)<=(cap:Int):=by omega
 have Z:(k:Int)<=(f.stack.length:Int):=by omega
 have H:=hid h;have M:=hid h.stack;have L:=hid h.box;clear h;by_cases hn:n<0
 ·have W:decide (n<0)=true:=by simpa using hn
  have G:k=f.stack.length:=by rw[C];unfold Dq;omega
  have R:IntKind.i64.wrap ((f.stack.length:Int)-0)=(k:Int):=by rw[CM (by omega) (by omega)];omega
  have Q:IntKind.i64.wrap (f.stack.length:Int)=(k:Int):=by rw[CM (by omega) (by omega)];omega
  by_cases hck:cap=k
  ·have B:f.stack.length=k:=by omega
   have y:Hid (CG (λ_=>False) w.drew (qS a (f.stack.drop k).length 0) (f.stack.drop k)):=by
    have e0:f.stack.drop k=[]:=List.drop_eq_nil_of_le (by omega);rw[e0];exact⟨a,0,rfl,by simp,by simp,by simp,λi x N=>by simp at N⟩
   have s:Hid ((f.stack.drop k).length=f.stack.length-k):=by show _=_;simp
   rw[s.out] at y;have z:cap-k=0:=by omega
   clear hck B;clear C G;go_enter Tryz.func281,Tryz.ntmps281;go_wp2
   go_region
   go_wp2_with fail;refine (Nm (f.stack.drop k) _ _ y.out).mono ?_;rintro e w1 ⟨a1,c1,rfl,d,j⟩;have q:qY w w1:=((Br w.heap.size w).drew).trans j;have r:=Bs L.out q;have d0:w1.cell? (O fb 10)=some _:=(by rw[Bn r];rfl)
   have df:=BN r;have v:Hid (CG (λb=>w.heap.size<=b/\b<w1.heap.size) w1 _ (f.stack.drop k)):=d;have u:=hid q;clear d j q r;go_wp2;obtain⟨T',q1,q2,q3,q4⟩:=Pf H.out F.out u.out v.out;go_ret;exact⟨a1,c1,T',_,(by rw[s.out];rfl),q1,q2,q3,q4⟩
  obtain⟨g,o,rfl⟩:∃g o,a=some (O g o):=by
   obtain⟨-,⟨e,-⟩ | ⟨g,o,c,cur,e,-⟩⟩:=M.out
   ·simp only[Value.slice.injEq] at e;omega
   cases e;exact⟨g,o,rfl⟩
  have y:Hid (CG (λb=>b=g) w.drew (qS (some (O g (o+k*2))) (f.stack.drop k).length (cap-k)) (f.stack.drop k)):=(ownsAt.tail M.out F.out D).later BZ (Br _ _).drew;have s:Hid ((f.stack.drop k).length=f.stack.length-k):=by show _=_;simp
  rw[s.out] at y;have z:¬ (cap-k=0):=by omega
  clear hck;clear C G;go_enter Tryz.func281,Tryz.ntmps281;go_wp2
  go_region
  go_wp2_with fail;refine (Nm (f.stack.drop k) _ _ y.out).mono ?_;rintro e w1 ⟨a1,c1,rfl,d,j⟩;have q:qY w w1:=((Br w.heap.size w).drew).trans j;have r:=Bs L.out q;have d0:w1.cell? (O fb 10)=some _:=(by rw[Bn r];rfl)
  have df:=BN r;have v:Hid (CG (λb=>w.heap.size<=b/\b<w1.heap.size) w1 _ (f.stack.drop k)):=d;have u:=hid q;clear d j q r;go_wp2;obtain⟨T',q1,q2,q3,q4⟩:=Pf H.out F.out u.out v.out;go_ret;exact⟨a1,c1,T',_,(by rw[s.out];rfl),q1,q2,q3,q4⟩
 obtain⟨m,rfl⟩:∃m:Nat,n=(m:Int):=⟨n.toNat,by omega⟩
 by_cases hm:f.stack.length<m
 ·have R:IntKind.i64.wrap ((f.stack.length:Int)-(f.stack.length:Int))=(k:Int):=by rw[C];unfold Dq;rw[CM (by omega) (by omega)];omega
  have S:(f.stack.length:Int)<(m:Int):=by omega
  have Q:(0:Int)=(k:Int):=by rw[C];unfold Dq;omega
  by_cases hck:cap=k
  ·have B:f.stack.length=k:=by omega
   have y:Hid (CG (λ_=>False) w.drew (qS a (f.stack.drop k).length 0) (f.stack.drop k)):=by
    have e0:f.stack.drop k=[]:=List.drop_eq_nil_of_le (by omega);rw[e0];exact⟨a,0,rfl,by simp,by simp,by simp,λi x N=>by simp at N⟩
   have s:Hid ((f.stack.drop k).length=f.stack.length-k):=by show _=_;simp
   rw[s.out] at y;have z:cap-k=0:=by omega
   clear hck B;clear C;go_enter Tryz.func281,Tryz.ntmps281;go_wp2
   go_region
   go_wp2_with fail;refine (Nm (f.stack.drop k) _ _ y.out).mono ?_;rintro e w1 ⟨a1,c1,rfl,d,j⟩;have q:qY w w1:=((Br w.heap.size w).drew).trans j;have r:=Bs L.out q;have d0:w1.cell? (O fb 10)=some _:=(by rw[Bn r];rfl)
   have df:=BN r;have v:Hid (CG (λb=>w.heap.size<=b/\b<w1.heap.size) w1 _ (f.stack.drop k)):=d;have u:=hid q;clear d j q r;go_wp2;obtain⟨T',q1,q2,q3,q4⟩:=Pf H.out F.out u.out v.out;go_ret;exact⟨a1,c1,T',_,(by rw[s.out];rfl),q1,q2,q3,q4⟩
  obtain⟨g,o,rfl⟩:∃g o,a=some (O g o):=by
   obtain⟨-,⟨e,-⟩ | ⟨g,o,c,cur,e,-⟩⟩:=M.out
   ·simp only[Value.slice.injEq] at e;omega
   cases e;exact⟨g,o,rfl⟩
  have y:Hid (CG (λb=>b=g) w.drew (qS (some (O g (o+k*2))) (f.stack.drop k).length (cap-k)) (f.stack.drop k)):=(ownsAt.tail M.out F.out D).later BZ (Br _ _).drew;have s:Hid ((f.stack.drop k).length=f.stack.length-k):=by show _=_;simp
  rw[s.out] at y;have z:¬ (cap-k=0):=by omega
  clear hck;clear C;go_enter Tryz.func281,Tryz.ntmps281;go_wp2
  go_region
  go_wp2_with fail;refine (Nm (f.stack.drop k) _ _ y.out).mono ?_;rintro e w1 ⟨a1,c1,rfl,d,j⟩;have q:qY w w1:=((Br w.heap.size w).drew).trans j;have r:=Bs L.out q;have d0:w1.cell? (O fb 10)=some _:=(by rw[Bn r];rfl)
  have df:=BN r;have v:Hid (CG (λb=>w.heap.size<=b/\b<w1.heap.size) w1 _ (f.stack.drop k)):=d;have u:=hid q;clear d j q r;go_wp2;obtain⟨T',q1,q2,q3,q4⟩:=Pf H.out F.out u.out v.out;go_ret;exact⟨a1,c1,T',_,(by rw[s.out];rfl),q1,q2,q3,q4⟩
 have R:IntKind.i64.wrap ((f.stack.length:Int)-(m:Int))=(k:Int):=by rw[C];unfold Dq;rw[CM (by omega) (by omega)];omega
 have S:¬ ((f.stack.length:Int)<(m:Int)):=by omega
 by_cases hck:cap=k
 ·have B:f.stack.length=k:=by omega
  have y:Hid (CG (λ_=>False) w.drew (qS a (f.stack.drop k).length 0) (f.stack.drop k)):=by
   have e0:f.stack.drop k=[]:=List.drop_eq_nil_of_le (by omega);rw[e0];exact⟨a,0,rfl,by simp,by simp,by simp,λi x N=>by simp at N⟩
  have s:Hid ((f.stack.drop k).length=f.stack.length-k):=by show _=_;simp
  rw[s.out] at y;have z:cap-k=0:=by omega
  clear hck B;clear C;go_enter Tryz.func281,Tryz.ntmps281;go_wp2
  go_region
  go_wp2_with fail;refine (Nm (f.stack.drop k) _ _ y.out).mono ?_;rintro e w1 ⟨a1,c1,rfl,d,j⟩;have q:qY w w1:=((Br w.heap.size w).drew).trans j;have r:=Bs L.out q;have d0:w1.cell? (O fb 10)=some _:=(by rw[Bn r];rfl)
  have df:=BN r;have v:Hid (CG (λb=>w.heap.size<=b/\b<w1.heap.size) w1 _ (f.stack.drop k)):=d;have u:=hid q;clear d j q r;go_wp2;obtain⟨T',q1,q2,q3,q4⟩:=Pf H.out F.out u.out v.out;go_ret;exact⟨a1,c1,T',_,(by rw[s.out];rfl),q1,q2,q3,q4⟩
 obtain⟨g,o,rfl⟩:∃g o,a=some (O g o):=by
  obtain⟨-,⟨e,-⟩ | ⟨g,o,c,cur,e,-⟩⟩:=M.out
  ·simp only[Value.slice.injEq] at e;omega
  cases e;exact⟨g,o,rfl⟩
 have y:Hid (CG (λb=>b=g) w.drew (qS (some (O g (o+k*2))) (f.stack.drop k).length (cap-k)) (f.stack.drop k)):=(ownsAt.tail M.out F.out D).later BZ (Br _ _).drew;have s:Hid ((f.stack.drop k).length=f.stack.length-k):=by show _=_;simp
 rw[s.out] at y;have z:¬ (cap-k=0):=by omega
 clear hck;clear C;go_enter Tryz.func281,Tryz.ntmps281;go_wp2
 go_region
 go_wp2_with fail;refine (Nm (f.stack.drop k) _ _ y.out).mono ?_;rintro e w1 ⟨a1,c1,rfl,d,j⟩;have q:qY w w1:=((Br w.heap.size w).drew).trans j;have r:=Bs L.out q;have d0:w1.cell? (O fb 10)=some _:=(by rw[Bn r];rfl)
 have df:=BN r;have v:Hid (CG (λb=>w.heap.size<=b/\b<w1.heap.size) w1 _ (f.stack.drop k)):=d;have u:=hid q;clear d j q r;go_wp2;obtain⟨T',q1,q2,q3,q4⟩:=Pf H.out F.out u.out v.out;go_ret;exact⟨a1,c1,T',_,(by rw[s.out];rfl),q1,q2,q3,q4⟩
theorem xf6 {h h':Int}{v:QV}(hv:Cn h v=0)(e:h<=h'):Cn h' v=0:=by
 unfold Cn HG at hv ⊢;split at hv
 ·cases hv
 split at hv
 ·rename_i a b;rw[if_neg a,if_pos b];exact hv
 split at hv
 ·rename_i a b c;rw[if_neg a,if_neg b,if_pos c];exact hv
 rename_i a b c;rw[if_neg a,if_neg b,if_neg c];split at hv
 ·cases hv
 rename_i d;rw[if_neg (by omega)]
theorem FL (h:Int):Cn h BC=0:=by simp[Cn,HG]
def VsOk (h:Int)(l:List QV):Prop:=∀v∈l,Cn h v=0
theorem VsOk.later {h h':Int}{l:List QV}(a:VsOk h l)(b:h<=h'):VsOk h' l:=λv hv=>xf6 (a v hv) b
theorem VsOk.entry {h:Int}{l:List QV}(a:VsOk h l)(n:Int):Cn h (CR l n)=0:=by
 unfold CR;split
 ·exact FL h
 cases b:l[n.toNat]? with
 | none=>exact FL h
 | some v=>exact a v (List.mem_of_getElem? b)
theorem VsOk.setEntry {h:Int}{l:List QV}(a:VsOk h l)(n:Int){x:QV}(c:Cn h x=0):VsOk h (EQ l n x):=by
 unfold EQ;split
 ·exact a
 intro v hv;rcases List.mem_or_eq_of_mem_set hv with b | rfl
 ·exact a v b
 exact c
theorem Mj (l:List QV)(n:Int)(x:QV):(EQ l n x).length=l.length:=by unfold EQ;split<;>simp
theorem VsOk.append {h:Int}{l:List QV}(a:VsOk h l){x:QV}(c:Cn h x=0):VsOk h (l++[x]):=λv hv=>by
 simp at hv;rcases hv with b | rfl
 ·exact a v b
 exact c
theorem VsOk.sub {h:Int}{l k:List QV}(a:VsOk h l)(b:∀v∈k,v∈l):VsOk h k:=λv hv=>a v (b v hv)
theorem xgd (h n:Int):VsOk h (Cv n):=λv hv=>by
 unfold Cv at hv;rw[(List.mem_replicate.1 hv).2];exact FL h
structure HOk (cs:List QC)(h:List QO):Prop where
 len:h.length<=60
 obj:∀o∈h,Dj cs.length o.cls=true/\(o.slots.length:Int)=Cs cs o.cls/\VsOk h.length o.slots
theorem xhV {h:List QO}{v:QV}{o:QO}(e:KF h v=some o):h[v.n.toNat]?=some o:=by
 unfold KF at e;split at e
 ·exact e
 cases e
theorem HOk.slot {cs:List QC}{h:List QO}(a:HOk cs h)(v:QV)(n:Int):Cn h.length (Gt h v n)=0:=by
 unfold Gt
 cases e:KF h v with
 | none=>exact FL _
 | some o=>exact (a.obj o (List.mem_of_getElem? (xhV e))).2.2.entry n
theorem Nv (h:List QO)(v:QV)(n:Int)(x:QV):(FF h v n x).length=h.length:=by unfold FF;split<;>simp
theorem HOk.setSlot {cs:List QC}{h:List QO}(f:HOk cs h)(v:QV)(n:Int){x:QV}(i:Cn h.length x=0):HOk cs (FF h v n x):=by
 refine⟨by rw[Nv];exact f.len,λo d=>?_⟩;rw[Nv];unfold FF at d;split at d
 ·exact f.obj o d
 rename_i p e;rcases List.mem_or_eq_of_mem_set d with g | rfl
 ·exact f.obj o g
 obtain⟨a,b,c⟩:=f.obj p (List.mem_of_getElem? (xhV e));exact⟨a,by simp only[Mj];exact b,c.setEntry n i⟩
theorem HOk.make {cs:List QC}{h:List QO}(j:HOk cs h){c:Int}(i:Dj cs.length c=true){k:Nat}(g:(k:Int)=Cs cs c)(l:h.length<60):HOk cs (h++[⟨c,List.replicate k BC⟩]):=by
 refine⟨by simp;omega,λo e=>?_⟩;simp only[List.length_append,List.length_cons,List.length_nil,List.mem_append,List.mem_singleton] at e ⊢;rcases e with f | rfl
 ·obtain⟨a,b,d⟩:=j.obj o f;exact⟨a,b,d.later (by omega)⟩
 exact⟨i,by simpa using g,λv hv=>by rw[(List.mem_replicate.1 hv).2];exact FL _⟩
def CodeOk (cs:List QC)(l:List QI):Prop:=∀x∈l,(x.op=5->-1073741824<=x.a/\x.a<=1073741824)/\(x.op=13->Dj cs.length x.a=true)
structure FOk (cs:List QC)(h:Int)(f:Fr):Prop where
 self:Cn h f.self=0
 args:VsOk h f.args
 temps:VsOk h f.temps
 stack:VsOk h f.stack
 code:CodeOk cs f.code
 plain:CodeOk cs f.meth.code
theorem FOk.later {cs:List QC}{h h':Int}{f:Fr}(a:FOk cs h f)(b:h<=h'):FOk cs h' f:=⟨xf6 a.self b,a.args.later b,a.temps.later b,a.stack.later b,a.code,a.plain⟩
theorem FOk.push {cs:List QC}{h:Int}{f:Fr}(a:FOk cs h f){v:QV}(hv:Cn h v=0):FOk cs h (f.push v):=⟨a.self,a.args,a.temps,a.stack.append hv,a.code,a.plain⟩
theorem FOk.pop {cs:List QC}{h:Int}{f:Fr}(a:FOk cs h f):FOk cs h f.pop:=⟨a.self,a.args,a.temps,a.stack.sub λv hv=>List.dropLast_subset _ hv,a.code,a.plain⟩
theorem FOk.top {cs:List QC}{h:Int}{f:Fr}(a:FOk cs h f):Cn h f.top=0:=a.stack.entry _
theorem FOk.leave {cs:List QC}{h:Int}{f:Fr}(a:FOk cs h f)(c:Int):FOk cs h (f.leave c):=by
 refine⟨a.self,a.args,λv hv=>?_,a.stack,a.plain,a.plain⟩;simp only[Fr.leave,List.mem_map] at hv;obtain⟨p,-,rfl⟩:=hv
 cases b:f.temps[p.2]? with
 | none=>exact FL h
 | some v=>exact a.temps v (List.mem_of_getElem? b)
section
variable {σ:Type}
structure EOk (E:Env σ):Prop where
 meths:∀c n m,Cp E.cz c n=some m->CodeOk E.cz m.code
 fast:∀c n q,E.quick c n=some q->CodeOk E.cz q.1
 slots:∀c,Cs E.cz c=DY E.cz c/\0<=DY E.cz c
structure ROk (cs:List QC)(m m':Mc σ):Prop where
 heap:HOk cs m'.heap
 more:m.heap.length<=m'.heap.length
def QB (cs:List QC)(ent:CC σ):Prop:=∀m c n s a,HOk cs m.heap->Cn m.heap.length s=0->VsOk m.heap.length a->ROk cs m (ent m c n s a).1/\Cn (ent m c n s a).1.heap.length (ent m c n s a).2.1=0
def My (cs:List QC)(m:Mc σ)(r:Mc σ × Fr × Int):Prop:=ROk cs m r.1/\(r.2.2=0->FOk cs r.1.heap.length r.2.1)
theorem xoP {cs:List QC}{m:Mc σ}{f:Fr}(e:HOk cs m.heap)(c:FOk cs m.heap.length f)(a b:Int):My cs m (Cr m f a b):=by
 have d:∀t,FOk cs m.heap.length { f with pc:=t }:=λt=>⟨c.self,c.args,c.temps,c.stack,c.code,c.plain⟩
 unfold Cr My;by_cases h:b<=a
 ·simp only[h,if_true];split
  ·exact⟨⟨e,Bq _⟩,λh=>by cases h⟩
  exact⟨⟨e,Bq _⟩,λ_=>d b⟩
 simp only[h,if_false];split
 ·exact⟨⟨e,Bq _⟩,λh=>by cases h⟩
 exact⟨⟨e,Bq _⟩,λ_=>d b⟩
theorem xre {cs:List QC}{m:Mc σ}{f:Fr}(c:HOk cs m.heap)(d:FOk cs m.heap.length f)(a b:Int):My cs m (Dt m f a b):=by
 unfold Dt;split
 ·exact⟨⟨c,Bq _⟩,λ_=>d.pop⟩
 split
 ·exact xoP c d.pop a b
 exact⟨⟨c,Bq _⟩,λ_=>d⟩
theorem xrD {E:Env σ}(g:EOk E){m:Mc σ}{f:Fr}(b:HOk E.cz m.heap)(a:FOk E.cz m.heap.length f){c:Int}(e:Dj E.cz.length c=true):My E.cz m (DT E m f c):=by
 unfold DT;split
 ·exact⟨⟨b,Bq _⟩,λ_=>a⟩
 rename_i h;obtain⟨d,i⟩:=g.slots c;refine⟨⟨b.make e (by rw[d];omega) (by omega),by simp⟩,λ_=>?_⟩;refine (a.later ?_).push ?_
 ·simp only[List.length_append,List.length_cons,List.length_nil];omega
 simp only[List.length_append,List.length_cons,List.length_nil,Cn,HG];rw[if_neg (by omega),if_neg (by omega),if_neg (by omega),if_neg (by omega)]
theorem xlZ {cs:List QC}(E:Env σ)(d:Nat){m:Mc σ}(a:HOk cs m.heap):ROk cs m (BY E d m).1/\(BY E d m).1.heap=m.heap:=by
 unfold BY;split
 ·exact⟨⟨a,Bq _⟩,rfl⟩
 split
 ·exact⟨⟨a,Bq _⟩,rfl⟩
 exact⟨⟨a,Bq _⟩,rfl⟩
theorem xrP {cs:List QC}(E:Env σ)(d:Nat){m:Mc σ}{f:Fr}(a:HOk cs m.heap)(b:FOk cs m.heap.length f)(x:QI):My cs m (DB E d m f x):=by
 unfold DB;split
 ·exact⟨⟨a,Bq _⟩,λh=>by cases h⟩
 split
 ·refine⟨⟨a,Bq _⟩,λ_=>?_⟩;simp only[];split
  ·exact b
  exact b.leave x.c
 split
 ·exact⟨⟨a,Bq _⟩,λ_=>b.push (a.slot _ _)⟩
 split
 ·refine⟨⟨a.setSlot _ _ b.top,by simp[Nv]⟩,λ_=>?_⟩;simp only[Nv];exact b.pop
 split
 ·obtain⟨g,e⟩:=xlZ (cs:=cs) E d a;refine⟨g,λ_=>?_⟩;simp only[e];exact b
 exact⟨⟨a,Bq _⟩,λh=>by cases h⟩
theorem xqR {cs:List QC}{ent:CC σ}(k:QB cs ent)(E:Env σ){m:Mc σ}{f:Fr}(n:HOk cs m.heap)(g:FOk cs m.heap.length f)(at':Int)(x:QI):My cs m (Dv ent E m f at' x):=by
 unfold Dv;simp only[];generalize E.look m.st (f.site at' x) (Ch m.heap (CL (f.stack.take (Dq f.stack x.a)) 0)) x.name=l;have i:VsOk m.heap.length (f.stack.take (Dq f.stack x.a)):=g.stack.sub λv hv=>List.mem_of_mem_take hv;obtain⟨d,j⟩:=k { m with st:=l.1 } l.2.1 l.2.2 (CL (f.stack.take (Dq f.stack x.a)) 0) (f.stack.drop (Dq f.stack x.a)) n (i.entry _) (g.stack.sub λv hv=>List.mem_of_mem_drop hv);generalize ent { m with st:=l.1 } l.2.1 l.2.2 (CL (f.stack.take (Dq f.stack x.a)) 0) (f.stack.drop (Dq f.stack x.a))=r at d j ⊢;have c:m.heap.length<=r.1.heap.length:=d.more;split
 ·rename_i h;exact⟨⟨d.heap,c⟩,λh'=>absurd h' h⟩
 refine⟨⟨d.heap,c⟩,λ_=>?_⟩;have b:=g.later (h':=(r.1.heap.length:Int)) (by omega);have e:VsOk (r.1.heap.length:Int) (f.stack.take (Dq f.stack x.a)):=i.later (by omega);exact⟨b.self,b.args,b.temps,((e.sub λv hv=>List.dropLast_subset _ hv).append j),b.code,b.plain⟩
theorem xn0 {cs:List QC}{h:List QO}{f:Fr}(g:HOk cs h)(b:FOk cs h.length f){x:QI}(d:x.op=5->-1073741824<=x.a/\x.a<=1073741824){v:QV}(e:Cl h f x=some v):Cn h.length v=0:=by
 unfold Cl at e;split at e
 ·cases e;exact b.self
 split at e
 ·cases e;exact b.args.entry _
 split at e
 ·cases e;exact b.temps.entry _
 split at e
 ·cases e;exact g.slot _ _
 split at e
 ·rename_i c
  cases e;have:=d c;simp only[Cn,HG];rw[if_neg (by omega),if_neg (by omega),if_pos trivial,if_neg (by omega)]
 split at e
 ·cases e;exact FL _
 split at e
 ·cases e;simp[Cn,HG]
 split at e
 ·cases e;simp[Cn,HG]
 cases e
theorem xol {E:Env σ}(k:EOk E){ent:CC σ}(j:QB E.cz ent)(d:Nat){m:Mc σ}{f:Fr}(g:HOk E.cz m.heap)(c:FOk E.cz m.heap.length f)(at':Int){x:QI}(i:x.op=5->-1073741824<=x.a/\x.a<=1073741824)(b:x.op=13->Dj E.cz.length x.a=true):My E.cz m (BD ent E d m f at' x):=by
 unfold BD;split
 ·rename_i v e;exact⟨⟨g,Bq _⟩,λ_=>c.push (xn0 g c i e)⟩
 split
 ·exact⟨⟨g,Bq _⟩,λ_=>c.pop⟩
 split
 ·exact⟨⟨g,Bq _⟩,λ_=>c.push c.top⟩
 split
 ·exact⟨⟨g,Bq _⟩,λ_=>⟨c.self,c.args,c.temps.setEntry _ c.top,c.pop.stack,c.code,c.plain⟩⟩
 split
 ·refine⟨⟨g.setSlot _ _ c.top,by simp[Nv]⟩,λ_=>?_⟩;simp only[Nv];exact c.pop
 split
 ·rename_i h;exact xrD k g c (b h)
 split
 ·exact xqR j E g c at' x
 split
 ·exact xoP g c at' x.a
 split
 ·exact xre g c at' x.a
 exact xrP E d g c x
theorem ROk.trans {cs:List QC}{a b c:Mc σ}(h:ROk cs a b)(k:ROk cs b c):ROk cs a c:=⟨k.heap,BX h.more k.more⟩
theorem xqy {E:Env σ}(j:EOk E){ent:CC σ}(e:QB E.cz ent)(d:Nat):∀(g:Nat) {m:Mc σ} {f:Fr},HOk E.cz m.heap->FOk E.cz m.heap.length f->ROk E.cz m (CX ent E d g m f).1/\Cn (CX ent E d g m f).1.heap.length (CX ent E d g m f).2.1=0
 | 0,m,f,hm,hf=>⟨⟨hm,Bq _⟩,FL _⟩
 | g+1,m,f,hm,hf=>by
  unfold CX
  cases b:(if f.pc<0 then none else f.code[f.pc.toNat]?) with
  | none=>exact⟨⟨hm,Bq _⟩,FL _⟩
  | some x=>
   have i:x∈f.code:=by
    split at b
    ·cases b
    exact List.mem_of_getElem? b
   simp only[];by_cases h17:x.op=17
   ·rw[if_pos h17];exact⟨⟨hm,Bq _⟩,hf.top⟩
   rw[if_neg h17];have c:FOk E.cz m.heap.length { f with pc:=f.pc+1 }:=⟨hf.self,hf.args,hf.temps,hf.stack,hf.code,hf.plain⟩
   obtain⟨a,h⟩:=xol j e d hm c f.pc (hf.code x i).1 (hf.code x i).2;generalize BD ent E d m { f with pc:=f.pc+1 } f.pc x=r at a h ⊢;by_cases h0:r.2.2≠0
   ·rw[if_pos h0];exact⟨a,FL _⟩
   rw[if_neg h0];obtain⟨k1,k2⟩:=xqy j e d g a.heap (h (by simpa using h0));exact⟨a.trans k1,k2⟩
theorem xmK (h:Int){a b:QV}(p:Int):Cn h (Fv p a b).1=0:=by
 have tm:∀n:Int,-1073741824<=n.tmod 1073741825/\n.tmod 1073741825<=1073741824:=λn=>by
  have d:=Int.tmod_lt_of_pos n (b:=1073741825) (by omega);have e:=Int.lt_tmod_of_pos n (b:=1073741825) (by omega);omega
 have num:∀n:Int,Cn h ⟨3,n.tmod 1073741825⟩=0:=λn=>by
  have:=tm n;simp only[Cn,HG];rw[if_neg (by omega),if_neg (by omega),if_pos trivial,if_neg (by omega)]
 have bol:∀c:Prop,∀_:Decidable c,Cn h ⟨if c then 2 else 1,0⟩=0:=λc _=>by
  by_cases hc:c<;>simp[hc,Cn,HG]
 unfold Fv;split
 ·exact FL h
 split
 ·exact num _
 split
 ·exact num _
 split
 ·exact num _
 split
 ·exact bol _ _
 split
 ·exact bol _ _
 exact FL h
theorem xlH {E:Env σ}(l:EOk E)(d:Nat){b:Mc σ->Fr->Mc σ × QV × Int}(t:∀ {m f},HOk E.cz m.heap->FOk E.cz m.heap.length f->ROk E.cz m (b m f).1/\Cn (b m f).1.heap.length (b m f).2.1=0):QB E.cz (El E d b):=by
 intro m c n s a g i k;unfold El
 cases h:Cp E.cz c n with
 | none=>exact⟨⟨g,Bq _⟩,FL _⟩
 | some mt=>
  simp only[];split
  ·exact⟨⟨g,Bq _⟩,FL _⟩
  split
  ·split
   ·exact⟨⟨g,Bq _⟩,FL _⟩
   exact⟨⟨g,Bq _⟩,xmK _ _⟩
  split
  ·exact⟨⟨g,Bq _⟩,FL _⟩
  obtain⟨j,r⟩:=xlZ (cs:=E.cz) E d g
  have o:FOk E.cz (BY E d m).1.heap.length (CW E c n mt s a):=by
   rw[r];have e:=l.meths c n mt h;unfold CW
   cases p:E.quick c n with
   | none=>exact⟨i,k,xgd _ _,λv hv=>by simp at hv,e,e⟩
   | some q=>exact⟨i,k,xgd _ _,λv hv=>by simp at hv,l.fast c n q p,e⟩
  obtain⟨k1,k2⟩:=t j.heap o;exact⟨j.trans k1,k2⟩
theorem xoL {E:Env σ}(a:EOk E):∀d:Nat,QB E.cz (BL E d)
 | 0=>xlH a 0 λb c=>⟨⟨b,Bq _⟩,FL _⟩
 | d+1=>xlH a (d+1) λb c=>xqy a (xoL a d) d _ b c
theorem xge {f:QI->Int}:∀ {l:List QI} {k:Nat} {p:Int × Int},FX f k l=some p->p.1≠0
 | [],k,p,h=>by simp[FX] at h
 | z :: r,k,p,h=>by
  unfold FX at h;split at h
  ·rename_i a;cases h;exact a
  exact xge h
def NX:Int->Int->Option (List QI × Int):=λ_ _=>none
theorem Pp {X:QW}(h:BM X=0):HOk X.cz X.heap:=by
 obtain⟨d,-,-,j⟩:=Gx h;refine⟨d.heap,λo f=>?_⟩;obtain⟨i,c,rfl⟩:=List.mem_iff_getElem.1 f;have b:=j i _ c (List.getElem?_eq_getElem c);unfold Ev at b;split at b
 ·cases b
 rename_i g;have a:=not_or.1 g;refine⟨by simpa using a.1,by simpa using a.2,λv hv=>?_⟩;obtain⟨k,e,rfl⟩:=List.mem_iff_getElem.1 hv;exact Hm b k _ (List.getElem?_eq_getElem e)
theorem xhe {X:QW}(h:BM X=0){H:List QO}(b:HOk X.cz H):BM ⟨X.cz,H,X.ez⟩=0:=by
 obtain⟨a,f,d,-⟩:=Gx h;refine xiv ⟨a.few,a.many,b.len,a.ep0,a.ep1⟩ f d λi o l g=>?_;obtain⟨c,e,j⟩:=b.obj o (List.mem_of_getElem? g);unfold Ev;rw[if_neg (by simp[c,e])];exact KL λk v hv=>j v (List.mem_of_getElem? hv)
theorem PY {X:QW}(h:BM X=0):Hj X.cz:=λi x b=>by
 obtain⟨d,c,-,-⟩:=Gx h;have a:=c i x (Bz b) b;unfold CY at a;split at a
 ·cases a
 split at a
 ·split at a
  ·cases a
  split at a
  ·cases a
  split at a
  ·cases a
  split at a
  ·cases a
  omega
 split at a
 ·cases a
 split at a
 ·cases a
 split at a
 ·cases a
 omega
theorem xdt {X:QW}(h:BM X=0)(c:Int):Cs X.cz c=DY X.cz c/\0<=DY X.cz c:=by
 have a:=PY h;obtain⟨b,-,-,-⟩:=Gx h;have d:=b.many;exact⟨xpF a (by omega) c,(PD a (X.cz.length+1) c 0 (Int.le_refl _)).1⟩
theorem xec {X:QW}(h:BM X=0){c n:Int}{m:QM}(i:Cp X.cz c n=some m):CodeOk X.cz m.code:=by
 obtain⟨v,-,u,-⟩:=Gx h;unfold Cp at i
 cases s:Cy X.cz c with
 | none=>rw[s] at i;cases i
 | some x=>
  rw[s] at i;simp only[Option.bind_some] at i;obtain⟨k,rfl,d⟩:=Gl s;split at i
  ·have l:=u k x (Bz d) d;unfold Dm at l;split at l
   ·cases l
   split at l
   ·cases l
   have g:=Hm l _ _ i;unfold Dn at g;split at g
   ·cases g
   split at g
   ·rename_i j;unfold Ft at j;rw[List.any_eq_true] at j;obtain⟨p,-,j⟩:=j;simp only[Bool.and_eq_true,decide_eq_true_eq] at j;have:m.code=[]:=List.eq_nil_of_length_eq_zero j.2;rw[this];intro y r;simp at r
   unfold Em at g;split at g
   ·rename_i a;exact absurd g a
   split at g
   ·rename_i f e;exact absurd g (xge e)
   rename_i e;intro y r;have o:=PR e y r;unfold DD at o;split at o
   ·cases o
   split at o
   ·cases o
   rename_i b;unfold Ew at b;refine⟨λt=>?_,λq=>?_⟩
   ·simp[t,Cj] at b;omega
   simp[q,Cj] at b;simp[Dj];omega
  cases i
theorem xiV {X:QW}(h:BM X=0)(fuel:Int)(a:σ->QS->Int->ByteArray->σ × (Int × Int)):EOk (⟨X.cz,fuel,a,NX⟩:Env σ):=
 ⟨λc n m b=>xec h b,λc n q d=>(by cases d),λc=>xdt h c⟩
theorem xnT {X:QW}(h:BM X=0){E:Env σ}(i:EOk E)(e:E.cz=X.cz)(d:Nat){m:Mc σ}(b:m.heap=X.heap)(c n:Int){s:QV}{a:List QV}(f:Cn X.heap.length s=0)(g:VsOk X.heap.length a) :
  BM ⟨X.cz,(BL E d m c n s a).1.heap,X.ez⟩=0/\X.heap.length<=(BL E d m c n s a).1.heap.length/\Cn (BL E d m c n s a).1.heap.length (BL E d m c n s a).2.1=0:=by
 obtain⟨k1,k2⟩:=xoL i d m c n s a (by rw[b,e];exact Pp h) (by rw[b];exact f) (by rw[b];exact g);refine⟨xhe h (by rw[← e];exact k1.heap),by rw[← b];exact k1.more,k2⟩
end
theorem xgq {S n:Int}{m:QM}{x:QI}(h:DD S n m x=0):1<=x.op/\x.op<=17/\(x.op=2->0<=x.a/\x.a<m.args)/\(x.op=3\/x.op=11->0<=x.a/\x.a<m.temps)/\(x.op=14->0<=x.a/\x.a<=4)/\x.b=0/\x.c=0:=by
 have f:=xeU h;unfold DD at h;split at h
 ·cases h
 rename_i g;split at h
 ·cases h
 rename_i d;split at h
 ·cases h
 rename_i j;simp[Cj] at g;refine⟨by omega,by omega,λi=>?_,λe=>?_,f,by omega,by omega⟩
 ·simp[Ew,i,Cj] at d;omega
 rcases e with e | e<;>(simp[Ew,e,Cj] at d;omega)
section
variable {σ:Type}
def Cz (m:Mc σ)(f:Fr):Nat:=(if f.fast then 302*(f.meth.code.length+1) else 0)+(301-m.tz).toNat*(f.code.length+1)+(f.code.length-f.pc.toNat)
theorem xsf {m m':Mc σ}{f f':Fr}(e:m.tz<=m'.tz)(e1:f'.fast=f.fast)(e2:f'.meth=f.meth)(e3:f'.code=f.code)(c:0<=f.pc)(d:f.pc.toNat<f.code.length)(b:f.pc<f'.pc):Cz m' f'<Cz m f:=by
 unfold Cz;rw[e1,e2,e3];have a:(301-m'.tz).toNat*(f.code.length+1)<=(301-m.tz).toNat*(f.code.length+1):=Nat.mul_le_mul_right _ (by omega);omega
theorem xra {m m':Mc σ}{f f':Fr}(c:m'.tz=m.tz+1)(a:m'.tz<=300)(e1:f'.fast=f.fast)(e2:f'.meth=f.meth)(e3:f'.code=f.code):Cz m' f'<Cz m f:=by
 unfold Cz;rw[e1,e2,e3];have b:(301-m.tz).toNat=(301-m'.tz).toNat+1:=by omega
 rw[b,Nat.add_mul,Nat.one_mul];omega
theorem xpp {m:Mc σ}{f:Fr}(b:0<=m.tz)(a:f.fast=true)(c:Int):Cz m (f.leave c)<Cz m f:=by
 unfold Cz;have e1:(f.leave c).fast=false:=rfl;have e2:(f.leave c).code=f.meth.code:=rfl;rw[e1,e2,a];simp only[Bool.false_eq_true,if_false,if_true];have d:(301-m.tz).toNat*(f.meth.code.length+1)<=301*(f.meth.code.length+1):=Nat.mul_le_mul_right _ (by omega);omega
theorem PT {m:Mc σ}{f:Fr}(a:0<=m.tz):Cz m f<=Hn f:=by
 unfold Cz Hn;have b:(301-m.tz).toNat*(f.code.length+1)<=301*(f.code.length+1):=Nat.mul_le_mul_right _ (by omega);split<;>omega
def Gn (ent:CC σ):Prop:=∀m c n s a,m.tz<=(ent m c n s a).1.tz
theorem xnJ {m:Mc σ}{f:Fr}(c:0<=f.pc)(d:f.pc.toNat<f.code.length){f1:Fr}(e1:f1.fast=f.fast)(e2:f1.meth=f.meth)(e3:f1.code=f.code){b:Int}(a:(Cr m f1 f.pc b).2.2=0):Cz (Cr m f1 f.pc b).1 (Cr m f1 f.pc b).2.1<Cz m f:=by
 unfold Cr at a ⊢;by_cases hb:b<=f.pc
 ·simp only[hb,if_true] at a ⊢;by_cases h:300<m.tz+1
  ·rw[if_pos h] at a;cases a
  rw[if_neg h];exact xra rfl (by simp only[];omega) e1 e2 e3
 simp only[hb,if_false] at a ⊢;by_cases h:300<m.tz
 ·rw[if_pos h] at a;cases a
 rw[if_neg h];exact xsf (Int.le_refl _) e1 e2 e3 c d (by simp only[];omega)
theorem xi1 {ent:CC σ}(y:Gn ent){E:Env σ}{d:Nat}{m:Mc σ}{f:Fr}(z:0<=m.tz)(u:0<=f.pc)(v:f.pc.toNat<f.code.length){x:QI}(q:(BD ent E d m { f with pc:=f.pc+1 } f.pc x).2.2=0):Cz (BD ent E d m { f with pc:=f.pc+1 } f.pc x).1 (BD ent E d m { f with pc:=f.pc+1 } f.pc x).2.1<Cz m f:=by
 have on:∀ {m':Mc σ} {f':Fr},m.tz<=m'.tz->f'.fast=f.fast->f'.meth=f.meth->f'.code=f.code->f'.pc=f.pc+1->Cz m' f'<Cz m f:=λa b c d e=>xsf a b c d u v (by omega);unfold BD at q ⊢;split
 ·exact on (Int.le_refl _) rfl rfl rfl rfl
 rename_i e;rw[e] at q;simp only[] at q;split
 ·exact on (Int.le_refl _) rfl rfl rfl rfl
 split
 ·exact on (Int.le_refl _) rfl rfl rfl rfl
 split
 ·exact on (Int.le_refl _) rfl rfl rfl rfl
 split
 ·exact on (Int.le_refl _) rfl rfl rfl rfl
 split
 ·rename_i r h j i g;rw[if_neg r,if_neg h,if_neg j,if_neg i,if_pos g] at q;unfold DT at q ⊢;split
  ·rename_i t;rw[if_pos t] at q;cases q
  exact on (Int.le_refl _) rfl rfl rfl rfl
 split
 ·rename_i r h j i g l;rw[if_neg r,if_neg h,if_neg j,if_neg i,if_neg g,if_pos l] at q;unfold Dv at q ⊢;simp only[] at q ⊢;split
  ·rename_i t;rw[if_pos t] at q;exact absurd q t
  exact on (y _ _ _ _ _) rfl rfl rfl rfl
 split
 ·rename_i r h j i g l n;rw[if_neg r,if_neg h,if_neg j,if_neg i,if_neg g,if_neg l,if_pos n] at q;exact xnJ (f1:={ f with pc:=f.pc+1 }) u v rfl rfl rfl q
 split
 ·rename_i r h j i g l n o;rw[if_neg r,if_neg h,if_neg j,if_neg i,if_neg g,if_neg l,if_neg n,if_pos o] at q;unfold Dt at q ⊢;split
  ·exact on (Int.le_refl _) rfl rfl rfl rfl
  rename_i k2;rw[if_neg k2] at q;split
  ·rename_i k1;rw[if_pos k1] at q;exact xnJ (f1:=Fr.pop { f with pc:=f.pc+1 }) u v rfl rfl rfl q
  rename_i k1;rw[if_neg k1] at q
  cases q
 rename_i r h j i g l n o;rw[if_neg r,if_neg h,if_neg j,if_neg i,if_neg g,if_neg l,if_neg n,if_neg o] at q;unfold DB at q ⊢;split
 ·rename_i k;rw[if_pos k] at q;cases q
 rename_i p;have s:f.fast=true:=by simpa using p
 split
 ·simp only[];split
  ·exact on (Int.le_refl _) rfl rfl rfl rfl
  have:=xpp (m:=m) (f:={ f with pc:=f.pc+1 }) z s x.c;have B:Cz m { f with pc:=f.pc+1 }<Cz m f:=on (Int.le_refl _) rfl rfl rfl rfl;omega
 split
 ·exact on (Int.le_refl _) rfl rfl rfl rfl
 split
 ·exact on (Int.le_refl _) rfl rfl rfl rfl
 split
 ·refine on ?_ rfl rfl rfl rfl;simp only[BY];split
  ·exact Int.le_refl _
  split
  ·exact Int.le_refl _
  exact Int.le_refl _
 exact on (Int.le_refl _) rfl rfl rfl rfl
theorem xh1 (m:Mc σ)(f:Fr)(a b:Int):m.tz<=(Cr m f a b).1.tz:=by
 unfold Cr;by_cases h:b<=a
 ·simp only[h,if_true];split<;>(simp only[];omega)
 ·simp only[h,if_false];split<;>exact Int.le_refl _
theorem xeH (E:Env σ)(d:Nat)(m:Mc σ):(BY E d m).1.tz=m.tz:=by
 unfold BY;split
 ·rfl
 split<;>rfl
theorem xej {ent:CC σ}(b:Gn ent)(E:Env σ)(d:Nat)(m:Mc σ)(f:Fr)(a:Int)(x:QI):m.tz<=(BD ent E d m f a x).1.tz:=by
 unfold BD;split
 ·exact Int.le_refl _
 split
 ·exact Int.le_refl _
 split
 ·exact Int.le_refl _
 split
 ·exact Int.le_refl _
 split
 ·exact Int.le_refl _
 split
 ·unfold DT;split<;>exact Int.le_refl _
 ·split
  ·unfold Dv;simp only[];split
   ·exact b { m with st:=_ } _ _ _ _
   exact b { m with st:=_ } _ _ _ _
  split
  ·exact xh1 _ _ _ _
  split
  ·unfold Dt;split
   ·exact Int.le_refl _
   split
   ·exact xh1 _ _ _ _
   exact Int.le_refl _
  unfold DB;split
  ·exact Int.le_refl _
  split
  ·exact Int.le_refl _
  split
  ·exact Int.le_refl _
  split
  ·exact Int.le_refl _
  split
  ·exact Int.le_of_eq (xeH E d m).symm
  exact Int.le_refl _
theorem xjF {ent:CC σ}(b:Gn ent)(E:Env σ)(d:Nat):∀(g:Nat) (m:Mc σ) (f:Fr),m.tz<=(CX ent E d g m f).1.tz
 | 0,m,f=>Int.le_refl _
 | g+1,m,f=>by
  unfold CX;generalize (if f.pc<0 then none else f.code[f.pc.toNat]?)=q
  cases q with
  | none=>exact Int.le_refl _
  | some x=>
   simp only[];split
   ·exact Int.le_refl _
   have a:=xej b E d m { f with pc:=f.pc+1 } f.pc x;split
   ·exact a
   exact Int.le_trans a (xjF b E d g _ _)
theorem xgz (E:Env σ)(d:Nat){b:Mc σ->Fr->Mc σ × QV × Int}(e:∀m f,m.tz<=(b m f).1.tz):Gn (El E d b):=by
 intro m c n s a;unfold El
 cases Cp E.cz c n with
 | none=>exact Int.le_refl _
 | some mt=>
  simp only[];split
  ·exact Int.le_refl _
  split
  ·split<;>exact Int.le_refl _
  ·split
   ·exact Int.le_refl _
   have g:=xeH E d m;have h:=e (BY E d m).1 (CW E c n mt s a);omega
theorem Ls (E:Env σ):∀d:Nat,Gn (BL E d)
 | 0=>xgz E 0 λm f=>Int.le_refl _
 | d+1=>xgz E (d+1) λm f=>xjF (Ls E d) E d _ m f
theorem xfI {X:QW}(h:BM X=0){c n:Int}{m:QM}(l:Cp X.cz c n=some m):(m.prim≠0/\m.args=1)\/(m.prim=0/\∃S N:Int,DF X.cz.length c m=0/\(∀x∈m.code,DD S N m x=0)/\(DN m.code).2.1=0):=by
 obtain⟨t,-,s,-⟩:=Gx h;unfold Cp at l
 cases r:Cy X.cz c with
 | none=>rw[r] at l;cases l
 | some x=>
  rw[r] at l;simp only[Option.bind_some] at l;obtain⟨k,rfl,b⟩:=Gl r;split at l
  ·have o:=s k x (Bz b) b;unfold Dm at o;split at o
   ·cases o
   split at o
   ·cases o
   have g:=Hm o _ _ l;unfold Dn at g;split at g
   ·cases g
   split at g
   ·rename_i j;left;unfold Ft at j;rw[List.any_eq_true] at j;obtain⟨p,d,j⟩:=j;simp only[Bool.and_eq_true,decide_eq_true_eq] at j;refine⟨?_,j.1.1.2⟩;rw[← j.1.1.1.2]
    have:∀q∈xrh,q.prim≠0:=by
     intro q g;simp[xrh] at g;rcases g with rfl | rfl | rfl | rfl | rfl<;>decide
    exact this p d
   right;unfold Em at g;split at g
   ·rename_i a;exact absurd g a
   rename_i a;have i:DF X.cz.length k m=0:=Decidable.of_not_not a;split at g
   ·rename_i f e;exact absurd g (xge e)
   rename_i e;refine⟨?_,_,_,i,PR e,g⟩;unfold DF at i;split at i
   ·cases i
   split at i
   ·cases i
   split at i
   ·cases i
   split at i
   ·cases i
   rename_i j;exact Decidable.of_not_not j
  cases l
end
section
variable {σ τ:Type}
structure MR (Rel:σ->τ->Prop)(m:Mc σ)(m':Mc τ):Prop where
 heap:m'.heap=m.heap
 sz_:m'.sz_=m.sz_
 tz:m'.tz=m.tz
 st:Rel m.st m'.st
def RR {α:Type}(Rel:σ->τ->Prop)(r:Mc σ × α × Int)(r':Mc τ × α × Int):Prop:=MR Rel r.1 r'.1/\r'.2=r.2
end
end Go.Proofs.YtbafokihegegiaaGreatDoor
