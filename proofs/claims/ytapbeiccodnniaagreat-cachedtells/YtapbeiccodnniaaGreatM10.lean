/- A part. -/
import Derived.Test.YtapbeiccodnniaaGreatM9
namespace Go.Proofs.YtapbeiccodnniaaGreat
open Go.ChangeShapes Go.WideShapes Go.ChangeAt Go.RowKit
set_option linter.unusedSimpArgs false
set_option linter.unusedVariables false
set_option maxHeartbeats 8000000
set_option maxRecDepth 8000
theorem hid {p:Prop}(h:p):Hid p:=h
theorem xat {P:Program}{ops:Array Oper}{o:Oper}{a:Act}{w w':World}{K:Act->World->Prop}{Q:Exit->Act->World->Prop}{E:Prop}(hg:o.guard=none)(s x:Operand)(T:TypeId)(hop:o.op=Op.call { callee:=Callee.builtin Builtin.append,args:=#[s,x],argTypes:=#[T,T] })
  (vs vx v':Value) (hs:a.eval s=vs) (hx:a.eval x=vx) (hrun:(Builtin.append_ #[T,T] o.type #[vs,vx]).run P w=.ok v' w') (hK:K (a.put o.dst v') w'):if Region.wanted o (yielded ops a.tmps)=true then Oper.wp P o a w K Q else E:=by
 have hw:Region.wanted o (yielded ops a.tmps)=true:=by simp[Region.wanted,hg]
 rw[if_pos hw];unfold Oper.wp
 simp[execOp,hop,resolve,invoke,builtin,hs,hx,hrun,Result.andThen]
 exact hK
theorem xam {w:World}{b:Nat}{cur:Array Value}{t:TypeId}(h:w.heap[b]?=some (.cells cur t (0,0)))(o:Nat):w.frozen? ⟨b,o,none⟩=false:=by unfold World.frozen?;simp[h]
theorem ownsAt.vals {w:World}{base:Nat}{v:Value}{xs:List QV}(h:ownsAt w base 27 2 v xs.length (xal xs))(hb:xs.length*16<=140737488351232):xaB (fun b=>v.ownBlock=some b) w v xs:=by
 obtain⟨h1,⟨rfl,h2⟩ | ⟨g,o,cap,cur,rfl,h3,h4,h5,h6,h7,h8⟩⟩:=h
 ·have:xs=[]:=List.eq_nil_of_length_eq_zero h2;subst this
  exact⟨none,0,rfl,by simp,by simp,by simp,fun i x hx=>by simp at hx⟩
 ·refine⟨_,_,rfl,h5,h6,hb,fun i x hx=>⟨g,o,rfl,rfl,?_⟩⟩
  have hi:=xae hx
  have hcell:∀ j,j<xs.length*2->w.cell? ⟨g,o+j,none⟩=(xal xs)[j]?:=fun j hj=>by
   rw[← h8,qzB h4,List.getElem?_take,if_pos hj,List.getElem?_drop]
   simp
  obtain⟨e1,e2⟩:=xbO hx
  exact⟨by show w.cell? ⟨g,o+i*2+0,none⟩=_;rw[Nat.add_zero,hcell _ (by omega)];exact e1,by show w.cell? ⟨g,o+i*2+1,none⟩=_;rw[Nat.add_assoc,hcell _ (by omega)];exact e2⟩
theorem ownsAt.take {w:World}{base n:Nat}{a:Option Addr}{cap:Nat}{xs:List QV}(h:ownsAt w base 27 2 (.slice a n cap) n (xal xs)){k:Nat}(hk:k<=n):ownsAt w base 27 2 (.slice a k cap) k (xal (xs.take k)):=by
 have hx:xs.length=n:=by have:=h.1;rw[xbm] at this;omega
 obtain⟨h1,⟨e,h2⟩ | ⟨g,o,cap',cur,e,h3,h4,h5,h6,h7,h8⟩⟩:=h
 ·cases e
  obtain rfl:k=0:=by omega
  exact⟨by simp[xal],Or.inl ⟨rfl,rfl⟩⟩
 ·cases e
  refine⟨by rw[xbm,List.length_take];omega,Or.inr ⟨g,o,cap,cur,rfl,h3,h4,by omega,h6,h7,?_⟩⟩
  rw[← xdG,← h8,List.take_take]
  congr 1
  omega
theorem ownsAt.base {w:World}{base base':Nat}{e:TypeId}{sz:Nat}{v:Value}{n:Nat}{xs:List Value}(h:ownsAt w base e sz v n xs)(hb:∀ g,v.ownBlock=some g->base'<=g):ownsAt w base' e sz v n xs:=by
 obtain⟨h1,h2 | ⟨g,o,cap,cur,rfl,h3,h4,h5⟩⟩:=h
 ·exact⟨h1,Or.inl h2⟩
 ·exact⟨h1,Or.inr ⟨g,o,cap,cur,rfl,hb g (by simp[Value.ownBlock]),h4,h5⟩⟩
abbrev FB (f:Fr)(cv av tv sv kv:Value):Obj:=.cells #[.int .i64 f.cls,.string f.meth.name,.int .i64 f.meth.args,.int .i64 f.meth.temps,.int .i64 f.meth.prim,cv,.int .i64 f.self.k,.int .i64 f.self.n,av,tv,sv,kv,.int .i64 f.pc,.bool f.fast] 149 (0,0)
structure FrAt (T:Nat->Nat)(K:Nat)(w:World)(fb:Nat)(f:Fr)(cv av tv sv kv:Value):Prop where
 box:w.heap[fb]?=some (FB f cv av tv sv kv)
 tag:T fb=K
 args:xaB (Fx T w) w av f.args
 temps:∃ tb,tv=.slice (some ⟨tb,0,none⟩) f.temps.length f.temps.length/\w.heap[tb]?=some (.cells (xal f.temps).toArray 27 (0,0))/\T tb=K+1/\f.temps.length<=40
 stack:ownsAt w 0 27 2 sv f.stack.length (xal f.stack)
 stag:∀ g,sv.ownBlock=some g->T g=K+2
 few:f.stack.length<=1000000000
 code:xa5 (Fx T w) w kv f.code
 meth:xa5 (Fx T w) w cv f.meth.code
 pos:5<=K
section
variable {T T':Nat->Nat} {K:Nat} {w w':World} {fb:Nat} {f:Fr} {cv av tv sv kv:Value}
theorem FrAt.keep {S:Nat->Prop}(h:FrAt T K w fb f cv av tv sv kv)(e:Ext T T' w)(k:Kp S T w w')(h0:¬ S 0)(h1:¬ S K)(h2:¬ S (K+1))(h3:¬ S (K+2)):FrAt T' K w' fb f cv av tv sv kv:=by
 obtain⟨tb,e1,e2,e3,e4⟩:=h.temps;refine⟨k.held h.box (by rw[h.tag];exact h1),by rw[e _ (xaf h.box)];exact h.tag,h.args.fx xaK e k h0,⟨tb,e1,k.held e2 (by rw[e3];exact h2),by rw[e _ (xaf e2)];exact e3,e4⟩,h.stack.keep fun g hg=>k.blk g (h.stack.lt g hg).2 (by rw[h.stag g hg];exact h3),fun g hg=>by rw[e _ (h.stack.lt g hg).2];exact h.stag g hg,h.few,h.code.fx xbl e k h0,h.meth.fx xbl e k h0,h.pos⟩
theorem FrAt.later (h:FrAt T K w fb f cv av tv sv kv)(hb:Below w.heap.size w w'):FrAt T K w' fb f cv av tv sv kv:=h.keep (S:=fun _=>False) (.refl _ _) (.of_below hb) id id id id
theorem FrAt.turn {f':Fr}{sv':Value}(h:FrAt T K w fb f cv av tv sv kv)(k:Kp (fun t=>t=K) T w w')(hb:w'.heap[fb]?=some (FB f' cv av tv sv' kv))(e1:f'.args=f.args)(e2:f'.temps=f.temps)(e3:f'.code=f.code)(e4:f'.meth=f.meth)(hs:ownsAt w 0 27 2 sv' f'.stack.length (xal f'.stack))(ho:∀ g,sv'.ownBlock=some g->T g=K+2)(hf:f'.stack.length<=1000000000):FrAt T K w' fb f' cv av tv sv' kv:=by
 obtain⟨tb,d1,d2,d3,d4⟩:=h.temps;have hp:=h.pos;refine⟨hb,h.tag,by rw[e1];exact h.args.fx xaK (.refl _ _) k (by omega),⟨tb,by rw[e2];exact d1,by rw[e2];exact k.held d2 (by rw[d3];omega),d3,by rw[e2];exact d4⟩,hs.keep fun g hg=>k.blk g (hs.lt g hg).2 (by rw[ho g hg];omega),ho,hf,by rw[e3];exact h.code.fx xbl (.refl _ _) k (by omega),by rw[e4];exact h.meth.fx xbl (.refl _ _) k (by omega),hp⟩
theorem FrAt.cut {a:Option Addr}{cap m:Nat}(h:FrAt T K w fb f cv av tv (.slice a f.stack.length cap) kv)(k:Kp (fun t=>t=K) T w w')(hb:w'.heap[fb]?=some (FB { f with stack:=f.stack.take m } cv av tv (.slice a m cap) kv))(hm:m<=f.stack.length):FrAt T K w' fb { f with stack:=f.stack.take m } cv av tv (.slice a m cap) kv:=by
 have hl:(f.stack.take m).length=m:=by rw[List.length_take];omega
 refine h.turn k hb rfl rfl rfl rfl ?_ (fun g hg=>h.stag g (by cases a<;>exact hg)) (by show (f.stack.take m).length<=_;rw[hl];have:=h.few;omega)
 show ownsAt w 0 27 2 _ (f.stack.take m).length _
 rw[hl]
 exact h.stack.take hm
theorem FrAt.vals (h:FrAt T K w fb f cv av tv sv kv):xaB (fun b=>sv.ownBlock=some b) w sv f.stack:=h.stack.vals (by have:=h.few;omega)
end
theorem xmb {n:Nat}(h:n<=1000000000)(k:Int)(hk:0<=k/\k<=9223372036854775807):IntKind.i64.wrap (IntKind.i64.wrap ((n:Int)-1)-k)=(n:Int)-1-k:=by
 rw[xaE (n:=(n:Int)-1) (by omega) (by omega),xaE (by omega) (by omega)]
theorem xfm {T:Nat->Nat}{K:Nat}{w:World}{fb:Nat}{f:Fr}{cv av tv sv kv:Value}(h:FrAt T K w fb f cv av tv sv kv)(n:Int)(hn:0<=n/\n<=9223372036854775807):Calls Tryz.prog 101 #[.pointer (some ⟨fb,0,none⟩),.int .i64 n] w fun e w'=>e=.returned (VV (xaW f.stack n))/\Below w.heap.size w w':=by
 have hv:=h.vals;have hlt:=xaf h.box;have c0:w.cell? ⟨fb,10,none⟩=some sv:=by rw[qzB h.box];rfl
 have hfew:=h.few;have HR:Hid (IntKind.i64.wrap (IntKind.i64.wrap ((f.stack.length:Int)-1)-n)=(f.stack.length:Int)-1-n):=xmb hfew n hn;clear h;obtain⟨a,cap,rfl,-⟩:=id hv;have hb1:Below w.heap.size w (w.alloc (.cells #[.int .i64 0,.int .i64 0] 27)).drew:=(xaj w _).drew;have hv1:=hv.later xaK hb1;have c1:=qzA hb1 c0;have r0:(w.alloc (.cells #[.int .i64 0,.int .i64 0] 27)).drew.cell? ⟨w.heap.size,0,none⟩=some (.int .i64 0):=xaa w #[.int .i64 0,.int .i64 0] 27 _ rfl 0;have r1:(w.alloc (.cells #[.int .i64 0,.int .i64 0] 27)).drew.cell? ⟨w.heap.size,1,none⟩=some (.int .i64 0):=xaa w #[.int .i64 0,.int .i64 0] 27 _ rfl 1
 have rf:∀ o,(w.alloc (.cells #[.int .i64 0,.int .i64 0] 27)).drew.frozen? ⟨w.heap.size,o,none⟩=false:=xam (qzJ w (.cells #[.int .i64 0,.int .i64 0] 27));have hz:w.heap.size<(w.alloc (.cells #[.int .i64 0,.int .i64 0] 27)).drew.heap.size:=by simp
 clear hv c0;go_enter Tryz.func101,Tryz.ntmps101
 go_upto_region 1 with (fail)
 generalize (w.alloc (.cells #[.int .i64 0,.int .i64 0] 27))=W at *
 go_region_held3 (fun w'=>w'.cell? ⟨fb,10,none⟩=some (Value.slice a f.stack.length cap))
  (first | with_reducible exact c1 | with_reducible exact c2 | exact (qzI _ _ _ _ (by simp;omega)).trans ((qzI _ _ _ _ (by simp;omega)).trans c2))
  (first | (go_at_call 92;rw[HR.out];refine (xc0 f.stack _ _ _ hv1).mono ?_;rintro e w1 ⟨rfl,hb2⟩;have c2:=qzA hb2 c1;have s0:=qzA hb2 r0;have s1:=qzA hb2 r1;have sf:∀ o,w1.frozen? ⟨w.heap.size,o,none⟩=false:=fun o=>(hb2.frozen (p:=⟨w.heap.size,o,none⟩) hz).trans (rf o)))
 go_wp2;refine qzK (v:=VV (xaW f.stack n)) ?_ rfl ⟨rfl,((xah hb1 hb2).setCell (by simp) _).setCell (by simp) _⟩
 simp[results,Tryz.results101,go_sem,s0,s1]
 exact⟨rfl,rfl⟩
theorem xe7 (w:World):w.drew.heap=w.heap:=rfl
theorem xeP {w:World}{fb:Nat}{f:Fr}{cv av tv sv kv:Value}(h:w.heap[fb]?=some (FB f cv av tv sv kv))(l:List QV)(sv':Value):(w.setCell ⟨fb,10,none⟩ sv').heap[fb]?=some (FB { f with stack:=l } cv av tv sv' kv):=by
 rw[xad h];rfl
theorem xdD {T:Nat->Nat}{K:Nat}{w:World}{fb:Nat}{f:Fr}{cv av tv sv kv:Value}(h:FrAt T K w fb f cv av tv sv kv):Calls Tryz.prog 94 #[.pointer (some ⟨fb,0,none⟩)] w fun e w'=>e=.returned (VV f.top)/\(∃ sv',FrAt T K w' fb f.pop cv av tv sv' kv)/\Kp (fun t=>t=K) T w w':=by
 have hlt:=xaf h.box;have hb1:Below w.heap.size w (w.alloc (.cells #[.int .i64 0,.int .i64 0] 27)):=xaj w _;have h1:=h.later hb1;have r0:(w.alloc (.cells #[.int .i64 0,.int .i64 0] 27)).cell? ⟨w.heap.size,0,none⟩=some (.int .i64 0):=xaa w #[.int .i64 0,.int .i64 0] 27 _ rfl 0;have r1:(w.alloc (.cells #[.int .i64 0,.int .i64 0] 27)).cell? ⟨w.heap.size,1,none⟩=some (.int .i64 0):=xaa w #[.int .i64 0,.int .i64 0] 27 _ rfl 1;have rf:∀ o,(w.alloc (.cells #[.int .i64 0,.int .i64 0] 27)).frozen? ⟨w.heap.size,o,none⟩=false:=xam (qzJ w (.cells #[.int .i64 0,.int .i64 0] 27));have hz:w.heap.size<(w.alloc (.cells #[.int .i64 0,.int .i64 0] 27)).heap.size:=by simp
 have HF:Hid (FrAt T K w fb f cv av tv sv kv):=h;have hfew:=h.few;clear h;go_enter Tryz.func94,Tryz.ntmps94
 go_upto_region 1 with (fail)
 generalize (w.alloc (.cells #[.int .i64 0,.int .i64 0] 27))=W at *;go_wp2_with fail;refine (xfm h1 0 ⟨by omega,by omega⟩).mono ?_
 rintro e w1 ⟨rfl,hb2⟩;have h2:=h1.later hb2;have hbb:=xah hb1 hb2;have s0:=qzA hb2 r0;have s1:=qzA hb2 r1;have sf:∀ o,w1.frozen? ⟨w.heap.size,o,none⟩=false:=fun o=>(hb2.frozen (p:=⟨w.heap.size,o,none⟩) hz).trans (rf o)
 have c0:w1.cell? ⟨fb,10,none⟩=some sv:=by rw[qzB h2.box];rfl
 have cf:=xam h2.box;have hz2:=hb2.size;have hzz:¬ fb=w.heap.size:=by omega
 have hzz':¬ w.heap.size=fb:=by omega
 have hbx:=h2.box;have hst:=h2.stack;have hl1:fb<w1.heap.size:=by omega
 have hl2:w.heap.size<w1.heap.size:=by omega
 obtain⟨a,cap,rfl,hc1,hc2⟩:=hst.form;unfold maxLen at hc2;have HT:Hid (f.top=xaW f.stack 0):=rfl;have HS:Hid (ownsAt w1 0 27 2 (.slice a f.stack.length cap) f.stack.length (xal f.stack)):=hst;have H2:Hid (FrAt T K w1 fb f cv av tv (.slice a f.stack.length cap) kv):=h2;have HX:Hid (w1.heap[fb]?=some (FB f cv av tv (.slice a f.stack.length cap) kv)):=hbx;clear h1 h2 r0 r1 rf hst hbx hb1 hb2;obtain⟨v,hv⟩:∃ v,v=xaW f.stack 0:=⟨_,rfl⟩;rw[← hv] at HT ⊢;clear hv;go_wp2;have HK:Hid (Kp (fun t=>t=K) T w1 (w1.alloc (.cells #[.int .i64 v.k,.int .i64 v.n] 27))):=Kp.of_below (xaj _ _)
 have H3:Hid (FrAt T K (w1.alloc (.cells #[.int .i64 v.k,.int .i64 v.n] 27)) fb f cv av tv (.slice a f.stack.length cap) kv):=H2.out.later (xaj _ _);have d0:=qzA (xaj w1 (.cells #[.int .i64 v.k,.int .i64 v.n] 27)) c0;have df:∀ o,(w1.alloc (.cells #[.int .i64 v.k,.int .i64 v.n] 27)).frozen? ⟨fb,o,none⟩=false:=xam H3.out.box;have u0:=qzA (xaj w1 (.cells #[.int .i64 v.k,.int .i64 v.n] 27)) s0;have u1:=qzA (xaj w1 (.cells #[.int .i64 v.k,.int .i64 v.n] 27)) s1;have uf:∀ o,(w1.alloc (.cells #[.int .i64 v.k,.int .i64 v.n] 27)).frozen? ⟨w.heap.size,o,none⟩=false:=fun o=>((xaj w1 _).frozen (p:=⟨w.heap.size,o,none⟩) hl2).trans (sf o)
 have b0:(w1.alloc (.cells #[.int .i64 v.k,.int .i64 v.n] 27)).cell? ⟨w1.heap.size,0,none⟩=some (.int .i64 v.k):=xaa _ _ _ _ rfl 0;have b1:(w1.alloc (.cells #[.int .i64 v.k,.int .i64 v.n] 27)).cell? ⟨w1.heap.size,1,none⟩=some (.int .i64 v.n):=xaa _ _ _ _ rfl 1;have n1:¬ w1.heap.size=fb:=by omega
 have n2:¬ w1.heap.size=w.heap.size:=by omega
 have n3:¬ w.heap.size=w1.heap.size:=by omega
 have n4:¬ fb=w1.heap.size:=by omega
 have HBV:Hid (Below w.heap.size w (w1.alloc (.cells #[.int .i64 v.k,.int .i64 v.n] 27))):=xah hbb (xaj _ _);clear s0 s1 sf c0 cf H2 HS HX;generalize (w1.alloc (.cells #[.int .i64 v.k,.int .i64 v.n] 27))=V at *;have HL:Hid (f.pop={ f with stack:=f.stack.take (f.stack.length-1) }):=by show _=_;unfold Fr.pop;rw[List.dropLast_eq_take]
 by_cases h0:f.stack.length=0
 ·have hw:IntKind.i64.wrap (((0:Nat):Int)-1)=-1:=by rfl
  have h0':Hid (f.stack.length-1=0):=by show _=_;omega
  rw[h0] at d0
  go_region
  go_wp2;refine qzK (v:=VV v) ?_ rfl ⟨by rw[HT.out],⟨.slice a 0 cap,?_⟩,?_⟩
  ·simp[results,Tryz.results94,go_sem,u0,u1,n2,n3]
  ·rw[HL.out,h0'.out];refine HF.out.cut (m:=0) ?_ ?_ (by omega)
   ·exact (((((Kp.of_below HBV.out).set (fun _=>HF.out.tag) _ _).set (fun h=>absurd h (Nat.lt_irrefl _)) _ _).set (fun h=>absurd h (Nat.lt_irrefl _)) _ _)).drew
   ·rw[xe7,xab hzz,xab hzz]
    exact xeP H3.out.box _ _
  ·exact (((((Kp.of_below HBV.out).set (fun _=>HF.out.tag) _ _).set (fun h=>absurd h (Nat.lt_irrefl _)) _ _).set (fun h=>absurd h (Nat.lt_irrefl _)) _ _)).drew
 ·obtain⟨m,hm⟩:∃ m,f.stack.length=m+1:=⟨f.stack.length-1,by omega⟩
  have hw:IntKind.i64.wrap ((f.stack.length:Int)-1)=(m:Int):=by rw[hm,xaE (by omega) (by omega)];omega
  have hm0:¬ ((m:Int)<0):=by omega
  have hm1:m<=cap:=by omega
  have hm2:(m:Int)<=(cap:Int):=by omega
  have HM:Hid (f.stack.length-1=m):=by show _=_;omega
  have HM2:Hid (m<=f.stack.length):=by show _<=_;omega
  clear hm h0;generalize hL:f.stack.length=L at hw d0
  go_region
  go_wp2;refine qzK (v:=VV v) ?_ rfl ⟨by rw[HT.out],⟨.slice a m cap,?_⟩,?_⟩
  ·simp[results,Tryz.results94,go_sem,u0,u1,n2,n3]
  ·rw[HL.out,HM.out];refine HF.out.cut (m:=m) ?_ ?_ HM2.out
   ·exact (((((Kp.of_below HBV.out).set (fun _=>HF.out.tag) _ _).set (fun h=>absurd h (Nat.lt_irrefl _)) _ _).set (fun h=>absurd h (Nat.lt_irrefl _)) _ _)).drew
   ·rw[xe7,xab hzz,xab hzz]
    exact xeP H3.out.box _ _
  ·exact (((((Kp.of_below HBV.out).set (fun _=>HF.out.tag) _ _).set (fun h=>absurd h (Nat.lt_irrefl _)) _ _).set (fun h=>absurd h (Nat.lt_irrefl _)) _ _)).drew
theorem FrAt.pushed {T:Nat->Nat}{K:Nat}{w U w':World}{fb:Nat}{f:Fr}{cv av tv sv sv' kv:Value}{v:QV}(h:FrAt T K w fb f cv av tv sv kv)(hU:Below w.heap.size w U)(hn:f.stack.length<1000000000)
  (r1:ownsAt w' 0 27 2 sv' (f.stack.length+1) (xal f.stack++[.int .i64 v.k,.int .i64 v.n])) (r2:sv'.ownBlock=sv.ownBlock\/∃ g,sv'.ownBlock=some g/\U.heap.size<=g) (r3:Below 0 U w') (r4:∀ b,b<U.heap.size->some b≠sv.ownBlock->w'.heap[b]?=U.heap[b]?) (hx:w'.heap[fb]?=some (FB f cv av tv sv kv)) :
  (∃ T',Ext T T' w/\FrAt T' K (w'.setCell ⟨fb,10,none⟩ sv') fb (f.push v) cv av tv sv' kv)/\Kp (fun t=>t=K\/t=K+2) T w (w'.setCell ⟨fb,10,none⟩ sv'):=by
 have hlt:=xaf h.box;have hp:=h.pos
 have kU:Kp (fun t=>t=K\/t=K+2) T w w':=⟨r3.os.trans hU.os,r3.tape.trans hU.tape,r3.output.trans hU.output,qzD hU.size r3.size,fun b hb hs=>by
  rw[r4 b (qzE hb hU.size) (fun e=>hs (Or.inr (h.stag b e.symm))),hU.block b hb]⟩
 have k:=kU.set (b:=fb) (fun _=>Or.inl h.tag) 10 sv'
 obtain⟨T',hT,hg⟩:∃ T',Ext T T' w/\∀ g,sv'.ownBlock=some g->T' g=K+2:=by
  rcases r2 with e | ⟨g,e,hg⟩
  ·exact⟨T,.refl _ _,fun g hg=>h.stag g (by rw[← e];exact hg)⟩
  ·exact⟨xhE T g (K+2),xd5 (qzD hU.size hg),fun g' h'=>by rw[e] at h';cases h';exact xdv _ _ _⟩
 refine⟨⟨T',hT,?_⟩,k⟩;obtain⟨tb,d1,d2,d3,d4⟩:=h.temps;refine⟨xeP hx (f.stack++[v]) sv',by rw[hT _ hlt];exact h.tag,h.args.fx xaK hT k (by omega),⟨tb,d1,k.held d2 (by rw[d3];omega),by rw[hT _ (xaf d2)];exact d3,d4⟩,?_,hg,?_,h.code.fx xbl hT k (by omega),h.meth.fx xbl hT k (by omega),hp⟩
 ·have r1':ownsAt w' 0 27 2 sv' (f.push v).stack.length (xal (f.push v).stack):=by
   show ownsAt w' 0 27 2 sv' (f.stack++[v]).length (xal (f.stack++[v]))
   rw[xck,List.length_append]
   exact r1
  exact r1'.keep fun g hg'=>xab (fun e=>by have:=hg g hg';rw[e,hT _ hlt,h.tag] at this;omega) _
 ·show (f.stack++[v]).length<=_
  simp;omega
theorem xdM {T:Nat->Nat}{K:Nat}{w:World}{fb:Nat}{f:Fr}{cv av tv sv kv:Value}(h:FrAt T K w fb f cv av tv sv kv)(v:QV)(hroom:f.stack.length<1000000000):Calls Tryz.prog 103 #[.pointer (some ⟨fb,0,none⟩),VV v] w fun e w'=>e=.returned (.tuple #[])/\(∃ T' sv',Ext T T' w/\FrAt T' K w' fb (f.push v) cv av tv sv' kv)/\Kp (fun t=>t=K\/t=K+2) T w w':=by
 have hlt:=xaf h.box;have h1:=h.later (xaj w (.cells #[.int .i64 v.k,.int .i64 v.n] 27));have b0:(w.alloc (.cells #[.int .i64 v.k,.int .i64 v.n] 27)).cell? ⟨w.heap.size,0,none⟩=some (.int .i64 v.k):=xaa _ _ _ _ rfl 0;have b1:(w.alloc (.cells #[.int .i64 v.k,.int .i64 v.n] 27)).cell? ⟨w.heap.size,1,none⟩=some (.int .i64 v.n):=xaa _ _ _ _ rfl 1;have HBV:Hid (Below w.heap.size w (w.alloc (.cells #[.int .i64 v.k,.int .i64 v.n] 27))):=xaj _ _;go_enter Tryz.func103,Tryz.ntmps103
 go_upto_region 1 with (fail)
 generalize (w.alloc (.cells #[.int .i64 v.k,.int .i64 v.n] 27))=V at *;have c0:V.cell? ⟨fb,10,none⟩=some sv:=by rw[qzB h1.box];rfl
 have cf:=xam h1.box;have hl1:fb<V.heap.size:=xaf h1.box;have hl2:¬ fb=V.heap.size:=by omega
 have hst:ownsAt (V.alloc (.cells #[.int .i64 v.k,.int .i64 v.n] 27)).drew 0 27 2 sv f.stack.length (xal f.stack):=(h1.stack.alloc _).keep fun g hg=>rfl
 obtain⟨v',w',hrun,r1,r2,r3,r4⟩:=xaF (w:=(V.alloc (.cells #[.int .i64 v.k,.int .i64 v.n] 27)).drew) 28 28 27 _ 2 16 Tryz.underlying28 xbW rfl (by omega) 0 f.stack.length sv (xal f.stack) hst V.heap.size [.int .i64 v.k,.int .i64 v.n] rfl (qzJ V _) (by simp;exact⟨rfl,rfl⟩) (by unfold maxLen;omega) (by omega) (by omega)
 obtain⟨a,cap,rfl,hc1,hc2⟩:=h1.stack.form;obtain⟨a',cap',rfl,-⟩:=r1.form;have R1:Hid (ownsAt w' 0 27 2 (.slice a' (f.stack.length+1) cap') (f.stack.length+1) (xal f.stack++[.int .i64 v.k,.int .i64 v.n])):=r1;have R2:=hid r2;have R4:=hid r4;have HB3:Hid (Below 0 _ w'):=r3;have hnb:some fb≠(Value.slice a f.stack.length cap).ownBlock:=fun e=>by have:=h1.stag fb e.symm;rw[h1.tag] at this;omega
 have hbx:w'.heap[fb]?=some (FB f cv av tv (.slice a f.stack.length cap) kv):=by
  rw[r4 fb (by simp;omega) hnb];exact xac h1.box (xaj _ _).drew
 have d0:w'.cell? ⟨fb,10,none⟩=some (.slice a f.stack.length cap):=by rw[qzB hbx];rfl
 have df:=xam hbx;have HX:=hid hbx;have H0:=hid h;have HBU:Hid (Below w.heap.size w (V.alloc (.cells #[.int .i64 v.k,.int .i64 v.n] 27)).drew):=xah HBV.out (xaj _ _).drew;clear r1 r2 r3 r4 hst h1 hbx hnb h
 go_region_law (refine xat rfl (.tmp 8) (.tmp 10) 28 rfl (.slice a f.stack.length cap) (.slice (some ⟨V.heap.size,0,none⟩) 1 1) (.slice a' (f.stack.length+1) cap') (by simp[Act.eval,Act.put]) (by simp[Act.eval,Act.put]) hrun ?_)
 all_goals (
  go_wp2;obtain⟨⟨T',e1,e2⟩,e3⟩:=H0.out.pushed (v:=v) HBU.out hroom R1.out R2.out HB3.out R4.out HX.out
  exact bodyPost_end (v:=.tuple #[]) (by simp[results,Tryz.results103,go_sem]) rfl ⟨rfl,⟨T',_,e1,e2⟩,e3⟩)
theorem xry {X:QW}{l:List QE}{j q:Nat}{x:QE}{y:QL}(hx:l[j]?=some x)(hy:x.lz[q]?=some y)(he:x.ez=X.ez)(h:xpq X.cz x.site y=false):xpn X l=false:=by
 cases hs:xpn X l with
 | false=>rfl
 | true=>
  have h1:=List.all_eq_true.1 (List.all_eq_true.1 hs x (List.mem_of_getElem? hx)) y (List.mem_of_getElem? hy)
  simp[he,h] at h1
theorem xrs {X:QW}{l:List QE}(h:∀ (j:Nat) (x:QE),l[j]?=some x->∀ (q:Nat) (y:QL),x.lz[q]?=some y->x.ez=X.ez->xpq X.cz x.site y=true):xpn X l=true:=by
 refine List.all_eq_true.2 fun x hx=>List.all_eq_true.2 fun y hy=>?_
 obtain⟨j,hj,rfl⟩:=List.mem_iff_getElem.1 hx;obtain⟨q,hq,rfl⟩:=List.mem_iff_getElem.1 hy;have:=h j _ (by rw[List.getElem?_eq_getElem hj]) q _ (by rw[List.getElem?_eq_getElem hq])
 by_cases he:l[j].ez=X.ez
 ·simp[this he]
 ·simp[he]
theorem xpG {cs:List QC}{s:QS}(y:QL)(h:xpy cs s=none):xpq cs s y=false:=by unfold xpq;rw[h]
theorem xpL {cs:List QC}{s:QS}(y:QL)(h:¬ ((xaw cs s.cls s.name).1=s.cls/\0<=s.cls/\0<=s.at')):xpq cs s y=false:=xpG y (if_neg h)
theorem xqe {cs:List QC}{s:QS}(y:QL){x:QI}(h:xpy cs s=some x):xpq cs s y=(decide (0<=(xaw cs y.cls x.name).2) && decide ((xaw cs y.cls x.name).1=y.found)):=by unfold xpq;rw[h]
theorem xq3 (cs:List QC)(s:QS)(q jn k:Nat)(y:QC)(m:QM)(hk:s.cls=(q:Int))(hy:cs[q]?=some y)(hf:xaw cs s.cls s.name=((q:Int),(jn:Int)))(hm:y.mz[jn]?=some m)(ha:s.at'=(k:Int)):xpy cs s=m.code[k]?:=by
 unfold xpy;rw[hf,if_pos ⟨hk.symm,by omega,by omega⟩,hk]
 unfold xaO;rw[xfp,hy,ha]
 simp[hm]
theorem xrl {cs:List QC}{s:QS}(h:(xaw cs s.cls s.name).1=s.cls)(h0:0<=s.cls):∃ (q jn:Nat) (y:QC) (m:QM),s.cls=(q:Int)/\cs[q]?=some y/\xaw cs s.cls s.name=((q:Int),(jn:Int))/\y.mz[jn]?=some m:=by
 rcases xpJ cs s.cls s.name with e | ⟨q,y,hy,h1,e⟩
 ·rw[e] at h;simp at h;omega
 ·obtain⟨m,e1,-⟩:=xpZ h1;rw[e] at h;simp only at h;refine⟨q,(xcu y.mz s.name).toNat,y,m,h.symm,hy,?_,e1⟩;rw[e]
  simp;omega
structure WtB (w:World)(cv hv:Value)(ep:Int)(wr:World):Prop where
 bel:Below w.heap.size w wr
 a0:wr.cell? ⟨w.heap.size,0,none⟩=some cv
 a1:wr.cell? ⟨w.heap.size,1,none⟩=some hv
 a2:wr.cell? ⟨w.heap.size,2,none⟩=some (.int .i64 ep)
theorem WtB.later {w:World}{cv hv:Value}{ep:Int}{wr ws:World}(h:WtB w cv hv ep wr)(hb:Below wr.heap.size wr ws):WtB w cv hv ep ws:=⟨xah h.bel hb,qzA hb h.a0,qzA hb h.a1,qzA hb h.a2⟩
theorem xpY (w:World)(cv hv:Value)(ep:Int):WtB w cv hv ep (w.alloc (.cells #[cv,hv,.int .i64 ep] 25)):=⟨xaj _ _,by rw[xaa _ _ _ _ rfl];rfl,by rw[xaa _ _ _ _ rfl];rfl,by rw[xaa _ _ _ _ rfl];rfl⟩
theorem xpV {P:Nat->Prop}{w:World}{a:Option Addr}{cap:Nat}{cs:List QC}{q jn:Nat}{y:QC}{m:QM}(hC:xai P w (.slice a cs.length cap) cs)(hy:cs[q]?=some y)(hm:y.mz[jn]?=some m) :
  ∃ bc oc bm om cm av ck,a=some ⟨bc,oc,none⟩/\w.cell? ⟨bc,oc+q*4+3,none⟩=some (.slice (some ⟨bm,om,none⟩) y.mz.length cm)/\w.cell? ⟨bm,om+jn*5+4,none⟩=some (.slice av m.code.length ck)/\xa5 P w (.slice av m.code.length ck) m.code:=by
 obtain⟨a',c',e',-,-,-,hr⟩:=hC
 cases e'
 obtain⟨bc,oc,rfl,-,-,-,-,-,mv,h3,hM⟩:=hr q y hy;obtain⟨a2,c2,rfl,-,-,-,hr2⟩:=hM;obtain⟨bm,om,rfl,-,-,-,-,-,-,kv,h4,hK⟩:=hr2 jn m hm;obtain⟨av,ck,rfl⟩:=hK.get
 exact⟨bc,oc,bm,om,c2,av,ck,rfl,h3,h4,hK⟩
theorem xp2 {P:Nat->Prop}{w:World}{a:Option Addr}{cap:Nat}{xs:List QI}{k:Nat}{x:QI}(h:xa5 P w (.slice a xs.length cap) xs)(hx:xs[k]?=some x):∃ b o,a=some ⟨b,o,none⟩/\w.cell? ⟨b,o+k*5+4,none⟩=some (.string x.name):=by
 obtain⟨a',c',e',-,-,-,hr⟩:=h
 cases e'
 obtain⟨b,o,rfl,-,-,-,-,-,h4,-⟩:=hr k x hx
 exact⟨b,o,rfl,h4⟩
theorem xri {w w':World}{b0 o0:Nat}{v0:Value}{b1 o1:Nat}{v1:Value}{b2 o2:Nat}{v2:Value}{b3 o3:Nat}{v3:Value}{b4 o4:Nat}{v4:Value}{b5 o5:Nat}{v5:Value}{b6 o6:Nat}{v6:Value}{b7 o7:Nat}{v7:Value}(h:w.cell? ⟨b0,o0,none⟩=some v0/\w.cell? ⟨b1,o1,none⟩=some v1/\w.cell? ⟨b2,o2,none⟩=some v2/\w.cell? ⟨b3,o3,none⟩=some v3/\w.cell? ⟨b4,o4,none⟩=some v4/\w.cell? ⟨b5,o5,none⟩=some v5/\w.cell? ⟨b6,o6,none⟩=some v6/\w.cell? ⟨b7,o7,none⟩=some v7)(hb:Below w.heap.size w w'):w'.cell? ⟨b0,o0,none⟩=some v0/\w'.cell? ⟨b1,o1,none⟩=some v1/\w'.cell? ⟨b2,o2,none⟩=some v2/\w'.cell? ⟨b3,o3,none⟩=some v3/\w'.cell? ⟨b4,o4,none⟩=some v4/\w'.cell? ⟨b5,o5,none⟩=some v5/\w'.cell? ⟨b6,o6,none⟩=some v6/\w'.cell? ⟨b7,o7,none⟩=some v7:=
 ⟨qzA hb h.1,qzA hb h.2.1,qzA hb h.2.2.1,qzA hb h.2.2.2.1,qzA hb h.2.2.2.2.1,qzA hb h.2.2.2.2.2.1,qzA hb h.2.2.2.2.2.2.1,qzA hb h.2.2.2.2.2.2.2⟩
theorem xqv {P Q:Nat->Prop}(X:QW)(l:List QE)(cv hv v:Value)(w:World)(hC:xai P w cv X.cz)(hH:xaC P w hv X.heap)(hL:xbk Q w v l):Calls Tryz.prog 6 #[WV cv hv X.ez,v] w fun e w'=>e=.returned (.bool (xpn X l))/\Below w.heap.size w w':=by
 obtain⟨ac,cc,rfl,-,hcc,-⟩:=id hC;obtain⟨ah,ch,rfl,-⟩:=id hH;obtain⟨ad,cap,rfl,hl,hcap,-,hrow⟩:=id hL;unfold maxLen at hcap hcc;have hB0:=xpY w (.slice ac X.cz.length cc) (.slice ah X.heap.length ch) X.ez;go_enter Tryz.func6,Tryz.ntmps6;go_wp2;generalize (w.alloc (.cells #[.slice ac X.cz.length cc,.slice ah X.heap.length ch,.int .i64 X.ez] 25))=W0 at *
 go_loopg [16] l.length (fun g i wr=>∃ j:Nat,j+g=l.length/\i=.int .i64 j/\WtB w (.slice ac X.cz.length cc) (.slice ah X.heap.length ch) X.ez wr/\∀ (j':Nat) (x:QE),j'<j->l[j']?=some x->∀ (q:Nat) (y:QL),x.lz[q]?=some y->x.ez=X.ez->xpq X.cz x.site y=true)
 case atStart=>exact⟨0,by omega,rfl,hB0,fun j' x h=>by omega⟩
 case round=>
  obtain⟨j,hj,rfl,hR,hno⟩:=hrel;have HN:=hid hno;clear hno hB0
  by_cases hlt:j<l.length
  ·obtain⟨b,o,rfl,-,q0,q1,q2,q3,q4,lv,q5,ql⟩:=hrow j l[j] (by simp[hlt])
   have hxj:Hid (l[j]?=some l[j]):=by show _=_;simp[hlt]
   generalize l[j]=x at *;simp only[Nat.add_zero] at q0;obtain⟨ad2,cap2,rfl,hl2,hcap2,-,-⟩:=id ql;unfold maxLen at hcap2;have hj1:(j:Int)<(l.length:Int):=by omega
   have hj0:(0:Int)<=(j:Int):=by omega
   replace q0:=qzA hR.bel q0;replace q1:=qzA hR.bel q1;replace q2:=qzA hR.bel q2;replace q3:=qzA hR.bel q3;replace q4:=qzA hR.bel q4;replace q5:=qzA hR.bel q5;have hl1:=ql.later xbq hR.bel;have hx0:=xgx wr x (.slice ad2 x.lz.length cap2) 70;have hbx:=xaj wr (.cells #[.int .i64 x.site.cls,.string x.site.name,.int .i64 x.site.at',.int .i64 x.ez,.bool x.many,.slice ad2 x.lz.length cap2] 70);clear hrow
   go_upto_region 4 with (fail)
   replace hl1:=hl1.later xbq hbx;have hR1:=hR.later hbx;clear q0 q1 q2 q3 q4 q5 ql hbx hR;generalize (wr.alloc (.cells #[.int .i64 x.site.cls,.string x.site.name,.int .i64 x.site.at',.int .i64 x.ez,.bool x.many,.slice ad2 x.lz.length cap2] 70))=W1 at *;generalize wr.heap.size=xb at *;have v5:=hx0.c5;go_wp2;clear v5
   go_loopg [23] x.lz.length (fun g i wr=>∃ q:Nat,q+g=x.lz.length/\i=.int .i64 q/\WtB w (.slice ac X.cz.length cc) (.slice ah X.heap.length ch) X.ez wr/\BoxE wr xb x (.slice ad2 x.lz.length cap2)/\xbI Q wr (.slice ad2 x.lz.length cap2) x.lz/\∀ (q':Nat) (y:QL),q'<q->x.lz[q']?=some y->x.ez=X.ez->xpq X.cz x.site y=true)
   case atStart=>exact⟨0,by omega,rfl,hR1,hx0,hl1,fun q' y h=>by omega⟩
   case round=>
    obtain⟨q,hq,rfl,hR,hxq,hlq,hno⟩:=hrel;have HQ:=hid hno;clear hR1 hl1 hno hx0
    by_cases hltq:q<x.lz.length
    ·obtain⟨ad3,cap3,e3,-,-,-,hrow3⟩:=id hlq;simp only[Value.slice.injEq] at e3;obtain⟨rfl,-,-⟩:=e3;obtain⟨b3,o3,rfl,-,y0,y1⟩:=hrow3 q x.lz[q] (by simp[hltq])
     have hyq:Hid (x.lz[q]?=some x.lz[q]):=by show _=_;simp[hltq]
     generalize x.lz[q]=y at *;simp only[Nat.add_zero] at y0;have hq1:(q:Int)<(x.lz.length:Int):=by omega
     have hq0:(0:Int)<=(q:Int):=by omega
     have hby:=xaj wr (.cells #[.int .i64 y.cls,.int .i64 y.found] 72);have z0:(wr.alloc (.cells #[.int .i64 y.cls,.int .i64 y.found] 72)).cell? ⟨wr.heap.size,0,none⟩=some (.int .i64 y.cls):=by rw[xaa _ _ _ _ rfl];rfl
     have z1:(wr.alloc (.cells #[.int .i64 y.cls,.int .i64 y.found] 72)).cell? ⟨wr.heap.size,1,none⟩=some (.int .i64 y.found):=by rw[xaa _ _ _ _ rfl];rfl
     clear hrow3
     go_upto_region 7 with (fail)
     replace hR:=hR.later hby;replace hxq:=hxq.later hby;replace hlq:=hlq.later xbq hby;clear hby y0 y1;generalize (wr.alloc (.cells #[.int .i64 y.cls,.int .i64 y.found] 72))=V at *;generalize wr.heap.size=yb at *
     by_cases he:x.ez=X.ez
     ·as_aux_lemma=>
      have hd:(x.ez != X.ez)=false:=by simpa using he
      have HE:=hid he;have hNO:Hid (xpq X.cz x.site y=false->xpn X l=false):=xry hxj.out hyq.out he;have a0:=hR.a0;have a2:=hR.a2;have c0:=hxq.c0;have c1:=hxq.c1;have c2:=hxq.c2;have c3:=hxq.c3;have hsN:=xeS V x.site 67;have hbs:=xaj V (.cells #[.int .i64 x.site.cls,.string x.site.name,.int .i64 x.site.at'] 67);clear he
      go_upto_region 9 with (fail)
      replace hR:=hR.later hbs;replace hxq:=hxq.later hbs;replace hlq:=hlq.later xbq hbs;replace z0:=qzA hbs z0;replace z1:=qzA hbs z1;clear a0 a2 c0 c1 c2 c3 hbs;generalize (V.alloc (.cells #[.int .i64 x.site.cls,.string x.site.name,.int .i64 x.site.at'] 67))=U at *;generalize V.heap.size=sb at *;have a0:=hR.a0;have a1:=hR.a1;have a2:=hR.a2;obtain⟨s0,s1,s2⟩:=id hsN
      by_cases h0:x.site.cls<0
      ·have hd0:decide (x.site.cls<0)=true:=by simpa using h0
       have HF:Hid (xpn X l=false):=hNO.out (xpL y (by omega))
       clear h0;go_wp2
       go_ret
       exact⟨xb7 HF.out.symm,hR.bel⟩
      ·have hd0:decide (x.site.cls<0)=false:=by simpa using h0
       have HC0:Hid (0<=x.site.cls):=hid (by omega)
       clear h0
       by_cases h1:(X.cz.length:Int)<=x.site.cls
       ·have hd1:decide ((X.cz.length:Int)<=x.site.cls)=true:=by simpa using h1
        have HF:Hid (xpn X l=false):=hNO.out (xpL y (by have:=(xpx X.cz x.site.cls x.site.name).2;omega))
        clear h1;go_wp2
        go_ret
        exact⟨xb7 HF.out.symm,hR.bel⟩
       ·have hd1:decide ((X.cz.length:Int)<=x.site.cls)=false:=by simpa using h1
        clear h1;go_wp2_with fail;refine (xhs X x.site.cls x.site.name _ _ _ (hC.later xaz hR.bel) (hH.later xaD hR.bel)).mono ?_;rintro e w1 ⟨rfl,hb1⟩;have HNO2:=hid (fun h=>hNO.out (xpL (cs:=X.cz) (s:=x.site) y h))
        have HFM:=hid (xrl (cs:=X.cz) (s:=x.site));have HCA:=hid (xq3 X.cz x.site);obtain⟨fr,hfr⟩:∃ r,xaw X.cz x.site.cls x.site.name=r:=⟨_,rfl⟩;rw[hfr];rw[hfr] at HNO2 HFM HCA;clear hfr;obtain⟨f1,f2⟩:=fr;replace hR:=hR.later hb1;replace hxq:=hxq.later hb1;replace hlq:=hlq.later xbq hb1;replace z0:=qzA hb1 z0;replace z1:=qzA hb1 z1;replace hsN:=hsN.later hb1;clear a0 a1 a2 s0 s1 s2 hb1;obtain⟨s0,s1,s2⟩:=id hsN;have a0:=hR.a0
        by_cases h2:f1=x.site.cls
        ·obtain⟨qn,jn,yc,m,g1,g2,g3,g4⟩:=HFM.out h2 HC0.out;simp only[Prod.mk.injEq] at g3;obtain⟨rfl,rfl⟩:=g3;obtain⟨bc,oc,bm,om,cm,av,ck,rfl,m3,m4,hK⟩:=xpV (hC.later xaz hR.bel) g2 g4;have HG1:=hid g1;have HG2:=hid g2;have HG4:=hid g4;have hqn:(qn:Int)<(X.cz.length:Int):=by have:=xae g2;omega
         have hjn:(jn:Int)<(yc.mz.length:Int):=by have:=xae g4;omega
         have hqn0:(0:Int)<=(qn:Int):=by omega
         have hjn0:(0:Int)<=(jn:Int):=by omega
         rw[g1] at s0;clear h2 g1 g2 g4 hd0 hd1
         by_cases h3:x.site.at'<0
         ·have hd3:decide (x.site.at'<0)=true:=by simpa using h3
          have HF:Hid (xpn X l=false):=HNO2.out (by omega)
          clear h3;go_wp2
          go_quiet (fail)
          go_wp2
          go_ret
          exact⟨xb7 HF.out.symm,below_drewN hR.bel _⟩
         ·have hd3:decide (x.site.at'<0)=false:=by simpa using h3
          obtain⟨k,hk⟩:∃ k:Nat,x.site.at'=(k:Int):=⟨x.site.at'.toNat,by omega⟩
          have HCE:=hid (HCA.out _ _ _ _ _ HG1.out HG2.out rfl HG4.out hk);rw[hk] at s2 hd3;clear h3 hk
          by_cases h4:(m.code.length:Int)<=(k:Int)
          ·have hd4:decide ((m.code.length:Int)<=(k:Int))=true:=by simpa using h4
           have hd4':decide (m.code.length<=k)=true:=by simpa using h4
           have HF:Hid (xpn X l=false):=hNO.out (xpG y (by rw[HCE.out,List.getElem?_eq_none_iff];omega))
           clear h4;go_wp2
           go_quiet (fail)
           go_wp2
           go_ret
           exact⟨xb7 HF.out.symm,below_drewN hR.bel _⟩
          ·have hd4:decide ((m.code.length:Int)<=(k:Int))=false:=by simpa using h4
           have hd4':decide (m.code.length<=k)=false:=by simpa using h4
           have hkc:(k:Int)<(m.code.length:Int):=by omega
           have hk0:(0:Int)<=(k:Int):=by omega
           clear h4;obtain⟨ins,hins⟩:∃ ins,m.code[k]?=some ins:=⟨_,List.getElem?_eq_getElem (by omega)⟩
           obtain⟨bi,oi,rfl,i4⟩:=xp2 hK hins;have HOK:=hid (xqe (cs:=X.cz) (s:=x.site) y (HCE.out.trans hins));clear hins;go_wp2
           go_quiet (fail)
           have hq2:=below_drewN (qzL w1.heap.size w1) nq;replace hR:=hR.later hq2;replace hxq:=hxq.later hq2;replace hlq:=hlq.later xbq hq2;replace z0:=qzA hq2 z0;replace z1:=qzA hq2 z1;replace m3:=qzA hq2 m3;replace m4:=qzA hq2 m4;replace i4:=qzA hq2 i4;replace s2:=qzA hq2 s2;clear hq2 s0 s1 a0 hK hsN hd3;generalize w1.drewN nq=Y at *;have a0:=hR.a0;have a1:=hR.a1;have a2:=hR.a2
           go_upto_region 14 with (fail)
           have hS0:Y.drew.cell? ⟨w.heap.size,0,none⟩=some (.slice (some ⟨bc,oc,none⟩) X.cz.length cc)/\Y.drew.cell? ⟨w.heap.size,1,none⟩=some (.slice ah X.heap.length ch)/\Y.drew.cell? ⟨w.heap.size,2,none⟩=some (.int .i64 X.ez)/\Y.drew.cell? ⟨yb,0,none⟩=some (.int .i64 y.cls)/\Y.drew.cell? ⟨bc,oc+qn*4+3,none⟩=some (.slice (some ⟨bm,om,none⟩) yc.mz.length cm)/\Y.drew.cell? ⟨bm,om+jn*5+4,none⟩=some (.slice (some ⟨bi,oi,none⟩) m.code.length ck)/\Y.drew.cell? ⟨sb,2,none⟩=some (.int .i64 (k:Int))/\Y.drew.cell? ⟨bi,oi+k*5+4,none⟩=some (.string ins.name):=⟨a0,a1,a2,z0,m3,m4,s2,i4⟩;have hCd:=hC.later xaz (hR.bel.trans ((qzL _ Y).drew.mono hR.bel.size))
           have hHd:=hH.later xaD (hR.bel.trans ((qzL _ Y).drew.mono hR.bel.size));have HRd:=hid (hR.later (qzL _ Y).drew);have HXd:=hid (hxq.later (qzL _ Y).drew);have HLd:=hid (hlq.later xbq (qzL _ Y).drew);have z1d:=qzA (qzL _ Y).drew z1;clear a0 a1 a2 z0 z1 m3 m4 s2 i4 hR hxq hlq hd hd4 hd4';have tokA:True:=trivial
           go_region_held3 (fun w'=>w'.cell? ⟨w.heap.size,0,none⟩=some (.slice (some ⟨bc,oc,none⟩) X.cz.length cc)/\w'.cell? ⟨w.heap.size,1,none⟩=some (.slice ah X.heap.length ch)/\w'.cell? ⟨w.heap.size,2,none⟩=some (.int .i64 X.ez)/\w'.cell? ⟨yb,0,none⟩=some (.int .i64 y.cls)/\w'.cell? ⟨bc,oc+qn*4+3,none⟩=some (.slice (some ⟨bm,om,none⟩) yc.mz.length cm)/\w'.cell? ⟨bm,om+jn*5+4,none⟩=some (.slice (some ⟨bi,oi,none⟩) m.code.length ck)/\w'.cell? ⟨sb,2,none⟩=some (.int .i64 (k:Int))/\w'.cell? ⟨bi,oi+k*5+4,none⟩=some (.string ins.name))
            (first | with_reducible exact hS0 | with_reducible exact hS1)
            (first | (have _t:=tokA;go_at_call 19;refine (xhs X y.cls ins.name _ _ _ hCd hHd).mono ?_;rintro e w2 ⟨rfl,hb2⟩;have hS1:=xri hS0 hb2;clear tokA))
           generalize xaw X.cz y.cls ins.name=fr at *;obtain⟨f1,f2⟩:=fr;have hR:=HRd.out.later hb2;have hxq:=HXd.out.later hb2;have hlq:=HLd.out.later xbq hb2;have z1:=qzA hb2 z1d;clear hS0 hS1 hCd hHd hb2 z1d
           by_cases k1:f2<0
           ·have hd0:decide (f2<0)=true:=by simpa using k1
            have HF:Hid (xpn X l=false):=hNO.out (HOK.out.trans (by simp;omega))
            clear k1;go_wp2
            go_ret
            exact⟨xb7 HF.out.symm,hR.bel⟩
           ·have hd0:decide (f2<0)=false:=by simpa using k1
            by_cases k2:f1=y.found
            ·have hd1:(f1 != y.found)=false:=by simpa using k2
             have HT:Hid (xpq X.cz x.site y=true):=HOK.out.trans (by simp[k2];omega)
             clear k1 k2;go_wp2
             go_roundg (x.lz.length-(q+1))
             case measure=>omega
             case rel=>
              refine⟨q+1,by omega,by go_num,hR,hxq,hlq,fun q' z hq' hz he=>?_⟩
              by_cases h:q'=q
              ·subst h;rw[hyq.out] at hz;cases hz;exact HT.out
              ·exact HQ.out q' z (by omega) hz he
            ·have hd1:(f1 != y.found)=true:=by simpa using k2
             have HF:Hid (xpn X l=false):=hNO.out (HOK.out.trans (by simp[k2]))
             clear k1 k2;go_wp2
             go_ret
             exact⟨xb7 HF.out.symm,hR.bel⟩
        ·have HF:Hid (xpn X l=false):=HNO2.out (by omega)
         have hd2:(f1 != x.site.cls)=true:=by simpa using h2
         clear h2;go_wp2
         go_quiet (fail)
         go_wp2
         go_ret
         exact⟨xb7 HF.out.symm,below_drewN hR.bel _⟩
     ·have hd:(x.ez != X.ez)=true:=by simpa using he
      have HE:=hid he;have a2:=hR.a2;have c3:=hxq.c3;clear he;go_wp2
      go_roundg (x.lz.length-(q+1))
      case measure=>omega
      case rel=>
       refine⟨q+1,by omega,by go_num,hR,hxq,hlq,fun q' z hq' hz h=>absurd h HE.out⟩
    ·obtain rfl:q=x.lz.length:=by omega
     go_wp2
     go_roundg (l.length-(j+1))
     case measure=>omega
     case rel=>
      refine⟨j+1,by omega,by go_num,hR,fun j' z hj' hz=>?_⟩
      by_cases h:j'=j
      ·subst h;rw[hxj.out] at hz;cases hz;exact fun q' y hy=>HQ.out q' y (xae hy) hy
      ·exact HN.out j' z (by omega) hz
  ·obtain rfl:j=l.length:=by omega
   have HF:Hid (xpn X l=true):=xrs fun j x hx=>HN.out j x (xae hx) hx
   go_wp2
   go_ret
   exact⟨xb7 HF.out.symm,hR.bel⟩
end Go.Proofs.YtapbeiccodnniaaGreat
