/- A part. -/
import Derived.Test.YtdfbgpiikeheiaaQ1
namespace Go.Proofs.Ytdfbgpiikeheiaa
open Go.ChangeShapes Go.WideShapes Go.ChangeAt Go.RowKit
set_option linter.unusedSimpArgs false
set_option linter.unusedVariables false
set_option maxHeartbeats 8000000
set_option maxRecDepth 8000
theorem hid {p:Prop}(h:p):Hid p:=h
theorem xaw {P:Program}{ops:Array Oper}{o:Oper}{a:Act}{w w':World}{K:Act->World->Prop}{Q:Exit->Act->World->Prop}{E:Prop}(hg:o.guard=none)(s x:Operand)(T:TypeId)(hop:o.op=Op.call { callee:=Callee.builtin Builtin.append,args:=#[s,x],argTypes:=#[T,T] })
  (vs vx v':Value) (hs:a.eval s=vs) (hx:a.eval x=vx) (hrun:(Builtin.append_ #[T,T] o.type #[vs,vx]).run P w=.ok v' w') (hK:K (a.put o.dst v') w'):if Region.wanted o (yielded ops a.tmps)=true then Oper.wp P o a w K Q else E:=by
 have hw:Region.wanted o (yielded ops a.tmps)=true:=by simp[Region.wanted,hg]
 rw[if_pos hw];unfold Oper.wp
 simp[execOp,hop,resolve,invoke,builtin,hs,hx,hrun,Result.andThen]
 exact hK
theorem xap {w:World}{b:Nat}{cur:Array Value}{t:TypeId}(h:w.heap[b]?=some (.cells cur t (0,0)))(o:Nat):w.frozen? ⟨b,o,none⟩=false:=by unfold World.frozen?;simp[h]
theorem ownsAt.vals {w:World}{base:Nat}{v:Value}{xs:List QV}(h:ownsAt w base 27 2 v xs.length (xam xs))(hb:xs.length*16<=140737488351232):xaO (fun b=>v.ownBlock=some b) w v xs:=by
 obtain⟨h1,⟨rfl,h2⟩ | ⟨g,o,cap,cur,rfl,h3,h4,h5,h6,h7,h8⟩⟩:=h
 ·have:xs=[]:=List.eq_nil_of_length_eq_zero h2;subst this
  exact⟨none,0,rfl,by simp,by simp,by simp,fun i x hx=>by simp at hx⟩
 ·refine⟨_,_,rfl,h5,h6,hb,fun i x hx=>⟨g,o,rfl,rfl,?_⟩⟩
  have hi:=xae hx
  have hcell:∀ j,j<xs.length*2->w.cell? ⟨g,o+j,none⟩=(xam xs)[j]?:=fun j hj=>by
   rw[← h8,qzB h4,List.getElem?_take,if_pos hj,List.getElem?_drop]
   simp
  obtain⟨e1,e2⟩:=xbZ hx
  exact⟨by show w.cell? ⟨g,o+i*2+0,none⟩=_;rw[Nat.add_zero,hcell _ (by omega)];exact e1,by show w.cell? ⟨g,o+i*2+1,none⟩=_;rw[Nat.add_assoc,hcell _ (by omega)];exact e2⟩
theorem ownsAt.take {w:World}{base n:Nat}{a:Option Addr}{cap:Nat}{xs:List QV}(h:ownsAt w base 27 2 (.slice a n cap) n (xam xs)){k:Nat}(hk:k<=n):ownsAt w base 27 2 (.slice a k cap) k (xam (xs.take k)):=by
 have hx:xs.length=n:=by have:=h.1;rw[xbA] at this;omega
 obtain⟨h1,⟨e,h2⟩ | ⟨g,o,cap',cur,e,h3,h4,h5,h6,h7,h8⟩⟩:=h
 ·cases e
  obtain rfl:k=0:=by omega
  exact⟨by simp[xam],Or.inl ⟨rfl,rfl⟩⟩
 ·cases e
  refine⟨by rw[xbA,List.length_take];omega,Or.inr ⟨g,o,cap,cur,rfl,h3,h4,by omega,h6,h7,?_⟩⟩
  rw[← xeo,← h8,List.take_take]
  congr 1
  omega
theorem ownsAt.base {w:World}{base base':Nat}{e:TypeId}{sz:Nat}{v:Value}{n:Nat}{xs:List Value}(h:ownsAt w base e sz v n xs)(hb:∀ g,v.ownBlock=some g->base'<=g):ownsAt w base' e sz v n xs:=by
 obtain⟨h1,h2 | ⟨g,o,cap,cur,rfl,h3,h4,h5⟩⟩:=h
 ·exact⟨h1,Or.inl h2⟩
 ·exact⟨h1,Or.inr ⟨g,o,cap,cur,rfl,hb g (by simp[Value.ownBlock]),h4,h5⟩⟩
abbrev FB (f:Fr)(cv av tv sv kv:Value):Obj:=.cells #[.int .i64 f.cls,.string f.meth.name,.int .i64 f.meth.args,.int .i64 f.meth.temps,.int .i64 f.meth.prim,cv,.int .i64 f.self.k,.int .i64 f.self.n,av,tv,sv,kv,.int .i64 f.pc,.bool f.fast] 154 (0,0)
structure FrAt (T:Nat->Nat)(K:Nat)(w:World)(fb:Nat)(f:Fr)(cv av tv sv kv:Value):Prop where
 box:w.heap[fb]?=some (FB f cv av tv sv kv)
 tag:T fb=K
 args:xaO (Fx T w) w av f.args
 temps:∃ tb,tv=.slice (some ⟨tb,0,none⟩) f.temps.length f.temps.length/\w.heap[tb]?=some (.cells (xam f.temps).toArray 27 (0,0))/\T tb=K+1/\f.temps.length<=40
 stack:ownsAt w 0 27 2 sv f.stack.length (xam f.stack)
 stag:∀ g,sv.ownBlock=some g->T g=K+2
 few:f.stack.length<=1000000000
 code:xaR (Fx T w) w kv f.code
 meth:xaR (Fx T w) w cv f.meth.code
 pos:5<=K
section
variable {T T':Nat->Nat} {K:Nat} {w w':World} {fb:Nat} {f:Fr} {cv av tv sv kv:Value}
theorem FrAt.keep {S:Nat->Prop}(h:FrAt T K w fb f cv av tv sv kv)(e:Ext T T' w)(k:Kp S T w w')(h0:¬ S 0)(h1:¬ S K)(h2:¬ S (K+1))(h3:¬ S (K+2)):FrAt T' K w' fb f cv av tv sv kv:=by
 obtain⟨tb,e1,e2,e3,e4⟩:=h.temps;refine⟨k.held h.box (by rw[h.tag];exact h1),by rw[e _ (xal h.box)];exact h.tag,h.args.fx xa1 e k h0,⟨tb,e1,k.held e2 (by rw[e3];exact h2),by rw[e _ (xal e2)];exact e3,e4⟩,h.stack.keep fun g hg=>k.blk g (h.stack.lt g hg).2 (by rw[h.stag g hg];exact h3),fun g hg=>by rw[e _ (h.stack.lt g hg).2];exact h.stag g hg,h.few,h.code.fx xa2 e k h0,h.meth.fx xa2 e k h0,h.pos⟩
theorem FrAt.later (h:FrAt T K w fb f cv av tv sv kv)(hb:Below w.heap.size w w'):FrAt T K w' fb f cv av tv sv kv:=h.keep (S:=fun _=>False) (.refl _ _) (.of_below hb) id id id id
theorem FrAt.turn {f':Fr}{sv':Value}(h:FrAt T K w fb f cv av tv sv kv)(k:Kp (fun t=>t=K) T w w')(hb:w'.heap[fb]?=some (FB f' cv av tv sv' kv))(e1:f'.args=f.args)(e2:f'.temps=f.temps)(e3:f'.code=f.code)(e4:f'.meth=f.meth)(hs:ownsAt w 0 27 2 sv' f'.stack.length (xam f'.stack))(ho:∀ g,sv'.ownBlock=some g->T g=K+2)(hf:f'.stack.length<=1000000000):FrAt T K w' fb f' cv av tv sv' kv:=by
 obtain⟨tb,d1,d2,d3,d4⟩:=h.temps;have hp:=h.pos;refine⟨hb,h.tag,by rw[e1];exact h.args.fx xa1 (.refl _ _) k (by omega),⟨tb,by rw[e2];exact d1,by rw[e2];exact k.held d2 (by rw[d3];omega),d3,by rw[e2];exact d4⟩,hs.keep fun g hg=>k.blk g (hs.lt g hg).2 (by rw[ho g hg];omega),ho,hf,by rw[e3];exact h.code.fx xa2 (.refl _ _) k (by omega),by rw[e4];exact h.meth.fx xa2 (.refl _ _) k (by omega),hp⟩
theorem FrAt.cut {a:Option Addr}{cap m:Nat}(h:FrAt T K w fb f cv av tv (.slice a f.stack.length cap) kv)(k:Kp (fun t=>t=K) T w w')(hb:w'.heap[fb]?=some (FB { f with stack:=f.stack.take m } cv av tv (.slice a m cap) kv))(hm:m<=f.stack.length):FrAt T K w' fb { f with stack:=f.stack.take m } cv av tv (.slice a m cap) kv:=by
 have hl:(f.stack.take m).length=m:=by rw[List.length_take];omega
 refine h.turn k hb rfl rfl rfl rfl ?_ (fun g hg=>h.stag g (by cases a<;>exact hg)) (by show (f.stack.take m).length<=_;rw[hl];have:=h.few;omega)
 show ownsAt w 0 27 2 _ (f.stack.take m).length _
 rw[hl]
 exact h.stack.take hm
theorem FrAt.vals (h:FrAt T K w fb f cv av tv sv kv):xaO (fun b=>sv.ownBlock=some b) w sv f.stack:=h.stack.vals (by have:=h.few;omega)
end
theorem xoI {n:Nat}(h:n<=1000000000)(k:Int)(hk:0<=k/\k<=9223372036854775807):IntKind.i64.wrap (IntKind.i64.wrap ((n:Int)-1)-k)=(n:Int)-1-k:=by
 rw[xat (n:=(n:Int)-1) (by omega) (by omega),xat (by omega) (by omega)]
theorem xgq {T:Nat->Nat}{K:Nat}{w:World}{fb:Nat}{f:Fr}{cv av tv sv kv:Value}(h:FrAt T K w fb f cv av tv sv kv)(n:Int)(hn:0<=n/\n<=9223372036854775807):Calls Try.prog 109 #[.pointer (some ⟨fb,0,none⟩),.int .i64 n] w fun e w'=>e=.returned (VV (xaQ f.stack n))/\Below w.heap.size w w':=by
 have hv:=h.vals;have hlt:=xal h.box;have c0:w.cell? ⟨fb,10,none⟩=some sv:=by rw[qzB h.box];rfl
 have hfew:=h.few;have HR:Hid (IntKind.i64.wrap (IntKind.i64.wrap ((f.stack.length:Int)-1)-n)=(f.stack.length:Int)-1-n):=xoI hfew n hn;clear h;obtain⟨a,cap,rfl,-⟩:=id hv;have hb1:Below w.heap.size w (w.alloc (.cells #[.int .i64 0,.int .i64 0] 27)).drew:=(xak w _).drew;have hv1:=hv.later xa1 hb1;have c1:=qzA hb1 c0;have r0:(w.alloc (.cells #[.int .i64 0,.int .i64 0] 27)).drew.cell? ⟨w.heap.size,0,none⟩=some (.int .i64 0):=xaa w #[.int .i64 0,.int .i64 0] 27 _ rfl 0;have r1:(w.alloc (.cells #[.int .i64 0,.int .i64 0] 27)).drew.cell? ⟨w.heap.size,1,none⟩=some (.int .i64 0):=xaa w #[.int .i64 0,.int .i64 0] 27 _ rfl 1
 have rf:∀ o,(w.alloc (.cells #[.int .i64 0,.int .i64 0] 27)).drew.frozen? ⟨w.heap.size,o,none⟩=false:=xap (qzJ w (.cells #[.int .i64 0,.int .i64 0] 27));have hz:w.heap.size<(w.alloc (.cells #[.int .i64 0,.int .i64 0] 27)).drew.heap.size:=by simp
 clear hv c0;go_enter Try.func109,Try.ntmps109
 go_upto_region 1 with (fail)
 generalize (w.alloc (.cells #[.int .i64 0,.int .i64 0] 27))=W at *
 go_region_held3 (fun w'=>w'.cell? ⟨fb,10,none⟩=some (Value.slice a f.stack.length cap))
  (first | with_reducible exact c1 | with_reducible exact c2 | exact (qzI _ _ _ _ (by simp;omega)).trans ((qzI _ _ _ _ (by simp;omega)).trans c2))
  (first | (go_at_call 100;rw[HR.out];refine (xc7 f.stack _ _ _ hv1).mono ?_;rintro e w1 ⟨rfl,hb2⟩;have c2:=qzA hb2 c1;have s0:=qzA hb2 r0;have s1:=qzA hb2 r1;have sf:∀ o,w1.frozen? ⟨w.heap.size,o,none⟩=false:=fun o=>(hb2.frozen (p:=⟨w.heap.size,o,none⟩) hz).trans (rf o)))
 go_wp2;refine qzK (v:=VV (xaQ f.stack n)) ?_ rfl ⟨rfl,((xaf hb1 hb2).setCell (by simp) _).setCell (by simp) _⟩
 simp[results,Try.results109,go_sem,s0,s1]
 exact⟨rfl,rfl⟩
theorem xgf (w:World):w.drew.heap=w.heap:=rfl
theorem xfB {w:World}{fb:Nat}{f:Fr}{cv av tv sv kv:Value}(h:w.heap[fb]?=some (FB f cv av tv sv kv))(l:List QV)(sv':Value):(w.setCell ⟨fb,10,none⟩ sv').heap[fb]?=some (FB { f with stack:=l } cv av tv sv' kv):=by
 rw[xag h];rfl
theorem xen {T:Nat->Nat}{K:Nat}{w:World}{fb:Nat}{f:Fr}{cv av tv sv kv:Value}(h:FrAt T K w fb f cv av tv sv kv):Calls Try.prog 102 #[.pointer (some ⟨fb,0,none⟩)] w fun e w'=>e=.returned (VV f.top)/\(∃ sv',FrAt T K w' fb f.pop cv av tv sv' kv)/\Kp (fun t=>t=K) T w w':=by
 have hlt:=xal h.box;have hb1:Below w.heap.size w (w.alloc (.cells #[.int .i64 0,.int .i64 0] 27)):=xak w _;have h1:=h.later hb1;have r0:(w.alloc (.cells #[.int .i64 0,.int .i64 0] 27)).cell? ⟨w.heap.size,0,none⟩=some (.int .i64 0):=xaa w #[.int .i64 0,.int .i64 0] 27 _ rfl 0;have r1:(w.alloc (.cells #[.int .i64 0,.int .i64 0] 27)).cell? ⟨w.heap.size,1,none⟩=some (.int .i64 0):=xaa w #[.int .i64 0,.int .i64 0] 27 _ rfl 1;have rf:∀ o,(w.alloc (.cells #[.int .i64 0,.int .i64 0] 27)).frozen? ⟨w.heap.size,o,none⟩=false:=xap (qzJ w (.cells #[.int .i64 0,.int .i64 0] 27));have hz:w.heap.size<(w.alloc (.cells #[.int .i64 0,.int .i64 0] 27)).heap.size:=by simp
 have HF:Hid (FrAt T K w fb f cv av tv sv kv):=h;have hfew:=h.few;clear h;go_enter Try.func102,Try.ntmps102
 go_upto_region 1 with (fail)
 generalize (w.alloc (.cells #[.int .i64 0,.int .i64 0] 27))=W at *;go_wp2_with fail;refine (xgq h1 0 ⟨by omega,by omega⟩).mono ?_
 rintro e w1 ⟨rfl,hb2⟩;have h2:=h1.later hb2;have hbb:=xaf hb1 hb2;have s0:=qzA hb2 r0;have s1:=qzA hb2 r1;have sf:∀ o,w1.frozen? ⟨w.heap.size,o,none⟩=false:=fun o=>(hb2.frozen (p:=⟨w.heap.size,o,none⟩) hz).trans (rf o)
 have c0:w1.cell? ⟨fb,10,none⟩=some sv:=by rw[qzB h2.box];rfl
 have cf:=xap h2.box;have hz2:=hb2.size;have hzz:¬ fb=w.heap.size:=by omega
 have hzz':¬ w.heap.size=fb:=by omega
 have hbx:=h2.box;have hst:=h2.stack;have hl1:fb<w1.heap.size:=by omega
 have hl2:w.heap.size<w1.heap.size:=by omega
 obtain⟨a,cap,rfl,hc1,hc2⟩:=hst.form;unfold maxLen at hc2;have HT:Hid (f.top=xaQ f.stack 0):=rfl;have HS:Hid (ownsAt w1 0 27 2 (.slice a f.stack.length cap) f.stack.length (xam f.stack)):=hst;have H2:Hid (FrAt T K w1 fb f cv av tv (.slice a f.stack.length cap) kv):=h2;have HX:Hid (w1.heap[fb]?=some (FB f cv av tv (.slice a f.stack.length cap) kv)):=hbx;clear h1 h2 r0 r1 rf hst hbx hb1 hb2;obtain⟨v,hv⟩:∃ v,v=xaQ f.stack 0:=⟨_,rfl⟩;rw[← hv] at HT ⊢;clear hv;go_wp2;have HK:Hid (Kp (fun t=>t=K) T w1 (w1.alloc (.cells #[.int .i64 v.k,.int .i64 v.n] 27))):=Kp.of_below (xak _ _)
 have H3:Hid (FrAt T K (w1.alloc (.cells #[.int .i64 v.k,.int .i64 v.n] 27)) fb f cv av tv (.slice a f.stack.length cap) kv):=H2.out.later (xak _ _);have d0:=qzA (xak w1 (.cells #[.int .i64 v.k,.int .i64 v.n] 27)) c0;have df:∀ o,(w1.alloc (.cells #[.int .i64 v.k,.int .i64 v.n] 27)).frozen? ⟨fb,o,none⟩=false:=xap H3.out.box;have u0:=qzA (xak w1 (.cells #[.int .i64 v.k,.int .i64 v.n] 27)) s0;have u1:=qzA (xak w1 (.cells #[.int .i64 v.k,.int .i64 v.n] 27)) s1;have uf:∀ o,(w1.alloc (.cells #[.int .i64 v.k,.int .i64 v.n] 27)).frozen? ⟨w.heap.size,o,none⟩=false:=fun o=>((xak w1 _).frozen (p:=⟨w.heap.size,o,none⟩) hl2).trans (sf o)
 have b0:(w1.alloc (.cells #[.int .i64 v.k,.int .i64 v.n] 27)).cell? ⟨w1.heap.size,0,none⟩=some (.int .i64 v.k):=xaa _ _ _ _ rfl 0;have b1:(w1.alloc (.cells #[.int .i64 v.k,.int .i64 v.n] 27)).cell? ⟨w1.heap.size,1,none⟩=some (.int .i64 v.n):=xaa _ _ _ _ rfl 1;have n1:¬ w1.heap.size=fb:=by omega
 have n2:¬ w1.heap.size=w.heap.size:=by omega
 have n3:¬ w.heap.size=w1.heap.size:=by omega
 have n4:¬ fb=w1.heap.size:=by omega
 have HBV:Hid (Below w.heap.size w (w1.alloc (.cells #[.int .i64 v.k,.int .i64 v.n] 27))):=xaf hbb (xak _ _);clear s0 s1 sf c0 cf H2 HS HX;generalize (w1.alloc (.cells #[.int .i64 v.k,.int .i64 v.n] 27))=V at *;have HL:Hid (f.pop={ f with stack:=f.stack.take (f.stack.length-1) }):=by show _=_;unfold Fr.pop;rw[List.dropLast_eq_take]
 by_cases h0:f.stack.length=0
 ·have hw:IntKind.i64.wrap (((0:Nat):Int)-1)=-1:=by rfl
  have h0':Hid (f.stack.length-1=0):=by show _=_;omega
  rw[h0] at d0
  go_region
  go_wp2;refine qzK (v:=VV v) ?_ rfl ⟨by rw[HT.out],⟨.slice a 0 cap,?_⟩,?_⟩
  ·simp[results,Try.results102,go_sem,u0,u1,n2,n3]
  ·rw[HL.out,h0'.out];refine HF.out.cut (m:=0) ?_ ?_ (by omega)
   ·exact (((((Kp.of_below HBV.out).set (fun _=>HF.out.tag) _ _).set (fun h=>absurd h (Nat.lt_irrefl _)) _ _).set (fun h=>absurd h (Nat.lt_irrefl _)) _ _)).drew
   ·rw[xgf,xac hzz,xac hzz]
    exact xfB H3.out.box _ _
  ·exact (((((Kp.of_below HBV.out).set (fun _=>HF.out.tag) _ _).set (fun h=>absurd h (Nat.lt_irrefl _)) _ _).set (fun h=>absurd h (Nat.lt_irrefl _)) _ _)).drew
 ·obtain⟨m,hm⟩:∃ m,f.stack.length=m+1:=⟨f.stack.length-1,by omega⟩
  have hw:IntKind.i64.wrap ((f.stack.length:Int)-1)=(m:Int):=by rw[hm,xat (by omega) (by omega)];omega
  have hm0:¬ ((m:Int)<0):=by omega
  have hm1:m<=cap:=by omega
  have hm2:(m:Int)<=(cap:Int):=by omega
  have HM:Hid (f.stack.length-1=m):=by show _=_;omega
  have HM2:Hid (m<=f.stack.length):=by show _<=_;omega
  clear hm h0;generalize hL:f.stack.length=L at hw d0
  go_region
  go_wp2;refine qzK (v:=VV v) ?_ rfl ⟨by rw[HT.out],⟨.slice a m cap,?_⟩,?_⟩
  ·simp[results,Try.results102,go_sem,u0,u1,n2,n3]
  ·rw[HL.out,HM.out];refine HF.out.cut (m:=m) ?_ ?_ HM2.out
   ·exact (((((Kp.of_below HBV.out).set (fun _=>HF.out.tag) _ _).set (fun h=>absurd h (Nat.lt_irrefl _)) _ _).set (fun h=>absurd h (Nat.lt_irrefl _)) _ _)).drew
   ·rw[xgf,xac hzz,xac hzz]
    exact xfB H3.out.box _ _
  ·exact (((((Kp.of_below HBV.out).set (fun _=>HF.out.tag) _ _).set (fun h=>absurd h (Nat.lt_irrefl _)) _ _).set (fun h=>absurd h (Nat.lt_irrefl _)) _ _)).drew
theorem FrAt.pushed {T:Nat->Nat}{K:Nat}{w U w':World}{fb:Nat}{f:Fr}{cv av tv sv sv' kv:Value}{v:QV}(h:FrAt T K w fb f cv av tv sv kv)(hU:Below w.heap.size w U)(hn:f.stack.length<1000000000)
  (r1:ownsAt w' 0 27 2 sv' (f.stack.length+1) (xam f.stack++[.int .i64 v.k,.int .i64 v.n])) (r2:sv'.ownBlock=sv.ownBlock\/∃ g,sv'.ownBlock=some g/\U.heap.size<=g) (r3:Below 0 U w') (r4:∀ b,b<U.heap.size->some b≠sv.ownBlock->w'.heap[b]?=U.heap[b]?) (hx:w'.heap[fb]?=some (FB f cv av tv sv kv)) :
  (∃ T',Ext T T' w/\FrAt T' K (w'.setCell ⟨fb,10,none⟩ sv') fb (f.push v) cv av tv sv' kv)/\Kp (fun t=>t=K\/t=K+2) T w (w'.setCell ⟨fb,10,none⟩ sv'):=by
 have hlt:=xal h.box;have hp:=h.pos
 have kU:Kp (fun t=>t=K\/t=K+2) T w w':=⟨r3.os.trans hU.os,r3.tape.trans hU.tape,r3.output.trans hU.output,qzD hU.size r3.size,fun b hb hs=>by
  rw[r4 b (qzE hb hU.size) (fun e=>hs (Or.inr (h.stag b e.symm))),hU.block b hb]⟩
 have k:=kU.set (b:=fb) (fun _=>Or.inl h.tag) 10 sv'
 obtain⟨T',hT,hg⟩:∃ T',Ext T T' w/\∀ g,sv'.ownBlock=some g->T' g=K+2:=by
  rcases r2 with e | ⟨g,e,hg⟩
  ·exact⟨T,.refl _ _,fun g hg=>h.stag g (by rw[← e];exact hg)⟩
  ·exact⟨xjd T g (K+2),xez (qzD hU.size hg),fun g' h'=>by rw[e] at h';cases h';exact xdI _ _ _⟩
 refine⟨⟨T',hT,?_⟩,k⟩;obtain⟨tb,d1,d2,d3,d4⟩:=h.temps;refine⟨xfB hx (f.stack++[v]) sv',by rw[hT _ hlt];exact h.tag,h.args.fx xa1 hT k (by omega),⟨tb,d1,k.held d2 (by rw[d3];omega),by rw[hT _ (xal d2)];exact d3,d4⟩,?_,hg,?_,h.code.fx xa2 hT k (by omega),h.meth.fx xa2 hT k (by omega),hp⟩
 ·have r1':ownsAt w' 0 27 2 sv' (f.push v).stack.length (xam (f.push v).stack):=by
   show ownsAt w' 0 27 2 sv' (f.stack++[v]).length (xam (f.stack++[v]))
   rw[xcA,List.length_append]
   exact r1
  exact r1'.keep fun g hg'=>xac (fun e=>by have:=hg g hg';rw[e,hT _ hlt,h.tag] at this;omega) _
 ·show (f.stack++[v]).length<=_
  simp;omega
theorem xew {T:Nat->Nat}{K:Nat}{w:World}{fb:Nat}{f:Fr}{cv av tv sv kv:Value}(h:FrAt T K w fb f cv av tv sv kv)(v:QV)(hroom:f.stack.length<1000000000):Calls Try.prog 111 #[.pointer (some ⟨fb,0,none⟩),VV v] w fun e w'=>e=.returned (.tuple #[])/\(∃ T' sv',Ext T T' w/\FrAt T' K w' fb (f.push v) cv av tv sv' kv)/\Kp (fun t=>t=K\/t=K+2) T w w':=by
 have hlt:=xal h.box;have h1:=h.later (xak w (.cells #[.int .i64 v.k,.int .i64 v.n] 27));have b0:(w.alloc (.cells #[.int .i64 v.k,.int .i64 v.n] 27)).cell? ⟨w.heap.size,0,none⟩=some (.int .i64 v.k):=xaa _ _ _ _ rfl 0;have b1:(w.alloc (.cells #[.int .i64 v.k,.int .i64 v.n] 27)).cell? ⟨w.heap.size,1,none⟩=some (.int .i64 v.n):=xaa _ _ _ _ rfl 1;have HBV:Hid (Below w.heap.size w (w.alloc (.cells #[.int .i64 v.k,.int .i64 v.n] 27))):=xak _ _;go_enter Try.func111,Try.ntmps111
 go_upto_region 1 with (fail)
 generalize (w.alloc (.cells #[.int .i64 v.k,.int .i64 v.n] 27))=V at *;have c0:V.cell? ⟨fb,10,none⟩=some sv:=by rw[qzB h1.box];rfl
 have cf:=xap h1.box;have hl1:fb<V.heap.size:=xal h1.box;have hl2:¬ fb=V.heap.size:=by omega
 have hst:ownsAt (V.alloc (.cells #[.int .i64 v.k,.int .i64 v.n] 27)).drew 0 27 2 sv f.stack.length (xam f.stack):=(h1.stack.alloc _).keep fun g hg=>rfl
 obtain⟨v',w',hrun,r1,r2,r3,r4⟩:=xaL (w:=(V.alloc (.cells #[.int .i64 v.k,.int .i64 v.n] 27)).drew) 28 28 27 _ 2 16 Try.underlying28 xcg rfl (by omega) 0 f.stack.length sv (xam f.stack) hst V.heap.size [.int .i64 v.k,.int .i64 v.n] rfl (qzJ V _) (by simp;exact⟨rfl,rfl⟩) (by unfold maxLen;omega) (by omega) (by omega)
 obtain⟨a,cap,rfl,hc1,hc2⟩:=h1.stack.form;obtain⟨a',cap',rfl,-⟩:=r1.form;have R1:Hid (ownsAt w' 0 27 2 (.slice a' (f.stack.length+1) cap') (f.stack.length+1) (xam f.stack++[.int .i64 v.k,.int .i64 v.n])):=r1;have R2:=hid r2;have R4:=hid r4;have HB3:Hid (Below 0 _ w'):=r3;have hnb:some fb≠(Value.slice a f.stack.length cap).ownBlock:=fun e=>by have:=h1.stag fb e.symm;rw[h1.tag] at this;omega
 have hbx:w'.heap[fb]?=some (FB f cv av tv (.slice a f.stack.length cap) kv):=by
  rw[r4 fb (by simp;omega) hnb];exact xad h1.box (xak _ _).drew
 have d0:w'.cell? ⟨fb,10,none⟩=some (.slice a f.stack.length cap):=by rw[qzB hbx];rfl
 have df:=xap hbx;have HX:=hid hbx;have H0:=hid h;have HBU:Hid (Below w.heap.size w (V.alloc (.cells #[.int .i64 v.k,.int .i64 v.n] 27)).drew):=xaf HBV.out (xak _ _).drew;clear r1 r2 r3 r4 hst h1 hbx hnb h
 go_region_law (refine xaw rfl (.tmp 8) (.tmp 10) 28 rfl (.slice a f.stack.length cap) (.slice (some ⟨V.heap.size,0,none⟩) 1 1) (.slice a' (f.stack.length+1) cap') (by simp[Act.eval,Act.put]) (by simp[Act.eval,Act.put]) hrun ?_)
 all_goals (
  go_wp2;obtain⟨⟨T',e1,e2⟩,e3⟩:=H0.out.pushed (v:=v) HBU.out hroom R1.out R2.out HB3.out R4.out HX.out
  exact bodyPost_end (v:=.tuple #[]) (by simp[results,Try.results111,go_sem]) rfl ⟨rfl,⟨T',_,e1,e2⟩,e3⟩)
theorem xdO {P:Program}(w:World)(t ty e:TypeId)(i:TypeInfo)(ht:P.underlying t=some (.slice e))(hi:P.info? e=some i)(B:Nat)(ad:Option Addr)(cap:Nat) :
  (Builtin.append_ #[t,t] ty #[.slice (some ⟨B,0,none⟩) 0 0,.slice ad 0 cap]).run P w=.ok (.slice (some ⟨B,0,none⟩) 0 0) w:=by
 have hl:∀ (x:Addr),(loadCells x 0).run P w=.ok #[] w:=fun x=>by simpa using run_loadCells_list (P:=P) w x [] (by simp)
 cases ad<;>simp[Builtin.append_,run_underlying ht,sizeOf,typeInfo,hi,Builtin.lenOf,Builtin.firstCells,storeCells,hl]
theorem xbl {ops:Array Oper}{rest:List Oper}{o:Oper}{a:Act}{w:World}{Q:Exit->Act->World->Prop}(hgd:o.guard=none)(s x:Operand)(T e:TypeId)(z:Value)(sz bytes:Nat)
  (hop:o.op=Op.call { callee:=Callee.builtin Builtin.append,args:=#[s,x],argTypes:=#[T,T] }) (hT:Try.prog.underlying T=some (.slice e)) (hI:(Try.prog.info? e).map (fun i=>(i.zero,i.size,i.bytes))=some (some z,sz,bytes)) (hzs:z.cells.size=sz) (hsz:0<sz) (hbz:0<bytes)
  (B:Nat) (hs:a.eval s=.slice (some ⟨B,0,none⟩) 0 0) (hB:w.heap[B]?=some (.cells #[] e (0,0)))
  (ad:Option Addr) (n cap:Nat) (hx:a.eval x=.slice ad n cap) (cs:List Value) (hlen:cs.length=n*sz) (hsrc:∀ j u,cs[j]?=some u->∃ b,ad=some b/\w.cell? (b.add j)=some u) (hn:n*bytes<=140737488351232)
  (hK:∀ g cap' w',w'.ownsRow B e sz (.slice (some ⟨g,0,none⟩) n cap') n cs->(g=B\/w.heap.size<=g)->g<w'.heap.size->Below w.heap.size w w'->wpList Try.prog ops Q rest (a.put o.dst (.slice (some ⟨g,0,none⟩) n cap')) w') :
  wpList Try.prog ops Q (o :: rest) a w:=by
 refine wpList_plain hgd fun K hKK=>?_
 obtain⟨i0,hi,hz0,hz1,hz2⟩:=xa8 hI;have hBl:=xal hB
 by_cases h0:n=0
 ·subst h0;have hcs:cs=[]:=List.eq_nil_of_length_eq_zero (by simpa using hlen)
  have hrun:=xdO (P:=Try.prog) w T o.type e i0 hT hi B ad cap;unfold Oper.wp
  simp[execOp,hop,resolve,invoke,builtin,hs,hx,hrun,Result.andThen]
  refine hKK _ _ (hK B 0 w ?_ (Or.inl rfl) hBl (qzL _ _));rw[hcs]
  exact⟨by simp,.inr ⟨B,0,#[],rfl,qzC _,hB,qzC _,by unfold maxLen;omega,by simp,by simp⟩⟩
 ·obtain⟨b,rfl⟩:∃ b,ad=some b:=by
   have:0<cs.length:=by rw[hlen];exact Nat.mul_pos (by omega) hsz
   obtain⟨b,e,-⟩:=hsrc 0 cs[0] (by simp[this])
   exact⟨b,e⟩
  have hnb:n<=140737488351232:=qzD (Nat.le_mul_of_pos_right n hbz) hn;obtain⟨v',w',hrun,r1,r2⟩:=run_append_arg_grows (P:=Try.prog) w T o.type e i0 _ sz bytes hT hi hz0 hz1 hz2 hzs hsz ⟨B,0,none⟩ 0 0 [] (by simp) (fun j u hu=>by simp at hu) b n cap cs hlen (fun j u hu=>by obtain⟨b',e,h⟩:=hsrc j u hu;cases e;exact h) (by omega) (by unfold maxLen;omega) (by rw[Nat.zero_add];omega)
  simp only[Nat.zero_add,List.nil_append] at r1;obtain⟨g,cap',rfl,hg,hgl⟩:=r1.form (by omega)
  unfold Oper.wp
  simp[execOp,hop,resolve,invoke,builtin,hs,hx,hrun,Result.andThen]
  refine hKK _ _ (hK g cap' w' ?_ (Or.inr hg) hgl ((qzL _ _).grown r2 (qzC _) (fun k hk=>by cases hk)))
  obtain⟨q1,q2⟩:=r1;refine⟨q1,?_⟩
  rcases q2 with q2 | ⟨g',c',cur,e,h1,h2⟩
  ·exact .inl q2
  ·exact .inr ⟨g',c',cur,e,by omega,h2⟩
theorem xpb (a:Option Addr)(n c:Nat)(w:World):(binOp .eql 28 (.slice a n c) (.slice none 0 0)).run Try.prog w=.ok (.bool (a == none)) w:=by
 have u:=Try.underlying28
 cases a<;>go_simp<;>rfl
theorem xc4 {P:Nat->Prop}(xs:List QV)(v:Value)(w:World)(h:xaO P w v xs):Calls Try.prog 126 #[v] w fun e w'=>∃ a c,e=.returned (.slice a xs.length c)/\xaO (fun b=>w.heap.size<=b/\b<w'.heap.size) w' (.slice a xs.length c) xs/\Below w.heap.size w w':=by
 obtain⟨ad,cap,rfl,hl,hcap,hby,hrow⟩:=h
 cases ad with
 | none=>
  have hx:xs=[]:=by
   cases xs with
   | nil=>rfl
   | cons x r=>obtain⟨b,o,e,-⟩:=hrow 0 x rfl;cases e
  subst hx;have hq:=xpb none 0 cap;go_enter Try.func126,Try.ntmps126;go_wp2
  go_ret
  exact⟨none,0,rfl,⟨none,0,rfl,by simp,by simp,by simp,fun i x hx=>by simp at hx⟩,qzL _ _⟩
 | some ad=>
  obtain⟨cs,hcs,hsrc⟩:=hrow.cells xa1;have hvc:=xcy (E:=()) hcs;have hlen:=hcs.1;clear hrow;have hq:=xpb (some ad) xs.length cap;go_enter Try.func126,Try.ntmps126
  go_wp2_with (at_builtin;refine xbl rfl (.tmp 5) (.tmp 6) 28 27 _ 2 16 rfl Try.underlying28 xcg rfl (by omega) (by omega) w.heap.size rfl (by first | exact qzJ _ _ | (simp;done)) (some ad) xs.length cap rfl cs hlen (fun j u hj=>by obtain⟨b,e,h⟩:=hsrc j u hj;exact⟨b,e,qzA (xak _ _) h⟩) hby ?_;intro g cap' w' hown hg hgl hb)
  go_ret
  have hbw:Below w.heap.size w w':=xea (qzL _ _) hb;refine⟨some ⟨g,0,none⟩,cap',rfl,?_,hbw⟩;obtain⟨q1,q2 | ⟨g',c',cur,e,h1,h2,h3,h4,h5,h6⟩⟩:=hown
  ·cases q2.1
  ·cases e
   have hg2:w.heap.size<=g:=by rcases hg with h | h<;>simp at*<;> omega
   exact Cells.row (E:=xpo) (sz:=2) (cs:=cs) ⟨hlen,fun i x hx=>hcs.2 i x hx⟩ xa1 ⟨hg2,hgl⟩ h2 h6 h3 h4 hby
theorem ownsAt.tail {w:World}{g o cap:Nat}{xs:List QV}(h:ownsAt w 0 27 2 (.slice (some ⟨g,o,none⟩) xs.length cap) xs.length (xam xs)){k:Nat}(hk:k<=xs.length)(hb:xs.length<=1000000000):xaO (fun b=>b=g) w (.slice (some ⟨g,o+k*2,none⟩) (xs.drop k).length (cap-k)) (xs.drop k):=by
 have hv:=h.vals (by omega)
 obtain⟨a',c',e,h1,h2,h3,hr⟩:=hv
 cases e
 have hl:(xs.drop k).length=xs.length-k:=by simp
 refine⟨_,_,rfl,by omega,by unfold maxLen at *;omega,by omega,fun i x hx=>⟨g,o+k*2,rfl,rfl,?_⟩⟩
 rw[List.getElem?_drop] at hx;obtain⟨b,o',e,-,h0,h1⟩:=hr _ x hx
 cases e
 exact⟨by show w.cell? ⟨_,_,_⟩=_;rw[show o+k*2+i*2+0=o+(k+i)*2+0 by omega];exact h0,by show w.cell? ⟨_,_,_⟩=_;rw[show o+k*2+i*2+1=o+(k+i)*2+1 by omega];exact h1⟩
theorem xcj {T:Nat->Nat}{K:Nat}{w w1:World}{fb:Nat}{f:Fr}{cv av tv kv:Value}{a:Option Addr}{cap k:Nat}(h:FrAt T K w fb f cv av tv (.slice a f.stack.length cap) kv)(hk:k<=f.stack.length){av':Value}(hb:Below w.heap.size w w1)(hv:xaO (fun b=>w.heap.size<=b/\b<w1.heap.size) w1 av' (f.stack.drop k)) :
  ∃ T',Ext T T' w/\FrAt T' K (w1.setCell ⟨fb,10,none⟩ (.slice a k cap)) fb { f with stack:=f.stack.take k } cv av tv (.slice a k cap) kv/\xaO (Fx T' (w1.setCell ⟨fb,10,none⟩ (.slice a k cap))) (w1.setCell ⟨fb,10,none⟩ (.slice a k cap)) av' (f.stack.drop k)/\Kp (fun t=>t=K) T w (w1.setCell ⟨fb,10,none⟩ (.slice a k cap)):=by
 have hlt:=xal h.box;have e:=xaq T w 0;have kk:Kp (fun t=>t=K) T w (w1.setCell ⟨fb,10,none⟩ (.slice a k cap)):=(Kp.of_below hb).set (fun _=>h.tag) _ _
 have h':FrAt (xaF T w 0) K w fb f cv av tv (.slice a f.stack.length cap) kv:=h.keep (S:=fun _=>False) e (Kp.refl _ _ _) id id id id
 refine⟨xaF T w 0,e,h'.cut (m:=k) (kk.tags e) (xfB (xad h.box hb) _ _) hk,?_,kk⟩;refine hv.keep xa1 (Keeps.of_setCell (fun hp=>?_) _) fun b hb'=>⟨by rw[xa6];exact hb'.2,xaJ hb'.1⟩
 have:=hp.1;simp only at this
 omega
theorem xjl {T:Nat->Nat}{K:Nat}{w:World}{fb:Nat}{f:Fr}{cv av tv sv kv:Value}(h:FrAt T K w fb f cv av tv sv kv)(n:Int)(k:Nat)(hk:k=xbp f.stack n):Calls Try.prog 122 #[.pointer (some ⟨fb,0,none⟩),.int .i64 n] w fun e w'=>∃ a c T' sv',e=.returned (.slice a (f.stack.drop k).length c)/\Ext T T' w/\FrAt T' K w' fb { f with stack:=f.stack.take k } cv av tv sv' kv/\xaO (Fx T' w') w' (.slice a (f.stack.drop k).length c) (f.stack.drop k)/\Kp (fun t=>t=K) T w w':=by
 have hlt:=xal h.box;have c0:w.cell? ⟨fb,10,none⟩=some sv:=by rw[qzB h.box];rfl
 have hfew:=h.few;have hkl:k<=f.stack.length:=by rw[hk];unfold xbp;omega
 have HL:=hid hkl;obtain⟨a,cap,rfl,hc1,hc2⟩:=h.stack.form;unfold maxLen at hc2;have hk2:k<=cap:=by omega
 have hk3:(k:Int)<=(cap:Int):=by omega
 have hk4:(k:Int)<=(f.stack.length:Int):=by omega
 have H0:=hid h;have HS:=hid h.stack;have HX:=hid h.box;clear h
 by_cases hn:n<0
 ·have hn':decide (n<0)=true:=by simpa using hn
  have hkL0:k=f.stack.length:=by rw[hk];unfold xbp;omega
  have hkw:IntKind.i64.wrap ((f.stack.length:Int)-0)=(k:Int):=by rw[xat (by omega) (by omega)];omega
  have hkw2:IntKind.i64.wrap (f.stack.length:Int)=(k:Int):=by rw[xat (by omega) (by omega)];omega
  by_cases hck:cap=k
  ·have hkL:f.stack.length=k:=by omega
   have HV:Hid (xaO (fun _=>False) w.drew (.slice a (f.stack.drop k).length 0) (f.stack.drop k)):=by
    have e0:f.stack.drop k=[]:=List.drop_eq_nil_of_le (by omega)
    rw[e0]
    exact⟨a,0,rfl,by simp,by simp,by simp,fun i x hx=>by simp at hx⟩
   have HDL:Hid ((f.stack.drop k).length=f.stack.length-k):=by show _=_;simp
   rw[HDL.out] at HV;have hck0:cap-k=0:=by omega
   clear hck hkL;clear hk hkL0;go_enter Try.func122,Try.ntmps122;go_wp2
   go_region
   go_wp2_with fail;refine (xc4 (f.stack.drop k) _ _ HV.out).mono ?_;rintro e w1 ⟨a1,c1,rfl,hv1,hb1⟩;have hbw:Below w.heap.size w w1:=((qzL w.heap.size w).drew).trans hb1;have hbx:=xad HX.out hbw;have d0:w1.cell? ⟨fb,10,none⟩=some _:=(by rw[qzB hbx];rfl)
   have df:=xap hbx;have HV1:Hid (xaO (fun b=>w.heap.size<=b/\b<w1.heap.size) w1 _ (f.stack.drop k)):=hv1
   have HBW:=hid hbw;clear hv1 hb1 hbw hbx;go_wp2;obtain⟨T',q1,q2,q3,q4⟩:=xcj H0.out HL.out HBW.out HV1.out
   go_ret
   exact⟨a1,c1,T',_,(by rw[HDL.out];rfl),q1,q2,q3,q4⟩
  ·obtain⟨g,o,rfl⟩:∃ g o,a=some ⟨g,o,none⟩:=by
    obtain⟨-,⟨e,-⟩ | ⟨g,o,c,cur,e,-⟩⟩:=HS.out
    ·simp only[Value.slice.injEq] at e;omega
    ·cases e;exact⟨g,o,rfl⟩
   have HV:Hid (xaO (fun b=>b=g) w.drew (.slice (some ⟨g,o+k*2,none⟩) (f.stack.drop k).length (cap-k)) (f.stack.drop k)):=(ownsAt.tail HS.out HL.out hfew).later xa1 (qzL _ _).drew
   have HDL:Hid ((f.stack.drop k).length=f.stack.length-k):=by show _=_;simp
   rw[HDL.out] at HV;have hck0:¬ (cap-k=0):=by omega
   clear hck;clear hk hkL0;go_enter Try.func122,Try.ntmps122;go_wp2
   go_region
   go_wp2_with fail;refine (xc4 (f.stack.drop k) _ _ HV.out).mono ?_;rintro e w1 ⟨a1,c1,rfl,hv1,hb1⟩;have hbw:Below w.heap.size w w1:=((qzL w.heap.size w).drew).trans hb1;have hbx:=xad HX.out hbw;have d0:w1.cell? ⟨fb,10,none⟩=some _:=(by rw[qzB hbx];rfl)
   have df:=xap hbx;have HV1:Hid (xaO (fun b=>w.heap.size<=b/\b<w1.heap.size) w1 _ (f.stack.drop k)):=hv1
   have HBW:=hid hbw;clear hv1 hb1 hbw hbx;go_wp2;obtain⟨T',q1,q2,q3,q4⟩:=xcj H0.out HL.out HBW.out HV1.out
   go_ret
   exact⟨a1,c1,T',_,(by rw[HDL.out];rfl),q1,q2,q3,q4⟩
 ·obtain⟨m,rfl⟩:∃ m:Nat,n=(m:Int):=⟨n.toNat,by omega⟩
  by_cases hm:f.stack.length<m
  ·have hkw:IntKind.i64.wrap ((f.stack.length:Int)-(f.stack.length:Int))=(k:Int):=by rw[hk];unfold xbp;rw[xat (by omega) (by omega)];omega
   have hm2:(f.stack.length:Int)<(m:Int):=by omega
   have hkw2:(0:Int)=(k:Int):=by rw[hk];unfold xbp;omega
   by_cases hck:cap=k
   ·have hkL:f.stack.length=k:=by omega
    have HV:Hid (xaO (fun _=>False) w.drew (.slice a (f.stack.drop k).length 0) (f.stack.drop k)):=by
     have e0:f.stack.drop k=[]:=List.drop_eq_nil_of_le (by omega)
     rw[e0]
     exact⟨a,0,rfl,by simp,by simp,by simp,fun i x hx=>by simp at hx⟩
    have HDL:Hid ((f.stack.drop k).length=f.stack.length-k):=by show _=_;simp
    rw[HDL.out] at HV;have hck0:cap-k=0:=by omega
    clear hck hkL;clear hk;go_enter Try.func122,Try.ntmps122;go_wp2
    go_region
    go_wp2_with fail;refine (xc4 (f.stack.drop k) _ _ HV.out).mono ?_;rintro e w1 ⟨a1,c1,rfl,hv1,hb1⟩;have hbw:Below w.heap.size w w1:=((qzL w.heap.size w).drew).trans hb1;have hbx:=xad HX.out hbw;have d0:w1.cell? ⟨fb,10,none⟩=some _:=(by rw[qzB hbx];rfl)
    have df:=xap hbx;have HV1:Hid (xaO (fun b=>w.heap.size<=b/\b<w1.heap.size) w1 _ (f.stack.drop k)):=hv1
    have HBW:=hid hbw;clear hv1 hb1 hbw hbx;go_wp2;obtain⟨T',q1,q2,q3,q4⟩:=xcj H0.out HL.out HBW.out HV1.out
    go_ret
    exact⟨a1,c1,T',_,(by rw[HDL.out];rfl),q1,q2,q3,q4⟩
   ·obtain⟨g,o,rfl⟩:∃ g o,a=some ⟨g,o,none⟩:=by
     obtain⟨-,⟨e,-⟩ | ⟨g,o,c,cur,e,-⟩⟩:=HS.out
     ·simp only[Value.slice.injEq] at e;omega
     ·cases e;exact⟨g,o,rfl⟩
    have HV:Hid (xaO (fun b=>b=g) w.drew (.slice (some ⟨g,o+k*2,none⟩) (f.stack.drop k).length (cap-k)) (f.stack.drop k)):=(ownsAt.tail HS.out HL.out hfew).later xa1 (qzL _ _).drew
    have HDL:Hid ((f.stack.drop k).length=f.stack.length-k):=by show _=_;simp
    rw[HDL.out] at HV;have hck0:¬ (cap-k=0):=by omega
    clear hck;clear hk;go_enter Try.func122,Try.ntmps122;go_wp2
    go_region
    go_wp2_with fail;refine (xc4 (f.stack.drop k) _ _ HV.out).mono ?_;rintro e w1 ⟨a1,c1,rfl,hv1,hb1⟩;have hbw:Below w.heap.size w w1:=((qzL w.heap.size w).drew).trans hb1;have hbx:=xad HX.out hbw;have d0:w1.cell? ⟨fb,10,none⟩=some _:=(by rw[qzB hbx];rfl)
    have df:=xap hbx;have HV1:Hid (xaO (fun b=>w.heap.size<=b/\b<w1.heap.size) w1 _ (f.stack.drop k)):=hv1
    have HBW:=hid hbw;clear hv1 hb1 hbw hbx;go_wp2;obtain⟨T',q1,q2,q3,q4⟩:=xcj H0.out HL.out HBW.out HV1.out
    go_ret
    exact⟨a1,c1,T',_,(by rw[HDL.out];rfl),q1,q2,q3,q4⟩
  ·have hkw:IntKind.i64.wrap ((f.stack.length:Int)-(m:Int))=(k:Int):=by rw[hk];unfold xbp;rw[xat (by omega) (by omega)];omega
   have hm2:¬ ((f.stack.length:Int)<(m:Int)):=by omega
   by_cases hck:cap=k
   ·have hkL:f.stack.length=k:=by omega
    have HV:Hid (xaO (fun _=>False) w.drew (.slice a (f.stack.drop k).length 0) (f.stack.drop k)):=by
     have e0:f.stack.drop k=[]:=List.drop_eq_nil_of_le (by omega)
     rw[e0]
     exact⟨a,0,rfl,by simp,by simp,by simp,fun i x hx=>by simp at hx⟩
    have HDL:Hid ((f.stack.drop k).length=f.stack.length-k):=by show _=_;simp
    rw[HDL.out] at HV;have hck0:cap-k=0:=by omega
    clear hck hkL;clear hk;go_enter Try.func122,Try.ntmps122;go_wp2
    go_region
    go_wp2_with fail;refine (xc4 (f.stack.drop k) _ _ HV.out).mono ?_;rintro e w1 ⟨a1,c1,rfl,hv1,hb1⟩;have hbw:Below w.heap.size w w1:=((qzL w.heap.size w).drew).trans hb1;have hbx:=xad HX.out hbw;have d0:w1.cell? ⟨fb,10,none⟩=some _:=(by rw[qzB hbx];rfl)
    have df:=xap hbx;have HV1:Hid (xaO (fun b=>w.heap.size<=b/\b<w1.heap.size) w1 _ (f.stack.drop k)):=hv1
    have HBW:=hid hbw;clear hv1 hb1 hbw hbx;go_wp2;obtain⟨T',q1,q2,q3,q4⟩:=xcj H0.out HL.out HBW.out HV1.out
    go_ret
    exact⟨a1,c1,T',_,(by rw[HDL.out];rfl),q1,q2,q3,q4⟩
   ·obtain⟨g,o,rfl⟩:∃ g o,a=some ⟨g,o,none⟩:=by
     obtain⟨-,⟨e,-⟩ | ⟨g,o,c,cur,e,-⟩⟩:=HS.out
     ·simp only[Value.slice.injEq] at e;omega
     ·cases e;exact⟨g,o,rfl⟩
    have HV:Hid (xaO (fun b=>b=g) w.drew (.slice (some ⟨g,o+k*2,none⟩) (f.stack.drop k).length (cap-k)) (f.stack.drop k)):=(ownsAt.tail HS.out HL.out hfew).later xa1 (qzL _ _).drew
    have HDL:Hid ((f.stack.drop k).length=f.stack.length-k):=by show _=_;simp
    rw[HDL.out] at HV;have hck0:¬ (cap-k=0):=by omega
    clear hck;clear hk;go_enter Try.func122,Try.ntmps122;go_wp2
    go_region
    go_wp2_with fail;refine (xc4 (f.stack.drop k) _ _ HV.out).mono ?_;rintro e w1 ⟨a1,c1,rfl,hv1,hb1⟩;have hbw:Below w.heap.size w w1:=((qzL w.heap.size w).drew).trans hb1;have hbx:=xad HX.out hbw;have d0:w1.cell? ⟨fb,10,none⟩=some _:=(by rw[qzB hbx];rfl)
    have df:=xap hbx;have HV1:Hid (xaO (fun b=>w.heap.size<=b/\b<w1.heap.size) w1 _ (f.stack.drop k)):=hv1
    have HBW:=hid hbw;clear hv1 hb1 hbw hbx;go_wp2;obtain⟨T',q1,q2,q3,q4⟩:=xcj H0.out HL.out HBW.out HV1.out
    go_ret
    exact⟨a1,c1,T',_,(by rw[HDL.out];rfl),q1,q2,q3,q4⟩
theorem xfs {h h':Int}{v:QV}(hv:xax h v=0)(hh:h<=h'):xax h' v=0:=by
 unfold xax xcu at hv ⊢
 split at hv
 ·cases hv
 ·split at hv
  ·rename_i a b;rw[if_neg a,if_pos b];exact hv
  ·split at hv
   ·rename_i a b c;rw[if_neg a,if_neg b,if_pos c];exact hv
   ·rename_i a b c;rw[if_neg a,if_neg b,if_neg c]
    split at hv
    ·cases hv
    ·rename_i d;rw[if_neg (by omega)]
theorem xa5 (h:Int):xax h xaU=0:=by simp[xax,xcu]
def VsOk (h:Int)(l:List QV):Prop:=∀ v∈l,xax h v=0
theorem VsOk.later {h h':Int}{l:List QV}(hl:VsOk h l)(hh:h<=h'):VsOk h' l:=fun v hv=>xfs (hl v hv) hh
theorem VsOk.entry {h:Int}{l:List QV}(hl:VsOk h l)(n:Int):xax h (xaM l n)=0:=by
 unfold xaM
 split
 ·exact xa5 h
 ·cases hq:l[n.toNat]? with
  | none=>exact xa5 h
  | some v=>exact hl v (List.mem_of_getElem? hq)
theorem VsOk.setEntry {h:Int}{l:List QV}(hl:VsOk h l)(n:Int){x:QV}(hx:xax h x=0):VsOk h (xaW l n x):=by
 unfold xaW
 split
 ·exact hl
 ·intro v hv
  rcases List.mem_or_eq_of_mem_set hv with h1 | rfl
  ·exact hl v h1
  ·exact hx
theorem xbE (l:List QV)(n:Int)(x:QV):(xaW l n x).length=l.length:=by unfold xaW;split<;>simp
theorem VsOk.append {h:Int}{l:List QV}(hl:VsOk h l){x:QV}(hx:xax h x=0):VsOk h (l++[x]):=fun v hv=>by
 simp at hv
 rcases hv with h1 | rfl
 ·exact hl v h1
 ·exact hx
theorem VsOk.sub {h:Int}{l k:List QV}(hl:VsOk h l)(hk:∀ v∈k,v∈l):VsOk h k:=fun v hv=>hl v (hk v hv)
theorem xeB (h n:Int):VsOk h (xaG n):=fun v hv=>by
 unfold xaG at hv;rw[(List.mem_replicate.1 hv).2]
 exact xa5 h
structure HOk (cs:List QC)(h:List QO):Prop where
 len:h.length<=60
 obj:∀ o∈h,xbW cs.length o.cls=true/\(o.slots.length:Int)=xbe cs o.cls/\VsOk h.length o.slots
theorem xgU {h:List QO}{v:QV}{o:QO}(e:xd2 h v=some o):h[v.n.toNat]?=some o:=by
 unfold xd2 at e
 split at e
 ·exact e
 ·cases e
theorem HOk.slot {cs:List QC}{h:List QO}(hh:HOk cs h)(v:QV)(n:Int):xax h.length (xcF h v n)=0:=by
 unfold xcF
 cases e:xd2 h v with
 | none=>exact xa5 _
 | some o=>exact (hh.obj o (List.mem_of_getElem? (xgU e))).2.2.entry n
theorem xck (h:List QO)(v:QV)(n:Int)(x:QV):(xaX h v n x).length=h.length:=by unfold xaX;split<;>simp
theorem HOk.setSlot {cs:List QC}{h:List QO}(hh:HOk cs h)(v:QV)(n:Int){x:QV}(hx:xax h.length x=0):HOk cs (xaX h v n x):=by
 refine⟨by rw[xck];exact hh.len,fun o ho=>?_⟩
 rw[xck];unfold xaX at ho
 split at ho
 ·exact hh.obj o ho
 ·rename_i p e
  rcases List.mem_or_eq_of_mem_set ho with h1 | rfl
  ·exact hh.obj o h1
  ·obtain⟨a,b,c⟩:=hh.obj p (List.mem_of_getElem? (xgU e))
   exact⟨a,by simp only[xbE];exact b,c.setEntry n hx⟩
theorem HOk.make {cs:List QC}{h:List QO}(hh:HOk cs h){c:Int}(hc:xbW cs.length c=true){k:Nat}(hk:(k:Int)=xbe cs c)(hl:h.length<60):HOk cs (h++[⟨c,List.replicate k xaU⟩]):=by
 refine⟨by simp;omega,fun o ho=>?_⟩
 simp only[List.length_append,List.length_cons,List.length_nil,List.mem_append,List.mem_singleton] at ho ⊢
 rcases ho with h1 | rfl
 ·obtain⟨a,b,d⟩:=hh.obj o h1
  exact⟨a,b,d.later (by omega)⟩
 ·exact⟨hc,by simpa using hk,fun v hv=>by rw[(List.mem_replicate.1 hv).2];exact xa5 _⟩
def CodeOk (cs:List QC)(l:List QI):Prop:=∀ x∈l,(x.op=5->-1073741824<=x.a/\x.a<=1073741824)/\(x.op=13->xbW cs.length x.a=true)
structure FOk (cs:List QC)(h:Int)(f:Fr):Prop where
 self:xax h f.self=0
 args:VsOk h f.args
 temps:VsOk h f.temps
 stack:VsOk h f.stack
 code:CodeOk cs f.code
 plain:CodeOk cs f.meth.code
theorem FOk.later {cs:List QC}{h h':Int}{f:Fr}(hf:FOk cs h f)(hh:h<=h'):FOk cs h' f:=⟨xfs hf.self hh,hf.args.later hh,hf.temps.later hh,hf.stack.later hh,hf.code,hf.plain⟩
theorem FOk.push {cs:List QC}{h:Int}{f:Fr}(hf:FOk cs h f){v:QV}(hv:xax h v=0):FOk cs h (f.push v):=⟨hf.self,hf.args,hf.temps,hf.stack.append hv,hf.code,hf.plain⟩
theorem FOk.pop {cs:List QC}{h:Int}{f:Fr}(hf:FOk cs h f):FOk cs h f.pop:=⟨hf.self,hf.args,hf.temps,hf.stack.sub fun v hv=>List.dropLast_subset _ hv,hf.code,hf.plain⟩
theorem FOk.top {cs:List QC}{h:Int}{f:Fr}(hf:FOk cs h f):xax h f.top=0:=hf.stack.entry _
theorem FOk.leave {cs:List QC}{h:Int}{f:Fr}(hf:FOk cs h f)(c:Int):FOk cs h (f.leave c):=by
 refine⟨hf.self,hf.args,fun v hv=>?_,hf.stack,hf.plain,hf.plain⟩
 simp only[Fr.leave,List.mem_map] at hv;obtain⟨p,-,rfl⟩:=hv
 cases hq:f.temps[p.2]? with
 | none=>exact xa5 h
 | some v=>exact hf.temps v (List.mem_of_getElem? hq)
section
variable {σ:Type}
structure EOk (E:Env σ):Prop where
 meths:∀ c n m,xaI E.cz c n=some m->CodeOk E.cz m.code
 fast:∀ c n q,E.quick c n=some q->CodeOk E.cz q.1
 slots:∀ c,xbe E.cz c=xaY E.cz c/\0<=xaY E.cz c
structure ROk (cs:List QC)(m m':Mc σ):Prop where
 heap:HOk cs m'.heap
 more:m.heap.length<=m'.heap.length
def xni (cs:List QC)(ent:Ent σ):Prop:=∀ m c n s a,HOk cs m.heap->xax m.heap.length s=0->VsOk m.heap.length a->ROk cs m (ent m c n s a).1/\xax (ent m c n s a).1.heap.length (ent m c n s a).2.1=0
def xgs (cs:List QC)(m:Mc σ)(r:Mc σ × Fr × Int):Prop:=ROk cs m r.1/\(r.2.2=0->FOk cs r.1.heap.length r.2.1)
theorem xlU {cs:List QC}{m:Mc σ}{f:Fr}(hm:HOk cs m.heap)(hf:FOk cs m.heap.length f)(a b:Int):xgs cs m (xaV m f a b):=by
 have hf':∀ t,FOk cs m.heap.length { f with pc:=t }:=fun t=>⟨hf.self,hf.args,hf.temps,hf.stack,hf.code,hf.plain⟩
 unfold xaV xgs
 by_cases h:b<=a
 ·simp only[h,if_true]
  split
  ·exact⟨⟨hm,qzC _⟩,fun h=>by cases h⟩
  ·exact⟨⟨hm,qzC _⟩,fun _=>hf' b⟩
 ·simp only[h,if_false]
  split
  ·exact⟨⟨hm,qzC _⟩,fun h=>by cases h⟩
  ·exact⟨⟨hm,qzC _⟩,fun _=>hf' b⟩
theorem xqP {cs:List QC}{m:Mc σ}{f:Fr}(hm:HOk cs m.heap)(hf:FOk cs m.heap.length f)(a b:Int):xgs cs m (xbz m f a b):=by
 unfold xbz
 split
 ·exact⟨⟨hm,qzC _⟩,fun _=>hf.pop⟩
 ·split
  ·exact xlU hm hf.pop a b
  ·exact⟨⟨hm,qzC _⟩,fun _=>hf⟩
theorem xpx {E:Env σ}(hE:EOk E){m:Mc σ}{f:Fr}(hm:HOk E.cz m.heap)(hf:FOk E.cz m.heap.length f){c:Int}(hc:xbW E.cz.length c=true):xgs E.cz m (xbV E m f c):=by
 unfold xbV
 split
 ·exact⟨⟨hm,qzC _⟩,fun _=>hf⟩
 ·rename_i h;obtain⟨h1,h2⟩:=hE.slots c;refine⟨⟨hm.make hc (by rw[h1];omega) (by omega),by simp⟩,fun _=>?_⟩
  refine (hf.later ?_).push ?_
  ·simp only[List.length_append,List.length_cons,List.length_nil];omega
  ·simp only[List.length_append,List.length_cons,List.length_nil,xax,xcu];rw[if_neg (by omega),if_neg (by omega),if_neg (by omega),if_neg (by omega)]
theorem xkF {cs:List QC}(E:Env σ)(d:Nat){m:Mc σ}(hm:HOk cs m.heap):ROk cs m (xau E d m).1/\(xau E d m).1.heap=m.heap:=by
 unfold xau
 split
 ·exact⟨⟨hm,qzC _⟩,rfl⟩
 ·split
  ·exact⟨⟨hm,qzC _⟩,rfl⟩
  ·exact⟨⟨hm,qzC _⟩,rfl⟩
theorem xqY {cs:List QC}(E:Env σ)(d:Nat){m:Mc σ}{f:Fr}(hm:HOk cs m.heap)(hf:FOk cs m.heap.length f)(x:QI):xgs cs m (xbQ E d m f x):=by
 unfold xbQ
 split
 ·exact⟨⟨hm,qzC _⟩,fun h=>by cases h⟩
 ·split
  ·refine⟨⟨hm,qzC _⟩,fun _=>?_⟩
   simp only[]
   split
   ·exact hf
   ·exact hf.leave x.c
  ·split
   ·exact⟨⟨hm,qzC _⟩,fun _=>hf.push (hm.slot _ _)⟩
   ·split
    ·refine⟨⟨hm.setSlot _ _ hf.top,by simp[xck]⟩,fun _=>?_⟩
     simp only[xck]
     exact hf.pop
    ·split
     ·obtain⟨h1,h2⟩:=xkF (cs:=cs) E d hm;refine⟨h1,fun _=>?_⟩
      simp only[h2]
      exact hf
     ·exact⟨⟨hm,qzC _⟩,fun h=>by cases h⟩
theorem xqh {cs:List QC}{ent:Ent σ}(he:xni cs ent)(E:Env σ){m:Mc σ}{f:Fr}(hm:HOk cs m.heap)(hf:FOk cs m.heap.length f)(at':Int)(x:QI):xgs cs m (xbD ent E m f at' x):=by
 unfold xbD;simp only[];generalize E.look m.st (f.site at' x) (xas m.heap (xaQ (f.stack.take (xbp f.stack x.a)) 0)) x.name=l;have ht:VsOk m.heap.length (f.stack.take (xbp f.stack x.a)):=hf.stack.sub fun v hv=>List.mem_of_mem_take hv
 obtain⟨h1,h2⟩:=he { m with st:=l.1 } l.2.1 l.2.2 (xaQ (f.stack.take (xbp f.stack x.a)) 0) (f.stack.drop (xbp f.stack x.a)) hm (ht.entry _) (hf.stack.sub fun v hv=>List.mem_of_mem_drop hv)
 generalize ent { m with st:=l.1 } l.2.1 l.2.2 (xaQ (f.stack.take (xbp f.stack x.a)) 0) (f.stack.drop (xbp f.stack x.a))=r at h1 h2 ⊢
 have hmore:m.heap.length<=r.1.heap.length:=h1.more
 split
 ·rename_i h;exact⟨⟨h1.heap,hmore⟩,fun h'=>absurd h' h⟩
 ·refine⟨⟨h1.heap,hmore⟩,fun _=>?_⟩
  have hf':=hf.later (h':=(r.1.heap.length:Int)) (by omega)
  have ht':VsOk (r.1.heap.length:Int) (f.stack.take (xbp f.stack x.a)):=ht.later (by omega)
  exact⟨hf'.self,hf'.args,hf'.temps,((ht'.sub fun v hv=>List.dropLast_subset _ hv).append h2),hf'.code,hf'.plain⟩
theorem xmi {cs:List QC}{h:List QO}{f:Fr}(hm:HOk cs h)(hf:FOk cs h.length f){x:QI}(hx:x.op=5->-1073741824<=x.a/\x.a<=1073741824){v:QV}(e:xao h f x=some v):xax h.length v=0:=by
 unfold xao at e
 split at e
 ·cases e;exact hf.self
 ·split at e
  ·cases e;exact hf.args.entry _
  ·split at e
   ·cases e;exact hf.temps.entry _
   ·split at e
    ·cases e;exact hm.slot _ _
    ·split at e
     ·rename_i h5
      cases e
      have:=hx h5;simp only[xax,xcu];rw[if_neg (by omega),if_neg (by omega),if_pos trivial,if_neg (by omega)]
     ·split at e
      ·cases e;exact xa5 _
      ·split at e
       ·cases e;simp[xax,xcu]
       ·split at e
        ·cases e;simp[xax,xcu]
        ·cases e
theorem xjj {E:Env σ}(hE:EOk E){ent:Ent σ}(he:xni E.cz ent)(d:Nat){m:Mc σ}{f:Fr}(hm:HOk E.cz m.heap)(hf:FOk E.cz m.heap.length f)(at':Int){x:QI}(h5:x.op=5->-1073741824<=x.a/\x.a<=1073741824)(h13:x.op=13->xbW E.cz.length x.a=true):xgs E.cz m (xaj ent E d m f at' x):=by
 unfold xaj
 split
 ·rename_i v e
  exact⟨⟨hm,qzC _⟩,fun _=>hf.push (xmi hm hf h5 e)⟩
 ·split
  ·exact⟨⟨hm,qzC _⟩,fun _=>hf.pop⟩
  ·split
   ·exact⟨⟨hm,qzC _⟩,fun _=>hf.push hf.top⟩
   ·split
    ·exact⟨⟨hm,qzC _⟩,fun _=>⟨hf.self,hf.args,hf.temps.setEntry _ hf.top,hf.pop.stack,hf.code,hf.plain⟩⟩
    ·split
     ·refine⟨⟨hm.setSlot _ _ hf.top,by simp[xck]⟩,fun _=>?_⟩
      simp only[xck]
      exact hf.pop
     ·split
      ·rename_i h;exact xpx hE hm hf (h13 h)
      ·split
       ·exact xqh he E hm hf at' x
       ·split
        ·exact xlU hm hf at' x.a
        ·split
         ·exact xqP hm hf at' x.a
         ·exact xqY E d hm hf x
theorem ROk.trans {cs:List QC}{a b c:Mc σ}(h:ROk cs a b)(k:ROk cs b c):ROk cs a c:=⟨k.heap,qzD h.more k.more⟩
theorem xpi {E:Env σ}(hE:EOk E){ent:Ent σ}(he:xni E.cz ent)(d:Nat):∀ (g:Nat) {m:Mc σ} {f:Fr},HOk E.cz m.heap->FOk E.cz m.heap.length f->ROk E.cz m (xb7 ent E d g m f).1/\xax (xb7 ent E d g m f).1.heap.length (xb7 ent E d g m f).2.1=0
 | 0,m,f,hm,hf=>⟨⟨hm,qzC _⟩,xa5 _⟩
 | g+1,m,f,hm,hf=>by
  unfold xb7
  cases hq:(if f.pc<0 then none else f.code[f.pc.toNat]?) with
  | none=>exact⟨⟨hm,qzC _⟩,xa5 _⟩
  | some x=>
   have hx:x∈f.code:=by
    split at hq
    ·cases hq
    ·exact List.mem_of_getElem? hq
   simp only[]
   by_cases h17:x.op=17
   ·rw[if_pos h17];exact⟨⟨hm,qzC _⟩,hf.top⟩
   ·rw[if_neg h17];have hf1:FOk E.cz m.heap.length { f with pc:=f.pc+1 }:=⟨hf.self,hf.args,hf.temps,hf.stack,hf.code,hf.plain⟩
    obtain⟨h1,h2⟩:=xjj hE he d hm hf1 f.pc (hf.code x hx).1 (hf.code x hx).2;generalize xaj ent E d m { f with pc:=f.pc+1 } f.pc x=r at h1 h2 ⊢
    by_cases h0:r.2.2≠0
    ·rw[if_pos h0];exact⟨h1,xa5 _⟩
    ·rw[if_neg h0];obtain⟨k1,k2⟩:=xpi hE he d g h1.heap (h2 (by simpa using h0))
     exact⟨h1.trans k1,k2⟩
theorem xlq (h:Int){a b:QV}(p:Int):xax h (xbR p a b).1=0:=by
 have tm:∀ n:Int,-1073741824<=n.tmod 1073741825/\n.tmod 1073741825<=1073741824:=fun n=>by
  have h1:=Int.tmod_lt_of_pos n (b:=1073741825) (by omega)
  have h2:=Int.lt_tmod_of_pos n (b:=1073741825) (by omega)
  omega
 have num:∀ n:Int,xax h ⟨3,n.tmod 1073741825⟩=0:=fun n=>by
  have:=tm n;simp only[xax,xcu];rw[if_neg (by omega),if_neg (by omega),if_pos trivial,if_neg (by omega)]
 have bol:∀ c:Prop,∀ _:Decidable c,xax h ⟨if c then 2 else 1,0⟩=0:=fun c _=>by
  by_cases hc:c<;>simp[hc,xax,xcu]
 unfold xbR
 split
 ·exact xa5 h
 ·split
  ·exact num _
  ·split
   ·exact num _
   ·split
    ·exact num _
    ·split
     ·exact bol _ _
     ·split
      ·exact bol _ _
      ·exact xa5 h
theorem xkS {E:Env σ}(hE:EOk E)(d:Nat){body:Mc σ->Fr->Mc σ × QV × Int}(hb:∀ {m f},HOk E.cz m.heap->FOk E.cz m.heap.length f->ROk E.cz m (body m f).1/\xax (body m f).1.heap.length (body m f).2.1=0):xni E.cz (xbc E d body):=by
 intro m c n s a hm hs ha;unfold xbc
 cases hmt:xaI E.cz c n with
 | none=>exact⟨⟨hm,qzC _⟩,xa5 _⟩
 | some mt=>
  simp only[]
  split
  ·exact⟨⟨hm,qzC _⟩,xa5 _⟩
  ·split
   ·split
    ·exact⟨⟨hm,qzC _⟩,xa5 _⟩
    ·exact⟨⟨hm,qzC _⟩,xlq _ _⟩
   ·split
    ·exact⟨⟨hm,qzC _⟩,xa5 _⟩
    ·obtain⟨h1,h2⟩:=xkF (cs:=E.cz) E d hm
     have hf:FOk E.cz (xau E d m).1.heap.length (xaK E c n mt s a):=by
      rw[h2];have hmc:=hE.meths c n mt hmt;unfold xaK
      cases hq:E.quick c n with
      | none=>exact⟨hs,ha,xeB _ _,fun v hv=>by simp at hv,hmc,hmc⟩
      | some q=>exact⟨hs,ha,xeB _ _,fun v hv=>by simp at hv,hE.fast c n q hq,hmc⟩
     obtain⟨k1,k2⟩:=hb h1.heap hf
     exact⟨h1.trans k1,k2⟩
theorem xl9 {E:Env σ}(hE:EOk E):∀ d:Nat,xni E.cz (xa4 E d)
 | 0=>xkS hE 0 fun hm hf=>⟨⟨hm,qzC _⟩,xa5 _⟩
 | d+1=>xkS hE (d+1) fun hm hf=>xpi hE (xl9 hE d) d _ hm hf
theorem xhZ {f:QI->Int}:∀ {l:List QI} {k:Nat} {p:Int × Int},xlj f k l=some p->p.1≠0
 | [],k,p,h=>by simp[xlj] at h
 | z :: r,k,p,h=>by
  unfold xlj at h
  split at h
  ·rename_i hz;cases h;exact hz
  ·exact xhZ h
def xgC:Int->Int->Option (List QI × Int):=fun _ _=>none
theorem xhj {X:QW}(h:xaH X=0):HOk X.cz X.heap:=by
 obtain⟨hs,-,-,ho⟩:=xcl h;refine⟨hs.heap,fun o hm=>?_⟩
 obtain⟨i,hi,rfl⟩:=List.mem_iff_getElem.1 hm;have hr:=ho i _ hi (List.getElem?_eq_getElem hi);unfold roE at hr
 split at hr
 ·cases hr
 ·rename_i hn;have hn':=not_or.1 hn;refine⟨by simpa using hn'.1,by simpa using hn'.2,fun v hv=>?_⟩
  obtain⟨k,hk,rfl⟩:=List.mem_iff_getElem.1 hv
  exact xbM hr k _ (List.getElem?_eq_getElem hk)
theorem xeq {X:QW}(h:xaH X=0):xbY X.cz:=fun i x hx=>by
 obtain⟨hs,hc,-,-⟩:=xcl h;have hr:=hc i x (xae hx) hx;unfold rcE at hr
 split at hr
 ·cases hr
 ·split at hr
  ·split at hr
   ·cases hr
   ·split at hr
    ·cases hr
    ·split at hr
     ·cases hr
     ·split at hr
      ·cases hr
      ·omega
  ·split at hr
   ·cases hr
   ·split at hr
    ·cases hr
    ·split at hr
     ·cases hr
     ·omega
theorem xei {X:QW}(h:xaH X=0)(c:Int):xbe X.cz c=xaY X.cz c/\0<=xaY X.cz c:=by
 have ho:=xeq h;obtain⟨hs,-,-,-⟩:=xcl h;have hm:=hs.many
 exact⟨xfA ho (by omega) c,(xcD ho (X.cz.length+1) c 0 (Int.le_refl _)).1⟩
theorem xdb {X:QW}(h:xaH X=0){c n:Int}{m:QM}(hm:xaI X.cz c n=some m):CodeOk X.cz m.code:=by
 obtain⟨hs,-,hk,-⟩:=xcl h;unfold xaI at hm
 cases hx:xbx X.cz c with
 | none=>rw[hx] at hm;cases hm
 | some x=>
  rw[hx] at hm;simp only[Option.bind_some] at hm;obtain⟨k,rfl,hx'⟩:=xa7 hx
  split at hm
  ·have hr:=hk k x (xae hx') hx';unfold rkE at hr
   split at hr
   ·cases hr
   ·split at hr
    ·cases hr
    ·have hq:=xbM hr _ _ hm;unfold rmE at hq
     split at hq
     ·cases hq
     ·split at hq
      ·rename_i hp;unfold xgQ at hp;rw[List.any_eq_true] at hp;obtain⟨p,-,hp⟩:=hp;simp only[Bool.and_eq_true,decide_eq_true_eq] at hp;have:m.code=[]:=List.eq_nil_of_length_eq_zero hp.2;rw[this];intro y hy
       simp at hy
      ·unfold xd9 at hq
       split at hq
       ·rename_i a;exact absurd hq a
       ·split at hq
        ·rename_i f e
         exact absurd hq (xhZ e)
        ·rename_i e;intro y hy;have hn:=xhY e y hy;unfold xgb at hn
         split at hn
         ·cases hn
         ·split at hn
          ·cases hn
          ·rename_i hra;unfold raE at hra;refine⟨fun h5=>?_,fun h13=>?_⟩
           ·simp[h5,inR] at hra
            omega
           ·simp[h13,inR] at hra
            simp[xbW]
            omega
  ·cases hm
theorem xnW {X:QW}(h:xaH X=0)(fuel:Int)(look:σ->QS->Int->ByteArray->σ × (Int × Int)):EOk (⟨X.cz,fuel,look,xgC⟩:Env σ):=
 ⟨fun c n m hm=>xdb h hm,fun c n q hq=>(by cases hq),fun c=>xei h c⟩
end
structure PlOk (f:Fr):Prop where
 fast:f.fast=false
 code:f.code=f.meth.code
 nums:∃ S n,∀ x∈f.code,xgb S n f.meth x=0
 hts:(xaT f.code).2.1=0
 args:(f.args.length:Int)=f.meth.args
 temps:(f.temps.length:Int)=f.meth.temps
 pc:∃ k:Nat,f.pc=k/\k<f.code.length/\(f.stack.length:Int)=(xaT f.code).1.getD k 0
theorem xf0 {S n:Int}{m:QM}{x:QI}(h:xgb S n m x=0):1<=x.op/\x.op<=17/\(x.op=2->0<=x.a/\x.a<m.args)/\(x.op=3\/x.op=11->0<=x.a/\x.a<m.temps)/\(x.op=14->0<=x.a/\x.a<=4)/\x.b=0/\x.c=0:=by
 have h14:=xeD h;unfold xgb at h
 split at h
 ·cases h
 ·rename_i h1
  split at h
  ·cases h
  ·rename_i hra
   split at h
   ·cases h
   ·rename_i hr
    simp[inR] at h1
    refine⟨by omega,by omega,fun h2=>?_,fun h3=>?_,h14,by omega,by omega⟩
    ·simp[raE,h2,inR] at hra;omega
    ·rcases h3 with h3 | h3<;>(simp[raE,h3,inR] at hra;omega)
structure NxOk (f:Fr)(k:Nat)(x:QI):Prop where
 pc:f.pc=k
 lt:k<f.code.length
 here:f.code[k]?=some x
 need:(xaS x k).need<=f.stack.length
 back:x.op=17->f.stack.length=1
 few:f.stack.length<=12
 next:∀ t∈(xaS x k).next,∃ j:Nat,t=(j:Int)/\j<f.code.length/\(xaT f.code).1.getD j 0=f.stack.length+(xaS x k).more
 kind:1<=x.op/\x.op<=17
 arg:x.op=2->0<=x.a/\x.a<f.args.length
 temp:x.op=3\/x.op=11->0<=x.a/\x.a<f.temps.length
 send:x.op=14->0<=x.a/\x.a<=4
 zero:x.b=0/\x.c=0
theorem PlOk.nx {f:Fr}(h:PlOk f):∃ k x,NxOk f k x:=by
 obtain⟨S,n,hn⟩:=h.nums;obtain⟨k,hk,hlt,hs⟩:=h.pc;have hx:f.code[k]?=some f.code[k]:=List.getElem?_eq_getElem hlt;have hso:xdr f.code:=fun y hy=>xeD (hn y hy)
 obtain⟨-,-,-,hat⟩:=xg1 hso h.hts;obtain⟨h1,h2,h3,h4⟩:=hat k _ hx (by omega)
 obtain⟨n1,n2,n3,n4,n5,n6,n7⟩:=xf0 (hn f.code[k] (List.getElem_mem hlt));rw[← h.args] at n3;rw[← h.temps] at n4;refine⟨k,f.code[k],hk,hlt,hx,by omega,fun h17=>by have:=h3 h17;omega,by omega,fun t ht=>?_,⟨n1,n2⟩,n3,n4,n5,⟨n6,n7⟩⟩
 obtain⟨j,j1,j2,j3⟩:=h4 t ht
 exact⟨j,j1,j2,by omega⟩
theorem PlOk.go {f f':Fr}(h:PlOk f){k:Nat}{x:QI}(hx:NxOk f k x)(e1:f'.meth=f.meth)(e2:f'.args=f.args)(e3:f'.code=f.code)(e4:f'.fast=f.fast)(e5:f'.temps.length=f.temps.length)(e6:(f'.stack.length:Int)=f.stack.length+(xaS x k).more)(e7:f'.pc∈(xaS x k).next):PlOk f':=by
 obtain⟨j,j1,j2,j3⟩:=hx.next _ e7;refine⟨e4.trans h.fast,by rw[e3,e1];exact h.code,by rw[e3,e1];exact h.nums,by rw[e3];exact h.hts,by rw[e2,e1];exact h.args,by rw[e5,e1];exact h.temps,j,j1,by rw[e3];exact j2,by rw[e3,j3];exact e6⟩
theorem xi2 {σ:Type}{m:Mc σ}{f:Fr}{a b:Int}(h0:(xaV m f a b).2.2=0):(xaV m f a b).2.1={ f with pc:=b }:=by
 unfold xaV at h0 ⊢;simp only[] at h0 ⊢;generalize (if b<=a then { m with tz:=m.tz+1 } else m:Mc σ)=m' at h0 ⊢
 by_cases h:300<m'.tz
 ·rw[if_pos h] at h0;cases h0
 ·rw[if_neg h]
theorem xfb {h:List QO}{f:Fr}{x:QI}{v:QV}(e:xao h f x=some v):1<=x.op/\x.op<=8:=by
 unfold xao at e
 split at e
 ·omega
 ·split at e
  ·omega
  ·split at e
   ·omega
   ·split at e
    ·omega
    ·split at e
     ·omega
     ·split at e
      ·omega
      ·split at e
       ·omega
       ·split at e
        ·omega
        ·cases e
theorem xhN {σ:Type}{ent:Ent σ}{E:Env σ}{d:Nat}{m:Mc σ}{f:Fr}(h:PlOk f){k:Nat}{x:QI}(hx:NxOk f k x)(h17:x.op≠17)(h0:(xaj ent E d m { f with pc:=f.pc+1 } f.pc x).2.2=0):PlOk (xaj ent E d m { f with pc:=f.pc+1 } f.pc x).2.1:=by
 have hpc:=hx.pc;have hneed:=hx.need;have hkind:=hx.kind;unfold xaj at h0 ⊢
 split
 ·rename_i v e;have ho:=xfb e
  have hn:xaS x k=⟨0,1,[(k:Int)+1]⟩:=by
   unfold xaS;rw[if_neg (by omega),if_neg (by omega),if_neg (by omega),if_neg (by omega),if_neg (by omega),if_neg (by omega)]
  exact h.go hx rfl rfl rfl rfl rfl (by rw[hn];simp[Fr.push]) (by rw[hn,← hpc];simp[Fr.push])
 ·rename_i e;rw[e] at h0;simp only[] at h0
  split
  ·rename_i h9;have hn:xaS x k=⟨1,-1,[(k:Int)+1]⟩:=by unfold xaS;rw[if_pos (by omega)]
   rw[hn] at hneed;simp only[] at hneed
   exact h.go hx rfl rfl rfl rfl rfl (by rw[hn];simp[Fr.pop];omega) (by rw[hn,← hpc];simp[Fr.pop])
  ·split
   ·rename_i h9 h10;have hn:xaS x k=⟨1,1,[(k:Int)+1]⟩:=by unfold xaS;rw[if_neg (by omega),if_pos h10]
    exact h.go hx rfl rfl rfl rfl rfl (by rw[hn];simp[Fr.push]) (by rw[hn,← hpc];simp[Fr.push])
   ·split
    ·rename_i h9 h10 h11;have hn:xaS x k=⟨1,-1,[(k:Int)+1]⟩:=by unfold xaS;rw[if_pos (by omega)]
     rw[hn] at hneed;simp only[] at hneed
     exact h.go hx rfl rfl rfl rfl (by simp[xbE]) (by rw[hn];simp[Fr.pop];omega) (by rw[hn,← hpc];simp[Fr.pop])
    ·split
     ·rename_i h9 h10 h11 h12;have hn:xaS x k=⟨1,-1,[(k:Int)+1]⟩:=by unfold xaS;rw[if_pos (by omega)]
      rw[hn] at hneed;simp only[] at hneed
      exact h.go hx rfl rfl rfl rfl rfl (by rw[hn];simp[Fr.pop];omega) (by rw[hn,← hpc];simp[Fr.pop])
     ·split
      ·rename_i h9 h10 h11 h12 h13;rw[if_neg h9,if_neg h10,if_neg h11,if_neg h12,if_pos h13] at h0
       have hn:xaS x k=⟨0,1,[(k:Int)+1]⟩:=by
        unfold xaS;rw[if_neg (by omega),if_neg (by omega),if_neg (by omega),if_neg (by omega),if_neg (by omega),if_neg (by omega)]
       unfold xbV at h0 ⊢
       split
       ·rename_i hc;rw[if_pos hc] at h0;cases h0
       ·exact h.go hx rfl rfl rfl rfl rfl (by rw[hn];simp[Fr.push]) (by rw[hn,← hpc];simp[Fr.push])
      ·split
       ·rename_i h9 h10 h11 h12 h13 h14;rw[if_neg h9,if_neg h10,if_neg h11,if_neg h12,if_neg h13,if_pos h14] at h0;have hn:xaS x k=⟨x.a+1,-x.a,[(k:Int)+1]⟩:=by unfold xaS;rw[if_neg (by omega),if_neg (by omega),if_pos h14]
        rw[hn] at hneed;simp only[] at hneed;have ha:=hx.send h14;unfold xbD at h0 ⊢;simp only[] at h0 ⊢
        split
        ·rename_i hc;rw[if_pos hc] at h0;exact absurd h0 hc
        ·exact h.go hx rfl rfl rfl rfl rfl (by rw[hn];simp only[List.length_append,List.length_dropLast,List.length_take,List.length_cons,List.length_nil,xbp];omega) (by rw[hn,← hpc];simp)
       ·split
        ·rename_i h9 h10 h11 h12 h13 h14 h15;rw[if_neg h9,if_neg h10,if_neg h11,if_neg h12,if_neg h13,if_neg h14,if_pos h15] at h0;have hn:xaS x k=⟨0,0,[x.a]⟩:=by unfold xaS;rw[if_neg (by omega),if_neg (by omega),if_neg (by omega),if_pos h15]
         rw[xi2 h0]
         exact h.go hx rfl rfl rfl rfl rfl (by rw[hn];simp) (by rw[hn];simp)
        ·split
         ·rename_i h9 h10 h11 h12 h13 h14 h15 h16;rw[if_neg h9,if_neg h10,if_neg h11,if_neg h12,if_neg h13,if_neg h14,if_neg h15,if_pos h16] at h0;have hn:xaS x k=⟨1,-1,[(k:Int)+1,x.a]⟩:=by unfold xaS;rw[if_neg (by omega),if_neg (by omega),if_neg (by omega),if_neg (by omega),if_pos h16]
          rw[hn] at hneed;simp only[] at hneed;unfold xbz at h0 ⊢
          split
          ·exact h.go hx rfl rfl rfl rfl rfl (by rw[hn];simp[Fr.pop];omega) (by rw[hn,← hpc];simp[Fr.pop])
          ·rename_i k2;rw[if_neg k2] at h0
           split
           ·rename_i k1;rw[if_pos k1] at h0;rw[xi2 h0]
            exact h.go hx rfl rfl rfl rfl rfl (by rw[hn];simp[Fr.pop];omega) (by rw[hn];simp[Fr.pop])
           ·rename_i k1;rw[if_neg k1] at h0
            cases h0
         ·exfalso;rename_i h9 h10 h11 h12 h13 h14 h15 h16;rw[if_neg h9,if_neg h10,if_neg h11,if_neg h12,if_neg h13,if_neg h14,if_neg h15,if_neg h16] at h0;unfold xbQ at h0;rw[if_pos h.fast] at h0
          cases h0
section
variable {σ:Type}
def muE (m:Mc σ)(f:Fr):Nat:=(if f.fast then 302*(f.meth.code.length+1) else 0)+(301-m.tz).toNat*(f.code.length+1)+(f.code.length-f.pc.toNat)
theorem xrj {m m':Mc σ}{f f':Fr}(ht:m.tz<=m'.tz)(e1:f'.fast=f.fast)(e2:f'.meth=f.meth)(e3:f'.code=f.code)(h0:0<=f.pc)(hl:f.pc.toNat<f.code.length)(hp:f.pc<f'.pc):muE m' f'<muE m f:=by
 unfold muE;rw[e1,e2,e3];have h1:(301-m'.tz).toNat*(f.code.length+1)<=(301-m.tz).toNat*(f.code.length+1):=Nat.mul_le_mul_right _ (by omega)
 omega
theorem xqo {m m':Mc σ}{f f':Fr}(ht:m'.tz=m.tz+1)(h300:m'.tz<=300)(e1:f'.fast=f.fast)(e2:f'.meth=f.meth)(e3:f'.code=f.code):muE m' f'<muE m f:=by
 unfold muE;rw[e1,e2,e3];have h1:(301-m.tz).toNat=(301-m'.tz).toNat+1:=by omega
 rw[h1,Nat.add_mul,Nat.one_mul]
 omega
theorem xn9 {m:Mc σ}{f:Fr}(h0:0<=m.tz)(hf:f.fast=true)(c:Int):muE m (f.leave c)<muE m f:=by
 unfold muE;have e1:(f.leave c).fast=false:=rfl;have e2:(f.leave c).code=f.meth.code:=rfl;rw[e1,e2,hf];simp only[Bool.false_eq_true,if_false,if_true];have h1:(301-m.tz).toNat*(f.meth.code.length+1)<=301*(f.meth.code.length+1):=Nat.mul_le_mul_right _ (by omega)
 omega
theorem xg8 {m:Mc σ}{f:Fr}(h0:0<=m.tz):muE m f<=xf4 f:=by
 unfold muE xf4;have h1:(301-m.tz).toNat*(f.code.length+1)<=301*(f.code.length+1):=Nat.mul_le_mul_right _ (by omega)
 split<;>omega
def xbt (ent:Ent σ):Prop:=∀ m c n s a,m.tz<=(ent m c n s a).1.tz
theorem xmm {m:Mc σ}{f:Fr}(h0:0<=f.pc)(hl:f.pc.toNat<f.code.length){f1:Fr}(e1:f1.fast=f.fast)(e2:f1.meth=f.meth)(e3:f1.code=f.code){b:Int}(he:(xaV m f1 f.pc b).2.2=0):muE (xaV m f1 f.pc b).1 (xaV m f1 f.pc b).2.1<muE m f:=by
 unfold xaV at he ⊢
 by_cases hb:b<=f.pc
 ·simp only[hb,if_true] at he ⊢
  by_cases h:300<m.tz+1
  ·rw[if_pos h] at he;cases he
  ·rw[if_neg h]
   exact xqo rfl (by simp only[];omega) e1 e2 e3
 ·simp only[hb,if_false] at he ⊢
  by_cases h:300<m.tz
  ·rw[if_pos h] at he;cases he
  ·rw[if_neg h]
   exact xrj (Int.le_refl _) e1 e2 e3 h0 hl (by simp only[];omega)
theorem xgc {ent:Ent σ}(ht:xbt ent){E:Env σ}{d:Nat}{m:Mc σ}{f:Fr}(hm:0<=m.tz)(h0:0<=f.pc)(hl:f.pc.toNat<f.code.length){x:QI}(he:(xaj ent E d m { f with pc:=f.pc+1 } f.pc x).2.2=0):muE (xaj ent E d m { f with pc:=f.pc+1 } f.pc x).1 (xaj ent E d m { f with pc:=f.pc+1 } f.pc x).2.1<muE m f:=by
 have on:∀ {m':Mc σ} {f':Fr},m.tz<=m'.tz->f'.fast=f.fast->f'.meth=f.meth->f'.code=f.code->f'.pc=f.pc+1->muE m' f'<muE m f:=fun a b c d e=>xrj a b c d h0 hl (by omega)
 unfold xaj at he ⊢
 split
 ·exact on (Int.le_refl _) rfl rfl rfl rfl
 ·rename_i e;rw[e] at he;simp only[] at he
  split
  ·exact on (Int.le_refl _) rfl rfl rfl rfl
  ·split
   ·exact on (Int.le_refl _) rfl rfl rfl rfl
   ·split
    ·exact on (Int.le_refl _) rfl rfl rfl rfl
    ·split
     ·exact on (Int.le_refl _) rfl rfl rfl rfl
     ·split
      ·rename_i h9 h10 h11 h12 h13;rw[if_neg h9,if_neg h10,if_neg h11,if_neg h12,if_pos h13] at he;unfold xbV at he ⊢
       split
       ·rename_i hc;rw[if_pos hc] at he;cases he
       ·exact on (Int.le_refl _) rfl rfl rfl rfl
      ·split
       ·rename_i h9 h10 h11 h12 h13 h14;rw[if_neg h9,if_neg h10,if_neg h11,if_neg h12,if_neg h13,if_pos h14] at he;unfold xbD at he ⊢;simp only[] at he ⊢
        split
        ·rename_i hc;rw[if_pos hc] at he;exact absurd he hc
        ·exact on (ht _ _ _ _ _) rfl rfl rfl rfl
       ·split
        ·rename_i h9 h10 h11 h12 h13 h14 h15;rw[if_neg h9,if_neg h10,if_neg h11,if_neg h12,if_neg h13,if_neg h14,if_pos h15] at he
         exact xmm (f1:={ f with pc:=f.pc+1 }) h0 hl rfl rfl rfl he
        ·split
         ·rename_i h9 h10 h11 h12 h13 h14 h15 h16;rw[if_neg h9,if_neg h10,if_neg h11,if_neg h12,if_neg h13,if_neg h14,if_neg h15,if_pos h16] at he;unfold xbz at he ⊢
          split
          ·exact on (Int.le_refl _) rfl rfl rfl rfl
          ·rename_i k2;rw[if_neg k2] at he
           split
           ·rename_i k1;rw[if_pos k1] at he
            exact xmm (f1:=Fr.pop { f with pc:=f.pc+1 }) h0 hl rfl rfl rfl he
           ·rename_i k1;rw[if_neg k1] at he
            cases he
         ·rename_i h9 h10 h11 h12 h13 h14 h15 h16;rw[if_neg h9,if_neg h10,if_neg h11,if_neg h12,if_neg h13,if_neg h14,if_neg h15,if_neg h16] at he;unfold xbQ at he ⊢
          split
          ·rename_i k;rw[if_pos k] at he;cases he
          ·rename_i hfast;have hfast':f.fast=true:=by simpa using hfast
           split
           ·simp only[]
            split
            ·exact on (Int.le_refl _) rfl rfl rfl rfl
            ·have:=xn9 (m:=m) (f:={ f with pc:=f.pc+1 }) hm hfast' x.c
             have h2:muE m { f with pc:=f.pc+1 }<muE m f:=on (Int.le_refl _) rfl rfl rfl rfl
             omega
           ·split
            ·exact on (Int.le_refl _) rfl rfl rfl rfl
            ·split
             ·exact on (Int.le_refl _) rfl rfl rfl rfl
             ·split
              ·refine on ?_ rfl rfl rfl rfl;simp only[xau]
               split
               ·exact Int.le_refl _
               ·split
                ·exact Int.le_refl _
                ·exact Int.le_refl _
              ·exact on (Int.le_refl _) rfl rfl rfl rfl
theorem xhd (m:Mc σ)(f:Fr)(a b:Int):m.tz<=(xaV m f a b).1.tz:=by
 unfold xaV
 by_cases h:b<=a
 ·simp only[h,if_true]
  split<;>(simp only[];omega)
 ·simp only[h,if_false]
  split<;>exact Int.le_refl _
theorem xec (E:Env σ)(d:Nat)(m:Mc σ):(xau E d m).1.tz=m.tz:=by
 unfold xau
 split
 ·rfl
 ·split<;>rfl
theorem xc9 {ent:Ent σ}(ht:xbt ent)(E:Env σ)(d:Nat)(m:Mc σ)(f:Fr)(a:Int)(x:QI):m.tz<=(xaj ent E d m f a x).1.tz:=by
 unfold xaj
 split
 ·exact Int.le_refl _
 ·split
  ·exact Int.le_refl _
  ·split
   ·exact Int.le_refl _
   ·split
    ·exact Int.le_refl _
    ·split
     ·exact Int.le_refl _
     ·split
      ·unfold xbV
       split<;>exact Int.le_refl _
      ·split
       ·unfold xbD;simp only[]
        split
        ·exact ht { m with st:=_ } _ _ _ _
        ·exact ht { m with st:=_ } _ _ _ _
       ·split
        ·exact xhd _ _ _ _
        ·split
         ·unfold xbz
          split
          ·exact Int.le_refl _
          ·split
           ·exact xhd _ _ _ _
           ·exact Int.le_refl _
         ·unfold xbQ
          split
          ·exact Int.le_refl _
          ·split
           ·exact Int.le_refl _
           ·split
            ·exact Int.le_refl _
            ·split
             ·exact Int.le_refl _
             ·split
              ·exact Int.le_of_eq (xec E d m).symm
              ·exact Int.le_refl _
theorem xie {ent:Ent σ}(ht:xbt ent)(E:Env σ)(d:Nat):∀ (g:Nat) (m:Mc σ) (f:Fr),m.tz<=(xb7 ent E d g m f).1.tz
 | 0,m,f=>Int.le_refl _
 | g+1,m,f=>by
  unfold xb7;generalize (if f.pc<0 then none else f.code[f.pc.toNat]?)=q
  cases q with
  | none=>exact Int.le_refl _
  | some x=>
   simp only[]
   split
   ·exact Int.le_refl _
   ·have h1:=xc9 ht E d m { f with pc:=f.pc+1 } f.pc x
    split
    ·exact h1
    ·exact Int.le_trans h1 (xie ht E d g _ _)
theorem xgD (E:Env σ)(d:Nat){body:Mc σ->Fr->Mc σ × QV × Int}(hb:∀ m f,m.tz<=(body m f).1.tz):xbt (xbc E d body):=by
 intro m c n s a;unfold xbc
 cases xaI E.cz c n with
 | none=>exact Int.le_refl _
 | some mt=>
  simp only[]
  split
  ·exact Int.le_refl _
  ·split
   ·split<;>exact Int.le_refl _
   ·split
    ·exact Int.le_refl _
    ·have h1:=xec E d m;have h2:=hb (xau E d m).1 (xaK E c n mt s a)
     omega
theorem xbK (E:Env σ):∀ d:Nat,xbt (xa4 E d)
 | 0=>xgD E 0 fun m f=>Int.le_refl _
 | d+1=>xgD E (d+1) fun m f=>xie (xbK E d) E d _ m f
theorem xdS {X:QW}(h:xaH X=0){c n:Int}{m:QM}(hm:xaI X.cz c n=some m):(m.prim≠0/\m.args=1)\/(m.prim=0/\∃ S N:Int,wmE X.cz.length c m=0/\(∀ x∈m.code,xgb S N m x=0)/\(xaT m.code).2.1=0):=by
 obtain⟨hs,-,hk,-⟩:=xcl h;unfold xaI at hm
 cases hx:xbx X.cz c with
 | none=>rw[hx] at hm;cases hm
 | some x=>
  rw[hx] at hm;simp only[Option.bind_some] at hm;obtain⟨k,rfl,hx'⟩:=xa7 hx
  split at hm
  ·have hr:=hk k x (xae hx') hx';unfold rkE at hr
   split at hr
   ·cases hr
   ·split at hr
    ·cases hr
    ·have hq:=xbM hr _ _ hm;unfold rmE at hq
     split at hq
     ·cases hq
     ·split at hq
      ·rename_i hp
       left
       unfold xgQ at hp;rw[List.any_eq_true] at hp;obtain⟨p,hpm,hp⟩:=hp;simp only[Bool.and_eq_true,decide_eq_true_eq] at hp;refine⟨?_,hp.1.1.2⟩;rw[← hp.1.1.1.2]
       have:∀ q∈xgJ,q.prim≠0:=by
        intro q hq
        simp[xgJ] at hq
        rcases hq with rfl | rfl | rfl | rfl | rfl<;>decide
       exact this p hpm
      ·right
       unfold xd9 at hq
       split at hq
       ·rename_i a;exact absurd hq a
       ·rename_i a;have hw:wmE X.cz.length k m=0:=Decidable.of_not_not a
        split at hq
        ·rename_i f e;exact absurd hq (xhZ e)
        ·rename_i e;refine⟨?_,_,_,hw,xhY e,hq⟩;unfold wmE at hw
         split at hw
         ·cases hw
         ·split at hw
          ·cases hw
          ·split at hw
           ·cases hw
           ·split at hw
            ·cases hw
            ·rename_i hp;exact Decidable.of_not_not hp
  ·cases hm
theorem xh0 {X:QW}(h:xaH X=0){c n:Int}{m:QM}(hm:xaI X.cz c n=some m)(hp:m.prim=0){a:List QV}(ha:m.args=a.length)(s:QV){E:Env σ}(hq:E.quick c n=none):PlOk (xaK E c n m s a):=by
 rcases xdS h hm with ⟨hp',-⟩ | ⟨-,S,N,hw,hn,hh⟩
 ·exact absurd hp hp'
 ·obtain⟨hw1,hw2,hw3,-,-,-⟩:=xkn hw;have hso:xdr m.code:=fun y hy=>xeD (hn y hy)
  obtain⟨-,h1,h2,-⟩:=xg1 hso hh;have hfr:xaK E c n m s a=⟨c,m,s,a,xaG m.temps,[],m.code,0,false⟩:=by unfold xaK;rw[hq]
  rw[hfr];refine⟨rfl,rfl,⟨S,N,hn⟩,hh,ha.symm,?_,0,rfl,h1,?_⟩
  ·simp only[xaG,List.length_replicate];omega
  ·rw[h2];rfl
end
section
variable {σ τ:Type}
structure MR (Rel:σ->τ->Prop)(m:Mc σ)(m':Mc τ):Prop where
 heap:m'.heap=m.heap
 sz_:m'.sz_=m.sz_
 tz:m'.tz=m.tz
 st:Rel m.st m'.st
def RR {α:Type}(Rel:σ->τ->Prop)(r:Mc σ × α × Int)(r':Mc τ × α × Int):Prop:=MR Rel r.1 r'.1/\r'.2=r.2
structure ER (Rel:σ->τ->Prop)(SOk:QS->ByteArray->Prop)(E:Env σ)(E':Env τ):Prop where
 cz:E'.cz=E.cz
 fuel:E'.fuel=E.fuel
 quick:E'.quick=E.quick
 look:∀ s t x c name,Rel s t->SOk x name->(E'.look t x c name).2=(E.look s x c name).2/\Rel (E.look s x c name).1 (E'.look t x c name).1
 plain:∀ c n m,xaI E.cz c n=some m->∀ (k:Nat) x,m.code[k]?=some x->x.op=14->SOk ⟨c,m.name,k⟩ x.name
 fast:∀ c n m q,xaI E.cz c n=some m->E.quick c n=some q->∀ x∈q.1,x.op=14->SOk ⟨c,m.name,x.c⟩ x.name
structure FR (SOk:QS->ByteArray->Prop)(f:Fr):Prop where
 code:f.fast=false->f.code=f.meth.code
 plain:∀ (k:Nat) x,f.meth.code[k]?=some x->x.op=14->SOk ⟨f.cls,f.meth.name,k⟩ x.name
 fast:f.fast=true->∀ x∈f.code,x.op=14->SOk ⟨f.cls,f.meth.name,x.c⟩ x.name
theorem FR.same {SOk:QS->ByteArray->Prop}{f f':Fr}(h:FR SOk f)(e1:f'.fast=f.fast)(e2:f'.code=f.code)(e3:f'.meth=f.meth)(e4:f'.cls=f.cls):FR SOk f':=by
 refine⟨?_,?_,?_⟩
 ·rw[e1,e2,e3];exact h.code
 ·rw[e3,e4];exact h.plain
 ·rw[e1,e2,e3,e4];exact h.fast
theorem FR.leave {SOk:QS->ByteArray->Prop}{f:Fr}(h:FR SOk f)(c:Int):FR SOk (f.leave c):=⟨fun _=>rfl,h.plain,fun h=>by cases h⟩
def xrC (Rel:σ->τ->Prop)(ent:Ent σ)(ent':Ent τ):Prop:=∀ m m' c n s a,MR Rel m m'->RR Rel (ent m c n s a) (ent' m' c n s a)
theorem xkL {Rel:σ->τ->Prop}{m:Mc σ}{m':Mc τ}(h:MR Rel m m')(f:Fr)(a b:Int):RR Rel (xaV m f a b) (xaV m' f a b):=by
 unfold xaV
 by_cases hb:b<=a
 ·simp only[hb,if_true,h.tz]
  split
  ·exact⟨⟨h.heap,h.sz_,rfl,h.st⟩,rfl⟩
  ·exact⟨⟨h.heap,h.sz_,rfl,h.st⟩,rfl⟩
 ·simp only[hb,if_false,h.tz]
  split
  ·exact⟨h,rfl⟩
  ·exact⟨h,rfl⟩
theorem xiM {Rel:σ->τ->Prop}{SOk:QS->ByteArray->Prop}{E:Env σ}{E':Env τ}(hE:ER Rel SOk E E')(d:Nat){m:Mc σ}{m':Mc τ}(h:MR Rel m m'):MR Rel (xau E d m).1 (xau E' d m').1/\(xau E' d m').2=(xau E d m).2:=by
 unfold xau;rw[hE.fuel,h.sz_]
 split
 ·exact⟨h,rfl⟩
 ·split
  ·exact⟨h,rfl⟩
  ·exact⟨⟨h.heap,rfl,h.tz,h.st⟩,rfl⟩
theorem xn6 {Rel:σ->τ->Prop}{SOk:QS->ByteArray->Prop}{E:Env σ}{E':Env τ}(hE:ER Rel SOk E E'){ent:Ent σ}{ent':Ent τ}(he:xrC Rel ent ent')(d:Nat){m:Mc σ}{m':Mc τ}(h:MR Rel m m'){f:Fr}{at':Int}{x:QI}(hs:x.op=14->SOk (f.site at' x) x.name):RR Rel (xaj ent E d m f at' x) (xaj ent' E' d m' f at' x):=by
 unfold xaj;rw[h.heap]
 split
 ·exact⟨h,rfl⟩
 ·split
  ·exact⟨h,rfl⟩
  ·split
   ·exact⟨h,rfl⟩
   ·split
    ·exact⟨h,rfl⟩
    ·split
     ·exact⟨⟨rfl,h.sz_,h.tz,h.st⟩,rfl⟩
     ·split
      ·unfold xbV;rw[h.heap,hE.cz]
       split
       ·exact⟨h,rfl⟩
       ·exact⟨⟨rfl,h.sz_,h.tz,h.st⟩,rfl⟩
      ·split
       ·rename_i h14;unfold xbD;simp only[];rw[h.heap];obtain⟨l1,l2⟩:=hE.look m.st m'.st (f.site at' x) (xas m.heap (xaQ (f.stack.take (xbp f.stack x.a)) 0)) x.name h.st (hs h14);generalize E.look m.st (f.site at' x) (xas m.heap (xaQ (f.stack.take (xbp f.stack x.a)) 0)) x.name=l at l1 l2 ⊢;generalize E'.look m'.st (f.site at' x) (xas m.heap (xaQ (f.stack.take (xbp f.stack x.a)) 0)) x.name=l' at l1 l2 ⊢;obtain⟨q1,q2⟩:=l;obtain⟨q1',q2'⟩:=l';simp only[] at l1 l2;subst l1;have hr:=he { m with st:=q1 } { m' with st:=q1' } q2'.1 q2'.2 (xaQ (f.stack.take (xbp f.stack x.a)) 0) (f.stack.drop (xbp f.stack x.a)) ⟨h.heap,h.sz_,h.tz,l2⟩
        simp only[h.heap] at hr;generalize ent { m with st:=q1 } q2'.1 q2'.2 (xaQ (f.stack.take (xbp f.stack x.a)) 0) (f.stack.drop (xbp f.stack x.a))=r at hr ⊢
        generalize ent' { heap:=m.heap,sz_:=m'.sz_,tz:=m'.tz,st:=q1' } q2'.1 q2'.2 (xaQ (f.stack.take (xbp f.stack x.a)) 0) (f.stack.drop (xbp f.stack x.a))=r' at hr ⊢;obtain⟨r1,r2⟩:=hr;rw[r2]
        split
        ·exact⟨r1,rfl⟩
        ·exact⟨r1,rfl⟩
       ·split
        ·exact xkL h f at' x.a
        ·split
         ·unfold xbz
          split
          ·exact⟨h,rfl⟩
          ·split
           ·exact xkL h f.pop at' x.a
           ·exact⟨h,rfl⟩
         ·unfold xbQ;rw[h.heap]
          split
          ·exact⟨h,rfl⟩
          ·split
           ·exact⟨h,rfl⟩
           ·split
            ·exact⟨h,rfl⟩
            ·split
             ·exact⟨⟨rfl,h.sz_,h.tz,h.st⟩,rfl⟩
             ·split
              ·obtain⟨c1,c2⟩:=xiM hE d h;refine⟨c1,?_⟩;simp only[];rw[c2]
              ·exact⟨h,rfl⟩
theorem xns {SOk:QS->ByteArray->Prop}(m:Mc σ){f:Fr}(h:FR SOk f)(a b:Int):FR SOk (xaV m f a b).2.1:=by
 unfold xaV;simp only[];generalize (if b<=a then { m with tz:=m.tz+1 } else m:Mc σ)=m'
 split
 ·exact h
 ·exact h.same rfl rfl rfl rfl
theorem xqm {SOk:QS->ByteArray->Prop}(ent:Ent σ)(E:Env σ)(d:Nat)(m:Mc σ){f:Fr}(h:FR SOk f)(a:Int)(x:QI):FR SOk (xaj ent E d m f a x).2.1:=by
 unfold xaj
 split
 ·exact h.same rfl rfl rfl rfl
 ·split
  ·exact h.same rfl rfl rfl rfl
  ·split
   ·exact h.same rfl rfl rfl rfl
   ·split
    ·exact h.same rfl rfl rfl rfl
    ·split
     ·exact h.same rfl rfl rfl rfl
     ·split
      ·unfold xbV
       split
       ·exact h
       ·exact h.same rfl rfl rfl rfl
      ·split
       ·unfold xbD;simp only[]
        split
        ·exact h
        ·exact h.same rfl rfl rfl rfl
       ·split
        ·exact xns m h a x.a
        ·split
         ·unfold xbz
          split
          ·exact h.same rfl rfl rfl rfl
          ·split
           ·exact xns m (f:=f.pop) (h.same rfl rfl rfl rfl) a x.a
           ·exact h
         ·unfold xbQ
          split
          ·exact h
          ·split
           ·simp only[]
            split
            ·exact h
            ·exact h.leave x.c
           ·split
            ·exact h.same rfl rfl rfl rfl
            ·split
             ·exact h.same rfl rfl rfl rfl
             ·split
              ·exact h
              ·exact h
theorem FR.site {SOk:QS->ByteArray->Prop}{f:Fr}(h:FR SOk f){x:QI}(h0:¬ f.pc<0)(hx:f.code[f.pc.toNat]?=some x)(h14:x.op=14)(t:Int):SOk (Fr.site { f with pc:=t } f.pc x) x.name:=by
 unfold Fr.site
 cases hf:f.fast with
 | false=>
  simp only[Bool.false_eq_true,if_false];rw[h.code hf] at hx;have:=h.plain _ x hx h14
  rwa [show ((f.pc.toNat:Nat):Int)=f.pc by omega] at this
 | true=>
  simp only[if_true]
  exact h.fast hf x (List.mem_of_getElem? hx) h14
theorem xmT {Rel:σ->τ->Prop}{SOk:QS->ByteArray->Prop}{E:Env σ}{E':Env τ}(hE:ER Rel SOk E E'){ent:Ent σ}{ent':Ent τ}(he:xrC Rel ent ent')(d:Nat):∀ (g:Nat) {m:Mc σ} {m':Mc τ} {f:Fr},MR Rel m m'->FR SOk f->RR Rel (xb7 ent E d g m f) (xb7 ent' E' d g m' f)
 | 0,m,m',f,h,hf=>⟨h,rfl⟩
 | g+1,m,m',f,h,hf=>by
  unfold xb7
  cases hq:(if f.pc<0 then none else f.code[f.pc.toNat]?) with
  | none=>exact⟨h,rfl⟩
  | some x=>
   simp only[]
   split
   ·exact⟨h,rfl⟩
   ·have hs:x.op=14->SOk (Fr.site { f with pc:=f.pc+1 } f.pc x) x.name:=fun h14=>by
     split at hq
     ·cases hq
     ·rename_i h0;exact hf.site h0 hq h14 _
    have hr:=xn6 hE he d h (f:={ f with pc:=f.pc+1 }) (at':=f.pc) hs
    have hfr:=xqm ent E d m (f:={ f with pc:=f.pc+1 }) (hf.same rfl rfl rfl rfl) f.pc x
    generalize xaj ent E d m { f with pc:=f.pc+1 } f.pc x=r at hr hfr ⊢
    generalize xaj ent' E' d m' { f with pc:=f.pc+1 } f.pc x=r' at hr ⊢
    obtain⟨r1,r2⟩:=hr;rw[r2]
    split
    ·exact⟨r1,rfl⟩
    ·exact xmT hE he d g r1 hfr
theorem xim {Rel:σ->τ->Prop}{SOk:QS->ByteArray->Prop}{E:Env σ}{E':Env τ}(hE:ER Rel SOk E E')(d:Nat){body:Mc σ->Fr->Mc σ × QV × Int}{body':Mc τ->Fr->Mc τ × QV × Int}(hb:∀ {m m' f},MR Rel m m'->FR SOk f->RR Rel (body m f) (body' m' f)):xrC Rel (xbc E d body) (xbc E' d body'):=by
 intro m m' c n s a h;unfold xbc;rw[hE.cz,hE.fuel,h.sz_]
 cases hm:xaI E.cz c n with
 | none=>exact⟨h,rfl⟩
 | some mt=>
  simp only[];have hfr:xaK E' c n mt s a=xaK E c n mt s a:=by unfold xaK;rw[hE.quick]
  have hf:FR SOk (xaK E c n mt s a):=by
   unfold xaK
   cases hq:E.quick c n with
   | none=>exact⟨fun _=>rfl,hE.plain c n mt hm,fun h=>by cases h⟩
   | some q=>exact⟨fun h=>(by cases h),hE.plain c n mt hm,fun _=>hE.fast c n mt q hm hq⟩
  split
  ·exact⟨h,rfl⟩
  ·split
   ·split
    ·exact⟨h,rfl⟩
    ·exact⟨⟨h.heap,rfl,h.tz,h.st⟩,rfl⟩
   ·obtain⟨c1,c2⟩:=xiM hE d h;rw[c2,hfr]
    split
    ·exact⟨h,rfl⟩
    ·exact hb c1 hf
theorem xml {Rel:σ->τ->Prop}{SOk:QS->ByteArray->Prop}{E:Env σ}{E':Env τ}(hE:ER Rel SOk E E'):∀ d:Nat,xrC Rel (xa4 E d) (xa4 E' d)
 | 0=>xim hE 0 fun h _=>⟨h,rfl⟩
 | d+1=>xim hE (d+1) fun h hf=>xmT hE (xml hE d) d _ h hf
end
end Go.Proofs.Ytdfbgpiikeheiaa
