/- A part. -/
import Derived.Test.YtapbeiccodnniaaGreatM2
namespace Go.Proofs.YtapbeiccodnniaaGreat
open Go.ChangeShapes Go.WideShapes Go.ChangeAt Go.RowKit
set_option linter.unusedSimpArgs false
set_option linter.unusedVariables false
set_option maxHeartbeats 8000000
set_option maxRecDepth 8000
theorem hid {p:Prop}(h:p):Hid p:=h
theorem xat {P:Program}{ops:Array Oper}{o:Oper}{a:Act}{w w':World}{K:Act->World->Prop}{Q:Exit->Act->World->Prop}{E:Prop}(hg:o.guard=none)(s x:Operand)(T:TypeId)(hop:o.op=Op.call { callee:=Callee.builtin Builtin.append,args:=#[s,x],argTypes:=#[T,T] })
  (vs vx v':Value) (hs:a.eval s=vs) (hx:a.eval x=vx) (hrun:(Builtin.append_ #[T,T] o.type #[vs,vx]).run P w=.ok v' w') (hK:K (a.put o.dst v') w'):if Region.wanted o (yielded ops a.tmps)=true then Oper.wp P o a w K Q else E:=by
 have hw:Region.wanted o (yielded ops a.tmps)=true:=by simp[Region.wanted,hg]
 rw[if_pos hw];unfold Oper.wp
 simp[execOp,hop,resolve,invoke,builtin,hs,hx,hrun,Result.andThen]
 exact hK
theorem xam {w:World}{b:Nat}{cur:Array Value}{t:TypeId}(h:w.heap[b]?=some (.cells cur t (0,0)))(o:Nat):w.frozen? ⟨b,o,none⟩=false:=by unfold World.frozen?;simp[h]
theorem ownsAt.vals {w:World}{base:Nat}{v:Value}{xs:List QV}(h:ownsAt w base 27 2 v xs.length (xal xs))(hb:xs.length*16<=140737488351232):xaB (fun b=>v.ownBlock=some b) w v xs:=by
 obtain⟨h1,⟨rfl,h2⟩ | ⟨g,o,cap,cur,rfl,h3,h4,h5,h6,h7,h8⟩⟩:=h
 ·have:xs=[]:=List.eq_nil_of_length_eq_zero h2;subst this
  exact⟨none,0,rfl,by simp,by simp,by simp,fun i x hx=>by simp at hx⟩
 ·refine⟨_,_,rfl,h5,h6,hb,fun i x hx=>⟨g,o,rfl,rfl,?_⟩⟩
  have hi:=xae hx
  have hcell:∀ j,j<xs.length*2->w.cell? ⟨g,o+j,none⟩=(xal xs)[j]?:=fun j hj=>by
   rw[← h8,qzB h4,List.getElem?_take,if_pos hj,List.getElem?_drop]
   simp
  obtain⟨e1,e2⟩:=xbO hx
  exact⟨by show w.cell? ⟨g,o+i*2+0,none⟩=_;rw[Nat.add_zero,hcell _ (by omega)];exact e1,by show w.cell? ⟨g,o+i*2+1,none⟩=_;rw[Nat.add_assoc,hcell _ (by omega)];exact e2⟩
theorem ownsAt.take {w:World}{base n:Nat}{a:Option Addr}{cap:Nat}{xs:List QV}(h:ownsAt w base 27 2 (.slice a n cap) n (xal xs)){k:Nat}(hk:k<=n):ownsAt w base 27 2 (.slice a k cap) k (xal (xs.take k)):=by
 have hx:xs.length=n:=by have:=h.1;rw[xbm] at this;omega
 obtain⟨h1,⟨e,h2⟩ | ⟨g,o,cap',cur,e,h3,h4,h5,h6,h7,h8⟩⟩:=h
 ·cases e
  obtain rfl:k=0:=by omega
  exact⟨by simp[xal],Or.inl ⟨rfl,rfl⟩⟩
 ·cases e
  refine⟨by rw[xbm,List.length_take];omega,Or.inr ⟨g,o,cap,cur,rfl,h3,h4,by omega,h6,h7,?_⟩⟩
  rw[← xdG,← h8,List.take_take]
  congr 1
  omega
theorem ownsAt.base {w:World}{base base':Nat}{e:TypeId}{sz:Nat}{v:Value}{n:Nat}{xs:List Value}(h:ownsAt w base e sz v n xs)(hb:∀ g,v.ownBlock=some g->base'<=g):ownsAt w base' e sz v n xs:=by
 obtain⟨h1,h2 | ⟨g,o,cap,cur,rfl,h3,h4,h5⟩⟩:=h
 ·exact⟨h1,Or.inl h2⟩
 ·exact⟨h1,Or.inr ⟨g,o,cap,cur,rfl,hb g (by simp[Value.ownBlock]),h4,h5⟩⟩
abbrev FB (f:Fr)(cv av tv sv kv:Value):Obj:=.cells #[.int .i64 f.cls,.string f.meth.name,.int .i64 f.meth.args,.int .i64 f.meth.temps,.int .i64 f.meth.prim,cv,.int .i64 f.self.k,.int .i64 f.self.n,av,tv,sv,kv,.int .i64 f.pc,.bool f.fast] 149 (0,0)
structure FrAt (T:Nat->Nat)(K:Nat)(w:World)(fb:Nat)(f:Fr)(cv av tv sv kv:Value):Prop where
 box:w.heap[fb]?=some (FB f cv av tv sv kv)
 tag:T fb=K
 args:xaB (Fx T w) w av f.args
 temps:∃ tb,tv=.slice (some ⟨tb,0,none⟩) f.temps.length f.temps.length/\w.heap[tb]?=some (.cells (xal f.temps).toArray 27 (0,0))/\T tb=K+1/\f.temps.length<=40
 stack:ownsAt w 0 27 2 sv f.stack.length (xal f.stack)
 stag:∀ g,sv.ownBlock=some g->T g=K+2
 few:f.stack.length<=1000000000
 code:xa5 (Fx T w) w kv f.code
 meth:xa5 (Fx T w) w cv f.meth.code
 pos:5<=K
section
variable {T T':Nat->Nat} {K:Nat} {w w':World} {fb:Nat} {f:Fr} {cv av tv sv kv:Value}
theorem FrAt.keep {S:Nat->Prop}(h:FrAt T K w fb f cv av tv sv kv)(e:Ext T T' w)(k:Kp S T w w')(h0:¬ S 0)(h1:¬ S K)(h2:¬ S (K+1))(h3:¬ S (K+2)):FrAt T' K w' fb f cv av tv sv kv:=by
 obtain⟨tb,e1,e2,e3,e4⟩:=h.temps;refine⟨k.held h.box (by rw[h.tag];exact h1),by rw[e _ (xaf h.box)];exact h.tag,h.args.fx xaK e k h0,⟨tb,e1,k.held e2 (by rw[e3];exact h2),by rw[e _ (xaf e2)];exact e3,e4⟩,h.stack.keep fun g hg=>k.blk g (h.stack.lt g hg).2 (by rw[h.stag g hg];exact h3),fun g hg=>by rw[e _ (h.stack.lt g hg).2];exact h.stag g hg,h.few,h.code.fx xbl e k h0,h.meth.fx xbl e k h0,h.pos⟩
theorem FrAt.later (h:FrAt T K w fb f cv av tv sv kv)(hb:Below w.heap.size w w'):FrAt T K w' fb f cv av tv sv kv:=h.keep (S:=fun _=>False) (.refl _ _) (.of_below hb) id id id id
theorem FrAt.turn {f':Fr}{sv':Value}(h:FrAt T K w fb f cv av tv sv kv)(k:Kp (fun t=>t=K) T w w')(hb:w'.heap[fb]?=some (FB f' cv av tv sv' kv))(e1:f'.args=f.args)(e2:f'.temps=f.temps)(e3:f'.code=f.code)(e4:f'.meth=f.meth)(hs:ownsAt w 0 27 2 sv' f'.stack.length (xal f'.stack))(ho:∀ g,sv'.ownBlock=some g->T g=K+2)(hf:f'.stack.length<=1000000000):FrAt T K w' fb f' cv av tv sv' kv:=by
 obtain⟨tb,d1,d2,d3,d4⟩:=h.temps;have hp:=h.pos;refine⟨hb,h.tag,by rw[e1];exact h.args.fx xaK (.refl _ _) k (by omega),⟨tb,by rw[e2];exact d1,by rw[e2];exact k.held d2 (by rw[d3];omega),d3,by rw[e2];exact d4⟩,hs.keep fun g hg=>k.blk g (hs.lt g hg).2 (by rw[ho g hg];omega),ho,hf,by rw[e3];exact h.code.fx xbl (.refl _ _) k (by omega),by rw[e4];exact h.meth.fx xbl (.refl _ _) k (by omega),hp⟩
theorem FrAt.cut {a:Option Addr}{cap m:Nat}(h:FrAt T K w fb f cv av tv (.slice a f.stack.length cap) kv)(k:Kp (fun t=>t=K) T w w')(hb:w'.heap[fb]?=some (FB { f with stack:=f.stack.take m } cv av tv (.slice a m cap) kv))(hm:m<=f.stack.length):FrAt T K w' fb { f with stack:=f.stack.take m } cv av tv (.slice a m cap) kv:=by
 have hl:(f.stack.take m).length=m:=by rw[List.length_take];omega
 refine h.turn k hb rfl rfl rfl rfl ?_ (fun g hg=>h.stag g (by cases a<;>exact hg)) (by show (f.stack.take m).length<=_;rw[hl];have:=h.few;omega)
 show ownsAt w 0 27 2 _ (f.stack.take m).length _
 rw[hl]
 exact h.stack.take hm
theorem FrAt.vals (h:FrAt T K w fb f cv av tv sv kv):xaB (fun b=>sv.ownBlock=some b) w sv f.stack:=h.stack.vals (by have:=h.few;omega)
end
theorem xmb {n:Nat}(h:n<=1000000000)(k:Int)(hk:0<=k/\k<=9223372036854775807):IntKind.i64.wrap (IntKind.i64.wrap ((n:Int)-1)-k)=(n:Int)-1-k:=by
 rw[xaE (n:=(n:Int)-1) (by omega) (by omega),xaE (by omega) (by omega)]
theorem xfm {T:Nat->Nat}{K:Nat}{w:World}{fb:Nat}{f:Fr}{cv av tv sv kv:Value}(h:FrAt T K w fb f cv av tv sv kv)(n:Int)(hn:0<=n/\n<=9223372036854775807):Calls Tryz.prog 101 #[.pointer (some ⟨fb,0,none⟩),.int .i64 n] w fun e w'=>e=.returned (VV (xaW f.stack n))/\Below w.heap.size w w':=by
 have hv:=h.vals;have hlt:=xaf h.box;have c0:w.cell? ⟨fb,10,none⟩=some sv:=by rw[qzB h.box];rfl
 have hfew:=h.few;have HR:Hid (IntKind.i64.wrap (IntKind.i64.wrap ((f.stack.length:Int)-1)-n)=(f.stack.length:Int)-1-n):=xmb hfew n hn;clear h;obtain⟨a,cap,rfl,-⟩:=id hv;have hb1:Below w.heap.size w (w.alloc (.cells #[.int .i64 0,.int .i64 0] 27)).drew:=(xaj w _).drew;have hv1:=hv.later xaK hb1;have c1:=qzA hb1 c0;have r0:(w.alloc (.cells #[.int .i64 0,.int .i64 0] 27)).drew.cell? ⟨w.heap.size,0,none⟩=some (.int .i64 0):=xaa w #[.int .i64 0,.int .i64 0] 27 _ rfl 0;have r1:(w.alloc (.cells #[.int .i64 0,.int .i64 0] 27)).drew.cell? ⟨w.heap.size,1,none⟩=some (.int .i64 0):=xaa w #[.int .i64 0,.int .i64 0] 27 _ rfl 1
 have rf:∀ o,(w.alloc (.cells #[.int .i64 0,.int .i64 0] 27)).drew.frozen? ⟨w.heap.size,o,none⟩=false:=xam (heap_alloc_new w (.cells #[.int .i64 0,.int .i64 0] 27));have hz:w.heap.size<(w.alloc (.cells #[.int .i64 0,.int .i64 0] 27)).drew.heap.size:=by simp
 clear hv c0;go_enter Tryz.func101,Tryz.ntmps101
 go_upto_region 1 with (fail)
 generalize (w.alloc (.cells #[.int .i64 0,.int .i64 0] 27))=W at *
 go_region_held3 (fun w'=>w'.cell? ⟨fb,10,none⟩=some (Value.slice a f.stack.length cap))
  (first | with_reducible exact c1 | with_reducible exact c2 | exact (World.cell?_setCell_far _ _ _ _ (by simp;omega)).trans ((World.cell?_setCell_far _ _ _ _ (by simp;omega)).trans c2))
  (first | (go_at_call 92;rw[HR.out];refine (xc0 f.stack _ _ _ hv1).mono ?_;rintro e w1 ⟨rfl,hb2⟩;have c2:=qzA hb2 c1;have s0:=qzA hb2 r0;have s1:=qzA hb2 r1;have sf:∀ o,w1.frozen? ⟨w.heap.size,o,none⟩=false:=fun o=>(hb2.frozen (p:=⟨w.heap.size,o,none⟩) hz).trans (rf o)))
 go_wp2;refine bodyPost_ret (v:=VV (xaW f.stack n)) ?_ rfl ⟨rfl,((xah hb1 hb2).setCell (by simp) _).setCell (by simp) _⟩
 simp[results,Tryz.results101,go_sem,s0,s1]
 exact⟨rfl,rfl⟩
theorem xe7 (w:World):w.drew.heap=w.heap:=rfl
theorem xeP {w:World}{fb:Nat}{f:Fr}{cv av tv sv kv:Value}(h:w.heap[fb]?=some (FB f cv av tv sv kv))(l:List QV)(sv':Value):(w.setCell ⟨fb,10,none⟩ sv').heap[fb]?=some (FB { f with stack:=l } cv av tv sv' kv):=by
 rw[xad h];rfl
theorem xdD {T:Nat->Nat}{K:Nat}{w:World}{fb:Nat}{f:Fr}{cv av tv sv kv:Value}(h:FrAt T K w fb f cv av tv sv kv):Calls Tryz.prog 94 #[.pointer (some ⟨fb,0,none⟩)] w fun e w'=>e=.returned (VV f.top)/\(∃ sv',FrAt T K w' fb f.pop cv av tv sv' kv)/\Kp (fun t=>t=K) T w w':=by
 have hlt:=xaf h.box;have hb1:Below w.heap.size w (w.alloc (.cells #[.int .i64 0,.int .i64 0] 27)):=xaj w _;have h1:=h.later hb1;have r0:(w.alloc (.cells #[.int .i64 0,.int .i64 0] 27)).cell? ⟨w.heap.size,0,none⟩=some (.int .i64 0):=xaa w #[.int .i64 0,.int .i64 0] 27 _ rfl 0;have r1:(w.alloc (.cells #[.int .i64 0,.int .i64 0] 27)).cell? ⟨w.heap.size,1,none⟩=some (.int .i64 0):=xaa w #[.int .i64 0,.int .i64 0] 27 _ rfl 1;have rf:∀ o,(w.alloc (.cells #[.int .i64 0,.int .i64 0] 27)).frozen? ⟨w.heap.size,o,none⟩=false:=xam (heap_alloc_new w (.cells #[.int .i64 0,.int .i64 0] 27));have hz:w.heap.size<(w.alloc (.cells #[.int .i64 0,.int .i64 0] 27)).heap.size:=by simp
 have HF:Hid (FrAt T K w fb f cv av tv sv kv):=h;have hfew:=h.few;clear h;go_enter Tryz.func94,Tryz.ntmps94
 go_upto_region 1 with (fail)
 generalize (w.alloc (.cells #[.int .i64 0,.int .i64 0] 27))=W at *;go_wp2_with fail;refine (xfm h1 0 ⟨by omega,by omega⟩).mono ?_
 rintro e w1 ⟨rfl,hb2⟩;have h2:=h1.later hb2;have hbb:=xah hb1 hb2;have s0:=qzA hb2 r0;have s1:=qzA hb2 r1;have sf:∀ o,w1.frozen? ⟨w.heap.size,o,none⟩=false:=fun o=>(hb2.frozen (p:=⟨w.heap.size,o,none⟩) hz).trans (rf o)
 have c0:w1.cell? ⟨fb,10,none⟩=some sv:=by rw[qzB h2.box];rfl
 have cf:=xam h2.box;have hz2:=hb2.size;have hzz:¬ fb=w.heap.size:=by omega
 have hzz':¬ w.heap.size=fb:=by omega
 have hbx:=h2.box;have hst:=h2.stack;have hl1:fb<w1.heap.size:=by omega
 have hl2:w.heap.size<w1.heap.size:=by omega
 obtain⟨a,cap,rfl,hc1,hc2⟩:=hst.form;unfold maxLen at hc2;have HT:Hid (f.top=xaW f.stack 0):=rfl;have HS:Hid (ownsAt w1 0 27 2 (.slice a f.stack.length cap) f.stack.length (xal f.stack)):=hst;have H2:Hid (FrAt T K w1 fb f cv av tv (.slice a f.stack.length cap) kv):=h2;have HX:Hid (w1.heap[fb]?=some (FB f cv av tv (.slice a f.stack.length cap) kv)):=hbx;clear h1 h2 r0 r1 rf hst hbx hb1 hb2;obtain⟨v,hv⟩:∃ v,v=xaW f.stack 0:=⟨_,rfl⟩;rw[← hv] at HT ⊢;clear hv;go_wp2;have HK:Hid (Kp (fun t=>t=K) T w1 (w1.alloc (.cells #[.int .i64 v.k,.int .i64 v.n] 27))):=Kp.of_below (xaj _ _)
 have H3:Hid (FrAt T K (w1.alloc (.cells #[.int .i64 v.k,.int .i64 v.n] 27)) fb f cv av tv (.slice a f.stack.length cap) kv):=H2.out.later (xaj _ _);have d0:=qzA (xaj w1 (.cells #[.int .i64 v.k,.int .i64 v.n] 27)) c0;have df:∀ o,(w1.alloc (.cells #[.int .i64 v.k,.int .i64 v.n] 27)).frozen? ⟨fb,o,none⟩=false:=xam H3.out.box;have u0:=qzA (xaj w1 (.cells #[.int .i64 v.k,.int .i64 v.n] 27)) s0;have u1:=qzA (xaj w1 (.cells #[.int .i64 v.k,.int .i64 v.n] 27)) s1;have uf:∀ o,(w1.alloc (.cells #[.int .i64 v.k,.int .i64 v.n] 27)).frozen? ⟨w.heap.size,o,none⟩=false:=fun o=>((xaj w1 _).frozen (p:=⟨w.heap.size,o,none⟩) hl2).trans (sf o)
 have b0:(w1.alloc (.cells #[.int .i64 v.k,.int .i64 v.n] 27)).cell? ⟨w1.heap.size,0,none⟩=some (.int .i64 v.k):=xaa _ _ _ _ rfl 0;have b1:(w1.alloc (.cells #[.int .i64 v.k,.int .i64 v.n] 27)).cell? ⟨w1.heap.size,1,none⟩=some (.int .i64 v.n):=xaa _ _ _ _ rfl 1;have n1:¬ w1.heap.size=fb:=by omega
 have n2:¬ w1.heap.size=w.heap.size:=by omega
 have n3:¬ w.heap.size=w1.heap.size:=by omega
 have n4:¬ fb=w1.heap.size:=by omega
 have HBV:Hid (Below w.heap.size w (w1.alloc (.cells #[.int .i64 v.k,.int .i64 v.n] 27))):=xah hbb (xaj _ _);clear s0 s1 sf c0 cf H2 HS HX;generalize (w1.alloc (.cells #[.int .i64 v.k,.int .i64 v.n] 27))=V at *;have HL:Hid (f.pop={ f with stack:=f.stack.take (f.stack.length-1) }):=by show _=_;unfold Fr.pop;rw[List.dropLast_eq_take]
 by_cases h0:f.stack.length=0
 ·have hw:IntKind.i64.wrap (((0:Nat):Int)-1)=-1:=by rfl
  have h0':Hid (f.stack.length-1=0):=by show _=_;omega
  rw[h0] at d0
  go_region
  go_wp2;refine bodyPost_ret (v:=VV v) ?_ rfl ⟨by rw[HT.out],⟨.slice a 0 cap,?_⟩,?_⟩
  ·simp[results,Tryz.results94,go_sem,u0,u1,n2,n3]
  ·rw[HL.out,h0'.out];refine HF.out.cut (m:=0) ?_ ?_ (by omega)
   ·exact (((((Kp.of_below HBV.out).set (fun _=>HF.out.tag) _ _).set (fun h=>absurd h (Nat.lt_irrefl _)) _ _).set (fun h=>absurd h (Nat.lt_irrefl _)) _ _)).drew
   ·rw[xe7,xab hzz,xab hzz]
    exact xeP H3.out.box _ _
  ·exact (((((Kp.of_below HBV.out).set (fun _=>HF.out.tag) _ _).set (fun h=>absurd h (Nat.lt_irrefl _)) _ _).set (fun h=>absurd h (Nat.lt_irrefl _)) _ _)).drew
 ·obtain⟨m,hm⟩:∃ m,f.stack.length=m+1:=⟨f.stack.length-1,by omega⟩
  have hw:IntKind.i64.wrap ((f.stack.length:Int)-1)=(m:Int):=by rw[hm,xaE (by omega) (by omega)];omega
  have hm0:¬ ((m:Int)<0):=by omega
  have hm1:m<=cap:=by omega
  have hm2:(m:Int)<=(cap:Int):=by omega
  have HM:Hid (f.stack.length-1=m):=by show _=_;omega
  have HM2:Hid (m<=f.stack.length):=by show _<=_;omega
  clear hm h0;generalize hL:f.stack.length=L at hw d0
  go_region
  go_wp2;refine bodyPost_ret (v:=VV v) ?_ rfl ⟨by rw[HT.out],⟨.slice a m cap,?_⟩,?_⟩
  ·simp[results,Tryz.results94,go_sem,u0,u1,n2,n3]
  ·rw[HL.out,HM.out];refine HF.out.cut (m:=m) ?_ ?_ HM2.out
   ·exact (((((Kp.of_below HBV.out).set (fun _=>HF.out.tag) _ _).set (fun h=>absurd h (Nat.lt_irrefl _)) _ _).set (fun h=>absurd h (Nat.lt_irrefl _)) _ _)).drew
   ·rw[xe7,xab hzz,xab hzz]
    exact xeP H3.out.box _ _
  ·exact (((((Kp.of_below HBV.out).set (fun _=>HF.out.tag) _ _).set (fun h=>absurd h (Nat.lt_irrefl _)) _ _).set (fun h=>absurd h (Nat.lt_irrefl _)) _ _)).drew
theorem FrAt.pushed {T:Nat->Nat}{K:Nat}{w U w':World}{fb:Nat}{f:Fr}{cv av tv sv sv' kv:Value}{v:QV}(h:FrAt T K w fb f cv av tv sv kv)(hU:Below w.heap.size w U)(hn:f.stack.length<1000000000)
  (r1:ownsAt w' 0 27 2 sv' (f.stack.length+1) (xal f.stack++[.int .i64 v.k,.int .i64 v.n])) (r2:sv'.ownBlock=sv.ownBlock\/∃ g,sv'.ownBlock=some g/\U.heap.size<=g) (r3:Below 0 U w') (r4:∀ b,b<U.heap.size->some b≠sv.ownBlock->w'.heap[b]?=U.heap[b]?) (hx:w'.heap[fb]?=some (FB f cv av tv sv kv)) :
  (∃ T',Ext T T' w/\FrAt T' K (w'.setCell ⟨fb,10,none⟩ sv') fb (f.push v) cv av tv sv' kv)/\Kp (fun t=>t=K\/t=K+2) T w (w'.setCell ⟨fb,10,none⟩ sv'):=by
 have hlt:=xaf h.box;have hp:=h.pos
 have kU:Kp (fun t=>t=K\/t=K+2) T w w':=⟨r3.os.trans hU.os,r3.tape.trans hU.tape,r3.output.trans hU.output,qzD hU.size r3.size,fun b hb hs=>by
  rw[r4 b (qzE hb hU.size) (fun e=>hs (Or.inr (h.stag b e.symm))),hU.block b hb]⟩
 have k:=kU.set (b:=fb) (fun _=>Or.inl h.tag) 10 sv'
 obtain⟨T',hT,hg⟩:∃ T',Ext T T' w/\∀ g,sv'.ownBlock=some g->T' g=K+2:=by
  rcases r2 with e | ⟨g,e,hg⟩
  ·exact⟨T,.refl _ _,fun g hg=>h.stag g (by rw[← e];exact hg)⟩
  ·exact⟨xhE T g (K+2),xd5 (qzD hU.size hg),fun g' h'=>by rw[e] at h';cases h';exact xdv _ _ _⟩
 refine⟨⟨T',hT,?_⟩,k⟩;obtain⟨tb,d1,d2,d3,d4⟩:=h.temps;refine⟨xeP hx (f.stack++[v]) sv',by rw[hT _ hlt];exact h.tag,h.args.fx xaK hT k (by omega),⟨tb,d1,k.held d2 (by rw[d3];omega),by rw[hT _ (xaf d2)];exact d3,d4⟩,?_,hg,?_,h.code.fx xbl hT k (by omega),h.meth.fx xbl hT k (by omega),hp⟩
 ·have r1':ownsAt w' 0 27 2 sv' (f.push v).stack.length (xal (f.push v).stack):=by
   show ownsAt w' 0 27 2 sv' (f.stack++[v]).length (xal (f.stack++[v]))
   rw[xck,List.length_append]
   exact r1
  exact r1'.keep fun g hg'=>xab (fun e=>by have:=hg g hg';rw[e,hT _ hlt,h.tag] at this;omega) _
 ·show (f.stack++[v]).length<=_
  simp;omega
theorem xdM {T:Nat->Nat}{K:Nat}{w:World}{fb:Nat}{f:Fr}{cv av tv sv kv:Value}(h:FrAt T K w fb f cv av tv sv kv)(v:QV)(hroom:f.stack.length<1000000000):Calls Tryz.prog 103 #[.pointer (some ⟨fb,0,none⟩),VV v] w fun e w'=>e=.returned (.tuple #[])/\(∃ T' sv',Ext T T' w/\FrAt T' K w' fb (f.push v) cv av tv sv' kv)/\Kp (fun t=>t=K\/t=K+2) T w w':=by
 have hlt:=xaf h.box;have h1:=h.later (xaj w (.cells #[.int .i64 v.k,.int .i64 v.n] 27));have b0:(w.alloc (.cells #[.int .i64 v.k,.int .i64 v.n] 27)).cell? ⟨w.heap.size,0,none⟩=some (.int .i64 v.k):=xaa _ _ _ _ rfl 0;have b1:(w.alloc (.cells #[.int .i64 v.k,.int .i64 v.n] 27)).cell? ⟨w.heap.size,1,none⟩=some (.int .i64 v.n):=xaa _ _ _ _ rfl 1;have HBV:Hid (Below w.heap.size w (w.alloc (.cells #[.int .i64 v.k,.int .i64 v.n] 27))):=xaj _ _;go_enter Tryz.func103,Tryz.ntmps103
 go_upto_region 1 with (fail)
 generalize (w.alloc (.cells #[.int .i64 v.k,.int .i64 v.n] 27))=V at *;have c0:V.cell? ⟨fb,10,none⟩=some sv:=by rw[qzB h1.box];rfl
 have cf:=xam h1.box;have hl1:fb<V.heap.size:=xaf h1.box;have hl2:¬ fb=V.heap.size:=by omega
 have hst:ownsAt (V.alloc (.cells #[.int .i64 v.k,.int .i64 v.n] 27)).drew 0 27 2 sv f.stack.length (xal f.stack):=(h1.stack.alloc _).keep fun g hg=>rfl
 obtain⟨v',w',hrun,r1,r2,r3,r4⟩:=xaF (w:=(V.alloc (.cells #[.int .i64 v.k,.int .i64 v.n] 27)).drew) 28 28 27 _ 2 16 Tryz.underlying28 xbW rfl (by omega) 0 f.stack.length sv (xal f.stack) hst V.heap.size [.int .i64 v.k,.int .i64 v.n] rfl (heap_alloc_new V _) (by simp;exact⟨rfl,rfl⟩) (by unfold maxLen;omega) (by omega) (by omega)
 obtain⟨a,cap,rfl,hc1,hc2⟩:=h1.stack.form;obtain⟨a',cap',rfl,-⟩:=r1.form;have R1:Hid (ownsAt w' 0 27 2 (.slice a' (f.stack.length+1) cap') (f.stack.length+1) (xal f.stack++[.int .i64 v.k,.int .i64 v.n])):=r1;have R2:=hid r2;have R4:=hid r4;have HB3:Hid (Below 0 _ w'):=r3;have hnb:some fb≠(Value.slice a f.stack.length cap).ownBlock:=fun e=>by have:=h1.stag fb e.symm;rw[h1.tag] at this;omega
 have hbx:w'.heap[fb]?=some (FB f cv av tv (.slice a f.stack.length cap) kv):=by
  rw[r4 fb (by simp;omega) hnb];exact xac h1.box (xaj _ _).drew
 have d0:w'.cell? ⟨fb,10,none⟩=some (.slice a f.stack.length cap):=by rw[qzB hbx];rfl
 have df:=xam hbx;have HX:=hid hbx;have H0:=hid h;have HBU:Hid (Below w.heap.size w (V.alloc (.cells #[.int .i64 v.k,.int .i64 v.n] 27)).drew):=xah HBV.out (xaj _ _).drew;clear r1 r2 r3 r4 hst h1 hbx hnb h
 go_region_law (refine xat rfl (.tmp 8) (.tmp 10) 28 rfl (.slice a f.stack.length cap) (.slice (some ⟨V.heap.size,0,none⟩) 1 1) (.slice a' (f.stack.length+1) cap') (by simp[Act.eval,Act.put]) (by simp[Act.eval,Act.put]) hrun ?_)
 all_goals (
  go_wp2;obtain⟨⟨T',e1,e2⟩,e3⟩:=H0.out.pushed (v:=v) HBU.out hroom R1.out R2.out HB3.out R4.out HX.out
  exact bodyPost_end (v:=.tuple #[]) (by simp[results,Tryz.results103,go_sem]) rfl ⟨rfl,⟨T',_,e1,e2⟩,e3⟩)
theorem xbT {P:Program}(w:World)(t ty e:TypeId)(i:TypeInfo)(ht:P.underlying t=some (.slice e))(hi:P.info? e=some i)(B:Nat)(ad:Option Addr)(cap:Nat) :
  (Builtin.append_ #[t,t] ty #[.slice (some ⟨B,0,none⟩) 0 0,.slice ad 0 cap]).run P w=.ok (.slice (some ⟨B,0,none⟩) 0 0) w:=by
 have hl:∀ (x:Addr),(loadCells x 0).run P w=.ok #[] w:=fun x=>by simpa using run_loadCells_list (P:=P) w x [] (by simp)
 cases ad<;>simp[Builtin.append_,run_underlying ht,sizeOf,typeInfo,hi,Builtin.lenOf,Builtin.firstCells,storeCells,hl]
theorem xa4 {ops:Array Oper}{rest:List Oper}{o:Oper}{a:Act}{w:World}{Q:Exit->Act->World->Prop}(hgd:o.guard=none)(s x:Operand)(T e:TypeId)(z:Value)(sz bytes:Nat)
  (hop:o.op=Op.call { callee:=Callee.builtin Builtin.append,args:=#[s,x],argTypes:=#[T,T] }) (hT:Tryz.prog.underlying T=some (.slice e)) (hI:(Tryz.prog.info? e).map (fun i=>(i.zero,i.size,i.bytes))=some (some z,sz,bytes)) (hzs:z.cells.size=sz) (hsz:0<sz) (hbz:0<bytes)
  (B:Nat) (hs:a.eval s=.slice (some ⟨B,0,none⟩) 0 0) (hB:w.heap[B]?=some (.cells #[] e (0,0)))
  (ad:Option Addr) (n cap:Nat) (hx:a.eval x=.slice ad n cap) (cs:List Value) (hlen:cs.length=n*sz) (hsrc:∀ j u,cs[j]?=some u->∃ b,ad=some b/\w.cell? (b.add j)=some u) (hn:n*bytes<=140737488351232)
  (hK:∀ g cap' w',w'.ownsRow B e sz (.slice (some ⟨g,0,none⟩) n cap') n cs->(g=B\/w.heap.size<=g)->g<w'.heap.size->Below w.heap.size w w'->wpList Tryz.prog ops Q rest (a.put o.dst (.slice (some ⟨g,0,none⟩) n cap')) w') :
  wpList Tryz.prog ops Q (o :: rest) a w:=by
 refine wpList_plain hgd fun K hKK=>?_
 obtain⟨i0,hi,hz0,hz1,hz2⟩:=xa3 hI;have hBl:=xaf hB
 by_cases h0:n=0
 ·subst h0;have hcs:cs=[]:=List.eq_nil_of_length_eq_zero (by simpa using hlen)
  have hrun:=xbT (P:=Tryz.prog) w T o.type e i0 hT hi B ad cap;unfold Oper.wp
  simp[execOp,hop,resolve,invoke,builtin,hs,hx,hrun,Result.andThen]
  refine hKK _ _ (hK B 0 w ?_ (Or.inl rfl) hBl (Below.refl _ _));rw[hcs]
  exact⟨by simp,.inr ⟨B,0,#[],rfl,qzC _,hB,qzC _,by unfold maxLen;omega,by simp,by simp⟩⟩
 ·obtain⟨b,rfl⟩:∃ b,ad=some b:=by
   have:0<cs.length:=by rw[hlen];exact Nat.mul_pos (by omega) hsz
   obtain⟨b,e,-⟩:=hsrc 0 cs[0] (by simp[this])
   exact⟨b,e⟩
  have hnb:n<=140737488351232:=qzD (Nat.le_mul_of_pos_right n hbz) hn;obtain⟨v',w',hrun,r1,r2⟩:=run_append_arg_grows (P:=Tryz.prog) w T o.type e i0 _ sz bytes hT hi hz0 hz1 hz2 hzs hsz ⟨B,0,none⟩ 0 0 [] (by simp) (fun j u hu=>by simp at hu) b n cap cs hlen (fun j u hu=>by obtain⟨b',e,h⟩:=hsrc j u hu;cases e;exact h) (by omega) (by unfold maxLen;omega) (by rw[Nat.zero_add];omega)
  simp only[Nat.zero_add,List.nil_append] at r1;obtain⟨g,cap',rfl,hg,hgl⟩:=r1.form (by omega)
  unfold Oper.wp
  simp[execOp,hop,resolve,invoke,builtin,hs,hx,hrun,Result.andThen]
  refine hKK _ _ (hK g cap' w' ?_ (Or.inr hg) hgl ((Below.refl _ _).grown r2 (qzC _) (fun k hk=>by cases hk)))
  obtain⟨q1,q2⟩:=r1;refine⟨q1,?_⟩
  rcases q2 with q2 | ⟨g',c',cur,e,h1,h2⟩
  ·exact .inl q2
  ·exact .inr ⟨g',c',cur,e,by omega,h2⟩
theorem xmO (a:Option Addr)(n c:Nat)(w:World):(binOp .eql 28 (.slice a n c) (.slice none 0 0)).run Tryz.prog w=.ok (.bool (a == none)) w:=by
 have u:=Tryz.underlying28
 cases a<;>go_simp<;>rfl
theorem xcR {P:Nat->Prop}(xs:List QV)(v:Value)(w:World)(h:xaB P w v xs):Calls Tryz.prog 118 #[v] w fun e w'=>∃ a c,e=.returned (.slice a xs.length c)/\xaB (fun b=>w.heap.size<=b/\b<w'.heap.size) w' (.slice a xs.length c) xs/\Below w.heap.size w w':=by
 obtain⟨ad,cap,rfl,hl,hcap,hby,hrow⟩:=h
 cases ad with
 | none=>
  have hx:xs=[]:=by
   cases xs with
   | nil=>rfl
   | cons x r=>obtain⟨b,o,e,-⟩:=hrow 0 x rfl;cases e
  subst hx;have hq:=xmO none 0 cap;go_enter Tryz.func118,Tryz.ntmps118;go_wp2
  go_ret
  exact⟨none,0,rfl,⟨none,0,rfl,by simp,by simp,by simp,fun i x hx=>by simp at hx⟩,Below.refl _ _⟩
 | some ad=>
  obtain⟨cs,hcs,hsrc⟩:=hrow.cells xaK;have hvc:=xco (E:=()) hcs;have hlen:=hcs.1;clear hrow;have hq:=xmO (some ad) xs.length cap;go_enter Tryz.func118,Tryz.ntmps118
  go_wp2_with (at_builtin;refine xa4 rfl (.tmp 5) (.tmp 6) 28 27 _ 2 16 rfl Tryz.underlying28 xbW rfl (by omega) (by omega) w.heap.size rfl (by first | exact heap_alloc_new _ _ | (simp;done)) (some ad) xs.length cap rfl cs hlen (fun j u hj=>by obtain⟨b,e,h⟩:=hsrc j u hj;exact⟨b,e,qzA (xaj _ _) h⟩) hby ?_;intro g cap' w' hown hg hgl hb)
  go_ret
  have hbw:Below w.heap.size w w':=xbz (Below.refl _ _) hb;refine⟨some ⟨g,0,none⟩,cap',rfl,?_,hbw⟩;obtain⟨q1,q2 | ⟨g',c',cur,e,h1,h2,h3,h4,h5,h6⟩⟩:=hown
  ·cases q2.1
  ·cases e
   have hg2:w.heap.size<=g:=by rcases hg with h | h<;>simp at*<;> omega
   exact Cells.row (E:=xmM) (sz:=2) (cs:=cs) ⟨hlen,fun i x hx=>hcs.2 i x hx⟩ xaK ⟨hg2,hgl⟩ h2 h6 h3 h4 hby
theorem ownsAt.tail {w:World}{g o cap:Nat}{xs:List QV}(h:ownsAt w 0 27 2 (.slice (some ⟨g,o,none⟩) xs.length cap) xs.length (xal xs)){k:Nat}(hk:k<=xs.length)(hb:xs.length<=1000000000):xaB (fun b=>b=g) w (.slice (some ⟨g,o+k*2,none⟩) (xs.drop k).length (cap-k)) (xs.drop k):=by
 have hv:=h.vals (by omega)
 obtain⟨a',c',e,h1,h2,h3,hr⟩:=hv
 cases e
 have hl:(xs.drop k).length=xs.length-k:=by simp
 refine⟨_,_,rfl,by omega,by unfold maxLen at *;omega,by omega,fun i x hx=>⟨g,o+k*2,rfl,rfl,?_⟩⟩
 rw[List.getElem?_drop] at hx;obtain⟨b,o',e,-,h0,h1⟩:=hr _ x hx
 cases e
 exact⟨by show w.cell? ⟨_,_,_⟩=_;rw[show o+k*2+i*2+0=o+(k+i)*2+0 by omega];exact h0,by show w.cell? ⟨_,_,_⟩=_;rw[show o+k*2+i*2+1=o+(k+i)*2+1 by omega];exact h1⟩
theorem xbY {T:Nat->Nat}{K:Nat}{w w1:World}{fb:Nat}{f:Fr}{cv av tv kv:Value}{a:Option Addr}{cap k:Nat}(h:FrAt T K w fb f cv av tv (.slice a f.stack.length cap) kv)(hk:k<=f.stack.length){av':Value}(hb:Below w.heap.size w w1)(hv:xaB (fun b=>w.heap.size<=b/\b<w1.heap.size) w1 av' (f.stack.drop k)) :
  ∃ T',Ext T T' w/\FrAt T' K (w1.setCell ⟨fb,10,none⟩ (.slice a k cap)) fb { f with stack:=f.stack.take k } cv av tv (.slice a k cap) kv/\xaB (Fx T' (w1.setCell ⟨fb,10,none⟩ (.slice a k cap))) (w1.setCell ⟨fb,10,none⟩ (.slice a k cap)) av' (f.stack.drop k)/\Kp (fun t=>t=K) T w (w1.setCell ⟨fb,10,none⟩ (.slice a k cap)):=by
 have hlt:=xaf h.box;have e:=xao T w 0;have kk:Kp (fun t=>t=K) T w (w1.setCell ⟨fb,10,none⟩ (.slice a k cap)):=(Kp.of_below hb).set (fun _=>h.tag) _ _
 have h':FrAt (xau T w 0) K w fb f cv av tv (.slice a f.stack.length cap) kv:=h.keep (S:=fun _=>False) e (Kp.refl _ _ _) id id id id
 refine⟨xau T w 0,e,h'.cut (m:=k) (kk.tags e) (xeP (xac h.box hb) _ _) hk,?_,kk⟩;refine hv.keep xaK (Keeps.of_setCell (fun hp=>?_) _) fun b hb'=>⟨by rw[xbg];exact hb'.2,xav hb'.1⟩
 have:=hp.1;simp only at this
 omega
theorem xii {T:Nat->Nat}{K:Nat}{w:World}{fb:Nat}{f:Fr}{cv av tv sv kv:Value}(h:FrAt T K w fb f cv av tv sv kv)(n:Int)(k:Nat)(hk:k=xbu f.stack n):Calls Tryz.prog 114 #[.pointer (some ⟨fb,0,none⟩),.int .i64 n] w fun e w'=>∃ a c T' sv',e=.returned (.slice a (f.stack.drop k).length c)/\Ext T T' w/\FrAt T' K w' fb { f with stack:=f.stack.take k } cv av tv sv' kv/\xaB (Fx T' w') w' (.slice a (f.stack.drop k).length c) (f.stack.drop k)/\Kp (fun t=>t=K) T w w':=by
 have hlt:=xaf h.box;have c0:w.cell? ⟨fb,10,none⟩=some sv:=by rw[qzB h.box];rfl
 have hfew:=h.few;have hkl:k<=f.stack.length:=by rw[hk];unfold xbu;omega
 have HL:=hid hkl;obtain⟨a,cap,rfl,hc1,hc2⟩:=h.stack.form;unfold maxLen at hc2;have hk2:k<=cap:=by omega
 have hk3:(k:Int)<=(cap:Int):=by omega
 have hk4:(k:Int)<=(f.stack.length:Int):=by omega
 have H0:=hid h;have HS:=hid h.stack;have HX:=hid h.box;clear h
 by_cases hn:n<0
 ·have hn':decide (n<0)=true:=by simpa using hn
  have hkL0:k=f.stack.length:=by rw[hk];unfold xbu;omega
  have hkw:IntKind.i64.wrap ((f.stack.length:Int)-0)=(k:Int):=by rw[xaE (by omega) (by omega)];omega
  have hkw2:IntKind.i64.wrap (f.stack.length:Int)=(k:Int):=by rw[xaE (by omega) (by omega)];omega
  by_cases hck:cap=k
  ·have hkL:f.stack.length=k:=by omega
   have HV:Hid (xaB (fun _=>False) w.drew (.slice a (f.stack.drop k).length 0) (f.stack.drop k)):=by
    have e0:f.stack.drop k=[]:=List.drop_eq_nil_of_le (by omega)
    rw[e0]
    exact⟨a,0,rfl,by simp,by simp,by simp,fun i x hx=>by simp at hx⟩
   have HDL:Hid ((f.stack.drop k).length=f.stack.length-k):=by show _=_;simp
   rw[HDL.out] at HV;have hck0:cap-k=0:=by omega
   clear hck hkL;clear hk hkL0;go_enter Tryz.func114,Tryz.ntmps114;go_wp2
   go_region
   go_wp2_with fail;refine (xcR (f.stack.drop k) _ _ HV.out).mono ?_;rintro e w1 ⟨a1,c1,rfl,hv1,hb1⟩;have hbw:Below w.heap.size w w1:=((Below.refl w.heap.size w).drew).trans hb1;have hbx:=xac HX.out hbw;have d0:w1.cell? ⟨fb,10,none⟩=some _:=(by rw[qzB hbx];rfl)
   have df:=xam hbx;have HV1:Hid (xaB (fun b=>w.heap.size<=b/\b<w1.heap.size) w1 _ (f.stack.drop k)):=hv1
   have HBW:=hid hbw;clear hv1 hb1 hbw hbx;go_wp2;obtain⟨T',q1,q2,q3,q4⟩:=xbY H0.out HL.out HBW.out HV1.out
   go_ret
   exact⟨a1,c1,T',_,(by rw[HDL.out];rfl),q1,q2,q3,q4⟩
  ·obtain⟨g,o,rfl⟩:∃ g o,a=some ⟨g,o,none⟩:=by
    obtain⟨-,⟨e,-⟩ | ⟨g,o,c,cur,e,-⟩⟩:=HS.out
    ·simp only[Value.slice.injEq] at e;omega
    ·cases e;exact⟨g,o,rfl⟩
   have HV:Hid (xaB (fun b=>b=g) w.drew (.slice (some ⟨g,o+k*2,none⟩) (f.stack.drop k).length (cap-k)) (f.stack.drop k)):=(ownsAt.tail HS.out HL.out hfew).later xaK (Below.refl _ _).drew
   have HDL:Hid ((f.stack.drop k).length=f.stack.length-k):=by show _=_;simp
   rw[HDL.out] at HV;have hck0:¬ (cap-k=0):=by omega
   clear hck;clear hk hkL0;go_enter Tryz.func114,Tryz.ntmps114;go_wp2
   go_region
   go_wp2_with fail;refine (xcR (f.stack.drop k) _ _ HV.out).mono ?_;rintro e w1 ⟨a1,c1,rfl,hv1,hb1⟩;have hbw:Below w.heap.size w w1:=((Below.refl w.heap.size w).drew).trans hb1;have hbx:=xac HX.out hbw;have d0:w1.cell? ⟨fb,10,none⟩=some _:=(by rw[qzB hbx];rfl)
   have df:=xam hbx;have HV1:Hid (xaB (fun b=>w.heap.size<=b/\b<w1.heap.size) w1 _ (f.stack.drop k)):=hv1
   have HBW:=hid hbw;clear hv1 hb1 hbw hbx;go_wp2;obtain⟨T',q1,q2,q3,q4⟩:=xbY H0.out HL.out HBW.out HV1.out
   go_ret
   exact⟨a1,c1,T',_,(by rw[HDL.out];rfl),q1,q2,q3,q4⟩
 ·obtain⟨m,rfl⟩:∃ m:Nat,n=(m:Int):=⟨n.toNat,by omega⟩
  by_cases hm:f.stack.length<m
  ·have hkw:IntKind.i64.wrap ((f.stack.length:Int)-(f.stack.length:Int))=(k:Int):=by rw[hk];unfold xbu;rw[xaE (by omega) (by omega)];omega
   have hm2:(f.stack.length:Int)<(m:Int):=by omega
   have hkw2:(0:Int)=(k:Int):=by rw[hk];unfold xbu;omega
   by_cases hck:cap=k
   ·have hkL:f.stack.length=k:=by omega
    have HV:Hid (xaB (fun _=>False) w.drew (.slice a (f.stack.drop k).length 0) (f.stack.drop k)):=by
     have e0:f.stack.drop k=[]:=List.drop_eq_nil_of_le (by omega)
     rw[e0]
     exact⟨a,0,rfl,by simp,by simp,by simp,fun i x hx=>by simp at hx⟩
    have HDL:Hid ((f.stack.drop k).length=f.stack.length-k):=by show _=_;simp
    rw[HDL.out] at HV;have hck0:cap-k=0:=by omega
    clear hck hkL;clear hk;go_enter Tryz.func114,Tryz.ntmps114;go_wp2
    go_region
    go_wp2_with fail;refine (xcR (f.stack.drop k) _ _ HV.out).mono ?_;rintro e w1 ⟨a1,c1,rfl,hv1,hb1⟩;have hbw:Below w.heap.size w w1:=((Below.refl w.heap.size w).drew).trans hb1;have hbx:=xac HX.out hbw;have d0:w1.cell? ⟨fb,10,none⟩=some _:=(by rw[qzB hbx];rfl)
    have df:=xam hbx;have HV1:Hid (xaB (fun b=>w.heap.size<=b/\b<w1.heap.size) w1 _ (f.stack.drop k)):=hv1
    have HBW:=hid hbw;clear hv1 hb1 hbw hbx;go_wp2;obtain⟨T',q1,q2,q3,q4⟩:=xbY H0.out HL.out HBW.out HV1.out
    go_ret
    exact⟨a1,c1,T',_,(by rw[HDL.out];rfl),q1,q2,q3,q4⟩
   ·obtain⟨g,o,rfl⟩:∃ g o,a=some ⟨g,o,none⟩:=by
     obtain⟨-,⟨e,-⟩ | ⟨g,o,c,cur,e,-⟩⟩:=HS.out
     ·simp only[Value.slice.injEq] at e;omega
     ·cases e;exact⟨g,o,rfl⟩
    have HV:Hid (xaB (fun b=>b=g) w.drew (.slice (some ⟨g,o+k*2,none⟩) (f.stack.drop k).length (cap-k)) (f.stack.drop k)):=(ownsAt.tail HS.out HL.out hfew).later xaK (Below.refl _ _).drew
    have HDL:Hid ((f.stack.drop k).length=f.stack.length-k):=by show _=_;simp
    rw[HDL.out] at HV;have hck0:¬ (cap-k=0):=by omega
    clear hck;clear hk;go_enter Tryz.func114,Tryz.ntmps114;go_wp2
    go_region
    go_wp2_with fail;refine (xcR (f.stack.drop k) _ _ HV.out).mono ?_;rintro e w1 ⟨a1,c1,rfl,hv1,hb1⟩;have hbw:Below w.heap.size w w1:=((Below.refl w.heap.size w).drew).trans hb1;have hbx:=xac HX.out hbw;have d0:w1.cell? ⟨fb,10,none⟩=some _:=(by rw[qzB hbx];rfl)
    have df:=xam hbx;have HV1:Hid (xaB (fun b=>w.heap.size<=b/\b<w1.heap.size) w1 _ (f.stack.drop k)):=hv1
    have HBW:=hid hbw;clear hv1 hb1 hbw hbx;go_wp2;obtain⟨T',q1,q2,q3,q4⟩:=xbY H0.out HL.out HBW.out HV1.out
    go_ret
    exact⟨a1,c1,T',_,(by rw[HDL.out];rfl),q1,q2,q3,q4⟩
  ·have hkw:IntKind.i64.wrap ((f.stack.length:Int)-(m:Int))=(k:Int):=by rw[hk];unfold xbu;rw[xaE (by omega) (by omega)];omega
   have hm2:¬ ((f.stack.length:Int)<(m:Int)):=by omega
   by_cases hck:cap=k
   ·have hkL:f.stack.length=k:=by omega
    have HV:Hid (xaB (fun _=>False) w.drew (.slice a (f.stack.drop k).length 0) (f.stack.drop k)):=by
     have e0:f.stack.drop k=[]:=List.drop_eq_nil_of_le (by omega)
     rw[e0]
     exact⟨a,0,rfl,by simp,by simp,by simp,fun i x hx=>by simp at hx⟩
    have HDL:Hid ((f.stack.drop k).length=f.stack.length-k):=by show _=_;simp
    rw[HDL.out] at HV;have hck0:cap-k=0:=by omega
    clear hck hkL;clear hk;go_enter Tryz.func114,Tryz.ntmps114;go_wp2
    go_region
    go_wp2_with fail;refine (xcR (f.stack.drop k) _ _ HV.out).mono ?_;rintro e w1 ⟨a1,c1,rfl,hv1,hb1⟩;have hbw:Below w.heap.size w w1:=((Below.refl w.heap.size w).drew).trans hb1;have hbx:=xac HX.out hbw;have d0:w1.cell? ⟨fb,10,none⟩=some _:=(by rw[qzB hbx];rfl)
    have df:=xam hbx;have HV1:Hid (xaB (fun b=>w.heap.size<=b/\b<w1.heap.size) w1 _ (f.stack.drop k)):=hv1
    have HBW:=hid hbw;clear hv1 hb1 hbw hbx;go_wp2;obtain⟨T',q1,q2,q3,q4⟩:=xbY H0.out HL.out HBW.out HV1.out
    go_ret
    exact⟨a1,c1,T',_,(by rw[HDL.out];rfl),q1,q2,q3,q4⟩
   ·obtain⟨g,o,rfl⟩:∃ g o,a=some ⟨g,o,none⟩:=by
     obtain⟨-,⟨e,-⟩ | ⟨g,o,c,cur,e,-⟩⟩:=HS.out
     ·simp only[Value.slice.injEq] at e;omega
     ·cases e;exact⟨g,o,rfl⟩
    have HV:Hid (xaB (fun b=>b=g) w.drew (.slice (some ⟨g,o+k*2,none⟩) (f.stack.drop k).length (cap-k)) (f.stack.drop k)):=(ownsAt.tail HS.out HL.out hfew).later xaK (Below.refl _ _).drew
    have HDL:Hid ((f.stack.drop k).length=f.stack.length-k):=by show _=_;simp
    rw[HDL.out] at HV;have hck0:¬ (cap-k=0):=by omega
    clear hck;clear hk;go_enter Tryz.func114,Tryz.ntmps114;go_wp2
    go_region
    go_wp2_with fail;refine (xcR (f.stack.drop k) _ _ HV.out).mono ?_;rintro e w1 ⟨a1,c1,rfl,hv1,hb1⟩;have hbw:Below w.heap.size w w1:=((Below.refl w.heap.size w).drew).trans hb1;have hbx:=xac HX.out hbw;have d0:w1.cell? ⟨fb,10,none⟩=some _:=(by rw[qzB hbx];rfl)
    have df:=xam hbx;have HV1:Hid (xaB (fun b=>w.heap.size<=b/\b<w1.heap.size) w1 _ (f.stack.drop k)):=hv1
    have HBW:=hid hbw;clear hv1 hb1 hbw hbx;go_wp2;obtain⟨T',q1,q2,q3,q4⟩:=xbY H0.out HL.out HBW.out HV1.out
    go_ret
    exact⟨a1,c1,T',_,(by rw[HDL.out];rfl),q1,q2,q3,q4⟩
theorem xex {h h':Int}{v:QV}(hv:xas h v=0)(hh:h<=h'):xas h' v=0:=by
 unfold xas xch at hv ⊢
 split at hv
 ·cases hv
 ·split at hv
  ·rename_i a b;rw[if_neg a,if_pos b];exact hv
  ·split at hv
   ·rename_i a b c;rw[if_neg a,if_neg b,if_pos c];exact hv
   ·rename_i a b c;rw[if_neg a,if_neg b,if_neg c]
    split at hv
    ·cases hv
    ·rename_i d;rw[if_neg (by omega)]
theorem xaT (h:Int):xas h xaU=0:=by simp[xas,xch]
def VsOk (h:Int)(l:List QV):Prop:=∀ v∈l,xas h v=0
theorem VsOk.later {h h':Int}{l:List QV}(hl:VsOk h l)(hh:h<=h'):VsOk h' l:=fun v hv=>xex (hl v hv) hh
theorem VsOk.entry {h:Int}{l:List QV}(hl:VsOk h l)(n:Int):xas h (xaM l n)=0:=by
 unfold xaM
 split
 ·exact xaT h
 ·cases hq:l[n.toNat]? with
  | none=>exact xaT h
  | some v=>exact hl v (List.mem_of_getElem? hq)
theorem VsOk.setEntry {h:Int}{l:List QV}(hl:VsOk h l)(n:Int){x:QV}(hx:xas h x=0):VsOk h (xaV l n x):=by
 unfold xaV
 split
 ·exact hl
 ·intro v hv
  rcases List.mem_or_eq_of_mem_set hv with h1 | rfl
  ·exact hl v h1
  ·exact hx
theorem xcd (l:List QV)(n:Int)(x:QV):(xaV l n x).length=l.length:=by unfold xaV;split<;>simp
theorem VsOk.append {h:Int}{l:List QV}(hl:VsOk h l){x:QV}(hx:xas h x=0):VsOk h (l++[x]):=fun v hv=>by
 simp at hv
 rcases hv with h1 | rfl
 ·exact hl v h1
 ·exact hx
theorem VsOk.sub {h:Int}{l k:List QV}(hl:VsOk h l)(hk:∀ v∈k,v∈l):VsOk h k:=fun v hv=>hl v (hk v hv)
theorem xc8 (h n:Int):VsOk h (xaQ n):=fun v hv=>by
 unfold xaQ at hv;rw[(List.mem_replicate.1 hv).2]
 exact xaT h
structure HOk (cs:List QC)(h:List QO):Prop where
 len:h.length<=60
 obj:∀ o∈h,xbP cs.length o.cls=true/\(o.slots.length:Int)=xa8 cs o.cls/\VsOk h.length o.slots
theorem xes {h:List QO}{v:QV}{o:QO}(e:xdt h v=some o):h[v.n.toNat]?=some o:=by
 unfold xdt at e
 split at e
 ·exact e
 ·cases e
theorem HOk.slot {cs:List QC}{h:List QO}(hh:HOk cs h)(v:QV)(n:Int):xas h.length (xcV h v n)=0:=by
 unfold xcV
 cases e:xdt h v with
 | none=>exact xaT _
 | some o=>exact (hh.obj o (List.mem_of_getElem? (xes e))).2.2.entry n
theorem xbX (h:List QO)(v:QV)(n:Int)(x:QV):(xaR h v n x).length=h.length:=by unfold xaR;split<;>simp
theorem HOk.setSlot {cs:List QC}{h:List QO}(hh:HOk cs h)(v:QV)(n:Int){x:QV}(hx:xas h.length x=0):HOk cs (xaR h v n x):=by
 refine⟨by rw[xbX];exact hh.len,fun o ho=>?_⟩
 rw[xbX];unfold xaR at ho
 split at ho
 ·exact hh.obj o ho
 ·rename_i p e
  rcases List.mem_or_eq_of_mem_set ho with h1 | rfl
  ·exact hh.obj o h1
  ·obtain⟨a,b,c⟩:=hh.obj p (List.mem_of_getElem? (xes e))
   exact⟨a,by simp only[xcd];exact b,c.setEntry n hx⟩
theorem HOk.make {cs:List QC}{h:List QO}(hh:HOk cs h){c:Int}(hc:xbP cs.length c=true){k:Nat}(hk:(k:Int)=xa8 cs c)(hl:h.length<60):HOk cs (h++[⟨c,List.replicate k xaU⟩]):=by
 refine⟨by simp;omega,fun o ho=>?_⟩
 simp only[List.length_append,List.length_cons,List.length_nil,List.mem_append,List.mem_singleton] at ho ⊢
 rcases ho with h1 | rfl
 ·obtain⟨a,b,d⟩:=hh.obj o h1
  exact⟨a,b,d.later (by omega)⟩
 ·exact⟨hc,by simpa using hk,fun v hv=>by rw[(List.mem_replicate.1 hv).2];exact xaT _⟩
def xhm (cs:List QC)(l:List QI):Prop:=∀ x∈l,(x.op=5->-1073741824<=x.a/\x.a<=1073741824)/\(x.op=13->xbP cs.length x.a=true)
structure FOk (cs:List QC)(h:Int)(f:Fr):Prop where
 self:xas h f.self=0
 args:VsOk h f.args
 temps:VsOk h f.temps
 stack:VsOk h f.stack
 code:xhm cs f.code
 plain:xhm cs f.meth.code
theorem FOk.later {cs:List QC}{h h':Int}{f:Fr}(hf:FOk cs h f)(hh:h<=h'):FOk cs h' f:=⟨xex hf.self hh,hf.args.later hh,hf.temps.later hh,hf.stack.later hh,hf.code,hf.plain⟩
theorem FOk.push {cs:List QC}{h:Int}{f:Fr}(hf:FOk cs h f){v:QV}(hv:xas h v=0):FOk cs h (f.push v):=⟨hf.self,hf.args,hf.temps,hf.stack.append hv,hf.code,hf.plain⟩
theorem FOk.pop {cs:List QC}{h:Int}{f:Fr}(hf:FOk cs h f):FOk cs h f.pop:=⟨hf.self,hf.args,hf.temps,hf.stack.sub fun v hv=>List.dropLast_subset _ hv,hf.code,hf.plain⟩
theorem FOk.top {cs:List QC}{h:Int}{f:Fr}(hf:FOk cs h f):xas h f.top=0:=hf.stack.entry _
theorem FOk.leave {cs:List QC}{h:Int}{f:Fr}(hf:FOk cs h f)(c:Int):FOk cs h (f.leave c):=by
 refine⟨hf.self,hf.args,fun v hv=>?_,hf.stack,hf.plain,hf.plain⟩
 simp only[Fr.leave,List.mem_map] at hv;obtain⟨p,-,rfl⟩:=hv
 cases hq:f.temps[p.2]? with
 | none=>exact xaT h
 | some v=>exact hf.temps v (List.mem_of_getElem? hq)
section
variable {σ:Type}
structure EOk (E:Env σ):Prop where
 meths:∀ c n m,xaO E.cz c n=some m->xhm E.cz m.code
 fast:∀ c n q,E.quick c n=some q->xhm E.cz q.1
 slots:∀ c,xa8 E.cz c=xaP E.cz c/\0<=xaP E.cz c
structure ROk (cs:List QC)(m m':Mc σ):Prop where
 heap:HOk cs m'.heap
 more:m.heap.length<=m'.heap.length
def xjT (cs:List QC)(ent:Ent σ):Prop:=∀ m c n s a,HOk cs m.heap->xas m.heap.length s=0->VsOk m.heap.length a->ROk cs m (ent m c n s a).1/\xas (ent m c n s a).1.heap.length (ent m c n s a).2.1=0
def xe3 (cs:List QC)(m:Mc σ)(r:Mc σ × Fr × Int):Prop:=ROk cs m r.1/\(r.2.2=0->FOk cs r.1.heap.length r.2.1)
theorem xk5 {cs:List QC}{m:Mc σ}{f:Fr}(hm:HOk cs m.heap)(hf:FOk cs m.heap.length f)(a b:Int):xe3 cs m (xaX m f a b):=by
 have hf':∀ t,FOk cs m.heap.length { f with pc:=t }:=fun t=>⟨hf.self,hf.args,hf.temps,hf.stack,hf.code,hf.plain⟩
 unfold xaX xe3
 by_cases h:b<=a
 ·simp only[h,if_true]
  split
  ·exact⟨⟨hm,qzC _⟩,fun h=>by cases h⟩
  ·exact⟨⟨hm,qzC _⟩,fun _=>hf' b⟩
 ·simp only[h,if_false]
  split
  ·exact⟨⟨hm,qzC _⟩,fun h=>by cases h⟩
  ·exact⟨⟨hm,qzC _⟩,fun _=>hf' b⟩
theorem xof {cs:List QC}{m:Mc σ}{f:Fr}(hm:HOk cs m.heap)(hf:FOk cs m.heap.length f)(a b:Int):xe3 cs m (xbr m f a b):=by
 unfold xbr
 split
 ·exact⟨⟨hm,qzC _⟩,fun _=>hf.pop⟩
 ·split
  ·exact xk5 hm hf.pop a b
  ·exact⟨⟨hm,qzC _⟩,fun _=>hf⟩
theorem xnh {E:Env σ}(hE:EOk E){m:Mc σ}{f:Fr}(hm:HOk E.cz m.heap)(hf:FOk E.cz m.heap.length f){c:Int}(hc:xbP E.cz.length c=true):xe3 E.cz m (xbQ E m f c):=by
 unfold xbQ
 split
 ·exact⟨⟨hm,qzC _⟩,fun _=>hf⟩
 ·rename_i h;obtain⟨h1,h2⟩:=hE.slots c;refine⟨⟨hm.make hc (by rw[h1];omega) (by omega),by simp⟩,fun _=>?_⟩
  refine (hf.later ?_).push ?_
  ·simp only[List.length_append,List.length_cons,List.length_nil];omega
  ·simp only[List.length_append,List.length_cons,List.length_nil,xas,xch];rw[if_neg (by omega),if_neg (by omega),if_neg (by omega),if_neg (by omega)]
theorem xgh {cs:List QC}(E:Env σ)(d:Nat){m:Mc σ}(hm:HOk cs m.heap):ROk cs m (xay E d m).1/\(xay E d m).1.heap=m.heap:=by
 unfold xay
 split
 ·exact⟨⟨hm,qzC _⟩,rfl⟩
 ·split
  ·exact⟨⟨hm,qzC _⟩,rfl⟩
  ·exact⟨⟨hm,qzC _⟩,rfl⟩
theorem xm8 {cs:List QC}(E:Env σ)(d:Nat){m:Mc σ}{f:Fr}(hm:HOk cs m.heap)(hf:FOk cs m.heap.length f)(x:QI):xe3 cs m (xcl E d m f x):=by
 unfold xcl
 split
 ·exact⟨⟨hm,qzC _⟩,fun h=>by cases h⟩
 ·split
  ·refine⟨⟨hm,qzC _⟩,fun _=>?_⟩
   simp only[]
   split
   ·exact hf
   ·exact hf.leave x.c
  ·split
   ·exact⟨⟨hm,qzC _⟩,fun _=>hf.push (hm.slot _ _)⟩
   ·split
    ·refine⟨⟨hm.setSlot _ _ hf.top,by simp[xbX]⟩,fun _=>?_⟩
     simp only[xbX]
     exact hf.pop
    ·split
     ·obtain⟨h1,h2⟩:=xgh (cs:=cs) E d hm;refine⟨h1,fun _=>?_⟩
      simp only[h2]
      exact hf
     ·exact⟨⟨hm,qzC _⟩,fun h=>by cases h⟩
theorem xnc {cs:List QC}{ent:Ent σ}(he:xjT cs ent)(E:Env σ){m:Mc σ}{f:Fr}(hm:HOk cs m.heap)(hf:FOk cs m.heap.length f)(at':Int)(x:QI):xe3 cs m (xcm ent E m f at' x):=by
 unfold xcm;simp only[];generalize E.look m.st (f.site at' x) (xar m.heap (xaW (f.stack.take (xbu f.stack x.a)) 0)) x.name=l;have ht:VsOk m.heap.length (f.stack.take (xbu f.stack x.a)):=hf.stack.sub fun v hv=>List.mem_of_mem_take hv
 obtain⟨h1,h2⟩:=he { m with st:=l.1 } l.2.1 l.2.2 (xaW (f.stack.take (xbu f.stack x.a)) 0) (f.stack.drop (xbu f.stack x.a)) hm (ht.entry _) (hf.stack.sub fun v hv=>List.mem_of_mem_drop hv)
 generalize ent { m with st:=l.1 } l.2.1 l.2.2 (xaW (f.stack.take (xbu f.stack x.a)) 0) (f.stack.drop (xbu f.stack x.a))=r at h1 h2 ⊢
 have hmore:m.heap.length<=r.1.heap.length:=h1.more
 split
 ·rename_i h;exact⟨⟨h1.heap,hmore⟩,fun h'=>absurd h' h⟩
 ·refine⟨⟨h1.heap,hmore⟩,fun _=>?_⟩
  have hf':=hf.later (h':=(r.1.heap.length:Int)) (by omega)
  have ht':VsOk (r.1.heap.length:Int) (f.stack.take (xbu f.stack x.a)):=ht.later (by omega)
  exact⟨hf'.self,hf'.args,hf'.temps,((ht'.sub fun v hv=>List.dropLast_subset _ hv).append h2),hf'.code,hf'.plain⟩
theorem xkY {cs:List QC}{h:List QO}{f:Fr}(hm:HOk cs h)(hf:FOk cs h.length f){x:QI}(hx:x.op=5->-1073741824<=x.a/\x.a<=1073741824){v:QV}(e:xaA h f x=some v):xas h.length v=0:=by
 unfold xaA at e
 split at e
 ·cases e;exact hf.self
 ·split at e
  ·cases e;exact hf.args.entry _
  ·split at e
   ·cases e;exact hf.temps.entry _
   ·split at e
    ·cases e;exact hm.slot _ _
    ·split at e
     ·rename_i h5
      cases e
      have:=hx h5;simp only[xas,xch];rw[if_neg (by omega),if_neg (by omega),if_pos trivial,if_neg (by omega)]
     ·split at e
      ·cases e;exact xaT _
      ·split at e
       ·cases e;simp[xas,xch]
       ·split at e
        ·cases e;simp[xas,xch]
        ·cases e
theorem xgl {E:Env σ}(hE:EOk E){ent:Ent σ}(he:xjT E.cz ent)(d:Nat){m:Mc σ}{f:Fr}(hm:HOk E.cz m.heap)(hf:FOk E.cz m.heap.length f)(at':Int){x:QI}(h5:x.op=5->-1073741824<=x.a/\x.a<=1073741824)(h13:x.op=13->xbP E.cz.length x.a=true):xe3 E.cz m (xan ent E d m f at' x):=by
 unfold xan
 split
 ·rename_i v e
  exact⟨⟨hm,qzC _⟩,fun _=>hf.push (xkY hm hf h5 e)⟩
 ·split
  ·exact⟨⟨hm,qzC _⟩,fun _=>hf.pop⟩
  ·split
   ·exact⟨⟨hm,qzC _⟩,fun _=>hf.push hf.top⟩
   ·split
    ·exact⟨⟨hm,qzC _⟩,fun _=>⟨hf.self,hf.args,hf.temps.setEntry _ hf.top,hf.pop.stack,hf.code,hf.plain⟩⟩
    ·split
     ·refine⟨⟨hm.setSlot _ _ hf.top,by simp[xbX]⟩,fun _=>?_⟩
      simp only[xbX]
      exact hf.pop
     ·split
      ·rename_i h;exact xnh hE hm hf (h13 h)
      ·split
       ·exact xnc he E hm hf at' x
       ·split
        ·exact xk5 hm hf at' x.a
        ·split
         ·exact xof hm hf at' x.a
         ·exact xm8 E d hm hf x
theorem ROk.trans {cs:List QC}{a b c:Mc σ}(h:ROk cs a b)(k:ROk cs b c):ROk cs a c:=⟨k.heap,qzD h.more k.more⟩
theorem xmE {E:Env σ}(hE:EOk E){ent:Ent σ}(he:xjT E.cz ent)(d:Nat):∀ (g:Nat) {m:Mc σ} {f:Fr},HOk E.cz m.heap->FOk E.cz m.heap.length f->ROk E.cz m (xcL ent E d g m f).1/\xas (xcL ent E d g m f).1.heap.length (xcL ent E d g m f).2.1=0
 | 0,m,f,hm,hf=>⟨⟨hm,qzC _⟩,xaT _⟩
 | g+1,m,f,hm,hf=>by
  unfold xcL
  cases hq:(if f.pc<0 then none else f.code[f.pc.toNat]?) with
  | none=>exact⟨⟨hm,qzC _⟩,xaT _⟩
  | some x=>
   have hx:x∈f.code:=by
    split at hq
    ·cases hq
    ·exact List.mem_of_getElem? hq
   simp only[]
   by_cases h17:x.op=17
   ·rw[if_pos h17];exact⟨⟨hm,qzC _⟩,hf.top⟩
   ·rw[if_neg h17];have hf1:FOk E.cz m.heap.length { f with pc:=f.pc+1 }:=⟨hf.self,hf.args,hf.temps,hf.stack,hf.code,hf.plain⟩
    obtain⟨h1,h2⟩:=xgl hE he d hm hf1 f.pc (hf.code x hx).1 (hf.code x hx).2;generalize xan ent E d m { f with pc:=f.pc+1 } f.pc x=r at h1 h2 ⊢
    by_cases h0:r.2.2≠0
    ·rw[if_pos h0];exact⟨h1,xaT _⟩
    ·rw[if_neg h0];obtain⟨k1,k2⟩:=xmE hE he d g h1.heap (h2 (by simpa using h0))
     exact⟨h1.trans k1,k2⟩
theorem xju (h:Int){a b:QV}(p:Int):xas h (xbA p a b).1=0:=by
 have tm:∀ n:Int,-1073741824<=n.tmod 1073741825/\n.tmod 1073741825<=1073741824:=fun n=>by
  have h1:=Int.tmod_lt_of_pos n (b:=1073741825) (by omega)
  have h2:=Int.lt_tmod_of_pos n (b:=1073741825) (by omega)
  omega
 have num:∀ n:Int,xas h ⟨3,n.tmod 1073741825⟩=0:=fun n=>by
  have:=tm n;simp only[xas,xch];rw[if_neg (by omega),if_neg (by omega),if_pos trivial,if_neg (by omega)]
 have bol:∀ c:Prop,∀ _:Decidable c,xas h ⟨if c then 2 else 1,0⟩=0:=fun c _=>by
  by_cases hc:c<;>simp[hc,xas,xch]
 unfold xbA
 split
 ·exact xaT h
 ·split
  ·exact num _
  ·split
   ·exact num _
   ·split
    ·exact num _
    ·split
     ·exact bol _ _
     ·split
      ·exact bol _ _
      ·exact xaT h
theorem xiy {E:Env σ}(hE:EOk E)(d:Nat){body:Mc σ->Fr->Mc σ × QV × Int}(hb:∀ {m f},HOk E.cz m.heap->FOk E.cz m.heap.length f->ROk E.cz m (body m f).1/\xas (body m f).1.heap.length (body m f).2.1=0):xjT E.cz (xbj E d body):=by
 intro m c n s a hm hs ha;unfold xbj
 cases hmt:xaO E.cz c n with
 | none=>exact⟨⟨hm,qzC _⟩,xaT _⟩
 | some mt=>
  simp only[]
  split
  ·exact⟨⟨hm,qzC _⟩,xaT _⟩
  ·split
   ·split
    ·exact⟨⟨hm,qzC _⟩,xaT _⟩
    ·exact⟨⟨hm,qzC _⟩,xju _ _⟩
   ·split
    ·exact⟨⟨hm,qzC _⟩,xaT _⟩
    ·obtain⟨h1,h2⟩:=xgh (cs:=E.cz) E d hm
     have hf:FOk E.cz (xay E d m).1.heap.length (xaG E c n mt s a):=by
      rw[h2];have hmc:=hE.meths c n mt hmt;unfold xaG
      cases hq:E.quick c n with
      | none=>exact⟨hs,ha,xc8 _ _,fun v hv=>by simp at hv,hmc,hmc⟩
      | some q=>exact⟨hs,ha,xc8 _ _,fun v hv=>by simp at hv,hE.fast c n q hq,hmc⟩
     obtain⟨k1,k2⟩:=hb h1.heap hf
     exact⟨h1.trans k1,k2⟩
theorem xhl {E:Env σ}(hE:EOk E):∀ d:Nat,xjT E.cz (xa1 E d)
 | 0=>xiy hE 0 fun hm hf=>⟨⟨hm,qzC _⟩,xaT _⟩
 | d+1=>xiy hE (d+1) fun hm hf=>xmE hE (xhl hE d) d _ hm hf
theorem xgi {f:QI->Int}:∀ {l:List QI} {k:Nat} {p:Int × Int},xjw f k l=some p->p.1≠0
 | [],k,p,h=>by simp[xjw] at h
 | z :: r,k,p,h=>by
  unfold xjw at h
  split at h
  ·rename_i hz;cases h;exact hz
  ·exact xgi h
def xfk:Int->Int->Option (List QI × Int):=fun _ _=>none
theorem xdz {X:QW}(h:xaJ X=0):HOk X.cz X.heap:=by
 obtain⟨hs,-,-,ho⟩:=xbE h;refine⟨hs.heap,fun o hm=>?_⟩
 obtain⟨i,hi,rfl⟩:=List.mem_iff_getElem.1 hm;have hr:=ho i _ hi (List.getElem?_eq_getElem hi);unfold roE at hr
 split at hr
 ·cases hr
 ·rename_i hn;have hn':=not_or.1 hn;refine⟨by simpa using hn'.1,by simpa using hn'.2,fun v hv=>?_⟩
  obtain⟨k,hk,rfl⟩:=List.mem_iff_getElem.1 hv
  exact xbH hr k _ (List.getElem?_eq_getElem hk)
theorem xhZ {X:QW}(h:xaJ X=0){H:List QO}(hh:HOk X.cz H):xaJ ⟨X.cz,H,X.ez⟩=0:=by
 obtain⟨hs,hc,hm,-⟩:=xbE h;refine xix ⟨hs.few,hs.many,hh.len,hs.ep0,hs.ep1⟩ hc hm fun i o hi ho=>?_
 obtain⟨h1,h2,h3⟩:=hh.obj o (List.mem_of_getElem? ho);unfold roE;rw[if_neg (by simp[h1,h2])]
 exact xb1 fun k v hv=>h3 v (List.mem_of_getElem? hv)
theorem xd1 {X:QW}(h:xaJ X=0):xbL X.cz:=fun i x hx=>by
 obtain⟨hs,hc,-,-⟩:=xbE h;have hr:=hc i x (xae hx) hx;unfold rcE at hr
 split at hr
 ·cases hr
 ·split at hr
  ·split at hr
   ·cases hr
   ·split at hr
    ·cases hr
    ·split at hr
     ·cases hr
     ·split at hr
      ·cases hr
      ·omega
  ·split at hr
   ·cases hr
   ·split at hr
    ·cases hr
    ·split at hr
     ·cases hr
     ·omega
theorem xhR {X:QW}(h:xaJ X=0)(c:Int):xa8 X.cz c=xaP X.cz c/\0<=xaP X.cz c:=by
 have ho:=xd1 h;obtain⟨hs,-,-,-⟩:=xbE h;have hm:=hs.many
 exact⟨xeH ho (by omega) c,(xcv ho (X.cz.length+1) c 0 (Int.le_refl _)).1⟩
theorem xjL {X:QW}(h:xaJ X=0){c n:Int}{m:QM}(hm:xaO X.cz c n=some m):xhm X.cz m.code:=by
 obtain⟨hs,-,hk,-⟩:=xbE h;unfold xaO at hm
 cases hx:xby X.cz c with
 | none=>rw[hx] at hm;cases hm
 | some x=>
  rw[hx] at hm;simp only[Option.bind_some] at hm;obtain⟨k,rfl,hx'⟩:=xbn hx
  split at hm
  ·have hr:=hk k x (xae hx') hx';unfold rkE at hr
   split at hr
   ·cases hr
   ·split at hr
    ·cases hr
    ·have hq:=xbH hr _ _ hm;unfold rmE at hq
     split at hq
     ·cases hq
     ·split at hq
      ·rename_i hp;unfold xgz at hp;rw[List.any_eq_true] at hp;obtain⟨p,-,hp⟩:=hp;simp only[Bool.and_eq_true,decide_eq_true_eq] at hp;have:m.code=[]:=List.eq_nil_of_length_eq_zero hp.2;rw[this];intro y hy
       simp at hy
      ·unfold xdY at hq
       split at hq
       ·rename_i a;exact absurd hq a
       ·split at hq
        ·rename_i f e
         exact absurd hq (xgi e)
        ·rename_i e;intro y hy;have hn:=xgm e y hy;unfold xgk at hn
         split at hn
         ·cases hn
         ·split at hn
          ·cases hn
          ·rename_i hra;unfold raE at hra;refine⟨fun h5=>?_,fun h13=>?_⟩
           ·simp[h5,inR] at hra
            omega
           ·simp[h13,inR] at hra
            simp[xbP]
            omega
  ·cases hm
theorem xeM {X:QW}(h:xaJ X=0)(fuel:Int)(look:σ->QS->Int->ByteArray->σ × (Int × Int)):EOk (⟨X.cz,fuel,look,xfk⟩:Env σ):=
 ⟨fun c n m hm=>xjL h hm,fun c n q hq=>(by cases hq),fun c=>xhR h c⟩
theorem xlj {X:QW}(h:xaJ X=0){E:Env σ}(hE:EOk E)(hc:E.cz=X.cz)(d:Nat){m:Mc σ}(hm:m.heap=X.heap)(c n:Int){s:QV}{a:List QV}(hs:xas X.heap.length s=0)(ha:VsOk X.heap.length a) :
  xaJ ⟨X.cz,(xa1 E d m c n s a).1.heap,X.ez⟩=0/\X.heap.length<=(xa1 E d m c n s a).1.heap.length/\xas (xa1 E d m c n s a).1.heap.length (xa1 E d m c n s a).2.1=0:=by
 obtain⟨k1,k2⟩:=xhl hE d m c n s a (by rw[hm,hc];exact xdz h) (by rw[hm];exact hs) (by rw[hm];exact ha)
 refine⟨xhZ h (by rw[← hc];exact k1.heap),by rw[← hm];exact k1.more,k2⟩
end
end Go.Proofs.YtapbeiccodnniaaGreat
