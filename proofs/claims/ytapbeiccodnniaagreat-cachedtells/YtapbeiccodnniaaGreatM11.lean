/- A part. -/
import Derived.Test.YtapbeiccodnniaaGreatM7
namespace Go.Proofs.YtapbeiccodnniaaGreat
open Go.ChangeShapes Go.WideShapes Go.ChangeAt Go.RowKit
set_option linter.unusedSimpArgs false
set_option linter.unusedVariables false
set_option maxHeartbeats 8000000
set_option maxRecDepth 8000
theorem xpB {α:Type}{xs:List α}{j:Nat}{x:α}(hx:xs[j]?=some x):xs.take (j+1)=xs.take j++[x]:=by
 have hj:=xae hx;rw[List.take_succ_eq_append_getElem hj];rw[List.getElem?_eq_getElem hj] at hx
 cases hx
 rfl
theorem xp9 {P:Nat->Prop}{w:World}{v:Value}{ls:List QL}(h:xbI P w v ls):xbI (fun b=>P b/\b<w.heap.size) w v ls:=by
 obtain⟨ad,cap,h1,h2,h3,h4,h5⟩:=h;refine⟨ad,cap,h1,h2,h3,h4,fun i x hx=>?_⟩
 obtain⟨b,o,e,hP,hE⟩:=h5 i x hx
 exact⟨b,o,e,⟨hP,World.block_lt_of_cell? _ _ hE.1⟩,hE⟩
theorem xp7 {P:Nat->Prop}{w:World}{v:Value}{xs:List QE}(h:xbk P w v xs):xbk (fun b=>P b/\b<w.heap.size) w v xs:=by
 obtain⟨ad,cap,h1,h2,h3,h4,h5⟩:=h;refine⟨ad,cap,h1,h2,h3,h4,fun i x hx=>?_⟩
 obtain⟨b,o,e,hP,k0,k1,k2,k3,k4,lv,k5,kl⟩:=h5 i x hx
 exact⟨b,o,e,⟨hP,World.block_lt_of_cell? _ _ k0⟩,k0,k1,k2,k3,k4,lv,k5,xp9 kl⟩
theorem xpF {P:Nat->Prop}{w:World}{v:Value}{xs:List QT}(h:xbc P w v xs):xbc (fun b=>P b/\b<w.heap.size) w v xs:=by
 obtain⟨ad,cap,h1,h2,h3,h4,h5⟩:=h;refine⟨ad,cap,h1,h2,h3,h4,fun i x hx=>?_⟩
 obtain⟨b,o,e,hP,k0,k1,k2,lv,k3,kl⟩:=h5 i x hx
 exact⟨b,o,e,⟨hP,World.block_lt_of_cell? _ _ k0⟩,k0,k1,k2,lv,k3,xp9 kl⟩
def Out {α:Type}(E:Lay α)(sz:Nat)(e:TypeId)(B:Nat)(w:World)(v:Value)(xs:List α):Prop:=
 ∃ cs,w.ownsRow B e sz v xs.length cs/\Cells E sz (fun b=>b<w.heap.size/\some b≠v.ownBlock) w cs xs
theorem xpC {w w':World}{B:Nat}{e:TypeId}{sz:Nat}{v:Value}{n:Nat}{cs:List Value}(h:w.ownsRow B e sz v n cs)(hb:Below w.heap.size w w'):w'.ownsRow B e sz v n cs:=by
 obtain⟨h0,h | ⟨g,cap,cur,h1,h2,h3,h4⟩⟩:=h
 ·exact⟨h0,Or.inl h⟩
 ·exact⟨h0,Or.inr ⟨g,cap,cur,h1,h2,(hb.block _ (xaf h3)).trans h3,h4⟩⟩
section
variable {α:Type} {E:Lay α} {sz:Nat} {e:TypeId} {B:Nat} {w w':World} {v:Value} {xs:List α}
theorem Out.later (h:Out E sz e B w v xs)(G:Good E sz)(hb:Below w.heap.size w w'):Out E sz e B w' v xs:=by
 obtain⟨cs,h1,h2⟩:=h
 exact⟨cs,xpC h1 hb,h2.keep G (.of_below hb) fun b h=>⟨qzE h.1 hb.size,h.2⟩⟩
theorem Out.nil:Out E sz e B w (.slice none 0 0) ([]:List α):=⟨[],⟨by simp,Or.inl ⟨rfl,rfl⟩⟩,.nil⟩
theorem Out.form (h:Out E sz e B w v xs):∃ a c,v=.slice a xs.length c/\∀ g,v.ownBlock=some g->B<=g/\g<w.heap.size:=by
 obtain⟨cs,⟨h0,⟨rfl,h⟩ | ⟨g,cap,cur,rfl,h2,h3,h4⟩⟩,-⟩:=h
 ·exact⟨none,0,by rw[h],fun g hg=>by cases hg⟩
 ·exact⟨_,_,rfl,fun k hk=>by simp[Value.ownBlock] at hk;subst hk;exact⟨h2,xaf h3⟩⟩
theorem Out.block (h:Out E sz e B w v xs)(g:Nat)(hg:v.ownBlock=some g):B<=g/\g<w.heap.size:=by
 obtain⟨a,c,rfl,h⟩:=h.form
 exact h g hg
end
section
variable {α:Type} {E:Lay α} {sz:Nat} {R':Nat->Prop} {w:World} {ops:Array Oper} {rest:List Oper} {o:Oper} {a:Act} {Q:Exit->Act->World->Prop}
theorem xpm (G:Good E sz)(hgd:o.guard=none)(s x:Operand)(T:TypeId)(ho:o.op=.call { callee:=.builtin .append,args:=#[s,x],argTypes:=#[T,T] })
  (e:TypeId) (z:Value) (bytes:Nat) (hu:Tryz.prog.underlying T=some (.slice e)) (hI:(Tryz.prog.info? e).map (fun i=>(i.zero,i.size,i.bytes))=some (some z,sz,bytes)) (hz:z.cells.size=sz)
  (B0:Nat) (v:Value) (pre:List α) (hs:a.eval s=v) (hout:Out E sz e B0 w v pre)
  (B:Nat) (t:TypeId) (vs:List Value) (hx:a.eval x=.slice (some ⟨B,0,none⟩) 1 1) (hB:w.heap[B]?=some (.cells vs.toArray t (0,0))) (hvs:vs.length=sz) (y:α) (hy:E R' w (fun k=>vs[k]?) y)
  (hR':∀ b,R' b->b<w.heap.size/\some b≠v.ownBlock) (hB0:B0<=w.heap.size) (hb1:pre.length+1<=maxLen) (hb2:(pre.length+1)*bytes<=190000000000000/\bytes<=10000)
  (h:∀ g cap w',Out E sz e B0 w' (.slice (some ⟨g,0,none⟩) (pre.length+1) cap) (pre++[y])->Below B0 w w'->(∀ b,b<w.heap.size->some b≠v.ownBlock->w'.heap[b]?=w.heap[b]?)->wpList Tryz.prog ops Q rest (a.put o.dst (.slice (some ⟨g,0,none⟩) (pre.length+1) cap)) w'):wpList Tryz.prog ops Q (o :: rest) a w:=by
 obtain⟨i0,hi,hz0,hz1,hz2⟩:=xa3 hI;obtain⟨cs,hown,hcs⟩:=id hout;refine xrz w hgd s x T ho B0 e i0 z sz bytes hu hi hz0 hz1 hz2 hz G.pos v pre.length cs hs hown ⟨B,0,none⟩ 1 vs hx (by simpa using hvs) (fun j u hj=>World.news_of_block hB j u (by simpa using hj)) ?_ hb1 hb2.1 hb2.2 hB0 w.heap.size rfl ?_
 ·intro u hu;obtain⟨j,hj,rfl⟩:=List.mem_iff_getElem.1 hu;obtain⟨v,hv,hone⟩:=G.there hy j (by omega)
  simp only[List.getElem?_eq_getElem hj] at hv
  cases hv
  exact hone
 ·intro g cap w' hown' hgr hor hlt;have hob:=hout.block;have hbel:Below B0 w w':=(qzL _ _).grown hgr hB0 (fun k hk=>(hob k hk).1)
  have hK:Keeps (fun b=>b<w.heap.size/\some b≠v.ownBlock) w w':=.of_block fun b hb _=>hgr.block b hb.1 hb.2
  have hne:∀ b,b<w.heap.size/\some b≠v.ownBlock->b<w'.heap.size/\some b≠(Value.slice (some ⟨g,0,none⟩) (pre.length+1) cap).ownBlock:=fun b hb=>by
   refine⟨qzE hb.1 hgr.size,?_⟩;simp only[Value.ownBlock]
   rcases hor with h | h
   ·rw[← h];exact hb.2
   ·intro e;cases e;omega
  refine h g cap w' ⟨cs++vs,by simpa using hown',Cells.append (hcs.keep G hK hne) G (Cells.one G hvs ?_)⟩ hbel (fun b hb hn=>hgr.block b hb hn)
  exact G.move hy (fun b hb=>hne b (hR' b hb)) (hK.mono hR') fun _ _ _ h=>h
end
def xpu (c:Int)(p:List QL × Bool)(x:QL):List QL × Bool:=if (x.cls == c)=true/\p.2=false then (p.1++[⟨x.cls,wrap64 (x.found+1)⟩],true) else (p.1++[x],p.2)
def xqj (c:Int)(ls:List QL):List QL × Bool:=ls.foldl (xpu c) ([],false)
def xrp (c:Int)(p:List QL × Bool):List QL:=if p.2 then p.1 else p.1++[⟨c,1⟩]
theorem xqF (c:Int)(ls:List QL)(x:QL):xqj c (ls++[x])=xpu c (xqj c ls) x:=by simp[xqj]
theorem xpX (c:Int):∀ (ls pre:List QL),ls.foldl (xpu c) (pre,true)=(pre++ls,true)
 | [],pre=>by simp
 | x :: r,pre=>by
  rw[List.foldl_cons];have:xpu c (pre,true) x=(pre++[x],true):=by simp[xpu]
  rw[this,xpX c r]
  simp
theorem xpN (c:Int):∀ (ls pre:List QL),xrp c (ls.foldl (xpu c) (pre,false))=pre++xbo ls c
 | [],pre=>by simp[xrp,xbo]
 | x :: r,pre=>by
  rw[List.foldl_cons]
  by_cases hx:(x.cls == c)=true
  ·have:xpu c (pre,false) x=(pre++[⟨x.cls,wrap64 (x.found+1)⟩],true):=by simp[xpu,hx]
   rw[this,xpX]
   simp[xrp,xbo,hx]
  ·have:xpu c (pre,false) x=(pre++[x],false):=by simp[xpu,hx]
   rw[this,xpN c r]
   simp[xbo,hx]
theorem xq2 (c:Int)(ls:List QL):xrp c (xqj c ls)=xbo ls c:=by
 have:=xpN c ls []
 simpa [xqj] using this
theorem xq0 (c:Int)(ls:List QL):(xqj c ls).1.length=ls.length:=by
 have:∀ (ls:List QL) (p:List QL × Bool),(ls.foldl (xpu c) p).1.length=p.1.length+ls.length:=by
  intro ls
  induction ls with
  | nil=>simp
  | cons x r ih=>
   intro p;rw[List.foldl_cons,ih];unfold xpu
   split<;>simp<;>omega
 have:=this ls ([],false)
 simpa [xqj] using this
def xpt (s:QS)(c:Int)(p:List QT × Bool)(x:QT):List QT × Bool:=if eqS x.site s=true/\p.2=false then (p.1++[⟨x.site,xbo x.lz c⟩],true) else (p.1++[x],p.2)
def xqh (s:QS)(c:Int)(xs:List QT):List QT × Bool:=xs.foldl (xpt s c) ([],false)
def xrr (s:QS)(c:Int)(p:List QT × Bool):List QT:=if p.2 then p.1 else p.1++[⟨s,[⟨c,1⟩]⟩]
theorem xqN (s:QS)(c:Int)(xs:List QT)(x:QT):xqh s c (xs++[x])=xpt s c (xqh s c xs) x:=by simp[xqh]
theorem xpT (s:QS)(c:Int):∀ (xs pre:List QT),xs.foldl (xpt s c) (pre,true)=(pre++xs,true)
 | [],pre=>by simp
 | x :: r,pre=>by
  rw[List.foldl_cons];have:xpt s c (pre,true) x=(pre++[x],true):=by simp[xpt]
  rw[this,xpT s c r]
  simp
theorem xpI (s:QS)(c:Int):∀ (xs pre:List QT),xrr s c (xs.foldl (xpt s c) (pre,false))=pre++xc1 xs s c
 | [],pre=>by simp[xrr,xc1]
 | x :: r,pre=>by
  rw[List.foldl_cons]
  by_cases hx:eqS x.site s=true
  ·have:xpt s c (pre,false) x=(pre++[⟨x.site,xbo x.lz c⟩],true):=by simp[xpt,hx]
   rw[this,xpT]
   simp[xrr,xc1,hx]
  ·have:xpt s c (pre,false) x=(pre++[x],false):=by simp[xpt,hx]
   rw[this,xpI s c r]
   simp[xc1,hx]
theorem xq1 (s:QS)(c:Int)(xs:List QT):xrr s c (xqh s c xs)=xc1 xs s c:=by
 have:=xpI s c xs []
 simpa [xqh] using this
theorem xqQ (s:QS)(c:Int)(xs:List QT):(xqh s c xs).1.length=xs.length:=by
 have:∀ (xs:List QT) (p:List QT × Bool),(xs.foldl (xpt s c) p).1.length=p.1.length+xs.length:=by
  intro xs
  induction xs with
  | nil=>simp
  | cons x r ih=>
   intro p;rw[List.foldl_cons,ih];unfold xpt
   split<;>simp<;>omega
 have:=this xs ([],false)
 simpa [xqh] using this
def OutN {α:Type}(N:Nat->Prop)(E:Lay α)(sz:Nat)(e:TypeId)(B:Nat)(w:World)(v:Value)(xs:List α):Prop:=
 ∃ cs,w.ownsRow B e sz v xs.length cs/\Cells E sz (fun b=>N b/\b<w.heap.size/\some b≠v.ownBlock) w cs xs
section
variable {α:Type} {N:Nat->Prop} {E:Lay α} {sz:Nat} {e:TypeId} {B:Nat} {w w':World} {v:Value} {xs:List α}
theorem OutN.later (h:OutN N E sz e B w v xs)(G:Good E sz)(hb:Below w.heap.size w w'):OutN N E sz e B w' v xs:=by
 obtain⟨cs,h1,h2⟩:=h
 exact⟨cs,xpC h1 hb,h2.keep G (.of_below hb) fun b h=>⟨h.1,qzE h.2.1 hb.size,h.2.2⟩⟩
theorem OutN.nil:OutN N E sz e B w (.slice none 0 0) ([]:List α):=⟨[],⟨by simp,Or.inl ⟨rfl,rfl⟩⟩,.nil⟩
theorem OutN.rowZ (h:OutN N E sz e B w v xs)(G:Good E sz){Z:Nat->Prop}(hN:∀ b,N b->Z b)(hz:∀ b,B<=b->Z b):IsRow E sz 0 Z w v xs:=by
 obtain⟨cs,h1,h2⟩:=h
 exact xql G h1 rfl (h2.keep G (.refl _ _) fun b h=>hN b h.1) fun g hg _=>hz g hg
theorem OutN.form (h:OutN N E sz e B w v xs):∃ a c,v=.slice a xs.length c:=by
 obtain⟨cs,⟨h0,⟨rfl,h⟩ | ⟨g,cap,cur,rfl,h2,h3,h4⟩⟩,-⟩:=h
 ·exact⟨none,0,by rw[h]⟩
 ·exact⟨_,_,rfl⟩
theorem OutN.block (h:OutN N E sz e B w v xs)(g:Nat)(hg:v.ownBlock=some g):B<=g/\g<w.heap.size:=by
 obtain⟨cs,⟨h0,⟨rfl,h⟩ | ⟨g',cap,cur,rfl,h2,h3,h4⟩⟩,-⟩:=h
 ·cases hg
 ·simp[Value.ownBlock] at hg;subst hg;exact⟨h2,xaf h3⟩
theorem OutN.set (h:OutN N E sz e B w v xs)(G:Good E sz){b o:Nat}(hN:¬ N b)(hb:b<B)(u:Value):OutN N E sz e B (w.setCell ⟨b,o,none⟩ u) v xs:=by
 obtain⟨cs,h1,h2⟩:=h;refine⟨cs,?_,h2.keep G (Keeps.of_setCell (by intro h;exact hN h.1) _) fun b h=>⟨h.1,by simpa using h.2.1,h.2.2⟩⟩
 obtain⟨h0,h | ⟨g,cap,cur,h1,h2,h3,h4⟩⟩:=h1
 ·exact⟨h0,Or.inl h⟩
 ·exact⟨h0,Or.inr ⟨g,cap,cur,h1,h2,(xab (by omega) _).trans h3,h4⟩⟩
end
section
variable {α:Type} {N:Nat->Prop} {E:Lay α} {sz:Nat} {R':Nat->Prop} {w:World} {ops:Array Oper} {rest:List Oper} {o:Oper} {a:Act} {Q:Exit->Act->World->Prop}
theorem xpl (G:Good E sz)(hgd:o.guard=none)(s x:Operand)(T:TypeId)(ho:o.op=.call { callee:=.builtin .append,args:=#[s,x],argTypes:=#[T,T] })
  (e:TypeId) (z:Value) (bytes:Nat) (hu:Tryz.prog.underlying T=some (.slice e)) (hI:(Tryz.prog.info? e).map (fun i=>(i.zero,i.size,i.bytes))=some (some z,sz,bytes)) (hz:z.cells.size=sz)
  (B0:Nat) (v:Value) (pre:List α) (hs:a.eval s=v) (hout:OutN N E sz e B0 w v pre)
  (B:Nat) (t:TypeId) (vs:List Value) (hx:a.eval x=.slice (some ⟨B,0,none⟩) 1 1) (hB:w.heap[B]?=some (.cells vs.toArray t (0,0))) (hvs:vs.length=sz) (y:α) (hy:E R' w (fun k=>vs[k]?) y)
  (hR':∀ b,R' b->N b/\b<w.heap.size/\some b≠v.ownBlock) (hB0:B0<=w.heap.size) (hb1:pre.length+1<=maxLen) (hb2:(pre.length+1)*bytes<=190000000000000/\bytes<=10000)
  (h:∀ g cap w',OutN N E sz e B0 w' (.slice (some ⟨g,0,none⟩) (pre.length+1) cap) (pre++[y])->Below B0 w w'->wpList Tryz.prog ops Q rest (a.put o.dst (.slice (some ⟨g,0,none⟩) (pre.length+1) cap)) w'):wpList Tryz.prog ops Q (o :: rest) a w:=by
 obtain⟨i0,hi,hz0,hz1,hz2⟩:=xa3 hI;obtain⟨cs,hown,hcs⟩:=id hout;refine xrz w hgd s x T ho B0 e i0 z sz bytes hu hi hz0 hz1 hz2 hz G.pos v pre.length cs hs hown ⟨B,0,none⟩ 1 vs hx (by simpa using hvs) (fun j u hj=>World.news_of_block hB j u (by simpa using hj)) ?_ hb1 hb2.1 hb2.2 hB0 w.heap.size rfl ?_
 ·intro u hu;obtain⟨j,hj,rfl⟩:=List.mem_iff_getElem.1 hu;obtain⟨v,hv,hone⟩:=G.there hy j (by omega)
  simp only[List.getElem?_eq_getElem hj] at hv
  cases hv
  exact hone
 ·intro g cap w' hown' hgr hor hlt;have hob:=hout.block;have hbel:Below B0 w w':=(qzL _ _).grown hgr hB0 (fun k hk=>(hob k hk).1)
  have hK:Keeps (fun b=>N b/\b<w.heap.size/\some b≠v.ownBlock) w w':=.of_block fun b hb _=>hgr.block b hb.2.1 hb.2.2
  have hne:∀ b,N b/\b<w.heap.size/\some b≠v.ownBlock->N b/\b<w'.heap.size/\some b≠(Value.slice (some ⟨g,0,none⟩) (pre.length+1) cap).ownBlock:=fun b hb=>by
   refine⟨hb.1,qzE hb.2.1 hgr.size,?_⟩;simp only[Value.ownBlock]
   rcases hor with h | h
   ·rw[← h];exact hb.2.2
   ·intro e;cases e;omega
  refine h g cap w' ⟨cs++vs,by simpa using hown',Cells.append (hcs.keep G hK hne) G (Cells.one G hvs ?_)⟩ hbel
  exact G.move hy (fun b hb=>hne b (hR' b hb)) (hK.mono hR') fun _ _ _ h=>h
end
theorem xp0 (w:World)(o:Obj)(n:Nat)(hn:w.heap.size=n):(w.alloc o).heap[n]?=some o:=by subst hn;exact qzJ w o
theorem xra (w:World)(c:Int)(o:Obj):xbI (fun b=>b=w.heap.size) ((w.alloc (.cells #[.int .i64 c,.int .i64 1] 72)).alloc o) (.slice (some ⟨w.heap.size,0,none⟩) 1 1) [⟨c,1⟩]:=by
 refine⟨_,_,rfl,qzC _,by unfold maxLen;omega,by simp,fun i x hx=>⟨w.heap.size,0,rfl,rfl,?_⟩⟩
 have hi:=xae hx;obtain rfl:i=0:=by simpa using hi
 simp at hx
 subst hx
 exact⟨qzA (xaj _ _) (xaa w _ _ _ rfl 0),qzA (xaj _ _) (xaa w _ _ _ rfl 1)⟩
theorem Out.lz {B:Nat}{w:World}{v:Value}{ls:List QL}(h:Out xda 2 72 B w v ls):xbI (fun b=>B<=b/\b<w.heap.size) w v ls:=by
 obtain⟨cs,h1,h2⟩:=h
 exact xql xbq h1 rfl (P:=fun b=>B<=b/\b<w.heap.size) ⟨h2.1,h2.2⟩ fun g h h'=>⟨h,h'⟩
theorem xqL (Z:Nat->Prop)(xs:List QT)(v:Value)(s:QS)(c:Int)(w:World)(hz:∀ b,w.heap.size<=b->Z b)(hh:xbc Z w v xs)(hby:(xs.length+1)*56<=190000000000000)(hls:∀ x∈xs,(x.lz.length+1)*16<=190000000000000) :
  Calls Tryz.prog 25 #[v,SV s,.int .i64 c] w fun e w'=>∃ a cap,e=.returned (.slice a (xc1 xs s c).length cap)/\xbc Z w' (.slice a (xc1 xs s c).length cap) (xc1 xs s c)/\Below w.heap.size w w':=by
 have ho:=xpF hh;obtain⟨ad,cap,rfl,hl,hcap,-,-⟩:=id hh;unfold maxLen at hcap;have hs0:=xeS w s 67;have hb0:=xaj w (.cells #[.int .i64 s.cls,.string s.name,.int .i64 s.at'] 67);have hB0:(w.alloc (.cells #[.int .i64 s.cls,.string s.name,.int .i64 s.at'] 67)).heap.size=w.heap.size+1:=by simp
 replace ho:=ho.later xbZ hb0;clear hh;go_enter Tryz.func25,Tryz.ntmps25;go_wp2;generalize (w.alloc (.cells #[.int .i64 s.cls,.string s.name,.int .i64 s.at'] 67))=W0 at *
 go_loopg [7,8,17] xs.length (fun g o d i wr=>∃ j:Nat,j+g=xs.length/\i=.int .i64 j/\d=.bool (xqh s c (xs.take j)).2/\Below W0.heap.size W0 wr/\OutN Z xf7 4 97 W0.heap.size wr o (xqh s c (xs.take j)).1)
 case atStart=>exact⟨0,by omega,rfl,rfl,qzL _ _,OutN.nil⟩
 case round=>
  obtain⟨j,hj,rfl,rfl,hbel,hout⟩:=hrel;obtain⟨s0,s1,s2⟩:=hs0.later hbel;have hlen:(xqh s c (xs.take j)).1.length=j:=by rw[xqQ,List.length_take];omega
  have hzr:=hbel.size
  by_cases hlt:j<xs.length
  ·obtain⟨ad',cap',e',-,-,-,hrow⟩:=ho.later xbZ hbel;simp only[Value.slice.injEq] at e';obtain⟨rfl,-,-⟩:=e';obtain⟨b,o,rfl,-,q0,q1,q2,lv,q3,ql⟩:=hrow j xs[j] (by simp[hlt])
   have hxj:Hid (xs[j]?=some xs[j]):=by show _=_;simp[hlt]
   have hlx:=hls xs[j] (by simp)
   generalize xs[j]=x at *;have HC:Hid (xqh s c (xs.take (j+1))=xpt s c (xqh s c (xs.take j)) x):=by show _=_;rw[xpB hxj.out,xqN]
   simp only[Nat.add_zero] at q0;obtain⟨ad2,cap2,rfl,hl2,hcap2,-,-⟩:=id ql;unfold maxLen at hcap2;generalize hcr:xqh s c (xs.take j)=pd at *;obtain⟨pre,dn⟩:=pd;simp only at hout hlen ⊢;clear hcr hrow;have s0':=fun y=>qzA (xaj wr y) s0
   have s1':=fun y=>qzA (xaj wr y) s1
   have s2':=fun y=>qzA (xaj wr y) s2
   have he:=fun w=>xrt x.site s w
   have hj1:(j:Int)<(xs.length:Int):=by omega
   have hj0:(0:Int)<=(j:Int):=by omega
   have hbx:=xaj wr (Obj.cells #[Value.int .i64 x.site.cls,Value.string x.site.name,Value.int .i64 x.site.at',Value.slice ad2 x.lz.length cap2] 97);have hob:=hout.block
   by_cases hcase:eqS x.site s=true/\dn=false
   ·obtain⟨h1,rfl⟩:=hcase;have HP:Hid (xpt s c (pre,false) x=(pre++[⟨x.site,xbo x.lz c⟩],true)):=by show _=_;unfold xpt;rw[if_pos ⟨h1,rfl⟩]
    rw[h1] at he;clear h1;have hbox:=xlL wr x (Value.slice ad2 x.lz.length cap2) 97;have hqx:=ql.later xbq hbx;have hz1:(wr.alloc (Obj.cells #[Value.int .i64 x.site.cls,Value.string x.site.name,Value.int .i64 x.site.at',Value.slice ad2 x.lz.length cap2] 97)).heap.size=wr.heap.size+1:=by simp
    have hfz1:=fun o=>xeu wr #[Value.int .i64 x.site.cls,Value.string x.site.name,Value.int .i64 x.site.at',Value.slice ad2 x.lz.length cap2] 97 wr.heap.size o rfl
    go_wp2;generalize (wr.alloc (Obj.cells #[Value.int .i64 x.site.cls,Value.string x.site.name,Value.int .i64 x.site.at',Value.slice ad2 x.lz.length cap2] 97))=W1 at *;have HQ:Hid (∀ w',Below W1.heap.size W1 w'->Below wr.heap.size wr w'):=fun w' h=>hbx.trans (h.mono (by omega))
    have HOUT:Hid (∀ w',Below wr.heap.size wr w'->OutN Z xf7 4 97 W0.heap.size w' u7 pre):=fun w' h=>hout.later xbZ h
    have HBW:Hid (∀ w',Below wr.heap.size wr w'->Below W0.heap.size W0 w'):=fun w' h=>hbel.trans (h.mono hzr)
    clear s0 s1 s2 s0' s1' s2' he q0 q1 q2 q3 ql hbx hout hbel;generalize wr.heap.size=TB at *
    go_loopg [11,12,32] x.lz.length (fun g l d i wr=>∃ q:Nat,q+g=x.lz.length/\i=.int .i64 q/\d=.bool (xqj c (x.lz.take q)).2/\Below W1.heap.size W1 wr/\Out xda 2 72 W1.heap.size wr l (xqj c (x.lz.take q)).1)
    case atStart=>exact⟨0,by omega,rfl,rfl,qzL _ _,Out.nil⟩
    case round=>
     obtain⟨q,hq,rfl,rfl,hbq,houtq⟩:=hrel;have hlenq:(xqj c (x.lz.take q)).1.length=q:=by rw[xq0,List.length_take];omega
     by_cases hltq:q<x.lz.length
     ·obtain⟨ad3,cap3,e3,-,-,-,hrow3⟩:=hqx.later xbq hbq;simp only[Value.slice.injEq] at e3;obtain⟨rfl,-,-⟩:=e3;obtain⟨b3,o3,rfl,-,y0,y1⟩:=hrow3 q x.lz[q] (by simp[hltq])
      have hyq:Hid (x.lz[q]?=some x.lz[q]):=by show _=_;simp[hltq]
      generalize x.lz[q]=y at *;simp only[Nat.add_zero] at y0;have HL:Hid (xqj c (x.lz.take (q+1))=xpu c (xqj c (x.lz.take q)) y):=by show _=_;rw[xpB hyq.out,xqF]
      generalize hlr:xqj c (x.lz.take q)=lp at *;obtain⟨lpre,was⟩:=lp;simp only at houtq hlenq ⊢;clear hlr hrow3;have hq1:(q:Int)<(x.lz.length:Int):=by omega
      have hq0:(0:Int)<=(q:Int):=by omega
      have hzq:=hbq.size
      by_cases hcy:(y.cls == c)=true/\was=false
      ·obtain⟨hc1,rfl⟩:=hcy;have HLP:Hid (xpu c (lpre,false) y=(lpre++[⟨y.cls,wrap64 (y.found+1)⟩],true)):=by show _=_;unfold xpu;rw[if_pos ⟨hc1,rfl⟩]
       go_wp2_with (at_builtin;refine xpm xbq rfl (.tmp 48) (.tmp 50) 68 rfl 72 _ 16 Tryz.underlying68 xi4 rfl W1.heap.size _ lpre rfl ((houtq.later xbq (xaj _ _)).later xbq (xaj _ _)) _ 72 [.int .i64 y.cls,.int .i64 (wrap64 (y.found+1))] rfl (xp0 _ _ _ (by simp)) rfl ⟨y.cls,wrap64 (y.found+1)⟩ (R':=fun b=>False) ⟨rfl,rfl⟩ (fun b hb=>hb.elim) (by simp;omega) (by unfold maxLen;omega) (by rw[hlenq];omega) ?_;intro g3 cap3 w3 hout3 hbel3 hkeep3)
       go_roundg (x.lz.length-(q+1))
       case measure=>omega
       case rel=>exact⟨q+1,by omega,by go_num,by rw[HL.out,HLP.out],hbq.trans (((xaj _ _).mono hzq).trans (((xaj _ _).mono (by simp;omega)).trans hbel3)),by rw[HL.out,HLP.out];simpa [hlenq] using hout3⟩
      ·have HLP:Hid (xpu c (lpre,was) y=(lpre++[y],was)):=by show _=_;unfold xpu;rw[if_neg hcy]
       cases hc1:(y.cls == c) with
       | false=>
        go_wp2_with (at_builtin;refine xpm xbq rfl (.tmp 48) (.tmp 50) 68 rfl 72 _ 16 Tryz.underlying68 xi4 rfl W1.heap.size _ lpre rfl ((houtq.later xbq (xaj _ _)).later xbq (xaj _ _)) _ 72 [.int .i64 y.cls,.int .i64 y.found] rfl (xp0 _ _ _ (by simp)) rfl y (R':=fun b=>False) ⟨rfl,rfl⟩ (fun b hb=>hb.elim) (by simp;omega) (by unfold maxLen;omega) (by rw[hlenq];omega) ?_;intro g3 cap3 w3 hout3 hbel3 hkeep3)
        go_roundg (x.lz.length-(q+1))
        case measure=>omega
        case rel=>exact⟨q+1,by omega,by go_num,by rw[HL.out,HLP.out],hbq.trans (((xaj _ _).mono hzq).trans (((xaj _ _).mono (by simp;omega)).trans hbel3)),by rw[HL.out,HLP.out];simpa [hlenq] using hout3⟩
       | true=>
        obtain rfl:was=true:=by
         cases was with
         | true=>rfl
         | false=>exact absurd ⟨hc1,rfl⟩ hcy
        clear hcy
        go_wp2_with (at_builtin;refine xpm xbq rfl (.tmp 48) (.tmp 50) 68 rfl 72 _ 16 Tryz.underlying68 xi4 rfl W1.heap.size _ lpre rfl ((houtq.later xbq (xaj _ _)).later xbq (xaj _ _)) _ 72 [.int .i64 y.cls,.int .i64 y.found] rfl (xp0 _ _ _ (by simp)) rfl y (R':=fun b=>False) ⟨rfl,rfl⟩ (fun b hb=>hb.elim) (by simp;omega) (by unfold maxLen;omega) (by rw[hlenq];omega) ?_;intro g3 cap3 w3 hout3 hbel3 hkeep3)
        go_roundg (x.lz.length-(q+1))
        case measure=>omega
        case rel=>exact⟨q+1,by omega,by go_num,by rw[HL.out,HLP.out],hbq.trans (((xaj _ _).mono hzq).trans (((xaj _ _).mono (by simp;omega)).trans hbel3)),by rw[HL.out,HLP.out];simpa [hlenq] using hout3⟩
     ·obtain rfl:q=x.lz.length:=by omega
      have HTq:Hid (x.lz.take x.lz.length=x.lz):=List.take_of_length_le (qzC _);rw[HTq.out] at houtq hlenq ⊢;have HFq:Hid (xbo x.lz c=xrp c (xqj c x.lz)):=(xq2 c x.lz).symm;generalize hlr:xqj c x.lz=lp at *;obtain⟨lpre,was⟩:=lp;simp only at houtq hlenq ⊢;clear hlr;have hzq:=hbq.size;have HLQ:Hid (lpre.length=x.lz.length):=hlenq;clear hlenq
      cases was with
      | true=>
       have HE:Hid (xbo x.lz c=lpre):=by show _=_;rw[HFq.out];rfl
       obtain⟨a8,k8,rfl,-⟩:=houtq.form;have hbx9:=hbox.later hbq;have f9:=fun o=>(hbq.frozen (p:=⟨TB,o,none⟩) (by simp;omega)).trans (hfz1 o)
       obtain⟨c90,c91,c92,c93⟩:=hbx9;have hset9:=(HQ.out _ hbq).setCell (p:=⟨TB,3,none⟩) (qzC _) (.slice a8 lpre.length k8);have hl9:=houtq.lz.keep xbq (Keeps.of_setCell (a:=⟨TB,3,none⟩) (by intro h;have:=h.1;simp at this;omega) (.slice a8 lpre.length k8)) (fun _ h=>h)
       have hz9:=hset9.size
       go_wp2_with (at_builtin;refine xpl xbZ rfl (.tmp 62) (.tmp 64) 32 rfl 97 _ 56 Tryz.underlying32 xmI rfl W0.heap.size _ pre rfl ((HOUT.out _ hset9).later xbZ (xaj _ _)) _ 97 [.int .i64 x.site.cls,.string x.site.name,.int .i64 x.site.at',.slice a8 lpre.length k8] rfl (xp0 _ _ _ (by simp)) rfl ⟨x.site,lpre⟩ (R':=fun b=>W1.heap.size<=b/\b<wr.heap.size) ⟨rfl,rfl,rfl,_,rfl,hl9.later xbq (xaj _ _)⟩ (fun b hb=>⟨hz b (by omega),by simp;omega,fun e=>by have:=(hob b e.symm).2;omega⟩) (by simp;omega) (by unfold maxLen;omega) (by rw[hlen];omega) ?_;intro g3 cap3 w3 hout3 hbel3)
       go_roundg (xs.length-(j+1))
       case measure=>omega
       case rel=>exact⟨j+1,by omega,by go_num,by rw[HC.out,HP.out],(HBW.out _ hset9).trans (((xaj _ _).mono (HBW.out _ hset9).size).trans hbel3),by rw[HC.out,HP.out,HE.out];simpa [hlen] using hout3⟩
      | false=>
       have HE:Hid (xbo x.lz c=lpre++[⟨c,1⟩]):=by show _=_;rw[HFq.out];rfl
       have hbx9:=hbox.later hbq;have f9:=fun o=>(hbq.frozen (p:=⟨TB,o,none⟩) (by simp;omega)).trans (hfz1 o)
       obtain⟨c90,c91,c92,c93⟩:=hbx9;have hw9:=HQ.out _ hbq
       go_wp2_with (first
        | (at_builtin;refine xpm xbq rfl (.tmp 55) (.tmp 58) 68 rfl 72 _ 16 Tryz.underlying68 xi4 rfl W1.heap.size _ lpre rfl (houtq.later xbq (xaj _ _)) _ 72 [.int .i64 c,.int .i64 1] rfl (xp0 _ _ _ (by simp)) rfl ⟨c,1⟩ (R':=fun b=>False) ⟨rfl,rfl⟩ (fun b hb=>hb.elim) (by simp;omega) (by rw[HLQ.out];unfold maxLen;omega) (by rw[HLQ.out];omega) ?_;intro g8 cap8 w8 hout8 hbel8 hkeep8;have hb8:=((xaj _ _).mono hzq).trans hbel8;have hbq8:=hbq.trans hb8;have hz8:=hbq8.size;have hbx8:=hbox.later hbq8;have f8:=fun o=>(hbq8.frozen (p:=⟨TB,o,none⟩) (by simp;omega)).trans (hfz1 o);obtain⟨c80,c81,c82,c83⟩:=hbx8;have hset9:=(HQ.out _ hbq8).setCell (p:=⟨TB,3,none⟩) (qzC _) (.slice (some ⟨g8,0,none⟩) (lpre.length+1) cap8);have hl9:=hout8.lz.keep xbq (Keeps.of_setCell (a:=⟨TB,3,none⟩) (by intro h;have:=h.1;simp at this;omega) (.slice (some ⟨g8,0,none⟩) (lpre.length+1) cap8)) (fun _ h=>h);have hz9:=hset9.size;clear c90 c91 c92 c93 f9)
        | (at_builtin;refine xpl xbZ rfl (.tmp 62) (.tmp 64) 32 rfl 97 _ 56 Tryz.underlying32 xmI rfl W0.heap.size _ pre rfl ((HOUT.out _ hset9).later xbZ (xaj _ _)) _ 97 [.int .i64 x.site.cls,.string x.site.name,.int .i64 x.site.at',.slice (some ⟨g8,0,none⟩) (lpre.length+1) cap8] rfl (xp0 _ _ _ (by simp)) rfl ⟨x.site,lpre++[⟨c,1⟩]⟩ (R':=fun b=>W1.heap.size<=b/\b<w8.heap.size) ⟨rfl,rfl,rfl,_,rfl,hl9.later xbq (xaj _ _)⟩ (fun b hb=>⟨hz b (by omega),by simp;omega,fun e=>by have:=(hob b e.symm).2;omega⟩) (by simp;omega) (by unfold maxLen;omega) (by rw[hlen];omega) ?_;intro g3 cap3 w3 hout3 hbel3))
       go_roundg (xs.length-(j+1))
       case measure=>omega
       case rel=>exact⟨j+1,by omega,by go_num,by rw[HC.out,HP.out],(HBW.out _ hset9).trans (((xaj _ _).mono (HBW.out _ hset9).size).trans hbel3),by rw[HC.out,HP.out,HE.out];simpa [hlen] using hout3⟩
   ·have HP:Hid (xpt s c (pre,dn) x=(pre++[x],dn)):=by show _=_;unfold xpt;rw[if_neg hcase]
    have hlR:xbI (fun b=>Z b/\b<w.heap.size) (wr.alloc (Obj.cells #[Value.int .i64 x.site.cls,Value.string x.site.name,Value.int .i64 x.site.at',Value.slice ad2 x.lz.length cap2] 97)) (.slice ad2 x.lz.length cap2) x.lz:=ql.later xbq hbx
    cases h1:eqS x.site s with
    | false=>
     rw[h1] at he
     go_wp2_with (at_builtin;refine xpl xbZ rfl (.tmp 62) (.tmp 64) 32 rfl 97 _ 56 Tryz.underlying32 xmI rfl W0.heap.size _ pre rfl ((hout.later xbZ hbx).later xbZ (xaj _ _)) _ 97 [.int .i64 x.site.cls,.string x.site.name,.int .i64 x.site.at',.slice ad2 x.lz.length cap2] rfl (xp0 _ _ _ (by simp)) rfl x (R':=fun b=>Z b/\b<w.heap.size) ⟨rfl,rfl,rfl,_,rfl,hlR.later xbq (xaj _ _)⟩ (fun b hb=>⟨hb.1,by simp;omega,fun e=>by have:=(hob b e.symm).1;omega⟩) (by simp;omega) (by unfold maxLen;omega) (by rw[hlen];omega) ?_;intro g3 cap3 w3 hout3 hbel3)
     go_roundg (gk-1)
     case measure=>omega
     case rel=>exact⟨j+1,by omega,by go_num,by rw[HC.out,HP.out],hbel.trans ((hbx.mono hzr).trans (((xaj _ _).mono (by simp;omega)).trans hbel3)),by rw[HC.out,HP.out];simpa [hlen] using hout3⟩
    | true=>
     obtain rfl:dn=true:=by
      cases dn with
      | true=>rfl
      | false=>exact absurd ⟨h1,rfl⟩ hcase
     rw[h1] at he;clear hcase
     go_wp2_with (at_builtin;refine xpl xbZ rfl (.tmp 62) (.tmp 64) 32 rfl 97 _ 56 Tryz.underlying32 xmI rfl W0.heap.size _ pre rfl ((hout.later xbZ hbx).later xbZ (xaj _ _)) _ 97 [.int .i64 x.site.cls,.string x.site.name,.int .i64 x.site.at',.slice ad2 x.lz.length cap2] rfl (xp0 _ _ _ (by simp)) rfl x (R':=fun b=>Z b/\b<w.heap.size) ⟨rfl,rfl,rfl,_,rfl,hlR.later xbq (xaj _ _)⟩ (fun b hb=>⟨hb.1,by simp;omega,fun e=>by have:=(hob b e.symm).1;omega⟩) (by simp;omega) (by unfold maxLen;omega) (by rw[hlen];omega) ?_;intro g3 cap3 w3 hout3 hbel3)
     go_roundg (gk-1)
     case measure=>omega
     case rel=>exact⟨j+1,by omega,by go_num,by rw[HC.out,HP.out],hbel.trans ((hbx.mono hzr).trans (((xaj _ _).mono (by simp;omega)).trans hbel3)),by rw[HC.out,HP.out];simpa [hlen] using hout3⟩
  ·obtain rfl:j=xs.length:=by omega
   have HT:Hid (xs.take xs.length=xs):=List.take_of_length_le (qzC _);rw[HT.out] at hout hlen ⊢;have HF:Hid (xc1 xs s c=xrr s c (xqh s c xs)):=(xq1 s c xs).symm;generalize hcr:xqh s c xs=pd at *;obtain⟨pre,dn⟩:=pd;simp only at hout hlen ⊢;clear hcr;have hob:=hout.block;have hbw:Below w.heap.size w wr:=xah hb0 hbel
   cases dn with
   | true=>
    have HE:Hid (xc1 xs s c=pre):=by show _=_;rw[HF.out];rfl
    obtain⟨a9,c9,rfl⟩:=hout.form;go_wp2
    go_ret
    rw[HE.out]
    exact⟨a9,c9,rfl,hout.rowZ xbZ (fun _ h=>h) (fun b hb=>hz b (by omega)),hbw⟩
   | false=>
    have HE:Hid (xc1 xs s c=pre++[⟨s,[⟨c,1⟩]⟩]):=by show _=_;rw[HF.out];rfl
    go_wp2_with (at_builtin;refine xpl xbZ rfl (.tmp 69) (.tmp 75) 32 rfl 97 _ 56 Tryz.underlying32 xmI rfl W0.heap.size _ pre rfl ((hout.later xbZ (xaj _ _)).later xbZ (xaj _ _)) _ 97 [.int .i64 s.cls,.string s.name,.int .i64 s.at',.slice (some ⟨wr.heap.size,0,none⟩) 1 1] rfl (xp0 _ _ _ (by simp)) rfl ⟨s,[⟨c,1⟩]⟩ (R':=fun b=>b=wr.heap.size) ⟨rfl,rfl,rfl,_,rfl,xra wr c _⟩ (fun b hb=>⟨hz b (by omega),by simp;omega,fun e=>by have:=(hob b e.symm).2;omega⟩) (by simp;omega) (by unfold maxLen;omega) (by rw[hlen];omega) ?_;intro g3 cap3 w3 hout3 hbel3)
    go_ret
    rw[HE.out];refine⟨some ⟨g3,0,none⟩,cap3,by simp[hlen],?_,?_⟩
    ·have:=hout3.rowZ xbZ (fun _ h=>h) (fun b hb=>hz b (by omega))
     simpa [hlen] using this
    ·exact (hbw.trans ((xaj _ _).mono hbw.size)).trans (((xaj _ _).mono (by have:=hbw.size;simp;omega)).trans (hbel3.mono (by omega)))
end Go.Proofs.YtapbeiccodnniaaGreat
