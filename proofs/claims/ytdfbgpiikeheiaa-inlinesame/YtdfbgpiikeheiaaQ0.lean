/- A part. -/
import Derived.Test.YtdfbgpiikeheiaaRows
import Derived.WalkKit
import Derived.ProofKit
import Derived.OpenShut
import Derived.Below
import Derived.WalkSpells
import Derived.WalkLawsBesides
import Derived.BigQuiet
import Derived.Deep.RegionHeld3
import Derived.Deep.Light
import Derived.Deep.LoopGhost
import Derived.Deep.DeepCutAuto
import Derived.Laws.CopyOwn
import Derived.Laws.Append
import Derived.Laws.Rows
import Derived.Laws.IdiomCopy
import Derived.Deep.RegionLawGrows
import Derived.Deep.AppendLies
namespace Go.Proofs.Ytdfbgpiikeheiaa
open Go.ChangeShapes Go.WideShapes Go.ChangeAt Go.RowKit
set_option linter.unusedSimpArgs false
set_option linter.unusedVariables false
set_option maxHeartbeats 8000000
theorem qzB{w:World}{b o:Nat}{cs:Array Value}{t:TypeId}{fr:Nat × Nat}(h:w.heap[b]?=some (.cells cs t fr)):w.cell? ⟨b,o,none⟩=cs[o]?:=cell_of_row _ _ _ _ _ _ h
theorem qzC(n:Nat):n<=n:=Nat.le_refl n
theorem qzD{a b c:Nat}(h:a<=b)(k:b<=c):a<=c:=Nat.le_trans h k
theorem qzE{a b c:Nat}(h:a<b)(k:b<=c):a<c:=Nat.lt_of_lt_of_le h k
theorem qzA{w x:World}{a:Addr}{v:Value}(hb:Below w.heap.size w x)(h:w.cell? a=some v):x.cell? a=some v:=cell_later hb h
theorem qzF{α:Type}{l:List α}{i:Nat}{a:α}:l.toArray.setIfInBounds i a=(l.set i a).toArray:=by simp
theorem qzG{α:Type}{a b:α}{l:List α}:(a :: l).set 0 b=b :: l:=rfl
theorem qzH{α:Type}{a b:α}{l:List α}{n:Nat}:(a :: l).set (n+1) b=a :: l.set n b:=rfl
abbrev qzI:=@World.cell?_setCell_far
abbrev qzJ:=@heap_alloc_new
abbrev qzK:=@bodyPost_ret
abbrev qzL:=@Below.refl
abbrev qzM:=@World.cell?_setCell_other
theorem xjm {W w1:World}(hb:Below W.heap.size W w1):(∀ b o,b<W.heap.size->w1.cell? ⟨b,o,none⟩=W.cell? ⟨b,o,none⟩)/\(∀ b o,b<W.heap.size->w1.frozen? ⟨b,o,none⟩=W.frozen? ⟨b,o,none⟩):=
 ⟨fun b o h=>hb.cell (p:=⟨b,o,none⟩) h,fun b o h=>hb.frozen (p:=⟨b,o,none⟩) h⟩
theorem xak (w:World)(a:Obj):Below w.heap.size w (w.alloc a):=(qzL _ _).alloc (qzC _) _
theorem xbP (w:World)(a b:Obj):Below w.heap.size w ((w.alloc a).alloc b):=(xak _ _).alloc (by simp) _
theorem xfL (w:World)(a b c:Obj):Below w.heap.size w (((w.alloc a).alloc b).alloc c):=(xbP _ _ _).alloc (by simp;omega) _
theorem xaf {w W w':World}(h:Below w.heap.size w W)(k:Below W.heap.size W w'):Below w.heap.size w w':=h.trans (k.mono h.size)
theorem xea {w W w':World}{X:Obj}(h:Below w.heap.size w W)(k:Below (W.alloc X).heap.size (W.alloc X) w'):Below w.heap.size w w':=xaf (h.alloc h.size _) k
theorem xal {w:World}{g:Nat}{x:Obj}(h:w.heap[g]?=some x):g<w.heap.size:=(Array.getElem?_eq_some_iff.1 h).1
theorem xae {α:Type}{l:List α}{i:Nat}{x:α}(h:l[i]?=some x):i<l.length:=by
 rcases Nat.lt_or_ge i l.length with h' | h'
 ·exact h'
 ·rw[List.getElem?_eq_none h'] at h;cases h
theorem xan {a b:Int}(h:a=b):Ending.returned (.int .i64 a)=.returned (.int .i64 b):=by rw[h]
theorem xby {a b:Bool}(h:a=b):Ending.returned (.bool a)=.returned (.bool b):=by rw[h]
theorem xaa (w:World)(cs:Array Value)(t:TypeId)(n:Nat)(hn:w.heap.size=n)(j:Nat):(w.alloc (.cells cs t)).cell? ⟨n,j,none⟩=cs[j]?:=by
 subst hn
 exact qzB (qzJ w _)
structure QV where
 k:Int
 n:Int
structure QO where
 cls:Int
 slots:List QV
structure QI where
 op:Int
 a:Int
 b:Int
 c:Int
 name:ByteArray
structure QM where
 name:ByteArray
 args:Int
 temps:Int
 prim:Int
 code:List QI
structure QC where
 name:ByteArray
 super:Int
 slots:Int
 mz:List QM
structure QW where
 cz:List QC
 heap:List QO
 ez:Int
def Keeps (P:Nat->Prop)(w w':World):Prop:=∀ b o v,P b->w.cell? ⟨b,o,none⟩=some v->w'.cell? ⟨b,o,none⟩=some v
theorem Keeps.of_below {P:Nat->Prop}{w w':World}(hb:Below w.heap.size w w'):Keeps P w w':=fun b o v _ h=>qzA hb h
theorem Keeps.of_setCell {P:Nat->Prop}{w:World}{a:Addr}(ha:¬ P a.block)(u:Value):Keeps P w (w.setCell a u):=fun b o v hl h=>by
 rw[qzM _ _ _ _ (by intro e;subst e;exact ha hl)];exact h
theorem Keeps.trans {P:Nat->Prop}{w w' w'':World}(h:Keeps P w w')(k:Keeps P w' w''):Keeps P w w'':=fun b o v hl hc=>k b o v hl (h b o v hl hc)
theorem Keeps.mono {P Q:Nat->Prop}{w w':World}(h:Keeps P w w')(hl:∀ b,Q b->P b):Keeps Q w w':=fun b o v hb hc=>h b o v (hl _ hb) hc
theorem Keeps.refl (P:Nat->Prop)(w:World):Keeps P w w:=fun _ _ _ _ h=>h
theorem Keeps.of_block {P:Nat->Prop}{w w':World}(h:∀ b,P b->b<w.heap.size->w'.heap[b]?=w.heap[b]?):Keeps P w w':=fun b o v hp hc=>by
 have hl:=World.block_lt_of_cell? w ⟨b,o,none⟩ hc;unfold World.cell? at hc ⊢;rw[h b hp hl]
 exact hc
abbrev Lay (α:Type):=(Nat->Prop)->World->(Nat->Option Value)->α->Prop
structure Good {α:Type}(E:Lay α)(sz:Nat):Prop where
 move:∀ {P Q:Nat->Prop} {w w':World} {f f':Nat->Option Value} {x:α},E P w f x->(∀ b,P b->Q b)->Keeps P w w'->(∀ k,k<sz->∀ v,f k=some v->f' k=some v)->E Q w' f' x
 there:∀ {P:Nat->Prop} {w:World} {f:Nat->Option Value} {x:α},E P w f x->∀ k,k<sz->∃ u,f k=some u/\u.oneCell'=true
 pos:0<sz
def RowAt {α:Type}(E:Lay α)(sz:Nat)(P:Nat->Prop)(w:World)(ad:Option Addr)(xs:List α):Prop:=
 ∀ i x,xs[i]?=some x->∃ b o,ad=some ⟨b,o,none⟩/\P b/\E P w (fun k=>w.cell? ⟨b,o+i*sz+k,none⟩) x
def IsRow {α:Type}(E:Lay α)(sz bytes:Nat)(P:Nat->Prop)(w:World)(v:Value)(xs:List α):Prop:=
 ∃ ad cap,v=.slice ad xs.length cap/\xs.length<=cap/\cap<=maxLen/\xs.length*bytes<=140737488351232/\RowAt E sz P w ad xs
theorem RowAt.keep {α:Type}{E:Lay α}{sz:Nat}(G:Good E sz){P Q:Nat->Prop}{w w':World}{ad:Option Addr}{xs:List α}(h:RowAt E sz P w ad xs)(hk:Keeps P w w')(hl:∀ b,P b->Q b):RowAt E sz Q w' ad xs:=fun i x hx=>by
 obtain⟨b,o,e1,e2,e3⟩:=h i x hx
 exact⟨b,o,e1,hl _ e2,G.move e3 hl hk fun k _ v hv=>hk _ _ _ e2 hv⟩
theorem IsRow.keep {α:Type}{E:Lay α}{sz bytes:Nat}(G:Good E sz){P Q:Nat->Prop}{w w':World}{v:Value}{xs:List α}(h:IsRow E sz bytes P w v xs)(hk:Keeps P w w')(hl:∀ b,P b->Q b):IsRow E sz bytes Q w' v xs:=by
 obtain⟨ad,cap,h1,h2,h3,h4,h5⟩:=h
 exact⟨ad,cap,h1,h2,h3,h4,h5.keep G hk hl⟩
def xeu:Lay QI:=fun _ _ f x=>f 0=some (.int .i64 x.op)/\f 1=some (.int .i64 x.a)/\f 2=some (.int .i64 x.b)/\f 3=some (.int .i64 x.c)/\f 4=some (.string x.name)/\x.name.size<=140737488351232
def xpo:Lay QV:=fun _ _ f x=>f 0=some (.int .i64 x.k)/\f 1=some (.int .i64 x.n)
abbrev xaR:=IsRow xeu 5 48
abbrev xaO:=IsRow xpo 2 16
def xfx:Lay QM:=fun P w f x=>f 0=some (.string x.name)/\f 1=some (.int .i64 x.args)/\f 2=some (.int .i64 x.temps)/\f 3=some (.int .i64 x.prim)/\x.name.size<=140737488351232/\∃ v,f 4=some v/\xaR P w v x.code
def xnN:Lay QO:=fun P w f x=>f 0=some (.int .i64 x.cls)/\∃ v,f 1=some v/\xaO P w v x.slots
abbrev xbm:=IsRow xfx 5 64
abbrev xaD:=IsRow xnN 2 32
def xeC:Lay QC:=fun P w f x=>f 0=some (.string x.name)/\f 1=some (.int .i64 x.super)/\f 2=some (.int .i64 x.slots)/\x.name.size<=140737488351232/\∃ v,f 3=some v/\xbm P w v x.mz
abbrev xai:=IsRow xeC 4 56
theorem xeQ {α:Type}{E:Lay α}{sz bytes:Nat}{P:Nat->Prop}{w:World}{v:Value}{xs:List α}(h:IsRow E sz bytes P w v xs):v.oneCell'=true:=by
 obtain⟨ad,cap,rfl,-⟩:=h;rfl
theorem xa2:Good xeu 5 where
 move h _ _ hf:=⟨hf 0 (by omega) _ h.1,hf 1 (by omega) _ h.2.1,hf 2 (by omega) _ h.2.2.1,hf 3 (by omega) _ h.2.2.2.1,hf 4 (by omega) _ h.2.2.2.2.1,h.2.2.2.2.2⟩
 there h k hk:=by
  obtain⟨h0,h1,h2,h3,h4,-⟩:=h
  match k,hk with
  | 0,_=>exact⟨_,h0,rfl⟩
  | 1,_=>exact⟨_,h1,rfl⟩
  | 2,_=>exact⟨_,h2,rfl⟩
  | 3,_=>exact⟨_,h3,rfl⟩
  | 4,_=>exact⟨_,h4,rfl⟩
 pos:=by omega
theorem xa1:Good xpo 2 where
 move h _ _ hf:=⟨hf 0 (by omega) _ h.1,hf 1 (by omega) _ h.2⟩
 there h k hk:=by
  obtain⟨h0,h1⟩:=h
  match k,hk with
  | 0,_=>exact⟨_,h0,rfl⟩
  | 1,_=>exact⟨_,h1,rfl⟩
 pos:=by omega
theorem xbq:Good xfx 5 where
 move h hl hk hf:=by
  obtain⟨h0,h1,h2,h3,h4,v,h5,h6⟩:=h
  exact⟨hf 0 (by omega) _ h0,hf 1 (by omega) _ h1,hf 2 (by omega) _ h2,hf 3 (by omega) _ h3,h4,v,hf 4 (by omega) _ h5,h6.keep xa2 hk hl⟩
 there h k hk:=by
  obtain⟨h0,h1,h2,h3,h4,v,h5,h6⟩:=h
  match k,hk with
  | 0,_=>exact⟨_,h0,rfl⟩
  | 1,_=>exact⟨_,h1,rfl⟩
  | 2,_=>exact⟨_,h2,rfl⟩
  | 3,_=>exact⟨_,h3,rfl⟩
  | 4,_=>exact⟨_,h5,xeQ h6⟩
 pos:=by omega
theorem xaE:Good xnN 2 where
 move h hl hk hf:=by
  obtain⟨h0,v,h5,h6⟩:=h
  exact⟨hf 0 (by omega) _ h0,v,hf 1 (by omega) _ h5,h6.keep xa1 hk hl⟩
 there h k hk:=by
  obtain⟨h0,v,h5,h6⟩:=h
  match k,hk with
  | 0,_=>exact⟨_,h0,rfl⟩
  | 1,_=>exact⟨_,h5,xeQ h6⟩
 pos:=by omega
theorem xaA:Good xeC 4 where
 move h hl hk hf:=by
  obtain⟨h0,h1,h2,h4,v,h5,h6⟩:=h
  exact⟨hf 0 (by omega) _ h0,hf 1 (by omega) _ h1,hf 2 (by omega) _ h2,h4,v,hf 3 (by omega) _ h5,h6.keep xbq hk hl⟩
 there h k hk:=by
  obtain⟨h0,h1,h2,h4,v,h5,h6⟩:=h
  match k,hk with
  | 0,_=>exact⟨_,h0,rfl⟩
  | 1,_=>exact⟨_,h1,rfl⟩
  | 2,_=>exact⟨_,h2,rfl⟩
  | 3,_=>exact⟨_,h5,xeQ h6⟩
 pos:=by omega
section
variable {α:Type} {E:Lay α} {sz bytes:Nat} {P Q:Nat->Prop} {w w':World} {v:Value} {xs:List α}
theorem IsRow.later (h:IsRow E sz bytes P w v xs)(G:Good E sz)(hb:Below w.heap.size w w'):IsRow E sz bytes P w' v xs:=h.keep G (.of_below hb) fun _ h=>h
theorem IsRow.mono (h:IsRow E sz bytes P w v xs)(G:Good E sz)(hl:∀ b,P b->Q b):IsRow E sz bytes Q w v xs:=h.keep G (.refl _ _) hl
end
def Cells {α:Type}(E:Lay α)(sz:Nat)(P:Nat->Prop)(w:World)(cs:List Value)(xs:List α):Prop:=
 cs.length=xs.length*sz/\∀ i x,xs[i]?=some x->E P w (fun k=>cs[i*sz+k]?) x
section
variable {α:Type} {E:Lay α} {sz bytes:Nat} {P Q:Nat->Prop} {w w':World} {cs:List Value} {xs:List α}
theorem Cells.keep (h:Cells E sz P w cs xs)(G:Good E sz)(hk:Keeps P w w')(hl:∀ b,P b->Q b):Cells E sz Q w' cs xs:=
 ⟨h.1,fun i x hx=>G.move (h.2 i x hx) hl hk fun _ _ _ h=>h⟩
theorem Cells.later (h:Cells E sz P w cs xs)(G:Good E sz)(hb:Below w.heap.size w w'):Cells E sz P w' cs xs:=h.keep G (.of_below hb) fun _ h=>h
theorem Cells.nil:Cells E sz P w [] ([]:List α):=⟨by simp,fun i x hx=>by simp at hx⟩
theorem Cells.append {ds:List Value}{ys:List α}(h:Cells E sz P w cs xs)(G:Good E sz)(k:Cells E sz P w ds ys):Cells E sz P w (cs++ds) (xs++ys):=by
 have hl:=h.1;refine⟨by rw[List.length_append,List.length_append,h.1,k.1,Nat.add_mul],fun i x hx=>?_⟩
 by_cases hi:i<xs.length
 ·rw[List.getElem?_append_left hi] at hx;refine G.move (h.2 i x hx) (fun _ h=>h) (.refl _ _) fun k hk v hv=>?_
  have hlt:=xae hv;simp only[List.getElem?_append_left hlt]
  exact hv
 ·rw[List.getElem?_append_right (by omega)] at hx
  refine G.move (k.2 _ x hx) (fun _ h=>h) (.refl _ _) fun k hk v hv=>?_
  obtain⟨d,rfl⟩:∃ d,i=xs.length+d:=⟨i-xs.length,by omega⟩
  simp only[Nat.add_sub_cancel_left] at hv;rw[List.getElem?_append_right (by rw[hl,Nat.add_mul];omega),hl,Nat.add_mul,show xs.length*sz+d*sz+k-xs.length*sz=d*sz+k by omega]
  exact hv
theorem Cells.one {x:α}(G:Good E sz)(h1:cs.length=sz)(h:E P w (fun k=>cs[k]?) x):Cells E sz P w cs [x]:=by
 refine⟨by simpa using h1,fun i y hy=>?_⟩
 have hi:=xae hy;obtain rfl:i=0:=by simpa using hi
 simp at hy
 subst hy;refine G.move h (fun _ h=>h) (.refl _ _) fun k hk v hv=>by simpa using hv
theorem Cells.all (h:Cells E sz P w cs xs)(G:Good E sz):∀ u∈cs,u.oneCell'=true:=by
 intro u hu;obtain⟨j,hj,rfl⟩:=List.mem_iff_getElem.1 hu;have hp:=G.pos;have hl:=h.1
 have h1:j / sz<xs.length:=by
  rw[Nat.div_lt_iff_lt_mul hp];omega
 obtain⟨v,hv,ho⟩:=G.there (h.2 (j / sz) xs[j / sz] (by simp[h1])) (j % sz) (Nat.mod_lt _ hp)
 rw[Nat.div_add_mod'] at hv;rw[List.getElem?_eq_getElem hj] at hv
 cases hv
 exact ho
theorem RowAt.cells {ad:Option Addr}(h:RowAt E sz P w ad xs)(G:Good E sz):∃ cs,Cells E sz P w cs xs/\∀ j u,cs[j]?=some u->∃ a,ad=some a/\w.cell? (a.add j)=some u:=by
 have hp:=G.pos
 cases xs with
 | nil=>exact⟨[],.nil,fun j u hu=>by simp at hu⟩
 | cons y r=>
  obtain⟨b,o,rfl,-⟩:=h 0 y rfl;refine⟨(List.range ((y :: r).length*sz)).map fun j=>(w.cell? ⟨b,o+j,none⟩).getD undef,⟨by simp,fun i x hx=>?_⟩,fun j u hu=>?_⟩
  ·have hi:=xae hx;obtain⟨b',o',e,-,h1⟩:=h i x hx
   cases e
   refine G.move h1 (fun _ h=>h) (.refl _ _) fun k hk v hv=>?_
   have hlt:i*sz+k<(y :: r).length*sz:=by
    have:i*sz+k<(i+1)*sz:=by rw[Nat.add_mul];omega
    exact qzE this (Nat.mul_le_mul_right _ hi)
   rw[List.getElem?_map,List.getElem?_range hlt];rw[Nat.add_assoc] at hv
   simp[hv]
  ·rw[List.getElem?_map] at hu
   have hj:j<(y :: r).length*sz:=by
    rcases Nat.lt_or_ge j ((y :: r).length*sz) with h' | h'
    ·exact h'
    ·rw[List.getElem?_eq_none (by simpa using h')] at hu;simp at hu
   rw[List.getElem?_range hj] at hu;refine⟨_,rfl,?_⟩;rw[Addr.add_lit];have hjs:j / sz<(y :: r).length:=by rw[Nat.div_lt_iff_lt_mul hp];exact hj
   obtain⟨b',o',e,-,h1⟩:=h (j / sz) ((y :: r)[j / sz]) (by simp)
   cases e
   obtain⟨v,hv,-⟩:=G.there h1 (j % sz) (Nat.mod_lt _ hp);rw[Nat.add_assoc,Nat.div_add_mod'] at hv;rw[hv]
   simpa [hv] using hu
theorem Cells.row {g cap:Nat}(h:Cells E sz P w cs xs)(G:Good E sz)(hP:P g){t:TypeId}{fr:Nat × Nat}{cur:Array Value}(hg:w.heap[g]?=some (.cells cur t fr))(hc:cur.toList.take (xs.length*sz)=cs)(h1:xs.length<=cap)(h2:cap<=maxLen)(h3:xs.length*bytes<=140737488351232) :
  IsRow E sz bytes P w (.slice (some ⟨g,0,none⟩) xs.length cap) xs:=by
 refine⟨_,_,rfl,h1,h2,h3,fun i x hx=>⟨g,0,rfl,hP,?_⟩⟩
 refine G.move (h.2 i x hx) (fun _ h=>h) (.refl _ _) fun k hk v hv=>?_
 have hlt:=xae hv;rw[cell_of_row w g _ _ _ _ hg,Nat.zero_add];subst hc;rw[List.getElem?_take] at hv
 split at hv
 ·simpa using hv
 ·cases hv
end
theorem xeb {P:Program}(w:World)(dT sT ty elem:TypeId)(sz g len dCap:Nat)(sp:Option Addr)(sCap:Nat)(cur:Array Value)(t:TypeId)(cs:List Value)
  (hu:P.underlying dT=some (.slice elem)) (hs:(P.info? elem).map (·.size)=some sz) (hg:w.heap[g]?=some (.cells cur t (0,0))) (hn:cs.length=len*sz)
  (hsrc:∀ j v,cs[j]?=some v->∃ a,sp=some a/\w.cell? (a.add j)=some v) (hcur:cur.size=len*sz) (h1:∀ v∈cs,v.oneCell'=true) :
  ∃ w',(Builtin.copy_ #[dT,sT] ty #[.slice (some ⟨g,0,none⟩) len dCap,.slice sp len sCap]).run P w=.ok (goInt len) w'/\w'.heap[g]?=some (.cells cs.toArray t (0,0))/\∀ B w0,Below B w0 w->B<=g->Below B w0 w':=by
 cases hq:P.info? elem with
 | none=>simp[hq] at hs
 | some i=>
  have hi:i.size=sz:=by simpa [hq] using hs
  have hst:=run_storeCells_at P g 0 t cs 0 cur w hg (by simp;omega) h1
  have hm:Nat.min len len=len:=Nat.min_self len
  have hfc:(Builtin.firstCells sz len (.slice sp len sCap)).run P w=.ok cs.toArray w:=by
   cases sp with
   | some a=>exact run_firstCells_some w sz len a len sCap cs hn (fun j v hv=>by obtain⟨a',e,h⟩:=hsrc j v hv;cases e;exact h)
   | none=>
    have:cs=[]:=by
     cases cs with
     | nil=>rfl
     | cons c r=>obtain⟨a',e,_⟩:=hsrc 0 c rfl;cases e
    rw[this]
    exact run_firstCells_none w sz len len sCap
  refine⟨w.setRow g cs.toArray,?_,setRow_heap w g cur _ t _ hg,fun B w0 hb hB=>below_setRow hb hB _⟩
  have e:(cur.toList.take (0+0)++cs++cur.toList.drop (0+0+cs.length)).toArray=cs.toArray:=by
   have:cur.toList.drop cs.length=[]:=by rw[List.drop_eq_nil_iff];simp;omega
   simp[this]
  rw[e] at hst
  simp[Builtin.copy_,run_underlying hu,Builtin.lenOf,sizeOf,typeInfo,hq,hi,hm,hfc,hst]
theorem xa8 {P:Program}{t:TypeId}{z:Value}{n m:Nat}(h:(P.info? t).map (fun i=>(i.zero,i.size,i.bytes))=some (some z,n,m)):∃ i,P.info? t=some i/\i.zero=some z/\i.size=n/\i.bytes=m:=by
 cases hq:P.info? t with
 | none=>simp[hq] at h
 | some i=>
  simp[hq] at h
  exact⟨i,rfl,h.1,h.2.1,h.2.2⟩
abbrev zI:Value:=.agg #[.int .i64 0,.int .i64 0,.int .i64 0,.int .i64 0,.string ⟨#[]⟩]
abbrev zM:Value:=.agg #[.string ⟨#[]⟩,.int .i64 0,.int .i64 0,.int .i64 0,.slice none 0 0]
abbrev zC:Value:=.agg #[.string ⟨#[]⟩,.int .i64 0,.int .i64 0,.slice none 0 0]
theorem xnL:(Try.prog.info? 59).map (fun i=>(i.zero,i.size,i.bytes))=some (some zI,5,48):=by kernel_rfl
theorem xsk:(Try.prog.info? 55).map (fun i=>(i.zero,i.size,i.bytes))=some (some zM,5,64):=by kernel_rfl
theorem xr8:(Try.prog.info? 52).map (fun i=>(i.zero,i.size,i.bytes))=some (some zC,4,56):=by kernel_rfl
theorem xcg:(Try.prog.info? 27).map (fun i=>(i.zero,i.size,i.bytes))=some (some (.agg #[.int .i64 0,.int .i64 0]),2,16):=by kernel_rfl
theorem xr7:(Try.prog.info? 82).map (fun i=>(i.zero,i.size,i.bytes))=some (some (.agg #[.int .i64 0,.slice none 0 0]),2,32):=by kernel_rfl
theorem xsz:(Try.prog.info? 59).map (·.size)=some 5:=by kernel_rfl
theorem xpW:(Try.prog.info? 27).map (·.size)=some 2:=by kernel_rfl
theorem xgp {T e:TypeId}{zs:Array Value}{sz by':Nat}(hu:Try.prog.underlying T=some (.slice e))(hI:(Try.prog.info? e).map (fun i=>(i.zero,i.size,i.bytes))=some (some (.agg zs),sz,by'))(hp:0<by')(n:Nat)(hb:n*by'<=140737488351232)(hc:(Value.agg zs).cells=zs)(w:World):(Instr.makeSlice T (.int .i64 (n:Int)) (.int .i64 (n:Int))).run Try.prog w=.ok (.slice (some ⟨w.heap.size,0,none⟩) n n) (w.alloc (.cells (madeCells zs (n*sz)) e)):=by
 obtain⟨i0,hi,hz0,hz1,hz2⟩:=xa8 hI;have hn:n<=n*by':=Nat.le_mul_of_pos_right _ hp
 have:=run_make (P:=Try.prog) w T e i0 _ hu hi hz0 .i64 .i64 n n (by omega) (by omega) (by rw[hz2];rw[Nat.mul_comm] at *;omega) (by omega)
 rw[this,hz1,hc]
 simp
abbrev xiQ (T e:TypeId)(zs:Array Value)(sz n:Nat):Prop:=∀ w:World,(Instr.makeSlice T (.int .i64 (n:Int)) (.int .i64 (n:Int))).run Try.prog w=.ok (.slice (some ⟨w.heap.size,0,none⟩) n n) (w.alloc (.cells (madeCells zs (n*sz)) e))
theorem xnh (n:Nat)(hb:n*48<=140737488351232):xiQ 53 59 #[.int .i64 0,.int .i64 0,.int .i64 0,.int .i64 0,.string ⟨#[]⟩] 5 n:=fun w=>xgp Try.underlying53 xnL (by omega) n hb rfl w
theorem xlI (n:Nat)(hb:n*64<=140737488351232):xiQ 50 55 #[.string ⟨#[]⟩,.int .i64 0,.int .i64 0,.int .i64 0,.slice none 0 0] 5 n:=fun w=>xgp Try.underlying50 xsk (by omega) n hb rfl w
theorem xix (n:Nat)(hb:n*56<=140737488351232):xiQ 22 52 #[.string ⟨#[]⟩,.int .i64 0,.int .i64 0,.slice none 0 0] 4 n:=fun w=>xgp Try.underlying22 xr8 (by omega) n hb rfl w
theorem xcH (n:Nat)(hb:n*16<=140737488351232):xiQ 28 27 #[.int .i64 0,.int .i64 0] 2 n:=fun w=>xgp Try.underlying28 xcg (by omega) n hb rfl w
theorem xmn (n:Nat)(hb:n*32<=140737488351232):xiQ 23 82 #[.int .i64 0,.slice none 0 0] 2 n:=fun w=>xgp Try.underlying23 xr7 (by omega) n hb rfl w
abbrev xrP (w w':World):Nat->Prop:=fun b=>w.heap.size<=b/\b<w'.heap.size
theorem xb5 {w:World}{a:Addr}{v:Value}(h:w.cell? a=some v)(u:Value):(w.setCell a u).cell? a=some u:=by
 rw[World.cell?_setCell_same _ _ _ h]
theorem xa6 (w:World)(a:Addr)(v:Value):(w.setCell a v).heap.size=w.heap.size:=by
 simp[World.setCell]
theorem xaC {P:Nat->Prop}{w w0:World}(h:Keeps P w0 w){b o:Nat}(hb:¬ P b)(u:Value):Keeps P w0 (w.setCell ⟨b,o,none⟩ u):=h.trans (Keeps.of_setCell hb u)
abbrev MV (x:QM)(cv:Value):Value:=.agg #[.string x.name,.int .i64 x.args,.int .i64 x.temps,.int .i64 x.prim,cv]
def OwnSt {α:Type}(E:Lay α)(sz:Nat)(t:TypeId)(w:World)(B:Nat)(xs:List α)(j:Nat):Prop:=
 (∃ cur:Array Value,w.heap[B]?=some (.cells cur t (0,0))/\cur.size=xs.length*sz)/\∀ i x,i<j->xs[i]?=some x->E (fun b=>B<b/\b<w.heap.size) w (fun k=>w.cell? ⟨B,i*sz+k,none⟩) x
theorem xag {w:World}{B o:Nat}{cur:Array Value}{t:TypeId}{fr:Nat × Nat}(h:w.heap[B]?=some (.cells cur t fr))(v:Value):(w.setCell ⟨B,o,none⟩ v).heap[B]?=some (.cells (cur.setIfInBounds o v) t fr):=by
 rw[setCell_eq_setRow w B o cur t fr v h]
 exact setRow_heap w B cur _ t fr h
theorem xac {w:World}{B o g:Nat}(hg:g≠B)(v:Value):(w.setCell ⟨B,o,none⟩ v).heap[g]?=w.heap[g]?:=Below.heap_setCell _ _ _ _ hg
theorem xcm {B n:Nat}{t:TypeId}:∀ (vs:List Value) (o:Nat) (w:World),(∃ cur:Array Value,w.heap[B]?=some (.cells cur t (0,0))/\cur.size=n)->∃ cur:Array Value,(w.setCells B o vs).heap[B]?=some (.cells cur t (0,0))/\cur.size=n
 | [],_,_,h=>h
 | v :: r,o,w,h=>by
  obtain⟨cur,h1,h2⟩:=h
  exact xcm r (o+1) _ ⟨_,xag h1 v,by simpa using h2⟩
theorem xa0 {B g:Nat}(hg:g≠B):∀ (vs:List Value) (o:Nat) (w:World),(w.setCells B o vs).heap[g]?=w.heap[g]?
 | [],_,_=>rfl
 | v :: r,o,w=>(xa0 hg r (o+1) _).trans (xac hg v)
theorem xbJ {B:Nat}:∀ (vs:List Value) (o:Nat) (w:World),(w.setCells B o vs).heap.size=w.heap.size
 | [],_,_=>rfl
 | v :: r,o,w=>(xbJ r (o+1) _).trans (xa6 _ _ _)
section
variable {α:Type} {E:Lay α} {sz:Nat} {t:TypeId} {w w':World} {B:Nat} {xs:List α} {j:Nat}
theorem OwnSt.later (h:OwnSt E sz t w B xs j)(G:Good E sz)(hb:Below w.heap.size w w'):OwnSt E sz t w' B xs j:=by
 obtain⟨⟨cur,h1,h2⟩,h3⟩:=h;refine⟨⟨cur,by rw[hb.block _ (xal h1)];exact h1,h2⟩,fun i x hi hx=>?_⟩
 exact G.move (h3 i x hi hx) (fun b h=>⟨h.1,qzE h.2 hb.size⟩) (.of_below hb) fun k _ v hv=>qzA hb hv
theorem OwnSt.start (xs:List α)(c:Array Value)(hc:c.size=xs.length*sz):OwnSt E sz t (w.alloc (.cells c t)) w.heap.size xs 0:=
 ⟨⟨c,qzJ w _,hc⟩,fun i x hi _=>by omega⟩
theorem OwnSt.step {x:α}{vs:List Value}(h:OwnSt E sz t w B xs j)(G:Good E sz)(hx:xs[j]?=some x)(hl:vs.length=sz)(hE:E (fun b=>B<b/\b<w.heap.size) w (fun k=>vs[k]?) x):OwnSt E sz t (w.setCells B (j*sz) vs) B xs (j+1):=by
 obtain⟨⟨cur,h1,h2⟩,h3⟩:=h;have hj:=xae hx;have hK:Keeps (fun b=>B<b/\b<w.heap.size) w (w.setCells B (j*sz) vs):=Keeps.of_block fun b hb _=>xa0 (by omega) _ _ _
 refine⟨xcm vs _ w ⟨cur,h1,h2⟩,fun i y hi hy=>?_⟩
 have hz:=xbJ (B:=B) vs (j*sz) w
 have hin:j*sz+sz<=xs.length*sz:=by
  have:=Nat.mul_le_mul_right sz (show j+1<=xs.length by omega)
  rw[Nat.add_mul] at this;omega
 by_cases hij:i=j
 ·subst hij;rw[hx] at hy
  cases hy
  refine G.move hE (fun b h=>⟨h.1,by rw[hz];exact h.2⟩) hK fun k hk v hv=>?_
  have:=World.cell?_setCells_in B vs (i*sz) w (fun q hq=>by rw[qzB h1];simp;omega) k (by omega)
  rw[this];rw[List.getElem?_eq_getElem (by omega)] at hv
  exact hv
 ·refine G.move (h3 i y (by omega) hy) (fun b h=>⟨h.1,by rw[hz];exact h.2⟩) hK fun k hk v hv=>?_
  rw[World.cell?_setCells_out B vs (j*sz) w _ (fun _ _=>Or.inl ?_)]
  ·exact hv
  ·have:=Nat.mul_le_mul_right sz (show i+1<=j by omega)
   rw[Nat.add_mul] at this
   simp
   omega
theorem OwnSt.cells (h:OwnSt E sz t w B xs xs.length)(G:Good E sz):∃ cur:Array Value,w.heap[B]?=some (.cells cur t (0,0))/\Cells E sz (fun b=>B<b/\b<w.heap.size) w cur.toList xs:=by
 obtain⟨⟨cur,h1,h2⟩,h3⟩:=h;refine⟨cur,h1,by simpa using h2,fun i x hx=>?_⟩
 exact G.move (h3 i x (xae hx) hx) (fun b h=>h) (.refl _ _) fun k _ v hv=>by rw[qzB h1] at hv;simpa using hv
end
abbrev WV (cv hv:Value)(e:Int):Value:=.agg #[cv,hv,.int .i64 e]
def OwnK (w:World)(B i lo hi:Nat)(x:QC):Prop:=
 w.cell? ⟨B,i*4,none⟩=some (.string x.name)/\w.cell? ⟨B,i*4+1,none⟩=some (.int .i64 x.super)/\w.cell? ⟨B,i*4+2,none⟩=some (.int .i64 x.slots)/\x.name.size<=140737488351232/\
  ∃ g,w.cell? ⟨B,i*4+3,none⟩=some (.slice (some ⟨g,0,none⟩) x.mz.length x.mz.length)/\lo<=g/\g<hi/\x.mz.length*64<=140737488351232/\
   ∃ cur:Array Value,w.heap[g]?=some (.cells cur 55 (0,0))/\Cells xfx 5 (fun b=>g<b/\b<hi) w cur.toList x.mz
def OwnC (w:World)(B:Nat)(xs:List QC)(s:Nat->Nat)(j:Nat):Prop:=
 (∃ cur:Array Value,w.heap[B]?=some (.cells cur 52 (0,0))/\cur.size=xs.length*4)/\B<s 0/\(∀ i,i<j->s i<=s (i+1))/\s j<=w.heap.size/\
  ∀ i x,i<j->xs[i]?=some x->OwnK w B i (s i) (s (i+1)) x
theorem OwnK.later {w w':World}{B i lo hi:Nat}{x:QC}(h:OwnK w B i lo hi x)(hb:Below w.heap.size w w'):OwnK w' B i lo hi x:=by
 obtain⟨h0,h1,h2,h3,g,h4,h5,h6,h7,cur,h8,h9⟩:=h
 exact⟨qzA hb h0,qzA hb h1,qzA hb h2,h3,g,qzA hb h4,h5,h6,h7,cur,by rw[hb.block _ (xal h8)];exact h8,h9.later xbq hb⟩
theorem OwnC.later {w w':World}{B:Nat}{xs:List QC}{s:Nat->Nat}{j:Nat}(h:OwnC w B xs s j)(hb:Below w.heap.size w w'):OwnC w' B xs s j:=by
 obtain⟨⟨cur,h1,h2⟩,h3,h4,h5,h6⟩:=h
 exact⟨⟨cur,by rw[hb.block _ (xal h1)];exact h1,h2⟩,h3,h4,qzD h5 hb.size,fun i x hi hx=>(h6 i x hi hx).later hb⟩
theorem OwnC.step {w:World}{B:Nat}{xs:List QC}{s:Nat->Nat}{j g:Nat}{x:QC}(h:OwnC w B xs s j)(hx:xs[j]?=some x)(hn:x.name.size<=140737488351232)(hg:s j<=g)(hM:OwnSt xfx 5 55 w g x.mz x.mz.length)(hby:x.mz.length*64<=140737488351232) :
  ∃ s',OwnC (w.setCells B (j*4) [.string x.name,.int .i64 x.super,.int .i64 x.slots,.slice (some ⟨g,0,none⟩) x.mz.length x.mz.length]) B xs s' (j+1):=by
 obtain⟨⟨cur,h1,h2⟩,h3,h4,h5,h6⟩:=h;have hj:=xae hx;obtain⟨curg,hc1,hc2⟩:=hM.cells xbq;have hgl:=xal hc1
 have hsm:∀ i,i<=j->s 0<=s i:=fun i=>by
  induction i with
  | zero=>intro _;exact qzC _
  | succ n ih=>intro hi;exact qzD (ih (by omega)) (h4 n (by omega))
 have hBj:=hsm j (qzC _);have hnn:¬ (j+1<=j):=by omega
 refine⟨fun i=>if i<=j then s i else w.heap.size,xcm _ _ w ⟨cur,h1,h2⟩,by simpa using h3,?_,?_,?_⟩
 ·intro i hi
  by_cases hij:i=j
  ·subst hij;simp[hnn];exact h5
  ·have h1:i<=j:=by omega
   have h2:i+1<=j:=by omega
   simp only[h1,h2,if_true]
   exact h4 i (by omega)
 ·simp[xbJ,hnn]
 ·intro i y hi hy;have hin:j*4+4<=xs.length*4:=by omega
  by_cases hij:i=j
  ·subst hij;rw[hx] at hy
   cases hy
   have hc:=fun k (hk:k<4)=>World.cell?_setCells_in B [.string x.name,.int .i64 x.super,.int .i64 x.slots,.slice (some ⟨g,0,none⟩) x.mz.length x.mz.length] (i*4) w (fun q hq=>by rw[qzB h1];simp at hq ⊢;omega) k hk
   refine⟨hc 0 (by omega),hc 1 (by omega),hc 2 (by omega),hn,g,hc 3 (by omega),by simpa using hg,by simpa [hnn] using hgl,hby,curg,?_,?_⟩
   ·rw[xa0 (by omega)];exact hc1
   ·refine hc2.keep xbq (Keeps.of_block fun b hb _=>xa0 (by have:=hb.1;omega) _ _ _) fun b hb=>⟨hb.1,by simpa [hnn] using hb.2⟩
  ·obtain⟨e0,e1,e2,e3,g',e4,e5,e6,e7,cur',e8,e9⟩:=h6 i y (by omega) hy
   have hi1:i<=j:=by omega
   have hi2:i+1<=j:=by omega
   have hs0:=hsm i hi1;simp only[hi1,hi2,if_true];have ho:=fun k (hk:k<4)=>World.cell?_setCells_out B [.string x.name,.int .i64 x.super,.int .i64 x.slots,.slice (some ⟨g,0,none⟩) x.mz.length x.mz.length] (j*4) w ⟨B,i*4+k,none⟩ (fun _ _=>Or.inl (by simp;omega))
   refine⟨(ho 0 (by omega)).trans e0,(ho 1 (by omega)).trans e1,(ho 2 (by omega)).trans e2,e3,g',(ho 3 (by omega)).trans e4,e5,e6,e7,cur',?_,?_⟩
   ·rw[xa0 (by omega)];exact e8
   ·exact e9.keep xbq (Keeps.of_block fun b hb _=>xa0 (by have:=hb.1;omega) _ _ _) fun b hb=>hb
theorem OwnC.mono {w:World}{B:Nat}{xs:List QC}{s:Nat->Nat}{n:Nat}(h:OwnC w B xs s n):∀ i j,i<=j->j<=n->s i<=s j:=fun i j hij hj=>by
 obtain⟨-,-,h4,-,-⟩:=h;obtain⟨d,rfl⟩:∃ d,j=i+d:=⟨j-i,by omega⟩
 clear hij
 induction d with
 | zero=>exact qzC _
 | succ d ih=>exact qzD (ih (by omega)) (h4 (i+d) (by omega))
theorem OwnK.meths {w:World}{B i lo hi:Nat}{x:QC}(h:OwnK w B i lo hi x):∃ g,w.cell? ⟨B,i*4+3,none⟩=some (.slice (some ⟨g,0,none⟩) x.mz.length x.mz.length)/\lo<=g/\xbm (fun b=>lo<=b/\b<hi) w (.slice (some ⟨g,0,none⟩) x.mz.length x.mz.length) x.mz:=by
 obtain⟨h0,h1,h2,h3,g,h4,h5,h6,h7,cur,h8,h9⟩:=h;refine⟨g,h4,h5,Cells.row (h9.keep xbq (.refl _ _) fun b hb=>⟨by have:=hb.1;omega,hb.2⟩) xbq ⟨h5,h6⟩ h8 ?_ (qzC _) (by unfold maxLen;omega) h7⟩
 rw[List.take_of_length_le];rw[h9.1]
 exact qzC _
theorem OwnC.start (w:World)(xs:List QC)(c:Array Value)(hc:c.size=xs.length*4):OwnC (w.alloc (.cells c 52)) w.heap.size xs (fun _=>w.heap.size+1) 0:=
 ⟨⟨c,qzJ w _,hc⟩,by simp,fun i hi=>by omega,by simp,fun i x hi _=>by omega⟩
theorem OwnK.set {w:World}{B i lo hi d:Nat}{x:QC}(h:OwnK w B i lo hi x)(hd:d≠B)(hh:hi<=d)(o:Nat)(v:Value):OwnK (w.setCell ⟨d,o,none⟩ v) B i lo hi x:=by
 obtain⟨h0,h1,h2,h3,g,h4,h5,h6,h7,cur,h8,h9⟩:=h;have k:=fun (o':Nat)=>qzI w ⟨d,o,none⟩ ⟨B,o',none⟩ v hd
 refine⟨(k _).trans h0,(k _).trans h1,(k _).trans h2,h3,g,(k _).trans h4,h5,h6,h7,cur,by rw[xac (by omega)];exact h8,h9.keep xbq (Keeps.of_setCell (fun hp=>?_) _) fun _ h=>h⟩
 have:=hp.2
 simp at this
 omega
theorem OwnC.set {w:World}{B d:Nat}{xs:List QC}{s:Nat->Nat}{j:Nat}(h:OwnC w B xs s j)(hd:s j<=d)(o:Nat)(v:Value):OwnC (w.setCell ⟨d,o,none⟩ v) B xs s j:=by
 have hm:=h.mono;obtain⟨⟨cur,h1,h2⟩,h3,h4,h5,h6⟩:=h;have h0:=hm 0 j (by omega) (qzC _)
 refine⟨⟨cur,by rw[xac (by omega)];exact h1,h2⟩,h3,h4,by simpa using h5,fun i x hi hx=>(h6 i x hi hx).set (by omega) ?_ o v⟩
 have:=hm (i+1) j (by omega) (qzC _)
 omega
theorem OwnC.setLow {w:World}{B d:Nat}{xs:List QC}{s:Nat->Nat}{j:Nat}(h:OwnC w B xs s j)(hd:d<B)(o:Nat)(v:Value):OwnC (w.setCell ⟨d,o,none⟩ v) B xs s j:=by
 have hm:=h.mono;obtain⟨⟨cur,h1,h2⟩,h3,h4,h5,h6⟩:=h;refine⟨⟨cur,by rw[xac (by omega)];exact h1,h2⟩,h3,h4,by simpa using h5,fun i x hi hx=>?_⟩
 have h0:=hm 0 i (by omega) (by omega)
 obtain⟨h0,h1,h2,h3,g,h4,h5,h6,h7,cur,h8,h9⟩:=h6 i x hi hx;have k:=fun (o':Nat)=>qzI w ⟨d,o,none⟩ ⟨B,o',none⟩ v (by simp;omega)
 refine⟨(k _).trans h0,(k _).trans h1,(k _).trans h2,h3,g,(k _).trans h4,h5,h6,h7,cur,by rw[xac (by omega)];exact h8,h9.keep xbq (Keeps.of_setCell (fun hp=>?_) _) fun _ h=>h⟩
 have:=hp.1
 simp at this
 omega
theorem OwnSt.set {α:Type}{E:Lay α}{sz:Nat}{t:TypeId}{w:World}{B d:Nat}{xs:List α}{j:Nat}(h:OwnSt E sz t w B xs j)(G:Good E sz)(hd:d<B)(o:Nat)(v:Value):OwnSt E sz t (w.setCell ⟨d,o,none⟩ v) B xs j:=by
 obtain⟨⟨cur,h1,h2⟩,h3⟩:=h;refine⟨⟨cur,by rw[xac (by omega)];exact h1,h2⟩,fun i x hi hx=>G.move (h3 i x hi hx) (fun b h=>by simpa using h) (Keeps.of_setCell (fun hp=>?_) _) fun k _ u hu=>?_⟩
 ·have:=hp.1;simp at this;omega
 ·rw[qzI _ _ _ _ (by simp;omega)];exact hu
def xgI (n:Nat)(c:Int):Bool:=decide (0<=c/\c<n)
theorem xhD (n:Nat)(c:Int)(ad:Option Addr)(cap:Nat)(ah:Option Addr)(nh ch:Nat)(ep:Int)(w:World):Calls Try.prog 94 #[WV (.slice ad n cap) (.slice ah nh ch) ep,.int .i64 c] w fun e w'=>e=.returned (.bool (xgI n c))/\Below w.heap.size w w':=by
 by_cases h0:0<=c
 ·go_enter Try.func94,Try.ntmps94;go_wp2
  go_ret
  exact⟨xby (by simp[xgI,h0]),xak _ _⟩
 ·have h0':c<0:=by omega
  have hd:decide (0<=c)=false:=by simpa using h0
  go_enter Try.func94,Try.ntmps94;go_wp2
  go_ret
  exact⟨xby (by simp[xgI];omega),xak _ _⟩
def xcP {α:Type}(p:α->Bool)(xs:List α):Int:=((xs.findIdx? p).map Int.ofNat).getD (-1)
theorem xfG {α:Type}{p:α->Bool}{xs:List α}{j:Nat}{x:α}(hx:xs[j]?=some x)(hp:p x=true)(h:∀ i y,i<j->xs[i]?=some y->p y=false):xcP p xs=(j:Int):=by
 have:xs.findIdx? p=some j:=by
  rw[List.findIdx?_eq_some_iff_getElem];have hj:=xae hx;refine⟨hj,?_,fun i hi=>?_⟩
  ·rw[List.getElem?_eq_getElem hj] at hx;cases hx;exact hp
  ·have:=h i xs[i] hi (by simp)
   simp[this]
 simp[xcP,this]
theorem xdW {α:Type}{p:α->Bool}{xs:List α}(h:∀ (i:Nat) y,xs[i]?=some y->p y=false):xcP p xs=-1:=by
 have:xs.findIdx? p=none:=by
  rw[List.findIdx?_eq_none_iff];intro y hy;obtain⟨i,hi,rfl⟩:=List.mem_iff_getElem.1 hy
  exact h i _ (by simp)
 simp[xcP,this]
def eqN (a b:ByteArray):Bool:=a.toList == b.toList
def gtN (a b:ByteArray):Bool:=!Op.bytesLess a.toList b.toList && !a.toList == b.toList
theorem xjx {P:Nat->Prop}(cap':Value)(p:QM->Bool)(xs:List QM)(v:Value)(w:World)(hh:xbm P w v xs)
  (hF:∀ (x:QM) (a:Option Addr) (n c:Nat) (w':World),Below w.heap.size w w'->Calls Try.prog 96 #[MV x (.slice a n c),cap'] w' fun e w''=>e=.returned (.bool (p x))/\Below w'.heap.size w' w'') :
  Calls Try.prog 95 #[v,.func (.func 96) #[] #[cap']] w fun e w'=>e=.returned (.int .i64 (xcP p xs))/\Below w.heap.size w w':=by
 obtain⟨ad,cap,rfl,hl,hcap,hby,hrow⟩:=hh;go_enter Try.func95,Try.ntmps95;go_wp2
 go_loopg [8] xs.length (fun g c wr=>∃ j:Nat,j+g=xs.length/\c=.int .i64 j/\Below w.heap.size w wr/\∀ i y,i<j->xs[i]?=some y->p y=false)
 case atStart=>exact⟨0,by omega,rfl,qzL _ _,fun i y hi=>by omega⟩
 case round=>
  obtain⟨j,hj,rfl,hbel,hno⟩:=hrel;have HN:Hid (∀ i y,i<j->xs[i]?=some y->p y=false):=hno;clear hno
  by_cases hlt:j<xs.length
  ·obtain⟨b,o,rfl,-,hv0,hv1,hv2,hv3,hsz,sv,hv4,hsl⟩:=hrow j xs[j] (by simp[hlt])
   have hxj:Hid (xs[j]?=some xs[j]):=by show _=_;simp[hlt]
   generalize xs[j]=x at *;simp only[Nat.add_zero] at hv0;have u0:=qzA hbel hv0;have u1:=qzA hbel hv1;have u2:=qzA hbel hv2;have u3:=qzA hbel hv3;have u4:=qzA hbel hv4;obtain⟨ad2,cap2,rfl,-,-,-,-⟩:=id hsl;clear hv0 hv1 hv2 hv3 hv4 hsl hrow;have hj1:(j:Int)<(xs.length:Int):=by omega
   have hj0:(0:Int)<=(j:Int):=by omega
   go_wp2_with fail;refine (hF x ad2 x.code.length cap2 _ hbel).mono ?_;rintro e w1 ⟨rfl,hb⟩
   by_cases hp:p x=true
   ·go_wp2
    go_ret
    exact⟨xan (xfG hxj.out hp HN.out).symm,xaf hbel hb⟩
   ·have hp':p x=false:=by simpa using hp
    clear hp;go_wp2
    go_roundg (gk-1)
    case measure=>omega
    case rel=>
     refine⟨j+1,by omega,by go_num,xaf hbel hb,fun i y hi hy=>?_⟩
     by_cases hij:i=j
     ·subst hij;rw[hxj.out] at hy;cases hy;exact hp'
     ·exact HN.out i y (by omega) hy
  ·obtain rfl:j=xs.length:=by omega
   go_wp2
   go_ret
   exact⟨xan (xdW fun i y hy=>HN.out i y (xae hy) hy).symm,hbel⟩
theorem xlb (x:QM)(a:Option Addr)(n c b:Nat)(name:ByteArray)(w:World)(hc:w.cell? ⟨b,0,none⟩=some (.string name)):Calls Try.prog 96 #[MV x (.slice a n c),.pointer (some ⟨b,0,none⟩)] w fun e w'=>e=.returned (.bool (eqN x.name name))/\Below w.heap.size w w':=by
 have k:=fun y=>qzA (xak w y) hc
 go_enter Try.func96,Try.ntmps96;go_wp2
 go_ret
 exact⟨xby rfl,xak _ _⟩
theorem hmf (fn:Fn)(first cap:Array Value)(w:World):(Instr.makeFunc fn first cap).run Try.prog w=.ok (.func fn first cap) w:=rfl
def xcw (xs:List QM)(name:ByteArray):Int:=xcP (fun m=>eqN m.name name) xs
theorem xiP {P:Nat->Prop}(xs:List QM)(v:Value)(name:ByteArray)(w:World)(hh:xbm P w v xs):Calls Try.prog 74 #[v,.string name] w fun e w'=>e=.returned (.int .i64 (xcw xs name))/\Below w.heap.size w w':=by
 have hm:=hmf;go_enter Try.func74,Try.ntmps74;go_wp2_with fail;refine (xjx _ (fun m=>eqN m.name name) xs v _ (hh.later xbq (xak _ _)) fun x a n c w' hb=>xlb x a n c _ name w' (qzA hb (by rw[xaa _ _ _ _ rfl];rfl))).mono ?_
 rintro e w1 ⟨rfl,hb⟩;go_wp2
 go_ret
 exact⟨rfl,xea (qzL _ _) hb⟩
def xnK (xs:List QM)(name:ByteArray):Int:=if xcP (fun m=>gtN m.name name) xs<0 then xs.length else xcP (fun m=>gtN m.name name) xs
structure QS where
 cls:Int
 name:ByteArray
 at':Int
structure QL where
 cls:Int
 fz:Int
structure QT where
 site:QS
 lz:List QL
def xrR:Lay QS:=fun _ _ f x=>f 0=some (.int .i64 x.cls)/\f 1=some (.string x.name)/\f 2=some (.int .i64 x.at')
abbrev xsg:=IsRow xrR 3 0
theorem xsL:Good xrR 3 where
 move h _ _ hf:=⟨hf 0 (by omega) _ h.1,hf 1 (by omega) _ h.2.1,hf 2 (by omega) _ h.2.2⟩
 there h k hk:=by
  obtain⟨h0,h1,h2⟩:=h
  match k,hk with
  | 0,_=>exact⟨_,h0,rfl⟩
  | 1,_=>exact⟨_,h1,rfl⟩
  | 2,_=>exact⟨_,h2,rfl⟩
 pos:=by omega
abbrev SV (x:QS):Value:=.agg #[.int .i64 x.cls,.string x.name,.int .i64 x.at']
structure SiteAt (w:World)(b:Nat)(x:QS):Prop where
 c0:w.cell? ⟨b,0,none⟩=some (.int .i64 x.cls)
 c1:w.cell? ⟨b,1,none⟩=some (.string x.name)
 c2:w.cell? ⟨b,2,none⟩=some (.int .i64 x.at')
theorem xgt (w:World)(x:QS)(t:TypeId):SiteAt (w.alloc (.cells #[.int .i64 x.cls,.string x.name,.int .i64 x.at'] t)) w.heap.size x:=⟨by rw[xaa _ _ _ _ rfl];rfl,by rw[xaa _ _ _ _ rfl];rfl,by rw[xaa _ _ _ _ rfl];rfl⟩
theorem xpI (a b:ByteArray):eqN a b=true ↔ a=b:=by
 unfold eqN;rw[ByteArray.toList_eq,ByteArray.toList_eq];obtain⟨⟨x⟩⟩:=a;obtain⟨⟨y⟩⟩:=b
 simp
def xbx (xs:List QC)(c:Int):Option QC:=if 0<=c then xs[c.toNat]? else none
theorem xeN {xs:List QC}{k:Nat}:xbx xs (k:Int)=xs[k]?:=by simp[xbx]
theorem xa7 {xs:List QC}{c:Int}{x:QC}(h:xbx xs c=some x):∃ k:Nat,c=(k:Int)/\xs[k]?=some x:=by
 unfold xbx at h
 split at h
 ·exact⟨c.toNat,by omega,h⟩
 ·cases h
theorem xdc {xs:List QC}{c:Int}:xgI xs.length c=(xbx xs c).isSome:=by
 unfold xgI xbx
 by_cases h:0<=c
 ·rw[Bool.eq_iff_iff];simp[h]
 ·simp[h]
def upE {σ:Type}(vis:σ->Nat->QC->σ × Bool)(xs:List QC):Nat->Int->σ->σ
 | 0,_,s=>s
 | n+1,c,s=>match xbx xs c with
  | none=>s
  | some x=>if (vis s c.toNat x).2 then upE vis xs n x.super (vis s c.toNat x).1 else (vis s c.toNat x).1
theorem xo4 {σ:Type}{P M:Nat->Prop}(vis:σ->Nat->QC->σ × Bool)(R:Nat->σ->World->Prop)(p1 p2 p3 p4:Value)(xs:List QC)(c:Int)(s0:σ)(cv hv:Value)(ep:Int)(w:World)(hh:xai P w cv xs)(hhv:∃ a n c,hv=.slice a n c)(hR:R 0 s0 w)(hM:∀ b,M b->b<w.heap.size)
  (hX:∀ j s w',R j s w'->xai P w' cv xs) (hL:∀ j s w' w'',R j s w'->Below w'.heap.size w' w''->R j s w'')
  (hF:∀ (j:Nat) s (k:Nat) x w',j<xs.length+1->R j s w'->xs[k]?=some x->Calls Try.prog 73 #[.int .i64 k,p1,p2,p3,p4] w' fun e w''=>e=.returned (.bool (vis s k x).2)/\R (j+1) (vis s k x).1 w''/\Keeps (fun b=>¬ M b) w' w''/\w'.heap.size<=w''.heap.size) :
  Calls Try.prog 72 #[WV cv hv ep,.int .i64 c,.func (.func 73) #[] #[p1,p2,p3,p4]] w fun e w'=>e=.returned (.tuple #[])/\∃ j,R j (upE vis xs (xs.length+1) c s0) w':=by
 obtain⟨ad,cap,rfl,hl,hcap,hby,hrow⟩:=id hh;obtain⟨ah,nh,ch,rfl⟩:∃ a n c,hv=.slice a n c:=hhv;unfold maxLen at hcap;go_enter Try.func72,Try.ntmps72;go_wp2;have hb0:(w.alloc (Obj.cells #[.slice ad xs.length cap,.slice ah nh ch,.int .i64 ep] 25)).cell? ⟨w.heap.size,0,none⟩=some (.slice ad xs.length cap):=by simp
 have hb1:(w.alloc (Obj.cells #[.slice ad xs.length cap,.slice ah nh ch,.int .i64 ep] 25)).cell? ⟨w.heap.size,1,none⟩=some (.slice ah nh ch):=by simp
 have hb2:(w.alloc (Obj.cells #[.slice ad xs.length cap,.slice ah nh ch,.int .i64 ep] 25)).cell? ⟨w.heap.size,2,none⟩=some (.int .i64 ep):=by simp
 have hMw:¬ M w.heap.size:=fun h=>by have:=hM _ h;omega
 have hRa:=hL 0 s0 w _ hR (xak w (Obj.cells #[.slice ad xs.length cap,.slice ah nh ch,.int .i64 ep] 25));clear hR hrow hh
 go_loopg [1,10] (xs.length+1) (fun g c' i wr=>∃ (j:Nat) (cc:Int) (s:σ),j+g=xs.length+1/\i=.int .i64 j/\c'=.int .i64 cc/\R j s wr/\upE vis xs (xs.length+1) c s0=upE vis xs g cc s/\wr.cell? ⟨w.heap.size,0,none⟩=some (.slice ad xs.length cap)/\wr.cell? ⟨w.heap.size,1,none⟩=some (.slice ah nh ch)/\wr.cell? ⟨w.heap.size,2,none⟩=some (.int .i64 ep))
 case atStart=>exact⟨0,c,s0,by omega,rfl,rfl,hRa,rfl,hb0,hb1,hb2⟩
 case round=>
  obtain⟨j,cc,s,hj,rfl,rfl,hRs,hE,c0,c1,c2⟩:=hrel;have HE:Hid (upE vis xs (xs.length+1) c s0=upE vis xs gk cc s):=hE;clear hE hb0 hb1 hb2 hRa
  by_cases hlt:j<xs.length+1
  ·obtain⟨g',rfl⟩:∃ g',gk=g'+1:=⟨gk-1,by omega⟩
   have hj1:(j:Int)<(xs.length:Int)+1:=by omega
   cases hx:xbx xs cc with
   | none=>
    have hh:xgI xs.length cc=false:=by rw[xdc,hx];rfl
    have HX:Hid (xbx xs cc=none):=hx;clear hx;go_wp2_with fail;refine (xhD _ _ _ _ _ _ _ _ _).mono ?_;rintro e w1 ⟨rfl,hb⟩;rw[hh];go_wp2;refine qzK (v:=.tuple #[]) (by simp[results,Try.results72,go_sem]) rfl ⟨rfl,j,?_⟩
    rw[HE.out];simp only[upE,HX.out]
    exact hL _ _ _ _ hRs hb
   | some x=>
    have hh:xgI xs.length cc=true:=by rw[xdc,hx];rfl
    obtain⟨k,rfl,hxk⟩:=xa7 hx;have HX:Hid (xs[k]?=some x):=hxk;have HC:Hid (xbx xs (k:Int)=some x):=hx;have hk:=xae hxk;clear hx hxk;have hk0:(0:Int)<=(k:Int):=by omega
    have hk1:(k:Int)<(xs.length:Int):=by omega
    go_wp2_with fail;refine (xhD _ _ _ _ _ _ _ _ _).mono ?_;rintro e w1 ⟨rfl,hb⟩;rw[hh];replace hRs:=hL _ _ _ _ hRs hb;replace c0:=qzA hb c0;replace c1:=qzA hb c1;replace c2:=qzA hb c2;clear hb hh;go_wp2_with fail;refine (hF j s k x w1 hlt hRs HX.out).mono ?_;rintro e w2 ⟨rfl,hR2,hK2,-⟩;replace c0:=hK2 _ _ _ hMw c0;replace c1:=hK2 _ _ _ hMw c1;replace c2:=hK2 _ _ _ hMw c2
    cases hv2:(vis s k x).2
    ·go_wp2;refine qzK (v:=.tuple #[]) (by simp[results,Try.results72,go_sem]) rfl ⟨rfl,j+1,?_⟩
     rw[HE.out];simp only[upE,HC.out,Int.toNat_natCast,hv2]
     exact hR2
    ·obtain⟨ad',cap',e',-,-,-,hrow⟩:=hX _ _ _ hR2;simp only[Value.slice.injEq] at e';obtain⟨rfl,-,rfl⟩:=e';obtain⟨b,o,rfl,-,-,hv1,-⟩:=hrow k x HX.out;clear hrow;go_wp2
     go_roundg g'
     case measure=>omega
     case rel=>
      refine⟨j+1,x.super,(vis s k x).1,by omega,by go_num,rfl,hR2,?_,c0,c1,c2⟩
      rw[HE.out];simp only[upE,HC.out,Int.toNat_natCast,hv2,if_true]
  ·obtain rfl:gk=0:=by omega
   go_wp2
   go_end0
   refine⟨rfl,j,?_⟩;rw[HE.out]
   exact hRs
theorem xm1 (w:World)(b o:Nat)(v:Value):Below b w (w.setCell ⟨b,o,none⟩ v):=(qzL b w).setCell (qzC b) _
def xe0 (s:Int)(_:Nat)(x:QC):Int × Bool:=(s+x.slots,true)
def xaY (xs:List QC)(c:Int):Int:=upE xe0 xs (xs.length+1) c 0
def xbY (xs:List QC):Prop:=∀ (i:Nat) x,xs[i]?=some x->0<=x.slots/\x.slots<=6
theorem xcD {xs:List QC}(ho:xbY xs):∀ (n:Nat) (c s:Int),0<=s->s<=upE xe0 xs n c s/\upE xe0 xs n c s<=s+6*n
 | 0,c,s,h=>by simp[upE]
 | n+1,c,s,h=>by
  unfold upE
  cases hx:xbx xs c with
  | none=>simp;omega
  | some x=>
   obtain⟨k,rfl,hk⟩:=xa7 hx;obtain⟨h1,h2⟩:=ho k x hk;obtain⟨h3,h4⟩:=xcD ho n x.super (s+x.slots) (by omega)
   simp only[xe0,if_true] at h3 h4 ⊢
   omega
def xf9 (name:ByteArray)(s:Int × Int)(k:Nat)(x:QC):(Int × Int) × Bool:=((if 0<=xcw x.mz name then (k:Int) else s.1,xcw x.mz name),decide (xcw x.mz name<0))
def xaB (xs:List QC)(c:Int)(name:ByteArray):Int × Int:=upE (xf9 name) xs (xs.length+1) c (-1,-1)
theorem xlO {P:Nat->Prop}(n cap:Nat)(name:ByteArray)(s:Int × Int)(k:Nat)(x:QC)(b o bw bn bm bf lo:Nat)(mv:Value)(w:World)(hf:w.heap[bf]?=some (.cells #[.int .i64 s.1] 3 (0,0)))(hmm:w.heap[bm]?=some (.cells #[.int .i64 s.2] 3 (0,0)))(hw:w.cell? ⟨bw,0,none⟩=some (.slice (some ⟨b,o,none⟩) n cap))(hn:w.cell? ⟨bn,0,none⟩=some (.string name))
  (hk:k<n) (hv:w.cell? ⟨b,o+k*4+3,none⟩=some mv) (hM:xbm P w mv x.mz) (hne:bm≠bf) (h1:bm≠bw) (h2:bm≠bn) (h3:bm≠b) (hlm:lo<=bm) (hlf:lo<=bf) :
  Calls Try.prog 73 #[.int .i64 k,.pointer (some ⟨bw,0,none⟩),.pointer (some ⟨bn,0,none⟩),.pointer (some ⟨bm,0,none⟩),.pointer (some ⟨bf,0,none⟩)] w fun e w''=>e=.returned (.bool (xf9 name s k x).2)/\w''.heap[bf]?=some (.cells #[.int .i64 (xf9 name s k x).1.1] 3 (0,0))/\w''.heap[bm]?=some (.cells #[.int .i64 (xf9 name s k x).1.2] 3 (0,0))/\Keeps (fun b=>b≠bm/\b≠bf) w w''/\Below lo w w'':=by
 obtain⟨ad2,cap2,rfl,-,-,-,-⟩:=id hM;have hk0:(0:Int)<=(k:Int):=by omega
 have hk1:(k:Int)<(n:Int):=by omega
 have cm:=cell_of_one hmm;have fm:=free_of_one hmm;go_enter Try.func73,Try.ntmps73;go_wp2;have hS0:w.drew.cell? ⟨bw,0,none⟩=some (.slice (some ⟨b,o,none⟩) n cap)/\w.drew.cell? ⟨b,o+k*4+3,none⟩=some (.slice ad2 x.mz.length cap2)/\w.drew.cell? ⟨bn,0,none⟩=some (.string name):=⟨hw,hv,hn⟩;have hMd:=hM.later xbq (qzL _ _).drew;have hmd:w.drew.heap[bm]?=some (.cells #[.int .i64 s.2] 3 (0,0)):=hmm;have hfd:w.drew.heap[bf]?=some (.cells #[.int .i64 s.1] 3 (0,0)):=hf;clear hw hv hn hM cm fm
 go_region_held3 (fun w'=>w'.cell? ⟨bw,0,none⟩=some (.slice (some ⟨b,o,none⟩) n cap)/\w'.cell? ⟨b,o+k*4+3,none⟩=some (.slice ad2 x.mz.length cap2)/\w'.cell? ⟨bn,0,none⟩=some (.string name))
  (first | exact hS0 | exact hY | exact⟨(qzI _ _ _ _ h1).trans hY.1,(qzI _ _ _ _ h3).trans hY.2.1,(qzI _ _ _ _ h2).trans hY.2.2⟩)
  (first | (go_at_call 74;refine (xiP x.mz _ name _ hMd).mono ?_;rintro e w1 ⟨rfl,hb⟩;have hY:w1.cell? ⟨bw,0,none⟩=some (.slice (some ⟨b,o,none⟩) n cap)/\w1.cell? ⟨b,o+k*4+3,none⟩=some (.slice ad2 x.mz.length cap2)/\w1.cell? ⟨bn,0,none⟩=some (.string name):=⟨qzA hb hS0.1,qzA hb hS0.2.1,qzA hb hS0.2.2⟩;have hm1:w1.heap[bm]?=some (.cells #[.int .i64 s.2] 3 (0,0)):=(by rw[hb.block _ (xal hmd)];exact hmd);have hf1:w1.heap[bf]?=some (.cells #[.int .i64 s.1] 3 (0,0)):=(by rw[hb.block _ (xal hfd)];exact hfd);have cm1:=cell_of_one hm1;have fm1:=free_of_one hm1))
 have hm2:=one_setCell (u:=.int .i64 (xcw x.mz name)) hm1;have hf2:(w1.setCell ⟨bm,0,none⟩ (.int .i64 (xcw x.mz name))).heap[bf]?=some (.cells #[.int .i64 s.1] 3 (0,0)):=by rw[xac (by omega)];exact hf1
 have hB2:Below lo w (w1.setCell ⟨bm,0,none⟩ (.int .i64 (xcw x.mz name))):=((qzL _ _).drew.trans (hb.mono (qzD hlm (Nat.le_of_lt (xal hmd))))).setCell hlm _;have hK2:Keeps (fun b=>b≠bm/\b≠bf) w (w1.setCell ⟨bm,0,none⟩ (.int .i64 (xcw x.mz name))):=xaC (Keeps.of_below (xaf (qzL _ _).drew hb)) (fun h=>h.1 rfl) _
 have c3:=cell_of_one hm2;have c4:=cell_of_one hf2;have c5:=free_of_one hf2;clear hS0 hMd hmd hfd hb hY hm1 hf1 cm1 fm1 hmm hf;generalize w1.setCell ⟨bm,0,none⟩ (.int .i64 (xcw x.mz name))=w2 at *
 by_cases hp:0<=xcw x.mz name
 ·have c6:(w2.setCell ⟨bf,0,none⟩ (.int .i64 (k:Int))).cell? ⟨bm,0,none⟩=some (.int .i64 (xcw x.mz name)):=(qzI _ _ _ _ (by simp;omega)).trans c3
  go_wp2
  go_ret
  refine⟨xby (by simp[xf9]),?_,?_,?_,?_⟩
  ·have:=one_setCell (u:=.int .i64 (k:Int)) hf2
   simpa [xf9,hp] using this
  ·rw[xac (by omega)];exact hm2
  ·exact xaC hK2 (fun h=>h.2 rfl) _
  ·exact hB2.setCell hlf _
 ·have hp':xcw x.mz name<0:=by omega
  go_wp2
  go_ret
  refine⟨xby (by simp[xf9];exact hp'),?_,hm2,hK2,hB2⟩
  simp only[xf9];rw[if_neg (by omega)]
  exact hf2
def FiR {P:Nat->Prop}(w0:World)(cv:Value)(xs:List QC)(name:ByteArray)(_:Nat)(s:Int × Int)(w':World):Prop:=
 Below w0.heap.size w0 w'/\xai P w' cv xs/\w'.heap[w0.heap.size+1+1]?=some (.cells #[.int .i64 s.1] 3 (0,0))/\w'.heap[w0.heap.size+1+1+1]?=some (.cells #[.int .i64 s.2] 3 (0,0))/\w'.cell? ⟨w0.heap.size,0,none⟩=some cv/\w'.cell? ⟨w0.heap.size+1,0,none⟩=some (.string name)
theorem xfE {P:Nat->Prop}(X:QW)(c:Int)(name:ByteArray)(cv hv:Value)(w:World)(hh:xai P w cv X.cz)(hH:xaD P w hv X.heap):Calls Try.prog 53 #[WV cv hv X.ez,.int .i64 c,.string name] w fun e w'=>e=.returned (.tuple #[.int .i64 (xaB X.cz c name).1,.int .i64 (xaB X.cz c name).2])/\Below w.heap.size w w':=by
 have hm:=hmf;obtain⟨ad,cap,rfl,hl,hcap,hby,hrow⟩:=id hh;obtain⟨ah,ch,rfl,-,-,-,-⟩:=id hH;go_enter Try.func53,Try.ntmps53;go_wp2_with fail;have hW:=(xfL w (Obj.cells #[Value.slice ad X.cz.length cap,Value.slice ah X.heap.length ch,Value.int .i64 X.ez] 25) (Obj.cells #[Value.string name] 9) (Obj.cells #[Value.int .i64 (-1)] 3)).alloc (by simp;omega) (Obj.cells #[Value.int .i64 (-1)] 3)
 refine (xo4 (P:=P) (M:=fun b=>b=w.heap.size+1+1+1\/b=w.heap.size+1+1) (xf9 name) (FiR (P:=P) w (.slice ad X.cz.length cap) X.cz name) _ _ _ _ X.cz c (-1,-1) _ _ _ _ (hh.later xaA hW) ⟨_,_,_,rfl⟩ ?_ ?_ ?_ ?_ ?_).mono ?_
 ·refine⟨hW,hh.later xaA hW,?_,?_,?_,?_⟩
  ·rw[(xak _ _).block _ (by simp)]
   have:=qzJ ((w.alloc (Obj.cells #[Value.slice ad X.cz.length cap,Value.slice ah X.heap.length ch,Value.int .i64 X.ez] 25)).alloc (Obj.cells #[Value.string name] 9)) (Obj.cells #[Value.int .i64 (-1)] 3)
   simpa using this
  ·have:=qzJ (((w.alloc (Obj.cells #[Value.slice ad X.cz.length cap,Value.slice ah X.heap.length ch,Value.int .i64 X.ez] 25)).alloc (Obj.cells #[Value.string name] 9)).alloc (Obj.cells #[Value.int .i64 (-1)] 3)) (Obj.cells #[Value.int .i64 (-1)] 3)
   simpa using this
  ·exact qzA (xfL _ _ _ _) (by rw[xaa _ _ _ _ rfl];rfl)
  ·exact qzA (xbP _ _ _) (by rw[xaa _ _ _ _ (by simp)];rfl)
 ·rintro b (rfl | rfl)<;>simp
 ·exact fun j s w' h=>h.2.1
 ·rintro j s w' w'' ⟨h1,h2,h3,h4,h5,h6⟩ hb
  exact⟨xaf h1 hb,h2.later xaA hb,by rw[hb.block _ (xal h3)];exact h3,by rw[hb.block _ (xal h4)];exact h4,qzA hb h5,qzA hb h6⟩
 ·rintro j s k x w' hj ⟨h1,h2,h3,h4,h5,h6⟩ hx;have hk:=xae hx;obtain⟨b,o,rfl,-,-,-,-,-,mv,hv,hM⟩:=hrow k x hx;have hbl:=World.block_lt_of_cell? _ _ hv
  simp at hbl
  refine (xlO X.cz.length cap name s k x b o w.heap.size (w.heap.size+1) (w.heap.size+1+1+1) (w.heap.size+1+1) w.heap.size mv w' h3 h4 h5 h6 hk (qzA h1 hv) (hM.later xbq h1) (by omega) (by omega) (by omega) (by omega) (by omega) (by omega)).mono ?_
  rintro e w'' ⟨rfl,k1,k2,k3,k4⟩;refine⟨rfl,⟨h1.trans k4,hh.later xaA (h1.trans k4),k1,k2,k3 _ _ _ (by omega) h5,k3 _ _ _ (by omega) h6⟩,k3.mono fun b hb=>by omega,k4.size⟩
 ·rintro e w1 ⟨rfl,j,h1,h2,h3,h4,h5⟩;have c1:=cell_of_one h3;have c2:=cell_of_one h4;go_wp2
  go_quiet (fail)
  go_wp2;refine qzK (v:=.tuple #[.int .i64 (xaB X.cz c name).1,.int .i64 (xaB X.cz c name).2]) ?_ rfl ⟨rfl,?_⟩
  ·simp[results,Try.results53,go_sem,xaB]
  ·first | exact h1 | exact h1.drew | exact below_drewN h1 _
def okB (s:ByteArray):Bool:=decide (∀ j:Fin s.size,33<=(s[j.1]'j.2).toNat/\(s[j.1]'j.2).toNat<=126)
def xbr (s:ByteArray):Bool:=decide (1<=s.size/\s.size<=12) && okB s
theorem xg6 {s:ByteArray}{j:Nat}(hj:j<s.size)(h:¬ (33<=s[j].toNat/\s[j].toNat<=126)):okB s=false:=by
 unfold okB;simp only[decide_eq_false_iff_not]
 exact fun k=>h (k ⟨j,hj⟩)
theorem xjA {s:ByteArray}(h:∀ j (hj:j<s.size),33<=s[j].toNat/\s[j].toNat<=126):okB s=true:=by
 unfold okB;simp only[decide_eq_true_eq]
 exact fun j=>h j.1 j.2
def xgY (c:Int):Bool:=decide (c=1\/c=2\/c=3)
def xi6 (xs:List QC)(name:ByteArray):Bool:=decide (0<=xcP (fun m:QC=>eqN m.name name) xs)
def xcM (xs:List QC)(name:ByteArray)(super slots:Int):Int:=
 if xbr name=false\/xi6 xs name=true then 7
 else if xgI xs.length super=false then 6
 else if slots<0\/6-xaY xs super<slots\/xgY super=true then 3
 else if 12<=xs.length then 5 else 0
theorem xbj (w:World)(o:Obj)(n:Nat)(hn:w.heap.size=n):(w.alloc o).heap[n]?=some o:=by subst hn;exact qzJ w o
def xpN (X:QW)(name:ByteArray)(super slots:Int):QW:=⟨X.cz++[⟨name,super,slots,[]⟩],X.heap,X.ez⟩
theorem IsRow.get {α:Type}{E:Lay α}{sz bytes:Nat}{P:Nat->Prop}{w:World}{v:Value}{xs:List α}(h:IsRow E sz bytes P w v xs):∃ ad cap,v=.slice ad xs.length cap:=by
 obtain⟨ad,cap,rfl,-⟩:=h;exact⟨_,_,rfl⟩
def xl4 (xs:List QM)(m:QM):List QM:=
 if 0<=xcw xs m.name then xs.set (xcw xs m.name).toNat m else xs.take (xnK xs m.name).toNat++[m]++xs.drop (xnK xs m.name).toNat
def xgV (e:Int):Int:=wrap64 (e+1)
def xii (X:QW)(c:Nat)(x:QC)(m:QM):QW:=⟨X.cz.set c { x with mz:=xl4 x.mz m },X.heap,xgV X.ez⟩
theorem xsu {xs:List QM}{name:ByteArray}(h:0<=xcw xs name):(xcw xs name).toNat<xs.length:=by
 unfold xcw xcP at h ⊢
 cases hf:xs.findIdx? (fun m=>eqN m.name name) with
 | none=>rw[hf] at h;simp at h
 | some i=>
  simp
  rw[List.findIdx?_eq_some_iff_getElem] at hf
  exact hf.1
set_option maxRecDepth 8000
theorem xeW (s:ByteArray)(w:World)(hs:s.size<=140737488351232):Calls Try.prog 20 #[.string s] w fun e w'=>e=.returned (.bool (xbr s))/\Below w.heap.size w w':=by
 have HN0:Hid (okB s=false->xbr s=false):=fun h=>by simp[xbr,h]
 go_enter Try.func20,Try.ntmps20;go_wp2
 go_loopg [6] s.size (fun g c wr=>∃ j:Nat,j+g=s.size/\c=.int .i64 j/\wr=w/\∀ i (hi:i<s.size),i<j->33<=s[i].toNat/\s[i].toNat<=126)
 case atStart=>exact⟨0,by omega,rfl,rfl,fun i _ hi=>by omega⟩
 case round=>
  obtain⟨j,hj,rfl,rfl,hok⟩:=hrel;have HO:Hid (∀ i (hi:i<s.size),i<j->33<=s[i].toNat/\s[i].toNat<=126):=hok;clear hok
  by_cases hlt:j<s.size
  ·have hj0:(0:Int)<=(j:Int):=by omega
   have hj1:(j:Int)<(s.size:Int):=by omega
   by_cases c1:s[j].toNat<33
   ·have hn:Hid (okB s=false):=xg6 hlt (by omega)
    have c1':((s[j].toNat:Nat):Int)<33:=by omega
    go_wp2
    go_ret
    exact⟨xby (by rw[HN0.out hn.out]),qzL _ _⟩
   ·have c1':(33:Int)<=((s[j].toNat:Nat):Int):=by omega
    by_cases c2:126<s[j].toNat
    ·have hn:Hid (okB s=false):=xg6 hlt (by omega)
     have c2':(126:Int)<((s[j].toNat:Nat):Int):=by omega
     go_wp2
     go_ret
     exact⟨xby (by rw[HN0.out hn.out]),qzL _ _⟩
    ·have c2':((s[j].toNat:Nat):Int)<=126:=by omega
     have HT:Hid (33<=s[j].toNat/\s[j].toNat<=126):=by constructor<;>omega
     clear c1 c2;go_wp2
     go_roundg (gk-1)
     case measure=>omega
     case rel=>
      refine⟨j+1,by omega,by go_num,rfl,fun i hi hij=>?_⟩
      by_cases he:i=j
      ·subst he;exact HT.out
      ·exact HO.out i hi (by omega)
  ·have HK:Hid (okB s=true):=xjA fun i hi=>HO.out i hi (by omega)
   by_cases h0:0<s.size
   ·have h0':(0:Int)<(s.size:Int):=by omega
    go_wp2
    go_ret
    exact⟨xby (by unfold xbr;rw[HK.out,Bool.and_true,Bool.eq_iff_iff];simp;omega),qzL _ _⟩
   ·have h0':(s.size:Int)<=0:=by omega
    go_wp2
    go_ret
    exact⟨xby (by unfold xbr;rw[HK.out,Bool.and_true,Bool.eq_iff_iff];simp;omega),qzL _ _⟩
def xpr:Lay Int:=fun _ _ f x=>f 0=some (.int .i64 x)
abbrev xc5:=IsRow xpr 1 8
theorem xil:Good xpr 1 where
 move h _ _ hf:=hf 0 (by omega) _ h
 there h k hk:=by
  obtain rfl:k=0:=by omega
  exact⟨_,h,rfl⟩
 pos:=by omega
theorem xhH {P:Nat->Prop}{w:World}(l:List Int):Cells xpr 1 P w (l.map fun x=>.int .i64 x) l:=by
 refine⟨by simp,fun i x hx=>?_⟩
 show (l.map fun x=>Value.int .i64 x)[i*1+0]?=_
 simp[hx]
def xdB (xs:List QC):Nat->Int->List Int
 | 0,_=>[]
 | n+1,c=>match xbx xs c with
  | none=>[]
  | some x=>c :: xdB xs n x.super
theorem xj0:(Try.prog.info? 3).map (fun i=>(i.zero,i.size,i.bytes))=some (some (.int .i64 0),1,8):=by kernel_rfl
theorem xcO {wr w2:World}{B:Nat}{X:Obj}{a:Option Addr}{e:TypeId}{sz n k:Nat}{xs:List Value}(hown:wr.ownsRow B e sz (.slice a n k) n xs)(hB:B<=wr.heap.size)(hgr:(wr.alloc X).grownBy w2 (Value.ownBlock (.slice a n k))):Below B wr w2:=by
 refine ((qzL B wr).alloc hB X).grown hgr (by simp;omega) (fun k' hk'=>?_)
 obtain⟨-,⟨e,-⟩ | ⟨g,c,cur,e,h1,-⟩⟩:=hown
 ·rw[e] at hk';cases hk'
 ·rw[e] at hk'
  simp[Value.ownBlock] at hk'
  omega
theorem xmc {P:Nat->Prop}(xs:List QC)(c0:Int)(cv hv:Value)(ep:Int)(w:World)(hh:xai P w cv xs)(hhv:∃ a n c,hv=.slice a n c):Calls Try.prog 30 #[WV cv hv ep,.int .i64 c0] w fun e w'=>∃ ad cap,e=.returned (.slice ad (xdB xs (xs.length+1) c0).length cap)/\xc5 (fun b=>w.heap.size<=b) w' (.slice ad (xdB xs (xs.length+1) c0).length cap) (xdB xs (xs.length+1) c0)/\Below w.heap.size w w':=by
 obtain⟨ad,cap,rfl,hl,hcap,hby,hrow⟩:=id hh;obtain⟨ah,nh,ch,rfl⟩:=hhv;obtain⟨i0,hi,hz0,hz1,hz2⟩:=xa8 xj0;go_enter Try.func30,Try.ntmps30;go_wp2
 go_loopg [1,5] (xs.length+1) (fun g c' l wr=>∃ (pre:List Int) (cc:Int) (a:Option Addr) (k:Nat),pre.length+g=xs.length+1/\c'=.int .i64 cc/\l=.slice a pre.length k/\Below (w.heap.size+1) (w.alloc (Obj.cells #[.slice ad xs.length cap,.slice ah nh ch,.int .i64 ep] 25)) wr/\wr.ownsRow (w.heap.size+1) 3 1 (.slice a pre.length k) pre.length (pre.map fun x=>.int .i64 x)/\xdB xs (xs.length+1) c0=pre++xdB xs g cc)
 case atStart=>exact⟨[],c0,none,0,by simp,rfl,rfl,(qzL _ _),⟨by simp,Or.inl ⟨rfl,rfl⟩⟩,rfl⟩
 case round=>
  obtain⟨pre,cc,a,k,hg,rfl,rfl,hbel,hown,hE⟩:=hrel;have HE:Hid (xdB xs (xs.length+1) c0=pre++xdB xs gk cc):=hE;clear hE;have hbw:Below w.heap.size w wr:=(xak _ _).trans (hbel.mono (by omega))
  have b0:wr.cell? ⟨w.heap.size,0,none⟩=some (.slice ad xs.length cap):=by rw[hbel.cell (by simp)];simp
  have hk':pre.length<=xs.length+1:=by omega
  have hkk:pre.length<=k:=by
   obtain⟨-,h | ⟨g,c,cur,e,-,-,h1,-⟩⟩:=hown;· omega
   ·cases e;exact h1
  have hend:∀ (hz:xdB xs gk cc=[]),∃ ad cap,Ending.returned (.slice a pre.length k)=.returned (.slice ad (xdB xs (xs.length+1) c0).length cap)/\xc5 (fun b=>w.heap.size<=b) wr (.slice ad (xdB xs (xs.length+1) c0).length cap) (xdB xs (xs.length+1) c0)/\Below w.heap.size w wr:=fun hz=>by
   rw[HE.out,hz,List.append_nil];refine⟨a,k,rfl,?_,hbw⟩;obtain⟨-,⟨e,h0⟩ | ⟨g,c,cur,e,h1,h2,h3,h4,h5,h6⟩⟩:=hown
   ·have:pre=[]:=List.eq_nil_of_length_eq_zero h0;subst this;refine⟨a,k,rfl,by simp,?_,by simp,fun i x hx=>by simp at hx⟩
    cases e;unfold maxLen;omega
   ·cases e
    exact (xhH pre).row xil (by omega) h2 h6 h3 h4 (by omega)
  cases hx:xbx xs cc with
  | none=>
   have hz:Hid (xdB xs gk cc=[]):=by show _=_;cases gk<;>simp[xdB,hx]
   by_cases h0:0<=cc
   ·have h1:(xs.length:Int)<=cc:=by
     have:=xdc (xs:=xs) (c:=cc);rw[hx] at this
     simp[xgI] at this
     omega
    go_wp2
    go_ret
    exact hend hz.out
   ·have h0':cc<0:=by omega
    have hd:decide (0<=cc)=false:=by simpa using h0
    go_wp2
    go_ret
    exact hend hz.out
  | some x=>
   obtain⟨q,rfl,hxq⟩:=xa7 hx;have hq:=xae hxq;have hq0:(0:Int)<=(q:Int):=by omega
   have hq1:(q:Int)<(xs.length:Int):=by omega
   by_cases hfu:pre.length<=xs.length
   ·obtain⟨g',rfl⟩:∃ g',gk=g'+1:=⟨gk-1,by omega⟩
    have HX:Hid (xbx xs (q:Int)=some x):=hx;obtain⟨b,o,rfl,-,-,hv1,-⟩:=hrow q x hxq;have v1:=qzA hbw hv1;have hf1:(pre.length:Int)<=(xs.length:Int):=by omega
    have hbl:b<w.heap.size:=World.block_lt_of_cell? _ _ hv1;have hzr:w.heap.size+1<=wr.heap.size:=by have:=hbel.size;simpa using this
    clear hx hxq hend hrow
    go_wp2_with (at_builtin;refine wpList_append_lies _ rfl (.tmp 23) (.tmp 25) 48 rfl (w.heap.size+1) 3 i0 _ 1 8 Try.underlying48 hi hz0 hz1 hz2 rfl (by decide) _ pre.length _ rfl (hown.alloc _) ⟨_,0,none⟩ 1 1 [.int .i64 q] rfl rfl (fun j u hu=>(by have:=xae hu;simp at this;subst this;simp at hu;subst hu;rw[Addr.add_lit];exact (xaa wr _ 3 _ rfl 0).trans rfl)) (by simp;rfl) (by omega) (by unfold maxLen;omega) (by omega) (by simp;have:=hbel.size;simp at this;omega) _ rfl ?_;intro gg cap2 w2 hown2 hgr hor hlt2;have hb2:=xcO hown hzr hgr;have v1:=(hb2.cell (p:=⟨b,o+q*4+1,none⟩) (by simp;omega)).trans v1;have b0:=(hb2.cell (p:=⟨w.heap.size,0,none⟩) (by simp)).trans b0)
    go_roundg g'
    case measure=>omega
    case rel=>
     refine⟨pre++[(q:Int)],x.super,some ⟨gg,0,none⟩,cap2,by simp;omega,rfl,by simp,hbel.trans hb2,?_,?_⟩
     ·simpa using hown2
     ·rw[HE.out]
      simp[xdB,HX.out]
   ·obtain rfl:gk=0:=by omega
    have hf1:(xs.length:Int)<(pre.length:Int):=by omega
    go_wp2
    go_ret
    exact hend rfl
theorem xfH {xs:List QC}:∀ (n:Nat) (c:Int) (i:Nat) (k:Int),(xdB xs n c)[i]?=some k->∃ (q:Nat) (x:QC),k=(q:Int)/\xs[q]?=some x
 | 0,c,i,k,h=>by simp[xdB] at h
 | n+1,c,i,k,h=>by
  unfold xdB at h
  cases hx:xbx xs c with
  | none=>rw[hx] at h;simp at h
  | some x=>
   rw[hx] at h
   cases i with
   | zero=>
    simp at h
    subst h;obtain⟨q,rfl,hq⟩:=xa7 hx
    exact⟨q,x,rfl,hq⟩
   | succ i=>simp at h;exact xfH n x.super i k h
def xfU (xs:List QC)(k:Int):Int:=((xbx xs k).map QC.slots).getD 0
def xgv (xs:List QC):List Int->Int
 | []=>0
 | k :: r=>xfU xs k+xgv xs r
theorem xmv {xs:List QC}:∀ (n:Nat) (c s:Int),upE xe0 xs n c s=s+xgv xs (xdB xs n c)
 | 0,c,s=>by simp[upE,xdB,xgv]
 | n+1,c,s=>by
  unfold upE xdB
  cases hx:xbx xs c with
  | none=>simp[xgv]
  | some x=>
   have h1:xfU xs c=x.slots:=by simp[xfU,hx]
   have h2:=xmv (xs:=xs) n x.super (s+x.slots);simp only[xe0,if_true,xgv,h1] at h2 ⊢;rw[h2]
   omega
theorem xk0 {xs:List QC}(c:Int):xaY xs c=xgv xs (xdB xs (xs.length+1) c):=by
 unfold xaY;rw[xmv]
 omega
theorem xhL {xs:List QC}:∀ (n:Nat) (c:Int),(xdB xs n c).length<=n
 | 0,c=>by simp[xdB]
 | n+1,c=>by
  unfold xdB
  cases hx:xbx xs c with
  | none=>simp
  | some x=>simp;exact xhL n x.super
theorem xjW {xs:List QC}(l r:List Int):xgv xs (l++r)=xgv xs l+xgv xs r:=by
 induction l with
 | nil=>simp[xgv]
 | cons a l ih=>simp only[List.cons_append,xgv,ih];omega
theorem xln {xs:List QC}(ho:xbY xs)(l:List Int):0<=xgv xs l/\xgv xs l<=6*l.length:=by
 induction l with
 | nil=>simp[xgv]
 | cons a l ih=>
  have:0<=xfU xs a/\xfU xs a<=6:=by
   unfold xfU
   cases hx:xbx xs a with
   | none=>simp
   | some x=>
    obtain⟨q,-,hq⟩:=xa7 hx
    simpa using ho q x hq
  simp only[xgv,List.length_cons]
  omega
theorem xcB {P:Nat->Prop}(X:QW)(c:Int)(cv hv:Value)(w:World)(hh:xai P w cv X.cz)(hH:xaD P w hv X.heap)(ho:xbY X.cz):Calls Try.prog 21 #[WV cv hv X.ez,.int .i64 c] w fun e w'=>e=.returned (.int .i64 (xaY X.cz c))/\Below w.heap.size w w':=by
 obtain⟨ad,cap,rfl,hl,hcap,hby,hrow⟩:=id hh;obtain⟨ah,ch,rfl⟩:=hH.get;have hul:=xhL (xs:=X.cz) (X.cz.length+1) c;have HS:Hid (xaY X.cz c=xgv X.cz (xdB X.cz (X.cz.length+1) c)):=xk0 c;have HM:Hid (∀ (i:Nat) (k:Int),(xdB X.cz (X.cz.length+1) c)[i]?=some k->∃ (q:Nat) (x:QC),k=(q:Int)/\X.cz[q]?=some x):=fun i k h=>xfH _ _ i k h
 go_enter Try.func21,Try.ntmps21;go_wp2_with fail;refine (xmc X.cz c _ _ X.ez _ (hh.later xaA (xak _ _)) ⟨_,_,_,rfl⟩).mono ?_;rintro e w1 ⟨au,ku,rfl,hI,hb⟩;have b0:w1.cell? ⟨w.heap.size,0,none⟩=some (.slice ad X.cz.length cap):=qzA hb (by rw[xaa _ _ _ _ rfl];rfl)
 have hB:=xea (qzL _ _) hb;generalize xdB X.cz (X.cz.length+1) c=us at *;obtain⟨a',k',e',-,-,-,hru⟩:=hI;simp only[Value.slice.injEq] at e';obtain⟨rfl,-,rfl⟩:=e';go_wp2
 go_loopg [5,12] us.length (fun g s i wr=>∃ j:Nat,j+g=us.length/\i=.int .i64 j/\s=.int .i64 (xgv X.cz (us.take j))/\wr=w1)
 case atStart=>exact⟨0,by omega,rfl,rfl,rfl⟩
 case round=>
  obtain⟨j,hj,rfl,rfl,rfl⟩:=hrel
  by_cases hlt:j<us.length
  ·have hus:us[j]?=some us[j]:=by simp[hlt]
   obtain⟨bu,ou,rfl,-,hu⟩:=hru j _ hus;simp only[Nat.mul_one,Nat.add_zero] at hu;obtain⟨q,x,hkq,hxq⟩:=HM.out j _ hus;have hq:=xae hxq;obtain⟨b,o,rfl,-,-,-,hv2,-⟩:=hrow q x hxq;have v2:=qzA hB hv2
   have HT:Hid (xgv X.cz (us.take (j+1))=xgv X.cz (us.take j)+x.slots):=by
    show _=_
    rw[List.take_add_one,hus,xjW]
    simp[xgv,xfU,hkq,xeN,hxq]
   obtain⟨o1,o2⟩:=ho q x hxq;have hr1:=xln ho (us.take j);have hr2:((us.take j).length:Int)<=us.length:=by simp;omega
   have hw:IntKind.i64.wrap (xgv X.cz (us.take j)+x.slots)=xgv X.cz (us.take j)+x.slots:=by rw[IntKind.wrap_i64];omega
   replace hu:wr.cell? ⟨bu,ou+j,none⟩=some (.int .i64 (q:Int)):=by rw[← hkq];exact hu
   have hq0:(0:Int)<=(q:Int):=by omega
   have hq1:(q:Int)<(X.cz.length:Int):=by omega
   have hj0:(0:Int)<=(j:Int):=by omega
   have hj1:(j:Int)<(us.length:Int):=by omega
   clear hrow hru hus hkq hxq hv2;generalize xgv X.cz (us.take j)=sm at *;go_wp2
   go_roundg (gk-1)
   case measure=>omega
   case rel=>exact⟨j+1,by omega,by go_num,by rw[HT.out],rfl⟩
  ·go_wp2
   go_ret
   refine⟨xan ?_,hB⟩;rw[HS.out,List.take_of_length_le (by omega)]
theorem xoo {xs:List QM}{name:ByteArray}(h:xcw xs name<0):xcw xs name=-1:=by
 unfold xcw xcP at h ⊢
 cases hf:xs.findIdx? (fun m=>eqN m.name name) with
 | none=>simp
 | some i=>rw[hf] at h;simp at h;omega
def xbG (xs:List QC)(k:Int):List QM:=((xbx xs k).map QC.mz).getD []
def xcJ (xs:List QC)(name:ByteArray):List Int->Int × Int
 | []=>(-1,-1)
 | k :: r=>if 0<=xcw (xbG xs k) name then (k,xcw (xbG xs k) name) else xcJ xs name r
theorem xkc {xs:List QC}{name:ByteArray}:∀ (n:Nat) (c:Int),upE (xf9 name) xs n c (-1,-1)=xcJ xs name (xdB xs n c)
 | 0,c=>rfl
 | n+1,c=>by
  unfold upE xdB
  cases hx:xbx xs c with
  | none=>rfl
  | some x=>
   have hm:xbG xs c=x.mz:=by simp[xbG,hx]
   obtain⟨q,rfl,-⟩:=xa7 hx;simp only[xcJ,hm,xf9,Int.toNat_natCast]
   by_cases h:0<=xcw x.mz name
   ·have h':¬ xcw x.mz name<0:=by omega
    simp[h,h']
   ·have h':xcw x.mz name<0:=by omega
    rw[if_neg h,if_neg h,decide_eq_true h',if_pos rfl,xoo h']
    exact xkc n x.super
theorem xhw {xs:List QC}(c:Int)(name:ByteArray):xaB xs c name=xcJ xs name (xdB xs (xs.length+1) c):=xkc _ _
theorem xhv {xs:List QC}{name:ByteArray}:∀ {l:List Int},(∀ (i:Nat) k,l[i]?=some k->xcw (xbG xs k) name<0)->xcJ xs name l=(-1,-1)
 | [],_=>rfl
 | k :: r,h=>by
  have h0:=h 0 k rfl;unfold xcJ;rw[if_neg (by omega)]
  exact xhv fun i q hq=>h (i+1) q (by simpa using hq)
theorem xkh {xs:List QC}{name:ByteArray}:∀ {l:List Int} {j:Nat} {k:Int},l[j]?=some k->0<=xcw (xbG xs k) name->(∀ (i:Nat) q,i<j->l[i]?=some q->xcw (xbG xs q) name<0)->xcJ xs name l=(k,xcw (xbG xs k) name)
 | a :: r,0,k,hk,h0,_=>by
  simp at hk
  subst hk;unfold xcJ;rw[if_pos h0]
 | a :: r,j+1,k,hk,h0,h=>by
  have h1:=h 0 a (by omega) rfl
  unfold xcJ;rw[if_neg (by omega)]
  exact xkh (by simpa using hk) h0 fun i q hi hq=>h (i+1) q (by omega) (by simpa using hq)
theorem xit {P:Nat->Prop}(X:QW)(c:Int)(name:ByteArray)(cv hv:Value)(w:World)(hh:xai P w cv X.cz)(hH:xaD P w hv X.heap):Calls Try.prog 9 #[WV cv hv X.ez,.int .i64 c,.string name] w fun e w'=>e=.returned (.tuple #[.int .i64 (xaB X.cz c name).1,.int .i64 (xaB X.cz c name).2])/\Below w.heap.size w w':=by
 obtain⟨ad,cap,rfl,hl,hcap,hby,hrow⟩:=id hh;obtain⟨ah,ch,rfl⟩:=hH.get;have hul:=xhL (xs:=X.cz) (X.cz.length+1) c;have HS:Hid (xaB X.cz c name=xcJ X.cz name (xdB X.cz (X.cz.length+1) c)):=xhw c name;have HM:Hid (∀ (i:Nat) (k:Int),(xdB X.cz (X.cz.length+1) c)[i]?=some k->∃ (q:Nat) (x:QC),k=(q:Int)/\X.cz[q]?=some x):=fun i k h=>xfH _ _ i k h
 go_enter Try.func9,Try.ntmps9;go_wp2_with fail;refine (xmc X.cz c _ _ X.ez _ (hh.later xaA (xak _ _)) ⟨_,_,_,rfl⟩).mono ?_;rintro e w1 ⟨au,ku,rfl,hI,hb⟩;have b0:w1.cell? ⟨w.heap.size,0,none⟩=some (.slice ad X.cz.length cap):=qzA hb (by rw[xaa _ _ _ _ rfl];rfl)
 have hB:=xea (qzL _ _) hb;generalize xdB X.cz (X.cz.length+1) c=us at *;go_wp2
 go_loopg [16] us.length (fun g i wr=>∃ j:Nat,j+g=us.length/\i=.int .i64 j/\Below w1.heap.size w1 wr/\∀ (i:Nat) q,i<j->us[i]?=some q->xcw (xbG X.cz q) name<0)
 case atStart=>exact⟨0,by omega,rfl,qzL _ _,fun i q hi=>by omega⟩
 case round=>
  obtain⟨j,hj,rfl,hbel,hno⟩:=hrel;have HN:Hid (∀ (i:Nat) q,i<j->us[i]?=some q->xcw (xbG X.cz q) name<0):=hno;clear hno;have hB1:=xaf hB hbel
  by_cases hlt:j<us.length
  ·have hus:us[j]?=some us[j]:=by simp[hlt]
   obtain⟨a',k',e',-,-,-,hru⟩:=hI.later xil hbel;simp only[Value.slice.injEq] at e';obtain⟨rfl,-,rfl⟩:=e';obtain⟨bu,ou,rfl,-,hu⟩:=hru j _ hus;simp only[Nat.mul_one,Nat.add_zero] at hu;obtain⟨q,x,hkq,hxq⟩:=HM.out j _ hus;have hq:=xae hxq;obtain⟨b,o,rfl,-,-,-,-,-,sv,hv3,hms⟩:=hrow q x hxq;have v3:=qzA hB1 hv3;have HMO:Hid (xbG X.cz (q:Int)=x.mz):=by show _=_;simp[xbG,xeN,hxq]
   have hmsl:=hms.later xbq hB1;obtain⟨am,km,rfl,hlm,hkm,hbm,-⟩:=id hmsl;unfold maxLen at hkm;replace hu:wr.cell? ⟨bu,ou+j,none⟩=some (.int .i64 (q:Int)):=by rw[← hkq];exact hu
   have HU:Hid (us[j]?=some (q:Int)):=by show _=_;rw[hus,hkq]
   have b0':=qzA hbel b0;have hq0:(0:Int)<=(q:Int):=by omega
   have hq1:(q:Int)<(X.cz.length:Int):=by omega
   have hj0:(0:Int)<=(j:Int):=by omega
   have hj1:(j:Int)<(us.length:Int):=by omega
   clear hru hus hkq hxq hv3 hms;go_wp2;obtain⟨go,hgo⟩:∃ go,go=gk:=⟨_,rfl⟩
   go_loopg [27] x.mz.length (fun g i wi=>∃ t:Nat,t+g=x.mz.length/\i=.int .i64 t/\Below wr.heap.size wr wi/\∀ (i:Nat) y,i<t->x.mz[i]?=some y->eqN y.name name=false)
   case atStart=>exact⟨0,by omega,rfl,qzL _ _,fun i q hi=>by omega⟩
   case round=>
    obtain⟨t,ht,rfl,hbi,hnt⟩:=hrel;have HT:Hid (∀ (i:Nat) y,i<t->x.mz[i]?=some y->eqN y.name name=false):=hnt;clear hnt
    by_cases htl:t<x.mz.length
    ·obtain⟨a0,k0,e0,-,-,-,hrm⟩:=hmsl.later xbq hbi;simp only[Value.slice.injEq] at e0;obtain⟨rfl,-,rfl⟩:=e0;obtain⟨b2,o2,rfl,-,p0,p1,p2,p3,-,sv,p4,hcc⟩:=hrm t x.mz[t] (by simp[htl])
     have hxt:Hid (x.mz[t]?=some x.mz[t]):=by show _=_;simp[htl]
     generalize x.mz[t]=y at *;simp only[Nat.add_zero] at p0;obtain⟨ac,kc,rfl⟩:=hcc.get;have ht1:(t:Int)<(x.mz.length:Int):=by omega
     have ht0:(0:Int)<=(t:Int):=by omega
     clear hrm
     cases he:eqN y.name name
     ·have he':(y.name.toList == name.toList)=false:=he;go_wp2
      go_roundg (gk-1)
      case measure=>omega
      case rel=>
       refine⟨t+1,by omega,by go_num,xaf hbi (xak _ _),fun i z hi hz=>?_⟩
       by_cases hit:i=t
       ·subst hit;rw[hxt.out] at hz;cases hz;exact he
       ·exact HT.out i z (by omega) hz
     ·have he':(y.name.toList == name.toList)=true:=he;have hnum:Hid (xcw x.mz name=(t:Int)):=xfG hxt.out he HT.out;go_wp2;refine qzK (v:=.tuple #[.int .i64 q,.int .i64 t]) (by simp[results,Try.results9,go_sem]) rfl ⟨?_,xaf hB1 (xaf hbi (xak _ _))⟩
      rw[HS.out,xkh HU.out (by rw[HMO.out,hnum.out];omega) HN.out,HMO.out,hnum.out]
    ·have hnum:Hid (xcw x.mz name<0):=by
      show _<_
      have:xcw x.mz name=-1:=xdW fun i y hy=>HT.out i y (by have:=xae hy;omega) hy
      omega
     go_wp2
     go_roundg (go-1)
     case measure=>omega
     case rel=>
      refine⟨j+1,by omega,by go_num,xaf hbel hbi,fun i z hi hz=>?_⟩
      by_cases hij:i=j
      ·subst hij;rw[HU.out] at hz;cases hz;rw[HMO.out];exact hnum.out
      ·exact HN.out i z (by omega) hz
  ·go_wp2;refine qzK (v:=.tuple #[.int .i64 (-1),.int .i64 (-1)]) (by simp[results,Try.results9,go_sem]) rfl ⟨?_,hB1⟩
   rw[HS.out,xhv fun i k hk=>HN.out i k (by have:=xae hk;omega) hk]
end Go.Proofs.Ytdfbgpiikeheiaa
