/- A part. -/
import Derived.Test.YtbafokihegegiaaGreatDoorRows
import Derived.WalkKit
import Derived.ProofKit
import Derived.OpenShut
import Derived.Below
import Derived.WalkSpells
import Derived.WalkLawsBesides
import Derived.BigQuiet
import Derived.Deep.RegionHeld3
import Derived.Deep.Light
import Derived.Deep.LoopGhost
import Derived.Deep.DeepCutAuto
import Derived.Laws.CopyOwn
import Derived.Laws.Append
import Derived.Laws.Rows
import Derived.Laws.IdiomCopy
namespace Go.Proofs.YtbafokihegegiaaGreatDoor
open Go.ChangeShapes Go.WideShapes Go.ChangeAt Go.RowKit
set_option linter.unusedSimpArgs false
set_option linter.unusedVariables false
set_option maxHeartbeats 8000000
theorem qzB{w:World}{b o:Nat}{cs:Array Value}{t:TypeId}{fr:Nat × Nat}(h:w.heap[b]?=some (.cells cs t fr)):w.cell? ⟨b,o,none⟩=cs[o]?:=cell_of_row _ _ _ _ _ _ h
theorem qzC(n:Nat):n<=n:=Nat.le_refl n
theorem qzD{a b c:Nat}(h:a<=b)(k:b<=c):a<=c:=Nat.le_trans h k
theorem qzE{a b c:Nat}(h:a<b)(k:b<=c):a<c:=Nat.lt_of_lt_of_le h k
theorem qzA{w x:World}{a:Addr}{v:Value}(hb:Below w.heap.size w x)(h:w.cell? a=some v):x.cell? a=some v:=cell_later hb h
theorem qzF{α:Type}{l:List α}{i:Nat}{a:α}:l.toArray.setIfInBounds i a=(l.set i a).toArray:=by simp
theorem qzG{α:Type}{a b:α}{l:List α}:(a :: l).set 0 b=b :: l:=rfl
theorem qzH{α:Type}{a b:α}{l:List α}{n:Nat}:(a :: l).set (n+1) b=a :: l.set n b:=rfl
theorem xfQ {W w1:World}(hb:Below W.heap.size W w1):(∀ b o,b<W.heap.size->w1.cell? ⟨b,o,none⟩=W.cell? ⟨b,o,none⟩)/\(∀ b o,b<W.heap.size->w1.frozen? ⟨b,o,none⟩=W.frozen? ⟨b,o,none⟩):=
 ⟨fun b o h=>hb.cell (p:=⟨b,o,none⟩) h,fun b o h=>hb.frozen (p:=⟨b,o,none⟩) h⟩
theorem xai (w:World)(a:Obj):Below w.heap.size w (w.alloc a):=(Below.refl _ _).alloc (qzC _) _
theorem xbp (w:World)(a b:Obj):Below w.heap.size w ((w.alloc a).alloc b):=(xai _ _).alloc (by simp) _
theorem xeQ (w:World)(a b c:Obj):Below w.heap.size w (((w.alloc a).alloc b).alloc c):=(xbp _ _ _).alloc (by simp;omega) _
theorem xaf {w W w':World}(h:Below w.heap.size w W)(k:Below W.heap.size W w'):Below w.heap.size w w':=h.trans (k.mono h.size)
theorem xbo {w W w':World}{X:Obj}(h:Below w.heap.size w W)(k:Below (W.alloc X).heap.size (W.alloc X) w'):Below w.heap.size w w':=xaf (h.alloc h.size _) k
theorem xam {w:World}{g:Nat}{x:Obj}(h:w.heap[g]?=some x):g<w.heap.size:=(Array.getElem?_eq_some_iff.1 h).1
theorem xad {α:Type}{l:List α}{i:Nat}{x:α}(h:l[i]?=some x):i<l.length:=by
 rcases Nat.lt_or_ge i l.length with h' | h'
 ·exact h'
 ·rw[List.getElem?_eq_none h'] at h;cases h
theorem xa6 {a b:Int}(h:a=b):Ending.returned (.int .i64 a)=.returned (.int .i64 b):=by rw[h]
theorem xbg {a b:Bool}(h:a=b):Ending.returned (.bool a)=.returned (.bool b):=by rw[h]
theorem xab (w:World)(cs:Array Value)(t:TypeId)(n:Nat)(hn:w.heap.size=n)(j:Nat):(w.alloc (.cells cs t)).cell? ⟨n,j,none⟩=cs[j]?:=by
 subst hn
 exact qzB (heap_alloc_new w _)
structure QV where
 k:Int
 n:Int
structure QO where
 cls:Int
 slots:List QV
structure QI where
 op:Int
 a:Int
 b:Int
 c:Int
 name:ByteArray
structure QM where
 name:ByteArray
 args:Int
 temps:Int
 prim:Int
 code:List QI
structure QC where
 name:ByteArray
 super:Int
 slots:Int
 mz:List QM
structure QW where
 cz:List QC
 heap:List QO
 ez:Int
def Keeps (P:Nat->Prop)(w w':World):Prop:=∀ b o v,P b->w.cell? ⟨b,o,none⟩=some v->w'.cell? ⟨b,o,none⟩=some v
theorem Keeps.of_below {P:Nat->Prop}{w w':World}(hb:Below w.heap.size w w'):Keeps P w w':=fun b o v _ h=>qzA hb h
theorem Keeps.of_setCell {P:Nat->Prop}{w:World}{a:Addr}(ha:¬ P a.block)(u:Value):Keeps P w (w.setCell a u):=fun b o v hl h=>by
 rw[World.cell?_setCell_other _ _ _ _ (by intro e;subst e;exact ha hl)];exact h
theorem Keeps.trans {P:Nat->Prop}{w w' w'':World}(h:Keeps P w w')(k:Keeps P w' w''):Keeps P w w'':=fun b o v hl hc=>k b o v hl (h b o v hl hc)
theorem Keeps.mono {P Q:Nat->Prop}{w w':World}(h:Keeps P w w')(hl:∀ b,Q b->P b):Keeps Q w w':=fun b o v hb hc=>h b o v (hl _ hb) hc
theorem Keeps.refl (P:Nat->Prop)(w:World):Keeps P w w:=fun _ _ _ _ h=>h
theorem Keeps.of_block {P:Nat->Prop}{w w':World}(h:∀ b,P b->b<w.heap.size->w'.heap[b]?=w.heap[b]?):Keeps P w w':=fun b o v hp hc=>by
 have hl:=World.block_lt_of_cell? w ⟨b,o,none⟩ hc;unfold World.cell? at hc ⊢;rw[h b hp hl]
 exact hc
abbrev Lay (α:Type):=(Nat->Prop)->World->(Nat->Option Value)->α->Prop
structure Good {α:Type}(E:Lay α)(sz:Nat):Prop where
 move:∀ {P Q:Nat->Prop} {w w':World} {f f':Nat->Option Value} {x:α},E P w f x->(∀ b,P b->Q b)->Keeps P w w'->(∀ k,k<sz->∀ v,f k=some v->f' k=some v)->E Q w' f' x
 there:∀ {P:Nat->Prop} {w:World} {f:Nat->Option Value} {x:α},E P w f x->∀ k,k<sz->∃ u,f k=some u/\u.oneCell'=true
 pos:0<sz
def RowAt {α:Type}(E:Lay α)(sz:Nat)(P:Nat->Prop)(w:World)(ad:Option Addr)(xs:List α):Prop:=
 ∀ i x,xs[i]?=some x->∃ b o,ad=some ⟨b,o,none⟩/\P b/\E P w (fun k=>w.cell? ⟨b,o+i*sz+k,none⟩) x
def IsRow {α:Type}(E:Lay α)(sz bytes:Nat)(P:Nat->Prop)(w:World)(v:Value)(xs:List α):Prop:=
 ∃ ad cap,v=.slice ad xs.length cap/\xs.length<=cap/\cap<=maxLen/\xs.length*bytes<=140737488351232/\RowAt E sz P w ad xs
theorem RowAt.keep {α:Type}{E:Lay α}{sz:Nat}(G:Good E sz){P Q:Nat->Prop}{w w':World}{ad:Option Addr}{xs:List α}(h:RowAt E sz P w ad xs)(hk:Keeps P w w')(hl:∀ b,P b->Q b):RowAt E sz Q w' ad xs:=fun i x hx=>by
 obtain⟨b,o,e1,e2,e3⟩:=h i x hx
 exact⟨b,o,e1,hl _ e2,G.move e3 hl hk fun k _ v hv=>hk _ _ _ e2 hv⟩
theorem IsRow.keep {α:Type}{E:Lay α}{sz bytes:Nat}(G:Good E sz){P Q:Nat->Prop}{w w':World}{v:Value}{xs:List α}(h:IsRow E sz bytes P w v xs)(hk:Keeps P w w')(hl:∀ b,P b->Q b):IsRow E sz bytes Q w' v xs:=by
 obtain⟨ad,cap,h1,h2,h3,h4,h5⟩:=h
 exact⟨ad,cap,h1,h2,h3,h4,h5.keep G hk hl⟩
def xi7:Lay QI:=fun _ _ f x=>f 0=some (.int .i64 x.op)/\f 1=some (.int .i64 x.a)/\f 2=some (.int .i64 x.b)/\f 3=some (.int .i64 x.c)/\f 4=some (.string x.name)/\x.name.size<=140737488351232
def xsv:Lay QV:=fun _ _ f x=>f 0=some (.int .i64 x.k)/\f 1=some (.int .i64 x.n)
abbrev xaG:=IsRow xi7 5 48
abbrev xaV:=IsRow xsv 2 16
def xf9:Lay QM:=fun P w f x=>f 0=some (.string x.name)/\f 1=some (.int .i64 x.args)/\f 2=some (.int .i64 x.temps)/\f 3=some (.int .i64 x.prim)/\x.name.size<=140737488351232/\∃ v,f 4=some v/\xaG P w v x.code
def ObjC:Lay QO:=fun P w f x=>f 0=some (.int .i64 x.cls)/\∃ v,f 1=some v/\xaV P w v x.slots
abbrev xbU:=IsRow xf9 5 64
abbrev xav:=IsRow ObjC 2 32
def xkb:Lay QC:=fun P w f x=>f 0=some (.string x.name)/\f 1=some (.int .i64 x.super)/\f 2=some (.int .i64 x.slots)/\x.name.size<=140737488351232/\∃ v,f 3=some v/\xbU P w v x.mz
abbrev xag:=IsRow xkb 4 56
theorem xc1 {α:Type}{E:Lay α}{sz bytes:Nat}{P:Nat->Prop}{w:World}{v:Value}{xs:List α}(h:IsRow E sz bytes P w v xs):v.oneCell'=true:=by
 obtain⟨ad,cap,rfl,-⟩:=h;rfl
theorem xaU:Good xi7 5 where
 move h _ _ hf:=⟨hf 0 (by omega) _ h.1,hf 1 (by omega) _ h.2.1,hf 2 (by omega) _ h.2.2.1,hf 3 (by omega) _ h.2.2.2.1,hf 4 (by omega) _ h.2.2.2.2.1,h.2.2.2.2.2⟩
 there h k hk:=by
  obtain⟨h0,h1,h2,h3,h4,-⟩:=h
  match k,hk with
  | 0,_=>exact⟨_,h0,rfl⟩
  | 1,_=>exact⟨_,h1,rfl⟩
  | 2,_=>exact⟨_,h2,rfl⟩
  | 3,_=>exact⟨_,h3,rfl⟩
  | 4,_=>exact⟨_,h4,rfl⟩
 pos:=by omega
theorem xa7:Good xsv 2 where
 move h _ _ hf:=⟨hf 0 (by omega) _ h.1,hf 1 (by omega) _ h.2⟩
 there h k hk:=by
  obtain⟨h0,h1⟩:=h
  match k,hk with
  | 0,_=>exact⟨_,h0,rfl⟩
  | 1,_=>exact⟨_,h1,rfl⟩
 pos:=by omega
theorem xbj:Good xf9 5 where
 move h hl hk hf:=by
  obtain⟨h0,h1,h2,h3,h4,v,h5,h6⟩:=h
  exact⟨hf 0 (by omega) _ h0,hf 1 (by omega) _ h1,hf 2 (by omega) _ h2,hf 3 (by omega) _ h3,h4,v,hf 4 (by omega) _ h5,h6.keep xaU hk hl⟩
 there h k hk:=by
  obtain⟨h0,h1,h2,h3,h4,v,h5,h6⟩:=h
  match k,hk with
  | 0,_=>exact⟨_,h0,rfl⟩
  | 1,_=>exact⟨_,h1,rfl⟩
  | 2,_=>exact⟨_,h2,rfl⟩
  | 3,_=>exact⟨_,h3,rfl⟩
  | 4,_=>exact⟨_,h5,xc1 h6⟩
 pos:=by omega
theorem xaB:Good ObjC 2 where
 move h hl hk hf:=by
  obtain⟨h0,v,h5,h6⟩:=h
  exact⟨hf 0 (by omega) _ h0,v,hf 1 (by omega) _ h5,h6.keep xa7 hk hl⟩
 there h k hk:=by
  obtain⟨h0,v,h5,h6⟩:=h
  match k,hk with
  | 0,_=>exact⟨_,h0,rfl⟩
  | 1,_=>exact⟨_,h5,xc1 h6⟩
 pos:=by omega
theorem xax:Good xkb 4 where
 move h hl hk hf:=by
  obtain⟨h0,h1,h2,h4,v,h5,h6⟩:=h
  exact⟨hf 0 (by omega) _ h0,hf 1 (by omega) _ h1,hf 2 (by omega) _ h2,h4,v,hf 3 (by omega) _ h5,h6.keep xbj hk hl⟩
 there h k hk:=by
  obtain⟨h0,h1,h2,h4,v,h5,h6⟩:=h
  match k,hk with
  | 0,_=>exact⟨_,h0,rfl⟩
  | 1,_=>exact⟨_,h1,rfl⟩
  | 2,_=>exact⟨_,h2,rfl⟩
  | 3,_=>exact⟨_,h5,xc1 h6⟩
 pos:=by omega
section
variable {α:Type} {E:Lay α} {sz bytes:Nat} {P Q:Nat->Prop} {w w':World} {v:Value} {xs:List α}
theorem IsRow.later (h:IsRow E sz bytes P w v xs)(G:Good E sz)(hb:Below w.heap.size w w'):IsRow E sz bytes P w' v xs:=h.keep G (.of_below hb) fun _ h=>h
theorem IsRow.mono (h:IsRow E sz bytes P w v xs)(G:Good E sz)(hl:∀ b,P b->Q b):IsRow E sz bytes Q w v xs:=h.keep G (.refl _ _) hl
end
def Cells {α:Type}(E:Lay α)(sz:Nat)(P:Nat->Prop)(w:World)(cs:List Value)(xs:List α):Prop:=
 cs.length=xs.length*sz/\∀ i x,xs[i]?=some x->E P w (fun k=>cs[i*sz+k]?) x
section
variable {α:Type} {E:Lay α} {sz bytes:Nat} {P Q:Nat->Prop} {w w':World} {cs:List Value} {xs:List α}
theorem Cells.keep (h:Cells E sz P w cs xs)(G:Good E sz)(hk:Keeps P w w')(hl:∀ b,P b->Q b):Cells E sz Q w' cs xs:=
 ⟨h.1,fun i x hx=>G.move (h.2 i x hx) hl hk fun _ _ _ h=>h⟩
theorem Cells.later (h:Cells E sz P w cs xs)(G:Good E sz)(hb:Below w.heap.size w w'):Cells E sz P w' cs xs:=h.keep G (.of_below hb) fun _ h=>h
theorem Cells.nil:Cells E sz P w [] ([]:List α):=⟨by simp,fun i x hx=>by simp at hx⟩
theorem Cells.append {ds:List Value}{ys:List α}(h:Cells E sz P w cs xs)(G:Good E sz)(k:Cells E sz P w ds ys):Cells E sz P w (cs++ds) (xs++ys):=by
 have hl:=h.1;refine⟨by rw[List.length_append,List.length_append,h.1,k.1,Nat.add_mul],fun i x hx=>?_⟩
 by_cases hi:i<xs.length
 ·rw[List.getElem?_append_left hi] at hx;refine G.move (h.2 i x hx) (fun _ h=>h) (.refl _ _) fun k hk v hv=>?_
  have hlt:=xad hv;simp only[List.getElem?_append_left hlt]
  exact hv
 ·rw[List.getElem?_append_right (by omega)] at hx
  refine G.move (k.2 _ x hx) (fun _ h=>h) (.refl _ _) fun k hk v hv=>?_
  obtain⟨d,rfl⟩:∃ d,i=xs.length+d:=⟨i-xs.length,by omega⟩
  simp only[Nat.add_sub_cancel_left] at hv;rw[List.getElem?_append_right (by rw[hl,Nat.add_mul];omega),hl,Nat.add_mul,show xs.length*sz+d*sz+k-xs.length*sz=d*sz+k by omega]
  exact hv
theorem Cells.one {x:α}(G:Good E sz)(h1:cs.length=sz)(h:E P w (fun k=>cs[k]?) x):Cells E sz P w cs [x]:=by
 refine⟨by simpa using h1,fun i y hy=>?_⟩
 have hi:=xad hy;obtain rfl:i=0:=by simpa using hi
 simp at hy
 subst hy;refine G.move h (fun _ h=>h) (.refl _ _) fun k hk v hv=>by simpa using hv
theorem Cells.all (h:Cells E sz P w cs xs)(G:Good E sz):∀ u∈cs,u.oneCell'=true:=by
 intro u hu;obtain⟨j,hj,rfl⟩:=List.mem_iff_getElem.1 hu;have hp:=G.pos;have hl:=h.1
 have h1:j / sz<xs.length:=by
  rw[Nat.div_lt_iff_lt_mul hp];omega
 obtain⟨v,hv,ho⟩:=G.there (h.2 (j / sz) xs[j / sz] (by simp[h1])) (j % sz) (Nat.mod_lt _ hp)
 rw[Nat.div_add_mod'] at hv;rw[List.getElem?_eq_getElem hj] at hv
 cases hv
 exact ho
theorem RowAt.cells {ad:Option Addr}(h:RowAt E sz P w ad xs)(G:Good E sz):∃ cs,Cells E sz P w cs xs/\∀ j u,cs[j]?=some u->∃ a,ad=some a/\w.cell? (a.add j)=some u:=by
 have hp:=G.pos
 cases xs with
 | nil=>exact⟨[],.nil,fun j u hu=>by simp at hu⟩
 | cons y r=>
  obtain⟨b,o,rfl,-⟩:=h 0 y rfl;refine⟨(List.range ((y :: r).length*sz)).map fun j=>(w.cell? ⟨b,o+j,none⟩).getD undef,⟨by simp,fun i x hx=>?_⟩,fun j u hu=>?_⟩
  ·have hi:=xad hx;obtain⟨b',o',e,-,h1⟩:=h i x hx
   cases e
   refine G.move h1 (fun _ h=>h) (.refl _ _) fun k hk v hv=>?_
   have hlt:i*sz+k<(y :: r).length*sz:=by
    have:i*sz+k<(i+1)*sz:=by rw[Nat.add_mul];omega
    exact qzE this (Nat.mul_le_mul_right _ hi)
   rw[List.getElem?_map,List.getElem?_range hlt];rw[Nat.add_assoc] at hv
   simp[hv]
  ·rw[List.getElem?_map] at hu
   have hj:j<(y :: r).length*sz:=by
    rcases Nat.lt_or_ge j ((y :: r).length*sz) with h' | h'
    ·exact h'
    ·rw[List.getElem?_eq_none (by simpa using h')] at hu;simp at hu
   rw[List.getElem?_range hj] at hu;refine⟨_,rfl,?_⟩;rw[Addr.add_lit];have hjs:j / sz<(y :: r).length:=by rw[Nat.div_lt_iff_lt_mul hp];exact hj
   obtain⟨b',o',e,-,h1⟩:=h (j / sz) ((y :: r)[j / sz]) (by simp)
   cases e
   obtain⟨v,hv,-⟩:=G.there h1 (j % sz) (Nat.mod_lt _ hp);rw[Nat.add_assoc,Nat.div_add_mod'] at hv;rw[hv]
   simpa [hv] using hu
theorem Cells.row {g cap:Nat}(h:Cells E sz P w cs xs)(G:Good E sz)(hP:P g){t:TypeId}{fr:Nat × Nat}{cur:Array Value}(hg:w.heap[g]?=some (.cells cur t fr))(hc:cur.toList.take (xs.length*sz)=cs)(h1:xs.length<=cap)(h2:cap<=maxLen)(h3:xs.length*bytes<=140737488351232) :
  IsRow E sz bytes P w (.slice (some ⟨g,0,none⟩) xs.length cap) xs:=by
 refine⟨_,_,rfl,h1,h2,h3,fun i x hx=>⟨g,0,rfl,hP,?_⟩⟩
 refine G.move (h.2 i x hx) (fun _ h=>h) (.refl _ _) fun k hk v hv=>?_
 have hlt:=xad hv;rw[cell_of_row w g _ _ _ _ hg,Nat.zero_add];subst hc;rw[List.getElem?_take] at hv
 split at hv
 ·simpa using hv
 ·cases hv
end
theorem xcD {P:Program}(w:World)(dT sT ty elem:TypeId)(sz g len dCap:Nat)(sp:Option Addr)(sCap:Nat)(cur:Array Value)(t:TypeId)(cs:List Value)
  (hu:P.underlying dT=some (.slice elem)) (hs:(P.info? elem).map (·.size)=some sz) (hg:w.heap[g]?=some (.cells cur t (0,0))) (hn:cs.length=len*sz)
  (hsrc:∀ j v,cs[j]?=some v->∃ a,sp=some a/\w.cell? (a.add j)=some v) (hcur:cur.size=len*sz) (h1:∀ v∈cs,v.oneCell'=true) :
  ∃ w',(Builtin.copy_ #[dT,sT] ty #[.slice (some ⟨g,0,none⟩) len dCap,.slice sp len sCap]).run P w=.ok (goInt len) w'/\w'.heap[g]?=some (.cells cs.toArray t (0,0))/\∀ B w0,Below B w0 w->B<=g->Below B w0 w':=by
 cases hq:P.info? elem with
 | none=>simp[hq] at hs
 | some i=>
  have hi:i.size=sz:=by simpa [hq] using hs
  have hst:=run_storeCells_at P g 0 t cs 0 cur w hg (by simp;omega) h1
  have hm:Nat.min len len=len:=Nat.min_self len
  have hfc:(Builtin.firstCells sz len (.slice sp len sCap)).run P w=.ok cs.toArray w:=by
   cases sp with
   | some a=>exact run_firstCells_some w sz len a len sCap cs hn (fun j v hv=>by obtain⟨a',e,h⟩:=hsrc j v hv;cases e;exact h)
   | none=>
    have:cs=[]:=by
     cases cs with
     | nil=>rfl
     | cons c r=>obtain⟨a',e,_⟩:=hsrc 0 c rfl;cases e
    rw[this]
    exact run_firstCells_none w sz len len sCap
  refine⟨w.setRow g cs.toArray,?_,setRow_heap w g cur _ t _ hg,fun B w0 hb hB=>below_setRow hb hB _⟩
  have e:(cur.toList.take (0+0)++cs++cur.toList.drop (0+0+cs.length)).toArray=cs.toArray:=by
   have:cur.toList.drop cs.length=[]:=by rw[List.drop_eq_nil_iff];simp;omega
   simp[this]
  rw[e] at hst
  simp[Builtin.copy_,run_underlying hu,Builtin.lenOf,sizeOf,typeInfo,hq,hi,hm,hfc,hst]
theorem xbu {P:Program}{t:TypeId}{z:Value}{n m:Nat}(h:(P.info? t).map (fun i=>(i.zero,i.size,i.bytes))=some (some z,n,m)):∃ i,P.info? t=some i/\i.zero=some z/\i.size=n/\i.bytes=m:=by
 cases hq:P.info? t with
 | none=>simp[hq] at h
 | some i=>
  simp[hq] at h
  exact⟨i,rfl,h.1,h.2.1,h.2.2⟩
abbrev zI:Value:=.agg #[.int .i64 0,.int .i64 0,.int .i64 0,.int .i64 0,.string ⟨#[]⟩]
abbrev zM:Value:=.agg #[.string ⟨#[]⟩,.int .i64 0,.int .i64 0,.int .i64 0,.slice none 0 0]
abbrev zC:Value:=.agg #[.string ⟨#[]⟩,.int .i64 0,.int .i64 0,.slice none 0 0]
theorem xf0:(Tryz.prog.info? 69).map (fun i=>(i.zero,i.size,i.bytes))=some (some zI,5,48):=by kernel_rfl
theorem xnI:(Tryz.prog.info? 51).map (fun i=>(i.zero,i.size,i.bytes))=some (some zM,5,64):=by kernel_rfl
theorem xqd:(Tryz.prog.info? 80).map (fun i=>(i.zero,i.size,i.bytes))=some (some zC,4,56):=by kernel_rfl
theorem xok:(Tryz.prog.info? 41).map (fun i=>(i.zero,i.size,i.bytes))=some (some (.agg #[.int .i64 0,.int .i64 0]),2,16):=by kernel_rfl
theorem xql:(Tryz.prog.info? 84).map (fun i=>(i.zero,i.size,i.bytes))=some (some (.agg #[.int .i64 0,.slice none 0 0]),2,32):=by kernel_rfl
theorem xrJ:(Tryz.prog.info? 69).map (·.size)=some 5:=by kernel_rfl
theorem xrg:(Tryz.prog.info? 41).map (·.size)=some 2:=by kernel_rfl
theorem xg6 {T e:TypeId}{zs:Array Value}{sz by':Nat}(hu:Tryz.prog.underlying T=some (.slice e))(hI:(Tryz.prog.info? e).map (fun i=>(i.zero,i.size,i.bytes))=some (some (.agg zs),sz,by'))(hp:0<by')(n:Nat)(hb:n*by'<=140737488351232)(hc:(Value.agg zs).cells=zs)(w:World):(Instr.makeSlice T (.int .i64 (n:Int)) (.int .i64 (n:Int))).run Tryz.prog w=.ok (.slice (some ⟨w.heap.size,0,none⟩) n n) (w.alloc (.cells (madeCells zs (n*sz)) e)):=by
 obtain⟨i0,hi,hz0,hz1,hz2⟩:=xbu hI;have hn:n<=n*by':=Nat.le_mul_of_pos_right _ hp
 have:=run_make (P:=Tryz.prog) w T e i0 _ hu hi hz0 .i64 .i64 n n (by omega) (by omega) (by rw[hz2];rw[Nat.mul_comm] at *;omega) (by omega)
 rw[this,hz1,hc]
 simp
abbrev xeT (T e:TypeId)(zs:Array Value)(sz n:Nat):Prop:=∀ w:World,(Instr.makeSlice T (.int .i64 (n:Int)) (.int .i64 (n:Int))).run Tryz.prog w=.ok (.slice (some ⟨w.heap.size,0,none⟩) n n) (w.alloc (.cells (madeCells zs (n*sz)) e))
theorem xov (n:Nat)(hb:n*48<=140737488351232):xeT 49 69 #[.int .i64 0,.int .i64 0,.int .i64 0,.int .i64 0,.string ⟨#[]⟩] 5 n:=fun w=>xg6 Tryz.underlying49 xf0 (by omega) n hb rfl w
theorem xmm (n:Nat)(hb:n*64<=140737488351232):xeT 78 51 #[.string ⟨#[]⟩,.int .i64 0,.int .i64 0,.int .i64 0,.slice none 0 0] 5 n:=fun w=>xg6 Tryz.underlying78 xnI (by omega) n hb rfl w
theorem xjj (n:Nat)(hb:n*56<=140737488351232):xeT 23 80 #[.string ⟨#[]⟩,.int .i64 0,.int .i64 0,.slice none 0 0] 4 n:=fun w=>xg6 Tryz.underlying23 xqd (by omega) n hb rfl w
theorem xd2 (n:Nat)(hb:n*16<=140737488351232):xeT 52 41 #[.int .i64 0,.int .i64 0] 2 n:=fun w=>xg6 Tryz.underlying52 xok (by omega) n hb rfl w
theorem xox (n:Nat)(hb:n*32<=140737488351232):xeT 24 84 #[.int .i64 0,.slice none 0 0] 2 n:=fun w=>xg6 Tryz.underlying24 xql (by omega) n hb rfl w
abbrev xsy (w w':World):Nat->Prop:=fun b=>w.heap.size<=b/\b<w'.heap.size
theorem xa9 {w:World}{a:Addr}{v:Value}(h:w.cell? a=some v)(u:Value):(w.setCell a u).cell? a=some u:=by
 rw[World.cell?_setCell_same _ _ _ h]
theorem xaX (w:World)(a:Addr)(v:Value):(w.setCell a v).heap.size=w.heap.size:=by
 simp[World.setCell]
theorem xas {P:Nat->Prop}{w w0:World}(h:Keeps P w0 w){b o:Nat}(hb:¬ P b)(u:Value):Keeps P w0 (w.setCell ⟨b,o,none⟩ u):=h.trans (Keeps.of_setCell hb u)
abbrev MV (x:QM)(cv:Value):Value:=.agg #[.string x.name,.int .i64 x.args,.int .i64 x.temps,.int .i64 x.prim,cv]
theorem xeJ {P:Nat->Prop}(x:QM)(v:Value)(w:World)(hh:xaG P w v x.code):Calls Tryz.prog 76 #[MV x v] w fun e w'=>∃ a c,e=.returned (MV x (.slice a x.code.length c))/\xaG (xsy w w') w' (.slice a x.code.length c) x.code/\Below w.heap.size w w':=by
 obtain⟨ad,cap,rfl,hl,hcap,hby,hrow⟩:=hh;have hmk:=xov x.code.length hby;obtain⟨cs,hcs,hsrc⟩:=hrow.cells xaU;have hs0:((w.alloc (.cells #[.string x.name,.int .i64 x.args,.int .i64 x.temps,.int .i64 x.prim,.slice ad x.code.length cap] 51)).alloc (.cells #[.string ⟨#[]⟩,.int .i64 0,.int .i64 0,.int .i64 0,.slice none 0 0] 51)).heap.size=w.heap.size+1+1:=by simp
 obtain⟨w1,hcp,h2,h3⟩:=xcD (P:=Tryz.prog) (((w.alloc (.cells #[.string x.name,.int .i64 x.args,.int .i64 x.temps,.int .i64 x.prim,.slice ad x.code.length cap] 51)).alloc (.cells #[.string ⟨#[]⟩,.int .i64 0,.int .i64 0,.int .i64 0,.slice none 0 0] 51)).alloc (.cells (madeCells #[.int .i64 0,.int .i64 0,.int .i64 0,.int .i64 0,.string ⟨#[]⟩] (x.code.length*5)) 69)) 49 49 3 69 5 _ x.code.length x.code.length ad cap (madeCells #[.int .i64 0,.int .i64 0,.int .i64 0,.int .i64 0,.string ⟨#[]⟩] (x.code.length*5)) 69 cs Tryz.underlying49 xrJ (heap_alloc_new _ _) hcs.1
  (fun j v hj=>by obtain⟨a,e,h⟩:=hsrc j v hj;exact⟨a,e,qzA (xeQ _ _ _ _) h⟩) (size_madeCells _ _) (hcs.all xaU)
 have HB:=h3 _ _ (xai _ _) (qzC _);have HC:Hid (Cells xi7 5 P w cs x.code):=hcs;rw[hs0] at hcp h2;have h2':=xam h2;have H2:Hid (w1.heap[w.heap.size+1+1]?=some (.cells cs.toArray 69 (0,0))):=h2;obtain⟨hc,hf⟩:=xfQ HB;have hst:∀ v,(w1.setCell ⟨w.heap.size,4,none⟩ v).cell? ⟨w.heap.size,4,none⟩=some v:=fun v=>xa9 (v:=.slice ad x.code.length cap) (by rw[hc _ _ (by simp;omega)];simp) v
 have HB':Below w.heap.size w w1:=(xbp _ _ _).trans (HB.mono (by simp;omega))
 clear h2 h3 hrow hcs hsrc HB hs0;go_enter Tryz.func76,Tryz.ntmps76;go_wp2;refine bodyPost_ret (v:=MV x (.slice (some ⟨w.heap.size+1+1,0,none⟩) x.code.length x.code.length)) ?_ rfl ⟨_,_,rfl,?_,?_⟩
 ·simp[results,Tryz.results76,go_sem,hc]
 ·refine IsRow.keep xaU (w:=w1) (P:=fun b=>w.heap.size+1+1<=b/\b<w1.heap.size) ?_ ?_ ?_
  ·exact Cells.row (E:=xi7) (sz:=5) (cs:=cs) ⟨HC.out.1,HC.out.2⟩ xaU ⟨by omega,h2'⟩ H2.out (by simp;rw[List.take_of_length_le];rw[HC.out.1];exact qzC _) (qzC _) (by unfold maxLen;omega) hby
  ·exact xas (xas (xas (xas (xas (xas (Keeps.refl _ _) (fun h=>by have:=h.1;omega) _) (fun h=>by have:=h.1;omega) _) (fun h=>by have:=h.1;omega) _) (fun h=>by have:=h.1;omega) _) (fun h=>by have:=h.1;omega) _) (fun h=>by have:=h.1;omega) _
  ·rintro b ⟨h1,h2⟩;exact⟨by omega,by simpa [xaX] using h2⟩
 ·exact ((((((HB'.setCell (by simp) _).setCell (by simp) _).setCell (by simp) _).setCell (by simp) _).setCell (by simp) _).setCell (by simp) _)
def OwnSt {α:Type}(E:Lay α)(sz:Nat)(t:TypeId)(w:World)(B:Nat)(xs:List α)(j:Nat):Prop:=
 (∃ cur:Array Value,w.heap[B]?=some (.cells cur t (0,0))/\cur.size=xs.length*sz)/\∀ i x,i<j->xs[i]?=some x->E (fun b=>B<b/\b<w.heap.size) w (fun k=>w.cell? ⟨B,i*sz+k,none⟩) x
theorem xae {w:World}{B o:Nat}{cur:Array Value}{t:TypeId}{fr:Nat × Nat}(h:w.heap[B]?=some (.cells cur t fr))(v:Value):(w.setCell ⟨B,o,none⟩ v).heap[B]?=some (.cells (cur.setIfInBounds o v) t fr):=by
 rw[setCell_eq_setRow w B o cur t fr v h]
 exact setRow_heap w B cur _ t fr h
theorem xac {w:World}{B o g:Nat}(hg:g≠B)(v:Value):(w.setCell ⟨B,o,none⟩ v).heap[g]?=w.heap[g]?:=Below.heap_setCell _ _ _ _ hg
theorem xcc {B n:Nat}{t:TypeId}:∀ (vs:List Value) (o:Nat) (w:World),(∃ cur:Array Value,w.heap[B]?=some (.cells cur t (0,0))/\cur.size=n)->∃ cur:Array Value,(w.setCells B o vs).heap[B]?=some (.cells cur t (0,0))/\cur.size=n
 | [],_,_,h=>h
 | v :: r,o,w,h=>by
  obtain⟨cur,h1,h2⟩:=h
  exact xcc r (o+1) _ ⟨_,xae h1 v,by simpa using h2⟩
theorem xaF {B g:Nat}(hg:g≠B):∀ (vs:List Value) (o:Nat) (w:World),(w.setCells B o vs).heap[g]?=w.heap[g]?
 | [],_,_=>rfl
 | v :: r,o,w=>(xaF hg r (o+1) _).trans (xac hg v)
theorem xbq {B:Nat}:∀ (vs:List Value) (o:Nat) (w:World),(w.setCells B o vs).heap.size=w.heap.size
 | [],_,_=>rfl
 | v :: r,o,w=>(xbq r (o+1) _).trans (xaX _ _ _)
section
variable {α:Type} {E:Lay α} {sz:Nat} {t:TypeId} {w w':World} {B:Nat} {xs:List α} {j:Nat}
theorem OwnSt.later (h:OwnSt E sz t w B xs j)(G:Good E sz)(hb:Below w.heap.size w w'):OwnSt E sz t w' B xs j:=by
 obtain⟨⟨cur,h1,h2⟩,h3⟩:=h;refine⟨⟨cur,by rw[hb.block _ (xam h1)];exact h1,h2⟩,fun i x hi hx=>?_⟩
 exact G.move (h3 i x hi hx) (fun b h=>⟨h.1,qzE h.2 hb.size⟩) (.of_below hb) fun k _ v hv=>qzA hb hv
theorem OwnSt.start (xs:List α)(c:Array Value)(hc:c.size=xs.length*sz):OwnSt E sz t (w.alloc (.cells c t)) w.heap.size xs 0:=
 ⟨⟨c,heap_alloc_new w _,hc⟩,fun i x hi _=>by omega⟩
theorem OwnSt.step {x:α}{vs:List Value}(h:OwnSt E sz t w B xs j)(G:Good E sz)(hx:xs[j]?=some x)(hl:vs.length=sz)(hE:E (fun b=>B<b/\b<w.heap.size) w (fun k=>vs[k]?) x):OwnSt E sz t (w.setCells B (j*sz) vs) B xs (j+1):=by
 obtain⟨⟨cur,h1,h2⟩,h3⟩:=h;have hj:=xad hx;have hK:Keeps (fun b=>B<b/\b<w.heap.size) w (w.setCells B (j*sz) vs):=Keeps.of_block fun b hb _=>xaF (by omega) _ _ _
 refine⟨xcc vs _ w ⟨cur,h1,h2⟩,fun i y hi hy=>?_⟩
 have hz:=xbq (B:=B) vs (j*sz) w
 have hin:j*sz+sz<=xs.length*sz:=by
  have:=Nat.mul_le_mul_right sz (show j+1<=xs.length by omega)
  rw[Nat.add_mul] at this;omega
 by_cases hij:i=j
 ·subst hij;rw[hx] at hy
  cases hy
  refine G.move hE (fun b h=>⟨h.1,by rw[hz];exact h.2⟩) hK fun k hk v hv=>?_
  have:=World.cell?_setCells_in B vs (i*sz) w (fun q hq=>by rw[qzB h1];simp;omega) k (by omega)
  rw[this];rw[List.getElem?_eq_getElem (by omega)] at hv
  exact hv
 ·refine G.move (h3 i y (by omega) hy) (fun b h=>⟨h.1,by rw[hz];exact h.2⟩) hK fun k hk v hv=>?_
  rw[World.cell?_setCells_out B vs (j*sz) w _ (fun _ _=>Or.inl ?_)]
  ·exact hv
  ·have:=Nat.mul_le_mul_right sz (show i+1<=j by omega)
   rw[Nat.add_mul] at this
   simp
   omega
theorem OwnSt.row {bytes:Nat}(h:OwnSt E sz t w B xs xs.length)(G:Good E sz)(hb:xs.length*bytes<=140737488351232)(hp:0<bytes):IsRow E sz bytes (fun b=>B<=b/\b<w.heap.size) w (.slice (some ⟨B,0,none⟩) xs.length xs.length) xs:=by
 obtain⟨⟨cur,h1,h2⟩,h3⟩:=h;have hn:xs.length<=xs.length*bytes:=Nat.le_mul_of_pos_right _ hp;refine⟨_,_,rfl,qzC _,by unfold maxLen;omega,hb,fun i x hx=>⟨B,0,rfl,⟨qzC _,xam h1⟩,?_⟩⟩
 exact G.move (h3 i x (xad hx) hx) (fun b h=>⟨by omega,h.2⟩) (.refl _ _) fun k _ v hv=>by rw[Nat.zero_add];exact hv
theorem OwnSt.cells (h:OwnSt E sz t w B xs xs.length)(G:Good E sz):∃ cur:Array Value,w.heap[B]?=some (.cells cur t (0,0))/\Cells E sz (fun b=>B<b/\b<w.heap.size) w cur.toList xs:=by
 obtain⟨⟨cur,h1,h2⟩,h3⟩:=h;refine⟨cur,h1,by simpa using h2,fun i x hx=>?_⟩
 exact G.move (h3 i x (xad hx) hx) (fun b h=>h) (.refl _ _) fun k _ v hv=>by rw[qzB h1] at hv;simpa using hv
end
theorem xgy {P:Nat->Prop}(xs:List QM)(v:Value)(w:World)(hh:xbU P w v xs):Calls Tryz.prog 48 #[v] w fun e w'=>∃ g,e=.returned (.slice (some ⟨g,0,none⟩) xs.length xs.length)/\OwnSt xf9 5 51 w' g xs xs.length/\w.heap.size<=g/\Below w.heap.size w w':=by
 obtain⟨ad,cap,rfl,hl,hcap,hby,hrow⟩:=hh;have hmk:=xmm xs.length hby;go_enter Tryz.func48,Tryz.ntmps48;go_wp2
 go_loopg [11] xs.length (fun g c wr=>∃ j:Nat,j+g=xs.length/\c=.int .i64 j/\Below w.heap.size w wr/\OwnSt xf9 5 51 wr w.heap.size xs j/\w.heap.size<wr.heap.size)
 case atStart=>exact⟨0,by omega,rfl,xai _ _,OwnSt.start _ _ (size_madeCells _ _),by simp⟩
 case round=>
  obtain⟨j,hj,rfl,hbel,hst,hz⟩:=hrel;clear hmk
  by_cases hlt:j<xs.length
  ·obtain⟨b,o,rfl,-,hv0,hv1,hv2,hv3,hsz,sv,hv4,hsl⟩:=hrow j xs[j] (by simp[hlt])
   have hxj:Hid (xs[j]?=some xs[j]):=by show _=_;simp[hlt]
   generalize xs[j]=x at *;simp only[Nat.add_zero] at hv0;have u0:=qzA hbel hv0;have u1:=qzA hbel hv1;have u2:=qzA hbel hv2;have u3:=qzA hbel hv3;have u4:=qzA hbel hv4;have hsl2:=hsl.later xaU hbel;obtain⟨ad2,cap2,rfl,-,-,-,-⟩:=id hsl2;clear hv0 hv1 hv2 hv3 hv4 hsl hrow;have hj1:(j:Int)<(xs.length:Int):=by omega
   have hj0:(0:Int)<=(j:Int):=by omega
   go_wp2_with fail;refine (xeJ x _ _ (hsl2.later xaU (xai _ _))).mono ?_;rintro e w1 ⟨a',c',rfl,hcv,hb⟩;have hb0:=hbel;replace hst:=(hst.later xbj (xai _ _)).later xbj hb;replace hbel:=xbo hbel hb;have hz1:wr.heap.size+1<=w1.heap.size:=by have:=hb.size;simpa using this
   obtain⟨⟨cur,k1,k2⟩,k3⟩:=id hst;have f1:∀ o,w1.frozen? ⟨w.heap.size,o,none⟩=false:=fun o=>(by simp[World.frozen?,k1])
   have e0:w1.cell? ⟨w.heap.size,j*5,none⟩=some (cur[j*5]'(by omega)):=(by rw[qzB k1];simp)
   have e1:w1.cell? ⟨w.heap.size,j*5+1,none⟩=some (cur[j*5+1]'(by omega)):=(by rw[qzB k1];simp)
   have e2:w1.cell? ⟨w.heap.size,j*5+2,none⟩=some (cur[j*5+2]'(by omega)):=(by rw[qzB k1];simp)
   have e3:w1.cell? ⟨w.heap.size,j*5+3,none⟩=some (cur[j*5+3]'(by omega)):=(by rw[qzB k1];simp)
   have e4:w1.cell? ⟨w.heap.size,j*5+4,none⟩=some (cur[j*5+4]'(by omega)):=(by rw[qzB k1];simp)
   go_wp2
   go_roundg (gk-1)
   case measure=>omega
   case rel=>
    refine⟨j+1,by omega,by go_num,((((hbel.setCell (qzC _) _).setCell (qzC _) _).setCell (qzC _) _).setCell (qzC _) _).setCell (qzC _) _,?_,by simp;omega⟩
    refine hst.step xbj hxj.out (vs:=[.string x.name,.int .i64 x.args,.int .i64 x.temps,.int .i64 x.prim,.slice a' x.code.length c']) rfl ?_
    exact⟨rfl,rfl,rfl,rfl,hsz,_,rfl,hcv.mono xaU fun b h=>⟨by have:=h.1;simp at this;omega,h.2⟩⟩
  ·obtain rfl:j=xs.length:=by omega
   go_wp2
   go_ret
   exact⟨_,rfl,hst,qzC _,hbel⟩
abbrev WV (cv hv:Value)(e:Int):Value:=.agg #[cv,hv,.int .i64 e]
def OwnK (w:World)(B i lo hi:Nat)(x:QC):Prop:=
 w.cell? ⟨B,i*4,none⟩=some (.string x.name)/\w.cell? ⟨B,i*4+1,none⟩=some (.int .i64 x.super)/\w.cell? ⟨B,i*4+2,none⟩=some (.int .i64 x.slots)/\x.name.size<=140737488351232/\
  ∃ g,w.cell? ⟨B,i*4+3,none⟩=some (.slice (some ⟨g,0,none⟩) x.mz.length x.mz.length)/\lo<=g/\g<hi/\x.mz.length*64<=140737488351232/\
   ∃ cur:Array Value,w.heap[g]?=some (.cells cur 51 (0,0))/\Cells xf9 5 (fun b=>g<b/\b<hi) w cur.toList x.mz
def OwnC (w:World)(B:Nat)(xs:List QC)(s:Nat->Nat)(j:Nat):Prop:=
 (∃ cur:Array Value,w.heap[B]?=some (.cells cur 80 (0,0))/\cur.size=xs.length*4)/\B<s 0/\(∀ i,i<j->s i<=s (i+1))/\s j<=w.heap.size/\
  ∀ i x,i<j->xs[i]?=some x->OwnK w B i (s i) (s (i+1)) x
theorem OwnK.later {w w':World}{B i lo hi:Nat}{x:QC}(h:OwnK w B i lo hi x)(hb:Below w.heap.size w w'):OwnK w' B i lo hi x:=by
 obtain⟨h0,h1,h2,h3,g,h4,h5,h6,h7,cur,h8,h9⟩:=h
 exact⟨qzA hb h0,qzA hb h1,qzA hb h2,h3,g,qzA hb h4,h5,h6,h7,cur,by rw[hb.block _ (xam h8)];exact h8,h9.later xbj hb⟩
theorem OwnC.later {w w':World}{B:Nat}{xs:List QC}{s:Nat->Nat}{j:Nat}(h:OwnC w B xs s j)(hb:Below w.heap.size w w'):OwnC w' B xs s j:=by
 obtain⟨⟨cur,h1,h2⟩,h3,h4,h5,h6⟩:=h
 exact⟨⟨cur,by rw[hb.block _ (xam h1)];exact h1,h2⟩,h3,h4,qzD h5 hb.size,fun i x hi hx=>(h6 i x hi hx).later hb⟩
theorem OwnC.step {w:World}{B:Nat}{xs:List QC}{s:Nat->Nat}{j g:Nat}{x:QC}(h:OwnC w B xs s j)(hx:xs[j]?=some x)(hn:x.name.size<=140737488351232)(hg:s j<=g)(hM:OwnSt xf9 5 51 w g x.mz x.mz.length)(hby:x.mz.length*64<=140737488351232) :
  ∃ s',OwnC (w.setCells B (j*4) [.string x.name,.int .i64 x.super,.int .i64 x.slots,.slice (some ⟨g,0,none⟩) x.mz.length x.mz.length]) B xs s' (j+1):=by
 obtain⟨⟨cur,h1,h2⟩,h3,h4,h5,h6⟩:=h;have hj:=xad hx;obtain⟨curg,hc1,hc2⟩:=hM.cells xbj;have hgl:=xam hc1
 have hsm:∀ i,i<=j->s 0<=s i:=fun i=>by
  induction i with
  | zero=>intro _;exact qzC _
  | succ n ih=>intro hi;exact qzD (ih (by omega)) (h4 n (by omega))
 have hBj:=hsm j (qzC _);have hnn:¬ (j+1<=j):=by omega
 refine⟨fun i=>if i<=j then s i else w.heap.size,xcc _ _ w ⟨cur,h1,h2⟩,by simpa using h3,?_,?_,?_⟩
 ·intro i hi
  by_cases hij:i=j
  ·subst hij;simp[hnn];exact h5
  ·have h1:i<=j:=by omega
   have h2:i+1<=j:=by omega
   simp only[h1,h2,if_true]
   exact h4 i (by omega)
 ·simp[xbq,hnn]
 ·intro i y hi hy;have hin:j*4+4<=xs.length*4:=by omega
  by_cases hij:i=j
  ·subst hij;rw[hx] at hy
   cases hy
   have hc:=fun k (hk:k<4)=>World.cell?_setCells_in B [.string x.name,.int .i64 x.super,.int .i64 x.slots,.slice (some ⟨g,0,none⟩) x.mz.length x.mz.length] (i*4) w (fun q hq=>by rw[qzB h1];simp at hq ⊢;omega) k hk
   refine⟨hc 0 (by omega),hc 1 (by omega),hc 2 (by omega),hn,g,hc 3 (by omega),by simpa using hg,by simpa [hnn] using hgl,hby,curg,?_,?_⟩
   ·rw[xaF (by omega)];exact hc1
   ·refine hc2.keep xbj (Keeps.of_block fun b hb _=>xaF (by have:=hb.1;omega) _ _ _) fun b hb=>⟨hb.1,by simpa [hnn] using hb.2⟩
  ·obtain⟨e0,e1,e2,e3,g',e4,e5,e6,e7,cur',e8,e9⟩:=h6 i y (by omega) hy
   have hi1:i<=j:=by omega
   have hi2:i+1<=j:=by omega
   have hs0:=hsm i hi1;simp only[hi1,hi2,if_true];have ho:=fun k (hk:k<4)=>World.cell?_setCells_out B [.string x.name,.int .i64 x.super,.int .i64 x.slots,.slice (some ⟨g,0,none⟩) x.mz.length x.mz.length] (j*4) w ⟨B,i*4+k,none⟩ (fun _ _=>Or.inl (by simp;omega))
   refine⟨(ho 0 (by omega)).trans e0,(ho 1 (by omega)).trans e1,(ho 2 (by omega)).trans e2,e3,g',(ho 3 (by omega)).trans e4,e5,e6,e7,cur',?_,?_⟩
   ·rw[xaF (by omega)];exact e8
   ·exact e9.keep xbj (Keeps.of_block fun b hb _=>xaF (by have:=hb.1;omega) _ _ _) fun b hb=>hb
theorem OwnC.mono {w:World}{B:Nat}{xs:List QC}{s:Nat->Nat}{n:Nat}(h:OwnC w B xs s n):∀ i j,i<=j->j<=n->s i<=s j:=fun i j hij hj=>by
 obtain⟨-,-,h4,-,-⟩:=h;obtain⟨d,rfl⟩:∃ d,j=i+d:=⟨j-i,by omega⟩
 clear hij
 induction d with
 | zero=>exact qzC _
 | succ d ih=>exact qzD (ih (by omega)) (h4 (i+d) (by omega))
theorem OwnK.meths {w:World}{B i lo hi:Nat}{x:QC}(h:OwnK w B i lo hi x):∃ g,w.cell? ⟨B,i*4+3,none⟩=some (.slice (some ⟨g,0,none⟩) x.mz.length x.mz.length)/\lo<=g/\xbU (fun b=>lo<=b/\b<hi) w (.slice (some ⟨g,0,none⟩) x.mz.length x.mz.length) x.mz:=by
 obtain⟨h0,h1,h2,h3,g,h4,h5,h6,h7,cur,h8,h9⟩:=h;refine⟨g,h4,h5,Cells.row (h9.keep xbj (.refl _ _) fun b hb=>⟨by have:=hb.1;omega,hb.2⟩) xbj ⟨h5,h6⟩ h8 ?_ (qzC _) (by unfold maxLen;omega) h7⟩
 rw[List.take_of_length_le];rw[h9.1]
 exact qzC _
theorem OwnC.row {w:World}{B:Nat}{xs:List QC}{s:Nat->Nat}(h:OwnC w B xs s xs.length)(hby:xs.length*56<=140737488351232):xag (fun b=>B<=b/\b<w.heap.size) w (.slice (some ⟨B,0,none⟩) xs.length xs.length) xs:=by
 refine⟨_,_,rfl,qzC _,by unfold maxLen;omega,hby,fun i x hx=>⟨B,0,rfl,⟨qzC _,by obtain⟨⟨c,hc,-⟩,-⟩:=h;exact xam hc⟩,?_⟩⟩
 have hi:=xad hx;have hn:=h.mono (i+1) xs.length (by omega) (qzC _)
 have hw:=h.2.2.2.1;have hk:=h.2.2.2.2 i x hi hx;have hm:=h.mono 0 i (by omega) (by omega)
 have hB:=h.2.1;obtain⟨g,hg,hlo,hM⟩:=hk.meths;obtain⟨h0,h1,h2,h3,-⟩:=hk;simp only[Nat.zero_add]
 exact⟨h0,h1,h2,h3,_,hg,hM.mono xbj fun b hb=>⟨by have:=hb.1;omega,by have:=hb.2;omega⟩⟩
theorem OwnC.start (w:World)(xs:List QC)(c:Array Value)(hc:c.size=xs.length*4):OwnC (w.alloc (.cells c 80)) w.heap.size xs (fun _=>w.heap.size+1) 0:=
 ⟨⟨c,heap_alloc_new w _,hc⟩,by simp,fun i hi=>by omega,by simp,fun i x hi _=>by omega⟩
theorem OwnK.set {w:World}{B i lo hi d:Nat}{x:QC}(h:OwnK w B i lo hi x)(hd:d≠B)(hh:hi<=d)(o:Nat)(v:Value):OwnK (w.setCell ⟨d,o,none⟩ v) B i lo hi x:=by
 obtain⟨h0,h1,h2,h3,g,h4,h5,h6,h7,cur,h8,h9⟩:=h;have k:=fun (o':Nat)=>World.cell?_setCell_far w ⟨d,o,none⟩ ⟨B,o',none⟩ v hd
 refine⟨(k _).trans h0,(k _).trans h1,(k _).trans h2,h3,g,(k _).trans h4,h5,h6,h7,cur,by rw[xac (by omega)];exact h8,h9.keep xbj (Keeps.of_setCell (fun hp=>?_) _) fun _ h=>h⟩
 have:=hp.2
 simp at this
 omega
theorem OwnC.set {w:World}{B d:Nat}{xs:List QC}{s:Nat->Nat}{j:Nat}(h:OwnC w B xs s j)(hd:s j<=d)(o:Nat)(v:Value):OwnC (w.setCell ⟨d,o,none⟩ v) B xs s j:=by
 have hm:=h.mono;obtain⟨⟨cur,h1,h2⟩,h3,h4,h5,h6⟩:=h;have h0:=hm 0 j (by omega) (qzC _)
 refine⟨⟨cur,by rw[xac (by omega)];exact h1,h2⟩,h3,h4,by simpa using h5,fun i x hi hx=>(h6 i x hi hx).set (by omega) ?_ o v⟩
 have:=hm (i+1) j (by omega) (qzC _)
 omega
theorem OwnC.setLow {w:World}{B d:Nat}{xs:List QC}{s:Nat->Nat}{j:Nat}(h:OwnC w B xs s j)(hd:d<B)(o:Nat)(v:Value):OwnC (w.setCell ⟨d,o,none⟩ v) B xs s j:=by
 have hm:=h.mono;obtain⟨⟨cur,h1,h2⟩,h3,h4,h5,h6⟩:=h;refine⟨⟨cur,by rw[xac (by omega)];exact h1,h2⟩,h3,h4,by simpa using h5,fun i x hi hx=>?_⟩
 have h0:=hm 0 i (by omega) (by omega)
 obtain⟨h0,h1,h2,h3,g,h4,h5,h6,h7,cur,h8,h9⟩:=h6 i x hi hx;have k:=fun (o':Nat)=>World.cell?_setCell_far w ⟨d,o,none⟩ ⟨B,o',none⟩ v (by simp;omega)
 refine⟨(k _).trans h0,(k _).trans h1,(k _).trans h2,h3,g,(k _).trans h4,h5,h6,h7,cur,by rw[xac (by omega)];exact h8,h9.keep xbj (Keeps.of_setCell (fun hp=>?_) _) fun _ h=>h⟩
 have:=hp.1
 simp at this
 omega
theorem OwnSt.set {α:Type}{E:Lay α}{sz:Nat}{t:TypeId}{w:World}{B d:Nat}{xs:List α}{j:Nat}(h:OwnSt E sz t w B xs j)(G:Good E sz)(hd:d<B)(o:Nat)(v:Value):OwnSt E sz t (w.setCell ⟨d,o,none⟩ v) B xs j:=by
 obtain⟨⟨cur,h1,h2⟩,h3⟩:=h;refine⟨⟨cur,by rw[xac (by omega)];exact h1,h2⟩,fun i x hi hx=>G.move (h3 i x hi hx) (fun b h=>by simpa using h) (Keeps.of_setCell (fun hp=>?_) _) fun k _ u hu=>?_⟩
 ·have:=hp.1;simp at this;omega
 ·rw[World.cell?_setCell_far _ _ _ _ (by simp;omega)];exact hu
theorem IsRow.blkCells {α:Type}{E:Lay α}{sz bytes:Nat}{P:Nat->Prop}{w:World}{g n cap:Nat}{xs:List α}(h:IsRow E sz bytes P w (.slice (some ⟨g,0,none⟩) n cap) xs)(G:Good E sz){t:TypeId}{fr:Nat × Nat}{cur:Array Value}(hg:w.heap[g]?=some (.cells cur t fr))(hl:cur.size=xs.length*sz):Cells E sz P w cur.toList xs:=by
 obtain⟨ad,cap',e,-,-,-,hr⟩:=h;simp only[Value.slice.injEq] at e;obtain⟨rfl,-,rfl⟩:=e;refine⟨by simpa using hl,fun i x hx=>?_⟩
 obtain⟨b,o,e,-,hE⟩:=hr i x hx
 cases e
 exact G.move hE (fun _ h=>h) (.refl _ _) fun k _ v hv=>by rw[qzB hg,Nat.zero_add] at hv;simpa using hv
def xc3 (n:Nat)(c:Int):Bool:=decide (0<=c/\c<n)
theorem xdD (n:Nat)(c:Int)(ad:Option Addr)(cap:Nat)(ah:Option Addr)(nh ch:Nat)(ep:Int)(w:World):Calls Tryz.prog 102 #[WV (.slice ad n cap) (.slice ah nh ch) ep,.int .i64 c] w fun e w'=>e=.returned (.bool (xc3 n c))/\Below w.heap.size w w':=by
 by_cases h0:0<=c
 ·go_enter Tryz.func102,Tryz.ntmps102;go_wp2
  go_ret
  exact⟨xbg (by simp[xc3,h0]),xai _ _⟩
 ·have h0':c<0:=by omega
  have hd:decide (0<=c)=false:=by simpa using h0
  go_enter Tryz.func102,Tryz.ntmps102;go_wp2
  go_ret
  exact⟨xbg (by simp[xc3];omega),xai _ _⟩
def xbd {α:Type}(p:α->Bool)(xs:List α):Int:=((xs.findIdx? p).map Int.ofNat).getD (-1)
theorem xcp {α:Type}{p:α->Bool}{xs:List α}{j:Nat}{x:α}(hx:xs[j]?=some x)(hp:p x=true)(h:∀ i y,i<j->xs[i]?=some y->p y=false):xbd p xs=(j:Int):=by
 have:xs.findIdx? p=some j:=by
  rw[List.findIdx?_eq_some_iff_getElem];have hj:=xad hx;refine⟨hj,?_,fun i hi=>?_⟩
  ·rw[List.getElem?_eq_getElem hj] at hx;cases hx;exact hp
  ·have:=h i xs[i] hi (by simp)
   simp[this]
 simp[xbd,this]
theorem xb8 {α:Type}{p:α->Bool}{xs:List α}(h:∀ (i:Nat) y,xs[i]?=some y->p y=false):xbd p xs=-1:=by
 have:xs.findIdx? p=none:=by
  rw[List.findIdx?_eq_none_iff];intro y hy;obtain⟨i,hi,rfl⟩:=List.mem_iff_getElem.1 hy
  exact h i _ (by simp)
 simp[xbd,this]
def eqN (a b:ByteArray):Bool:=a.toList == b.toList
def gtN (a b:ByteArray):Bool:=!Op.bytesLess a.toList b.toList && !a.toList == b.toList
abbrev CV (x:QC)(mv:Value):Value:=.agg #[.string x.name,.int .i64 x.super,.int .i64 x.slots,mv]
theorem xkW {P:Nat->Prop}(cap':Value)(p:QM->Bool)(xs:List QM)(v:Value)(w:World)(hh:xbU P w v xs)
  (hF:∀ (x:QM) (a:Option Addr) (n c:Nat) (w':World),Below w.heap.size w w'->Calls Tryz.prog 135 #[MV x (.slice a n c),cap'] w' fun e w''=>e=.returned (.bool (p x))/\Below w'.heap.size w' w'') :
  Calls Tryz.prog 134 #[v,.func (.func 135) #[] #[cap']] w fun e w'=>e=.returned (.int .i64 (xbd p xs))/\Below w.heap.size w w':=by
 obtain⟨ad,cap,rfl,hl,hcap,hby,hrow⟩:=hh;go_enter Tryz.func134,Tryz.ntmps134;go_wp2
 go_loopg [8] xs.length (fun g c wr=>∃ j:Nat,j+g=xs.length/\c=.int .i64 j/\Below w.heap.size w wr/\∀ i y,i<j->xs[i]?=some y->p y=false)
 case atStart=>exact⟨0,by omega,rfl,Below.refl _ _,fun i y hi=>by omega⟩
 case round=>
  obtain⟨j,hj,rfl,hbel,hno⟩:=hrel;have HN:Hid (∀ i y,i<j->xs[i]?=some y->p y=false):=hno;clear hno
  by_cases hlt:j<xs.length
  ·obtain⟨b,o,rfl,-,hv0,hv1,hv2,hv3,hsz,sv,hv4,hsl⟩:=hrow j xs[j] (by simp[hlt])
   have hxj:Hid (xs[j]?=some xs[j]):=by show _=_;simp[hlt]
   generalize xs[j]=x at *;simp only[Nat.add_zero] at hv0;have u0:=qzA hbel hv0;have u1:=qzA hbel hv1;have u2:=qzA hbel hv2;have u3:=qzA hbel hv3;have u4:=qzA hbel hv4;obtain⟨ad2,cap2,rfl,-,-,-,-⟩:=id hsl;clear hv0 hv1 hv2 hv3 hv4 hsl hrow;have hj1:(j:Int)<(xs.length:Int):=by omega
   have hj0:(0:Int)<=(j:Int):=by omega
   go_wp2_with fail;refine (hF x ad2 x.code.length cap2 _ hbel).mono ?_;rintro e w1 ⟨rfl,hb⟩
   by_cases hp:p x=true
   ·go_wp2
    go_ret
    exact⟨xa6 (xcp hxj.out hp HN.out).symm,xaf hbel hb⟩
   ·have hp':p x=false:=by simpa using hp
    clear hp;go_wp2
    go_roundg (gk-1)
    case measure=>omega
    case rel=>
     refine⟨j+1,by omega,by go_num,xaf hbel hb,fun i y hi hy=>?_⟩
     by_cases hij:i=j
     ·subst hij;rw[hxj.out] at hy;cases hy;exact hp'
     ·exact HN.out i y (by omega) hy
  ·obtain rfl:j=xs.length:=by omega
   go_wp2
   go_ret
   exact⟨xa6 (xb8 fun i y hy=>HN.out i y (xad hy) hy).symm,hbel⟩
theorem xfZ {P:Nat->Prop}(cap':Value)(p:QM->Bool)(xs:List QM)(v:Value)(w:World)(hh:xbU P w v xs)
  (hF:∀ (x:QM) (a:Option Addr) (n c:Nat) (w':World),Below w.heap.size w w'->Calls Tryz.prog 138 #[MV x (.slice a n c),cap'] w' fun e w''=>e=.returned (.bool (p x))/\Below w'.heap.size w' w'') :
  Calls Tryz.prog 134 #[v,.func (.func 138) #[] #[cap']] w fun e w'=>e=.returned (.int .i64 (xbd p xs))/\Below w.heap.size w w':=by
 obtain⟨ad,cap,rfl,hl,hcap,hby,hrow⟩:=hh;go_enter Tryz.func134,Tryz.ntmps134;go_wp2
 go_loopg [8] xs.length (fun g c wr=>∃ j:Nat,j+g=xs.length/\c=.int .i64 j/\Below w.heap.size w wr/\∀ i y,i<j->xs[i]?=some y->p y=false)
 case atStart=>exact⟨0,by omega,rfl,Below.refl _ _,fun i y hi=>by omega⟩
 case round=>
  obtain⟨j,hj,rfl,hbel,hno⟩:=hrel;have HN:Hid (∀ i y,i<j->xs[i]?=some y->p y=false):=hno;clear hno
  by_cases hlt:j<xs.length
  ·obtain⟨b,o,rfl,-,hv0,hv1,hv2,hv3,hsz,sv,hv4,hsl⟩:=hrow j xs[j] (by simp[hlt])
   have hxj:Hid (xs[j]?=some xs[j]):=by show _=_;simp[hlt]
   generalize xs[j]=x at *;simp only[Nat.add_zero] at hv0;have u0:=qzA hbel hv0;have u1:=qzA hbel hv1;have u2:=qzA hbel hv2;have u3:=qzA hbel hv3;have u4:=qzA hbel hv4;obtain⟨ad2,cap2,rfl,-,-,-,-⟩:=id hsl;clear hv0 hv1 hv2 hv3 hv4 hsl hrow;have hj1:(j:Int)<(xs.length:Int):=by omega
   have hj0:(0:Int)<=(j:Int):=by omega
   go_wp2_with fail;refine (hF x ad2 x.code.length cap2 _ hbel).mono ?_;rintro e w1 ⟨rfl,hb⟩
   by_cases hp:p x=true
   ·go_wp2
    go_ret
    exact⟨xa6 (xcp hxj.out hp HN.out).symm,xaf hbel hb⟩
   ·have hp':p x=false:=by simpa using hp
    clear hp;go_wp2
    go_roundg (gk-1)
    case measure=>omega
    case rel=>
     refine⟨j+1,by omega,by go_num,xaf hbel hb,fun i y hi hy=>?_⟩
     by_cases hij:i=j
     ·subst hij;rw[hxj.out] at hy;cases hy;exact hp'
     ·exact HN.out i y (by omega) hy
  ·obtain rfl:j=xs.length:=by omega
   go_wp2
   go_ret
   exact⟨xa6 (xb8 fun i y hy=>HN.out i y (xad hy) hy).symm,hbel⟩
theorem xkc {P:Nat->Prop}(cap':Value)(p:QC->Bool)(xs:List QC)(v:Value)(w:World)(hh:xag P w v xs)
  (hF:∀ (x:QC) (a:Option Addr) (n c:Nat) (w':World),Below w.heap.size w w'->Calls Tryz.prog 125 #[CV x (.slice a n c),cap'] w' fun e w''=>e=.returned (.bool (p x))/\Below w'.heap.size w' w'') :
  Calls Tryz.prog 184 #[v,.func (.func 125) #[] #[cap']] w fun e w'=>e=.returned (.int .i64 (xbd p xs))/\Below w.heap.size w w':=by
 obtain⟨ad,cap,rfl,hl,hcap,hby,hrow⟩:=hh;go_enter Tryz.func184,Tryz.ntmps184;go_wp2
 go_loopg [8] xs.length (fun g c wr=>∃ j:Nat,j+g=xs.length/\c=.int .i64 j/\Below w.heap.size w wr/\∀ i y,i<j->xs[i]?=some y->p y=false)
 case atStart=>exact⟨0,by omega,rfl,Below.refl _ _,fun i y hi=>by omega⟩
 case round=>
  obtain⟨j,hj,rfl,hbel,hno⟩:=hrel;have HN:Hid (∀ i y,i<j->xs[i]?=some y->p y=false):=hno;clear hno
  by_cases hlt:j<xs.length
  ·obtain⟨b,o,rfl,-,hv0,hv1,hv2,hsz,sv,hv4,hsl⟩:=hrow j xs[j] (by simp[hlt])
   have hxj:Hid (xs[j]?=some xs[j]):=by show _=_;simp[hlt]
   generalize xs[j]=x at *;simp only[Nat.add_zero] at hv0;have u0:=qzA hbel hv0;have u1:=qzA hbel hv1;have u2:=qzA hbel hv2;have u4:=qzA hbel hv4;obtain⟨ad2,cap2,rfl,-,-,-,-⟩:=id hsl;clear hv0 hv1 hv2 hv4 hsl hrow;have hj1:(j:Int)<(xs.length:Int):=by omega
   have hj0:(0:Int)<=(j:Int):=by omega
   go_wp2_with fail;refine (hF x ad2 x.mz.length cap2 _ hbel).mono ?_;rintro e w1 ⟨rfl,hb⟩
   by_cases hp:p x=true
   ·go_wp2
    go_ret
    exact⟨xa6 (xcp hxj.out hp HN.out).symm,xaf hbel hb⟩
   ·have hp':p x=false:=by simpa using hp
    clear hp;go_wp2
    go_roundg (gk-1)
    case measure=>omega
    case rel=>
     refine⟨j+1,by omega,by go_num,xaf hbel hb,fun i y hi hy=>?_⟩
     by_cases hij:i=j
     ·subst hij;rw[hxj.out] at hy;cases hy;exact hp'
     ·exact HN.out i y (by omega) hy
  ·obtain rfl:j=xs.length:=by omega
   go_wp2
   go_ret
   exact⟨xa6 (xb8 fun i y hy=>HN.out i y (xad hy) hy).symm,hbel⟩
theorem xm0 (x:QM)(a:Option Addr)(n c b:Nat)(name:ByteArray)(w:World)(hc:w.cell? ⟨b,0,none⟩=some (.string name)):Calls Tryz.prog 135 #[MV x (.slice a n c),.pointer (some ⟨b,0,none⟩)] w fun e w'=>e=.returned (.bool (eqN x.name name))/\Below w.heap.size w w':=by
 have k:=fun y=>qzA (xai w y) hc
 go_enter Tryz.func135,Tryz.ntmps135;go_wp2
 go_ret
 exact⟨xbg rfl,xai _ _⟩
theorem xhv (x:QM)(a:Option Addr)(n c b:Nat)(name:ByteArray)(w:World)(hc:w.cell? ⟨b,0,none⟩=some (.string name)):Calls Tryz.prog 138 #[MV x (.slice a n c),.pointer (some ⟨b,0,none⟩)] w fun e w'=>e=.returned (.bool (gtN x.name name))/\Below w.heap.size w w':=by
 have k:=fun y=>qzA (xai w y) hc
 go_enter Tryz.func138,Tryz.ntmps138;go_wp2
 go_ret
 exact⟨xbg rfl,xai _ _⟩
theorem xjB (x:QC)(a:Option Addr)(n c b:Nat)(name:ByteArray)(w:World)(hc:w.cell? ⟨b,0,none⟩=some (.string name)):Calls Tryz.prog 125 #[CV x (.slice a n c),.pointer (some ⟨b,0,none⟩)] w fun e w'=>e=.returned (.bool (eqN x.name name))/\Below w.heap.size w w':=by
 have k:=fun y=>qzA (xai w y) hc
 go_enter Tryz.func125,Tryz.ntmps125;go_wp2
 go_ret
 exact⟨xbg rfl,xai _ _⟩
theorem hmf (fn:Fn)(first cap:Array Value)(w:World):(Instr.makeFunc fn first cap).run Tryz.prog w=.ok (.func fn first cap) w:=rfl
def xcR (xs:List QM)(name:ByteArray):Int:=xbd (fun m=>eqN m.name name) xs
theorem xc6 {P:Nat->Prop}(xs:List QM)(v:Value)(name:ByteArray)(w:World)(hh:xbU P w v xs):Calls Tryz.prog 103 #[v,.string name] w fun e w'=>e=.returned (.int .i64 (xcR xs name))/\Below w.heap.size w w':=by
 have hm:=hmf;go_enter Tryz.func103,Tryz.ntmps103;go_wp2_with fail;refine (xkW _ (fun m=>eqN m.name name) xs v _ (hh.later xbj (xai _ _)) fun x a n c w' hb=>xm0 x a n c _ name w' (qzA hb (by rw[xab _ _ _ _ rfl];rfl))).mono ?_
 rintro e w1 ⟨rfl,hb⟩;go_wp2
 go_ret
 exact⟨rfl,xbo (Below.refl _ _) hb⟩
def xcM (xs:List QM)(name:ByteArray):Int:=if xbd (fun m=>gtN m.name name) xs<0 then xs.length else xbd (fun m=>gtN m.name name) xs
theorem xkk {P:Nat->Prop}(xs:List QM)(v:Value)(name:ByteArray)(w:World)(hh:xbU P w v xs):Calls Tryz.prog 105 #[v,.string name] w fun e w'=>e=.returned (.int .i64 (xcM xs name))/\Below w.heap.size w w':=by
 have hm:=hmf;obtain⟨ad,cap,rfl,hl,hcap,hby,-⟩:=id hh
 by_cases h:xbd (fun m=>gtN m.name name) xs<0
 ·go_enter Tryz.func105,Tryz.ntmps105;go_wp2_with fail;refine (xfZ _ (fun m=>gtN m.name name) xs _ _ (hh.later xbj (xai _ _)) fun x a n c w' hb=>xhv x a n c _ name w' (qzA hb (by rw[xab _ _ _ _ rfl];rfl))).mono ?_
  rintro e w1 ⟨rfl,hb⟩;go_wp2
  go_ret
  exact⟨xa6 (by simp[xcM,h]),xbo (Below.refl _ _) hb⟩
 ·have h':(0:Int)<=xbd (fun m=>gtN m.name name) xs:=by omega
  go_enter Tryz.func105,Tryz.ntmps105;go_wp2_with fail;refine (xfZ _ (fun m=>gtN m.name name) xs _ _ (hh.later xbj (xai _ _)) fun x a n c w' hb=>xhv x a n c _ name w' (qzA hb (by rw[xab _ _ _ _ rfl];rfl))).mono ?_
  rintro e w1 ⟨rfl,hb⟩;go_wp2
  go_ret
  exact⟨xa6 (by rw[xcM,if_neg (by omega)]),xbo (Below.refl _ _) hb⟩
theorem xiD {P:Nat->Prop}(xs:List QC)(v:Value)(b:Nat)(name:ByteArray)(w:World)(hc:w.cell? ⟨b,0,none⟩=some (.string name))(hh:xag P w v xs):Calls Tryz.prog 124 #[v,.func (.func 125) #[] #[.pointer (some ⟨b,0,none⟩)]] w fun e w'=>e=.returned (.bool (decide (0<=xbd (fun m:QC=>eqN m.name name) xs)))/\Below w.heap.size w w':=by
 go_enter Tryz.func124,Tryz.ntmps124;go_wp2_with fail;refine (xkc _ (fun m=>eqN m.name name) xs v _ hh fun x a n c w' hb=>xjB x a n c _ name w' (qzA hb hc)).mono ?_
 rintro e w1 ⟨rfl,hb⟩;go_wp2
 go_ret
 exact⟨xbg (by simp),hb⟩
structure QS where
 cls:Int
 name:ByteArray
 at':Int
structure QL where
 cls:Int
 found:Int
structure QT where
 site:QS
 lz:List QL
structure QE where
 site:QS
 ez:Int
 many:Bool
 lz:List QL
def xdF:Lay QL:=fun _ _ f x=>f 0=some (.int .i64 x.cls)/\f 1=some (.int .i64 x.found)
abbrev xbJ:=IsRow xdF 2 0
def xh8:Lay QT:=fun P w f x=>f 0=some (.int .i64 x.site.cls)/\f 1=some (.string x.site.name)/\f 2=some (.int .i64 x.site.at')/\∃ v,f 3=some v/\xbJ P w v x.lz
abbrev xaI:=IsRow xh8 4 0
def xka:Lay QE:=fun P w f x=>f 0=some (.int .i64 x.site.cls)/\f 1=some (.string x.site.name)/\f 2=some (.int .i64 x.site.at')/\f 3=some (.int .i64 x.ez)/\f 4=some (.bool x.many)/\∃ v,f 5=some v/\xbJ P w v x.lz
abbrev xbG:=IsRow xka 6 0
theorem xbv:Good xdF 2 where
 move h _ _ hf:=⟨hf 0 (by omega) _ h.1,hf 1 (by omega) _ h.2⟩
 there h k hk:=by
  obtain⟨h0,h1⟩:=h
  match k,hk with
  | 0,_=>exact⟨_,h0,rfl⟩
  | 1,_=>exact⟨_,h1,rfl⟩
 pos:=by omega
theorem xbD:Good xh8 4 where
 move h hl hk hf:=by
  obtain⟨h0,h1,h2,v,h5,h6⟩:=h
  exact⟨hf 0 (by omega) _ h0,hf 1 (by omega) _ h1,hf 2 (by omega) _ h2,v,hf 3 (by omega) _ h5,h6.keep xbv hk hl⟩
 there h k hk:=by
  obtain⟨h0,h1,h2,v,h5,h6⟩:=h
  match k,hk with
  | 0,_=>exact⟨_,h0,rfl⟩
  | 1,_=>exact⟨_,h1,rfl⟩
  | 2,_=>exact⟨_,h2,rfl⟩
  | 3,_=>exact⟨_,h5,xc1 h6⟩
 pos:=by omega
theorem xbF:Good xka 6 where
 move h hl hk hf:=by
  obtain⟨h0,h1,h2,h3,h4,v,h5,h6⟩:=h
  exact⟨hf 0 (by omega) _ h0,hf 1 (by omega) _ h1,hf 2 (by omega) _ h2,hf 3 (by omega) _ h3,hf 4 (by omega) _ h4,v,hf 5 (by omega) _ h5,h6.keep xbv hk hl⟩
 there h k hk:=by
  obtain⟨h0,h1,h2,h3,h4,v,h5,h6⟩:=h
  match k,hk with
  | 0,_=>exact⟨_,h0,rfl⟩
  | 1,_=>exact⟨_,h1,rfl⟩
  | 2,_=>exact⟨_,h2,rfl⟩
  | 3,_=>exact⟨_,h3,rfl⟩
  | 4,_=>exact⟨_,h4,rfl⟩
  | 5,_=>exact⟨_,h5,xc1 h6⟩
 pos:=by omega
abbrev SV (x:QS):Value:=.agg #[.int .i64 x.cls,.string x.name,.int .i64 x.at']
abbrev LV (x:QL):Value:=.agg #[.int .i64 x.cls,.int .i64 x.found]
structure SiteAt (w:World)(b:Nat)(x:QS):Prop where
 c0:w.cell? ⟨b,0,none⟩=some (.int .i64 x.cls)
 c1:w.cell? ⟨b,1,none⟩=some (.string x.name)
 c2:w.cell? ⟨b,2,none⟩=some (.int .i64 x.at')
theorem SiteAt.later {w w':World}{b:Nat}{x:QS}(h:SiteAt w b x)(hb:Below w.heap.size w w'):SiteAt w' b x:=⟨qzA hb h.c0,qzA hb h.c1,qzA hb h.c2⟩
theorem xc7 (w:World)(x:QS)(t:TypeId):SiteAt (w.alloc (.cells #[.int .i64 x.cls,.string x.name,.int .i64 x.at'] t)) w.heap.size x:=⟨by rw[xab _ _ _ _ rfl];rfl,by rw[xab _ _ _ _ rfl];rfl,by rw[xab _ _ _ _ rfl];rfl⟩
def eqS (a b:QS):Bool:=a.cls == b.cls && (eqN a.name b.name && a.at' == b.at')
theorem eqlS (x y:QS)(w:World):(binOp .eql 105 (SV x) (SV y)).run Tryz.prog w=.ok (.bool (eqS x y)) w:=by
 have u3:=Tryz.underlying3;have a3:=Tryz.isAgg3;have z3:=Tryz.sizeOf3;have u9:=Tryz.underlying9;have a9:=Tryz.isAgg9;have z9:=Tryz.sizeOf9;have hS:Tryz.prog.underlying 105=some (.struct (Tryz.prog.fieldsOf 105)):=by kernel_rfl
 have hp:Tryz.prog.stoodInHeld 105=false:=by kernel_rfl
 rw[run_eql_struct,show (10000:Nat)=9999+1 from rfl,run_equalIn_struct w 9999 105 _ _ hS hp]
 simp only[Program.fieldsOf,Tryz.underlying105];go_simp;unfold eqS eqN
 by_cases h1:x.cls=y.cls<;>by_cases h2:x.name.toList=y.name.toList<;>by_cases h3:x.at'=y.at'<;>simp[h1,h2,h3]
theorem neqS (x y:QS)(w:World):(binOp .neq 105 (SV x) (SV y)).run Tryz.prog w=.ok (.bool (!eqS x y)) w:=by
 have u3:=Tryz.underlying3;have a3:=Tryz.isAgg3;have z3:=Tryz.sizeOf3;have u9:=Tryz.underlying9;have a9:=Tryz.isAgg9;have z9:=Tryz.sizeOf9;have hS:Tryz.prog.underlying 105=some (.struct (Tryz.prog.fieldsOf 105)):=by kernel_rfl
 have hp:Tryz.prog.stoodInHeld 105=false:=by kernel_rfl
 rw[run_neq_struct,show (10000:Nat)=9999+1 from rfl,run_equalIn_struct w 9999 105 _ _ hS hp]
 simp only[Program.fieldsOf,Tryz.underlying105];go_simp;unfold eqS eqN
 by_cases h1:x.cls=y.cls<;>by_cases h2:x.name.toList=y.name.toList<;>by_cases h3:x.at'=y.at'<;>simp[h1,h2,h3]
theorem xm9 (a b:ByteArray):eqN a b=true ↔ a=b:=by
 unfold eqN;rw[ByteArray.toList_eq,ByteArray.toList_eq];obtain⟨⟨x⟩⟩:=a;obtain⟨⟨y⟩⟩:=b
 simp
theorem xc2 (a b:QS):eqS a b=true ↔ a=b:=by
 unfold eqS;obtain⟨a1,a2,a3⟩:=a;obtain⟨b1,b2,b3⟩:=b
 simp[xm9]
theorem xiB:(Tryz.prog.info? 147).map (fun i=>(i.zero,i.size,i.bytes))=some (some (.agg #[.int .i64 0,.int .i64 0]),2,16):=by kernel_rfl
theorem xl2:(Tryz.prog.info? 147).map (·.size)=some 2:=by kernel_rfl
theorem xgb {T e:TypeId}{zs:Array Value}{sz by':Nat}(hu:Tryz.prog.underlying T=some (.slice e))(hI:(Tryz.prog.info? e).map (fun i=>(i.zero,i.size,i.bytes))=some (some (.agg zs),sz,by'))(hp:0<by')(n:Nat)(hb:n*by'<=281474976710656)(hc:(Value.agg zs).cells=zs)(w:World):(Instr.makeSlice T (.int .i64 (n:Int)) (.int .i64 (n:Int))).run Tryz.prog w=.ok (.slice (some ⟨w.heap.size,0,none⟩) n n) (w.alloc (.cells (madeCells zs (n*sz)) e)):=by
 obtain⟨i0,hi,hz0,hz1,hz2⟩:=xbu hI;have hn:n<=n*by':=Nat.le_mul_of_pos_right _ hp
 have:=run_make (P:=Tryz.prog) w T e i0 _ hu hi hz0 .i64 .i64 n n (by omega) (by omega) (by rw[hz2];rw[Nat.mul_comm] at *;omega) (by omega)
 rw[this,hz1,hc]
 simp
theorem xii (n:Nat)(hb:n*16<=281474976710656):xeT 106 147 #[.int .i64 0,.int .i64 0] 2 n:=fun w=>xgb Tryz.underlying106 xiB (by omega) n hb rfl w
theorem xiz {P:Nat->Prop}(xs:List QL)(v:Value)(w:World)(hh:xbJ P w v xs)(hby:xs.length*16<=281474976710656):Calls Tryz.prog 51 #[v] w fun e w'=>∃ g,e=.returned (.slice (some ⟨g,0,none⟩) xs.length xs.length)/\OwnSt xdF 2 147 w' g xs xs.length/\w.heap.size<=g/\Below w.heap.size w w':=by
 obtain⟨ad,cap,rfl,hl,hcap,-,hrow⟩:=hh;have hmk:=xii xs.length hby;obtain⟨cs,hcs,hsrc⟩:=hrow.cells xbv
 obtain⟨w1,hcp,h2,h3⟩:=xcD (P:=Tryz.prog) (w.alloc (.cells (madeCells #[.int .i64 0,.int .i64 0] (xs.length*2)) 147)) 106 106 3 147 2 w.heap.size xs.length xs.length ad cap (madeCells #[.int .i64 0,.int .i64 0] (xs.length*2)) 147 cs Tryz.underlying106 xl2 (heap_alloc_new w _) hcs.1
  (fun j v hj=>by obtain⟨a,e,h⟩:=hsrc j v hj;exact⟨a,e,qzA (xai _ _) h⟩) (size_madeCells _ _) (hcs.all xbv)
 have HB:=h3 w.heap.size w (xai _ _) (qzC _)
 have HV:Hid (OwnSt xdF 2 147 w1 w.heap.size xs xs.length):=by
  refine⟨⟨cs.toArray,h2,by simpa using hcs.1⟩,fun i x hi hx=>?_⟩
  have:=hcs.2 i x hx
  exact⟨by show w1.cell? _=_;rw[qzB h2];simpa using this.1,by show w1.cell? _=_;rw[qzB h2];simpa using this.2⟩
 clear h2 h3 hrow hcs hsrc;go_enter Tryz.func51,Tryz.ntmps51;go_wp2
 go_ret
 exact⟨_,rfl,HV.out,qzC _,HB⟩
theorem xi0 {P:Nat->Prop}(xs:List QL)(v:Value)(w:World)(hh:xbJ P w v xs)(hby:xs.length*16<=281474976710656):Calls Tryz.prog 50 #[v] w fun e w'=>∃ g,e=.returned (.slice (some ⟨g,0,none⟩) xs.length xs.length)/\OwnSt xdF 2 147 w' g xs xs.length/\w.heap.size<=g/\Below w.heap.size w w':=by
 obtain⟨ad,cap,rfl,hl,hcap,-,hrow⟩:=hh;have hmk:=xii xs.length hby;obtain⟨cs,hcs,hsrc⟩:=hrow.cells xbv
 obtain⟨w1,hcp,h2,h3⟩:=xcD (P:=Tryz.prog) (w.alloc (.cells (madeCells #[.int .i64 0,.int .i64 0] (xs.length*2)) 147)) 106 106 3 147 2 w.heap.size xs.length xs.length ad cap (madeCells #[.int .i64 0,.int .i64 0] (xs.length*2)) 147 cs Tryz.underlying106 xl2 (heap_alloc_new w _) hcs.1
  (fun j v hj=>by obtain⟨a,e,h⟩:=hsrc j v hj;exact⟨a,e,qzA (xai _ _) h⟩) (size_madeCells _ _) (hcs.all xbv)
 have HB:=h3 w.heap.size w (xai _ _) (qzC _)
 have HV:Hid (OwnSt xdF 2 147 w1 w.heap.size xs xs.length):=by
  refine⟨⟨cs.toArray,h2,by simpa using hcs.1⟩,fun i x hi hx=>?_⟩
  have:=hcs.2 i x hx
  exact⟨by show w1.cell? _=_;rw[qzB h2];simpa using this.1,by show w1.cell? _=_;rw[qzB h2];simpa using this.2⟩
 clear h2 h3 hrow hcs hsrc;go_enter Tryz.func50,Tryz.ntmps50;go_wp2
 go_ret
 exact⟨_,rfl,HV.out,qzC _,HB⟩
abbrev TV (x:QT)(lv:Value):Value:=.agg #[.int .i64 x.site.cls,.string x.site.name,.int .i64 x.site.at',lv]
abbrev EV (x:QE)(lv:Value):Value:=.agg #[.int .i64 x.site.cls,.string x.site.name,.int .i64 x.site.at',.int .i64 x.ez,.bool x.many,lv]
theorem xeL {P:Nat->Prop}(cap':Value)(p:QL->Bool)(xs:List QL)(v:Value)(w:World)(hh:IsRow xdF 2 0 P w v xs)
  (hF:∀ (x:QL) (w':World),Below w.heap.size w w'->Calls Tryz.prog 237 #[LV x,cap'] w' fun e w''=>e=.returned (.bool (p x))/\Below w'.heap.size w' w'') :
  Calls Tryz.prog 236 #[v,.func (.func 237) #[] #[cap']] w fun e w'=>e=.returned (.int .i64 (xbd p xs))/\Below w.heap.size w w':=by
 obtain⟨ad,cap,rfl,hl,hcap,-,hrow⟩:=hh;unfold maxLen at hcap;go_enter Tryz.func236,Tryz.ntmps236;go_wp2
 go_loopg [8] xs.length (fun g c wr=>∃ j:Nat,j+g=xs.length/\c=.int .i64 j/\Below w.heap.size w wr/\∀ i y,i<j->xs[i]?=some y->p y=false)
 case atStart=>exact⟨0,by omega,rfl,Below.refl _ _,fun i y hi=>by omega⟩
 case round=>
  obtain⟨j,hj,rfl,hbel,hno⟩:=hrel;have HN:Hid (∀ i y,i<j->xs[i]?=some y->p y=false):=hno;clear hno
  by_cases hlt:j<xs.length
  ·obtain⟨b,o,rfl,-,hv0,hv1⟩:=hrow j xs[j] (by simp[hlt])
   have hxj:Hid (xs[j]?=some xs[j]):=by show _=_;simp[hlt]
   generalize xs[j]=x at *;simp only[Nat.add_zero] at hv0;have u0:=qzA hbel hv0;have u1:=qzA hbel hv1;clear hv0 hv1 hrow;have hj1:(j:Int)<(xs.length:Int):=by omega
   have hj0:(0:Int)<=(j:Int):=by omega
   go_wp2_with fail;refine (hF x _ hbel).mono ?_;rintro e w1 ⟨rfl,hb⟩
   by_cases hp:p x=true
   ·go_wp2
    go_ret
    exact⟨xa6 (xcp hxj.out hp HN.out).symm,xaf hbel hb⟩
   ·have hp':p x=false:=by simpa using hp
    clear hp;go_wp2
    go_roundg (gk-1)
    case measure=>omega
    case rel=>
     refine⟨j+1,by omega,by go_num,xaf hbel hb,fun i y hi hy=>?_⟩
     by_cases hij:i=j
     ·subst hij;rw[hxj.out] at hy;cases hy;exact hp'
     ·exact HN.out i y (by omega) hy
  ·obtain rfl:j=xs.length:=by omega
   go_wp2
   go_ret
   exact⟨xa6 (xb8 fun i y hy=>HN.out i y (xad hy) hy).symm,hbel⟩
theorem xkp {P:Nat->Prop}(cap':Value)(p:QL->Bool)(xs:List QL)(v:Value)(w:World)(hh:IsRow xdF 2 0 P w v xs)
  (hF:∀ (x:QL) (w':World),Below w.heap.size w w'->Calls Tryz.prog 261 #[LV x,cap'] w' fun e w''=>e=.returned (.bool (p x))/\Below w'.heap.size w' w'') :
  Calls Tryz.prog 236 #[v,.func (.func 261) #[] #[cap']] w fun e w'=>e=.returned (.int .i64 (xbd p xs))/\Below w.heap.size w w':=by
 obtain⟨ad,cap,rfl,hl,hcap,-,hrow⟩:=hh;unfold maxLen at hcap;go_enter Tryz.func236,Tryz.ntmps236;go_wp2
 go_loopg [8] xs.length (fun g c wr=>∃ j:Nat,j+g=xs.length/\c=.int .i64 j/\Below w.heap.size w wr/\∀ i y,i<j->xs[i]?=some y->p y=false)
 case atStart=>exact⟨0,by omega,rfl,Below.refl _ _,fun i y hi=>by omega⟩
 case round=>
  obtain⟨j,hj,rfl,hbel,hno⟩:=hrel;have HN:Hid (∀ i y,i<j->xs[i]?=some y->p y=false):=hno;clear hno
  by_cases hlt:j<xs.length
  ·obtain⟨b,o,rfl,-,hv0,hv1⟩:=hrow j xs[j] (by simp[hlt])
   have hxj:Hid (xs[j]?=some xs[j]):=by show _=_;simp[hlt]
   generalize xs[j]=x at *;simp only[Nat.add_zero] at hv0;have u0:=qzA hbel hv0;have u1:=qzA hbel hv1;clear hv0 hv1 hrow;have hj1:(j:Int)<(xs.length:Int):=by omega
   have hj0:(0:Int)<=(j:Int):=by omega
   go_wp2_with fail;refine (hF x _ hbel).mono ?_;rintro e w1 ⟨rfl,hb⟩
   by_cases hp:p x=true
   ·go_wp2
    go_ret
    exact⟨xa6 (xcp hxj.out hp HN.out).symm,xaf hbel hb⟩
   ·have hp':p x=false:=by simpa using hp
    clear hp;go_wp2
    go_roundg (gk-1)
    case measure=>omega
    case rel=>
     refine⟨j+1,by omega,by go_num,xaf hbel hb,fun i y hi hy=>?_⟩
     by_cases hij:i=j
     ·subst hij;rw[hxj.out] at hy;cases hy;exact hp'
     ·exact HN.out i y (by omega) hy
  ·obtain rfl:j=xs.length:=by omega
   go_wp2
   go_ret
   exact⟨xa6 (xb8 fun i y hy=>HN.out i y (xad hy) hy).symm,hbel⟩
theorem xkO {P:Nat->Prop}(cap':Value)(p:QT->Bool)(xs:List QT)(v:Value)(w:World)(hh:IsRow xh8 4 0 P w v xs)
  (hF:∀ (x:QT) (a:Option Addr) (n c:Nat) (w':World),Below w.heap.size w w'->Calls Tryz.prog 196 #[TV x (.slice a n c),cap'] w' fun e w''=>e=.returned (.bool (p x))/\Below w'.heap.size w' w'') :
  Calls Tryz.prog 195 #[v,.func (.func 196) #[] #[cap']] w fun e w'=>e=.returned (.int .i64 (xbd p xs))/\Below w.heap.size w w':=by
 obtain⟨ad,cap,rfl,hl,hcap,-,hrow⟩:=hh;unfold maxLen at hcap;go_enter Tryz.func195,Tryz.ntmps195;go_wp2
 go_loopg [8] xs.length (fun g c wr=>∃ j:Nat,j+g=xs.length/\c=.int .i64 j/\Below w.heap.size w wr/\∀ i y,i<j->xs[i]?=some y->p y=false)
 case atStart=>exact⟨0,by omega,rfl,Below.refl _ _,fun i y hi=>by omega⟩
 case round=>
  obtain⟨j,hj,rfl,hbel,hno⟩:=hrel;have HN:Hid (∀ i y,i<j->xs[i]?=some y->p y=false):=hno;clear hno
  by_cases hlt:j<xs.length
  ·obtain⟨b,o,rfl,-,hv0,hv1,hv2,sv,hv3,hsl⟩:=hrow j xs[j] (by simp[hlt])
   have hxj:Hid (xs[j]?=some xs[j]):=by show _=_;simp[hlt]
   generalize xs[j]=x at *;simp only[Nat.add_zero] at hv0;have u0:=qzA hbel hv0;have u1:=qzA hbel hv1;have u2:=qzA hbel hv2;have u3:=qzA hbel hv3;obtain⟨ad2,cap2,rfl,-,-,-,-⟩:=id hsl;clear hv0 hv1 hv2 hv3 hsl hrow;have hj1:(j:Int)<(xs.length:Int):=by omega
   have hj0:(0:Int)<=(j:Int):=by omega
   go_wp2_with fail;refine (hF x ad2 x.lz.length cap2 _ hbel).mono ?_;rintro e w1 ⟨rfl,hb⟩
   by_cases hp:p x=true
   ·go_wp2
    go_ret
    exact⟨xa6 (xcp hxj.out hp HN.out).symm,xaf hbel hb⟩
   ·have hp':p x=false:=by simpa using hp
    clear hp;go_wp2
    go_roundg (gk-1)
    case measure=>omega
    case rel=>
     refine⟨j+1,by omega,by go_num,xaf hbel hb,fun i y hi hy=>?_⟩
     by_cases hij:i=j
     ·subst hij;rw[hxj.out] at hy;cases hy;exact hp'
     ·exact HN.out i y (by omega) hy
  ·obtain rfl:j=xs.length:=by omega
   go_wp2
   go_ret
   exact⟨xa6 (xb8 fun i y hy=>HN.out i y (xad hy) hy).symm,hbel⟩
theorem xkZ {P:Nat->Prop}(cap':Value)(p:QE->Bool)(xs:List QE)(v:Value)(w:World)(hh:IsRow xka 6 0 P w v xs)
  (hF:∀ (x:QE) (a:Option Addr) (n c:Nat) (w':World),Below w.heap.size w w'->Calls Tryz.prog 260 #[EV x (.slice a n c),cap'] w' fun e w''=>e=.returned (.bool (p x))/\Below w'.heap.size w' w'') :
  Calls Tryz.prog 259 #[v,.func (.func 260) #[] #[cap']] w fun e w'=>e=.returned (.int .i64 (xbd p xs))/\Below w.heap.size w w':=by
 obtain⟨ad,cap,rfl,hl,hcap,-,hrow⟩:=hh;unfold maxLen at hcap;go_enter Tryz.func259,Tryz.ntmps259;go_wp2
 go_loopg [8] xs.length (fun g c wr=>∃ j:Nat,j+g=xs.length/\c=.int .i64 j/\Below w.heap.size w wr/\∀ i y,i<j->xs[i]?=some y->p y=false)
 case atStart=>exact⟨0,by omega,rfl,Below.refl _ _,fun i y hi=>by omega⟩
 case round=>
  obtain⟨j,hj,rfl,hbel,hno⟩:=hrel;have HN:Hid (∀ i y,i<j->xs[i]?=some y->p y=false):=hno;clear hno
  by_cases hlt:j<xs.length
  ·obtain⟨b,o,rfl,-,hv0,hv1,hv2,hv3,hv4,sv,hv5,hsl⟩:=hrow j xs[j] (by simp[hlt])
   have hxj:Hid (xs[j]?=some xs[j]):=by show _=_;simp[hlt]
   generalize xs[j]=x at *;simp only[Nat.add_zero] at hv0;have u0:=qzA hbel hv0;have u1:=qzA hbel hv1;have u2:=qzA hbel hv2;have u3:=qzA hbel hv3;have u4:=qzA hbel hv4;have u5:=qzA hbel hv5;obtain⟨ad2,cap2,rfl,-,-,-,-⟩:=id hsl;clear hv0 hv1 hv2 hv3 hv4 hv5 hsl hrow;have hj1:(j:Int)<(xs.length:Int):=by omega
   have hj0:(0:Int)<=(j:Int):=by omega
   go_wp2_with fail;refine (hF x ad2 x.lz.length cap2 _ hbel).mono ?_;rintro e w1 ⟨rfl,hb⟩
   by_cases hp:p x=true
   ·go_wp2
    go_ret
    exact⟨xa6 (xcp hxj.out hp HN.out).symm,xaf hbel hb⟩
   ·have hp':p x=false:=by simpa using hp
    clear hp;go_wp2
    go_roundg (gk-1)
    case measure=>omega
    case rel=>
     refine⟨j+1,by omega,by go_num,xaf hbel hb,fun i y hi hy=>?_⟩
     by_cases hij:i=j
     ·subst hij;rw[hxj.out] at hy;cases hy;exact hp'
     ·exact HN.out i y (by omega) hy
  ·obtain rfl:j=xs.length:=by omega
   go_wp2
   go_ret
   exact⟨xa6 (xb8 fun i y hy=>HN.out i y (xad hy) hy).symm,hbel⟩
theorem xea (x:QL)(b:Nat)(k:Int)(w:World)(hc:w.cell? ⟨b,0,none⟩=some (.int .i64 k)):Calls Tryz.prog 237 #[LV x,.pointer (some ⟨b,0,none⟩)] w fun e w'=>e=.returned (.bool (x.cls == k))/\Below w.heap.size w w':=by
 have k:=fun y=>qzA (xai w y) hc
 go_enter Tryz.func237,Tryz.ntmps237;go_wp2
 go_ret
 exact⟨xbg rfl,xai _ _⟩
theorem xjp (x:QL)(b:Nat)(k:Int)(w:World)(hc:w.cell? ⟨b,0,none⟩=some (.int .i64 k)):Calls Tryz.prog 261 #[LV x,.pointer (some ⟨b,0,none⟩)] w fun e w'=>e=.returned (.bool (x.cls == k))/\Below w.heap.size w w':=by
 have k:=fun y=>qzA (xai w y) hc
 go_enter Tryz.func261,Tryz.ntmps261;go_wp2
 go_ret
 exact⟨xbg rfl,xai _ _⟩
theorem xkT (x:QT)(a:Option Addr)(n c b:Nat)(s:QS)(w:World)(hc:SiteAt w b s):Calls Tryz.prog 196 #[TV x (.slice a n c),.pointer (some ⟨b,0,none⟩)] w fun e w'=>e=.returned (.bool (eqS x.site s))/\Below w.heap.size w w':=by
 have k0:=fun y=>qzA (xai w y) hc.c0
 have k1:=fun y=>qzA (xai w y) hc.c1
 have k2:=fun y=>qzA (xai w y) hc.c2
 have he:=fun w=>eqlS x.site s w
 go_enter Tryz.func196,Tryz.ntmps196;go_wp2
 go_ret
 exact⟨xbg rfl,xai _ _⟩
theorem xmN (x:QE)(a:Option Addr)(n c b:Nat)(s:QS)(w:World)(hc:SiteAt w b s):Calls Tryz.prog 260 #[EV x (.slice a n c),.pointer (some ⟨b,0,none⟩)] w fun e w'=>e=.returned (.bool (eqS x.site s))/\Below w.heap.size w w':=by
 have k0:=fun y=>qzA (xai w y) hc.c0
 have k1:=fun y=>qzA (xai w y) hc.c1
 have k2:=fun y=>qzA (xai w y) hc.c2
 have he:=fun w=>eqlS x.site s w
 go_enter Tryz.func260,Tryz.ntmps260;go_wp2
 go_ret
 exact⟨xbg rfl,xai _ _⟩
end Go.Proofs.YtbafokihegegiaaGreatDoor
