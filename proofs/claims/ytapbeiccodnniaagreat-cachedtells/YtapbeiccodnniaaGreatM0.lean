/- A part. -/
import Derived.Test.YtapbeiccodnniaaGreatRows
import Derived.WalkKit
import Derived.ProofKit
import Derived.OpenShut
import Derived.Below
import Derived.WalkSpells
import Derived.WalkLawsBesides
import Derived.BigQuiet
import Derived.Deep.RegionHeld3
import Derived.Deep.Light
import Derived.Deep.LoopGhost
import Derived.Deep.DeepCutAuto
import Derived.Laws.CopyOwn
import Derived.Laws.Append
import Derived.Laws.Rows
import Derived.Laws.IdiomCopy
namespace Go.Proofs.YtapbeiccodnniaaGreat
open Go.ChangeShapes Go.WideShapes Go.ChangeAt Go.RowKit
set_option linter.unusedSimpArgs false
set_option linter.unusedVariables false
set_option maxHeartbeats 8000000
theorem qzB{w:World}{b o:Nat}{cs:Array Value}{t:TypeId}{fr:Nat × Nat}(h:w.heap[b]?=some (.cells cs t fr)):w.cell? ⟨b,o,none⟩=cs[o]?:=cell_of_row _ _ _ _ _ _ h
theorem qzC(n:Nat):n<=n:=Nat.le_refl n
theorem qzD{a b c:Nat}(h:a<=b)(k:b<=c):a<=c:=Nat.le_trans h k
theorem qzE{a b c:Nat}(h:a<b)(k:b<=c):a<c:=Nat.lt_of_lt_of_le h k
theorem qzA{w x:World}{a:Addr}{v:Value}(hb:Below w.heap.size w x)(h:w.cell? a=some v):x.cell? a=some v:=cell_later hb h
theorem qzF{α:Type}{l:List α}{i:Nat}{a:α}:l.toArray.setIfInBounds i a=(l.set i a).toArray:=by simp
theorem qzG{α:Type}{a b:α}{l:List α}:(a :: l).set 0 b=b :: l:=rfl
theorem qzH{α:Type}{a b:α}{l:List α}{n:Nat}:(a :: l).set (n+1) b=a :: l.set n b:=rfl
abbrev qzI:=@World.cell?_setCell_far
abbrev qzJ:=@heap_alloc_new
abbrev qzK:=@bodyPost_ret
abbrev qzL:=@Below.refl
abbrev qzM:=@World.cell?_setCell_other
theorem xhH {W w1:World}(hb:Below W.heap.size W w1):(∀ b o,b<W.heap.size->w1.cell? ⟨b,o,none⟩=W.cell? ⟨b,o,none⟩)/\(∀ b o,b<W.heap.size->w1.frozen? ⟨b,o,none⟩=W.frozen? ⟨b,o,none⟩):=
 ⟨fun b o h=>hb.cell (p:=⟨b,o,none⟩) h,fun b o h=>hb.frozen (p:=⟨b,o,none⟩) h⟩
theorem xaj (w:World)(a:Obj):Below w.heap.size w (w.alloc a):=(qzL _ _).alloc (qzC _) _
theorem xca (w:World)(a b:Obj):Below w.heap.size w ((w.alloc a).alloc b):=(xaj _ _).alloc (by simp) _
theorem xfv (w:World)(a b c:Obj):Below w.heap.size w (((w.alloc a).alloc b).alloc c):=(xca _ _ _).alloc (by simp;omega) _
theorem xah {w W w':World}(h:Below w.heap.size w W)(k:Below W.heap.size W w'):Below w.heap.size w w':=h.trans (k.mono h.size)
theorem xbz {w W w':World}{X:Obj}(h:Below w.heap.size w W)(k:Below (W.alloc X).heap.size (W.alloc X) w'):Below w.heap.size w w':=xah (h.alloc h.size _) k
theorem xaf {w:World}{g:Nat}{x:Obj}(h:w.heap[g]?=some x):g<w.heap.size:=(Array.getElem?_eq_some_iff.1 h).1
theorem xae {α:Type}{l:List α}{i:Nat}{x:α}(h:l[i]?=some x):i<l.length:=by
 rcases Nat.lt_or_ge i l.length with h' | h'
 ·exact h'
 ·rw[List.getElem?_eq_none h'] at h;cases h
theorem xak {a b:Int}(h:a=b):Ending.returned (.int .i64 a)=.returned (.int .i64 b):=by rw[h]
theorem xb7 {a b:Bool}(h:a=b):Ending.returned (.bool a)=.returned (.bool b):=by rw[h]
theorem xaa (w:World)(cs:Array Value)(t:TypeId)(n:Nat)(hn:w.heap.size=n)(j:Nat):(w.alloc (.cells cs t)).cell? ⟨n,j,none⟩=cs[j]?:=by
 subst hn
 exact qzB (qzJ w _)
structure QV where
 k:Int
 n:Int
structure QO where
 cls:Int
 slots:List QV
structure QI where
 op:Int
 a:Int
 b:Int
 c:Int
 name:ByteArray
structure QM where
 name:ByteArray
 args:Int
 temps:Int
 prim:Int
 code:List QI
structure QC where
 name:ByteArray
 super:Int
 slots:Int
 mz:List QM
structure QW where
 cz:List QC
 heap:List QO
 ez:Int
def Keeps (P:Nat->Prop)(w w':World):Prop:=∀ b o v,P b->w.cell? ⟨b,o,none⟩=some v->w'.cell? ⟨b,o,none⟩=some v
theorem Keeps.of_below {P:Nat->Prop}{w w':World}(hb:Below w.heap.size w w'):Keeps P w w':=fun b o v _ h=>qzA hb h
theorem Keeps.of_setCell {P:Nat->Prop}{w:World}{a:Addr}(ha:¬ P a.block)(u:Value):Keeps P w (w.setCell a u):=fun b o v hl h=>by
 rw[qzM _ _ _ _ (by intro e;subst e;exact ha hl)];exact h
theorem Keeps.trans {P:Nat->Prop}{w w' w'':World}(h:Keeps P w w')(k:Keeps P w' w''):Keeps P w w'':=fun b o v hl hc=>k b o v hl (h b o v hl hc)
theorem Keeps.mono {P Q:Nat->Prop}{w w':World}(h:Keeps P w w')(hl:∀ b,Q b->P b):Keeps Q w w':=fun b o v hb hc=>h b o v (hl _ hb) hc
theorem Keeps.refl (P:Nat->Prop)(w:World):Keeps P w w:=fun _ _ _ _ h=>h
theorem Keeps.of_block {P:Nat->Prop}{w w':World}(h:∀ b,P b->b<w.heap.size->w'.heap[b]?=w.heap[b]?):Keeps P w w':=fun b o v hp hc=>by
 have hl:=World.block_lt_of_cell? w ⟨b,o,none⟩ hc;unfold World.cell? at hc ⊢;rw[h b hp hl]
 exact hc
abbrev Lay (α:Type):=(Nat->Prop)->World->(Nat->Option Value)->α->Prop
structure Good {α:Type}(E:Lay α)(sz:Nat):Prop where
 move:∀ {P Q:Nat->Prop} {w w':World} {f f':Nat->Option Value} {x:α},E P w f x->(∀ b,P b->Q b)->Keeps P w w'->(∀ k,k<sz->∀ v,f k=some v->f' k=some v)->E Q w' f' x
 there:∀ {P:Nat->Prop} {w:World} {f:Nat->Option Value} {x:α},E P w f x->∀ k,k<sz->∃ u,f k=some u/\u.oneCell'=true
 pos:0<sz
def RowAt {α:Type}(E:Lay α)(sz:Nat)(P:Nat->Prop)(w:World)(ad:Option Addr)(xs:List α):Prop:=
 ∀ i x,xs[i]?=some x->∃ b o,ad=some ⟨b,o,none⟩/\P b/\E P w (fun k=>w.cell? ⟨b,o+i*sz+k,none⟩) x
def IsRow {α:Type}(E:Lay α)(sz bytes:Nat)(P:Nat->Prop)(w:World)(v:Value)(xs:List α):Prop:=
 ∃ ad cap,v=.slice ad xs.length cap/\xs.length<=cap/\cap<=maxLen/\xs.length*bytes<=140737488351232/\RowAt E sz P w ad xs
theorem RowAt.keep {α:Type}{E:Lay α}{sz:Nat}(G:Good E sz){P Q:Nat->Prop}{w w':World}{ad:Option Addr}{xs:List α}(h:RowAt E sz P w ad xs)(hk:Keeps P w w')(hl:∀ b,P b->Q b):RowAt E sz Q w' ad xs:=fun i x hx=>by
 obtain⟨b,o,e1,e2,e3⟩:=h i x hx
 exact⟨b,o,e1,hl _ e2,G.move e3 hl hk fun k _ v hv=>hk _ _ _ e2 hv⟩
theorem IsRow.keep {α:Type}{E:Lay α}{sz bytes:Nat}(G:Good E sz){P Q:Nat->Prop}{w w':World}{v:Value}{xs:List α}(h:IsRow E sz bytes P w v xs)(hk:Keeps P w w')(hl:∀ b,P b->Q b):IsRow E sz bytes Q w' v xs:=by
 obtain⟨ad,cap,h1,h2,h3,h4,h5⟩:=h
 exact⟨ad,cap,h1,h2,h3,h4,h5.keep G hk hl⟩
def xe2:Lay QI:=fun _ _ f x=>f 0=some (.int .i64 x.op)/\f 1=some (.int .i64 x.a)/\f 2=some (.int .i64 x.b)/\f 3=some (.int .i64 x.c)/\f 4=some (.string x.name)/\x.name.size<=140737488351232
def xmM:Lay QV:=fun _ _ f x=>f 0=some (.int .i64 x.k)/\f 1=some (.int .i64 x.n)
abbrev xa5:=IsRow xe2 5 48
abbrev xaB:=IsRow xmM 2 16
def xeE:Lay QM:=fun P w f x=>f 0=some (.string x.name)/\f 1=some (.int .i64 x.args)/\f 2=some (.int .i64 x.temps)/\f 3=some (.int .i64 x.prim)/\x.name.size<=140737488351232/\∃ v,f 4=some v/\xa5 P w v x.code
def xlt:Lay QO:=fun P w f x=>f 0=some (.int .i64 x.cls)/\∃ v,f 1=some v/\xaB P w v x.slots
abbrev xbd:=IsRow xeE 5 64
abbrev xaC:=IsRow xlt 2 32
def xd8:Lay QC:=fun P w f x=>f 0=some (.string x.name)/\f 1=some (.int .i64 x.super)/\f 2=some (.int .i64 x.slots)/\x.name.size<=140737488351232/\∃ v,f 3=some v/\xbd P w v x.mz
abbrev xai:=IsRow xd8 4 56
theorem xcO {α:Type}{E:Lay α}{sz bytes:Nat}{P:Nat->Prop}{w:World}{v:Value}{xs:List α}(h:IsRow E sz bytes P w v xs):v.oneCell'=true:=by
 obtain⟨ad,cap,rfl,-⟩:=h;rfl
theorem xbl:Good xe2 5 where
 move h _ _ hf:=⟨hf 0 (by omega) _ h.1,hf 1 (by omega) _ h.2.1,hf 2 (by omega) _ h.2.2.1,hf 3 (by omega) _ h.2.2.2.1,hf 4 (by omega) _ h.2.2.2.2.1,h.2.2.2.2.2⟩
 there h k hk:=by
  obtain⟨h0,h1,h2,h3,h4,-⟩:=h
  match k,hk with
  | 0,_=>exact⟨_,h0,rfl⟩
  | 1,_=>exact⟨_,h1,rfl⟩
  | 2,_=>exact⟨_,h2,rfl⟩
  | 3,_=>exact⟨_,h3,rfl⟩
  | 4,_=>exact⟨_,h4,rfl⟩
 pos:=by omega
theorem xaK:Good xmM 2 where
 move h _ _ hf:=⟨hf 0 (by omega) _ h.1,hf 1 (by omega) _ h.2⟩
 there h k hk:=by
  obtain⟨h0,h1⟩:=h
  match k,hk with
  | 0,_=>exact⟨_,h0,rfl⟩
  | 1,_=>exact⟨_,h1,rfl⟩
 pos:=by omega
theorem xbi:Good xeE 5 where
 move h hl hk hf:=by
  obtain⟨h0,h1,h2,h3,h4,v,h5,h6⟩:=h
  exact⟨hf 0 (by omega) _ h0,hf 1 (by omega) _ h1,hf 2 (by omega) _ h2,hf 3 (by omega) _ h3,h4,v,hf 4 (by omega) _ h5,h6.keep xbl hk hl⟩
 there h k hk:=by
  obtain⟨h0,h1,h2,h3,h4,v,h5,h6⟩:=h
  match k,hk with
  | 0,_=>exact⟨_,h0,rfl⟩
  | 1,_=>exact⟨_,h1,rfl⟩
  | 2,_=>exact⟨_,h2,rfl⟩
  | 3,_=>exact⟨_,h3,rfl⟩
  | 4,_=>exact⟨_,h5,xcO h6⟩
 pos:=by omega
theorem xaD:Good xlt 2 where
 move h hl hk hf:=by
  obtain⟨h0,v,h5,h6⟩:=h
  exact⟨hf 0 (by omega) _ h0,v,hf 1 (by omega) _ h5,h6.keep xaK hk hl⟩
 there h k hk:=by
  obtain⟨h0,v,h5,h6⟩:=h
  match k,hk with
  | 0,_=>exact⟨_,h0,rfl⟩
  | 1,_=>exact⟨_,h5,xcO h6⟩
 pos:=by omega
theorem xaz:Good xd8 4 where
 move h hl hk hf:=by
  obtain⟨h0,h1,h2,h4,v,h5,h6⟩:=h
  exact⟨hf 0 (by omega) _ h0,hf 1 (by omega) _ h1,hf 2 (by omega) _ h2,h4,v,hf 3 (by omega) _ h5,h6.keep xbi hk hl⟩
 there h k hk:=by
  obtain⟨h0,h1,h2,h4,v,h5,h6⟩:=h
  match k,hk with
  | 0,_=>exact⟨_,h0,rfl⟩
  | 1,_=>exact⟨_,h1,rfl⟩
  | 2,_=>exact⟨_,h2,rfl⟩
  | 3,_=>exact⟨_,h5,xcO h6⟩
 pos:=by omega
section
variable {α:Type} {E:Lay α} {sz bytes:Nat} {P Q:Nat->Prop} {w w':World} {v:Value} {xs:List α}
theorem IsRow.later (h:IsRow E sz bytes P w v xs)(G:Good E sz)(hb:Below w.heap.size w w'):IsRow E sz bytes P w' v xs:=h.keep G (.of_below hb) fun _ h=>h
theorem IsRow.mono (h:IsRow E sz bytes P w v xs)(G:Good E sz)(hl:∀ b,P b->Q b):IsRow E sz bytes Q w v xs:=h.keep G (.refl _ _) hl
end
def Cells {α:Type}(E:Lay α)(sz:Nat)(P:Nat->Prop)(w:World)(cs:List Value)(xs:List α):Prop:=
 cs.length=xs.length*sz/\∀ i x,xs[i]?=some x->E P w (fun k=>cs[i*sz+k]?) x
section
variable {α:Type} {E:Lay α} {sz bytes:Nat} {P Q:Nat->Prop} {w w':World} {cs:List Value} {xs:List α}
theorem Cells.keep (h:Cells E sz P w cs xs)(G:Good E sz)(hk:Keeps P w w')(hl:∀ b,P b->Q b):Cells E sz Q w' cs xs:=
 ⟨h.1,fun i x hx=>G.move (h.2 i x hx) hl hk fun _ _ _ h=>h⟩
theorem Cells.later (h:Cells E sz P w cs xs)(G:Good E sz)(hb:Below w.heap.size w w'):Cells E sz P w' cs xs:=h.keep G (.of_below hb) fun _ h=>h
theorem Cells.nil:Cells E sz P w [] ([]:List α):=⟨by simp,fun i x hx=>by simp at hx⟩
theorem Cells.append {ds:List Value}{ys:List α}(h:Cells E sz P w cs xs)(G:Good E sz)(k:Cells E sz P w ds ys):Cells E sz P w (cs++ds) (xs++ys):=by
 have hl:=h.1;refine⟨by rw[List.length_append,List.length_append,h.1,k.1,Nat.add_mul],fun i x hx=>?_⟩
 by_cases hi:i<xs.length
 ·rw[List.getElem?_append_left hi] at hx;refine G.move (h.2 i x hx) (fun _ h=>h) (.refl _ _) fun k hk v hv=>?_
  have hlt:=xae hv;simp only[List.getElem?_append_left hlt]
  exact hv
 ·rw[List.getElem?_append_right (by omega)] at hx
  refine G.move (k.2 _ x hx) (fun _ h=>h) (.refl _ _) fun k hk v hv=>?_
  obtain⟨d,rfl⟩:∃ d,i=xs.length+d:=⟨i-xs.length,by omega⟩
  simp only[Nat.add_sub_cancel_left] at hv;rw[List.getElem?_append_right (by rw[hl,Nat.add_mul];omega),hl,Nat.add_mul,show xs.length*sz+d*sz+k-xs.length*sz=d*sz+k by omega]
  exact hv
theorem Cells.one {x:α}(G:Good E sz)(h1:cs.length=sz)(h:E P w (fun k=>cs[k]?) x):Cells E sz P w cs [x]:=by
 refine⟨by simpa using h1,fun i y hy=>?_⟩
 have hi:=xae hy;obtain rfl:i=0:=by simpa using hi
 simp at hy
 subst hy;refine G.move h (fun _ h=>h) (.refl _ _) fun k hk v hv=>by simpa using hv
theorem Cells.all (h:Cells E sz P w cs xs)(G:Good E sz):∀ u∈cs,u.oneCell'=true:=by
 intro u hu;obtain⟨j,hj,rfl⟩:=List.mem_iff_getElem.1 hu;have hp:=G.pos;have hl:=h.1
 have h1:j / sz<xs.length:=by
  rw[Nat.div_lt_iff_lt_mul hp];omega
 obtain⟨v,hv,ho⟩:=G.there (h.2 (j / sz) xs[j / sz] (by simp[h1])) (j % sz) (Nat.mod_lt _ hp)
 rw[Nat.div_add_mod'] at hv;rw[List.getElem?_eq_getElem hj] at hv
 cases hv
 exact ho
theorem RowAt.cells {ad:Option Addr}(h:RowAt E sz P w ad xs)(G:Good E sz):∃ cs,Cells E sz P w cs xs/\∀ j u,cs[j]?=some u->∃ a,ad=some a/\w.cell? (a.add j)=some u:=by
 have hp:=G.pos
 cases xs with
 | nil=>exact⟨[],.nil,fun j u hu=>by simp at hu⟩
 | cons y r=>
  obtain⟨b,o,rfl,-⟩:=h 0 y rfl;refine⟨(List.range ((y :: r).length*sz)).map fun j=>(w.cell? ⟨b,o+j,none⟩).getD undef,⟨by simp,fun i x hx=>?_⟩,fun j u hu=>?_⟩
  ·have hi:=xae hx;obtain⟨b',o',e,-,h1⟩:=h i x hx
   cases e
   refine G.move h1 (fun _ h=>h) (.refl _ _) fun k hk v hv=>?_
   have hlt:i*sz+k<(y :: r).length*sz:=by
    have:i*sz+k<(i+1)*sz:=by rw[Nat.add_mul];omega
    exact qzE this (Nat.mul_le_mul_right _ hi)
   rw[List.getElem?_map,List.getElem?_range hlt];rw[Nat.add_assoc] at hv
   simp[hv]
  ·rw[List.getElem?_map] at hu
   have hj:j<(y :: r).length*sz:=by
    rcases Nat.lt_or_ge j ((y :: r).length*sz) with h' | h'
    ·exact h'
    ·rw[List.getElem?_eq_none (by simpa using h')] at hu;simp at hu
   rw[List.getElem?_range hj] at hu;refine⟨_,rfl,?_⟩;rw[Addr.add_lit];have hjs:j / sz<(y :: r).length:=by rw[Nat.div_lt_iff_lt_mul hp];exact hj
   obtain⟨b',o',e,-,h1⟩:=h (j / sz) ((y :: r)[j / sz]) (by simp)
   cases e
   obtain⟨v,hv,-⟩:=G.there h1 (j % sz) (Nat.mod_lt _ hp);rw[Nat.add_assoc,Nat.div_add_mod'] at hv;rw[hv]
   simpa [hv] using hu
theorem Cells.row {g cap:Nat}(h:Cells E sz P w cs xs)(G:Good E sz)(hP:P g){t:TypeId}{fr:Nat × Nat}{cur:Array Value}(hg:w.heap[g]?=some (.cells cur t fr))(hc:cur.toList.take (xs.length*sz)=cs)(h1:xs.length<=cap)(h2:cap<=maxLen)(h3:xs.length*bytes<=140737488351232) :
  IsRow E sz bytes P w (.slice (some ⟨g,0,none⟩) xs.length cap) xs:=by
 refine⟨_,_,rfl,h1,h2,h3,fun i x hx=>⟨g,0,rfl,hP,?_⟩⟩
 refine G.move (h.2 i x hx) (fun _ h=>h) (.refl _ _) fun k hk v hv=>?_
 have hlt:=xae hv;rw[cell_of_row w g _ _ _ _ hg,Nat.zero_add];subst hc;rw[List.getElem?_take] at hv
 split at hv
 ·simpa using hv
 ·cases hv
end
theorem xb5 {P:Program}(w:World)(dT sT ty elem:TypeId)(sz g len dCap:Nat)(sp:Option Addr)(sCap:Nat)(cur:Array Value)(t:TypeId)(cs:List Value)
  (hu:P.underlying dT=some (.slice elem)) (hs:(P.info? elem).map (·.size)=some sz) (hg:w.heap[g]?=some (.cells cur t (0,0))) (hn:cs.length=len*sz)
  (hsrc:∀ j v,cs[j]?=some v->∃ a,sp=some a/\w.cell? (a.add j)=some v) (hcur:cur.size=len*sz) (h1:∀ v∈cs,v.oneCell'=true) :
  ∃ w',(Builtin.copy_ #[dT,sT] ty #[.slice (some ⟨g,0,none⟩) len dCap,.slice sp len sCap]).run P w=.ok (goInt len) w'/\w'.heap[g]?=some (.cells cs.toArray t (0,0))/\∀ B w0,Below B w0 w->B<=g->Below B w0 w':=by
 cases hq:P.info? elem with
 | none=>simp[hq] at hs
 | some i=>
  have hi:i.size=sz:=by simpa [hq] using hs
  have hst:=run_storeCells_at P g 0 t cs 0 cur w hg (by simp;omega) h1
  have hm:Nat.min len len=len:=Nat.min_self len
  have hfc:(Builtin.firstCells sz len (.slice sp len sCap)).run P w=.ok cs.toArray w:=by
   cases sp with
   | some a=>exact run_firstCells_some w sz len a len sCap cs hn (fun j v hv=>by obtain⟨a',e,h⟩:=hsrc j v hv;cases e;exact h)
   | none=>
    have:cs=[]:=by
     cases cs with
     | nil=>rfl
     | cons c r=>obtain⟨a',e,_⟩:=hsrc 0 c rfl;cases e
    rw[this]
    exact run_firstCells_none w sz len len sCap
  refine⟨w.setRow g cs.toArray,?_,setRow_heap w g cur _ t _ hg,fun B w0 hb hB=>below_setRow hb hB _⟩
  have e:(cur.toList.take (0+0)++cs++cur.toList.drop (0+0+cs.length)).toArray=cs.toArray:=by
   have:cur.toList.drop cs.length=[]:=by rw[List.drop_eq_nil_iff];simp;omega
   simp[this]
  rw[e] at hst
  simp[Builtin.copy_,run_underlying hu,Builtin.lenOf,sizeOf,typeInfo,hq,hi,hm,hfc,hst]
theorem xa3 {P:Program}{t:TypeId}{z:Value}{n m:Nat}(h:(P.info? t).map (fun i=>(i.zero,i.size,i.bytes))=some (some z,n,m)):∃ i,P.info? t=some i/\i.zero=some z/\i.size=n/\i.bytes=m:=by
 cases hq:P.info? t with
 | none=>simp[hq] at h
 | some i=>
  simp[hq] at h
  exact⟨i,rfl,h.1,h.2.1,h.2.2⟩
abbrev zI:Value:=.agg #[.int .i64 0,.int .i64 0,.int .i64 0,.int .i64 0,.string ⟨#[]⟩]
abbrev zM:Value:=.agg #[.string ⟨#[]⟩,.int .i64 0,.int .i64 0,.int .i64 0,.slice none 0 0]
abbrev zC:Value:=.agg #[.string ⟨#[]⟩,.int .i64 0,.int .i64 0,.slice none 0 0]
theorem xoS:(Tryz.prog.info? 76).map (fun i=>(i.zero,i.size,i.bytes))=some (some zI,5,48):=by kernel_rfl
theorem xkA:(Tryz.prog.info? 59).map (fun i=>(i.zero,i.size,i.bytes))=some (some zM,5,64):=by kernel_rfl
theorem xg5:(Tryz.prog.info? 54).map (fun i=>(i.zero,i.size,i.bytes))=some (some zC,4,56):=by kernel_rfl
theorem xbW:(Tryz.prog.info? 27).map (fun i=>(i.zero,i.size,i.bytes))=some (some (.agg #[.int .i64 0,.int .i64 0]),2,16):=by kernel_rfl
theorem xgX:(Tryz.prog.info? 64).map (fun i=>(i.zero,i.size,i.bytes))=some (some (.agg #[.int .i64 0,.slice none 0 0]),2,32):=by kernel_rfl
theorem xmZ:(Tryz.prog.info? 76).map (·.size)=some 5:=by kernel_rfl
theorem xni:(Tryz.prog.info? 27).map (·.size)=some 2:=by kernel_rfl
theorem xfn {T e:TypeId}{zs:Array Value}{sz by':Nat}(hu:Tryz.prog.underlying T=some (.slice e))(hI:(Tryz.prog.info? e).map (fun i=>(i.zero,i.size,i.bytes))=some (some (.agg zs),sz,by'))(hp:0<by')(n:Nat)(hb:n*by'<=140737488351232)(hc:(Value.agg zs).cells=zs)(w:World):(Instr.makeSlice T (.int .i64 (n:Int)) (.int .i64 (n:Int))).run Tryz.prog w=.ok (.slice (some ⟨w.heap.size,0,none⟩) n n) (w.alloc (.cells (madeCells zs (n*sz)) e)):=by
 obtain⟨i0,hi,hz0,hz1,hz2⟩:=xa3 hI;have hn:n<=n*by':=Nat.le_mul_of_pos_right _ hp
 have:=run_make (P:=Tryz.prog) w T e i0 _ hu hi hz0 .i64 .i64 n n (by omega) (by omega) (by rw[hz2];rw[Nat.mul_comm] at *;omega) (by omega)
 rw[this,hz1,hc]
 simp
abbrev xey (T e:TypeId)(zs:Array Value)(sz n:Nat):Prop:=∀ w:World,(Instr.makeSlice T (.int .i64 (n:Int)) (.int .i64 (n:Int))).run Tryz.prog w=.ok (.slice (some ⟨w.heap.size,0,none⟩) n n) (w.alloc (.cells (madeCells zs (n*sz)) e))
theorem xj4 (n:Nat)(hb:n*48<=140737488351232):xey 57 76 #[.int .i64 0,.int .i64 0,.int .i64 0,.int .i64 0,.string ⟨#[]⟩] 5 n:=fun w=>xfn Tryz.underlying57 xoS (by omega) n hb rfl w
theorem xje (n:Nat)(hb:n*64<=140737488351232):xey 52 59 #[.string ⟨#[]⟩,.int .i64 0,.int .i64 0,.int .i64 0,.slice none 0 0] 5 n:=fun w=>xfn Tryz.underlying52 xkA (by omega) n hb rfl w
theorem xgZ (n:Nat)(hb:n*56<=140737488351232):xey 22 54 #[.string ⟨#[]⟩,.int .i64 0,.int .i64 0,.slice none 0 0] 4 n:=fun w=>xfn Tryz.underlying22 xg5 (by omega) n hb rfl w
theorem xcA (n:Nat)(hb:n*16<=140737488351232):xey 28 27 #[.int .i64 0,.int .i64 0] 2 n:=fun w=>xfn Tryz.underlying28 xbW (by omega) n hb rfl w
theorem xkH (n:Nat)(hb:n*32<=140737488351232):xey 23 64 #[.int .i64 0,.slice none 0 0] 2 n:=fun w=>xfn Tryz.underlying23 xgX (by omega) n hb rfl w
abbrev xpc (w w':World):Nat->Prop:=fun b=>w.heap.size<=b/\b<w'.heap.size
theorem xcn {w:World}{a:Addr}{v:Value}(h:w.cell? a=some v)(u:Value):(w.setCell a u).cell? a=some u:=by
 rw[World.cell?_setCell_same _ _ _ h]
theorem xbg (w:World)(a:Addr)(v:Value):(w.setCell a v).heap.size=w.heap.size:=by
 simp[World.setCell]
theorem xaq {P:Nat->Prop}{w w0:World}(h:Keeps P w0 w){b o:Nat}(hb:¬ P b)(u:Value):Keeps P w0 (w.setCell ⟨b,o,none⟩ u):=h.trans (Keeps.of_setCell hb u)
abbrev MV (x:QM)(cv:Value):Value:=.agg #[.string x.name,.int .i64 x.args,.int .i64 x.temps,.int .i64 x.prim,cv]
def OwnSt {α:Type}(E:Lay α)(sz:Nat)(t:TypeId)(w:World)(B:Nat)(xs:List α)(j:Nat):Prop:=
 (∃ cur:Array Value,w.heap[B]?=some (.cells cur t (0,0))/\cur.size=xs.length*sz)/\∀ i x,i<j->xs[i]?=some x->E (fun b=>B<b/\b<w.heap.size) w (fun k=>w.cell? ⟨B,i*sz+k,none⟩) x
theorem xad {w:World}{B o:Nat}{cur:Array Value}{t:TypeId}{fr:Nat × Nat}(h:w.heap[B]?=some (.cells cur t fr))(v:Value):(w.setCell ⟨B,o,none⟩ v).heap[B]?=some (.cells (cur.setIfInBounds o v) t fr):=by
 rw[setCell_eq_setRow w B o cur t fr v h]
 exact setRow_heap w B cur _ t fr h
theorem xab {w:World}{B o g:Nat}(hg:g≠B)(v:Value):(w.setCell ⟨B,o,none⟩ v).heap[g]?=w.heap[g]?:=Below.heap_setCell _ _ _ _ hg
theorem xbJ {B n:Nat}{t:TypeId}:∀ (vs:List Value) (o:Nat) (w:World),(∃ cur:Array Value,w.heap[B]?=some (.cells cur t (0,0))/\cur.size=n)->∃ cur:Array Value,(w.setCells B o vs).heap[B]?=some (.cells cur t (0,0))/\cur.size=n
 | [],_,_,h=>h
 | v :: r,o,w,h=>by
  obtain⟨cur,h1,h2⟩:=h
  exact xbJ r (o+1) _ ⟨_,xad h1 v,by simpa using h2⟩
theorem xaI {B g:Nat}(hg:g≠B):∀ (vs:List Value) (o:Nat) (w:World),(w.setCells B o vs).heap[g]?=w.heap[g]?
 | [],_,_=>rfl
 | v :: r,o,w=>(xaI hg r (o+1) _).trans (xab hg v)
theorem xbh {B:Nat}:∀ (vs:List Value) (o:Nat) (w:World),(w.setCells B o vs).heap.size=w.heap.size
 | [],_,_=>rfl
 | v :: r,o,w=>(xbh r (o+1) _).trans (xbg _ _ _)
section
variable {α:Type} {E:Lay α} {sz:Nat} {t:TypeId} {w w':World} {B:Nat} {xs:List α} {j:Nat}
theorem OwnSt.later (h:OwnSt E sz t w B xs j)(G:Good E sz)(hb:Below w.heap.size w w'):OwnSt E sz t w' B xs j:=by
 obtain⟨⟨cur,h1,h2⟩,h3⟩:=h;refine⟨⟨cur,by rw[hb.block _ (xaf h1)];exact h1,h2⟩,fun i x hi hx=>?_⟩
 exact G.move (h3 i x hi hx) (fun b h=>⟨h.1,qzE h.2 hb.size⟩) (.of_below hb) fun k _ v hv=>qzA hb hv
theorem OwnSt.start (xs:List α)(c:Array Value)(hc:c.size=xs.length*sz):OwnSt E sz t (w.alloc (.cells c t)) w.heap.size xs 0:=
 ⟨⟨c,qzJ w _,hc⟩,fun i x hi _=>by omega⟩
theorem OwnSt.step {x:α}{vs:List Value}(h:OwnSt E sz t w B xs j)(G:Good E sz)(hx:xs[j]?=some x)(hl:vs.length=sz)(hE:E (fun b=>B<b/\b<w.heap.size) w (fun k=>vs[k]?) x):OwnSt E sz t (w.setCells B (j*sz) vs) B xs (j+1):=by
 obtain⟨⟨cur,h1,h2⟩,h3⟩:=h;have hj:=xae hx;have hK:Keeps (fun b=>B<b/\b<w.heap.size) w (w.setCells B (j*sz) vs):=Keeps.of_block fun b hb _=>xaI (by omega) _ _ _
 refine⟨xbJ vs _ w ⟨cur,h1,h2⟩,fun i y hi hy=>?_⟩
 have hz:=xbh (B:=B) vs (j*sz) w
 have hin:j*sz+sz<=xs.length*sz:=by
  have:=Nat.mul_le_mul_right sz (show j+1<=xs.length by omega)
  rw[Nat.add_mul] at this;omega
 by_cases hij:i=j
 ·subst hij;rw[hx] at hy
  cases hy
  refine G.move hE (fun b h=>⟨h.1,by rw[hz];exact h.2⟩) hK fun k hk v hv=>?_
  have:=World.cell?_setCells_in B vs (i*sz) w (fun q hq=>by rw[qzB h1];simp;omega) k (by omega)
  rw[this];rw[List.getElem?_eq_getElem (by omega)] at hv
  exact hv
 ·refine G.move (h3 i y (by omega) hy) (fun b h=>⟨h.1,by rw[hz];exact h.2⟩) hK fun k hk v hv=>?_
  rw[World.cell?_setCells_out B vs (j*sz) w _ (fun _ _=>Or.inl ?_)]
  ·exact hv
  ·have:=Nat.mul_le_mul_right sz (show i+1<=j by omega)
   rw[Nat.add_mul] at this
   simp
   omega
theorem OwnSt.cells (h:OwnSt E sz t w B xs xs.length)(G:Good E sz):∃ cur:Array Value,w.heap[B]?=some (.cells cur t (0,0))/\Cells E sz (fun b=>B<b/\b<w.heap.size) w cur.toList xs:=by
 obtain⟨⟨cur,h1,h2⟩,h3⟩:=h;refine⟨cur,h1,by simpa using h2,fun i x hx=>?_⟩
 exact G.move (h3 i x (xae hx) hx) (fun b h=>h) (.refl _ _) fun k _ v hv=>by rw[qzB h1] at hv;simpa using hv
end
abbrev WV (cv hv:Value)(e:Int):Value:=.agg #[cv,hv,.int .i64 e]
def OwnK (w:World)(B i lo hi:Nat)(x:QC):Prop:=
 w.cell? ⟨B,i*4,none⟩=some (.string x.name)/\w.cell? ⟨B,i*4+1,none⟩=some (.int .i64 x.super)/\w.cell? ⟨B,i*4+2,none⟩=some (.int .i64 x.slots)/\x.name.size<=140737488351232/\
  ∃ g,w.cell? ⟨B,i*4+3,none⟩=some (.slice (some ⟨g,0,none⟩) x.mz.length x.mz.length)/\lo<=g/\g<hi/\x.mz.length*64<=140737488351232/\
   ∃ cur:Array Value,w.heap[g]?=some (.cells cur 59 (0,0))/\Cells xeE 5 (fun b=>g<b/\b<hi) w cur.toList x.mz
def OwnC (w:World)(B:Nat)(xs:List QC)(s:Nat->Nat)(j:Nat):Prop:=
 (∃ cur:Array Value,w.heap[B]?=some (.cells cur 54 (0,0))/\cur.size=xs.length*4)/\B<s 0/\(∀ i,i<j->s i<=s (i+1))/\s j<=w.heap.size/\
  ∀ i x,i<j->xs[i]?=some x->OwnK w B i (s i) (s (i+1)) x
theorem OwnK.later {w w':World}{B i lo hi:Nat}{x:QC}(h:OwnK w B i lo hi x)(hb:Below w.heap.size w w'):OwnK w' B i lo hi x:=by
 obtain⟨h0,h1,h2,h3,g,h4,h5,h6,h7,cur,h8,h9⟩:=h
 exact⟨qzA hb h0,qzA hb h1,qzA hb h2,h3,g,qzA hb h4,h5,h6,h7,cur,by rw[hb.block _ (xaf h8)];exact h8,h9.later xbi hb⟩
theorem OwnC.later {w w':World}{B:Nat}{xs:List QC}{s:Nat->Nat}{j:Nat}(h:OwnC w B xs s j)(hb:Below w.heap.size w w'):OwnC w' B xs s j:=by
 obtain⟨⟨cur,h1,h2⟩,h3,h4,h5,h6⟩:=h
 exact⟨⟨cur,by rw[hb.block _ (xaf h1)];exact h1,h2⟩,h3,h4,qzD h5 hb.size,fun i x hi hx=>(h6 i x hi hx).later hb⟩
theorem OwnC.step {w:World}{B:Nat}{xs:List QC}{s:Nat->Nat}{j g:Nat}{x:QC}(h:OwnC w B xs s j)(hx:xs[j]?=some x)(hn:x.name.size<=140737488351232)(hg:s j<=g)(hM:OwnSt xeE 5 59 w g x.mz x.mz.length)(hby:x.mz.length*64<=140737488351232) :
  ∃ s',OwnC (w.setCells B (j*4) [.string x.name,.int .i64 x.super,.int .i64 x.slots,.slice (some ⟨g,0,none⟩) x.mz.length x.mz.length]) B xs s' (j+1):=by
 obtain⟨⟨cur,h1,h2⟩,h3,h4,h5,h6⟩:=h;have hj:=xae hx;obtain⟨curg,hc1,hc2⟩:=hM.cells xbi;have hgl:=xaf hc1
 have hsm:∀ i,i<=j->s 0<=s i:=fun i=>by
  induction i with
  | zero=>intro _;exact qzC _
  | succ n ih=>intro hi;exact qzD (ih (by omega)) (h4 n (by omega))
 have hBj:=hsm j (qzC _);have hnn:¬ (j+1<=j):=by omega
 refine⟨fun i=>if i<=j then s i else w.heap.size,xbJ _ _ w ⟨cur,h1,h2⟩,by simpa using h3,?_,?_,?_⟩
 ·intro i hi
  by_cases hij:i=j
  ·subst hij;simp[hnn];exact h5
  ·have h1:i<=j:=by omega
   have h2:i+1<=j:=by omega
   simp only[h1,h2,if_true]
   exact h4 i (by omega)
 ·simp[xbh,hnn]
 ·intro i y hi hy;have hin:j*4+4<=xs.length*4:=by omega
  by_cases hij:i=j
  ·subst hij;rw[hx] at hy
   cases hy
   have hc:=fun k (hk:k<4)=>World.cell?_setCells_in B [.string x.name,.int .i64 x.super,.int .i64 x.slots,.slice (some ⟨g,0,none⟩) x.mz.length x.mz.length] (i*4) w (fun q hq=>by rw[qzB h1];simp at hq ⊢;omega) k hk
   refine⟨hc 0 (by omega),hc 1 (by omega),hc 2 (by omega),hn,g,hc 3 (by omega),by simpa using hg,by simpa [hnn] using hgl,hby,curg,?_,?_⟩
   ·rw[xaI (by omega)];exact hc1
   ·refine hc2.keep xbi (Keeps.of_block fun b hb _=>xaI (by have:=hb.1;omega) _ _ _) fun b hb=>⟨hb.1,by simpa [hnn] using hb.2⟩
  ·obtain⟨e0,e1,e2,e3,g',e4,e5,e6,e7,cur',e8,e9⟩:=h6 i y (by omega) hy
   have hi1:i<=j:=by omega
   have hi2:i+1<=j:=by omega
   have hs0:=hsm i hi1;simp only[hi1,hi2,if_true];have ho:=fun k (hk:k<4)=>World.cell?_setCells_out B [.string x.name,.int .i64 x.super,.int .i64 x.slots,.slice (some ⟨g,0,none⟩) x.mz.length x.mz.length] (j*4) w ⟨B,i*4+k,none⟩ (fun _ _=>Or.inl (by simp;omega))
   refine⟨(ho 0 (by omega)).trans e0,(ho 1 (by omega)).trans e1,(ho 2 (by omega)).trans e2,e3,g',(ho 3 (by omega)).trans e4,e5,e6,e7,cur',?_,?_⟩
   ·rw[xaI (by omega)];exact e8
   ·exact e9.keep xbi (Keeps.of_block fun b hb _=>xaI (by have:=hb.1;omega) _ _ _) fun b hb=>hb
theorem OwnC.mono {w:World}{B:Nat}{xs:List QC}{s:Nat->Nat}{n:Nat}(h:OwnC w B xs s n):∀ i j,i<=j->j<=n->s i<=s j:=fun i j hij hj=>by
 obtain⟨-,-,h4,-,-⟩:=h;obtain⟨d,rfl⟩:∃ d,j=i+d:=⟨j-i,by omega⟩
 clear hij
 induction d with
 | zero=>exact qzC _
 | succ d ih=>exact qzD (ih (by omega)) (h4 (i+d) (by omega))
theorem OwnK.meths {w:World}{B i lo hi:Nat}{x:QC}(h:OwnK w B i lo hi x):∃ g,w.cell? ⟨B,i*4+3,none⟩=some (.slice (some ⟨g,0,none⟩) x.mz.length x.mz.length)/\lo<=g/\xbd (fun b=>lo<=b/\b<hi) w (.slice (some ⟨g,0,none⟩) x.mz.length x.mz.length) x.mz:=by
 obtain⟨h0,h1,h2,h3,g,h4,h5,h6,h7,cur,h8,h9⟩:=h;refine⟨g,h4,h5,Cells.row (h9.keep xbi (.refl _ _) fun b hb=>⟨by have:=hb.1;omega,hb.2⟩) xbi ⟨h5,h6⟩ h8 ?_ (qzC _) (by unfold maxLen;omega) h7⟩
 rw[List.take_of_length_le];rw[h9.1]
 exact qzC _
theorem OwnC.start (w:World)(xs:List QC)(c:Array Value)(hc:c.size=xs.length*4):OwnC (w.alloc (.cells c 54)) w.heap.size xs (fun _=>w.heap.size+1) 0:=
 ⟨⟨c,qzJ w _,hc⟩,by simp,fun i hi=>by omega,by simp,fun i x hi _=>by omega⟩
theorem OwnK.set {w:World}{B i lo hi d:Nat}{x:QC}(h:OwnK w B i lo hi x)(hd:d≠B)(hh:hi<=d)(o:Nat)(v:Value):OwnK (w.setCell ⟨d,o,none⟩ v) B i lo hi x:=by
 obtain⟨h0,h1,h2,h3,g,h4,h5,h6,h7,cur,h8,h9⟩:=h;have k:=fun (o':Nat)=>qzI w ⟨d,o,none⟩ ⟨B,o',none⟩ v hd
 refine⟨(k _).trans h0,(k _).trans h1,(k _).trans h2,h3,g,(k _).trans h4,h5,h6,h7,cur,by rw[xab (by omega)];exact h8,h9.keep xbi (Keeps.of_setCell (fun hp=>?_) _) fun _ h=>h⟩
 have:=hp.2
 simp at this
 omega
theorem OwnC.set {w:World}{B d:Nat}{xs:List QC}{s:Nat->Nat}{j:Nat}(h:OwnC w B xs s j)(hd:s j<=d)(o:Nat)(v:Value):OwnC (w.setCell ⟨d,o,none⟩ v) B xs s j:=by
 have hm:=h.mono;obtain⟨⟨cur,h1,h2⟩,h3,h4,h5,h6⟩:=h;have h0:=hm 0 j (by omega) (qzC _)
 refine⟨⟨cur,by rw[xab (by omega)];exact h1,h2⟩,h3,h4,by simpa using h5,fun i x hi hx=>(h6 i x hi hx).set (by omega) ?_ o v⟩
 have:=hm (i+1) j (by omega) (qzC _)
 omega
theorem OwnC.setLow {w:World}{B d:Nat}{xs:List QC}{s:Nat->Nat}{j:Nat}(h:OwnC w B xs s j)(hd:d<B)(o:Nat)(v:Value):OwnC (w.setCell ⟨d,o,none⟩ v) B xs s j:=by
 have hm:=h.mono;obtain⟨⟨cur,h1,h2⟩,h3,h4,h5,h6⟩:=h;refine⟨⟨cur,by rw[xab (by omega)];exact h1,h2⟩,h3,h4,by simpa using h5,fun i x hi hx=>?_⟩
 have h0:=hm 0 i (by omega) (by omega)
 obtain⟨h0,h1,h2,h3,g,h4,h5,h6,h7,cur,h8,h9⟩:=h6 i x hi hx;have k:=fun (o':Nat)=>qzI w ⟨d,o,none⟩ ⟨B,o',none⟩ v (by simp;omega)
 refine⟨(k _).trans h0,(k _).trans h1,(k _).trans h2,h3,g,(k _).trans h4,h5,h6,h7,cur,by rw[xab (by omega)];exact h8,h9.keep xbi (Keeps.of_setCell (fun hp=>?_) _) fun _ h=>h⟩
 have:=hp.1
 simp at this
 omega
theorem OwnSt.set {α:Type}{E:Lay α}{sz:Nat}{t:TypeId}{w:World}{B d:Nat}{xs:List α}{j:Nat}(h:OwnSt E sz t w B xs j)(G:Good E sz)(hd:d<B)(o:Nat)(v:Value):OwnSt E sz t (w.setCell ⟨d,o,none⟩ v) B xs j:=by
 obtain⟨⟨cur,h1,h2⟩,h3⟩:=h;refine⟨⟨cur,by rw[xab (by omega)];exact h1,h2⟩,fun i x hi hx=>G.move (h3 i x hi hx) (fun b h=>by simpa using h) (Keeps.of_setCell (fun hp=>?_) _) fun k _ u hu=>?_⟩
 ·have:=hp.1;simp at this;omega
 ·rw[qzI _ _ _ _ (by simp;omega)];exact hu
def xcN (n:Nat)(c:Int):Bool:=decide (0<=c/\c<n)
theorem xgw (n:Nat)(c:Int)(ad:Option Addr)(cap:Nat)(ah:Option Addr)(nh ch:Nat)(ep:Int)(w:World):Calls Tryz.prog 87 #[WV (.slice ad n cap) (.slice ah nh ch) ep,.int .i64 c] w fun e w'=>e=.returned (.bool (xcN n c))/\Below w.heap.size w w':=by
 by_cases h0:0<=c
 ·go_enter Tryz.func87,Tryz.ntmps87;go_wp2
  go_ret
  exact⟨xb7 (by simp[xcN,h0]),xaj _ _⟩
 ·have h0':c<0:=by omega
  have hd:decide (0<=c)=false:=by simpa using h0
  go_enter Tryz.func87,Tryz.ntmps87;go_wp2
  go_ret
  exact⟨xb7 (by simp[xcN];omega),xaj _ _⟩
def xbt {α:Type}(p:α->Bool)(xs:List α):Int:=((xs.findIdx? p).map Int.ofNat).getD (-1)
theorem xb4 {α:Type}{p:α->Bool}{xs:List α}{j:Nat}{x:α}(hx:xs[j]?=some x)(hp:p x=true)(h:∀ i y,i<j->xs[i]?=some y->p y=false):xbt p xs=(j:Int):=by
 have:xs.findIdx? p=some j:=by
  rw[List.findIdx?_eq_some_iff_getElem];have hj:=xae hx;refine⟨hj,?_,fun i hi=>?_⟩
  ·rw[List.getElem?_eq_getElem hj] at hx;cases hx;exact hp
  ·have:=h i xs[i] hi (by simp)
   simp[this]
 simp[xbt,this]
theorem xbM {α:Type}{p:α->Bool}{xs:List α}(h:∀ (i:Nat) y,xs[i]?=some y->p y=false):xbt p xs=-1:=by
 have:xs.findIdx? p=none:=by
  rw[List.findIdx?_eq_none_iff];intro y hy;obtain⟨i,hi,rfl⟩:=List.mem_iff_getElem.1 hy
  exact h i _ (by simp)
 simp[xbt,this]
def eqN (a b:ByteArray):Bool:=a.toList == b.toList
theorem xhW {P:Nat->Prop}(cap':Value)(p:QM->Bool)(xs:List QM)(v:Value)(w:World)(hh:xbd P w v xs)
  (hF:∀ (x:QM) (a:Option Addr) (n c:Nat) (w':World),Below w.heap.size w w'->Calls Tryz.prog 89 #[MV x (.slice a n c),cap'] w' fun e w''=>e=.returned (.bool (p x))/\Below w'.heap.size w' w'') :
  Calls Tryz.prog 88 #[v,.func (.func 89) #[] #[cap']] w fun e w'=>e=.returned (.int .i64 (xbt p xs))/\Below w.heap.size w w':=by
 obtain⟨ad,cap,rfl,hl,hcap,hby,hrow⟩:=hh;go_enter Tryz.func88,Tryz.ntmps88;go_wp2
 go_loopg [8] xs.length (fun g c wr=>∃ j:Nat,j+g=xs.length/\c=.int .i64 j/\Below w.heap.size w wr/\∀ i y,i<j->xs[i]?=some y->p y=false)
 case atStart=>exact⟨0,by omega,rfl,qzL _ _,fun i y hi=>by omega⟩
 case round=>
  obtain⟨j,hj,rfl,hbel,hno⟩:=hrel;have HN:Hid (∀ i y,i<j->xs[i]?=some y->p y=false):=hno;clear hno
  by_cases hlt:j<xs.length
  ·obtain⟨b,o,rfl,-,hv0,hv1,hv2,hv3,hsz,sv,hv4,hsl⟩:=hrow j xs[j] (by simp[hlt])
   have hxj:Hid (xs[j]?=some xs[j]):=by show _=_;simp[hlt]
   generalize xs[j]=x at *;simp only[Nat.add_zero] at hv0;have u0:=qzA hbel hv0;have u1:=qzA hbel hv1;have u2:=qzA hbel hv2;have u3:=qzA hbel hv3;have u4:=qzA hbel hv4;obtain⟨ad2,cap2,rfl,-,-,-,-⟩:=id hsl;clear hv0 hv1 hv2 hv3 hv4 hsl hrow;have hj1:(j:Int)<(xs.length:Int):=by omega
   have hj0:(0:Int)<=(j:Int):=by omega
   go_wp2_with fail;refine (hF x ad2 x.code.length cap2 _ hbel).mono ?_;rintro e w1 ⟨rfl,hb⟩
   by_cases hp:p x=true
   ·go_wp2
    go_ret
    exact⟨xak (xb4 hxj.out hp HN.out).symm,xah hbel hb⟩
   ·have hp':p x=false:=by simpa using hp
    clear hp;go_wp2
    go_roundg (gk-1)
    case measure=>omega
    case rel=>
     refine⟨j+1,by omega,by go_num,xah hbel hb,fun i y hi hy=>?_⟩
     by_cases hij:i=j
     ·subst hij;rw[hxj.out] at hy;cases hy;exact hp'
     ·exact HN.out i y (by omega) hy
  ·obtain rfl:j=xs.length:=by omega
   go_wp2
   go_ret
   exact⟨xak (xbM fun i y hy=>HN.out i y (xae hy) hy).symm,hbel⟩
theorem xjz (x:QM)(a:Option Addr)(n c b:Nat)(name:ByteArray)(w:World)(hc:w.cell? ⟨b,0,none⟩=some (.string name)):Calls Tryz.prog 89 #[MV x (.slice a n c),.pointer (some ⟨b,0,none⟩)] w fun e w'=>e=.returned (.bool (eqN x.name name))/\Below w.heap.size w w':=by
 have k:=fun y=>qzA (xaj w y) hc
 go_enter Tryz.func89,Tryz.ntmps89;go_wp2
 go_ret
 exact⟨xb7 rfl,xaj _ _⟩
theorem hmf (fn:Fn)(first cap:Array Value)(w:World):(Instr.makeFunc fn first cap).run Tryz.prog w=.ok (.func fn first cap) w:=rfl
def xcu (xs:List QM)(name:ByteArray):Int:=xbt (fun m=>eqN m.name name) xs
theorem xg8 {P:Nat->Prop}(xs:List QM)(v:Value)(name:ByteArray)(w:World)(hh:xbd P w v xs):Calls Tryz.prog 75 #[v,.string name] w fun e w'=>e=.returned (.int .i64 (xcu xs name))/\Below w.heap.size w w':=by
 have hm:=hmf;go_enter Tryz.func75,Tryz.ntmps75;go_wp2_with fail;refine (xhW _ (fun m=>eqN m.name name) xs v _ (hh.later xbi (xaj _ _)) fun x a n c w' hb=>xjz x a n c _ name w' (qzA hb (by rw[xaa _ _ _ _ rfl];rfl))).mono ?_
 rintro e w1 ⟨rfl,hb⟩;go_wp2
 go_ret
 exact⟨rfl,xbz (qzL _ _) hb⟩
end Go.Proofs.YtapbeiccodnniaaGreat
