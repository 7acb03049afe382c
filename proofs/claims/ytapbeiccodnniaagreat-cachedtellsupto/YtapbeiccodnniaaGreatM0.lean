/- A part. -/
import Derived.Test.YtapbeiccodnniaaGreatRows
import Derived.WalkKit
import Derived.ProofKit
import Derived.OpenShut
import Derived.Below
import Derived.WalkSpells
import Derived.WalkLawsBesides
import Derived.BigQuiet
import Derived.Deep.RegionHeld3
import Derived.Deep.Light
import Derived.Deep.LoopGhost
import Derived.Deep.DeepCutAuto
import Derived.Laws.CopyOwn
import Derived.Laws.Append
import Derived.Laws.Rows
import Derived.Laws.IdiomCopy
import Derived.Deep.RegionLawGrows
namespace Go.Proofs.YtapbeiccodnniaaGreat
open Go.ChangeShapes Go.WideShapes Go.ChangeAt Go.RowKit
set_option linter.unusedSimpArgs false
set_option linter.unusedVariables false
set_option maxHeartbeats 8000000
theorem qzB{w:World}{b o:Nat}{cs:Array Value}{t:TypeId}{fr:Nat × Nat}(h:w.heap[b]?=some (.cells cs t fr)):w.cell? ⟨b,o,none⟩=cs[o]?:=cell_of_row _ _ _ _ _ _ h
theorem qzC(n:Nat):n<=n:=Nat.le_refl n
theorem qzD{a b c:Nat}(h:a<=b)(k:b<=c):a<=c:=Nat.le_trans h k
theorem qzE{a b c:Nat}(h:a<b)(k:b<=c):a<c:=Nat.lt_of_lt_of_le h k
theorem qzA{w x:World}{a:Addr}{v:Value}(hb:Below w.heap.size w x)(h:w.cell? a=some v):x.cell? a=some v:=cell_later hb h
theorem qzF{α:Type}{l:List α}{i:Nat}{a:α}:l.toArray.setIfInBounds i a=(l.set i a).toArray:=by simp
theorem qzG{α:Type}{a b:α}{l:List α}:(a :: l).set 0 b=b :: l:=rfl
theorem qzH{α:Type}{a b:α}{l:List α}{n:Nat}:(a :: l).set (n+1) b=a :: l.set n b:=rfl
abbrev qzI:=@World.cell?_setCell_far
abbrev qzJ:=@heap_alloc_new
abbrev qzK:=@bodyPost_ret
abbrev qzL:=@Below.refl
abbrev qzM:=@World.cell?_setCell_other
theorem xhH {W w1:World}(hb:Below W.heap.size W w1):(∀ b o,b<W.heap.size->w1.cell? ⟨b,o,none⟩=W.cell? ⟨b,o,none⟩)/\(∀ b o,b<W.heap.size->w1.frozen? ⟨b,o,none⟩=W.frozen? ⟨b,o,none⟩):=
 ⟨fun b o h=>hb.cell (p:=⟨b,o,none⟩) h,fun b o h=>hb.frozen (p:=⟨b,o,none⟩) h⟩
theorem xaj (w:World)(a:Obj):Below w.heap.size w (w.alloc a):=(qzL _ _).alloc (qzC _) _
theorem xca (w:World)(a b:Obj):Below w.heap.size w ((w.alloc a).alloc b):=(xaj _ _).alloc (by simp) _
theorem xfv (w:World)(a b c:Obj):Below w.heap.size w (((w.alloc a).alloc b).alloc c):=(xca _ _ _).alloc (by simp;omega) _
theorem xah {w W w':World}(h:Below w.heap.size w W)(k:Below W.heap.size W w'):Below w.heap.size w w':=h.trans (k.mono h.size)
theorem xbz {w W w':World}{X:Obj}(h:Below w.heap.size w W)(k:Below (W.alloc X).heap.size (W.alloc X) w'):Below w.heap.size w w':=xah (h.alloc h.size _) k
theorem xaf {w:World}{g:Nat}{x:Obj}(h:w.heap[g]?=some x):g<w.heap.size:=(Array.getElem?_eq_some_iff.1 h).1
theorem xae {α:Type}{l:List α}{i:Nat}{x:α}(h:l[i]?=some x):i<l.length:=by
 rcases Nat.lt_or_ge i l.length with h' | h'
 ·exact h'
 ·rw[List.getElem?_eq_none h'] at h;cases h
theorem xak {a b:Int}(h:a=b):Ending.returned (.int .i64 a)=.returned (.int .i64 b):=by rw[h]
theorem xb7 {a b:Bool}(h:a=b):Ending.returned (.bool a)=.returned (.bool b):=by rw[h]
theorem xaa (w:World)(cs:Array Value)(t:TypeId)(n:Nat)(hn:w.heap.size=n)(j:Nat):(w.alloc (.cells cs t)).cell? ⟨n,j,none⟩=cs[j]?:=by
 subst hn
 exact qzB (qzJ w _)
structure QV where
 k:Int
 n:Int
structure QO where
 cls:Int
 slots:List QV
structure QI where
 op:Int
 a:Int
 b:Int
 c:Int
 name:ByteArray
structure QM where
 name:ByteArray
 args:Int
 temps:Int
 prim:Int
 code:List QI
structure QC where
 name:ByteArray
 super:Int
 slots:Int
 mz:List QM
structure QW where
 cz:List QC
 heap:List QO
 ez:Int
def Keeps (P:Nat->Prop)(w w':World):Prop:=∀ b o v,P b->w.cell? ⟨b,o,none⟩=some v->w'.cell? ⟨b,o,none⟩=some v
theorem Keeps.of_below {P:Nat->Prop}{w w':World}(hb:Below w.heap.size w w'):Keeps P w w':=fun b o v _ h=>qzA hb h
theorem Keeps.of_setCell {P:Nat->Prop}{w:World}{a:Addr}(ha:¬ P a.block)(u:Value):Keeps P w (w.setCell a u):=fun b o v hl h=>by
 rw[qzM _ _ _ _ (by intro e;subst e;exact ha hl)];exact h
theorem Keeps.trans {P:Nat->Prop}{w w' w'':World}(h:Keeps P w w')(k:Keeps P w' w''):Keeps P w w'':=fun b o v hl hc=>k b o v hl (h b o v hl hc)
theorem Keeps.mono {P Q:Nat->Prop}{w w':World}(h:Keeps P w w')(hl:∀ b,Q b->P b):Keeps Q w w':=fun b o v hb hc=>h b o v (hl _ hb) hc
theorem Keeps.refl (P:Nat->Prop)(w:World):Keeps P w w:=fun _ _ _ _ h=>h
theorem Keeps.of_block {P:Nat->Prop}{w w':World}(h:∀ b,P b->b<w.heap.size->w'.heap[b]?=w.heap[b]?):Keeps P w w':=fun b o v hp hc=>by
 have hl:=World.block_lt_of_cell? w ⟨b,o,none⟩ hc;unfold World.cell? at hc ⊢;rw[h b hp hl]
 exact hc
abbrev Lay (α:Type):=(Nat->Prop)->World->(Nat->Option Value)->α->Prop
structure Good {α:Type}(E:Lay α)(sz:Nat):Prop where
 move:∀ {P Q:Nat->Prop} {w w':World} {f f':Nat->Option Value} {x:α},E P w f x->(∀ b,P b->Q b)->Keeps P w w'->(∀ k,k<sz->∀ v,f k=some v->f' k=some v)->E Q w' f' x
 there:∀ {P:Nat->Prop} {w:World} {f:Nat->Option Value} {x:α},E P w f x->∀ k,k<sz->∃ u,f k=some u/\u.oneCell'=true
 pos:0<sz
def RowAt {α:Type}(E:Lay α)(sz:Nat)(P:Nat->Prop)(w:World)(ad:Option Addr)(xs:List α):Prop:=
 ∀ i x,xs[i]?=some x->∃ b o,ad=some ⟨b,o,none⟩/\P b/\E P w (fun k=>w.cell? ⟨b,o+i*sz+k,none⟩) x
def IsRow {α:Type}(E:Lay α)(sz bytes:Nat)(P:Nat->Prop)(w:World)(v:Value)(xs:List α):Prop:=
 ∃ ad cap,v=.slice ad xs.length cap/\xs.length<=cap/\cap<=maxLen/\xs.length*bytes<=140737488351232/\RowAt E sz P w ad xs
theorem RowAt.keep {α:Type}{E:Lay α}{sz:Nat}(G:Good E sz){P Q:Nat->Prop}{w w':World}{ad:Option Addr}{xs:List α}(h:RowAt E sz P w ad xs)(hk:Keeps P w w')(hl:∀ b,P b->Q b):RowAt E sz Q w' ad xs:=fun i x hx=>by
 obtain⟨b,o,e1,e2,e3⟩:=h i x hx
 exact⟨b,o,e1,hl _ e2,G.move e3 hl hk fun k _ v hv=>hk _ _ _ e2 hv⟩
theorem IsRow.keep {α:Type}{E:Lay α}{sz bytes:Nat}(G:Good E sz){P Q:Nat->Prop}{w w':World}{v:Value}{xs:List α}(h:IsRow E sz bytes P w v xs)(hk:Keeps P w w')(hl:∀ b,P b->Q b):IsRow E sz bytes Q w' v xs:=by
 obtain⟨ad,cap,h1,h2,h3,h4,h5⟩:=h
 exact⟨ad,cap,h1,h2,h3,h4,h5.keep G hk hl⟩
def xe2:Lay QI:=fun _ _ f x=>f 0=some (.int .i64 x.op)/\f 1=some (.int .i64 x.a)/\f 2=some (.int .i64 x.b)/\f 3=some (.int .i64 x.c)/\f 4=some (.string x.name)/\x.name.size<=140737488351232
def xmM:Lay QV:=fun _ _ f x=>f 0=some (.int .i64 x.k)/\f 1=some (.int .i64 x.n)
abbrev xa5:=IsRow xe2 5 48
abbrev xaB:=IsRow xmM 2 16
def xeE:Lay QM:=fun P w f x=>f 0=some (.string x.name)/\f 1=some (.int .i64 x.args)/\f 2=some (.int .i64 x.temps)/\f 3=some (.int .i64 x.prim)/\x.name.size<=140737488351232/\∃ v,f 4=some v/\xa5 P w v x.code
def xlt:Lay QO:=fun P w f x=>f 0=some (.int .i64 x.cls)/\∃ v,f 1=some v/\xaB P w v x.slots
abbrev xbd:=IsRow xeE 5 64
abbrev xaC:=IsRow xlt 2 32
def xd8:Lay QC:=fun P w f x=>f 0=some (.string x.name)/\f 1=some (.int .i64 x.super)/\f 2=some (.int .i64 x.slots)/\x.name.size<=140737488351232/\∃ v,f 3=some v/\xbd P w v x.mz
abbrev xai:=IsRow xd8 4 56
theorem xcO {α:Type}{E:Lay α}{sz bytes:Nat}{P:Nat->Prop}{w:World}{v:Value}{xs:List α}(h:IsRow E sz bytes P w v xs):v.oneCell'=true:=by
 obtain⟨ad,cap,rfl,-⟩:=h;rfl
theorem xbl:Good xe2 5 where
 move h _ _ hf:=⟨hf 0 (by omega) _ h.1,hf 1 (by omega) _ h.2.1,hf 2 (by omega) _ h.2.2.1,hf 3 (by omega) _ h.2.2.2.1,hf 4 (by omega) _ h.2.2.2.2.1,h.2.2.2.2.2⟩
 there h k hk:=by
  obtain⟨h0,h1,h2,h3,h4,-⟩:=h
  match k,hk with
  | 0,_=>exact⟨_,h0,rfl⟩
  | 1,_=>exact⟨_,h1,rfl⟩
  | 2,_=>exact⟨_,h2,rfl⟩
  | 3,_=>exact⟨_,h3,rfl⟩
  | 4,_=>exact⟨_,h4,rfl⟩
 pos:=by omega
theorem xaK:Good xmM 2 where
 move h _ _ hf:=⟨hf 0 (by omega) _ h.1,hf 1 (by omega) _ h.2⟩
 there h k hk:=by
  obtain⟨h0,h1⟩:=h
  match k,hk with
  | 0,_=>exact⟨_,h0,rfl⟩
  | 1,_=>exact⟨_,h1,rfl⟩
 pos:=by omega
theorem xbi:Good xeE 5 where
 move h hl hk hf:=by
  obtain⟨h0,h1,h2,h3,h4,v,h5,h6⟩:=h
  exact⟨hf 0 (by omega) _ h0,hf 1 (by omega) _ h1,hf 2 (by omega) _ h2,hf 3 (by omega) _ h3,h4,v,hf 4 (by omega) _ h5,h6.keep xbl hk hl⟩
 there h k hk:=by
  obtain⟨h0,h1,h2,h3,h4,v,h5,h6⟩:=h
  match k,hk with
  | 0,_=>exact⟨_,h0,rfl⟩
  | 1,_=>exact⟨_,h1,rfl⟩
  | 2,_=>exact⟨_,h2,rfl⟩
  | 3,_=>exact⟨_,h3,rfl⟩
  | 4,_=>exact⟨_,h5,xcO h6⟩
 pos:=by omega
theorem xaD:Good xlt 2 where
 move h hl hk hf:=by
  obtain⟨h0,v,h5,h6⟩:=h
  exact⟨hf 0 (by omega) _ h0,v,hf 1 (by omega) _ h5,h6.keep xaK hk hl⟩
 there h k hk:=by
  obtain⟨h0,v,h5,h6⟩:=h
  match k,hk with
  | 0,_=>exact⟨_,h0,rfl⟩
  | 1,_=>exact⟨_,h5,xcO h6⟩
 pos:=by omega
theorem xaz:Good xd8 4 where
 move h hl hk hf:=by
  obtain⟨h0,h1,h2,h4,v,h5,h6⟩:=h
  exact⟨hf 0 (by omega) _ h0,hf 1 (by omega) _ h1,hf 2 (by omega) _ h2,h4,v,hf 3 (by omega) _ h5,h6.keep xbi hk hl⟩
 there h k hk:=by
  obtain⟨h0,h1,h2,h4,v,h5,h6⟩:=h
  match k,hk with
  | 0,_=>exact⟨_,h0,rfl⟩
  | 1,_=>exact⟨_,h1,rfl⟩
  | 2,_=>exact⟨_,h2,rfl⟩
  | 3,_=>exact⟨_,h5,xcO h6⟩
 pos:=by omega
section
variable {α:Type} {E:Lay α} {sz bytes:Nat} {P Q:Nat->Prop} {w w':World} {v:Value} {xs:List α}
theorem IsRow.later (h:IsRow E sz bytes P w v xs)(G:Good E sz)(hb:Below w.heap.size w w'):IsRow E sz bytes P w' v xs:=h.keep G (.of_below hb) fun _ h=>h
theorem IsRow.mono (h:IsRow E sz bytes P w v xs)(G:Good E sz)(hl:∀ b,P b->Q b):IsRow E sz bytes Q w v xs:=h.keep G (.refl _ _) hl
end
def Cells {α:Type}(E:Lay α)(sz:Nat)(P:Nat->Prop)(w:World)(cs:List Value)(xs:List α):Prop:=
 cs.length=xs.length*sz/\∀ i x,xs[i]?=some x->E P w (fun k=>cs[i*sz+k]?) x
section
variable {α:Type} {E:Lay α} {sz bytes:Nat} {P Q:Nat->Prop} {w w':World} {cs:List Value} {xs:List α}
theorem Cells.keep (h:Cells E sz P w cs xs)(G:Good E sz)(hk:Keeps P w w')(hl:∀ b,P b->Q b):Cells E sz Q w' cs xs:=
 ⟨h.1,fun i x hx=>G.move (h.2 i x hx) hl hk fun _ _ _ h=>h⟩
theorem Cells.later (h:Cells E sz P w cs xs)(G:Good E sz)(hb:Below w.heap.size w w'):Cells E sz P w' cs xs:=h.keep G (.of_below hb) fun _ h=>h
theorem Cells.nil:Cells E sz P w [] ([]:List α):=⟨by simp,fun i x hx=>by simp at hx⟩
theorem Cells.append {ds:List Value}{ys:List α}(h:Cells E sz P w cs xs)(G:Good E sz)(k:Cells E sz P w ds ys):Cells E sz P w (cs++ds) (xs++ys):=by
 have hl:=h.1;refine⟨by rw[List.length_append,List.length_append,h.1,k.1,Nat.add_mul],fun i x hx=>?_⟩
 by_cases hi:i<xs.length
 ·rw[List.getElem?_append_left hi] at hx;refine G.move (h.2 i x hx) (fun _ h=>h) (.refl _ _) fun k hk v hv=>?_
  have hlt:=xae hv;simp only[List.getElem?_append_left hlt]
  exact hv
 ·rw[List.getElem?_append_right (by omega)] at hx
  refine G.move (k.2 _ x hx) (fun _ h=>h) (.refl _ _) fun k hk v hv=>?_
  obtain⟨d,rfl⟩:∃ d,i=xs.length+d:=⟨i-xs.length,by omega⟩
  simp only[Nat.add_sub_cancel_left] at hv;rw[List.getElem?_append_right (by rw[hl,Nat.add_mul];omega),hl,Nat.add_mul,show xs.length*sz+d*sz+k-xs.length*sz=d*sz+k by omega]
  exact hv
theorem Cells.one {x:α}(G:Good E sz)(h1:cs.length=sz)(h:E P w (fun k=>cs[k]?) x):Cells E sz P w cs [x]:=by
 refine⟨by simpa using h1,fun i y hy=>?_⟩
 have hi:=xae hy;obtain rfl:i=0:=by simpa using hi
 simp at hy
 subst hy;refine G.move h (fun _ h=>h) (.refl _ _) fun k hk v hv=>by simpa using hv
theorem Cells.all (h:Cells E sz P w cs xs)(G:Good E sz):∀ u∈cs,u.oneCell'=true:=by
 intro u hu;obtain⟨j,hj,rfl⟩:=List.mem_iff_getElem.1 hu;have hp:=G.pos;have hl:=h.1
 have h1:j / sz<xs.length:=by
  rw[Nat.div_lt_iff_lt_mul hp];omega
 obtain⟨v,hv,ho⟩:=G.there (h.2 (j / sz) xs[j / sz] (by simp[h1])) (j % sz) (Nat.mod_lt _ hp)
 rw[Nat.div_add_mod'] at hv;rw[List.getElem?_eq_getElem hj] at hv
 cases hv
 exact ho
theorem RowAt.cells {ad:Option Addr}(h:RowAt E sz P w ad xs)(G:Good E sz):∃ cs,Cells E sz P w cs xs/\∀ j u,cs[j]?=some u->∃ a,ad=some a/\w.cell? (a.add j)=some u:=by
 have hp:=G.pos
 cases xs with
 | nil=>exact⟨[],.nil,fun j u hu=>by simp at hu⟩
 | cons y r=>
  obtain⟨b,o,rfl,-⟩:=h 0 y rfl;refine⟨(List.range ((y :: r).length*sz)).map fun j=>(w.cell? ⟨b,o+j,none⟩).getD undef,⟨by simp,fun i x hx=>?_⟩,fun j u hu=>?_⟩
  ·have hi:=xae hx;obtain⟨b',o',e,-,h1⟩:=h i x hx
   cases e
   refine G.move h1 (fun _ h=>h) (.refl _ _) fun k hk v hv=>?_
   have hlt:i*sz+k<(y :: r).length*sz:=by
    have:i*sz+k<(i+1)*sz:=by rw[Nat.add_mul];omega
    exact qzE this (Nat.mul_le_mul_right _ hi)
   rw[List.getElem?_map,List.getElem?_range hlt];rw[Nat.add_assoc] at hv
   simp[hv]
  ·rw[List.getElem?_map] at hu
   have hj:j<(y :: r).length*sz:=by
    rcases Nat.lt_or_ge j ((y :: r).length*sz) with h' | h'
    ·exact h'
    ·rw[List.getElem?_eq_none (by simpa using h')] at hu;simp at hu
   rw[List.getElem?_range hj] at hu;refine⟨_,rfl,?_⟩;rw[Addr.add_lit];have hjs:j / sz<(y :: r).length:=by rw[Nat.div_lt_iff_lt_mul hp];exact hj
   obtain⟨b',o',e,-,h1⟩:=h (j / sz) ((y :: r)[j / sz]) (by simp)
   cases e
   obtain⟨v,hv,-⟩:=G.there h1 (j % sz) (Nat.mod_lt _ hp);rw[Nat.add_assoc,Nat.div_add_mod'] at hv;rw[hv]
   simpa [hv] using hu
theorem Cells.row {g cap:Nat}(h:Cells E sz P w cs xs)(G:Good E sz)(hP:P g){t:TypeId}{fr:Nat × Nat}{cur:Array Value}(hg:w.heap[g]?=some (.cells cur t fr))(hc:cur.toList.take (xs.length*sz)=cs)(h1:xs.length<=cap)(h2:cap<=maxLen)(h3:xs.length*bytes<=140737488351232) :
  IsRow E sz bytes P w (.slice (some ⟨g,0,none⟩) xs.length cap) xs:=by
 refine⟨_,_,rfl,h1,h2,h3,fun i x hx=>⟨g,0,rfl,hP,?_⟩⟩
 refine G.move (h.2 i x hx) (fun _ h=>h) (.refl _ _) fun k hk v hv=>?_
 have hlt:=xae hv;rw[cell_of_row w g _ _ _ _ hg,Nat.zero_add];subst hc;rw[List.getElem?_take] at hv
 split at hv
 ·simpa using hv
 ·cases hv
end
theorem xb5 {P:Program}(w:World)(dT sT ty elem:TypeId)(sz g len dCap:Nat)(sp:Option Addr)(sCap:Nat)(cur:Array Value)(t:TypeId)(cs:List Value)
  (hu:P.underlying dT=some (.slice elem)) (hs:(P.info? elem).map (·.size)=some sz) (hg:w.heap[g]?=some (.cells cur t (0,0))) (hn:cs.length=len*sz)
  (hsrc:∀ j v,cs[j]?=some v->∃ a,sp=some a/\w.cell? (a.add j)=some v) (hcur:cur.size=len*sz) (h1:∀ v∈cs,v.oneCell'=true) :
  ∃ w',(Builtin.copy_ #[dT,sT] ty #[.slice (some ⟨g,0,none⟩) len dCap,.slice sp len sCap]).run P w=.ok (goInt len) w'/\w'.heap[g]?=some (.cells cs.toArray t (0,0))/\∀ B w0,Below B w0 w->B<=g->Below B w0 w':=by
 cases hq:P.info? elem with
 | none=>simp[hq] at hs
 | some i=>
  have hi:i.size=sz:=by simpa [hq] using hs
  have hst:=run_storeCells_at P g 0 t cs 0 cur w hg (by simp;omega) h1
  have hm:Nat.min len len=len:=Nat.min_self len
  have hfc:(Builtin.firstCells sz len (.slice sp len sCap)).run P w=.ok cs.toArray w:=by
   cases sp with
   | some a=>exact run_firstCells_some w sz len a len sCap cs hn (fun j v hv=>by obtain⟨a',e,h⟩:=hsrc j v hv;cases e;exact h)
   | none=>
    have:cs=[]:=by
     cases cs with
     | nil=>rfl
     | cons c r=>obtain⟨a',e,_⟩:=hsrc 0 c rfl;cases e
    rw[this]
    exact run_firstCells_none w sz len len sCap
  refine⟨w.setRow g cs.toArray,?_,setRow_heap w g cur _ t _ hg,fun B w0 hb hB=>below_setRow hb hB _⟩
  have e:(cur.toList.take (0+0)++cs++cur.toList.drop (0+0+cs.length)).toArray=cs.toArray:=by
   have:cur.toList.drop cs.length=[]:=by rw[List.drop_eq_nil_iff];simp;omega
   simp[this]
  rw[e] at hst
  simp[Builtin.copy_,run_underlying hu,Builtin.lenOf,sizeOf,typeInfo,hq,hi,hm,hfc,hst]
theorem xa3 {P:Program}{t:TypeId}{z:Value}{n m:Nat}(h:(P.info? t).map (fun i=>(i.zero,i.size,i.bytes))=some (some z,n,m)):∃ i,P.info? t=some i/\i.zero=some z/\i.size=n/\i.bytes=m:=by
 cases hq:P.info? t with
 | none=>simp[hq] at h
 | some i=>
  simp[hq] at h
  exact⟨i,rfl,h.1,h.2.1,h.2.2⟩
abbrev zI:Value:=.agg #[.int .i64 0,.int .i64 0,.int .i64 0,.int .i64 0,.string ⟨#[]⟩]
abbrev zM:Value:=.agg #[.string ⟨#[]⟩,.int .i64 0,.int .i64 0,.int .i64 0,.slice none 0 0]
abbrev zC:Value:=.agg #[.string ⟨#[]⟩,.int .i64 0,.int .i64 0,.slice none 0 0]
theorem xoS:(Tryz.prog.info? 76).map (fun i=>(i.zero,i.size,i.bytes))=some (some zI,5,48):=by kernel_rfl
theorem xkA:(Tryz.prog.info? 59).map (fun i=>(i.zero,i.size,i.bytes))=some (some zM,5,64):=by kernel_rfl
theorem xg5:(Tryz.prog.info? 54).map (fun i=>(i.zero,i.size,i.bytes))=some (some zC,4,56):=by kernel_rfl
theorem xbW:(Tryz.prog.info? 27).map (fun i=>(i.zero,i.size,i.bytes))=some (some (.agg #[.int .i64 0,.int .i64 0]),2,16):=by kernel_rfl
theorem xgX:(Tryz.prog.info? 64).map (fun i=>(i.zero,i.size,i.bytes))=some (some (.agg #[.int .i64 0,.slice none 0 0]),2,32):=by kernel_rfl
theorem xmZ:(Tryz.prog.info? 76).map (·.size)=some 5:=by kernel_rfl
theorem xni:(Tryz.prog.info? 27).map (·.size)=some 2:=by kernel_rfl
theorem xfn {T e:TypeId}{zs:Array Value}{sz by':Nat}(hu:Tryz.prog.underlying T=some (.slice e))(hI:(Tryz.prog.info? e).map (fun i=>(i.zero,i.size,i.bytes))=some (some (.agg zs),sz,by'))(hp:0<by')(n:Nat)(hb:n*by'<=140737488351232)(hc:(Value.agg zs).cells=zs)(w:World):(Instr.makeSlice T (.int .i64 (n:Int)) (.int .i64 (n:Int))).run Tryz.prog w=.ok (.slice (some ⟨w.heap.size,0,none⟩) n n) (w.alloc (.cells (madeCells zs (n*sz)) e)):=by
 obtain⟨i0,hi,hz0,hz1,hz2⟩:=xa3 hI;have hn:n<=n*by':=Nat.le_mul_of_pos_right _ hp
 have:=run_make (P:=Tryz.prog) w T e i0 _ hu hi hz0 .i64 .i64 n n (by omega) (by omega) (by rw[hz2];rw[Nat.mul_comm] at *;omega) (by omega)
 rw[this,hz1,hc]
 simp
abbrev xey (T e:TypeId)(zs:Array Value)(sz n:Nat):Prop:=∀ w:World,(Instr.makeSlice T (.int .i64 (n:Int)) (.int .i64 (n:Int))).run Tryz.prog w=.ok (.slice (some ⟨w.heap.size,0,none⟩) n n) (w.alloc (.cells (madeCells zs (n*sz)) e))
theorem xj4 (n:Nat)(hb:n*48<=140737488351232):xey 57 76 #[.int .i64 0,.int .i64 0,.int .i64 0,.int .i64 0,.string ⟨#[]⟩] 5 n:=fun w=>xfn Tryz.underlying57 xoS (by omega) n hb rfl w
theorem xje (n:Nat)(hb:n*64<=140737488351232):xey 52 59 #[.string ⟨#[]⟩,.int .i64 0,.int .i64 0,.int .i64 0,.slice none 0 0] 5 n:=fun w=>xfn Tryz.underlying52 xkA (by omega) n hb rfl w
theorem xgZ (n:Nat)(hb:n*56<=140737488351232):xey 22 54 #[.string ⟨#[]⟩,.int .i64 0,.int .i64 0,.slice none 0 0] 4 n:=fun w=>xfn Tryz.underlying22 xg5 (by omega) n hb rfl w
theorem xcA (n:Nat)(hb:n*16<=140737488351232):xey 28 27 #[.int .i64 0,.int .i64 0] 2 n:=fun w=>xfn Tryz.underlying28 xbW (by omega) n hb rfl w
theorem xkH (n:Nat)(hb:n*32<=140737488351232):xey 23 64 #[.int .i64 0,.slice none 0 0] 2 n:=fun w=>xfn Tryz.underlying23 xgX (by omega) n hb rfl w
abbrev xpc (w w':World):Nat->Prop:=fun b=>w.heap.size<=b/\b<w'.heap.size
theorem xcn {w:World}{a:Addr}{v:Value}(h:w.cell? a=some v)(u:Value):(w.setCell a u).cell? a=some u:=by
 rw[World.cell?_setCell_same _ _ _ h]
theorem xbg (w:World)(a:Addr)(v:Value):(w.setCell a v).heap.size=w.heap.size:=by
 simp[World.setCell]
theorem xaq {P:Nat->Prop}{w w0:World}(h:Keeps P w0 w){b o:Nat}(hb:¬ P b)(u:Value):Keeps P w0 (w.setCell ⟨b,o,none⟩ u):=h.trans (Keeps.of_setCell hb u)
abbrev MV (x:QM)(cv:Value):Value:=.agg #[.string x.name,.int .i64 x.args,.int .i64 x.temps,.int .i64 x.prim,cv]
def OwnSt {α:Type}(E:Lay α)(sz:Nat)(t:TypeId)(w:World)(B:Nat)(xs:List α)(j:Nat):Prop:=
 (∃ cur:Array Value,w.heap[B]?=some (.cells cur t (0,0))/\cur.size=xs.length*sz)/\∀ i x,i<j->xs[i]?=some x->E (fun b=>B<b/\b<w.heap.size) w (fun k=>w.cell? ⟨B,i*sz+k,none⟩) x
theorem xad {w:World}{B o:Nat}{cur:Array Value}{t:TypeId}{fr:Nat × Nat}(h:w.heap[B]?=some (.cells cur t fr))(v:Value):(w.setCell ⟨B,o,none⟩ v).heap[B]?=some (.cells (cur.setIfInBounds o v) t fr):=by
 rw[setCell_eq_setRow w B o cur t fr v h]
 exact setRow_heap w B cur _ t fr h
theorem xab {w:World}{B o g:Nat}(hg:g≠B)(v:Value):(w.setCell ⟨B,o,none⟩ v).heap[g]?=w.heap[g]?:=Below.heap_setCell _ _ _ _ hg
theorem xbJ {B n:Nat}{t:TypeId}:∀ (vs:List Value) (o:Nat) (w:World),(∃ cur:Array Value,w.heap[B]?=some (.cells cur t (0,0))/\cur.size=n)->∃ cur:Array Value,(w.setCells B o vs).heap[B]?=some (.cells cur t (0,0))/\cur.size=n
 | [],_,_,h=>h
 | v :: r,o,w,h=>by
  obtain⟨cur,h1,h2⟩:=h
  exact xbJ r (o+1) _ ⟨_,xad h1 v,by simpa using h2⟩
theorem xaI {B g:Nat}(hg:g≠B):∀ (vs:List Value) (o:Nat) (w:World),(w.setCells B o vs).heap[g]?=w.heap[g]?
 | [],_,_=>rfl
 | v :: r,o,w=>(xaI hg r (o+1) _).trans (xab hg v)
theorem xbh {B:Nat}:∀ (vs:List Value) (o:Nat) (w:World),(w.setCells B o vs).heap.size=w.heap.size
 | [],_,_=>rfl
 | v :: r,o,w=>(xbh r (o+1) _).trans (xbg _ _ _)
section
variable {α:Type} {E:Lay α} {sz:Nat} {t:TypeId} {w w':World} {B:Nat} {xs:List α} {j:Nat}
theorem OwnSt.later (h:OwnSt E sz t w B xs j)(G:Good E sz)(hb:Below w.heap.size w w'):OwnSt E sz t w' B xs j:=by
 obtain⟨⟨cur,h1,h2⟩,h3⟩:=h;refine⟨⟨cur,by rw[hb.block _ (xaf h1)];exact h1,h2⟩,fun i x hi hx=>?_⟩
 exact G.move (h3 i x hi hx) (fun b h=>⟨h.1,qzE h.2 hb.size⟩) (.of_below hb) fun k _ v hv=>qzA hb hv
theorem OwnSt.start (xs:List α)(c:Array Value)(hc:c.size=xs.length*sz):OwnSt E sz t (w.alloc (.cells c t)) w.heap.size xs 0:=
 ⟨⟨c,qzJ w _,hc⟩,fun i x hi _=>by omega⟩
theorem OwnSt.step {x:α}{vs:List Value}(h:OwnSt E sz t w B xs j)(G:Good E sz)(hx:xs[j]?=some x)(hl:vs.length=sz)(hE:E (fun b=>B<b/\b<w.heap.size) w (fun k=>vs[k]?) x):OwnSt E sz t (w.setCells B (j*sz) vs) B xs (j+1):=by
 obtain⟨⟨cur,h1,h2⟩,h3⟩:=h;have hj:=xae hx;have hK:Keeps (fun b=>B<b/\b<w.heap.size) w (w.setCells B (j*sz) vs):=Keeps.of_block fun b hb _=>xaI (by omega) _ _ _
 refine⟨xbJ vs _ w ⟨cur,h1,h2⟩,fun i y hi hy=>?_⟩
 have hz:=xbh (B:=B) vs (j*sz) w
 have hin:j*sz+sz<=xs.length*sz:=by
  have:=Nat.mul_le_mul_right sz (show j+1<=xs.length by omega)
  rw[Nat.add_mul] at this;omega
 by_cases hij:i=j
 ·subst hij;rw[hx] at hy
  cases hy
  refine G.move hE (fun b h=>⟨h.1,by rw[hz];exact h.2⟩) hK fun k hk v hv=>?_
  have:=World.cell?_setCells_in B vs (i*sz) w (fun q hq=>by rw[qzB h1];simp;omega) k (by omega)
  rw[this];rw[List.getElem?_eq_getElem (by omega)] at hv
  exact hv
 ·refine G.move (h3 i y (by omega) hy) (fun b h=>⟨h.1,by rw[hz];exact h.2⟩) hK fun k hk v hv=>?_
  rw[World.cell?_setCells_out B vs (j*sz) w _ (fun _ _=>Or.inl ?_)]
  ·exact hv
  ·have:=Nat.mul_le_mul_right sz (show i+1<=j by omega)
   rw[Nat.add_mul] at this
   simp
   omega
theorem OwnSt.cells (h:OwnSt E sz t w B xs xs.length)(G:Good E sz):∃ cur:Array Value,w.heap[B]?=some (.cells cur t (0,0))/\Cells E sz (fun b=>B<b/\b<w.heap.size) w cur.toList xs:=by
 obtain⟨⟨cur,h1,h2⟩,h3⟩:=h;refine⟨cur,h1,by simpa using h2,fun i x hx=>?_⟩
 exact G.move (h3 i x (xae hx) hx) (fun b h=>h) (.refl _ _) fun k _ v hv=>by rw[qzB h1] at hv;simpa using hv
end
abbrev WV (cv hv:Value)(e:Int):Value:=.agg #[cv,hv,.int .i64 e]
def OwnK (w:World)(B i lo hi:Nat)(x:QC):Prop:=
 w.cell? ⟨B,i*4,none⟩=some (.string x.name)/\w.cell? ⟨B,i*4+1,none⟩=some (.int .i64 x.super)/\w.cell? ⟨B,i*4+2,none⟩=some (.int .i64 x.slots)/\x.name.size<=140737488351232/\
  ∃ g,w.cell? ⟨B,i*4+3,none⟩=some (.slice (some ⟨g,0,none⟩) x.mz.length x.mz.length)/\lo<=g/\g<hi/\x.mz.length*64<=140737488351232/\
   ∃ cur:Array Value,w.heap[g]?=some (.cells cur 59 (0,0))/\Cells xeE 5 (fun b=>g<b/\b<hi) w cur.toList x.mz
def OwnC (w:World)(B:Nat)(xs:List QC)(s:Nat->Nat)(j:Nat):Prop:=
 (∃ cur:Array Value,w.heap[B]?=some (.cells cur 54 (0,0))/\cur.size=xs.length*4)/\B<s 0/\(∀ i,i<j->s i<=s (i+1))/\s j<=w.heap.size/\
  ∀ i x,i<j->xs[i]?=some x->OwnK w B i (s i) (s (i+1)) x
theorem OwnK.later {w w':World}{B i lo hi:Nat}{x:QC}(h:OwnK w B i lo hi x)(hb:Below w.heap.size w w'):OwnK w' B i lo hi x:=by
 obtain⟨h0,h1,h2,h3,g,h4,h5,h6,h7,cur,h8,h9⟩:=h
 exact⟨qzA hb h0,qzA hb h1,qzA hb h2,h3,g,qzA hb h4,h5,h6,h7,cur,by rw[hb.block _ (xaf h8)];exact h8,h9.later xbi hb⟩
theorem OwnC.later {w w':World}{B:Nat}{xs:List QC}{s:Nat->Nat}{j:Nat}(h:OwnC w B xs s j)(hb:Below w.heap.size w w'):OwnC w' B xs s j:=by
 obtain⟨⟨cur,h1,h2⟩,h3,h4,h5,h6⟩:=h
 exact⟨⟨cur,by rw[hb.block _ (xaf h1)];exact h1,h2⟩,h3,h4,qzD h5 hb.size,fun i x hi hx=>(h6 i x hi hx).later hb⟩
theorem OwnC.step {w:World}{B:Nat}{xs:List QC}{s:Nat->Nat}{j g:Nat}{x:QC}(h:OwnC w B xs s j)(hx:xs[j]?=some x)(hn:x.name.size<=140737488351232)(hg:s j<=g)(hM:OwnSt xeE 5 59 w g x.mz x.mz.length)(hby:x.mz.length*64<=140737488351232) :
  ∃ s',OwnC (w.setCells B (j*4) [.string x.name,.int .i64 x.super,.int .i64 x.slots,.slice (some ⟨g,0,none⟩) x.mz.length x.mz.length]) B xs s' (j+1):=by
 obtain⟨⟨cur,h1,h2⟩,h3,h4,h5,h6⟩:=h;have hj:=xae hx;obtain⟨curg,hc1,hc2⟩:=hM.cells xbi;have hgl:=xaf hc1
 have hsm:∀ i,i<=j->s 0<=s i:=fun i=>by
  induction i with
  | zero=>intro _;exact qzC _
  | succ n ih=>intro hi;exact qzD (ih (by omega)) (h4 n (by omega))
 have hBj:=hsm j (qzC _);have hnn:¬ (j+1<=j):=by omega
 refine⟨fun i=>if i<=j then s i else w.heap.size,xbJ _ _ w ⟨cur,h1,h2⟩,by simpa using h3,?_,?_,?_⟩
 ·intro i hi
  by_cases hij:i=j
  ·subst hij;simp[hnn];exact h5
  ·have h1:i<=j:=by omega
   have h2:i+1<=j:=by omega
   simp only[h1,h2,if_true]
   exact h4 i (by omega)
 ·simp[xbh,hnn]
 ·intro i y hi hy;have hin:j*4+4<=xs.length*4:=by omega
  by_cases hij:i=j
  ·subst hij;rw[hx] at hy
   cases hy
   have hc:=fun k (hk:k<4)=>World.cell?_setCells_in B [.string x.name,.int .i64 x.super,.int .i64 x.slots,.slice (some ⟨g,0,none⟩) x.mz.length x.mz.length] (i*4) w (fun q hq=>by rw[qzB h1];simp at hq ⊢;omega) k hk
   refine⟨hc 0 (by omega),hc 1 (by omega),hc 2 (by omega),hn,g,hc 3 (by omega),by simpa using hg,by simpa [hnn] using hgl,hby,curg,?_,?_⟩
   ·rw[xaI (by omega)];exact hc1
   ·refine hc2.keep xbi (Keeps.of_block fun b hb _=>xaI (by have:=hb.1;omega) _ _ _) fun b hb=>⟨hb.1,by simpa [hnn] using hb.2⟩
  ·obtain⟨e0,e1,e2,e3,g',e4,e5,e6,e7,cur',e8,e9⟩:=h6 i y (by omega) hy
   have hi1:i<=j:=by omega
   have hi2:i+1<=j:=by omega
   have hs0:=hsm i hi1;simp only[hi1,hi2,if_true];have ho:=fun k (hk:k<4)=>World.cell?_setCells_out B [.string x.name,.int .i64 x.super,.int .i64 x.slots,.slice (some ⟨g,0,none⟩) x.mz.length x.mz.length] (j*4) w ⟨B,i*4+k,none⟩ (fun _ _=>Or.inl (by simp;omega))
   refine⟨(ho 0 (by omega)).trans e0,(ho 1 (by omega)).trans e1,(ho 2 (by omega)).trans e2,e3,g',(ho 3 (by omega)).trans e4,e5,e6,e7,cur',?_,?_⟩
   ·rw[xaI (by omega)];exact e8
   ·exact e9.keep xbi (Keeps.of_block fun b hb _=>xaI (by have:=hb.1;omega) _ _ _) fun b hb=>hb
theorem OwnC.mono {w:World}{B:Nat}{xs:List QC}{s:Nat->Nat}{n:Nat}(h:OwnC w B xs s n):∀ i j,i<=j->j<=n->s i<=s j:=fun i j hij hj=>by
 obtain⟨-,-,h4,-,-⟩:=h;obtain⟨d,rfl⟩:∃ d,j=i+d:=⟨j-i,by omega⟩
 clear hij
 induction d with
 | zero=>exact qzC _
 | succ d ih=>exact qzD (ih (by omega)) (h4 (i+d) (by omega))
theorem OwnK.meths {w:World}{B i lo hi:Nat}{x:QC}(h:OwnK w B i lo hi x):∃ g,w.cell? ⟨B,i*4+3,none⟩=some (.slice (some ⟨g,0,none⟩) x.mz.length x.mz.length)/\lo<=g/\xbd (fun b=>lo<=b/\b<hi) w (.slice (some ⟨g,0,none⟩) x.mz.length x.mz.length) x.mz:=by
 obtain⟨h0,h1,h2,h3,g,h4,h5,h6,h7,cur,h8,h9⟩:=h;refine⟨g,h4,h5,Cells.row (h9.keep xbi (.refl _ _) fun b hb=>⟨by have:=hb.1;omega,hb.2⟩) xbi ⟨h5,h6⟩ h8 ?_ (qzC _) (by unfold maxLen;omega) h7⟩
 rw[List.take_of_length_le];rw[h9.1]
 exact qzC _
theorem OwnC.start (w:World)(xs:List QC)(c:Array Value)(hc:c.size=xs.length*4):OwnC (w.alloc (.cells c 54)) w.heap.size xs (fun _=>w.heap.size+1) 0:=
 ⟨⟨c,qzJ w _,hc⟩,by simp,fun i hi=>by omega,by simp,fun i x hi _=>by omega⟩
theorem OwnK.set {w:World}{B i lo hi d:Nat}{x:QC}(h:OwnK w B i lo hi x)(hd:d≠B)(hh:hi<=d)(o:Nat)(v:Value):OwnK (w.setCell ⟨d,o,none⟩ v) B i lo hi x:=by
 obtain⟨h0,h1,h2,h3,g,h4,h5,h6,h7,cur,h8,h9⟩:=h;have k:=fun (o':Nat)=>qzI w ⟨d,o,none⟩ ⟨B,o',none⟩ v hd
 refine⟨(k _).trans h0,(k _).trans h1,(k _).trans h2,h3,g,(k _).trans h4,h5,h6,h7,cur,by rw[xab (by omega)];exact h8,h9.keep xbi (Keeps.of_setCell (fun hp=>?_) _) fun _ h=>h⟩
 have:=hp.2
 simp at this
 omega
theorem OwnC.set {w:World}{B d:Nat}{xs:List QC}{s:Nat->Nat}{j:Nat}(h:OwnC w B xs s j)(hd:s j<=d)(o:Nat)(v:Value):OwnC (w.setCell ⟨d,o,none⟩ v) B xs s j:=by
 have hm:=h.mono;obtain⟨⟨cur,h1,h2⟩,h3,h4,h5,h6⟩:=h;have h0:=hm 0 j (by omega) (qzC _)
 refine⟨⟨cur,by rw[xab (by omega)];exact h1,h2⟩,h3,h4,by simpa using h5,fun i x hi hx=>(h6 i x hi hx).set (by omega) ?_ o v⟩
 have:=hm (i+1) j (by omega) (qzC _)
 omega
theorem OwnC.setLow {w:World}{B d:Nat}{xs:List QC}{s:Nat->Nat}{j:Nat}(h:OwnC w B xs s j)(hd:d<B)(o:Nat)(v:Value):OwnC (w.setCell ⟨d,o,none⟩ v) B xs s j:=by
 have hm:=h.mono;obtain⟨⟨cur,h1,h2⟩,h3,h4,h5,h6⟩:=h;refine⟨⟨cur,by rw[xab (by omega)];exact h1,h2⟩,h3,h4,by simpa using h5,fun i x hi hx=>?_⟩
 have h0:=hm 0 i (by omega) (by omega)
 obtain⟨h0,h1,h2,h3,g,h4,h5,h6,h7,cur,h8,h9⟩:=h6 i x hi hx;have k:=fun (o':Nat)=>qzI w ⟨d,o,none⟩ ⟨B,o',none⟩ v (by simp;omega)
 refine⟨(k _).trans h0,(k _).trans h1,(k _).trans h2,h3,g,(k _).trans h4,h5,h6,h7,cur,by rw[xab (by omega)];exact h8,h9.keep xbi (Keeps.of_setCell (fun hp=>?_) _) fun _ h=>h⟩
 have:=hp.1
 simp at this
 omega
theorem OwnSt.set {α:Type}{E:Lay α}{sz:Nat}{t:TypeId}{w:World}{B d:Nat}{xs:List α}{j:Nat}(h:OwnSt E sz t w B xs j)(G:Good E sz)(hd:d<B)(o:Nat)(v:Value):OwnSt E sz t (w.setCell ⟨d,o,none⟩ v) B xs j:=by
 obtain⟨⟨cur,h1,h2⟩,h3⟩:=h;refine⟨⟨cur,by rw[xab (by omega)];exact h1,h2⟩,fun i x hi hx=>G.move (h3 i x hi hx) (fun b h=>by simpa using h) (Keeps.of_setCell (fun hp=>?_) _) fun k _ u hu=>?_⟩
 ·have:=hp.1;simp at this;omega
 ·rw[qzI _ _ _ _ (by simp;omega)];exact hu
def xcN (n:Nat)(c:Int):Bool:=decide (0<=c/\c<n)
theorem xgw (n:Nat)(c:Int)(ad:Option Addr)(cap:Nat)(ah:Option Addr)(nh ch:Nat)(ep:Int)(w:World):Calls Tryz.prog 87 #[WV (.slice ad n cap) (.slice ah nh ch) ep,.int .i64 c] w fun e w'=>e=.returned (.bool (xcN n c))/\Below w.heap.size w w':=by
 by_cases h0:0<=c
 ·go_enter Tryz.func87,Tryz.ntmps87;go_wp2
  go_ret
  exact⟨xb7 (by simp[xcN,h0]),xaj _ _⟩
 ·have h0':c<0:=by omega
  have hd:decide (0<=c)=false:=by simpa using h0
  go_enter Tryz.func87,Tryz.ntmps87;go_wp2
  go_ret
  exact⟨xb7 (by simp[xcN];omega),xaj _ _⟩
def xbt {α:Type}(p:α->Bool)(xs:List α):Int:=((xs.findIdx? p).map Int.ofNat).getD (-1)
theorem xb4 {α:Type}{p:α->Bool}{xs:List α}{j:Nat}{x:α}(hx:xs[j]?=some x)(hp:p x=true)(h:∀ i y,i<j->xs[i]?=some y->p y=false):xbt p xs=(j:Int):=by
 have:xs.findIdx? p=some j:=by
  rw[List.findIdx?_eq_some_iff_getElem];have hj:=xae hx;refine⟨hj,?_,fun i hi=>?_⟩
  ·rw[List.getElem?_eq_getElem hj] at hx;cases hx;exact hp
  ·have:=h i xs[i] hi (by simp)
   simp[this]
 simp[xbt,this]
theorem xbM {α:Type}{p:α->Bool}{xs:List α}(h:∀ (i:Nat) y,xs[i]?=some y->p y=false):xbt p xs=-1:=by
 have:xs.findIdx? p=none:=by
  rw[List.findIdx?_eq_none_iff];intro y hy;obtain⟨i,hi,rfl⟩:=List.mem_iff_getElem.1 hy
  exact h i _ (by simp)
 simp[xbt,this]
def eqN (a b:ByteArray):Bool:=a.toList == b.toList
theorem xhW {P:Nat->Prop}(cap':Value)(p:QM->Bool)(xs:List QM)(v:Value)(w:World)(hh:xbd P w v xs)
  (hF:∀ (x:QM) (a:Option Addr) (n c:Nat) (w':World),Below w.heap.size w w'->Calls Tryz.prog 89 #[MV x (.slice a n c),cap'] w' fun e w''=>e=.returned (.bool (p x))/\Below w'.heap.size w' w'') :
  Calls Tryz.prog 88 #[v,.func (.func 89) #[] #[cap']] w fun e w'=>e=.returned (.int .i64 (xbt p xs))/\Below w.heap.size w w':=by
 obtain⟨ad,cap,rfl,hl,hcap,hby,hrow⟩:=hh;go_enter Tryz.func88,Tryz.ntmps88;go_wp2
 go_loopg [8] xs.length (fun g c wr=>∃ j:Nat,j+g=xs.length/\c=.int .i64 j/\Below w.heap.size w wr/\∀ i y,i<j->xs[i]?=some y->p y=false)
 case atStart=>exact⟨0,by omega,rfl,qzL _ _,fun i y hi=>by omega⟩
 case round=>
  obtain⟨j,hj,rfl,hbel,hno⟩:=hrel;have HN:Hid (∀ i y,i<j->xs[i]?=some y->p y=false):=hno;clear hno
  by_cases hlt:j<xs.length
  ·obtain⟨b,o,rfl,-,hv0,hv1,hv2,hv3,hsz,sv,hv4,hsl⟩:=hrow j xs[j] (by simp[hlt])
   have hxj:Hid (xs[j]?=some xs[j]):=by show _=_;simp[hlt]
   generalize xs[j]=x at *;simp only[Nat.add_zero] at hv0;have u0:=qzA hbel hv0;have u1:=qzA hbel hv1;have u2:=qzA hbel hv2;have u3:=qzA hbel hv3;have u4:=qzA hbel hv4;obtain⟨ad2,cap2,rfl,-,-,-,-⟩:=id hsl;clear hv0 hv1 hv2 hv3 hv4 hsl hrow;have hj1:(j:Int)<(xs.length:Int):=by omega
   have hj0:(0:Int)<=(j:Int):=by omega
   go_wp2_with fail;refine (hF x ad2 x.code.length cap2 _ hbel).mono ?_;rintro e w1 ⟨rfl,hb⟩
   by_cases hp:p x=true
   ·go_wp2
    go_ret
    exact⟨xak (xb4 hxj.out hp HN.out).symm,xah hbel hb⟩
   ·have hp':p x=false:=by simpa using hp
    clear hp;go_wp2
    go_roundg (gk-1)
    case measure=>omega
    case rel=>
     refine⟨j+1,by omega,by go_num,xah hbel hb,fun i y hi hy=>?_⟩
     by_cases hij:i=j
     ·subst hij;rw[hxj.out] at hy;cases hy;exact hp'
     ·exact HN.out i y (by omega) hy
  ·obtain rfl:j=xs.length:=by omega
   go_wp2
   go_ret
   exact⟨xak (xbM fun i y hy=>HN.out i y (xae hy) hy).symm,hbel⟩
theorem xjz (x:QM)(a:Option Addr)(n c b:Nat)(name:ByteArray)(w:World)(hc:w.cell? ⟨b,0,none⟩=some (.string name)):Calls Tryz.prog 89 #[MV x (.slice a n c),.pointer (some ⟨b,0,none⟩)] w fun e w'=>e=.returned (.bool (eqN x.name name))/\Below w.heap.size w w':=by
 have k:=fun y=>qzA (xaj w y) hc
 go_enter Tryz.func89,Tryz.ntmps89;go_wp2
 go_ret
 exact⟨xb7 rfl,xaj _ _⟩
theorem hmf (fn:Fn)(first cap:Array Value)(w:World):(Instr.makeFunc fn first cap).run Tryz.prog w=.ok (.func fn first cap) w:=rfl
def xcu (xs:List QM)(name:ByteArray):Int:=xbt (fun m=>eqN m.name name) xs
theorem xg8 {P:Nat->Prop}(xs:List QM)(v:Value)(name:ByteArray)(w:World)(hh:xbd P w v xs):Calls Tryz.prog 75 #[v,.string name] w fun e w'=>e=.returned (.int .i64 (xcu xs name))/\Below w.heap.size w w':=by
 have hm:=hmf;go_enter Tryz.func75,Tryz.ntmps75;go_wp2_with fail;refine (xhW _ (fun m=>eqN m.name name) xs v _ (hh.later xbi (xaj _ _)) fun x a n c w' hb=>xjz x a n c _ name w' (qzA hb (by rw[xaa _ _ _ _ rfl];rfl))).mono ?_
 rintro e w1 ⟨rfl,hb⟩;go_wp2
 go_ret
 exact⟨rfl,xbz (qzL _ _) hb⟩
structure QS where
 cls:Int
 name:ByteArray
 at':Int
structure QL where
 cls:Int
 found:Int
structure QT where
 site:QS
 lz:List QL
structure QE where
 site:QS
 ez:Int
 many:Bool
 lz:List QL
def xda:Lay QL:=fun _ _ f x=>f 0=some (.int .i64 x.cls)/\f 1=some (.int .i64 x.found)
abbrev xbI:=IsRow xda 2 0
def xrw:Lay QS:=fun _ _ f x=>f 0=some (.int .i64 x.cls)/\f 1=some (.string x.name)/\f 2=some (.int .i64 x.at')
def xf7:Lay QT:=fun P w f x=>f 0=some (.int .i64 x.site.cls)/\f 1=some (.string x.site.name)/\f 2=some (.int .i64 x.site.at')/\∃ v,f 3=some v/\xbI P w v x.lz
abbrev xbc:=IsRow xf7 4 0
def xhq:Lay QE:=fun P w f x=>f 0=some (.int .i64 x.site.cls)/\f 1=some (.string x.site.name)/\f 2=some (.int .i64 x.site.at')/\f 3=some (.int .i64 x.ez)/\f 4=some (.bool x.many)/\∃ v,f 5=some v/\xbI P w v x.lz
abbrev xbk:=IsRow xhq 6 0
theorem xbq:Good xda 2 where
 move h _ _ hf:=⟨hf 0 (by omega) _ h.1,hf 1 (by omega) _ h.2⟩
 there h k hk:=by
  obtain⟨h0,h1⟩:=h
  match k,hk with
  | 0,_=>exact⟨_,h0,rfl⟩
  | 1,_=>exact⟨_,h1,rfl⟩
 pos:=by omega
theorem xbZ:Good xf7 4 where
 move h hl hk hf:=by
  obtain⟨h0,h1,h2,v,h5,h6⟩:=h
  exact⟨hf 0 (by omega) _ h0,hf 1 (by omega) _ h1,hf 2 (by omega) _ h2,v,hf 3 (by omega) _ h5,h6.keep xbq hk hl⟩
 there h k hk:=by
  obtain⟨h0,h1,h2,v,h5,h6⟩:=h
  match k,hk with
  | 0,_=>exact⟨_,h0,rfl⟩
  | 1,_=>exact⟨_,h1,rfl⟩
  | 2,_=>exact⟨_,h2,rfl⟩
  | 3,_=>exact⟨_,h5,xcO h6⟩
 pos:=by omega
theorem xbw:Good xhq 6 where
 move h hl hk hf:=by
  obtain⟨h0,h1,h2,h3,h4,v,h5,h6⟩:=h
  exact⟨hf 0 (by omega) _ h0,hf 1 (by omega) _ h1,hf 2 (by omega) _ h2,hf 3 (by omega) _ h3,hf 4 (by omega) _ h4,v,hf 5 (by omega) _ h5,h6.keep xbq hk hl⟩
 there h k hk:=by
  obtain⟨h0,h1,h2,h3,h4,v,h5,h6⟩:=h
  match k,hk with
  | 0,_=>exact⟨_,h0,rfl⟩
  | 1,_=>exact⟨_,h1,rfl⟩
  | 2,_=>exact⟨_,h2,rfl⟩
  | 3,_=>exact⟨_,h3,rfl⟩
  | 4,_=>exact⟨_,h4,rfl⟩
  | 5,_=>exact⟨_,h5,xcO h6⟩
 pos:=by omega
abbrev SV (x:QS):Value:=.agg #[.int .i64 x.cls,.string x.name,.int .i64 x.at']
abbrev LV (x:QL):Value:=.agg #[.int .i64 x.cls,.int .i64 x.found]
structure SiteAt (w:World)(b:Nat)(x:QS):Prop where
 c0:w.cell? ⟨b,0,none⟩=some (.int .i64 x.cls)
 c1:w.cell? ⟨b,1,none⟩=some (.string x.name)
 c2:w.cell? ⟨b,2,none⟩=some (.int .i64 x.at')
theorem SiteAt.later {w w':World}{b:Nat}{x:QS}(h:SiteAt w b x)(hb:Below w.heap.size w w'):SiteAt w' b x:=⟨qzA hb h.c0,qzA hb h.c1,qzA hb h.c2⟩
theorem xeS (w:World)(x:QS)(t:TypeId):SiteAt (w.alloc (.cells #[.int .i64 x.cls,.string x.name,.int .i64 x.at'] t)) w.heap.size x:=⟨by rw[xaa _ _ _ _ rfl];rfl,by rw[xaa _ _ _ _ rfl];rfl,by rw[xaa _ _ _ _ rfl];rfl⟩
def eqS (a b:QS):Bool:=a.cls == b.cls && (eqN a.name b.name && a.at' == b.at')
theorem xrt (x y:QS)(w:World):(binOp .eql 67 (SV x) (SV y)).run Tryz.prog w=.ok (.bool (eqS x y)) w:=by
 have u3:=Tryz.underlying3;have a3:=Tryz.isAgg3;have z3:=Tryz.sizeOf3;have u9:=Tryz.underlying9;have a9:=Tryz.isAgg9;have z9:=Tryz.sizeOf9;have hS:Tryz.prog.underlying 67=some (.struct (Tryz.prog.fieldsOf 67)):=by kernel_rfl
 have hp:Tryz.prog.stoodInHeld 67=false:=by kernel_rfl
 rw[run_eql_struct,show (10000:Nat)=9999+1 from rfl,run_equalIn_struct w 9999 67 _ _ hS hp]
 simp only[Program.fieldsOf,Tryz.underlying67];go_simp;unfold eqS eqN
 by_cases h1:x.cls=y.cls<;>by_cases h2:x.name.toList=y.name.toList<;>by_cases h3:x.at'=y.at'<;>simp[h1,h2,h3]
theorem neqS (x y:QS)(w:World):(binOp .neq 67 (SV x) (SV y)).run Tryz.prog w=.ok (.bool (!eqS x y)) w:=by
 have u3:=Tryz.underlying3;have a3:=Tryz.isAgg3;have z3:=Tryz.sizeOf3;have u9:=Tryz.underlying9;have a9:=Tryz.isAgg9;have z9:=Tryz.sizeOf9;have hS:Tryz.prog.underlying 67=some (.struct (Tryz.prog.fieldsOf 67)):=by kernel_rfl
 have hp:Tryz.prog.stoodInHeld 67=false:=by kernel_rfl
 rw[run_neq_struct,show (10000:Nat)=9999+1 from rfl,run_equalIn_struct w 9999 67 _ _ hS hp]
 simp only[Program.fieldsOf,Tryz.underlying67];go_simp;unfold eqS eqN
 by_cases h1:x.cls=y.cls<;>by_cases h2:x.name.toList=y.name.toList<;>by_cases h3:x.at'=y.at'<;>simp[h1,h2,h3]
theorem xmV (a b:ByteArray):eqN a b=true ↔ a=b:=by
 unfold eqN;rw[ByteArray.toList_eq,ByteArray.toList_eq];obtain⟨⟨x⟩⟩:=a;obtain⟨⟨y⟩⟩:=b
 simp
theorem xcf (a b:QS):eqS a b=true ↔ a=b:=by
 unfold eqS;obtain⟨a1,a2,a3⟩:=a;obtain⟨b1,b2,b3⟩:=b
 simp[xmV]
theorem xi4:(Tryz.prog.info? 72).map (fun i=>(i.zero,i.size,i.bytes))=some (some (.agg #[.int .i64 0,.int .i64 0]),2,16):=by kernel_rfl
theorem xjV:(Tryz.prog.info? 72).map (·.size)=some 2:=by kernel_rfl
theorem xgj {T e:TypeId}{zs:Array Value}{sz by':Nat}(hu:Tryz.prog.underlying T=some (.slice e))(hI:(Tryz.prog.info? e).map (fun i=>(i.zero,i.size,i.bytes))=some (some (.agg zs),sz,by'))(hp:0<by')(n:Nat)(hb:n*by'<=281474976710656)(hc:(Value.agg zs).cells=zs)(w:World):(Instr.makeSlice T (.int .i64 (n:Int)) (.int .i64 (n:Int))).run Tryz.prog w=.ok (.slice (some ⟨w.heap.size,0,none⟩) n n) (w.alloc (.cells (madeCells zs (n*sz)) e)):=by
 obtain⟨i0,hi,hz0,hz1,hz2⟩:=xa3 hI;have hn:n<=n*by':=Nat.le_mul_of_pos_right _ hp
 have:=run_make (P:=Tryz.prog) w T e i0 _ hu hi hz0 .i64 .i64 n n (by omega) (by omega) (by rw[hz2];rw[Nat.mul_comm] at *;omega) (by omega)
 rw[this,hz1,hc]
 simp
theorem xfE (n:Nat)(hb:n*16<=281474976710656):xey 68 72 #[.int .i64 0,.int .i64 0] 2 n:=fun w=>xgj Tryz.underlying68 xi4 (by omega) n hb rfl w
theorem xge {P:Nat->Prop}(xs:List QL)(v:Value)(w:World)(hh:xbI P w v xs)(hby:xs.length*16<=281474976710656):Calls Tryz.prog 40 #[v] w fun e w'=>∃ g,e=.returned (.slice (some ⟨g,0,none⟩) xs.length xs.length)/\OwnSt xda 2 72 w' g xs xs.length/\w.heap.size<=g/\Below w.heap.size w w':=by
 obtain⟨ad,cap,rfl,hl,hcap,-,hrow⟩:=hh;have hmk:=xfE xs.length hby;obtain⟨cs,hcs,hsrc⟩:=hrow.cells xbq
 obtain⟨w1,hcp,h2,h3⟩:=xb5 (P:=Tryz.prog) (w.alloc (.cells (madeCells #[.int .i64 0,.int .i64 0] (xs.length*2)) 72)) 68 68 3 72 2 w.heap.size xs.length xs.length ad cap (madeCells #[.int .i64 0,.int .i64 0] (xs.length*2)) 72 cs Tryz.underlying68 xjV (qzJ w _) hcs.1
  (fun j v hj=>by obtain⟨a,e,h⟩:=hsrc j v hj;exact⟨a,e,qzA (xaj _ _) h⟩) (size_madeCells _ _) (hcs.all xbq)
 have HB:=h3 w.heap.size w (xaj _ _) (qzC _)
 have HV:Hid (OwnSt xda 2 72 w1 w.heap.size xs xs.length):=by
  refine⟨⟨cs.toArray,h2,by simpa using hcs.1⟩,fun i x hi hx=>?_⟩
  have:=hcs.2 i x hx
  exact⟨by show w1.cell? _=_;rw[qzB h2];simpa using this.1,by show w1.cell? _=_;rw[qzB h2];simpa using this.2⟩
 clear h2 h3 hrow hcs hsrc;go_enter Tryz.func40,Tryz.ntmps40;go_wp2
 go_ret
 exact⟨_,rfl,HV.out,qzC _,HB⟩
theorem xgy {P:Nat->Prop}(xs:List QL)(v:Value)(w:World)(hh:xbI P w v xs)(hby:xs.length*16<=281474976710656):Calls Tryz.prog 39 #[v] w fun e w'=>∃ g,e=.returned (.slice (some ⟨g,0,none⟩) xs.length xs.length)/\OwnSt xda 2 72 w' g xs xs.length/\w.heap.size<=g/\Below w.heap.size w w':=by
 obtain⟨ad,cap,rfl,hl,hcap,-,hrow⟩:=hh;have hmk:=xfE xs.length hby;obtain⟨cs,hcs,hsrc⟩:=hrow.cells xbq
 obtain⟨w1,hcp,h2,h3⟩:=xb5 (P:=Tryz.prog) (w.alloc (.cells (madeCells #[.int .i64 0,.int .i64 0] (xs.length*2)) 72)) 68 68 3 72 2 w.heap.size xs.length xs.length ad cap (madeCells #[.int .i64 0,.int .i64 0] (xs.length*2)) 72 cs Tryz.underlying68 xjV (qzJ w _) hcs.1
  (fun j v hj=>by obtain⟨a,e,h⟩:=hsrc j v hj;exact⟨a,e,qzA (xaj _ _) h⟩) (size_madeCells _ _) (hcs.all xbq)
 have HB:=h3 w.heap.size w (xaj _ _) (qzC _)
 have HV:Hid (OwnSt xda 2 72 w1 w.heap.size xs xs.length):=by
  refine⟨⟨cs.toArray,h2,by simpa using hcs.1⟩,fun i x hi hx=>?_⟩
  have:=hcs.2 i x hx
  exact⟨by show w1.cell? _=_;rw[qzB h2];simpa using this.1,by show w1.cell? _=_;rw[qzB h2];simpa using this.2⟩
 clear h2 h3 hrow hcs hsrc;go_enter Tryz.func39,Tryz.ntmps39;go_wp2
 go_ret
 exact⟨_,rfl,HV.out,qzC _,HB⟩
abbrev TV (x:QT)(lv:Value):Value:=.agg #[.int .i64 x.site.cls,.string x.site.name,.int .i64 x.site.at',lv]
abbrev EV (x:QE)(lv:Value):Value:=.agg #[.int .i64 x.site.cls,.string x.site.name,.int .i64 x.site.at',.int .i64 x.ez,.bool x.many,lv]
theorem xdF {P:Nat->Prop}(cap':Value)(p:QL->Bool)(xs:List QL)(v:Value)(w:World)(hh:IsRow xda 2 0 P w v xs)
  (hF:∀ (x:QL) (w':World),Below w.heap.size w w'->Calls Tryz.prog 86 #[LV x,cap'] w' fun e w''=>e=.returned (.bool (p x))/\Below w'.heap.size w' w'') :
  Calls Tryz.prog 85 #[v,.func (.func 86) #[] #[cap']] w fun e w'=>e=.returned (.int .i64 (xbt p xs))/\Below w.heap.size w w':=by
 obtain⟨ad,cap,rfl,hl,hcap,-,hrow⟩:=hh;unfold maxLen at hcap;go_enter Tryz.func85,Tryz.ntmps85;go_wp2
 go_loopg [8] xs.length (fun g c wr=>∃ j:Nat,j+g=xs.length/\c=.int .i64 j/\Below w.heap.size w wr/\∀ i y,i<j->xs[i]?=some y->p y=false)
 case atStart=>exact⟨0,by omega,rfl,qzL _ _,fun i y hi=>by omega⟩
 case round=>
  obtain⟨j,hj,rfl,hbel,hno⟩:=hrel;have HN:Hid (∀ i y,i<j->xs[i]?=some y->p y=false):=hno;clear hno
  by_cases hlt:j<xs.length
  ·obtain⟨b,o,rfl,-,hv0,hv1⟩:=hrow j xs[j] (by simp[hlt])
   have hxj:Hid (xs[j]?=some xs[j]):=by show _=_;simp[hlt]
   generalize xs[j]=x at *;simp only[Nat.add_zero] at hv0;have u0:=qzA hbel hv0;have u1:=qzA hbel hv1;clear hv0 hv1 hrow;have hj1:(j:Int)<(xs.length:Int):=by omega
   have hj0:(0:Int)<=(j:Int):=by omega
   go_wp2_with fail;refine (hF x _ hbel).mono ?_;rintro e w1 ⟨rfl,hb⟩
   by_cases hp:p x=true
   ·go_wp2
    go_ret
    exact⟨xak (xb4 hxj.out hp HN.out).symm,xah hbel hb⟩
   ·have hp':p x=false:=by simpa using hp
    clear hp;go_wp2
    go_roundg (gk-1)
    case measure=>omega
    case rel=>
     refine⟨j+1,by omega,by go_num,xah hbel hb,fun i y hi hy=>?_⟩
     by_cases hij:i=j
     ·subst hij;rw[hxj.out] at hy;cases hy;exact hp'
     ·exact HN.out i y (by omega) hy
  ·obtain rfl:j=xs.length:=by omega
   go_wp2
   go_ret
   exact⟨xak (xbM fun i y hy=>HN.out i y (xae hy) hy).symm,hbel⟩
theorem xij {P:Nat->Prop}(cap':Value)(p:QL->Bool)(xs:List QL)(v:Value)(w:World)(hh:IsRow xda 2 0 P w v xs)
  (hF:∀ (x:QL) (w':World),Below w.heap.size w w'->Calls Tryz.prog 98 #[LV x,cap'] w' fun e w''=>e=.returned (.bool (p x))/\Below w'.heap.size w' w'') :
  Calls Tryz.prog 85 #[v,.func (.func 98) #[] #[cap']] w fun e w'=>e=.returned (.int .i64 (xbt p xs))/\Below w.heap.size w w':=by
 obtain⟨ad,cap,rfl,hl,hcap,-,hrow⟩:=hh;unfold maxLen at hcap;go_enter Tryz.func85,Tryz.ntmps85;go_wp2
 go_loopg [8] xs.length (fun g c wr=>∃ j:Nat,j+g=xs.length/\c=.int .i64 j/\Below w.heap.size w wr/\∀ i y,i<j->xs[i]?=some y->p y=false)
 case atStart=>exact⟨0,by omega,rfl,qzL _ _,fun i y hi=>by omega⟩
 case round=>
  obtain⟨j,hj,rfl,hbel,hno⟩:=hrel;have HN:Hid (∀ i y,i<j->xs[i]?=some y->p y=false):=hno;clear hno
  by_cases hlt:j<xs.length
  ·obtain⟨b,o,rfl,-,hv0,hv1⟩:=hrow j xs[j] (by simp[hlt])
   have hxj:Hid (xs[j]?=some xs[j]):=by show _=_;simp[hlt]
   generalize xs[j]=x at *;simp only[Nat.add_zero] at hv0;have u0:=qzA hbel hv0;have u1:=qzA hbel hv1;clear hv0 hv1 hrow;have hj1:(j:Int)<(xs.length:Int):=by omega
   have hj0:(0:Int)<=(j:Int):=by omega
   go_wp2_with fail;refine (hF x _ hbel).mono ?_;rintro e w1 ⟨rfl,hb⟩
   by_cases hp:p x=true
   ·go_wp2
    go_ret
    exact⟨xak (xb4 hxj.out hp HN.out).symm,xah hbel hb⟩
   ·have hp':p x=false:=by simpa using hp
    clear hp;go_wp2
    go_roundg (gk-1)
    case measure=>omega
    case rel=>
     refine⟨j+1,by omega,by go_num,xah hbel hb,fun i y hi hy=>?_⟩
     by_cases hij:i=j
     ·subst hij;rw[hxj.out] at hy;cases hy;exact hp'
     ·exact HN.out i y (by omega) hy
  ·obtain rfl:j=xs.length:=by omega
   go_wp2
   go_ret
   exact⟨xak (xbM fun i y hy=>HN.out i y (xae hy) hy).symm,hbel⟩
theorem xih {P:Nat->Prop}(cap':Value)(p:QT->Bool)(xs:List QT)(v:Value)(w:World)(hh:IsRow xf7 4 0 P w v xs)
  (hF:∀ (x:QT) (a:Option Addr) (n c:Nat) (w':World),Below w.heap.size w w'->Calls Tryz.prog 65 #[TV x (.slice a n c),cap'] w' fun e w''=>e=.returned (.bool (p x))/\Below w'.heap.size w' w'') :
  Calls Tryz.prog 64 #[v,.func (.func 65) #[] #[cap']] w fun e w'=>e=.returned (.int .i64 (xbt p xs))/\Below w.heap.size w w':=by
 obtain⟨ad,cap,rfl,hl,hcap,-,hrow⟩:=hh;unfold maxLen at hcap;go_enter Tryz.func64,Tryz.ntmps64;go_wp2
 go_loopg [8] xs.length (fun g c wr=>∃ j:Nat,j+g=xs.length/\c=.int .i64 j/\Below w.heap.size w wr/\∀ i y,i<j->xs[i]?=some y->p y=false)
 case atStart=>exact⟨0,by omega,rfl,qzL _ _,fun i y hi=>by omega⟩
 case round=>
  obtain⟨j,hj,rfl,hbel,hno⟩:=hrel;have HN:Hid (∀ i y,i<j->xs[i]?=some y->p y=false):=hno;clear hno
  by_cases hlt:j<xs.length
  ·obtain⟨b,o,rfl,-,hv0,hv1,hv2,sv,hv3,hsl⟩:=hrow j xs[j] (by simp[hlt])
   have hxj:Hid (xs[j]?=some xs[j]):=by show _=_;simp[hlt]
   generalize xs[j]=x at *;simp only[Nat.add_zero] at hv0;have u0:=qzA hbel hv0;have u1:=qzA hbel hv1;have u2:=qzA hbel hv2;have u3:=qzA hbel hv3;obtain⟨ad2,cap2,rfl,-,-,-,-⟩:=id hsl;clear hv0 hv1 hv2 hv3 hsl hrow;have hj1:(j:Int)<(xs.length:Int):=by omega
   have hj0:(0:Int)<=(j:Int):=by omega
   go_wp2_with fail;refine (hF x ad2 x.lz.length cap2 _ hbel).mono ?_;rintro e w1 ⟨rfl,hb⟩
   by_cases hp:p x=true
   ·go_wp2
    go_ret
    exact⟨xak (xb4 hxj.out hp HN.out).symm,xah hbel hb⟩
   ·have hp':p x=false:=by simpa using hp
    clear hp;go_wp2
    go_roundg (gk-1)
    case measure=>omega
    case rel=>
     refine⟨j+1,by omega,by go_num,xah hbel hb,fun i y hi hy=>?_⟩
     by_cases hij:i=j
     ·subst hij;rw[hxj.out] at hy;cases hy;exact hp'
     ·exact HN.out i y (by omega) hy
  ·obtain rfl:j=xs.length:=by omega
   go_wp2
   go_ret
   exact⟨xak (xbM fun i y hy=>HN.out i y (xae hy) hy).symm,hbel⟩
theorem xhO {P:Nat->Prop}(cap':Value)(p:QE->Bool)(xs:List QE)(v:Value)(w:World)(hh:IsRow xhq 6 0 P w v xs)
  (hF:∀ (x:QE) (a:Option Addr) (n c:Nat) (w':World),Below w.heap.size w w'->Calls Tryz.prog 97 #[EV x (.slice a n c),cap'] w' fun e w''=>e=.returned (.bool (p x))/\Below w'.heap.size w' w'') :
  Calls Tryz.prog 96 #[v,.func (.func 97) #[] #[cap']] w fun e w'=>e=.returned (.int .i64 (xbt p xs))/\Below w.heap.size w w':=by
 obtain⟨ad,cap,rfl,hl,hcap,-,hrow⟩:=hh;unfold maxLen at hcap;go_enter Tryz.func96,Tryz.ntmps96;go_wp2
 go_loopg [8] xs.length (fun g c wr=>∃ j:Nat,j+g=xs.length/\c=.int .i64 j/\Below w.heap.size w wr/\∀ i y,i<j->xs[i]?=some y->p y=false)
 case atStart=>exact⟨0,by omega,rfl,qzL _ _,fun i y hi=>by omega⟩
 case round=>
  obtain⟨j,hj,rfl,hbel,hno⟩:=hrel;have HN:Hid (∀ i y,i<j->xs[i]?=some y->p y=false):=hno;clear hno
  by_cases hlt:j<xs.length
  ·obtain⟨b,o,rfl,-,hv0,hv1,hv2,hv3,hv4,sv,hv5,hsl⟩:=hrow j xs[j] (by simp[hlt])
   have hxj:Hid (xs[j]?=some xs[j]):=by show _=_;simp[hlt]
   generalize xs[j]=x at *;simp only[Nat.add_zero] at hv0;have u0:=qzA hbel hv0;have u1:=qzA hbel hv1;have u2:=qzA hbel hv2;have u3:=qzA hbel hv3;have u4:=qzA hbel hv4;have u5:=qzA hbel hv5;obtain⟨ad2,cap2,rfl,-,-,-,-⟩:=id hsl;clear hv0 hv1 hv2 hv3 hv4 hv5 hsl hrow;have hj1:(j:Int)<(xs.length:Int):=by omega
   have hj0:(0:Int)<=(j:Int):=by omega
   go_wp2_with fail;refine (hF x ad2 x.lz.length cap2 _ hbel).mono ?_;rintro e w1 ⟨rfl,hb⟩
   by_cases hp:p x=true
   ·go_wp2
    go_ret
    exact⟨xak (xb4 hxj.out hp HN.out).symm,xah hbel hb⟩
   ·have hp':p x=false:=by simpa using hp
    clear hp;go_wp2
    go_roundg (gk-1)
    case measure=>omega
    case rel=>
     refine⟨j+1,by omega,by go_num,xah hbel hb,fun i y hi hy=>?_⟩
     by_cases hij:i=j
     ·subst hij;rw[hxj.out] at hy;cases hy;exact hp'
     ·exact HN.out i y (by omega) hy
  ·obtain rfl:j=xs.length:=by omega
   go_wp2
   go_ret
   exact⟨xak (xbM fun i y hy=>HN.out i y (xae hy) hy).symm,hbel⟩
theorem xdj (x:QL)(b:Nat)(k:Int)(w:World)(hc:w.cell? ⟨b,0,none⟩=some (.int .i64 k)):Calls Tryz.prog 86 #[LV x,.pointer (some ⟨b,0,none⟩)] w fun e w'=>e=.returned (.bool (x.cls == k))/\Below w.heap.size w w':=by
 have k:=fun y=>qzA (xaj w y) hc
 go_enter Tryz.func86,Tryz.ntmps86;go_wp2
 go_ret
 exact⟨xb7 rfl,xaj _ _⟩
theorem xhB (x:QL)(b:Nat)(k:Int)(w:World)(hc:w.cell? ⟨b,0,none⟩=some (.int .i64 k)):Calls Tryz.prog 98 #[LV x,.pointer (some ⟨b,0,none⟩)] w fun e w'=>e=.returned (.bool (x.cls == k))/\Below w.heap.size w w':=by
 have k:=fun y=>qzA (xaj w y) hc
 go_enter Tryz.func98,Tryz.ntmps98;go_wp2
 go_ret
 exact⟨xb7 rfl,xaj _ _⟩
theorem xis (x:QT)(a:Option Addr)(n c b:Nat)(s:QS)(w:World)(hc:SiteAt w b s):Calls Tryz.prog 65 #[TV x (.slice a n c),.pointer (some ⟨b,0,none⟩)] w fun e w'=>e=.returned (.bool (eqS x.site s))/\Below w.heap.size w w':=by
 have k0:=fun y=>qzA (xaj w y) hc.c0
 have k1:=fun y=>qzA (xaj w y) hc.c1
 have k2:=fun y=>qzA (xaj w y) hc.c2
 have he:=fun w=>xrt x.site s w
 go_enter Tryz.func65,Tryz.ntmps65;go_wp2
 go_ret
 exact⟨xb7 rfl,xaj _ _⟩
theorem xjS (x:QE)(a:Option Addr)(n c b:Nat)(s:QS)(w:World)(hc:SiteAt w b s):Calls Tryz.prog 97 #[EV x (.slice a n c),.pointer (some ⟨b,0,none⟩)] w fun e w'=>e=.returned (.bool (eqS x.site s))/\Below w.heap.size w w':=by
 have k0:=fun y=>qzA (xaj w y) hc.c0
 have k1:=fun y=>qzA (xaj w y) hc.c1
 have k2:=fun y=>qzA (xaj w y) hc.c2
 have he:=fun w=>xrt x.site s w
 go_enter Tryz.func97,Tryz.ntmps97;go_wp2
 go_ret
 exact⟨xb7 rfl,xaj _ _⟩
def xby (xs:List QC)(c:Int):Option QC:=if 0<=c then xs[c.toNat]? else none
theorem xfp {xs:List QC}{k:Nat}:xby xs (k:Int)=xs[k]?:=by simp[xby]
theorem xbn {xs:List QC}{c:Int}{x:QC}(h:xby xs c=some x):∃ k:Nat,c=(k:Int)/\xs[k]?=some x:=by
 unfold xby at h
 split at h
 ·exact⟨c.toNat,by omega,h⟩
 ·cases h
theorem xdo {xs:List QC}{c:Int}:xcN xs.length c=(xby xs c).isSome:=by
 unfold xcN xby
 by_cases h:0<=c
 ·rw[Bool.eq_iff_iff];simp[h]
 ·simp[h]
def upE {σ:Type}(vis:σ->Nat->QC->σ × Bool)(xs:List QC):Nat->Int->σ->σ
 | 0,_,s=>s
 | n+1,c,s=>match xby xs c with
  | none=>s
  | some x=>if (vis s c.toNat x).2 then upE vis xs n x.super (vis s c.toNat x).1 else (vis s c.toNat x).1
theorem xl3 {σ:Type}{P M:Nat->Prop}(vis:σ->Nat->QC->σ × Bool)(R:Nat->σ->World->Prop)(p1 p2 p3 p4:Value)(xs:List QC)(c:Int)(s0:σ)(cv hv:Value)(ep:Int)(w:World)(hh:xai P w cv xs)(hhv:∃ a n c,hv=.slice a n c)(hR:R 0 s0 w)(hM:∀ b,M b->b<w.heap.size)
  (hX:∀ j s w',R j s w'->xai P w' cv xs) (hL:∀ j s w' w'',R j s w'->Below w'.heap.size w' w''->R j s w'')
  (hF:∀ (j:Nat) s (k:Nat) x w',j<xs.length+1->R j s w'->xs[k]?=some x->Calls Tryz.prog 74 #[.int .i64 k,p1,p2,p3,p4] w' fun e w''=>e=.returned (.bool (vis s k x).2)/\R (j+1) (vis s k x).1 w''/\Keeps (fun b=>¬ M b) w' w''/\w'.heap.size<=w''.heap.size) :
  Calls Tryz.prog 73 #[WV cv hv ep,.int .i64 c,.func (.func 74) #[] #[p1,p2,p3,p4]] w fun e w'=>e=.returned (.tuple #[])/\∃ j,R j (upE vis xs (xs.length+1) c s0) w':=by
 obtain⟨ad,cap,rfl,hl,hcap,hby,hrow⟩:=id hh;obtain⟨ah,nh,ch,rfl⟩:∃ a n c,hv=.slice a n c:=hhv;unfold maxLen at hcap;go_enter Tryz.func73,Tryz.ntmps73;go_wp2;have hb0:(w.alloc (Obj.cells #[.slice ad xs.length cap,.slice ah nh ch,.int .i64 ep] 25)).cell? ⟨w.heap.size,0,none⟩=some (.slice ad xs.length cap):=by simp
 have hb1:(w.alloc (Obj.cells #[.slice ad xs.length cap,.slice ah nh ch,.int .i64 ep] 25)).cell? ⟨w.heap.size,1,none⟩=some (.slice ah nh ch):=by simp
 have hb2:(w.alloc (Obj.cells #[.slice ad xs.length cap,.slice ah nh ch,.int .i64 ep] 25)).cell? ⟨w.heap.size,2,none⟩=some (.int .i64 ep):=by simp
 have hMw:¬ M w.heap.size:=fun h=>by have:=hM _ h;omega
 have hRa:=hL 0 s0 w _ hR (xaj w (Obj.cells #[.slice ad xs.length cap,.slice ah nh ch,.int .i64 ep] 25));clear hR hrow hh
 go_loopg [1,10] (xs.length+1) (fun g c' i wr=>∃ (j:Nat) (cc:Int) (s:σ),j+g=xs.length+1/\i=.int .i64 j/\c'=.int .i64 cc/\R j s wr/\upE vis xs (xs.length+1) c s0=upE vis xs g cc s/\wr.cell? ⟨w.heap.size,0,none⟩=some (.slice ad xs.length cap)/\wr.cell? ⟨w.heap.size,1,none⟩=some (.slice ah nh ch)/\wr.cell? ⟨w.heap.size,2,none⟩=some (.int .i64 ep))
 case atStart=>exact⟨0,c,s0,by omega,rfl,rfl,hRa,rfl,hb0,hb1,hb2⟩
 case round=>
  obtain⟨j,cc,s,hj,rfl,rfl,hRs,hE,c0,c1,c2⟩:=hrel;have HE:Hid (upE vis xs (xs.length+1) c s0=upE vis xs gk cc s):=hE;clear hE hb0 hb1 hb2 hRa
  by_cases hlt:j<xs.length+1
  ·obtain⟨g',rfl⟩:∃ g',gk=g'+1:=⟨gk-1,by omega⟩
   have hj1:(j:Int)<(xs.length:Int)+1:=by omega
   cases hx:xby xs cc with
   | none=>
    have hh:xcN xs.length cc=false:=by rw[xdo,hx];rfl
    have HX:Hid (xby xs cc=none):=hx;clear hx;go_wp2_with fail;refine (xgw _ _ _ _ _ _ _ _ _).mono ?_;rintro e w1 ⟨rfl,hb⟩;rw[hh];go_wp2;refine qzK (v:=.tuple #[]) (by simp[results,Tryz.results73,go_sem]) rfl ⟨rfl,j,?_⟩
    rw[HE.out];simp only[upE,HX.out]
    exact hL _ _ _ _ hRs hb
   | some x=>
    have hh:xcN xs.length cc=true:=by rw[xdo,hx];rfl
    obtain⟨k,rfl,hxk⟩:=xbn hx;have HX:Hid (xs[k]?=some x):=hxk;have HC:Hid (xby xs (k:Int)=some x):=hx;have hk:=xae hxk;clear hx hxk;have hk0:(0:Int)<=(k:Int):=by omega
    have hk1:(k:Int)<(xs.length:Int):=by omega
    go_wp2_with fail;refine (xgw _ _ _ _ _ _ _ _ _).mono ?_;rintro e w1 ⟨rfl,hb⟩;rw[hh];replace hRs:=hL _ _ _ _ hRs hb;replace c0:=qzA hb c0;replace c1:=qzA hb c1;replace c2:=qzA hb c2;clear hb hh;go_wp2_with fail;refine (hF j s k x w1 hlt hRs HX.out).mono ?_;rintro e w2 ⟨rfl,hR2,hK2,-⟩;replace c0:=hK2 _ _ _ hMw c0;replace c1:=hK2 _ _ _ hMw c1;replace c2:=hK2 _ _ _ hMw c2
    cases hv2:(vis s k x).2
    ·go_wp2;refine qzK (v:=.tuple #[]) (by simp[results,Tryz.results73,go_sem]) rfl ⟨rfl,j+1,?_⟩
     rw[HE.out];simp only[upE,HC.out,Int.toNat_natCast,hv2]
     exact hR2
    ·obtain⟨ad',cap',e',-,-,-,hrow⟩:=hX _ _ _ hR2;simp only[Value.slice.injEq] at e';obtain⟨rfl,-,rfl⟩:=e';obtain⟨b,o,rfl,-,-,hv1,-⟩:=hrow k x HX.out;clear hrow;go_wp2
     go_roundg g'
     case measure=>omega
     case rel=>
      refine⟨j+1,x.super,(vis s k x).1,by omega,by go_num,rfl,hR2,?_,c0,c1,c2⟩
      rw[HE.out];simp only[upE,HC.out,Int.toNat_natCast,hv2,if_true]
  ·obtain rfl:gk=0:=by omega
   go_wp2
   go_end0
   refine⟨rfl,j,?_⟩;rw[HE.out]
   exact hRs
theorem xkL (w:World)(b o:Nat)(v:Value):Below b w (w.setCell ⟨b,o,none⟩ v):=(qzL b w).setCell (qzC b) _
def xd6 (s:Int)(_:Nat)(x:QC):Int × Bool:=(s+x.slots,true)
def xaP (xs:List QC)(c:Int):Int:=upE xd6 xs (xs.length+1) c 0
def xbL (xs:List QC):Prop:=∀ (i:Nat) x,xs[i]?=some x->0<=x.slots/\x.slots<=6
theorem xcv {xs:List QC}(ho:xbL xs):∀ (n:Nat) (c s:Int),0<=s->s<=upE xd6 xs n c s/\upE xd6 xs n c s<=s+6*n
 | 0,c,s,h=>by simp[upE]
 | n+1,c,s,h=>by
  unfold upE
  cases hx:xby xs c with
  | none=>simp;omega
  | some x=>
   obtain⟨k,rfl,hk⟩:=xbn hx;obtain⟨h1,h2⟩:=ho k x hk;obtain⟨h3,h4⟩:=xcv ho n x.super (s+x.slots) (by omega)
   simp only[xd6,if_true] at h3 h4 ⊢
   omega
def xfq (name:ByteArray)(s:Int × Int)(k:Nat)(x:QC):(Int × Int) × Bool:=((if 0<=xcu x.mz name then (k:Int) else s.1,xcu x.mz name),decide (xcu x.mz name<0))
def xaw (xs:List QC)(c:Int)(name:ByteArray):Int × Int:=upE (xfq name) xs (xs.length+1) c (-1,-1)
theorem xko {P:Nat->Prop}(n cap:Nat)(name:ByteArray)(s:Int × Int)(k:Nat)(x:QC)(b o bw bn bm bf lo:Nat)(mv:Value)(w:World)(hf:w.heap[bf]?=some (.cells #[.int .i64 s.1] 3 (0,0)))(hmm:w.heap[bm]?=some (.cells #[.int .i64 s.2] 3 (0,0)))(hw:w.cell? ⟨bw,0,none⟩=some (.slice (some ⟨b,o,none⟩) n cap))(hn:w.cell? ⟨bn,0,none⟩=some (.string name))
  (hk:k<n) (hv:w.cell? ⟨b,o+k*4+3,none⟩=some mv) (hM:xbd P w mv x.mz) (hne:bm≠bf) (h1:bm≠bw) (h2:bm≠bn) (h3:bm≠b) (hlm:lo<=bm) (hlf:lo<=bf) :
  Calls Tryz.prog 74 #[.int .i64 k,.pointer (some ⟨bw,0,none⟩),.pointer (some ⟨bn,0,none⟩),.pointer (some ⟨bm,0,none⟩),.pointer (some ⟨bf,0,none⟩)] w fun e w''=>e=.returned (.bool (xfq name s k x).2)/\w''.heap[bf]?=some (.cells #[.int .i64 (xfq name s k x).1.1] 3 (0,0))/\w''.heap[bm]?=some (.cells #[.int .i64 (xfq name s k x).1.2] 3 (0,0))/\Keeps (fun b=>b≠bm/\b≠bf) w w''/\Below lo w w'':=by
 obtain⟨ad2,cap2,rfl,-,-,-,-⟩:=id hM;have hk0:(0:Int)<=(k:Int):=by omega
 have hk1:(k:Int)<(n:Int):=by omega
 have cm:=cell_of_one hmm;have fm:=free_of_one hmm;go_enter Tryz.func74,Tryz.ntmps74;go_wp2;have hS0:w.drew.cell? ⟨bw,0,none⟩=some (.slice (some ⟨b,o,none⟩) n cap)/\w.drew.cell? ⟨b,o+k*4+3,none⟩=some (.slice ad2 x.mz.length cap2)/\w.drew.cell? ⟨bn,0,none⟩=some (.string name):=⟨hw,hv,hn⟩;have hMd:=hM.later xbi (qzL _ _).drew;have hmd:w.drew.heap[bm]?=some (.cells #[.int .i64 s.2] 3 (0,0)):=hmm;have hfd:w.drew.heap[bf]?=some (.cells #[.int .i64 s.1] 3 (0,0)):=hf;clear hw hv hn hM cm fm
 go_region_held3 (fun w'=>w'.cell? ⟨bw,0,none⟩=some (.slice (some ⟨b,o,none⟩) n cap)/\w'.cell? ⟨b,o+k*4+3,none⟩=some (.slice ad2 x.mz.length cap2)/\w'.cell? ⟨bn,0,none⟩=some (.string name))
  (first | exact hS0 | exact hY | exact⟨(qzI _ _ _ _ h1).trans hY.1,(qzI _ _ _ _ h3).trans hY.2.1,(qzI _ _ _ _ h2).trans hY.2.2⟩)
  (first | (go_at_call 75;refine (xg8 x.mz _ name _ hMd).mono ?_;rintro e w1 ⟨rfl,hb⟩;have hY:w1.cell? ⟨bw,0,none⟩=some (.slice (some ⟨b,o,none⟩) n cap)/\w1.cell? ⟨b,o+k*4+3,none⟩=some (.slice ad2 x.mz.length cap2)/\w1.cell? ⟨bn,0,none⟩=some (.string name):=⟨qzA hb hS0.1,qzA hb hS0.2.1,qzA hb hS0.2.2⟩;have hm1:w1.heap[bm]?=some (.cells #[.int .i64 s.2] 3 (0,0)):=(by rw[hb.block _ (xaf hmd)];exact hmd);have hf1:w1.heap[bf]?=some (.cells #[.int .i64 s.1] 3 (0,0)):=(by rw[hb.block _ (xaf hfd)];exact hfd);have cm1:=cell_of_one hm1;have fm1:=free_of_one hm1))
 have hm2:=one_setCell (u:=.int .i64 (xcu x.mz name)) hm1;have hf2:(w1.setCell ⟨bm,0,none⟩ (.int .i64 (xcu x.mz name))).heap[bf]?=some (.cells #[.int .i64 s.1] 3 (0,0)):=by rw[xab (by omega)];exact hf1
 have hB2:Below lo w (w1.setCell ⟨bm,0,none⟩ (.int .i64 (xcu x.mz name))):=((qzL _ _).drew.trans (hb.mono (qzD hlm (Nat.le_of_lt (xaf hmd))))).setCell hlm _;have hK2:Keeps (fun b=>b≠bm/\b≠bf) w (w1.setCell ⟨bm,0,none⟩ (.int .i64 (xcu x.mz name))):=xaq (Keeps.of_below (xah (qzL _ _).drew hb)) (fun h=>h.1 rfl) _
 have c3:=cell_of_one hm2;have c4:=cell_of_one hf2;have c5:=free_of_one hf2;clear hS0 hMd hmd hfd hb hY hm1 hf1 cm1 fm1 hmm hf;generalize w1.setCell ⟨bm,0,none⟩ (.int .i64 (xcu x.mz name))=w2 at *
 by_cases hp:0<=xcu x.mz name
 ·have c6:(w2.setCell ⟨bf,0,none⟩ (.int .i64 (k:Int))).cell? ⟨bm,0,none⟩=some (.int .i64 (xcu x.mz name)):=(qzI _ _ _ _ (by simp;omega)).trans c3
  go_wp2
  go_ret
  refine⟨xb7 (by simp[xfq]),?_,?_,?_,?_⟩
  ·have:=one_setCell (u:=.int .i64 (k:Int)) hf2
   simpa [xfq,hp] using this
  ·rw[xab (by omega)];exact hm2
  ·exact xaq hK2 (fun h=>h.2 rfl) _
  ·exact hB2.setCell hlf _
 ·have hp':xcu x.mz name<0:=by omega
  go_wp2
  go_ret
  refine⟨xb7 (by simp[xfq];exact hp'),?_,hm2,hK2,hB2⟩
  simp only[xfq];rw[if_neg (by omega)]
  exact hf2
def FiR {P:Nat->Prop}(w0:World)(cv:Value)(xs:List QC)(name:ByteArray)(_:Nat)(s:Int × Int)(w':World):Prop:=
 Below w0.heap.size w0 w'/\xai P w' cv xs/\w'.heap[w0.heap.size+1+1]?=some (.cells #[.int .i64 s.1] 3 (0,0))/\w'.heap[w0.heap.size+1+1+1]?=some (.cells #[.int .i64 s.2] 3 (0,0))/\w'.cell? ⟨w0.heap.size,0,none⟩=some cv/\w'.cell? ⟨w0.heap.size+1,0,none⟩=some (.string name)
theorem xeI {P:Nat->Prop}(X:QW)(c:Int)(name:ByteArray)(cv hv:Value)(w:World)(hh:xai P w cv X.cz)(hH:xaC P w hv X.heap):Calls Tryz.prog 59 #[WV cv hv X.ez,.int .i64 c,.string name] w fun e w'=>e=.returned (.tuple #[.int .i64 (xaw X.cz c name).1,.int .i64 (xaw X.cz c name).2])/\Below w.heap.size w w':=by
 have hm:=hmf;obtain⟨ad,cap,rfl,hl,hcap,hby,hrow⟩:=id hh;obtain⟨ah,ch,rfl,-,-,-,-⟩:=id hH;go_enter Tryz.func59,Tryz.ntmps59;go_wp2_with fail;have hW:=(xfv w (Obj.cells #[Value.slice ad X.cz.length cap,Value.slice ah X.heap.length ch,Value.int .i64 X.ez] 25) (Obj.cells #[Value.string name] 9) (Obj.cells #[Value.int .i64 (-1)] 3)).alloc (by simp;omega) (Obj.cells #[Value.int .i64 (-1)] 3)
 refine (xl3 (P:=P) (M:=fun b=>b=w.heap.size+1+1+1\/b=w.heap.size+1+1) (xfq name) (FiR (P:=P) w (.slice ad X.cz.length cap) X.cz name) _ _ _ _ X.cz c (-1,-1) _ _ _ _ (hh.later xaz hW) ⟨_,_,_,rfl⟩ ?_ ?_ ?_ ?_ ?_).mono ?_
 ·refine⟨hW,hh.later xaz hW,?_,?_,?_,?_⟩
  ·rw[(xaj _ _).block _ (by simp)]
   have:=qzJ ((w.alloc (Obj.cells #[Value.slice ad X.cz.length cap,Value.slice ah X.heap.length ch,Value.int .i64 X.ez] 25)).alloc (Obj.cells #[Value.string name] 9)) (Obj.cells #[Value.int .i64 (-1)] 3)
   simpa using this
  ·have:=qzJ (((w.alloc (Obj.cells #[Value.slice ad X.cz.length cap,Value.slice ah X.heap.length ch,Value.int .i64 X.ez] 25)).alloc (Obj.cells #[Value.string name] 9)).alloc (Obj.cells #[Value.int .i64 (-1)] 3)) (Obj.cells #[Value.int .i64 (-1)] 3)
   simpa using this
  ·exact qzA (xfv _ _ _ _) (by rw[xaa _ _ _ _ rfl];rfl)
  ·exact qzA (xca _ _ _) (by rw[xaa _ _ _ _ (by simp)];rfl)
 ·rintro b (rfl | rfl)<;>simp
 ·exact fun j s w' h=>h.2.1
 ·rintro j s w' w'' ⟨h1,h2,h3,h4,h5,h6⟩ hb
  exact⟨xah h1 hb,h2.later xaz hb,by rw[hb.block _ (xaf h3)];exact h3,by rw[hb.block _ (xaf h4)];exact h4,qzA hb h5,qzA hb h6⟩
 ·rintro j s k x w' hj ⟨h1,h2,h3,h4,h5,h6⟩ hx;have hk:=xae hx;obtain⟨b,o,rfl,-,-,-,-,-,mv,hv,hM⟩:=hrow k x hx;have hbl:=World.block_lt_of_cell? _ _ hv
  simp at hbl
  refine (xko X.cz.length cap name s k x b o w.heap.size (w.heap.size+1) (w.heap.size+1+1+1) (w.heap.size+1+1) w.heap.size mv w' h3 h4 h5 h6 hk (qzA h1 hv) (hM.later xbi h1) (by omega) (by omega) (by omega) (by omega) (by omega) (by omega)).mono ?_
  rintro e w'' ⟨rfl,k1,k2,k3,k4⟩;refine⟨rfl,⟨h1.trans k4,hh.later xaz (h1.trans k4),k1,k2,k3 _ _ _ (by omega) h5,k3 _ _ _ (by omega) h6⟩,k3.mono fun b hb=>by omega,k4.size⟩
 ·rintro e w1 ⟨rfl,j,h1,h2,h3,h4,h5⟩;have c1:=cell_of_one h3;have c2:=cell_of_one h4;go_wp2
  go_quiet (fail)
  go_wp2;refine qzK (v:=.tuple #[.int .i64 (xaw X.cz c name).1,.int .i64 (xaw X.cz c name).2]) ?_ rfl ⟨rfl,?_⟩
  ·simp[results,Tryz.results59,go_sem,xaw]
  ·first | exact h1 | exact h1.drew | exact below_drewN h1 _
def okB (s:ByteArray):Bool:=decide (∀ j:Fin s.size,33<=(s[j.1]'j.2).toNat/\(s[j.1]'j.2).toNat<=126)
def xbf (s:ByteArray):Bool:=decide (1<=s.size/\s.size<=12) && okB s
theorem xfK {s:ByteArray}{j:Nat}(hj:j<s.size)(h:¬ (33<=s[j].toNat/\s[j].toNat<=126)):okB s=false:=by
 unfold okB;simp only[decide_eq_false_iff_not]
 exact fun k=>h (k ⟨j,hj⟩)
theorem xib {s:ByteArray}(h:∀ j (hj:j<s.size),33<=s[j].toNat/\s[j].toNat<=126):okB s=true:=by
 unfold okB;simp only[decide_eq_true_eq]
 exact fun j=>h j.1 j.2
theorem xba (w:World)(o:Obj)(n:Nat)(hn:w.heap.size=n):(w.alloc o).heap[n]?=some o:=by subst hn;exact qzJ w o
theorem IsRow.get {α:Type}{E:Lay α}{sz bytes:Nat}{P:Nat->Prop}{w:World}{v:Value}{xs:List α}(h:IsRow E sz bytes P w v xs):∃ ad cap,v=.slice ad xs.length cap:=by
 obtain⟨ad,cap,rfl,-⟩:=h;exact⟨_,_,rfl⟩
end Go.Proofs.YtapbeiccodnniaaGreat
