/- A part. -/
import Derived.Deep.RegionHeld
import Derived.Test.YtbafokihegegiaaGreatDoorRows
import Derived.WalkKit
import Derived.ProofKit
import Derived.OpenShut
import Derived.Below
import Derived.WalkSpells
import Derived.WalkLawsBesides
import Derived.BigQuiet
import Derived.Deep.RegionHeld3
import Derived.Deep.Light
import Derived.Deep.LoopGhost
import Derived.Deep.DeepCutAuto
import Derived.Laws.CopyOwn
import Derived.Laws.Append
import Derived.Laws.Rows
import Derived.Laws.IdiomCopy
namespace Go.Proofs.YtbafokihegegiaaGreatDoor
open Go.ChangeShapes Go.WideShapes Go.ChangeAt Go.RowKit
set_option linter.unusedSimpArgs false
set_option linter.unusedVariables false
set_option maxHeartbeats 8000000
abbrev qS(a:Option Addr)(n c:Nat):Value:=.slice a n c
abbrev qG(g n c:Nat):Value:=.slice (some ⟨g,0,none⟩) n c
abbrev qP(b:Nat):Value:=.pointer (some ⟨b,0,none⟩)
abbrev qZ(s:ByteArray):Value:=.string s
abbrev qC(c:Array Value)(t:TypeId)(f:Nat×Nat:=(0,0)):Obj:=.cells c t f
abbrev qW:=World
abbrev qL:=@List
abbrev J(n:Int):Value:=.int .i64 n
abbrev O(b o:Nat):Addr:=⟨b,o,none⟩
theorem Bn{w:qW}{b o:Nat}{cs:Array Value}{t:TypeId}{fr:Nat × Nat}(h:w.heap[b]?=some (.cells cs t fr)):w.cell? (O b o)=cs[o]?:=cell_of_row _ _ _ _ _ _ h
theorem Bq(n:Nat):n<=n:=Nat.le_refl n
theorem BX{a b c:Nat}(h:a<=b)(k:b<=c):a<=c:=Nat.le_trans h k
theorem Cd{a b c:Nat}(h:a<b)(k:b<=c):a<c:=Nat.lt_of_lt_of_le h k
theorem Bf{w x:qW}{a:Addr}{v:Value}(b:Below w.heap.size w x)(h:w.cell? a=some v):x.cell? a=some v:=cell_later b h
theorem Bj{α:Type}{l:List α}{i:Nat}{a:α}:l.toArray.setIfInBounds i a=(l.set i a).toArray:=by simp
theorem Bl{α:Type}{a b:α}{l:List α}:(a :: l).set 0 b=b :: l:=rfl
theorem Bk{α:Type}{a b:α}{l:List α}{n:Nat}:(a :: l).set (n+1) b=a :: l.set n b:=rfl
abbrev BV:=@World.cell?_setCell_far
abbrev BH:=@heap_alloc_new
abbrev Bt:=@bodyPost_ret
abbrev Br:=@Below.refl
abbrev DX:=@World.cell?_setCell_other
section
variable {P:Program} {md:Region.Mode} {ops:Array Oper} {Q:Exit->Act->World->Prop} {S:World->Prop}
def Gf (P:Program)(md:Region.Mode)(ops:Array Oper)(Q:Exit->Act->World->Prop)(S:World->Prop)(late:List Nat):Nat->Array Bool->Act->World->Prop
 | 0,listed,a,w=>Region.ready md ops listed=[]/\Q .normal a w
 | fuel+1,listed,a,w=>
  (Region.ready md ops listed=[]->Q .normal a w)/\
  ∀i∈Region.ready md ops listed,wpOp P ops Q i (λa' w'=>(late.contains i=false->S w')/\Gf P md ops Q S late fuel (listed.setIfInBounds i true) a' w') a w
theorem xfe {c:List Nat}:∀(fuel:Nat) (b:Array Bool) (a:Act) (w:qW),Gf P md ops Q S c fuel b a w->wpAny P md ops Q fuel b a w
 | 0,_,_,_,h=>h
 | fuel+1,_,_,_,h=>⟨h.1,λi d=>wpOp_mono (λa' w' h'=>xfe fuel _ a' w' h'.2) (h.2 i d)⟩
def Nn (md:Region.Mode)(ops:Array Oper)(i:Nat):Nat->Nat->Bool
 | 0,_=>false
 | n+1,k=>match ops[k]? with
  | none=>false
  | some o=>o.after.any λe=>Region.binds md e && (e.on == i || Nn md ops i n e.on)
def MY (md:Region.Mode)(ops:Array Oper)(listed:Array Bool):Prop:=∀k o,ops[k]?=some o->listed.getD k true=true->∀e∈o.after,Region.binds md e=true->listed.getD e.on true=true
def xpk (md:Region.Mode)(ops:Array Oper)(listed:Array Bool):Bool:=
 (List.range ops.size).all λk=>match ops[k]? with
  | none=>true
  | some o=>!(listed.getD k true) || o.after.all λe=>!(Region.binds md e) || listed.getD e.on true
theorem xm2 {listed:Array Bool}(h:xpk md ops listed=true):MY md ops listed:=by
 intro k o a c e d f;unfold xpk at h;rw[List.all_eq_true] at h;have:=h k (List.mem_range.2 (Array.getElem?_eq_some_iff.1 a).1);rw[a] at this;simp only[c,Bool.not_true,Bool.false_or,Array.all_eq_true'] at this;have b:=this e d;simpa [f] using b
theorem xjb {l:Array Bool}{i k:Nat}(h:l.getD k true=true):(l.setIfInBounds i true).getD k true=true:=by
 by_cases hik:i=k
 ·subst hik;rcases Nat.lt_or_ge i l.size with h' | h'
  ·simp[h']
  simp[h']
 rw[getD_set_ne true hik];exact h
theorem xmd {a:Array Bool}{i:Nat}(m:MY md ops a)(n:i∈Region.ready md ops a):MY md ops (a.setIfInBounds i true):=by
 intro k o f h e j l;obtain⟨d,oi,c,b⟩:=mem_ready.1 n;by_cases hki:i=k
 ·subst hki;rw[c] at f
  cases f;have g:=b e j l;refine xjb ?_;rcases Nat.lt_or_ge e.on a.size with h' | h'
  ·simp[h'] at g ⊢;exact g
  simp[Array.getElem?_eq_none h']
 rw[getD_set_ne true hki] at h;exact xjb (m k o f h e j l)
theorem xic {a:Array Bool}{i:Nat}(c:MY md ops a):∀(n k:Nat),Nn md ops i n k=true->a.getD k true=true->a.getD i true=true
 | 0,k,h,_=>by cases h
 | n+1,k,h,hl=>by
  unfold Nn at h;split at h
  ·cases h
  rename_i o g;rw[Array.any_eq_true'] at h;obtain⟨e,d,h⟩:=h;simp only[Bool.and_eq_true,Bool.or_eq_true,beq_iff_eq] at h;obtain⟨f,h⟩:=h;have b:=c k o g hl e d f;rcases h with h | h
  ·rw[← h];exact b
  exact xic c n e.on h b
theorem xoh {a:Array Bool}{i l:Nat}(k:MY md ops a){n:Nat}(h:Nn md ops i n l=true)(g:l∈Region.ready md ops a):a.getD i true=true:=by
 cases n with
 | zero=>cases h
 | succ n=>
  obtain⟨c,o,p,b⟩:=mem_ready.1 g;unfold Nn at h;rw[p] at h;simp only[] at h;rw[Array.any_eq_true'] at h;obtain⟨e,j,h⟩:=h;simp only[Bool.and_eq_true,Bool.or_eq_true,beq_iff_eq] at h;obtain⟨m,h⟩:=h;have f:=b e j m
  have d:a.getD e.on true=true:=by
   rcases Nat.lt_or_ge e.on a.size with h' | h'
   ·simp[h'] at f ⊢;exact f
   simp[Array.getElem?_eq_none h']
  rcases h with h | h
  ·rw[← h];exact d
  exact xic k n e.on h d
def Pj (md:Region.Mode)(ops:Array Oper)(late:List Nat)(i:Nat):Bool:=late.all λl=>Nn md ops i ops.size l
theorem xky {b:List Nat}{a:Array Bool}{i j:Nat}(h:Pj md ops b i=true)(e:MY md ops a)(g:i∈Region.ready md ops a)(f:j∈Region.ready md ops a):b.contains j=false:=by
 by_cases hc:b.contains j=true
 ·exfalso;unfold Pj at h;rw[List.all_eq_true] at h;have c:=xoh e (h j (by simpa using hc)) f;have d:=(mem_ready.1 g).1;rcases Nat.lt_or_ge i a.size with h' | h'
  ·simp[h'] at d c;rw[d] at c;cases c
  simp[Array.getElem?_eq_none h'] at d
 simpa using hc
theorem xjt {f:List Nat}{i:Nat}{oi:Oper}{v:Value}(p:Pj md ops f i=true)(M:ops[i]?=some oi)(l:∀(j:Nat) (o:Oper) cs b,ops[j]?=some o->o.op≠.select cs b)
  (T:∀c a w,Q (.panic c) (a.put oi.dst v) w->Q (.panic c) a w) :
  ∀(fuel:Nat) (d:Array Bool) (a:Act) (w:qW),MY md ops d->
   (∀j oj,ops[j]?=some oj->j≠i->d.getD j true=false->(∀e∈oj.after,Region.binds md e=true->e.on≠i)->oi.apart ops oj=true)->
   i∈Region.ready md ops d->YieldsIf P ops S oi v a->S w->
   Gf P md ops Q S f fuel (d.setIfInBounds i true) (a.put oi.dst v) w->Gf P md ops Q S f (fuel+1) d a w:=by
 intro fuel
 induction fuel with
 | zero=>
  intro d a w _ _ s D C H;refine⟨λh=>(by rw[h] at s;cases s),λj u=>?_⟩;by_cases hji:j=i
  ·subst hji;exact D.wpOp M C ⟨λ_=>C,H⟩
  have:=ready_mono u hji;rw[H.1] at this
  cases this
 | succ fuel ih=>
  intro d a w N g s D C H;refine⟨λh=>(by rw[h] at s;cases s),λj u=>?_⟩;by_cases hji:j=i
  ·subst hji;exact D.wpOp M C ⟨λ_=>C,H⟩
  have z:f.contains j=false:=xky p N s u;have t:=H.2 j (ready_mono u hji);obtain⟨m,oj,n,q⟩:=mem_ready.1 u
  have B:∀e∈oj.after,Region.binds md e=true->e.on≠i:=λe V W K=>by
   have t:=q e V W;have R:=(mem_ready.1 s).1;rw[K] at t;rcases Nat.lt_or_ge i d.size with h' | h'
   ·simp[h'] at R t;rw[R] at t;cases t
   simp[Array.getElem?_eq_none h'] at t
  have X:=wpOp_putIf n (g j oj n hji m B) (λcs b=>l i oi cs b M) (λcs b=>l j oj cs b n) T D t
  have r:∀k ok,ops[k]?=some ok->k≠i->(d.setIfInBounds j true).getD k true=false->
    (∀e∈ok.after,Region.binds md e=true->e.on≠i)->oi.apart ops ok=true:=λk ok U G y L=>by
   refine g k ok U G ?_ L;by_cases hjk:j=k
   ·subst hjk;exact m
   rw[getD_set_ne true hjk] at y;exact y
  refine wpOp_mono (λa' w' F=>⟨λ_=>F.2.1 z,ih (d.setIfInBounds j true) a' w' (xmd N u) r (ready_mono s (Ne.symm hji)) F.1 (F.2.1 z) ?_⟩) X;rw[Array.setIfInBounds_comm _ _ hji];exact F.2.2
theorem xeD {d:List Nat}{i:Nat}{oi:Oper}{v:Value}{fuel:Nat}{b:Array Bool}{a:Act}{w:qW}(e:Pj md ops d i=true)(m:xpk md ops b=true)(f:ops[i]?=some oi)
  (g:Region.noSelect ops=true) (k:Region.free md ops b i=true) (o:(Region.ready md ops b).contains i=true)
  (j:∀c a w,Q (.panic c) (a.put oi.dst v) w->Q (.panic c) a w) (n:YieldsIf P ops S oi v a) (l:S w)
  (h:Gf P md ops Q S d fuel (b.setIfInBounds i true) (a.put oi.dst v) w):Gf P md ops Q S d (fuel+1) b a w:=
 xjt e f (Region.noSelect_spec g) j fuel b a w (xm2 m) (Region.free_spec f k) (by simpa using o) n l h
theorem EZ {c:List Nat}{b:Array Bool}{a:Act}{w:qW}(d:Region.ready md ops b=[])(h:Q .normal a w):∀fuel,Gf P md ops Q S c fuel b a w
 | 0=>⟨d,h⟩
 | _+1=>⟨λ_=>h,by rw[d];simp⟩
theorem DS {c:List Nat}{rs:List Nat}{fuel:Nat}{b:Array Bool}{a:Act}{w:qW}(e:Region.ready md ops b=rs)(d:rs≠[])
  (h:∀i∈rs,wpOp P ops Q i (λa' w'=>(c.contains i=false->S w')/\Gf P md ops Q S c fuel (b.setIfInBounds i true) a' w') a w):Gf P md ops Q S c (fuel+1) b a w:=
 ⟨λf=>absurd (e ▸ f) d,e ▸ h⟩
theorem Ck {b:List Nat}{i:Nat}{fuel:Nat}{c:Array Bool}{a:Act}{w:qW}{o:Oper}(e:ops[i]?=some o)
  (h:∀K':Act->World->Prop,(∀a w,(b.contains i=false->S w)->Gf P md ops Q S b fuel (c.setIfInBounds i true) a w->K' a w)->if Region.wanted o (yielded ops a.tmps)=true then Oper.wp P o a w K' Q else K' (a.put o.dst undef) w) :
  wpOp P ops Q i (λa' w'=>(b.contains i=false->S w')/\Gf P md ops Q S b fuel (c.setIfInBounds i true) a' w') a w:=
 wpOp_step e (λK' d=>h K' (λa w g f=>d a w ⟨g,f⟩))
theorem Fm {id:Nat}{a:Act}{w:qW}(b:List Nat)(c:P.follows .mixedOrders=true)
  (h:Gf P .any ops Q S b ops.size (Array.replicate ops.size false) a w.drew):(Code.region id ops true).wp P Q a w:=
 wp_region_any c (xfe _ _ _ _ h)
end
section
variable {P:Program} {md:Region.Mode} {ops:Array Oper} {Q:Exit->Act->World->Prop} {S:World->Prop}
def okT (md:Region.Mode)(ops:Array Oper)(late:List Nat)(listed:Array Bool)(i:Nat):Bool:=Pj md ops late i && (xpk md ops listed && (Region.noSelect ops && (Region.free md ops listed i && (Region.ready md ops listed).contains i)))
theorem tk {d:List Nat}(i:Nat)(oi:Oper)(v:Value){fuel:Nat}{b:Array Bool}{a:Act}{w:qW}(j:ops[i]?=some oi)(g:S w)(f:∀c a w,Q (.panic c) (a.put oi.dst v) w->Q (.panic c) a w)(l:Region.wanted oi (yielded ops a.tmps)=true)
  (e:okT md ops d b i=true) (k:∀w,S w->(execOp a.eval oi).run P w=.ok (.value v) w) (h:Gf P md ops Q S d fuel (b.setIfInBounds i true) (a.put oi.dst v) w):Gf P md ops Q S d (fuel+1) b a w:=by
 unfold okT at e;simp only[Bool.and_eq_true] at e;exact xeD e.1 e.2.1 j e.2.2.1 e.2.2.2.1 e.2.2.2.2 f (Or.inl ⟨l,k⟩) g h
theorem tj {d:List Nat}(i:Nat)(oi:Oper)(v:Value){fuel:Nat}{b:Array Bool}{a:Act}{w:qW}(g:S w)(e:∀w,S w->(execOp a.eval oi).run P w=.ok (.value v) w)(h:Gf P md ops Q S d fuel (b.setIfInBounds i true) (a.put oi.dst v) w)(f:ops[i]?=some oi:=by rfl)(hQ:∀c a w,Q (.panic c) (a.put oi.dst v) w->Q (.panic c) a w:=by exact λ_ _ _ h=>h)(hw:Region.wanted oi (yielded ops a.tmps)=true:=by rfl)(ho:okT md ops d b i=true:=by kernel_rfl):Gf P md ops Q S d (fuel+1) b a w:=tk i oi v f g hQ hw ho e h
def AllR (p:Nat->Prop):List Nat->Prop
 | []=>True
 | i :: l=>p i/\AllR p l
theorem AllR.all {p:Nat->Prop}:∀ {l:List Nat},AllR p l->∀i∈l,p i
 | [],_,i,h=>by simp at h
 | k :: l,h,i,a=>by
  rcases List.mem_cons.1 a with rfl | a
  ·exact h.1
  exact AllR.all h.2 i a
theorem CN {c:List Nat}(rs:List Nat){fuel:Nat}{b:Array Bool}{a:Act}{w:qW}(d:rs.isEmpty=false)(f:Region.ready md ops b=rs)
  (h:AllR (λi=>wpOp P ops Q i (λa' w'=>(c.contains i=false->S w')/\Gf P md ops Q S c fuel (b.setIfInBounds i true) a' w') a w) rs):Gf P md ops Q S c (fuel+1) b a w:=
 DS f (by intro e;rw[e] at d;cases d) h.all
end
theorem Hq {W w1:qW}(a:Below W.heap.size W w1):(∀b o,b<W.heap.size->w1.cell? (O b o)=W.cell? (O b o))/\(∀b o,b<W.heap.size->w1.frozen? (O b o)=W.frozen? (O b o)):=
 ⟨λb o h=>a.cell (p:=(O b o)) h,λb o h=>a.frozen (p:=(O b o)) h⟩
theorem Bg (w:qW)(a:Obj):Below w.heap.size w (w.alloc a):=(Br _ _).alloc (Bq _) _
theorem BG (w:qW)(a b:Obj):Below w.heap.size w ((w.alloc a).alloc b):=(Bg _ _).alloc (by simp) _
theorem DW (w:qW)(a b c:Obj):Below w.heap.size w (((w.alloc a).alloc b).alloc c):=(BG _ _ _).alloc (by simp;omega) _
theorem Bh {w W w':qW}(h:Below w.heap.size w W)(k:Below W.heap.size W w'):Below w.heap.size w w':=h.trans (k.mono h.size)
theorem EB {w W w':qW}{X:Obj}(h:Below w.heap.size w W)(k:Below (W.alloc X).heap.size (W.alloc X) w'):Below w.heap.size w w':=Bh (h.alloc h.size _) k
theorem By {w:qW}{g:Nat}{x:Obj}(h:w.heap[g]?=some x):g<w.heap.size:=(Array.getElem?_eq_some_iff.1 h).1
theorem Bz {α:Type}{l:List α}{i:Nat}{x:α}(h:l[i]?=some x):i<l.length:=by
 rcases Nat.lt_or_ge i l.length with h' | h'
 ·exact h'
 rw[List.getElem?_eq_none h'] at h;cases h
theorem BT {a b:Int}(h:a=b):Ending.returned (J a)=.returned (J b):=by rw[h]
theorem Cq {a b:Bool}(h:a=b):Ending.returned (.bool a)=.returned (.bool b):=by rw[h]
theorem Bp (w:qW)(cs:Array Value)(t:TypeId)(n:Nat)(a:w.heap.size=n)(j:Nat):(w.alloc (.cells cs t)).cell? (O n j)=cs[j]?:=by
 subst a;exact Bn (BH w _)
structure QV where
 k:Int
 n:Int
structure QO where
 cls:Int
 slots:List QV
structure QI where
 op:Int
 a:Int
 b:Int
 c:Int
 name:ByteArray
structure QM where
 name:ByteArray
 args:Int
 temps:Int
 prim:Int
 code:List QI
structure QC where
 name:ByteArray
 super:Int
 slots:Int
 mz:List QM
structure QW where
 cz:List QC
 heap:List QO
 ez:Int
def Keeps (P:Nat->Prop)(w w':qW):Prop:=∀b o v,P b->w.cell? (O b o)=some v->w'.cell? (O b o)=some v
theorem Keeps.of_below {P:Nat->Prop}{w w':qW}(a:Below w.heap.size w w'):Keeps P w w':=λb o v _ h=>Bf a h
theorem Keeps.of_setCell {P:Nat->Prop}{w:qW}{a:Addr}(d:¬ P a.block)(u:Value):Keeps P w (w.setCell a u):=λb o v c h=>by
 rw[DX _ _ _ _ (by intro e;subst e;exact d c)];exact h
theorem Keeps.trans {P:Nat->Prop}{w w' w'':qW}(h:Keeps P w w')(k:Keeps P w' w''):Keeps P w w'':=λb o v a c=>k b o v a (h b o v a c)
theorem Keeps.mono {P Q:Nat->Prop}{w w':qW}(h:Keeps P w w')(c:∀b,Q b->P b):Keeps Q w w':=λb o v a d=>h b o v (c _ a) d
theorem Keeps.refl (P:Nat->Prop)(w:qW):Keeps P w w:=λ_ _ _ _ h=>h
theorem Keeps.of_block {P:Nat->Prop}{w w':qW}(h:∀b,P b->b<w.heap.size->w'.heap[b]?=w.heap[b]?):Keeps P w w':=λb o v d a=>by
 have c:=World.block_lt_of_cell? w (O b o) a;unfold World.cell? at a ⊢;rw[h b d c];exact a
abbrev CT (α:Type):=(Nat->Prop)->World->(Nat->Option Value)->α->Prop
structure Good {α:Type}(E:CT α)(sz:Nat):Prop where
 move:∀ {P Q:Nat->Prop} {w w':qW} {f f':Nat->Option Value} {x:α},E P w f x->(∀b,P b->Q b)->Keeps P w w'->(∀k,k<sz->∀v,f k=some v->f' k=some v)->E Q w' f' x
 there:∀ {P:Nat->Prop} {w:qW} {f:Nat->Option Value} {x:α},E P w f x->∀k,k<sz->∃u,f k=some u/\u.oneCell'=true
 pos:0<sz
def RowAt {α:Type}(E:CT α)(sz:Nat)(P:Nat->Prop)(w:qW)(ad:Option Addr)(xs:List α):Prop:=
 ∀i x,xs[i]?=some x->∃b o,ad=some (O b o)/\P b/\E P w (λk=>w.cell? (O b (o+i*sz+k))) x
def IsRow {α:Type}(E:CT α)(sz bytes:Nat)(P:Nat->Prop)(w:qW)(v:Value)(xs:List α):Prop:=
 ∃ad cap,v=qS ad xs.length cap/\xs.length<=cap/\cap<=maxLen/\xs.length*bytes<=140737488351232/\RowAt E sz P w ad xs
theorem RowAt.keep {α:Type}{E:CT α}{sz:Nat}(G:Good E sz){P Q:Nat->Prop}{w w':qW}{ad:Option Addr}{xs:List α}(h:RowAt E sz P w ad xs)(c:Keeps P w w')(a:∀b,P b->Q b):RowAt E sz Q w' ad xs:=λi x d=>by
 obtain⟨b,o,e1,e2,e3⟩:=h i x d;exact⟨b,o,e1,a _ e2,G.move e3 a c λk _ v hv=>c _ _ _ e2 hv⟩
theorem IsRow.keep {α:Type}{E:CT α}{sz bytes:Nat}(G:Good E sz){P Q:Nat->Prop}{w w':qW}{v:Value}{xs:List α}(h:IsRow E sz bytes P w v xs)(f:Keeps P w w')(e:∀b,P b->Q b):IsRow E sz bytes Q w' v xs:=by
 obtain⟨ad,cap,a,g,i,c,d⟩:=h;exact⟨ad,cap,a,g,i,c,d.keep G f e⟩
def KT:CT QI:=λ_ _ f x=>f 0=some (J x.op)/\f 1=some (J x.a)/\f 2=some (J x.b)/\f 3=some (J x.c)/\f 4=some (qZ x.name)/\x.name.size<=140737488351232
def KY:CT QV:=λ_ _ f x=>f 0=some (J x.k)/\f 1=some (J x.n)
abbrev Cm:=IsRow KT 5 48
abbrev CG:=IsRow KY 2 16
def Fk:CT QM:=λP w f x=>f 0=some (qZ x.name)/\f 1=some (J x.args)/\f 2=some (J x.temps)/\f 3=some (J x.prim)/\x.name.size<=140737488351232/\∃v,f 4=some v/\Cm P w v x.code
def LG:CT QO:=λP w f x=>f 0=some (J x.cls)/\∃v,f 1=some v/\CG P w v x.slots
abbrev EC:=IsRow Fk 5 64
abbrev BP:=IsRow LG 2 32
def Kd:CT QC:=λP w f x=>f 0=some (qZ x.name)/\f 1=some (J x.super)/\f 2=some (J x.slots)/\x.name.size<=140737488351232/\∃v,f 3=some v/\EC P w v x.mz
abbrev BK:=IsRow Kd 4 56
theorem Mx {α:Type}{E:CT α}{sz bytes:Nat}{P:Nat->Prop}{w:qW}{v:Value}{xs:List α}(h:IsRow E sz bytes P w v xs):v.oneCell'=true:=by
 obtain⟨ad,cap,rfl,-⟩:=h;rfl
theorem BR:Good KT 5 where
 move h _ _ hf:=⟨hf 0 (by omega) _ h.1,hf 1 (by omega) _ h.2.1,hf 2 (by omega) _ h.2.2.1,hf 3 (by omega) _ h.2.2.2.1,hf 4 (by omega) _ h.2.2.2.2.1,h.2.2.2.2.2⟩
 there h k hk:=by
  obtain⟨c,a,d,e,b,-⟩:=h
  match k,hk with
  | 0,_=>exact⟨_,c,rfl⟩
  | 1,_=>exact⟨_,a,rfl⟩
  | 2,_=>exact⟨_,d,rfl⟩
  | 3,_=>exact⟨_,e,rfl⟩
  | 4,_=>exact⟨_,b,rfl⟩
 pos:=by omega
theorem BZ:Good KY 2 where
 move h _ _ hf:=⟨hf 0 (by omega) _ h.1,hf 1 (by omega) _ h.2⟩
 there h k hk:=by
  obtain⟨a,b⟩:=h
  match k,hk with
  | 0,_=>exact⟨_,a,rfl⟩
  | 1,_=>exact⟨_,b,rfl⟩
 pos:=by omega
theorem xbj:Good Fk 5 where
 move h hl hk hf:=by
  obtain⟨b,a,e,f,g,v,d,c⟩:=h;exact⟨hf 0 (by omega) _ b,hf 1 (by omega) _ a,hf 2 (by omega) _ e,hf 3 (by omega) _ f,g,v,hf 4 (by omega) _ d,c.keep BR hk hl⟩
 there h k hk:=by
  obtain⟨b,a,e,f,g,v,d,c⟩:=h
  match k,hk with
  | 0,_=>exact⟨_,b,rfl⟩
  | 1,_=>exact⟨_,a,rfl⟩
  | 2,_=>exact⟨_,e,rfl⟩
  | 3,_=>exact⟨_,f,rfl⟩
  | 4,_=>exact⟨_,d,Mx c⟩
 pos:=by omega
theorem BB:Good LG 2 where
 move h hl hk hf:=by
  obtain⟨a,v,b,c⟩:=h;exact⟨hf 0 (by omega) _ a,v,hf 1 (by omega) _ b,c.keep BZ hk hl⟩
 there h k hk:=by
  obtain⟨a,v,b,c⟩:=h
  match k,hk with
  | 0,_=>exact⟨_,a,rfl⟩
  | 1,_=>exact⟨_,b,Mx c⟩
 pos:=by omega
theorem Bw:Good Kd 4 where
 move h hl hk hf:=by
  obtain⟨b,a,e,f,v,d,c⟩:=h;exact⟨hf 0 (by omega) _ b,hf 1 (by omega) _ a,hf 2 (by omega) _ e,f,v,hf 3 (by omega) _ d,c.keep xbj hk hl⟩
 there h k hk:=by
  obtain⟨b,a,e,f,v,d,c⟩:=h
  match k,hk with
  | 0,_=>exact⟨_,b,rfl⟩
  | 1,_=>exact⟨_,a,rfl⟩
  | 2,_=>exact⟨_,e,rfl⟩
  | 3,_=>exact⟨_,d,Mx c⟩
 pos:=by omega
section
variable {α:Type} {E:CT α} {sz bytes:Nat} {P Q:Nat->Prop} {w w':World} {v:Value} {xs:List α}
theorem IsRow.later (h:IsRow E sz bytes P w v xs)(G:Good E sz)(a:Below w.heap.size w w'):IsRow E sz bytes P w' v xs:=h.keep G (.of_below a) λ_ h=>h
theorem IsRow.mono (h:IsRow E sz bytes P w v xs)(G:Good E sz)(a:∀b,P b->Q b):IsRow E sz bytes Q w v xs:=h.keep G (.refl _ _) a
end
def Cells {α:Type}(E:CT α)(sz:Nat)(P:Nat->Prop)(w:qW)(cs:List Value)(xs:List α):Prop:=
 cs.length=xs.length*sz/\∀i x,xs[i]?=some x->E P w (λk=>cs[i*sz+k]?) x
section
variable {α:Type} {E:CT α} {sz bytes:Nat} {P Q:Nat->Prop} {w w':World} {cs:List Value} {xs:List α}
theorem Cells.keep (h:Cells E sz P w cs xs)(G:Good E sz)(d:Keeps P w w')(a:∀b,P b->Q b):Cells E sz Q w' cs xs:=
 ⟨h.1,λi x c=>G.move (h.2 i x c) a d λ_ _ _ h=>h⟩
theorem Cells.later (h:Cells E sz P w cs xs)(G:Good E sz)(a:Below w.heap.size w w'):Cells E sz P w' cs xs:=h.keep G (.of_below a) λ_ h=>h
theorem Cells.nil:Cells E sz P w [] ([]:List α):=⟨by simp,λi x a=>by simp at a⟩
theorem Cells.append {ds:List Value}{ys:List α}(h:Cells E sz P w cs xs)(G:Good E sz)(k:Cells E sz P w ds ys):Cells E sz P w (cs++ds) (xs++ys):=by
 have c:=h.1;refine⟨by rw[List.length_append,List.length_append,h.1,k.1,Nat.add_mul],λi x a=>?_⟩;by_cases hi:i<xs.length
 ·rw[List.getElem?_append_left hi] at a;refine G.move (h.2 i x a) (λ_ h=>h) (.refl _ _) λk e v hv=>?_;have b:=Bz hv;simp only[List.getElem?_append_left b];exact hv
 rw[List.getElem?_append_right (by omega)] at a;refine G.move (k.2 _ x a) (λ_ h=>h) (.refl _ _) λk e v hv=>?_;obtain⟨d,rfl⟩:∃d,i=xs.length+d:=⟨i-xs.length,by omega⟩
 simp only[Nat.add_sub_cancel_left] at hv;rw[List.getElem?_append_right (by rw[c,Nat.add_mul];omega),c,Nat.add_mul,show xs.length*sz+d*sz+k-xs.length*sz=d*sz+k by omega];exact hv
theorem Cells.one {x:α}(G:Good E sz)(c:cs.length=sz)(h:E P w (λk=>cs[k]?) x):Cells E sz P w cs [x]:=by
 refine⟨by simpa using c,λi y a=>?_⟩;have b:=Bz a;obtain rfl:i=0:=by simpa using b
 simp at a;subst a;refine G.move h (λ_ h=>h) (.refl _ _) λk d v hv=>by simpa using hv
theorem Cells.all (h:Cells E sz P w cs xs)(G:Good E sz):∀u∈cs,u.oneCell'=true:=by
 intro u e;obtain⟨j,c,rfl⟩:=List.mem_iff_getElem.1 e;have a:=G.pos;have f:=h.1
 have b:j / sz<xs.length:=by
  rw[Nat.div_lt_iff_lt_mul a];omega
 obtain⟨v,hv,d⟩:=G.there (h.2 (j / sz) xs[j / sz] (by simp[b])) (j % sz) (Nat.mod_lt _ a);rw[Nat.div_add_mod'] at hv;rw[List.getElem?_eq_getElem c] at hv
 cases hv;exact d
theorem RowAt.cells {ad:Option Addr}(h:RowAt E sz P w ad xs)(G:Good E sz):∃cs,Cells E sz P w cs xs/\∀j u,cs[j]?=some u->∃a,ad=some a/\w.cell? (a.add j)=some u:=by
 have g:=G.pos
 cases xs with
 | nil=>exact⟨[],.nil,λj u c=>by simp at c⟩
 | cons y r=>
  obtain⟨b,o,rfl,-⟩:=h 0 y rfl;refine⟨(List.range ((y :: r).length*sz)).map λj=>(w.cell? (O b (o+j))).getD undef,⟨by simp,λi x m=>?_⟩,λj u c=>?_⟩
  ·have n:=Bz m;obtain⟨b',o',e,-,d⟩:=h i x m
   cases e;refine G.move d (λ_ h=>h) (.refl _ _) λk q v hv=>?_
   have f:i*sz+k<(y :: r).length*sz:=by
    have:i*sz+k<(i+1)*sz:=by rw[Nat.add_mul];omega
    exact Cd this (Nat.mul_le_mul_right _ n)
   rw[List.getElem?_map,List.getElem?_range f];rw[Nat.add_assoc] at hv;simp[hv]
  rw[List.getElem?_map] at c
  have l:j<(y :: r).length*sz:=by
   rcases Nat.lt_or_ge j ((y :: r).length*sz) with h' | h'
   ·exact h'
   rw[List.getElem?_eq_none (by simpa using h')] at c;simp at c
  rw[List.getElem?_range l] at c;refine⟨_,rfl,?_⟩;rw[Addr.add_lit];have p:j / sz<(y :: r).length:=by rw[Nat.div_lt_iff_lt_mul g];exact l
  obtain⟨b',o',e,-,d⟩:=h (j / sz) ((y :: r)[j / sz]) (by simp)
  cases e;obtain⟨v,hv,-⟩:=G.there d (j % sz) (Nat.mod_lt _ g);rw[Nat.add_assoc,Nat.div_add_mod'] at hv;rw[hv];simpa [hv] using c
theorem Cells.row {g cap:Nat}(h:Cells E sz P w cs xs)(G:Good E sz)(a:P g){t:TypeId}{fr:Nat × Nat}{cur:Array Value}(e:w.heap[g]?=some (.cells cur t fr))(f:cur.toList.take (xs.length*sz)=cs)(b:xs.length<=cap)(d:cap<=maxLen)(l:xs.length*bytes<=140737488351232) :
  IsRow E sz bytes P w (qG g xs.length cap) xs:=by
 refine⟨_,_,rfl,b,d,l,λi x j=>⟨g,0,rfl,a,?_⟩⟩;refine G.move (h.2 i x j) (λ_ h=>h) (.refl _ _) λk m v hv=>?_;have c:=Bz hv;rw[cell_of_row w g _ _ _ _ e,Nat.zero_add];subst f;rw[List.getElem?_take] at hv;split at hv
 ·simpa using hv
 cases hv
end
theorem xcD {P:Program}(w:qW)(dT sT ty elem:TypeId)(sz g len f:Nat)(sp:Option Addr)(b:Nat)(cur:Array Value)(t:TypeId)(cs:List Value)
  (D:P.underlying dT=some (.slice elem)) (o:(P.info? elem).map (·.size)=some sz) (p:w.heap[g]?=some (.cells cur t (0,0))) (C:cs.length=len*sz)
  (d:∀j v,cs[j]?=some v->∃a,sp=some a/\w.cell? (a.add j)=some v) (k:cur.size=len*sz) (q:∀v∈cs,v.oneCell'=true) :
  ∃w',(Builtin.copy_ #[dT,sT] ty #[qG g len f,qS sp len b]).run P w=.ok (goInt len) w'/\w'.heap[g]?=some (.cells cs.toArray t (0,0))/\∀B w0,Below B w0 w->B<=g->Below B w0 w':=by
 cases n:P.info? elem with
 | none=>simp[n] at o
 | some i=>
  have y:i.size=sz:=by simpa [n] using o
  have l:=run_storeCells_at P g 0 t cs 0 cur w p (by simp;omega) q;have s:Nat.min len len=len:=Nat.min_self len
  have m:(Builtin.firstCells sz len (qS sp len b)).run P w=.ok cs.toArray w:=by
   cases sp with
   | some a=>exact run_firstCells_some w sz len a len b cs C (λj v hv=>by obtain⟨a',e,h⟩:=d j v hv;cases e;exact h)
   | none=>
    have:cs=[]:=by
     cases cs with
     | nil=>rfl
     | cons c r=>obtain⟨a',e,_⟩:=d 0 c rfl;cases e
    rw[this];exact run_firstCells_none w sz len len b
  refine⟨w.setRow g cs.toArray,?_,setRow_heap w g cur _ t _ p,λB w0 z u=>below_setRow z u _⟩
  have e:(cur.toList.take (0+0)++cs++cur.toList.drop (0+0+cs.length)).toArray=cs.toArray:=by
   have:cur.toList.drop cs.length=[]:=by rw[List.drop_eq_nil_iff];simp;omega
   simp[this]
  rw[e] at l;simp[Builtin.copy_,run_underlying D,Builtin.lenOf,sizeOf,typeInfo,n,y,s,m,l]
theorem Gb {P:Program}{t:TypeId}{z:Value}{n m:Nat}(h:(P.info? t).map (λi=>(i.zero,i.size,i.bytes))=some (some z,n,m)):∃i,P.info? t=some i/\i.zero=some z/\i.size=n/\i.bytes=m:=by
 cases a:P.info? t with
 | none=>simp[a] at h
 | some i=>
  simp[a] at h;exact⟨i,rfl,h.1,h.2.1,h.2.2⟩
abbrev zI:Value:=.agg #[J 0,J 0,J 0,J 0,qZ ⟨#[]⟩]
abbrev zM:Value:=.agg #[qZ ⟨#[]⟩,J 0,J 0,J 0,qS none 0 0]
abbrev zC:Value:=.agg #[qZ ⟨#[]⟩,J 0,J 0,qS none 0 0]
theorem Mg:(Tryz.prog.info? 69).map (λi=>(i.zero,i.size,i.bytes))=some (some zI,5,48):=by kernel_rfl
theorem xnI:(Tryz.prog.info? 51).map (λi=>(i.zero,i.size,i.bytes))=some (some zM,5,64):=by kernel_rfl
theorem xqd:(Tryz.prog.info? 80).map (λi=>(i.zero,i.size,i.bytes))=some (some zC,4,56):=by kernel_rfl
theorem xok:(Tryz.prog.info? 41).map (λi=>(i.zero,i.size,i.bytes))=some (some (.agg #[J 0,J 0]),2,16):=by kernel_rfl
theorem xql:(Tryz.prog.info? 84).map (λi=>(i.zero,i.size,i.bytes))=some (some (.agg #[J 0,qS none 0 0]),2,32):=by kernel_rfl
theorem xrJ:(Tryz.prog.info? 69).map (·.size)=some 5:=by kernel_rfl
theorem xrg:(Tryz.prog.info? 41).map (·.size)=some 2:=by kernel_rfl
theorem Qc {T e:TypeId}{zs:Array Value}{sz by':Nat}(j:Tryz.prog.underlying T=some (.slice e))(f:(Tryz.prog.info? e).map (λi=>(i.zero,i.size,i.bytes))=some (some (.agg zs),sz,by'))(d:0<by')(n:Nat)(l:n*by'<=140737488351232)(h:(Value.agg zs).cells=zs)(w:qW):(Instr.makeSlice T (J (n:Int)) (J (n:Int))).run Tryz.prog w=.ok (qG w.heap.size n n) (w.alloc (.cells (madeCells zs (n*sz)) e)):=by
 obtain⟨i0,g,b,c,a⟩:=Gb f;have k:n<=n*by':=Nat.le_mul_of_pos_right _ d
 have:=run_make (P:=Tryz.prog) w T e i0 _ j g b .i64 .i64 n n (by omega) (by omega) (by rw[a];rw[Nat.mul_comm] at *;omega) (by omega);rw[this,c,h];simp
abbrev Lz (T e:TypeId)(zs:Array Value)(sz n:Nat):Prop:=∀w:qW,(Instr.makeSlice T (J (n:Int)) (J (n:Int))).run Tryz.prog w=.ok (qG w.heap.size n n) (w.alloc (.cells (madeCells zs (n*sz)) e))
theorem xov (n:Nat)(a:n*48<=140737488351232):Lz 49 69 #[J 0,J 0,J 0,J 0,qZ ⟨#[]⟩] 5 n:=λw=>Qc Tryz.underlying49 Mg (by omega) n a rfl w
theorem xmm (n:Nat)(a:n*64<=140737488351232):Lz 78 51 #[qZ ⟨#[]⟩,J 0,J 0,J 0,qS none 0 0] 5 n:=λw=>Qc Tryz.underlying78 xnI (by omega) n a rfl w
theorem xjj (n:Nat)(a:n*56<=140737488351232):Lz 23 80 #[qZ ⟨#[]⟩,J 0,J 0,qS none 0 0] 4 n:=λw=>Qc Tryz.underlying23 xqd (by omega) n a rfl w
theorem Ns (n:Nat)(a:n*16<=140737488351232):Lz 52 41 #[J 0,J 0] 2 n:=λw=>Qc Tryz.underlying52 xok (by omega) n a rfl w
theorem xox (n:Nat)(a:n*32<=140737488351232):Lz 24 84 #[J 0,qS none 0 0] 2 n:=λw=>Qc Tryz.underlying24 xql (by omega) n a rfl w
abbrev xsy (w w':qW):Nat->Prop:=λb=>w.heap.size<=b/\b<w'.heap.size
theorem Kw {w:qW}{a:Addr}{v:Value}(h:w.cell? a=some v)(u:Value):(w.setCell a u).cell? a=some u:=by
 rw[World.cell?_setCell_same _ _ _ h]
theorem GT (w:qW)(a:Addr)(v:Value):(w.setCell a v).heap.size=w.heap.size:=by
 simp[World.setCell]
theorem CK {P:Nat->Prop}{w w0:qW}(h:Keeps P w0 w){b o:Nat}(a:¬ P b)(u:Value):Keeps P w0 (w.setCell (O b o) u):=h.trans (Keeps.of_setCell a u)
abbrev MV (x:QM)(cv:Value):Value:=.agg #[qZ x.name,J x.args,J x.temps,J x.prim,cv]
theorem xeJ {P:Nat->Prop}(x:QM)(v:Value)(w:qW)(C:Cm P w v x.code):Calls Tryz.prog 76 #[MV x v] w λe w'=>∃a c,e=.returned (MV x (qS a x.code.length c))/\Cm (xsy w w') w' (qS a x.code.length c) x.code/\Below w.heap.size w w':=by
 obtain⟨ad,cap,rfl,F,l,i,g⟩:=C;have u:=xov x.code.length i;obtain⟨cs,d,f⟩:=g.cells BR;have n:((w.alloc (qC #[qZ x.name,J x.args,J x.temps,J x.prim,qS ad x.code.length cap] 51)).alloc (qC #[qZ ⟨#[]⟩,J 0,J 0,J 0,qS none 0 0] 51)).heap.size=w.heap.size+1+1:=by simp
 obtain⟨w1,k,m,t⟩:=xcD (P:=Tryz.prog) (((w.alloc (qC #[qZ x.name,J x.args,J x.temps,J x.prim,qS ad x.code.length cap] 51)).alloc (qC #[qZ ⟨#[]⟩,J 0,J 0,J 0,qS none 0 0] 51)).alloc (.cells (madeCells #[J 0,J 0,J 0,J 0,qZ ⟨#[]⟩] (x.code.length*5)) 69)) 49 49 3 69 5 _ x.code.length x.code.length ad cap (madeCells #[J 0,J 0,J 0,J 0,qZ ⟨#[]⟩] (x.code.length*5)) 69 cs Tryz.underlying49 xrJ (BH _ _) d.1
  (λj v z=>by obtain⟨a,e,h⟩:=f j v z;exact⟨a,e,Bf (DW _ _ _ _) h⟩) (size_madeCells _ _) (d.all BR)
 have r:=t _ _ (Bg _ _) (Bq _);have q:Hid (Cells KT 5 P w cs x.code):=d;rw[n] at k m;have p:=By m;have y:Hid (w1.heap[w.heap.size+1+1]?=some (.cells cs.toArray 69 (0,0))):=m;obtain⟨s,G⟩:=Hq r;have B:∀v,(w1.setCell (O w.heap.size 4) v).cell? (O w.heap.size 4)=some v:=λv=>Kw (v:=qS ad x.code.length cap) (by rw[s _ _ (by simp;omega)];simp) v;have o:Below w.heap.size w w1:=(BG _ _ _).trans (r.mono (by simp;omega));clear m t g d f r n;go_enter Tryz.func76,Tryz.ntmps76;go_wp2;refine Bt (v:=MV x (qS (some (O (w.heap.size+1+1) 0)) x.code.length x.code.length)) ?_ rfl ⟨_,_,rfl,?_,?_⟩
 ·simp[results,Tryz.results76,go_sem,s]
 ·refine IsRow.keep BR (w:=w1) (P:=λb=>w.heap.size+1+1<=b/\b<w1.heap.size) ?_ ?_ ?_
  ·exact Cells.row (E:=KT) (sz:=5) (cs:=cs) ⟨q.out.1,q.out.2⟩ BR ⟨by omega,p⟩ y.out (by simp;rw[List.take_of_length_le];rw[q.out.1];exact Bq _) (Bq _) (by unfold maxLen;omega) i
  ·exact CK (CK (CK (CK (CK (CK (Keeps.refl _ _) (λh=>by have:=h.1;omega) _) (λh=>by have:=h.1;omega) _) (λh=>by have:=h.1;omega) _) (λh=>by have:=h.1;omega) _) (λh=>by have:=h.1;omega) _) (λh=>by have:=h.1;omega) _
  rintro b ⟨D,m⟩;exact⟨by omega,by simpa [GT] using m⟩
 exact ((((((o.setCell (by simp) _).setCell (by simp) _).setCell (by simp) _).setCell (by simp) _).setCell (by simp) _).setCell (by simp) _)
def OwnSt {α:Type}(E:CT α)(sz:Nat)(t:TypeId)(w:qW)(B:Nat)(xs:List α)(j:Nat):Prop:=
 (∃cur:Array Value,w.heap[B]?=some (.cells cur t (0,0))/\cur.size=xs.length*sz)/\∀i x,i<j->xs[i]?=some x->E (λb=>B<b/\b<w.heap.size) w (λk=>w.cell? (O B (i*sz+k))) x
theorem BW {w:qW}{B o:Nat}{cur:Array Value}{t:TypeId}{fr:Nat × Nat}(h:w.heap[B]?=some (.cells cur t fr))(v:Value):(w.setCell (O B o) v).heap[B]?=some (.cells (cur.setIfInBounds o v) t fr):=by
 rw[setCell_eq_setRow w B o cur t fr v h];exact setRow_heap w B cur _ t fr h
theorem BS {w:qW}{B o g:Nat}(a:g≠B)(v:Value):(w.setCell (O B o) v).heap[g]?=w.heap[g]?:=Below.heap_setCell _ _ _ _ a
theorem NF {B n:Nat}{t:TypeId}:∀(vs:List Value) (o:Nat) (w:qW),(∃cur:Array Value,w.heap[B]?=some (.cells cur t (0,0))/\cur.size=n)->∃cur:Array Value,(w.setCells B o vs).heap[B]?=some (.cells cur t (0,0))/\cur.size=n
 | [],_,_,h=>h
 | v :: r,o,w,h=>by
  obtain⟨cur,a,b⟩:=h;exact NF r (o+1) _ ⟨_,BW a v,by simpa using b⟩
theorem Er {B g:Nat}(a:g≠B):∀(vs:List Value) (o:Nat) (w:qW),(w.setCells B o vs).heap[g]?=w.heap[g]?
 | [],_,_=>rfl
 | v :: r,o,w=>(Er a r (o+1) _).trans (BS a v)
theorem Ks {B:Nat}:∀(vs:List Value) (o:Nat) (w:qW),(w.setCells B o vs).heap.size=w.heap.size
 | [],_,_=>rfl
 | v :: r,o,w=>(Ks r (o+1) _).trans (GT _ _ _)
section
variable {α:Type} {E:CT α} {sz:Nat} {t:TypeId} {w w':World} {B:Nat} {xs:List α} {j:Nat}
theorem OwnSt.later (h:OwnSt E sz t w B xs j)(G:Good E sz)(a:Below w.heap.size w w'):OwnSt E sz t w' B xs j:=by
 obtain⟨⟨cur,c,d⟩,g⟩:=h;refine⟨⟨cur,by rw[a.block _ (By c)];exact c,d⟩,λi x e f=>?_⟩;exact G.move (g i x e f) (λb h=>⟨h.1,Cd h.2 a.size⟩) (.of_below a) λk _ v hv=>Bf a hv
theorem OwnSt.start (xs:List α)(c:Array Value)(a:c.size=xs.length*sz):OwnSt E sz t (w.alloc (.cells c t)) w.heap.size xs 0:=
 ⟨⟨c,BH w _,a⟩,λi x b _=>by omega⟩
theorem OwnSt.step {x:α}{vs:List Value}(h:OwnSt E sz t w B xs j)(G:Good E sz)(f:xs[j]?=some x)(p:vs.length=sz)(n:E (λb=>B<b/\b<w.heap.size) w (λk=>vs[k]?) x):OwnSt E sz t (w.setCells B (j*sz) vs) B xs (j+1):=by
 obtain⟨⟨cur,d,m⟩,o⟩:=h;have s:=Bz f;have e:Keeps (λb=>B<b/\b<w.heap.size) w (w.setCells B (j*sz) vs):=Keeps.of_block λb z _=>Er (by omega) _ _ _;refine⟨NF vs _ w ⟨cur,d,m⟩,λi y u a=>?_⟩;have c:=Ks (B:=B) vs (j*sz) w
 have g:j*sz+sz<=xs.length*sz:=by
  have:=Nat.mul_le_mul_right sz (show j+1<=xs.length by omega);rw[Nat.add_mul] at this;omega
 by_cases hij:i=j
 ·subst hij;rw[f] at a
  cases a;refine G.move n (λb h=>⟨h.1,by rw[c];exact h.2⟩) e λk l v hv=>?_;have:=World.cell?_setCells_in B vs (i*sz) w (λq r=>by rw[Bn d];simp;omega) k (by omega);rw[this];rw[List.getElem?_eq_getElem (by omega)] at hv;exact hv
 refine G.move (o i y (by omega) a) (λb h=>⟨h.1,by rw[c];exact h.2⟩) e λk l v hv=>?_;rw[World.cell?_setCells_out B vs (j*sz) w _ (λ_ _=>Or.inl ?_)]
 ·exact hv
 have:=Nat.mul_le_mul_right sz (show i+1<=j by omega);rw[Nat.add_mul] at this;simp;omega
theorem OwnSt.row {bytes:Nat}(h:OwnSt E sz t w B xs xs.length)(G:Good E sz)(e:xs.length*bytes<=140737488351232)(d:0<bytes):IsRow E sz bytes (λb=>B<=b/\b<w.heap.size) w (qG B xs.length xs.length) xs:=by
 obtain⟨⟨cur,c,g⟩,f⟩:=h;have j:xs.length<=xs.length*bytes:=Nat.le_mul_of_pos_right _ d;refine⟨_,_,rfl,Bq _,by unfold maxLen;omega,e,λi x a=>⟨B,0,rfl,⟨Bq _,By c⟩,?_⟩⟩;exact G.move (f i x (Bz a) a) (λb h=>⟨by omega,h.2⟩) (.refl _ _) λk _ v hv=>by rw[Nat.zero_add];exact hv
theorem OwnSt.cells (h:OwnSt E sz t w B xs xs.length)(G:Good E sz):∃cur:Array Value,w.heap[B]?=some (.cells cur t (0,0))/\Cells E sz (λb=>B<b/\b<w.heap.size) w cur.toList xs:=by
 obtain⟨⟨cur,a,d⟩,e⟩:=h;refine⟨cur,a,by simpa using d,λi x c=>?_⟩;exact G.move (e i x (Bz c) c) (λb h=>h) (.refl _ _) λk _ v hv=>by rw[Bn a] at hv;simpa using hv
end
theorem xgy {P:Nat->Prop}(xs:List QM)(v:Value)(w:qW)(L:EC P w v xs):Calls Tryz.prog 48 #[v] w λe w'=>∃g,e=.returned (qG g xs.length xs.length)/\OwnSt Fk 5 51 w' g xs xs.length/\w.heap.size<=g/\Below w.heap.size w w':=by
 obtain⟨ad,cap,rfl,N,s,p,a⟩:=L;have B:=xmm xs.length p;go_enter Tryz.func48,Tryz.ntmps48;go_wp2
 go_loopg [11] xs.length (λg c wr=>∃j:Nat,j+g=xs.length/\c=J j/\Below w.heap.size w wr/\OwnSt Fk 5 51 wr w.heap.size xs j/\w.heap.size<wr.heap.size)
 case atStart=>exact⟨0,by omega,rfl,Bg _ _,OwnSt.start _ _ (size_madeCells _ _),by simp⟩
 case round=>
  obtain⟨j,Q,rfl,u,y,M⟩:=hrel;clear B;by_cases hlt:j<xs.length
  ·obtain⟨b,o,rfl,-,d,m,f,i,n,sv,l,k⟩:=a j xs[j] (by simp[hlt]);have D:Hid (xs[j]?=some xs[j]):=by show _=_;simp[hlt]
   generalize xs[j]=x at *;simp only[Nat.add_zero] at d;have u0:=Bf u d;have u1:=Bf u m;have u2:=Bf u f;have u3:=Bf u i;have u4:=Bf u l;have z:=k.later BR u;obtain⟨t,r,rfl,-,-,-,-⟩:=id z;clear d m f i l k a;have F:(j:Int)<(xs.length:Int):=by omega
   have H:(0:Int)<=(j:Int):=by omega
   go_wp2_with fail;refine (xeJ x _ _ (z.later BR (Bg _ _))).mono ?_;rintro e w1 ⟨a',c',rfl,q,C⟩;have G:=u;replace y:=(y.later xbj (Bg _ _)).later xbj C;replace u:=EB u C;have K:wr.heap.size+1<=w1.heap.size:=by have:=C.size;simpa using this
   obtain⟨⟨cur,k1,k2⟩,k3⟩:=id y;have f1:∀o,w1.frozen? (O w.heap.size o)=false:=λo=>(by simp[World.frozen?,k1])
   have e0:w1.cell? (O w.heap.size (j*5))=some (cur[j*5]'(by omega)):=(by rw[Bn k1];simp)
   have e1:w1.cell? (O w.heap.size (j*5+1))=some (cur[j*5+1]'(by omega)):=(by rw[Bn k1];simp)
   have e2:w1.cell? (O w.heap.size (j*5+2))=some (cur[j*5+2]'(by omega)):=(by rw[Bn k1];simp)
   have e3:w1.cell? (O w.heap.size (j*5+3))=some (cur[j*5+3]'(by omega)):=(by rw[Bn k1];simp)
   have e4:w1.cell? (O w.heap.size (j*5+4))=some (cur[j*5+4]'(by omega)):=(by rw[Bn k1];simp)
   go_wp2;go_roundg (gk-1)
   case measure=>omega
   case rel=>
    refine⟨j+1,by omega,by go_num,((((u.setCell (Bq _) _).setCell (Bq _) _).setCell (Bq _) _).setCell (Bq _) _).setCell (Bq _) _,?_,by simp;omega⟩;refine y.step xbj D.out (vs:=[qZ x.name,J x.args,J x.temps,J x.prim,qS a' x.code.length c']) rfl ?_;exact⟨rfl,rfl,rfl,rfl,n,_,rfl,q.mono BR λb h=>⟨by have:=h.1;simp at this;omega,h.2⟩⟩
  obtain rfl:j=xs.length:=by omega
  go_wp2;go_ret;exact⟨_,rfl,y,Bq _,u⟩
abbrev WV (cv hv:Value)(e:Int):Value:=.agg #[cv,hv,J e]
def OwnK (w:qW)(B i lo hi:Nat)(x:QC):Prop:=
 w.cell? (O B (i*4))=some (qZ x.name)/\w.cell? (O B (i*4+1))=some (J x.super)/\w.cell? (O B (i*4+2))=some (J x.slots)/\x.name.size<=140737488351232/\
  ∃g,w.cell? (O B (i*4+3))=some (qG g x.mz.length x.mz.length)/\lo<=g/\g<hi/\x.mz.length*64<=140737488351232/\
   ∃cur:Array Value,w.heap[g]?=some (.cells cur 51 (0,0))/\Cells Fk 5 (λb=>g<b/\b<hi) w cur.toList x.mz
def OwnC (w:qW)(B:Nat)(xs:List QC)(s:Nat->Nat)(j:Nat):Prop:=
 (∃cur:Array Value,w.heap[B]?=some (.cells cur 80 (0,0))/\cur.size=xs.length*4)/\B<s 0/\(∀i,i<j->s i<=s (i+1))/\s j<=w.heap.size/\
  ∀i x,i<j->xs[i]?=some x->OwnK w B i (s i) (s (i+1)) x
theorem OwnK.later {w w':qW}{B i lo hi:Nat}{x:QC}(h:OwnK w B i lo hi x)(a:Below w.heap.size w w'):OwnK w' B i lo hi x:=by
 obtain⟨e,c,l,n,g,d,j,f,m,cur,b,k⟩:=h;exact⟨Bf a e,Bf a c,Bf a l,n,g,Bf a d,j,f,m,cur,by rw[a.block _ (By b)];exact b,k.later xbj a⟩
theorem OwnC.later {w w':qW}{B:Nat}{xs:List QC}{s:Nat->Nat}{j:Nat}(h:OwnC w B xs s j)(a:Below w.heap.size w w'):OwnC w' B xs s j:=by
 obtain⟨⟨cur,b,f⟩,l,c,d,e⟩:=h;exact⟨⟨cur,by rw[a.block _ (By b)];exact b,f⟩,l,c,BX d a.size,λi x g k=>(e i x g k).later a⟩
theorem OwnC.step {w:qW}{B:Nat}{xs:List QC}{s:Nat->Nat}{j g:Nat}{x:QC}(h:OwnC w B xs s j)(F:xs[j]?=some x)(M:x.name.size<=140737488351232)(N:s j<=g)(V:OwnSt Fk 5 51 w g x.mz x.mz.length)(f:x.mz.length*64<=140737488351232) :
  ∃s',OwnC (w.setCells B (j*4) [qZ x.name,J x.super,J x.slots,qG g x.mz.length x.mz.length]) B xs s' (j+1):=by
 obtain⟨⟨cur,u,D⟩,U,G,Q,R⟩:=h;have W:=Bz F;obtain⟨c,d,e⟩:=V.cells xbj;have C:=By d
 have o:∀i,i<=j->s 0<=s i:=λi=>by
  induction i with
  | zero=>intro _;exact Bq _
  | succ n ih=>intro H;exact BX (ih (by omega)) (G n (by omega))
 have L:=o j (Bq _);have l:¬ (j+1<=j):=by omega
 refine⟨λi=>if i<=j then s i else w.heap.size,NF _ _ w ⟨cur,u,D⟩,by simpa using U,?_,?_,?_⟩
 ·intro i H;by_cases hij:i=j
  ·subst hij;simp[l];exact Q
  have u:i<=j:=by omega
  have D:i+1<=j:=by omega
  simp only[u,D,if_true];exact G i (by omega)
 ·simp[Ks,l]
 intro i y H z;have T:j*4+4<=xs.length*4:=by omega
 by_cases hij:i=j
 ·subst hij;rw[F] at z
  cases z;have r:=λk (hk:k<4)=>World.cell?_setCells_in B [qZ x.name,J x.super,J x.slots,qG g x.mz.length x.mz.length] (i*4) w (λq K=>by rw[Bn u];simp at K ⊢;omega) k hk;refine⟨r 0 (by omega),r 1 (by omega),r 2 (by omega),M,g,r 3 (by omega),by simpa using N,by simpa [l] using C,f,c,?_,?_⟩
  ·rw[Er (by omega)];exact d
  refine e.keep xbj (Keeps.of_block λb m _=>Er (by have:=m.1;omega) _ _ _) λb m=>⟨m.1,by simpa [l] using m.2⟩
 obtain⟨e0,e1,e2,e3,g',e4,e5,e6,e7,a,e8,e9⟩:=R i y (by omega) z;have p:i<=j:=by omega
 have v:i+1<=j:=by omega
 have S:=o i p;simp only[p,v,if_true];have t:=λk (hk:k<4)=>World.cell?_setCells_out B [qZ x.name,J x.super,J x.slots,qG g x.mz.length x.mz.length] (j*4) w (O B (i*4+k)) (λ_ _=>Or.inl (by simp;omega));refine⟨(t 0 (by omega)).trans e0,(t 1 (by omega)).trans e1,(t 2 (by omega)).trans e2,e3,g',(t 3 (by omega)).trans e4,e5,e6,e7,a,?_,?_⟩
 ·rw[Er (by omega)];exact e8
 exact e9.keep xbj (Keeps.of_block λb m _=>Er (by have:=m.1;omega) _ _ _) λb m=>m
theorem OwnC.mono {w:qW}{B:Nat}{xs:List QC}{s:Nat->Nat}{n:Nat}(h:OwnC w B xs s n):∀i j,i<=j->j<=n->s i<=s j:=λi j a c=>by
 obtain⟨-,-,b,-,-⟩:=h;obtain⟨d,rfl⟩:∃d,j=i+d:=⟨j-i,by omega⟩
 clear a
 induction d with
 | zero=>exact Bq _
 | succ d ih=>exact BX (ih (by omega)) (b (i+d) (by omega))
theorem OwnK.meths {w:qW}{B i lo hi:Nat}{x:QC}(h:OwnK w B i lo hi x):∃g,w.cell? (O B (i*4+3))=some (qG g x.mz.length x.mz.length)/\lo<=g/\EC (λb=>lo<=b/\b<hi) w (qG g x.mz.length x.mz.length) x.mz:=by
 obtain⟨m,l,n,o,g,e,a,f,k,cur,j,c⟩:=h;refine⟨g,e,a,Cells.row (c.keep xbj (.refl _ _) λb d=>⟨by have:=d.1;omega,d.2⟩) xbj ⟨a,f⟩ j ?_ (Bq _) (by unfold maxLen;omega) k⟩;rw[List.take_of_length_le];rw[c.1];exact Bq _
theorem OwnC.row {w:qW}{B:Nat}{xs:List QC}{s:Nat->Nat}(h:OwnC w B xs s xs.length)(a:xs.length*56<=140737488351232):BK (λb=>B<=b/\b<w.heap.size) w (qG B xs.length xs.length) xs:=by
 refine⟨_,_,rfl,Bq _,by unfold maxLen;omega,a,λi x j=>⟨B,0,rfl,⟨Bq _,by obtain⟨⟨c,o,-⟩,-⟩:=h;exact By o⟩,?_⟩⟩;have n:=Bz j;have y:=h.mono (i+1) xs.length (by omega) (Bq _);have t:=h.2.2.2.1;have e:=h.2.2.2.2 i x n j;have u:=h.mono 0 i (by omega) (by omega);have v:=h.2.1;obtain⟨g,p,d,r⟩:=e.meths;obtain⟨l,k,m,q,-⟩:=e;simp only[Nat.zero_add];exact⟨l,k,m,q,_,p,r.mono xbj λb f=>⟨by have:=f.1;omega,by have:=f.2;omega⟩⟩
theorem OwnC.start (w:qW)(xs:List QC)(c:Array Value)(b:c.size=xs.length*4):OwnC (w.alloc (.cells c 80)) w.heap.size xs (λ_=>w.heap.size+1) 0:=
 ⟨⟨c,BH w _,b⟩,by simp,λi a=>by omega,by simp,λi x a _=>by omega⟩
theorem OwnK.set {w:qW}{B i lo hi d:Nat}{x:QC}(h:OwnK w B i lo hi x)(m:d≠B)(s:hi<=d)(o:Nat)(v:Value):OwnK (w.setCell (O d o) v) B i lo hi x:=by
 obtain⟨e,a,n,r,g,c,f,j,q,cur,p,l⟩:=h;have k:=λ(o':Nat)=>BV w (O d o) (O B o') v m;refine⟨(k _).trans e,(k _).trans a,(k _).trans n,r,g,(k _).trans c,f,j,q,cur,by rw[BS (by omega)];exact p,l.keep xbj (Keeps.of_setCell (λb=>?_) _) λ_ h=>h⟩;have:=b.2;simp at this;omega
theorem OwnC.set {w:qW}{B d:Nat}{xs:List QC}{s:Nat->Nat}{j:Nat}(h:OwnC w B xs s j)(p:s j<=d)(o:Nat)(v:Value):OwnC (w.setCell (O d o) v) B xs s j:=by
 have a:=h.mono;obtain⟨⟨cur,b,g⟩,m,c,f,e⟩:=h;have n:=a 0 j (by omega) (Bq _);refine⟨⟨cur,by rw[BS (by omega)];exact b,g⟩,m,c,by simpa using f,λi x k l=>(e i x k l).set (by omega) ?_ o v⟩;have:=a (i+1) j (by omega) (Bq _);omega
theorem OwnC.setLow {w:qW}{B d:Nat}{xs:List QC}{s:Nat->Nat}{j:Nat}(h:OwnC w B xs s j)(z:d<B)(o:Nat)(v:Value):OwnC (w.setCell (O d o) v) B xs s j:=by
 have q:=h.mono;obtain⟨⟨cur,a,f⟩,l,b,c,e⟩:=h;refine⟨⟨cur,by rw[BS (by omega)];exact a,f⟩,l,b,by simpa using c,λi x r y=>?_⟩;have m:=q 0 i (by omega) (by omega);obtain⟨m,a,f,l,g,b,c,e,u,cur,t,p⟩:=e i x r y;have k:=λ(o':Nat)=>BV w (O d o) (O B o') v (by simp;omega);refine⟨(k _).trans m,(k _).trans a,(k _).trans f,l,g,(k _).trans b,c,e,u,cur,by rw[BS (by omega)];exact t,p.keep xbj (Keeps.of_setCell (λn=>?_) _) λ_ h=>h⟩;have:=n.1;simp at this;omega
theorem OwnSt.set {α:Type}{E:CT α}{sz:Nat}{t:TypeId}{w:qW}{B d:Nat}{xs:List α}{j:Nat}(h:OwnSt E sz t w B xs j)(G:Good E sz)(n:d<B)(o:Nat)(v:Value):OwnSt E sz t (w.setCell (O d o) v) B xs j:=by
 obtain⟨⟨cur,a,e⟩,m⟩:=h;refine⟨⟨cur,by rw[BS (by omega)];exact a,e⟩,λi x f l=>G.move (m i x f l) (λb h=>by simpa using h) (Keeps.of_setCell (λc=>?_) _) λk _ u g=>?_⟩
 ·have:=c.1;simp at this;omega
 rw[BV _ _ _ _ (by simp;omega)];exact g
theorem IsRow.blkCells {α:Type}{E:CT α}{sz bytes:Nat}{P:Nat->Prop}{w:qW}{g n cap:Nat}{xs:List α}(h:IsRow E sz bytes P w (qG g n cap) xs)(G:Good E sz){t:TypeId}{fr:Nat × Nat}{cur:Array Value}(f:w.heap[g]?=some (.cells cur t fr))(c:cur.size=xs.length*sz):Cells E sz P w cur.toList xs:=by
 obtain⟨ad,cap',e,-,-,-,a⟩:=h;simp only[Value.slice.injEq] at e;obtain⟨rfl,-,rfl⟩:=e;refine⟨by simpa using c,λi x d=>?_⟩;obtain⟨b,o,e,-,j⟩:=a i x d
 cases e;exact G.move j (λ_ h=>h) (.refl _ _) λk _ v hv=>by rw[Bn f,Nat.zero_add] at hv;simpa using hv
def Dg (n:Nat)(c:Int):Bool:=decide (0<=c/\c<n)
theorem Lw (n:Nat)(c:Int)(ad:Option Addr)(cap:Nat)(ah:Option Addr)(nh ch:Nat)(ep:Int)(w:qW):Calls Tryz.prog 102 #[WV (qS ad n cap) (qS ah nh ch) ep,J c] w λe w'=>e=.returned (.bool (Dg n c))/\Below w.heap.size w w':=by
 by_cases h0:0<=c
 ·go_enter Tryz.func102,Tryz.ntmps102;go_wp2;go_ret;exact⟨Cq (by simp[Dg,h0]),Bg _ _⟩
 have a:c<0:=by omega
 have b:decide (0<=c)=false:=by simpa using h0
 go_enter Tryz.func102,Tryz.ntmps102;go_wp2;go_ret;exact⟨Cq (by simp[Dg];omega),Bg _ _⟩
def CB {α:Type}(p:α->Bool)(xs:List α):Int:=((xs.findIdx? p).map Int.ofNat).getD (-1)
theorem Kq {α:Type}{p:α->Bool}{xs:List α}{j:Nat}{x:α}(a:xs[j]?=some x)(d:p x=true)(h:∀i y,i<j->xs[i]?=some y->p y=false):CB p xs=(j:Int):=by
 have:xs.findIdx? p=some j:=by
  rw[List.findIdx?_eq_some_iff_getElem];have b:=Bz a;refine⟨b,?_,λi c=>?_⟩
  ·rw[List.getElem?_eq_getElem b] at a;cases a;exact d
  have:=h i xs[i] c (by simp);simp[this]
 simp[CB,this]
theorem Lq {α:Type}{p:α->Bool}{xs:List α}(h:∀(i:Nat) y,xs[i]?=some y->p y=false):CB p xs=-1:=by
 have:xs.findIdx? p=none:=by
  rw[List.findIdx?_eq_none_iff];intro y a;obtain⟨i,b,rfl⟩:=List.mem_iff_getElem.1 a;exact h i _ (by simp)
 simp[CB,this]
def CD (a b:ByteArray):Bool:=a.toList == b.toList
def GK (a b:ByteArray):Bool:=!Op.bytesLess a.toList b.toList && !a.toList == b.toList
abbrev CV (x:QC)(mv:Value):Value:=.agg #[qZ x.name,J x.super,J x.slots,mv]
theorem xkW {P:Nat->Prop}(cap':Value)(p:QM->Bool)(xs:List QM)(v:Value)(w:qW)(R:EC P w v xs)
  (M:∀(x:QM) (a:Option Addr) (n c:Nat) (w':qW),Below w.heap.size w w'->Calls Tryz.prog 135 #[MV x (qS a n c),cap'] w' λe w''=>e=.returned (.bool (p x))/\Below w'.heap.size w' w'') :
  Calls Tryz.prog 134 #[v,.func (.func 135) #[] #[cap']] w λe w'=>e=.returned (J (CB p xs))/\Below w.heap.size w w':=by
 obtain⟨ad,cap,rfl,S,z,C,f⟩:=R;go_enter Tryz.func134,Tryz.ntmps134;go_wp2
 go_loopg [8] xs.length (λg c wr=>∃j:Nat,j+g=xs.length/\c=J j/\Below w.heap.size w wr/\∀i y,i<j->xs[i]?=some y->p y=false)
 case atStart=>exact⟨0,by omega,rfl,Br _ _,λi y Q=>by omega⟩
 case round=>
  obtain⟨j,T,rfl,d,r⟩:=hrel;have G:Hid (∀i y,i<j->xs[i]?=some y->p y=false):=r;clear r;by_cases hlt:j<xs.length
  ·obtain⟨b,o,rfl,-,h,t,k,m,B,sv,s,q⟩:=f j xs[j] (by simp[hlt]);have F:Hid (xs[j]?=some xs[j]):=by show _=_;simp[hlt]
   generalize xs[j]=x at *;simp only[Nat.add_zero] at h;have u0:=Bf d h;have u1:=Bf d t;have u2:=Bf d k;have u3:=Bf d m;have u4:=Bf d s;obtain⟨u,l,rfl,-,-,-,-⟩:=id q;clear h t k m s q f;have L:(j:Int)<(xs.length:Int):=by omega
   have N:(0:Int)<=(j:Int):=by omega
   go_wp2_with fail;refine (M x u x.code.length l _ d).mono ?_;rintro e w1 ⟨rfl,K⟩;by_cases hp:p x=true
   ·go_wp2;go_ret;exact⟨BT (Kq F.out hp G.out).symm,Bh d K⟩
   have H:p x=false:=by simpa using hp
   clear hp;go_wp2;go_roundg (gk-1)
   case measure=>omega
   case rel=>
    refine⟨j+1,by omega,by go_num,Bh d K,λi y Q D=>?_⟩;by_cases hij:i=j
    ·subst hij;rw[F.out] at D;cases D;exact H
    exact G.out i y (by omega) D
  obtain rfl:j=xs.length:=by omega
  go_wp2;go_ret;exact⟨BT (Lq λi y D=>G.out i y (Bz D) D).symm,d⟩
theorem xfZ {P:Nat->Prop}(cap':Value)(p:QM->Bool)(xs:List QM)(v:Value)(w:qW)(R:EC P w v xs)
  (M:∀(x:QM) (a:Option Addr) (n c:Nat) (w':qW),Below w.heap.size w w'->Calls Tryz.prog 138 #[MV x (qS a n c),cap'] w' λe w''=>e=.returned (.bool (p x))/\Below w'.heap.size w' w'') :
  Calls Tryz.prog 134 #[v,.func (.func 138) #[] #[cap']] w λe w'=>e=.returned (J (CB p xs))/\Below w.heap.size w w':=by
 obtain⟨ad,cap,rfl,S,z,C,f⟩:=R;go_enter Tryz.func134,Tryz.ntmps134;go_wp2
 go_loopg [8] xs.length (λg c wr=>∃j:Nat,j+g=xs.length/\c=J j/\Below w.heap.size w wr/\∀i y,i<j->xs[i]?=some y->p y=false)
 case atStart=>exact⟨0,by omega,rfl,Br _ _,λi y Q=>by omega⟩
 case round=>
  obtain⟨j,T,rfl,d,r⟩:=hrel;have G:Hid (∀i y,i<j->xs[i]?=some y->p y=false):=r;clear r;by_cases hlt:j<xs.length
  ·obtain⟨b,o,rfl,-,h,t,k,m,B,sv,s,q⟩:=f j xs[j] (by simp[hlt]);have F:Hid (xs[j]?=some xs[j]):=by show _=_;simp[hlt]
   generalize xs[j]=x at *;simp only[Nat.add_zero] at h;have u0:=Bf d h;have u1:=Bf d t;have u2:=Bf d k;have u3:=Bf d m;have u4:=Bf d s;obtain⟨u,l,rfl,-,-,-,-⟩:=id q;clear h t k m s q f;have L:(j:Int)<(xs.length:Int):=by omega
   have N:(0:Int)<=(j:Int):=by omega
   go_wp2_with fail;refine (M x u x.code.length l _ d).mono ?_;rintro e w1 ⟨rfl,K⟩;by_cases hp:p x=true
   ·go_wp2;go_ret;exact⟨BT (Kq F.out hp G.out).symm,Bh d K⟩
   have H:p x=false:=by simpa using hp
   clear hp;go_wp2;go_roundg (gk-1)
   case measure=>omega
   case rel=>
    refine⟨j+1,by omega,by go_num,Bh d K,λi y Q D=>?_⟩;by_cases hij:i=j
    ·subst hij;rw[F.out] at D;cases D;exact H
    exact G.out i y (by omega) D
  obtain rfl:j=xs.length:=by omega
  go_wp2;go_ret;exact⟨BT (Lq λi y D=>G.out i y (Bz D) D).symm,d⟩
theorem xkc {P:Nat->Prop}(cap':Value)(p:QC->Bool)(xs:List QC)(v:Value)(w:qW)(Q:BK P w v xs)
  (L:∀(x:QC) (a:Option Addr) (n c:Nat) (w':qW),Below w.heap.size w w'->Calls Tryz.prog 125 #[CV x (qS a n c),cap'] w' λe w''=>e=.returned (.bool (p x))/\Below w'.heap.size w' w'') :
  Calls Tryz.prog 184 #[v,.func (.func 125) #[] #[cap']] w λe w'=>e=.returned (J (CB p xs))/\Below w.heap.size w w':=by
 obtain⟨ad,cap,rfl,R,u,B,f⟩:=Q;go_enter Tryz.func184,Tryz.ntmps184;go_wp2
 go_loopg [8] xs.length (λg c wr=>∃j:Nat,j+g=xs.length/\c=J j/\Below w.heap.size w wr/\∀i y,i<j->xs[i]?=some y->p y=false)
 case atStart=>exact⟨0,by omega,rfl,Br _ _,λi y N=>by omega⟩
 case round=>
  obtain⟨j,S,rfl,d,q⟩:=hrel;have F:Hid (∀i y,i<j->xs[i]?=some y->p y=false):=q;clear q;by_cases hlt:j<xs.length
  ·obtain⟨b,o,rfl,-,h,s,k,z,sv,r,m⟩:=f j xs[j] (by simp[hlt]);have D:Hid (xs[j]?=some xs[j]):=by show _=_;simp[hlt]
   generalize xs[j]=x at *;simp only[Nat.add_zero] at h;have u0:=Bf d h;have u1:=Bf d s;have u2:=Bf d k;have u4:=Bf d r;obtain⟨t,l,rfl,-,-,-,-⟩:=id m;clear h s k r m f;have K:(j:Int)<(xs.length:Int):=by omega
   have M:(0:Int)<=(j:Int):=by omega
   go_wp2_with fail;refine (L x t x.mz.length l _ d).mono ?_;rintro e w1 ⟨rfl,H⟩;by_cases hp:p x=true
   ·go_wp2;go_ret;exact⟨BT (Kq D.out hp F.out).symm,Bh d H⟩
   have G:p x=false:=by simpa using hp
   clear hp;go_wp2;go_roundg (gk-1)
   case measure=>omega
   case rel=>
    refine⟨j+1,by omega,by go_num,Bh d H,λi y N C=>?_⟩;by_cases hij:i=j
    ·subst hij;rw[D.out] at C;cases C;exact G
    exact F.out i y (by omega) C
  obtain rfl:j=xs.length:=by omega
  go_wp2;go_ret;exact⟨BT (Lq λi y C=>F.out i y (Bz C) C).symm,d⟩
theorem xm0 (x:QM)(a:Option Addr)(n c b:Nat)(name:ByteArray)(w:qW)(d:w.cell? (O b 0)=some (qZ name)):Calls Tryz.prog 135 #[MV x (qS a n c),qP b] w λe w'=>e=.returned (.bool (CD x.name name))/\Below w.heap.size w w':=by
 have k:=λy=>Bf (Bg w y) d;go_enter Tryz.func135,Tryz.ntmps135;go_wp2;go_ret;exact⟨Cq rfl,Bg _ _⟩
theorem xhv (x:QM)(a:Option Addr)(n c b:Nat)(name:ByteArray)(w:qW)(d:w.cell? (O b 0)=some (qZ name)):Calls Tryz.prog 138 #[MV x (qS a n c),qP b] w λe w'=>e=.returned (.bool (GK x.name name))/\Below w.heap.size w w':=by
 have k:=λy=>Bf (Bg w y) d;go_enter Tryz.func138,Tryz.ntmps138;go_wp2;go_ret;exact⟨Cq rfl,Bg _ _⟩
theorem xjB (x:QC)(a:Option Addr)(n c b:Nat)(name:ByteArray)(w:qW)(d:w.cell? (O b 0)=some (qZ name)):Calls Tryz.prog 125 #[CV x (qS a n c),qP b] w λe w'=>e=.returned (.bool (CD x.name name))/\Below w.heap.size w w':=by
 have k:=λy=>Bf (Bg w y) d;go_enter Tryz.func125,Tryz.ntmps125;go_wp2;go_ret;exact⟨Cq rfl,Bg _ _⟩
theorem Gm (fn:Fn)(first cap:Array Value)(w:qW):(Instr.makeFunc fn first cap).run Tryz.prog w=.ok (.func fn first cap) w:=rfl
def CZ (xs:List QM)(name:ByteArray):Int:=CB (λm=>CD m.name name) xs
theorem xc6 {P:Nat->Prop}(xs:List QM)(v:Value)(name:ByteArray)(w:qW)(d:EC P w v xs):Calls Tryz.prog 103 #[v,qZ name] w λe w'=>e=.returned (J (CZ xs name))/\Below w.heap.size w w':=by
 have f:=Gm;go_enter Tryz.func103,Tryz.ntmps103;go_wp2_with fail;refine (xkW _ (λm=>CD m.name name) xs v _ (d.later xbj (Bg _ _)) λx a n c w' b=>xm0 x a n c _ name w' (Bf b (by rw[Bp _ _ _ _ rfl];rfl))).mono ?_;rintro e w1 ⟨rfl,b⟩;go_wp2;go_ret;exact⟨rfl,EB (Br _ _) b⟩
def GB (xs:List QM)(name:ByteArray):Int:=if CB (λm=>GK m.name name) xs<0 then xs.length else CB (λm=>GK m.name name) xs
theorem xkk {P:Nat->Prop}(xs:List QM)(v:Value)(name:ByteArray)(w:qW)(g:EC P w v xs):Calls Tryz.prog 105 #[v,qZ name] w λe w'=>e=.returned (J (GB xs name))/\Below w.heap.size w w':=by
 have i:=Gm;obtain⟨ad,cap,rfl,j,b,d,-⟩:=id g;by_cases h:CB (λm=>GK m.name name) xs<0
 ·go_enter Tryz.func105,Tryz.ntmps105;go_wp2_with fail;refine (xfZ _ (λm=>GK m.name name) xs _ _ (g.later xbj (Bg _ _)) λx a n c w' f=>xhv x a n c _ name w' (Bf f (by rw[Bp _ _ _ _ rfl];rfl))).mono ?_;rintro e w1 ⟨rfl,f⟩;go_wp2;go_ret;exact⟨BT (by simp[GB,h]),EB (Br _ _) f⟩
 have h':(0:Int)<=CB (λm=>GK m.name name) xs:=by omega
 go_enter Tryz.func105,Tryz.ntmps105;go_wp2_with fail;refine (xfZ _ (λm=>GK m.name name) xs _ _ (g.later xbj (Bg _ _)) λx a n c w' f=>xhv x a n c _ name w' (Bf f (by rw[Bp _ _ _ _ rfl];rfl))).mono ?_;rintro e w1 ⟨rfl,f⟩;go_wp2;go_ret;exact⟨BT (by rw[GB,if_neg (by omega)]),EB (Br _ _) f⟩
theorem xiD {P:Nat->Prop}(xs:List QC)(v:Value)(b:Nat)(name:ByteArray)(w:qW)(g:w.cell? (O b 0)=some (qZ name))(f:BK P w v xs):Calls Tryz.prog 124 #[v,.func (.func 125) #[] #[qP b]] w λe w'=>e=.returned (.bool (decide (0<=CB (λm:QC=>CD m.name name) xs)))/\Below w.heap.size w w':=by
 go_enter Tryz.func124,Tryz.ntmps124;go_wp2_with fail;refine (xkc _ (λm=>CD m.name name) xs v _ f λx a n c w' d=>xjB x a n c _ name w' (Bf d g)).mono ?_;rintro e w1 ⟨rfl,d⟩;go_wp2;go_ret;exact⟨Cq (by simp),d⟩
end Go.Proofs.YtbafokihegegiaaGreatDoor
